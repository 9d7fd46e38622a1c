import PyProof.Rows.All
import Wide.All
import OpenK.AllK
import PySem.Challenge.RW_huedties_k24_too_few_hues
set_option Elab.async false
set_option linter.all false
set_option maxRecDepth 100000
open Option renaming some→aA,none→aB
open Bool renaming true→aC,false→aD
open PySem.W renaming Frag->Y2,mg_none_of->YQ
open Bool renaming and_eq_true->Y3,false_ne_true->YE,not_eq_true'->YS,or_eq_true->Yj,eq_iff_iff->Yp,false_eq_true->Z5,true_and->A06,true_or->A0c,or_true->A0d,or_false->A0W,eq_false_iff->A18,false_and->A1n,and_false->A1p,false_or->A1v
open List renaming length_map->Y4,length_append->Y5,getElem?_eq_getElem->Y6,mem_of_getElem?->Y7,getD_eq_getElem?_getD->Y9,getElem?_map->YA,size_toArray->YB,mem_cons_of_mem->YC,mem_cons->YH,range->YJ,mem_singleton->YK,mem_cons_self->YL,getElem?_append_left->YM,map_append->YN,mem_map->YO,replicate->YR,mem_append->YT,mem_range->YU,getElem?_set_self->YV,all_eq_true->YX,getElem?_concat_length->YY,length_set->YZ,length_cons->Ya,find?_cons->Yb,getElem?_eq_none->Yd,map_cons->Yf,prefix_refl->Yh,take_length->Yk,length_range->Yl,isEmpty_iff->Ym,take_succ->Yo,getElem?_set_ne->Yq,mem_append_right->Ys,length_singleton->Yt,filterMap_cons->Yu,replicate_succ->Yv,getElem?_range->Yx,nodup_cons->Yy,getElem?_append_right->Yz,mem_filter->Z1,append_nil->Z2,all_cons->Z6,length_take->Z7,getElem_mem->Z8,any_eq_true->Z9,flatten_cons->ZA,getD->ZC,range_succ->ZE,find?_eq_none->ZF,mem_append_left->ZG,getElem?_replicate->ZH,lookup_cons->ZI,mem_iff_getElem->ZJ,filter_cons->ZK,any_cons->ZL,ext_getElem?->ZN,findSome?_eq_none_iff->ZP,getElem?_of_mem->ZQ,getLast?_eq_some_getLast->ZR,length_nil->ZS,prefix_append->ZU,length_replicate->ZX,length_filter_le->ZY,findIdx?_eq_some_iff_getElem->ZZ,drop_eq_getElem_cons->Za,getLast?_eq_getElem?->Zb,of_mem_zip->Zc,reverse_cons->Zf,nodup_append->Zg,not_mem_nil->Zi,map_map->Zo,filter_append->Zp,findIdx?_eq_none_iff->Zr,mem_of_find?_eq_some->Zs,length_reverse->Zt,map_congr_left->Zv,pairwise_cons->Zy,append_assoc->A00,any_map->A01,countP_cons->A03,eq_nil_of_length_eq_zero->A07,countP_eq_length_filter->A08,dropLast_concat_getLast->A09,length_eraseIdx_of_lt->A0e,countP_append->A0h,count_eq_zero->A0i,getLastD_eq_getLast?->A0k,find?_append->A0n,pairwise_map->A0o,filter_congr->A0p,flatMap_cons->A0q,filterMap_cons_none->A0r,filterMap_cons_some->A0s,length_drop->A0t,cons_ne_nil->A0v,length_eq_zero_iff->A0w,nodup_range->A0x,mem_flatMap->A0y,take_of_length_le->A0A,all_map->A0C,find?_cons_of_pos->A0D,find?_cons_of_neg->A0E,range_succ_eq_map->A0F,head?_eq_none_iff->A0G,nil_append->A0H,countP_nil->A0I,dropLast_eq_take->A0J,getElem?_zipWith->A0K,take_append_drop->A0L,length->A0M,lookup->A0N,forall_mem_cons->A0S,findSome?_cons->A0T,filter_eq_self->A0U,flatMap_append->A0V,mem_filterMap->A0X,zip_cons_cons->A0Y,mem_mergeSort->A10,filter_filter->A11,any_eq_false->A13,getElem_drop->A14,getElem?_inj->A19,foldl_append->A1c,drop_length->A1h,countP->A1i,filter->A1j,head?_drop->A1k,find?_some->A1m,foldl->A1o,nodup_nil->A1q,tail_drop->A1t,map_nil->A1x,map_set->A1B
open PySem.Heap renaming get?_push_of_some->Y8,lt_size->YD,get?_push_size->YI,get?_update_self->Yc,SameBut->Ye,get?_update_other->Yi,size_push->Yr,ExtBut->A0O,update->A0Q,size_update->A1f
open Nat renaming le_refl->YF,ne_of_lt->YG,lt_of_lt_of_le->YW,le_trans->Yg,lt_succ_of_lt->Z0,zero_le->Z3,lt_irrefl->ZD,lt_succ_self->ZT,mul_le_mul->ZW,le_of_lt->Ze,succ_mul->Zk,lt_of_le_of_lt->Zl,pos_of_ne_zero->Zn,not_lt_zero->Zx,le_succ->Zz,lt_of_succ_lt_succ->A02,not_lt_of_gt->A04,add_le_add_left->A0a,lt_or_ge->A0b,lt_trichotomy->A0l,lt_of_succ_lt->A0m,le_add_right->A0u,succ_le_succ->A0z,ne_of_gt->A12,zero_add->A16,lt_of_succ_le->A17,le_succ_of_le->A1a,le_of_not_lt->A1d,succ_ne_self->A1g,le_antisymm->A1l,mod_lt->A1s,le_of_eq->A1y,lt_trans->A1z,succ_pos->A1C
open Int renaming natCast_inj->Yn,toNat_natCast->ZM,emod_lt_of_pos->ZV,zero_add->Zh,eq_ofNat_of_zero_le->Zj,emod_nonneg->Zq,toNat_of_nonneg->Zu,natCast_nonneg->A0g,le_refl->A0R,emod_eq_of_lt->A1b,le_trans->A1A
open Array renaming length_toList->Yw,getElem?_toList->Z4,getElem?_eq_some_iff->A0f,getElem?_eq_none->A0B,getElem_toList->A0P,toList_push->A15,getD->A1r,toList->A1w
open Option renaming map_eq_none_iff->ZO,map_some->Zd,map_eq_some_iff->Zm,isSome_iff_exists->Zw,bind_some->A05,isNone_iff_eq_none->A0j,isSome_some->A0Z,getD_some->A1e,none_or->A1u
open PySem renaming wpAny_bind->A1D,Value->A1E,Shared->A1F,Addr->A1G,wpAny_pure->A1H,mainGlobals->A1I,wpAny->A1J,model->A1K,Program->A1L,sizeLine->A1M,World->A1N,starEach->A1O,bootBuiltins->A1P,Around->A1Q,Scope->A1R,wpAny_newObj_type->A1S,compareOp->A1T,codeAny_builtin->A1U,wpAny_truthy_bool->A1V,wpAny_holding->A1W,plainId_quiet->A1X,wpAny_call_entry->A1Y,wpAny_callSpecial?_slot->A20,swappedStores->A21,sysModules->A22,wpAny_mono->A23,wpAny_seqItems->A24,wpAny_setField->A25,wpAny_tryCatch->A26,SetTable->A27,wpAny_Call_Name_kw->A28,ExceptHandler->A29,NameKind->A2a,wpAny_typeNameOfWhole_valiter->A2b,cellsFrom->A2c,wpAny_pyIter_list->A2d,assignEach->A2e,wpAny_updateSeq->A2f,FuncData->A2g,wpAny_passesOwn->A2h,codeAny_mono->A2i,wpAny_setState_of->A2j,wpAny_typeNameOf_valiter->A2k,swapsWith->A2l,richCompare->A2m,wpAny_letGo->A2n,wpAny_pyIter_tuple->A2o,wpAny_execs_nil->A2p,Operator->A2q,DictEntry->A2r,scanBound->A2s,wpAny_loadPart_at->A2t,wpAny_rule->A2u,keywordEach->A2v,firstArgMember->A2w,codeAny_call_builtin->A2x,swapsWithSole->A2y,binaryOp->A2z,letOwnedTupleGo->A2A,call_meets->A2B,tupleKind_room_in1->A2C,wpAny_pyIter_enum->A2D,wpAny_dictEntries->A2F,wpAny_isOneOf_valiter->A2G,seqItems?->A2H,wpAny_standAt->A2I,attributeBase->A2J,wpAny_attempt->A2K,wpAny_of_eq->A2L,excClassObj->A2M,unbindBehindTheSuite->A2N,wpAny_setEntries_of->A2O,call_meetsIn->A2P,tupleKind->A2Q,builtinsNs->A2R,recursionLimit->A2T,backToKw->A2U,wpAny_letOwnedTupleGo_enum->A2V,wpAny_fieldsOf->A2Y,foldedSetIterable->A2Z,wpAny_field->A30,wpAny_Call_method->A31,fits_of_scanBound->A32,wpAny_pyIter_slot->A33,Comprehension->A34,GenState->A35,wpAny_Call_method0_late->A36,compEnvC->A37,wpAny_pyNext_enum_itemD->A38,checkBuiltinCall->A39,wpAny_askSetting->A3a,pickOrder->A3b,setField->A3c,wpAny_isInstance->A3d,updateSeq->A3e,typeIs_int->A3g,wpAny_pyNext_enum_endD->A3h,pushCells_keeps->A3i,codeAny_of_tree->A3j,wpAny_ite_split->A3k,wpAny_dictEpoch->A3l,weight_type_call_type->A3m,builtinLookup_eq_fast->A3n,wpAny_setFlight_noneW->A3o,wpAny_notOrdered_dict->A3p,bindName->A3q,wpAny_bindName->A3r,subscripted->A3s,newFunctionEnv->A3t,relayAll->A3u,wpAny_runValue->A3v,dictSetDefault->A3w,wpAny_isSubtype_exc->A3x,assignInOrder->A3y,behindInMarks->A3z,wpAny_handled->A3A,comprehension->A3B,isInstance->A3C,wpAny_assign_Name->A3D,seqIndex_neg->A3F,wpAny_storeSet_of->A3G,wpAny_execs_cons->A3H,pushCells->A3I,wpAny_Dict_empty->A3J,check_set_init_1->A3K,wpAny_Try_except->A3L,sizeLine_eq->A3M,seqIndex_of->A3N,wpAny_throw->A3O,unsupported->A3P,wpAny_specialOf->A3Q,typeLookup_type->A3R,entryOfKey->A3S,wpAny_Name->A3T,wpAny_call->A3U,typeLookup->A3V,fitsIndex_both->A3W,raiseNew->A3X,intKind_is->A3Y,isSubtype_type->A3Z,entryFor_alias->A40,isSubtype_stop->A41,constantsAlone->A43,PassesOwn->A44,lastMarks->A45,drawOrder->A46
open PyProof.Rows renaming firstMet->A2E,assignInOrder_cons->A2S,step_dedup->A2W,firstMet_length_le->A2X,subscriptTail_builtinR->A3f,assignInOrder_nil->A3E,SortKind->A42
abbrev EE:=List (Nat×Nat)
def gM{α:Type}{l:List α}{i:Nat}{a:α}(h:l[i]?=aA a):∃h:i<l.length,l[i]=a:=List.getElem?_eq_some_iff.mp h
def oj{α:Type}{a b:α}(h:aA a=aA b):a=b:=Option.some.inj h
def dQ{p:Prop}[Decidable p]:(decide p=aC)=p:=decide_eq_true_eq
def iG{c:Prop}{h:Decidable c}(k:¬c){α:Sort u}{t e:α}:ite c t e=e:=if_neg k
def iP{c:Prop}{h:Decidable c}(k:c){α:Sort u}{t e:α}:ite c t e=t:=if_pos k
def bQ{α:Type u}[BEq α][LawfulBEq α]{a b:α}:a==b↔a=b:=beq_iff_eq
namespace L2
open PySem PySem.Spec PyProof.Rows
abbrev Key:=Sum Int Str
noncomputable def Et:Key->A1E->Bool
 | .inl k,v=>Value.isInt k v
 | .inr x,v=>Value.isStrOf x v
def XX(w:A1N):Key->Int
 | .inl k=>hashInt k
 | .inr x=>hashStr w x
def u9:∀{k:Key} {v:A1E},Et k v=aC->(∃ i t,k=Sum.inl i/\v=Value.int i t)\/(∃ x t,k=Sum.inr x/\v=Value.str x t)
 | .inl i,v,h=>by
   obtain⟨t,e⟩:=Value.isInt_shape (k:=i) (v:=v) h;exact .inl ⟨i,t,rfl,e⟩
 | .inr x,v,h=>by
   obtain⟨t,e⟩:=Value.isStrOf_shape (x:=x) (v:=v) h;exact .inr ⟨x,t,rfl,e⟩
def LF(i:Int)(t:Tok):Et (.inl i) (.int i t)=aC:=by simp[Et,Value.isInt]
def LG(x:Str)(t:Tok):Et (.inr x) (.str x t)=aC:=by simp[Et,Value.isStrOf]
def Tc(a b:Int):decide ((Sum.inl a:Key)=Sum.inl b)=(a == b):=by
 by_cases e:a=b
 ·subst e;simp
 ·have h:¬ (Sum.inl a:Key)=Sum.inl b:=λq=>e (Sum.inl.inj q);rw[decide_eq_false h];exact(beq_eq_false_iff_ne.mpr e).symm
def Td(a b:Str):decide ((Sum.inr a:Key)=Sum.inr b)=decide (a=b):=by
 by_cases e:a=b
 ·subst e;simp
 ·have h:¬ (Sum.inr a:Key)=Sum.inr b:=λq=>e (Sum.inr.inj q);rw[decide_eq_false h,decide_eq_false e]
def Te(a:Int)(b:Str):decide ((Sum.inl a:Key)=Sum.inr b)=aD:=decide_eq_false (λq=>nomatch q)
def Tf(a:Str)(b:Int):decide ((Sum.inr a:Key)=Sum.inl b)=aD:=decide_eq_false (λq=>nomatch q)
noncomputable def t7(prog:A1L)(w:A1N):PySem.KeyKind prog w Key where
 is:=Et
 hash:=XX w
 inj:=λv a b g f=>by
  rcases u9 g with⟨i,t,rfl,rfl⟩ | ⟨x,t,rfl,rfl⟩
  ·rcases u9 f with⟨j,u,rfl,e⟩ | ⟨y,u,rfl,e⟩
   ·injection e with c _;rw[c]
   ·exact nomatch e
  ·rcases u9 f with⟨j,u,rfl,e⟩ | ⟨y,u,rfl,e⟩
   ·exact nomatch e
   ·injection e with c _;rw[c]
 byValue:=λk v h=>by
   rcases u9 h with⟨i,t,rfl,rfl⟩ | ⟨x,t,rfl,rfl⟩<;>rfl
 pyHash:=λd h=>by
  rcases u9 d with⟨i,t,rfl,rfl⟩ | ⟨x,t,rfl,rfl⟩
  ·exact wpAny_pyHash_int h
  ·exact wpAny_pyHash_str h
 eqBool:=λl d h=>by
  rcases u9 l with⟨i,t,rfl,rfl⟩ | ⟨x,t,rfl,rfl⟩
  ·rcases u9 d with⟨j,u,rfl,rfl⟩ | ⟨y,u,rfl,rfl⟩
   ·rw[Tc]at h;exact wpAny_eqBool_int h
   ·rw[Te]at h;exact SeqAt.EqAt.int_str i t y u _ _ _ _ h
  ·rcases u9 d with⟨j,u,rfl,rfl⟩ | ⟨y,u,rfl,rfl⟩
   ·rw[Tf]at h;exact SeqAt.EqAt.str_int x t j u _ _ _ _ h
   ·rw[Td]at h;exact wpAny_eqBool_str h
 «strs»:=λk x t v h=>by
  rcases u9 h with⟨i,u,rfl,e⟩ | ⟨y,u,rfl,e⟩
  ·exact nomatch e
  ·injection e with c _;subst c;cases v<;>rfl
def GV(prog:A1L)(w:A1N)(i:Int)(t:Tok):(t7 prog w).is (.inl i) (.int i t)=aC:=LF i t
def GW(prog:A1L)(w:A1N)(x:Str)(t:Tok):(t7 prog w).is (.inr x) (.str x t)=aC:=LG x t
inductive V where
 | non | bl (b:Bool) | int (i:Int) | str (x:Str) | byt (b:Array UInt8) | flt (b:UInt64) | ref (a:A1G) | ty (n:String)
 deriving DecidableEq
def RelV:V->A1E->Prop
 | .non,u=>u=Value.none
 | .bl b,u=>u=Value.bool b
 | .int i,u=>∃ t,u=Value.int i t
 | .str x,u=>∃ t,u=Value.str x t
 | .byt b,u=>∃ t,u=Value.bytes b t
 | .flt b,u=>∃ t,u=Value.float b t
 | .ref a,u=>u=Value.ref a
 | .ty n,u=>u=Value.type n
abbrev Vals:List V->List A1E->Prop:=Paired RelV
def Vals.length{xs:List V}{a:List A1E}(r:Vals xs a):xs.length=a.length:=Paired.length r
theorem Vals.get:∀{xs:List V} {a:List A1E} {i:Nat} {x:V},Vals xs a->xs[i]?=aA x->∃ u,a[i]?=aA u/\RelV x u
 | _,_,_,_,.nil,e=>by simp at e
 | _,_,0,_,.cons r _,e=>by simp at e;subst e;exact⟨_,rfl,r⟩
 | _,_,i+1,x,.cons _ t,e=>by
   obtain⟨u,b,c⟩:=Vals.get (i:=i) (x:=x) t (by simpa using e);exact⟨u,by simpa using b,c⟩
theorem Vals.set{x:V}{u:A1E}(r:RelV x u):∀{xs:List V} {a:List A1E} (i:Nat),Vals xs a->Vals (xs.set i x) (a.set i u)
 | _,_,_,.nil => .nil
 | _,_,0,.cons _ t => .cons r t
 | _,_,i+1,.cons q t => .cons q (Vals.set r i t)
theorem Vals.append:∀{xs a:List V} {b c:List A1E},Vals xs b->Vals a c->Vals (xs++a) (b++c)
 | _,_,_,_,.nil,s=>s
 | _,_,_,_,.cons r t,s => .cons r (Vals.append t s)
theorem Vals.take:∀{xs:List V} {a:List A1E} (n:Nat),Vals xs a->Vals (xs.take n) (a.take n)
 | _,_,0,_ => .nil
 | _,_,_+1,.nil => .nil
 | _,_,n+1,.cons r t => .cons r (Vals.take n t)
theorem Vals.drop:∀{xs:List V} {a:List A1E} (n:Nat),Vals xs a->Vals (xs.drop n) (a.drop n)
 | _,_,0,r=>r
 | _,_,_+1,.nil => .nil
 | _,_,n+1,.cons _ t=>Vals.drop n t
def RelO:Option V->Option A1E->Prop
 | some v,aA u=>RelV v u
 | none,aB=>True
 | _,_=>False
def KV{a:Type}:List (a×V)->List (a×A1E)->Prop:=Paired λ(p:a×V) (q:a×A1E)=>p.1=q.1/\RelV p.2 q.2
noncomputable def kV:Key->V
 | .inl i => .int i
 | .inr x => .str x
inductive HO where
 | lst (xs:List V)
 | tup (xs:List V)
 | dK (kvs:List (Key×V)) | dT (kvs:List (List Key×V))
 | set (S:Int->Bool) (n:Nat)
 | ins (C dx:A1G) (fs:List (Str×V))
 | own (x:A1G)
 | xd (fs:List (Str×V))
 | met (f x:A1G)
 | rng (lo hi:Int)
 | frz (o:Obj) (u:HO)
 | tbl (ps:Array A1E)
 | ext (φ:Heap->Prop)
abbrev Hp:=A1G->Option HO
noncomputable def upd(H:Hp)(a:A1G)(o:HO):Hp:=λb=>if b=a then aA o else H b
def n6{H:Hp}{a:A1G}{o:HO}:upd H a o a=aA o:=by unfold upd;rw[iP rfl]
def i9{H:Hp}{a b:A1G}{o:HO}(h:b≠a):upd H a o b=H b:=by unfold upd;rw[iG h]
def Mt{H:Hp}{a b:A1G}{o u:HO}(h:H a=aA o)(h':H b=aA u)(d:o≠u):a≠b:=by
 intro e;subst e;rw[h]at h';exact d (oj h')
def i8{H:Hp}{a b:A1G}{o:HO}(h:H a=aA o)(h':H b=aB):a≠b:=by
 intro e;subst e;rw[h]at h';cases h'
section
variable(P:A1L)(w:A1N)
noncomputable def ObjOk(H:Hp)(h:Heap)(a:A1G):HO->Prop
 | .lst xs=>xs.length<=A1M/\∃(b:List A1E) (n:Nat),Vals xs b/\h.get? a=aA {cls := .type "list",data := .seq b.toArray n}
 | .tup xs=>xs.length<=A1M/\∃ b:List A1E,Vals xs b/\IsTup h a b.toArray
 | .dK c=>c.length<=A1M/\(a == A22)=aD/\∃ vs,KV c vs/\h.DictOf (t7 P w) a vs
 | .dT c=>c.length<=A1M/\(a == A22)=aD/\∃ xs:List (List Key×A1G×A1E),
    Paired (λ(p:List Key×V) (q:List Key×A1G×A1E)=>p.1=q.1/\H q.2.1=aA (.tup (p.1.map kV))/\RelV p.2 q.2.2) c xs/\
    ∃ o es ep,h.get? a=aA o/\o.ExactDict/\o.data = .dict es ep/\es.toList=xs.map (A3S (A2Q (t7 P w)))/\(xs.map (·.1)).Nodup
 | .set S n=>h.SetOf (intKind P w) a S n
 | .ins C e fs=>H e=aA (.own a)/\fs.length<=1000/\e≠a/\h.get? a=aA (PySem.W.instObj C e)/\
    ∃ d,h.Ns1 e d/\(∀ f,RelO (fs.lookup f) (d f))/\PySem.Within d (fs.map (·.1))
 | .own _=>∃ o,h.get? a=aA o
 | .xd fs=>∃ d,h.Ns1 a d/\∀ f,RelO (fs.lookup f) (d f)
 | .rng k l=>∃ t u v,h.get? a=aA {cls := .type "range",data := .fields #[.int k t,.int l u,.int 1 v]}
 | .frz o u=>h.get? a=aA o/\ObjOk H h a u
 | .tbl ps=>h.get? a=aA {cls := .none,data := .fields ps}
 | .met f x=>h.get? a=aA (PySem.W.methodObj (.ref f) (.ref x))
 | .ext g=>g h/\(∃ o,h.get? a=aA o)/\∀ i j:Heap,g i->(∀ o,i.get? a=aA o->j.get? a=aA o)->g j
noncomputable def HOk(H:Hp)(h:Heap):Prop:=∀ a o,H a=aA o->ObjOk P w H h a o
end
section
variable{P:A1L}{w:A1N}{H H':Hp}{h h':Heap}{a:A1G}{o:HO}
def ObjOk.lt(x:ObjOk P w H h a o):a<h.objs.size:=by
 cases o with
 | lst c=>obtain⟨_,_,_,_,e⟩:=x;exact YD e
 | tup c=>obtain⟨_,_,_,p⟩:=x;exact p.lt
 | dK b=>obtain⟨_,_,_,_,o,_,_,e,_⟩:=x;exact YD e
 | dT b=>obtain⟨_,_,_,_,o,_,_,e,_⟩:=x;exact YD e
 | set S n=>obtain⟨o,_,_,_,e,_⟩:=x;exact YD e
 | ins C g d=>obtain⟨_,_,_,e,_⟩:=x;exact YD e
 | own y=>obtain⟨_,e⟩:=x;exact YD e
 | xd d=>obtain⟨_,⟨_,_,_,e,_⟩,_⟩:=x;exact YD e
 | rng lo i=>obtain⟨_,_,_,e⟩:=x;exact YD e
 | frz ob u=>obtain⟨e,_⟩:=x;exact YD e
 | tbl j=>exact YD (show h.get? a=aA _ from x)
 | met f y=>exact YD (show h.get? a=aA _ from x)
 | ext k=>obtain⟨_,⟨_,e⟩,_⟩:=x;exact YD e
theorem Paired.mapP{α d:Type}{F G:α->d->Prop}:∀{c:List α} {l₂:List d},Paired F c l₂->(∀ a b,F a b->G a b)->Paired G c l₂
 | _,_,.nil,_ => .nil
 | _,_,.cons r t,f => .cons (f _ _ r) (Paired.mapP t f)
def ObjOk.stay(x:ObjOk P w H h a o)(k:∀ b u,(b=a\/H b=aA (.own a))->h.get? b=aA u->h'.get? b=aA u)
 (F:∀ b,H b=aA (.own a)->H' b=aA (.own a)) (G:∀ b m,H b=aA (.tup m)->H' b=aA (.tup m)):ObjOk P w H' h' a o:=by
 induction o with
 | lst m=>obtain⟨z,l,n,r,e⟩:=x;exact⟨z,l,n,r,k _ _ (.inl rfl) e⟩
 | tup m=>obtain⟨z,l,r,g,e,c⟩:=x;exact⟨z,l,r,g,k _ _ (.inl rfl) e,c⟩
 | dK s=>obtain⟨z,y,I,r,g,i,j,e,c⟩:=x;exact⟨z,y,I,r,g,i,j,k _ _ (.inl rfl) e,c⟩
 | dT s=>
   obtain⟨z,y,m,r,g,i,j,e,c⟩:=x;exact⟨z,y,m,Paired.mapP r λp q z=>⟨z.1,G _ _ z.2.1,z.2.2⟩,g,i,j,k _ _ (.inl rfl) e,c⟩
 | set S n=>obtain⟨g,i,j,t,e,c⟩:=x;exact⟨g,i,j,t,k _ _ (.inl rfl) e,c⟩
 | ins C N J=>
   obtain⟨d,z,K,e,A,⟨B,i,j,L,c⟩,r⟩:=x;exact⟨F _ d,z,K,k _ _ (.inl rfl) e,A,⟨B,i,j,k _ _ (.inr d) L,c⟩,r⟩
 | own y=>obtain⟨g,e⟩:=x;exact⟨g,k _ _ (.inl rfl) e⟩
 | xd J=>obtain⟨A,⟨B,i,j,e,c⟩,r⟩:=x;exact⟨A,⟨B,i,j,k _ _ (.inl rfl) e,c⟩,r⟩
 | rng lo O=>obtain⟨t,u,v,e⟩:=x;exact⟨t,u,v,k _ _ (.inl rfl) e⟩
 | frz g u M=>obtain⟨e,q⟩:=x;exact⟨k _ _ (.inl rfl) e,M q⟩
 | tbl D=>
   have e:h.get? a=aA {cls := .none,data := .fields D}:=x;show h'.get? a=aA {cls := .none,data := .fields D};exact k a _ (.inl rfl) e
 | met f y=>
   have e:h.get? a=aA (PySem.W.methodObj (.ref f) (.ref y)):=x;show h'.get? a=aA (PySem.W.methodObj (.ref f) (.ref y));exact k a _ (.inl rfl) e
 | ext Q=>obtain⟨p,⟨o,e⟩,E⟩:=x;exact⟨E _ _ p λo q=>k _ _ (.inl rfl) q,⟨o,k _ _ (.inl rfl) e⟩,E⟩
def HOk.lt(x:HOk P w H h)(e:H a=aA o):a<h.objs.size:=(x a o e).lt
def HOk.fresh(x:HOk P w H h)(e:h.objs.size<=a):H a=aB:=by
 cases q:H a with
 | none=>rfl
 | some u=>exact absurd (YW (x.lt q) e) (ZD _)
def HOk.kept(x:HOk P w H h)(k:∀ b u,h.get? b=aA u->h'.get? b=aA u):HOk P w H h':=λa o e=>
 (x a o e).stay (λb u _ q=>k b u q) (λ_ q=>q) λ_ _ q=>q
def HOk.laid(x:HOk P w H h)(k:∀ b u,h.get? b=aA u->h'.get? b=aA u)(i:h.objs.size<=a)(d:ObjOk P w (upd H a o) h' a o):HOk P w (upd H a o) h':=λb u e=>by
 have f:=x.fresh i;by_cases g:b=a
 ·subst g;rw[n6]at e;cases e;exact d
 ·rw[i9 g]at e;exact(x b u e).stay (λc v _ q=>k c v q) (λc q=>by rw[i9 (i8 q f)];exact q) λc j q=>by rw[i9 (i8 q f)];exact q
end
def Rd(H:Hp)(a:A1G)(u:HO):Prop:=H a=aA u\/∃ o,H a=aA (.frz o u)
def Rd.ok{P:A1L}{w:A1N}{H:Hp}{h:Heap}{a:A1G}{u:HO}(r:Rd H a u)(x:HOk P w H h):ObjOk P w H h a u:=by
 rcases r with r | ⟨o,r⟩
 ·exact x a u r
 ·obtain⟨_,q⟩:=x a _ r;exact q
def Mut:Option HO->Prop
 | some (.lst _)=>True
 | some (.dK _)=>True
 | some (.dT _)=>True
 | some (.set _ _)=>True
 | some (.ins _ _ _)=>True
 | some (.ext _)=>True
 | _=>False
section
variable{P:A1L}{w:A1N}{H:Hp}{h h':Heap}{x e:A1G}{o':HO}
def HOk.write(s:HOk P w H h)(g:Mut (H x))(o:e=x\/H e=aA (.own x))(k:∀ b u,b≠e->h.get? b=aA u->h'.get? b=aA u)(m:∃ u,h'.get? e=aA u)
 (n:ObjOk P w (upd H x o') h' x o'):HOk P w (upd H x o') h':=λb u q=>by
 have d:∀ c y,H c=aA (.own y)->c≠x:=λc y r z=>by subst z;rw[r]at g;exact g
 have f:∀ c i,H c=aA (.tup i)->c≠x:=λc i r z=>by subst z;rw[r]at g;exact g
 by_cases j:b=x
 ·subst j;rw[n6]at q;cases q;exact n
 ·rw[i9 j]at q;by_cases a:b=e
  ·have p:H b=aA (.own x):=by
    rcases o with z | z
    ·exact absurd (a.trans z) j
    ·rw[a];exact z
   rw[q]at p;cases p;obtain⟨v,t⟩:=m;exact⟨v,by rw[a];exact t⟩
  ·refine(s b u q).stay (λc v l r=>k c v ?_ r) (λc r=>by rw[i9 (d c b r)];exact r) λc i r=>by rw[i9 (f c i r)];exact r
   rcases l with rfl | l
   ·exact a
   ·rintro rfl;rcases o with z | z
    ·exact d c b l z
    ·rw[l]at z;cases z;exact j rfl
end
structure Un(fs ex:List A1G)(H H':Hp)(h h':Heap):Prop where
 keep:∀ b o,h.get? b=aA o->H b=aB->b∉fs->b∉ex->h'.get? b=aA o
 slot:∀ b o,h.get? b=aA o->H b=aB->b∈fs->b∉ex->∃ sl,h'.get? b=aA {o with slots:=sl}
 free:∀ b o,h.get? b=aA o->H b=aB->b∉ex->H' b=aB
 there:∀ b o,h.get? b=aA o->b∉ex->∃ o',h'.get? b=aA o'
 tups:∀ b xs,H b=aA (.tup xs)->H' b=aA (.tup xs)
 frzs:∀ b o u,H b=aA (.frz o (.lst u))->H' b=aA (.frz o (.lst u))
 tbls:∀ b ps,H b=aA (.tbl ps)->∃ more,H' b=aA (.tbl (ps++more))
section
variable{fs fs' ex ex':List A1G}{H H1 H2:Hp}{h h1 h2 h':Heap}{a x e:A1G}{o:HO}
def Un.any(u:Un fs ex H H1 h h1){b:A1G}{c:Obj}(q:h.get? b=aA c)(n:H b=aB)(d:b∉ex):∃ g,h1.get? b=aA {c with slots:=g}:=by
 by_cases f:b∈fs
 ·exact u.slot b c q n f d
 ·exact⟨c.slots,u.keep b c q n f d⟩
def Un.kept(k:∀ b u,h.get? b=aA u->h'.get? b=aA u):Un fs ex H H h h':=
 ⟨λb c q _ _ _=>k b c q,λb c q _ _ _=>⟨c.slots,k b c q⟩,λ_ _ _ n _=>n,λb c q _=>⟨c,k b c q⟩,λ_ _ q=>q,λ_ _ _ q=>q,λ_ d q=>⟨#[],by rw[q];simp⟩⟩
def Un.refl:Un fs ex H H h h:=Un.kept λ_ _ q=>q
def Un.laid(k:∀ b u,h.get? b=aA u->h'.get? b=aA u)(d:h.objs.size<=a)(c:H a=aB):Un fs ex H (upd H a o) h h' where
 keep:=λb u q _ _ _=>k b u q
 slot:=λb u q _ _ _=>⟨u.slots,k b u q⟩
 free:=λb u q n _=>by rw[i9 (YG (YW (YD q) d))];exact n
 there:=λb u q _=>⟨u,k b u q⟩
 tups:=λb f q=>by rw[i9 (i8 q c)];exact q
 frzs:=λb u f q=>by rw[i9 (i8 q c)];exact q
 tbls:=λb g q=>⟨#[],by rw[i9 (i8 q c),q];simp⟩
def Un.write(d:Mut (H x))(l:e=x\/H e=aA (.own x))(k:∀ b u,b≠e->h.get? b=aA u->h'.get? b=aA u)(f:∃ u,h'.get? e=aA u):Un fs ex H (upd H x o) h h':=by
 have i:∀ b,H b=aB->b≠x:=λb n z=>by subst z;rw[n]at d;exact d
 have j:∀ b,H b=aB->b≠e:=λb n z=>by
  subst z;rcases l with r | r
  ·exact i b n r
  ·rw[n]at r;cases r
 have g:∀ b u,H b=aA u->¬ Mut (aA u)->b≠x:=λb u q nm z=>by subst z;rw[q]at d;exact nm d
 refine⟨λb u q n _ _=>k b u (j b n) q,λb u q n _ _=>⟨u.slots,k b u (j b n) q⟩,λb u q n _=>by rw[i9 (i b n)];exact n,λb u q _=>?_,
  λb m q=>by rw[i9 (g b _ q λz=>z)];exact q,λb u m q=>by rw[i9 (g b _ q λz=>z)];exact q,λb p q=>⟨#[],by rw[i9 (g b _ q λz=>z),q];simp⟩⟩
 by_cases c:b=e
 ·subst c;exact f
 ·exact⟨u,k b u c q⟩
end
def trk(h:Heap)(H:Hp):List A1G:=(YJ h.objs.size).filter λa=>(H a).isSome
noncomputable def FW(h:Heap)(H:Hp):Heap:=PySem.W.hideAll h (trk h H)
def LH(h:Heap)(H:Hp):(FW h H).objs.size=h.objs.size:=PySem.W.hideAll_size _ _
def Mu{h:Heap}{H:Hp}{b:A1G}{o:Obj}(e:h.get? b=aA o)(n:H b=aB):(FW h H).get? b=aA o:=
 PySem.W.hideAll_get _ e λa=>by
  have q:(H b).isSome=aC:=(Z1.mp a).2;rw[n]at q;simp at q
def QG{h:Heap}{H:Hp}{b:A1G}{o:Obj}(e:(FW h H).get? b=aA o):h.get? b=aA o/\H b=aB:=by
 have a:h.get? b=aA o:=PySem.W.of_hideAll (trk h H) e;refine⟨a,?_⟩;cases q:H b with
 | none=>rfl
 | some x=>
   have c:b∈trk h H:=Z1.mpr ⟨YU.mpr (YD a),by simp[q]⟩;have z:(FW h H).get? b=aB:=PySem.W.hideAll_none (trk h H) c;rw[z]at e;cases e
def BmAt(b:Str->Option A1E)(h:Heap):Prop:=∃ bm a,b "__builtins__"=aA (.ref bm)/\bm≠A2R/\h.get? bm=aA a/\a.cls = .type "module"/\a.dict=aA A2R/\a.data = .plain
structure Mod(K:Y2)(mg:Str->Option A1E)(base:Heap):Prop where
 kin:K.In base
 glob:base.Ns A1I mg
 blt:∃ mb,base.Ns A2R mb/\∀ x:Str,x≠"__name__"->mb x=A1P x
 nolimit:base.NoLimit
 bm:BmAt mg base
structure Cx where
 prog:A1L
 w:A1N
 K:Y2
 mg:Str->Option A1E
 base:Heap
 A:A1Q
 N:List Str
 s₀:A1F
 H₀:Hp
 env:Env
 outer:List Env
 stack:List Env
 ex:List A1G
 fn:Str->Bool
 calm:Bool
 pn:List (A1G×Obj)
 xe:A1E->A1F->Prop
noncomputable def frs(l:List Env):List A1G:=l.filterMap (·.frame)
noncomputable abbrev Cx.fs(X:Cx):List A1G:=frs X.outer
def Vis(a:A1R)(x:Str):Prop:=a.names.lookup x=aA .local\/a.names.lookup x=aA .cell\/a.names.lookup x=aA .free
def Loc(a:A1R)(x:Str):Prop:=a.names.lookup x=aA .local\/a.names.lookup x=aA .cell
def Look(env:Env)(h:Heap)(m:Str->Option A1E)(x:Str)(u:A1E):Prop:=
 (env.kindOf x=aA .local/\m x=aA u)\/((env.kindOf x=aA .cell\/env.kindOf x=aA .free)/\∃ c,env.cells.lookup x=aA c/\h.IsCell c (aA u))
structure Cx.Ok(X:Cx):Prop where
 mod:Mod X.K X.mg X.base
 kind:X.env.scope.kind = .function
 glob:X.env.globals=A1I
 blt:X.env.builtins=A2R
 above:X.s₀.heap.objs.size<=X.env.locals
 inj:∀ x y c,X.env.cells.lookup x=aA c->X.env.cells.lookup y=aA c->x=y
 has:∀ x,(X.env.kindOf x=aA .cell\/X.env.kindOf x=aA .free)->∃ c,X.env.cells.lookup x=aA c
 cab:∀ x c,X.fn x=aC->X.env.cells.lookup x=aA c->X.s₀.heap.objs.size<=c
 hd:X.calm=aC->X.A.handled=aB
 frames:X.A.frames=aA X.stack
 stk:X.stack=X.outer\/(X.stack=X.env::X.outer/\X.env.frame=aA X.env.locals)
 exf:∀ b∈X.ex,b≠X.env.locals/\∀ x c,X.env.cells.lookup x=aA c->c≠b
 bs:∀ b o,X.base.get? b=aA o->X.s₀.heap.get? b=aA o/\X.H₀ b=aB
 bsz:X.base.objs.size<=X.s₀.heap.objs.size
 noex:∀ b o,X.base.get? b=aA o->b∉X.ex
 exfs:∀ b∈X.ex,b∉X.fs
 funs:X.s₀.heap.FunFrames X.base X.outer
 frf:∀ b∈X.fs,X.H₀ b=aB
structure Inv(X:Cx)(pq:List (A1G×Obj))(σ:List (Option V))(H:Hp)(s:A1F):Prop where
 ok:X.Ok
 os:s.os=X.s₀.os
 bare:AllBare s.gens
 base:Un X.fs X.ex X.H₀ H X.s₀.heap s.heap
 loc:∃ m,s.heap.Ns X.env.locals m/\∀(i:Nat) (x:Str) (v:V),X.N[i]?=aA x->σ[i]?=aA (aA v)->Vis X.env.scope x->∃ u,RelV v u/\Look X.env s.heap m x u
 cell:∀ x c,X.env.cells.lookup x=aA c->∃ v,s.heap.IsCell c v
 free:H X.env.locals=aB
 freeC:∀ x c,X.env.cells.lookup x=aA c->H c=aB
 pin:∀ p∈X.pn++pq,s.heap.get? p.1=aA p.2/\H p.1=aB/\p.1≠X.env.locals/\p.1∉X.fs/\∀ v,p.2.data ≠ .cell v
 hok:HOk X.prog X.w H s.heap
 len:σ.length=X.N.length
section
variable{X:Cx}{pq:List (A1G×Obj)}{σ:List (Option V)}{H H':Hp}{s:A1F}{h':Heap}
def Cx.Ok.nofr(a:X.Ok){b:A1G}{o:Obj}(e:X.base.get? b=aA o):b∉X.fs:=λc=>by
 have:=(a.funs.mem c).1;rw[e]at this;cases this
def Inv.bs(I:Inv X pq σ H s):∀ b o,X.base.get? b=aA o->s.heap.get? b=aA o/\H b=aB:=λb o e=>
 ⟨I.base.keep b o (I.ok.bs b o e).1 (I.ok.bs b o e).2 (I.ok.nofr e) (I.ok.noex b o e),I.base.free b o (I.ok.bs b o e).1 (I.ok.bs b o e).2 (I.ok.noex b o e)⟩
def Inv.bk(I:Inv X pq σ H s):∀ b o,X.base.get? b=aA o->s.heap.get? b=aA o:=λb o e=>(I.bs b o e).1
def Inv.mod(I:Inv X pq σ H s):Mod X.K X.mg X.base:=I.ok.mod
def Inv.kIn(I:Inv X pq σ H s):X.K.In s.heap:=I.ok.mod.kin.keeps I.bk
def Inv.nolimit(I:Inv X pq σ H s):s.heap.NoLimit:=I.ok.mod.nolimit.keeps I.bk
def Inv.fr(I:Inv X pq σ H s):∃ m,Fr X.base X.env.locals s.heap m:=
 let ⟨m,a,_⟩:=I.loc
 ⟨m,a,I.bk,Yg I.ok.bsz I.ok.above⟩
def Inv.lt(I:Inv X pq σ H s):X.env.locals<s.heap.objs.size:=let ⟨_,a,_⟩:=I.loc;a.lt
def Inv.sz(I:Inv X pq σ H s):X.s₀.heap.objs.size<=s.heap.objs.size:=Yg I.ok.above (Ze I.lt)
def Inv.nofs(I:Inv X pq σ H s){a:A1G}(h:s.heap.objs.size<=a):a∉X.fs:=λb=>by
 obtain⟨_,o,c,_⟩:=I.ok.funs.mem b;exact absurd (YW (YD c) (Yg I.sz h)) (ZD _)
def Inv.cne(I:Inv X pq σ H s):∀ x c,X.env.cells.lookup x=aA c->c≠X.env.locals:=λx c e z=>by
 obtain⟨v,o,d,f⟩:=I.cell x c e;obtain⟨m,⟨g,h,i,a,b,_⟩,_⟩:=I.loc;rw[z,a]at d;cases d;rw[b]at f;cases f
def Inv.funs(I:Inv X pq σ H s):s.heap.FunFrames X.base X.outer:=by
 have all:∀(l:List Env),(∀ b∈frs l,b∈X.fs)->X.s₀.heap.FunFrames X.base l->s.heap.FunFrames X.base l:=by
  intro l
  induction l with
  | nil=>intro _ _;trivial
  | cons env r g=>
    intro f h;obtain⟨i,⟨L,o,a,j,k,m⟩,n⟩:=h;have c:L∈X.fs:=f L (by unfold frs;rw[Yu,a];exact YL);obtain⟨p,e⟩:=I.base.slot L o k (I.ok.frf L c) c λz=>I.ok.exfs L z c;exact⟨i,⟨L,_,a,j,e,m⟩,g (λb d=>f b (by unfold frs;rw[Yu,a];exact YC _ d)) n⟩
 exact all X.outer (λ_ d=>d) I.ok.funs
def Inv.stack(I:Inv X pq σ H s):s.heap.FunFrames X.base X.stack:=by
 rcases I.ok.stk with e | ⟨e,hf⟩
 ·rw[e];exact I.funs
 ·rw[e];obtain⟨m,a,_⟩:=I.loc;refine .cons (by rw[I.ok.kind];decide) hf a ?_ I.funs;exact Heap.get?_none_of_le (Yg I.ok.bsz I.ok.above)
def Inv.stkSub(I:Inv X pq σ H s):∀ b∈frs X.stack,b∈X.env.locals::X.fs:=λb a=>by
 rcases I.ok.stk with e | ⟨e,hf⟩
 ·rw[e]at a;exact YC _ a
 ·rw[e]at a;unfold frs at a;rw[Yu,hf]at a;exact a
def Inv.stkFree(I:Inv X pq σ H s):∀ b∈frs X.stack,H b=aB:=λb a=>by
 rcases YH.mp (I.stkSub b a) with e | a
 ·rw[e];exact I.free
 ·obtain⟨_,o,c,_⟩:=I.ok.funs.mem a;exact I.base.free b o c (I.ok.frf b a) λz=>I.ok.exfs b z a
def Inv.step{g':Array A35}{t':Nat}{d':Drawn}{ch:List A1G}(I:Inv X pq σ H s)
 (g:∀ b∈ch,(b∈X.ex\/X.s₀.heap.objs.size<=b)/\b≠X.env.locals/\(∀ x c,X.env.cells.lookup x=aA c->c≠b)/\∀ p∈X.pn++pq,p.1≠b)
 (h:∀ b o,b≠X.env.locals->b∉X.fs->b∉ch->s.heap.get? b=aA o->H b=aB->h'.get? b=aA o)
 (B:∀ b o,b≠X.env.locals->b∈X.fs->b∉ch->s.heap.get? b=aA o->H b=aB->∃ Q,h'.get? b=aA {o with slots:=Q}) (f:∀ b o,b∉ch->s.heap.get? b=aA o->H b=aB->H' b=aB)
 (D:∀ b o,b∉ch->s.heap.get? b=aA o->∃ G,h'.get? b=aA G)
 (J:∀ b C,H b=aA (.tup C)->H' b=aA (.tup C)) (K:∀ b o u,H b=aA (.frz o (.lst u))->H' b=aA (.frz o (.lst u))) (L:∀ b P,H b=aA (.tbl P)->∃ M,H' b=aA (.tbl (P++M)))
 (ns:∀ m,s.heap.Ns X.env.locals m->h'.Ns X.env.locals m) (R:HOk X.prog X.w H' h') (Z:AllBare g'):
 Inv X pq σ H' {s with heap:=h',gens:=g',drawn:=d',toks:=t'}:=by
 have N:∀ b o,X.s₀.heap.get? b=aA o->b≠X.env.locals:=λb o e=>YG (YW (YD e) I.ok.above)
 have y:∀ b o,X.s₀.heap.get? b=aA o->b∉X.ex->b∉ch:=λb o e a E=>by
  rcases(g b E).1 with z | z
  ·exact a z
  ·exact absurd (YW (YD e) z) (ZD _)
 have j:∀ x c,X.env.cells.lookup x=aA c->∀ v,s.heap.IsCell c v->h'.IsCell c v:=λx c e v ⟨o,F,S⟩=>by
  have t:c∉ch:=λz=>(g c z).2.2.1 x c e rfl;by_cases U:c∈X.fs
  ·obtain⟨Q,q⟩:=B c o (I.cne x c e) U t F (I.freeC x c e);exact⟨_,q,S⟩
  ·exact⟨o,h c o (I.cne x c e) U t F (I.freeC x c e),S⟩
 refine⟨I.ok,I.os,Z,⟨λb o e n E a=>?_,λb o e n E a=>?_,λb o e n a=>?_,λb o e a=>?_,λb C e=>J b C (I.base.tups b C e),λb o C e=>K b o C (I.base.frzs b o C e),λb P e=>?_⟩,?_,λx c e=>?_,?_,λx c e=>?_,λp V=>?_,R,I.len⟩
 ·exact h b o (N b o e) E (y b o e a) (I.base.keep b o e n E a) (I.base.free b o e n a)
 ·obtain⟨Q,A⟩:=I.base.slot b o e n E a;obtain⟨T,O⟩:=B b _ (N b o e) E (y b o e a) A (I.base.free b o e n a);exact⟨T,O⟩
 ·obtain⟨G,A⟩:=I.base.there b o e a;exact f b G (y b o e a) A (I.base.free b o e n a)
 ·obtain⟨G,A⟩:=I.base.there b o e a;exact D b G (y b o e a) A
 ·obtain⟨m1,A⟩:=I.base.tbls b P e;obtain⟨m2,O⟩:=L b _ A;exact⟨m1++m2,by rw[O,Array.append_assoc]⟩
 ·obtain⟨m,hn,hl⟩:=I.loc;refine⟨m,ns m hn,λi x v A O e3=>?_⟩;obtain⟨u,r,l⟩:=hl i x v A O e3;refine⟨u,r,?_⟩;rcases l with l | ⟨k,c,e,z⟩
  ·exact .inl l
  ·exact .inr ⟨k,c,e,j x c e _ z⟩
 ·obtain⟨v,z⟩:=I.cell x c e;exact⟨v,j x c e v z⟩
 ·obtain⟨m,⟨o,_,_,F,_⟩,_⟩:=I.loc;exact f _ o (λz=>(g _ z).2.1 rfl) F I.free
 ·obtain⟨v,o,F,S⟩:=I.cell x c e;exact f c o (λz=>(g c z).2.2.1 x c e rfl) F (I.freeC x c e)
 ·obtain⟨e,n,W,Y,d⟩:=I.pin p V;have t:p.1∉ch:=λz=>(g p.1 z).2.2.2 p V rfl;exact⟨h p.1 p.2 W Y t e n,f p.1 p.2 t e n,W,Y,d⟩
def Inv.un{t':Nat}(I:Inv X pq σ H s)(u:Un X.fs [] H H' s.heap h')(c:HOk X.prog X.w H' h'):Inv X pq σ H' {s with heap:=h',toks:=t'}:=by
 obtain⟨m,⟨o,l,p,h,r⟩,_⟩:=id I.loc;obtain⟨q,i⟩:=u.any h I.free (by simp)
 exact I.step (g':=s.gens) (d':=s.drawn) (ch:=[]) (λ_ z=>nomatch z) (λb o _ d _ e n=>u.keep b o e n d (by simp)) (λb o _ d _ e n=>u.slot b o e n d (by simp)) (λb o _ e n=>u.free b o e n (by simp)) (λb o _ e=>u.there b o e (by simp)) u.tups u.frzs u.tbls (λt j=>by
  obtain⟨v,f,g,a,k⟩:=j;rw[h]at a;cases a;exact⟨_,f,g,i,k⟩) c I.bare
def Inv.call{g':Array A35}{t':Nat}{d':Drawn}{ch:List A1G}(I:Inv X pq σ H s)(u:Un (frs X.stack) ch H H' s.heap h')(g:HOk X.prog X.w H' h')(l:AllBare g')
 (d:∀ b∈ch,(b∈X.ex\/X.s₀.heap.objs.size<=b)/\b≠X.env.locals/\(∀ x c,X.env.cells.lookup x=aA c->c≠b)/\∀ p∈X.pn++pq,p.1≠b):
 Inv X pq σ H' {s with heap:=h',gens:=g',drawn:=d',toks:=t'}:=by
 obtain⟨m,⟨o,y,A,k,r⟩,_⟩:=id I.loc;obtain⟨B,h⟩:=u.any k I.free λz=>(d _ z).2.1 rfl
 exact I.step (ch:=ch) d (λb o h q a e n=>u.keep b o e n (λz=>(YH.mp (I.stkSub b z)).elim h q) a) (λb o _ _ a e n=>u.any e n a) (λb o a e n=>u.free b o e n a) (λb o a e=>u.there b o e a) u.tups u.frzs u.tbls (λC t=>by
  obtain⟨D,i,j,f,v⟩:=t;rw[k]at f;cases f;exact⟨_,i,j,h,v⟩) g l
def Inv.turned{t':Nat}{a:A1G}(I:Inv X pq σ H s)(k:∀ b o,b≠a->s.heap.get? b=aA o->h'.get? b=aA o)(h:H a=aB)(g:a≠X.env.locals)
 (i:a∈X.ex\/X.s₀.heap.objs.size<=a) (j:∀ x c,X.env.cells.lookup x=aA c->c≠a) (l:∀ p∈X.pn++pq,p.1≠a):Inv X pq σ H {s with heap:=h',toks:=t'}:=by
 have f:∀ b u,H b=aA u->b≠a:=λb u e z=>by rw[z,h]at e;cases e
 refine I.step (g':=s.gens) (d':=s.drawn) (ch:=[a]) (λb t=>?_) (λb o _ _ d e _=>k b o (λz=>d (by simp[z])) e) (λb o _ _ d e _=>⟨o.slots,k b o (λz=>d (by simp[z])) e⟩) (λ_ _ _ _ n=>n)
  (λb o d e=>⟨o,k b o (λz=>d (by simp[z])) e⟩) (λ_ _ e=>e) (λ_ _ _ e=>e) (λb C e=>⟨#[],by rw[e];simp⟩) (λm w=>?_) (λb u e=>?_) I.bare
 ·have e:b=a:=by simpa using t
  subst e;exact⟨i,g,j,l⟩
 ·obtain⟨o,y,A,B,r⟩:=w;exact⟨o,y,A,k _ o (Ne.symm g) B,r⟩
 ·refine(I.hok b u e).stay (λc v d q=>k c v ?_ q) (λ_ q=>q) λ_ _ q=>q;rcases d with z | z
  ·rw[z];exact f b u e
  ·exact f c _ z
def Inv.tok(I:Inv X pq σ H s)(t:Nat):Inv X pq σ H {s with toks:=t}:=I.un (h':=s.heap) (t':=t) Un.refl I.hok
def Inv.kept{t':Nat}(I:Inv X pq σ H s)(k:∀ b u,s.heap.get? b=aA u->h'.get? b=aA u):Inv X pq σ H {s with heap:=h',toks:=t'}:=I.un (Un.kept k) (I.hok.kept k)
def Inv.laid{a:A1G}{o:HO}{t':Nat}(I:Inv X pq σ H s)(k:∀ b u,s.heap.get? b=aA u->h'.get? b=aA u)(c:s.heap.objs.size<=a)(d:ObjOk X.prog X.w (upd H a o) h' a o):
 Inv X pq σ (upd H a o) {s with heap:=h',toks:=t'}:=I.un (Un.laid k c (I.hok.fresh c)) (I.hok.laid k c d)
def Inv.write{x e:A1G}{o:HO}{t':Nat}(I:Inv X pq σ H s)(d:Mut (H x))(f:e=x\/H e=aA (.own x))(k:∀ b u,b≠e->s.heap.get? b=aA u->h'.get? b=aA u)(a:∃ u,h'.get? e=aA u)
 (c:ObjOk X.prog X.w (upd H x o) h' x o):Inv X pq σ (upd H x o) {s with heap:=h',toks:=t'}:=I.un (Un.write d f k a) (I.hok.write d f k a c)
def Inv.weak{a:List (Option V)}(I:Inv X pq σ H s)(c:a.length=σ.length)(w:∀(i:Nat) v,a[i]?=aA (aA v)->σ[i]?=aA (aA v)):Inv X pq a H s:=
 ⟨I.ok,I.os,I.bare,I.base,let ⟨m,d,b⟩:=I.loc;⟨m,d,λi x v e f g=>b i x v e (w i v f) g⟩,I.cell,I.free,I.freeC,I.pin,I.hok,c.trans I.len⟩
def Inv.pins_of{a:List (A1G×Obj)}(I:Inv X pq σ H s)(h:∀ p∈a,s.heap.get? p.1=aA p.2/\H p.1=aB/\p.1≠X.env.locals/\p.1∉X.fs/\∀ v,p.2.data ≠ .cell v):Inv X a σ H s:=
 ⟨I.ok,I.os,I.bare,I.base,I.loc,I.cell,I.free,I.freeC,λp b=>(YT.mp b).elim (λz=>I.pin p (ZG _ z)) (h p),I.hok,I.len⟩
def Dm{N:List Str}(c:N.Nodup){i j:Nat}{x:Str}(a:N[i]?=aA x)(b:N[j]?=aA x):i=j:=by
 obtain⟨f,d⟩:=gM a;obtain⟨g,e⟩:=gM b;exact(List.getElem_inj c).mp (d.trans e.symm)
def Eu{M:Model}{A:A1Q}{E:A1E->A1F->Prop}{i:Nat}{x:Str}{v:V}{u:A1E}{Q:Unit->A1F->Prop}(I:Inv X pq σ H s)(hN:X.N.Nodup)(P:X.N[i]?=aA x)(B:Loc X.env.scope x)(r:RelV v u)
 (h:∀ s',Inv X pq (σ.set i (aA v)) H s'->(∃ a,Ye a s.heap s'.heap/\(a=X.env.locals\/X.env.cells.lookup x=aA a))->Q () s') (hf:X.fn x=aC\/X.env.scope.names.lookup x=aA .local):A1J M A (storeName X.env x u) Q E s:=by
 obtain⟨m,hn,hl⟩:=id I.loc;have R:(X.env.scope.kind == .class||(X.env.scope.kind == .module&&X.env.locals != X.env.globals))=aD:=by rw[I.ok.kind];rfl
 have F:i<σ.length:=by rw[I.len];exact(gM P).1
 have J:=I.cne
 have g:∀{a:A1G} {h':Heap},(∃ o,s.heap.get? a=aA o/\H a=aB)->Ye a s.heap h'->HOk X.prog X.w H h':=λ{a h'} ha f b ob e=>by
  obtain⟨_,_,C⟩:=ha;refine(I.hok b ob e).stay (λc Y t q=>(f.2 c ?_).trans q) (λ_ q=>q) λ_ _ q=>q;rintro rfl;rcases t with rfl | t
  ·rw[C]at e;cases e
  ·rw[C]at t;cases t
 rcases B with G | G
 ·refine wpAny_storeName_local G hn (λh' a0 f=>?_) R;obtain⟨oL,_,_,a1,_⟩:=id hn;refine h _ ⟨I.ok,I.os,I.bare,⟨λb o e n K B=>?_,λb o e n K B=>?_,I.base.free,λb o e B=>?_,I.base.tups,I.base.frzs,I.base.tbls⟩,⟨_,a0,λj y v' l D e3=>?_⟩,λy c e=>?_,I.free,I.freeC,λp hp=>?_,g ⟨oL,a1,I.free⟩ f,by simpa using I.len⟩ ⟨_,f,.inl rfl⟩
  ·exact(f.2 b (YG (YW (YD e) I.ok.above))).trans (I.base.keep b o e n K B)
  ·obtain⟨sl,l⟩:=I.base.slot b o e n K B;exact⟨sl,(f.2 b (YG (YW (YD e) I.ok.above))).trans l⟩
  ·obtain⟨o',l⟩:=I.base.there b o e B;exact⟨o',(f.2 b (YG (YW (YD e) I.ok.above))).trans l⟩
  ·by_cases L:j=i
   ·subst L;rw[P]at l;cases l;rw[YV F]at D;cases D;exact⟨u,r,.inl ⟨G,by simp⟩⟩
   ·rw[Yq (Ne.symm L)]at D;obtain⟨u',r',q⟩:=hl j y v' l D e3;refine⟨u',r',?_⟩;rcases q with⟨k,e⟩ | ⟨k,c,e,z⟩
    ·refine .inl ⟨k,?_⟩;have:y≠x:=λe=>L (Dm hN l (e▸P));simp[this,e]
    ·exact .inr ⟨k,c,e,z.sameBut f (J y c e)⟩
  ·obtain⟨Y,z⟩:=I.cell y c e;exact⟨Y,z.sameBut f (J y c e)⟩
  ·obtain⟨e,n,Z,nf,d⟩:=I.pin p hp;exact⟨(f.2 p.1 Z).trans e,n,Z,nf,d⟩
 ·have O:X.fn x=aC:=by
   rcases hf with z | z
   ·exact z
   ·rw[z]at G;cases G
  obtain⟨c,t⟩:=I.ok.has x (.inl G);obtain⟨Y,z⟩:=I.cell x c t;refine wpAny_storeName_cell I.ok.kind G t z (λh' S f=>?_);obtain⟨oc,T,U⟩:=id z;refine h {s with heap:=h'} ⟨I.ok,I.os,I.bare,⟨λb o e n K B=>?_,λb o e n K B=>?_,I.base.free,λb o e B=>?_,I.base.tups,I.base.frzs,I.base.tbls⟩,⟨m,hn.sameBut f (Ne.symm (J x c t)),λj y v' l D e3=>?_⟩,λy c' e=>?_,I.free,I.freeC,λp hp=>?_,g ⟨oc,T,I.freeC x c t⟩ f,by simpa using I.len⟩ ⟨c,f,.inr t⟩
  ·exact(f.2 b (YG (YW (YD e) (I.ok.cab x c O t)))).trans (I.base.keep b o e n K B)
  ·obtain⟨sl,l⟩:=I.base.slot b o e n K B;exact⟨sl,(f.2 b (YG (YW (YD e) (I.ok.cab x c O t)))).trans l⟩
  ·obtain⟨o',l⟩:=I.base.there b o e B;exact⟨o',(f.2 b (YG (YW (YD e) (I.ok.cab x c O t)))).trans l⟩
  ·by_cases L:j=i
   ·subst L;rw[P]at l;cases l;rw[YV F]at D;cases D;exact⟨u,r,.inr ⟨.inl G,c,t,S⟩⟩
   ·rw[Yq (Ne.symm L)]at D;obtain⟨u',r',q⟩:=hl j y v' l D e3;refine⟨u',r',?_⟩;rcases q with q | ⟨k,c',e,z'⟩
    ·exact .inl q
    ·refine .inr ⟨k,c',e,z'.sameBut f ?_⟩;rintro rfl;exact L (Dm hN l (I.ok.inj _ _ _ e t▸P))
  ·by_cases W:c'=c
   ·subst W;exact⟨_,S⟩
   ·obtain⟨w2,z2⟩:=I.cell y c' e;exact⟨w2,z2.sameBut f W⟩
  ·obtain⟨e,n,Z,nf,d⟩:=I.pin p hp;refine⟨(f.2 p.1 ?_).trans e,n,Z,nf,d⟩;intro q;rw[q,T]at e;have q':oc=p.2:=oj e;exact d Y (by rw[<-q'];exact U)
def BG{M:Model}{A:A1Q}{E:A1E->A1F->Prop}{i:Nat}{x:Str}{v:V}{u:A1E}{Q:Unit->A1F->Prop}(I:Inv X pq σ H s)(b:X.N.Nodup)(c:X.N[i]?=aA x)(d:Loc X.env.scope x)(r:RelV v u)
 (h:∀ a,Inv X pq (σ.set i (aA v)) H a->Q () a) (e:X.fn x=aC\/X.env.scope.names.lookup x=aA .local:=by first | exact .inl rfl | exact .inr rfl | assumption):A1J M A (storeName X.env x u) Q E s:=
 Eu I b c d r (λa f _=>h a f) e
def Inv.call'{a:A1F}{ch:List A1G}(I:Inv X pq σ H s)(g:a.os=s.os)(u:Un (frs X.stack) ch H H' s.heap a.heap)(d:HOk X.prog X.w H' a.heap)(h:AllBare a.gens)
 (f:∀ b∈ch,(b∈X.ex\/X.s₀.heap.objs.size<=b)/\b≠X.env.locals/\(∀ x c,X.env.cells.lookup x=aA c->c≠b)/\∀ p∈X.pn++pq,p.1≠b):Inv X pq σ H' a:=by
 obtain⟨h',g',d',t',i⟩:=a;have e:i=s.os:=g;subst e;exact I.call (g':=g') (t':=t') (d':=d') u d h f
end
abbrev XK:=A1E->Option A1G->Hp->Prop
abbrev St:=List (Option V)
abbrev VK:=V->Hp->Prop
abbrev TE:=St->Hp->VK->Prop
abbrev TT:=St->Hp->(Bool->Hp->Prop)->Prop
abbrev TA:=St->Hp->(List V->Hp->Prop)->Prop
structure Ends where
 nx:St->Hp->Prop
 rt:VK
 bk:St->Hp->Prop:=λ_ _=>False
 ct:St->Hp->Prop:=λ_ _=>False
abbrev TS:=Ends->St->Hp->Prop
def EP(X:Cx)(b:List (A1G×Obj))(c:St)(Q:VK)(u:A1E)(d:A1F):Prop:=∃ v a,Inv X b c a d/\RelV v u/\Q v a
def TP(X:Cx)(c:List (A1G×Obj))(d:St)(Q:Bool->Hp->Prop)(b:Bool)(e:A1F):Prop:=∃ a,Inv X c d a e/\Q b a
def AP(X:Cx)(b:List (A1G×Obj))(c:St)(Q:List V->Hp->Prop)(d:List A1E)(e:A1F):Prop:=∃ vs a,Inv X b c a e/\Vals vs d/\Q vs a
def SP(X:Cx)(c:List (A1G×Obj))(D:Ends)(f:Flow)(d:A1F):Prop:=
 match f with
 | .next=>∃ a b,Inv X c a b d/\D.nx a b
 | .brk=>∃ a b,Inv X c a b d/\D.bk a b
 | .cont=>∃ a b,Inv X c a b d/\D.ct a b
 | .ret u=>∃ v a b,Inv X c a b d/\RelV v u/\D.rt v b
noncomputable def PE(X:Cx)(e:Expr)(t:TE):Prop:=
 ∀(b:List (A1G×Obj)) (s:A1F) (a:St) (H:Hp) (Q:VK),Inv X b a H s->t a H Q->A1J (A1K X.prog X.w) X.A (eval e X.env) (EP X b a Q) X.xe s
noncomputable def PT(X:Cx)(e:Expr)(t:TT):Prop:=
 ∀(b:List (A1G×Obj)) (s:A1F) (a:St) (H:Hp) (Q:Bool->Hp->Prop),Inv X b a H s->t a H Q->A1J (A1K X.prog X.w) X.A (isTrue e X.env (eval e X.env)) (TP X b a Q) X.xe s
noncomputable def PW(X:Cx)(e:Expr)(t:TT):Prop:=
 ∀(a:Sem A1E) (c:List (A1G×Obj)) (s:A1F) (b:St) (H:Hp) (Q:Bool->Hp->Prop),Inv X c b H s->t b H Q->A1J (A1K X.prog X.w) X.A (isTrue e X.env a) (TP X c b Q) X.xe s
def PW.pt{X:Cx}{e:Expr}{t:TT}(h:PW X e t):PT X e t:=h _
noncomputable def PA(X:Cx)(es:List Expr)(t:TA):Prop:=
 ∀(pos:Pos) (b:List (A1G×Obj)) (s:A1F) (a:St) (H:Hp) (Q:List V->Hp->Prop),Inv X b a H s->t a H Q->A1J (A1K X.prog X.w) X.A (spliced (backTo pos (A1O es X.env))) (AP X b a Q) X.xe s
noncomputable def PS(X:Cx)(st:Stmt)(t:TS):Prop:=
 ∀(a:List (A1G×Obj)) (s:A1F) (b:St) (H:Hp) (D:Ends),Inv X a b H s->t D b H->A1J (A1K X.prog X.w) X.A (exec st X.env) (SP X a D) X.xe s
noncomputable def PSs(X:Cx)(st:List Stmt)(t:TS):Prop:=
 ∀(a:List (A1G×Obj)) (s:A1F) (b:St) (H:Hp) (D:Ends),Inv X a b H s->t D b H->A1J (A1K X.prog X.w) X.A (execs st X.env) (SP X a D) X.xe s
def thn{α:Type}{t:Sem α}{Q Q':α->A1F->Prop}{M:Model}{A:A1Q}{E:A1E->A1F->Prop}{s:A1F}(h:A1J M A t Q E s)(b:∀ a s,Q a s->Q' a s):A1J M A t Q' E s:=A23 h b λ_ _ x=>x
section
variable{X:Cx}
def Mv(i:Nat):TE:=λa H Q=>∃ v,a[i]?=aA (aA v)/\Q v H
def tC(v:V):TE:=λ_ H Q=>Q v H
def Mw{i:Nat}{x:Str}{pos:Pos}(k:X.N[i]?=aA x)(n:Vis X.env.scope x)(f:(x == ("__debug__":Str))=aD)(g:(x == ("__classdict__":Str))=aD):PE X (.Name x pos) (Mv i):=by
 intro o s p H Q I h;obtain⟨v,e,h⟩:=h;obtain⟨m,q,t⟩:=I.loc;obtain⟨u,r,l⟩:=t i x v k e n;have b:EP X o p Q u s:=⟨v,H,I,r,h⟩
 rcases l with⟨d,w⟩ | ⟨d,c,j,a⟩
 ·exact A3T (wpAny_loadName_local I.ok.kind d q w b) f
 ·rcases d with d | d
  ·exact A3T (wpAny_loadName_cell I.ok.kind d j a b) f
  ·exact A3T (wpAny_loadName_free I.ok.kind d j a b g) f
def Th{i j pos}:PE X (.Constant (.int i) j pos) (tC (.int i)):=λ_ _ _ H _ I h=>wpAny_Constant_int ⟨.int i,H,I.tok _,⟨_,rfl⟩,h⟩
def Vh{b j pos}:PE X (.Constant (.bool b) j pos) (tC (.bl b)):=λ_ _ _ H _ I h=>Constant_bool ⟨.bl b,H,I,rfl,h⟩
def Ti{j pos}:PE X (.Constant .none j pos) (tC .non):=λ_ _ _ H _ I h=>Constant_none ⟨.non,H,I,rfl,h⟩
def Tj{x j pos}:PE X (.Constant (.str x) j pos) (tC (.str x)):=λ_ _ _ H _ I h=>Calls.Constant_str ⟨.str x,H,I.tok _,⟨_,rfl⟩,h⟩
def Gl(X:Cx)(x:Str):Prop:=X.env.kindOf x=aA .globalImplicit
def DT{E:A1E->A1F->Prop}{a:List (A1G×Obj)}{s:A1F}{b:St}{H:Hp}{x:Str}{u:A1E}{pos:Pos}{Q:A1E->A1F->Prop}(I:Inv X a b H s)(c:Gl X x)(d:X.mg x=aA u)(h:Q u s)
 (e:(x == ("__debug__":Str))=aD:=by decide):A1J (A1K X.prog X.w) X.A (eval (.Name x pos) X.env) Q E s:=
 Calls.Name_function_global I.ok.kind c (Calls.loadGlobal_global (by rw[I.ok.glob];exact I.mod.glob.keeps I.bk) d h) e
def B7{E:A1E->A1F->Prop}{a:List (A1G×Obj)}{s:A1F}{b:St}{H:Hp}{x:Str}{u:A1E}{pos:Pos}{Q:A1E->A1F->Prop}(I:Inv X a b H s)(c:Gl X x)(d:X.mg x=aB)(e:A1P x=aA u)(h:Q u s)
 (f:x≠"__name__":=by decide) (g:(x == ("__debug__":Str))=aD:=by decide):A1J (A1K X.prog X.w) X.A (eval (.Name x pos) X.env) Q E s:=by
 obtain⟨k,i,j⟩:=I.mod.blt;exact Calls.Name_function_global I.ok.kind c (Calls.loadGlobal_builtin (by rw[I.ok.glob];exact I.mod.glob.keeps I.bk) d (by rw[I.ok.blt];exact i.keeps I.bk) ((j x f).trans e) h) g
def QH{x:Str}{v:V}{u:A1E}{pos:Pos}(a:Gl X x)(b:X.mg x=aA u)(r:RelV v u)(c:(x == ("__debug__":Str))=aD:=by decide):PE X (.Name x pos) (tC v):=
 λ_ _ _ H _ I h=>DT I a b ⟨v,H,I,r,h⟩ c
def Jc{x:Str}{v:V}{u:A1E}{pos:Pos}(a:Gl X x)(b:X.mg x=aB)(c:A1P x=aA u)(r:RelV v u)(d:x≠"__name__":=by decide)(e:(x == ("__debug__":Str))=aD:=by decide):PE X (.Name x pos) (tC v):=
 λ_ _ _ H _ I h=>B7 I a b c ⟨v,H,I,r,h⟩ d e
variable{a b:Expr}{ta tb:TE}{pos:Pos}
variable{tA tB':TT}{rest:List Expr}
def Vi(t u:TT):TT:=λd H Q=>t d H λc e=>if c=aC then u d e Q else Q aD e
def tOr(t u:TT):TT:=λd H Q=>t d H λc e=>if c=aC then Q aC e else u d e Q
def Vj(t:TT):TT:=λd H Q=>t d H λc e=>Q (!c) e
def QI(d:PT X a tA):PW X (.BoolOp .And [a] pos) tA:=by
 intro i f s g H Q I h;refine isTrue_and (thn (d f s g H Q I h) λc j e=>?_);cases c with
 | true=>exact isTrue_and_nil e
 | false=>exact e
def Tl(d:PT X a tA):PW X (.BoolOp .Or [a] pos) tA:=by
 intro i f s g H Q I h;refine isTrue_or (thn (d f s g H Q I h) λc j e=>?_);cases c with
 | false=>exact isTrue_or_nil e
 | true=>exact e
def Mx(j:PT X a tA)(k:PW X (.BoolOp .And (b::rest) pos) tB'):PW X (.BoolOp .And (a::b::rest) pos) (Vi tA tB'):=by
 intro l d s e H Q I h;refine isTrue_and (thn (j d s e H _ I h) λc m ⟨f,g,i⟩=>?_);cases c with
 | true=>exact k l d m e f Q g i
 | false=>exact⟨f,g,i⟩
def SN(j:PT X a tA)(k:PW X (.BoolOp .Or (b::rest) pos) tB'):PW X (.BoolOp .Or (a::b::rest) pos) (tOr tA tB'):=by
 intro l d s e H Q I h;refine isTrue_or (thn (j d s e H _ I h) λc m ⟨f,g,i⟩=>?_);cases c with
 | true=>exact⟨f,g,i⟩
 | false=>exact k l d m e f Q g i
def Tm(d:PT X a tA):PT X (.UnaryOp .Not a pos) (Vj tA):=by
 intro e s f H Q I h;exact isTrue_not (d e s f H (λc g=>Q (!c) g) I h)
def SQ(f g:TE):TE:=λd H Q=>f d H λx e=>∃ c,x = .bl c/\if c=aC then g d e Q else Q (.bl aD) e
def Vk(f g:TE):TE:=λd H Q=>f d H λx e=>∃ c,x = .bl c/\if c=aC then Q (.bl aC) e else g d e Q
def SR(d:TE):TE:=λe H Q=>d e H λx f=>∃ c,x = .bl c/\Q (.bl (!c)) f
def My{op}{t:TE}(h:PE X a t):PE X (.BoolOp op [a] pos) t:=λc s d H Q I e=>BoolOp_one (h c s d H Q I e)
def Mz(j:PE X a ta)(k:PE X (.BoolOp .And (b::rest) pos) tb):PE X (.BoolOp .And (a::b::rest) pos) (SQ ta tb):=by
 intro e s f H Q I h;refine BoolOp_and (thn (j e s f H _ I h) λv l m=>?_);obtain⟨x,g,i,n,d⟩:=m;obtain⟨c,rfl,d⟩:=d;cases n;refine A1V ?_;cases c with
 | true=>exact k e l f g Q i d
 | false=>exact⟨.bl aD,g,i,rfl,d⟩
def SS(j:PE X a ta)(k:PE X (.BoolOp .Or (b::rest) pos) tb):PE X (.BoolOp .Or (a::b::rest) pos) (Vk ta tb):=by
 intro e s f H Q I h;refine BoolOp_or (thn (j e s f H _ I h) λv l m=>?_);obtain⟨x,g,i,n,d⟩:=m;obtain⟨c,rfl,d⟩:=d;cases n;refine A1V ?_;cases c with
 | false=>exact k e l f g Q i d
 | true=>exact⟨.bl aC,g,i,rfl,d⟩
def Tn(e:PE X a ta):PE X (.UnaryOp .Not a pos) (SR ta):=by
 intro f s g H Q I h;refine UnaryOp_ (thn (e f s g H _ I h) λv m i=>?_);obtain⟨x,j,k,l,d⟩:=i;obtain⟨c,rfl,d⟩:=d;cases l;exact not_of (A1V ⟨.bl (!c),j,k,rfl,d⟩)
def tIf(t:TT)(f g:TE):TE:=λd H Q=>t d H λc e=>if c=aC then f d e Q else g d e Q
def N0{c:Expr}(l:PT X c tA)(m:PE X a ta)(n:PE X b tb):PE X (.IfExp c a b pos) (tIf tA ta tb):=by
 intro e s f H Q I h;refine wpAny_IfExp (thn (l e s f H _ I h) λd g ⟨i,j,k⟩=>?_);cases d with
 | true=>exact m e g f i Q j k
 | false=>exact n e g f i Q j k
end
def SqL(K:Y2)(H:Hp)(a:A1G)(xs:List V):Prop:=
 Rd H a (.lst xs)\/
  ∃(o:Obj) (b:Array A1E) (n:Nat),K.lookup a=aA o/\o.cls = .type "list"/\o.dict=aB/\o.data = .seq b n/\b.size<=A1M/\Vals xs b.toList
def SqT(K:Y2)(H:Hp)(a:A1G)(xs:List V):Prop:=
 Rd H a (.tup xs)\/
  ∃(o:Obj) (b:Array A1E) (n:Nat),K.lookup a=aA o/\o.cls = .type "tuple"/\o.data = .seq b n/\b.size<=A1M/\Vals xs b.toList
noncomputable def XY:A1E->Option V
 | .none=>aA .non
 | .bool b=>aA (.bl b)
 | .int i _=>aA (.int i)
 | .str x _=>aA (.str x)
 | .bytes b _=>aA (.byt b)
 | .float b _=>aA (.flt b)
 | .ref a=>aA (.ref a)
 | .type n=>aA (.ty n)
 | _=>aB
def RelV.abs{x:V}{u:A1E}(r:RelV x u):XY u=aA x:=by
 cases x with
 | non=>cases r;rfl
 | bl _=>cases r;rfl
 | int _=>obtain⟨t,rfl⟩:=r;rfl
 | str _=>obtain⟨t,rfl⟩:=r;rfl
 | byt _=>obtain⟨t,rfl⟩:=r;rfl
 | flt _=>obtain⟨t,rfl⟩:=r;rfl
 | ref _=>cases r;rfl
 | ty _=>cases r;rfl
def RelV.inj{x y:V}{u:A1E}(r:RelV x u)(q:RelV y u):x=y:=oj (r.abs.symm.trans q.abs)
theorem Vals.inj:∀{xs a:List V} {b:List A1E},Vals xs b->Vals a b->xs=a
 | _,_,_,.nil,.nil=>rfl
 | _,_,_,.cons r t,.cons c d=>by rw[r.inj c,Vals.inj t d]
section
variable{X:Cx}{pq:List (A1G×Obj)}{σ:St}{H:Hp}{s:A1F}{a:A1G}{xs ys:List V}
def SqL.of{K:Y2}(h:H a=aA (.lst xs)):SqL K H a xs := .inl (.inl h)
def SqT.of{K:Y2}(h:H a=aA (.tup xs)):SqT K H a xs := .inl (.inl h)
def Inv.list(I:Inv X pq σ H s)(h:SqL X.K H a xs):∃ b:List A1E,Vals xs b/\PlainL s.heap a b.toArray/\xs.length<=A1M:=by
 rcases h with h | ⟨o,b,n,hk,hc,hd,hs,hz,r⟩
 ·obtain⟨z,b,n,r,e⟩:=h.ok I.hok;exact⟨b,r,⟨_,n,e,rfl,rfl,rfl⟩,z⟩
 ·refine⟨b.toList,r,⟨o,n,I.kIn a o hk,hc,hd,by simpa using hs⟩,?_⟩;have e:=r.length;simp only[Yw]at e;omega
def Inv.tuple(I:Inv X pq σ H s)(h:SqT X.K H a xs):∃ b:List A1E,Vals xs b/\IsTup s.heap a b.toArray/\xs.length<=A1M:=by
 rcases h with h | ⟨o,b,n,hk,hc,hs,hz,r⟩
 ·obtain⟨z,b,r,p⟩:=h.ok I.hok;exact⟨b,r,p,z⟩
 ·refine⟨b.toList,r,⟨o,I.kIn a o hk,hc,n,by simpa using hs⟩,?_⟩;have e:=r.length;simp only[Yw]at e;omega
def Inv.list_inj(I:Inv X pq σ H s)(h:SqL X.K H a xs)(h':SqL X.K H a ys):xs=ys:=by
 obtain⟨c,r,⟨o,n,e,_,_,d⟩,_⟩:=I.list h;obtain⟨b,i,⟨k,l,f,_,_,g⟩,_⟩:=I.list h';rw[e]at f;cases f;rw[d]at g;injection g with j _;have:c=b:=by simpa using congrArg A1w j
 subst this;exact r.inj i
def Inv.tuple_inj(I:Inv X pq σ H s)(h:SqT X.K H a xs)(h':SqT X.K H a ys):xs=ys:=by
 obtain⟨c,r,⟨o,e,_,n,d⟩,_⟩:=I.tuple h;obtain⟨b,i,⟨k,f,_,l,g⟩,_⟩:=I.tuple h';rw[e]at f;cases f;rw[d]at g;injection g with j _;have:c=b:=by simpa using congrArg A1w j
 subst this;exact r.inj i
end
abbrev Cx.wish(X:Cx)(E:A1E->A1F->Prop):Cx:={X with xe:=E}
abbrev Cx.nox(X:Cx):Cx:=X.wish λ_ _=>False
def Cx.Ok.wish{X:Cx}(a:X.Ok)(E:A1E->A1F->Prop):(X.wish E).Ok:=
 ⟨a.mod,a.kind,a.glob,a.blt,a.above,a.inj,a.has,a.cab,a.hd,a.frames,a.stk,a.exf,a.bs,a.bsz,a.noex,a.exfs,a.funs,a.frf⟩
def Cx.Ok.unwish{X:Cx}{E:A1E->A1F->Prop}(a:(X.wish E).Ok):X.Ok:=
 ⟨a.mod,a.kind,a.glob,a.blt,a.above,a.inj,a.has,a.cab,a.hd,a.frames,a.stk,a.exf,a.bs,a.bsz,a.noex,a.exfs,a.funs,a.frf⟩
section
variable{X:Cx}{pq:List (A1G×Obj)}{σ:St}{H:Hp}{s:A1F}{E:A1E->A1F->Prop}
def Inv.wish(I:Inv X pq σ H s)(E:A1E->A1F->Prop):Inv (X.wish E) pq σ H s:=⟨I.ok.wish E,I.os,I.bare,I.base,I.loc,I.cell,I.free,I.freeC,I.pin,I.hok,I.len⟩
def Inv.unwish(I:Inv (X.wish E) pq σ H s):Inv X pq σ H s:=⟨I.ok.unwish,I.os,I.bare,I.base,I.loc,I.cell,I.free,I.freeC,I.pin,I.hok,I.len⟩
def SP.unwish{D:Ends}{f:Flow}{c:A1F}(h:SP (X.wish E) pq D f c):SP X pq D f c:=by
 cases f with
 | next=>obtain⟨a,b,I,q⟩:=h;exact⟨a,b,I.unwish,q⟩
 | brk=>obtain⟨a,b,I,q⟩:=h;exact⟨a,b,I.unwish,q⟩
 | cont=>obtain⟨a,b,I,q⟩:=h;exact⟨a,b,I.unwish,q⟩
 | ret u=>obtain⟨v,a,b,I,r,q⟩:=h;exact⟨v,a,b,I.unwish,r,q⟩
def PSs.nox{st:List Stmt}{t:TS}(h:PSs X.nox st t):PSs X st t:=λpq s σ H D I a=>
 A23 (h pq s σ H D (I.wish _) a) (λ_ _ q=>q.unwish) λ_ _ z=>False.elim z
end
section
variable{X:Cx}{st:Stmt}{rest:List Stmt}{t u:TS}{e:Expr}{te:TE}{pos:Pos}
def Vl:TS:=λD a H=>D.nx a H
def XZ(t u:TS):TS:=λD a H=>t {D with nx:=u D} a H
def QJ:PSs X [] Vl:=λ_ _ a H _ I h=>A2p ⟨a,H,I,h⟩
def N1(c:PS X st t)(d:PSs X rest u):PSs X (st::rest) (XZ t u):=by
 intro b s g H D I h;refine A3H (thn (c b s g H {D with nx:=u D} I h) λf i q=>?_);cases f with
 | next=>
   obtain⟨a,j,k,q⟩:=q;exact d b i a j D k q
 | ret v=>exact q
 | brk=>exact q
 | cont=>exact q
def QK(a:PS X st t):PSs X [st] t:=by
 intro b s c H D I h;refine A3H (thn (a b s c H D I h) λf d q=>?_);cases f with
 | next=>exact A2p q
 | ret v=>exact q
 | brk=>exact q
 | cont=>exact q
def Inv.quiet{a:List (A1G×Obj)}{b:St}{H:Hp}{s:A1F}(I:Inv X a b H s):interactive X.env=aD:=by simp[interactive,I.ok.kind]
def Vm(b:TE):TS:=λD a H=>b a H λ_ c=>D.nx a c
def Jd(b:PE X e te)(c:A2l e aB pos.line X.env=pure aD:=by rfl):PS X (.Expr e pos) (Vm te):=by
 intro d s a H D I h;exact wpAny_Expr_any (thn (b d s a H _ I h) λv j ⟨x,f,g,k,i⟩=>⟨a,f,g,i⟩) I.quiet c
def Xa(a:TE):TS:=λD b H=>a b H D.rt
def To(b:PE X e te):PS X (.Return (aA e) pos) (Xa te):=by
 intro c s a H D I h;exact wpAny_Return_some (thn (b c s a H _ I h) λv j ⟨x,d,f,g,i⟩=>⟨x,a,d,f,g,i⟩)
def Vn(c:TT)(t u:TS):TS:=λD a H=>c a H λb d=>if b=aC then t D a d else u D a d
def Vo{c:Expr}{a b:List Stmt}{i:TT}(n:PT X c i)(o:PSs X a t)(p:PSs X b u):PS X (.If c a b pos) (Vn i t u):=by
 intro f s g H D I h;refine wpAny_If (thn (n f s g H _ I h) λd j ⟨k,l,m⟩=>?_);cases d with
 | true=>exact o f j g k D l m
 | false=>exact p f j g k D l m
end
abbrev TG:=V->St->Hp->(St->Hp->Prop)->Prop
abbrev TGs:=List V->St->Hp->(St->Hp->Prop)->Prop
noncomputable def PG(X:Cx)(a:Expr)(t:TG):Prop:=
 ∀(c:List (A1G×Obj)) (s:A1F) (d:St) (H:Hp) (v:V) (u:A1E) (Q:St->Hp->Prop),Inv X c d H s->RelV v u->t v d H Q->
  A1J (A1K X.prog X.w) X.A (assign a X.env u) (λ_ f=>∃ b e,Inv X c b e f/\Q b e) X.xe s
noncomputable def PGs(X:Cx)(ts:List Expr)(t:TGs):Prop:=
 ∀(b:List (A1G×Obj)) (s:A1F) (c:St) (H:Hp) (vs:List V) (d:List A1E) (Q:St->Hp->Prop),Inv X b c H s->Vals vs d->t vs c H Q->
  A1J (A1K X.prog X.w) X.A (A3y ((A2e ts X.env).map (·.2)) d) (λ_ f=>∃ a e,Inv X b a e f/\Q a e) X.xe s
abbrev N2:=V->V->V->Hp->(Hp->Prop)->Prop
noncomputable def Tp(X:Cx)(t:N2):Prop:=
 ∀(a:List (A1G×Obj)) (s:A1F) (b:St) (H:Hp) (o i v:V) (c d u:A1E) (Q:Hp->Prop),Inv X a b H s->RelV o c->RelV i d->RelV v u->t o i v H Q->
  A1J (A1K X.prog X.w) X.A (setItem c d u) (λ_ f=>∃ e,Inv X a b e f/\Q e) X.xe s
abbrev TIp:=V->V->Hp->VK->Prop
noncomputable def PIp(X:Cx)(op:A2q)(t:TIp):Prop:=
 ∀(a:List (A1G×Obj)) (s:A1F) (b:St) (H:Hp) (x y:V) (v u:A1E) (Q:VK),Inv X a b H s->RelV x v->RelV y u->t x y H Q->
  A1J (A1K X.prog X.w) X.A (inplaceOp op v u) (EP X a b Q) X.xe s
section
variable{X:Cx}{pos:Pos}
def GX(i:Nat):TG:=λv a H Q=>Q (a.set i (aA v)) H
def QL{i:Nat}{x:Str}(a:X.N.Nodup)(b:X.N[i]?=aA x)(c:Loc X.env.scope x)(d:X.fn x=aC\/X.env.scope.names.lookup x=aA .local):PG X (.Name x pos) (GX i):=by
 intro f s g H v u Q I r h;exact A3D (BG I a b c r (λj e=>⟨_,H,e,h⟩) d)
def Xb:TGs:=λvs a H Q=>vs=[]/\Q a H
def Vp(t:TG)(u:TGs):TGs:=λvs b H Q=>∃ v r,vs=v::r/\t v b H λa c=>u r a c Q
def QM:PGs X [] Xb:=by
 intro b s a H c d Q I r h;obtain⟨e,h⟩:=h;subst e;cases r;exact A3E ⟨a,H,I,h⟩
def N3{e:Expr}{es:List Expr}{t:TG}{u:TGs}(c:PG X e t)(d:PGs X es u)
 (f:(A2e (e::es) X.env).map (·.2)=assign e X.env::(A2e es X.env).map (·.2):=by rfl):PGs X (e::es) (Vp t u):=by
 intro b s g H p q Q I r h;obtain⟨v,w,i,h⟩:=h;subst i;cases r with
 | cons r j=>
   rw[f];refine A2S (thn (c b s g H _ _ _ I r h) λ_ k l=>?_);obtain⟨a,m,n,o⟩:=l;exact d b k a m _ _ Q n j o
def Xd(K:Y2)(n:Nat)(t:TGs):TG:=λv b H Q=>∃ a xs,v = .ref a/\SqT K H a xs/\xs.length=n/\t xs b H Q
def Tq{es:List Expr}{k:Nat}{t:TGs}{n:Nat}(j:X.calm=aC)(h:PGs X es t)
 (l:(A2e es X.env).length=n:=by rfl) (c:(A2e es X.env).findIdx? (·.1)=aB:=by rfl):PG X (.Tuple es k pos) (Xd X.K n t):=by
 intro f s g H v u Q I r d;obtain⟨a,m,p,q,w,d⟩:=d;subst p;cases r;obtain⟨x,i,y,C⟩:=I.tuple q;refine assign_Tuple_tuple (I.ok.hd j) y (by simp[l,<-w,i.length]) c λz A=>?_;have B:Inv X f g H {s with heap:=z}:=I.kept (t':=s.toks) λb o e=>A b o (YG (YD e)) e;exact h f _ g H m _ Q B (by simpa using i) d
def Vq(b c:TE)(t:N2):TG:=λv a H Q=>b a H λo d=>c a d λi e=>t o i v e λf=>Q a f
def Tr{o i:Expr}{f g:TE}{t:N2}(j:PE X o f)(k:PE X i g)(l:Tp X t)
 (m:∀ v,assign (.Subscript o i pos) X.env v=(do
   let a <- holding [v] (eval o X.env)
   let b <- holding [v,a] (eval i X.env)
   standAt pos
   holding [v,a,b] (setItem a b v)
   release [v,a,b] []):=by intro _;rfl):PG X (.Subscript o i pos) (Vq f g t):=by
 intro d s c H v u Q I r h;rw[m];refine A1D (A1W (thn (j d s c H _ I h) λa n e=>?_));obtain⟨x,p,q,w,z⟩:=e;refine A1D (A1W (thn (k d n c p _ q z) λb A e=>?_));obtain⟨y,B,C,D,E⟩:=e;refine A1D (A2I (A1D (A1W (thn (l d A c B x y v a b u _ C w D r E) λ_ K ⟨F,G,J⟩=>?_))));exact wpAny_release ⟨c,F,G,J⟩
def IR(b:TE)(g:TG):TS:=λD a H=>b a H λx c=>g x a c D.nx
def N4{a e:Expr}{b:TE}{g:TG}(f:PE X e b)(i:PG X a g)(j:A2y [a] e pos.line X.env=pure aD:=by rfl)(k:A21 [a] e X.env=pure aB:=by rfl)
 (l:(A2e [a] X.env).map (·.2)=[assign a X.env]:=by rfl):PS X (.Assign [a] e pos) (IR b g):=by
 intro c s d H D I h;refine wpAny_Assign_stores (thn (f c s d H _ I h) λv m ⟨x,n,o,p,r⟩=>?_) j k;rw[l];exact thn (i c m d n x v _ o p r) λ_ t q=>q
def N5{i:Nat}{x:Str}{e:Expr}{b:TE}{a:Pos}(c:X.N.Nodup)(d:X.N[i]?=aA x)(f:Loc X.env.scope x)(g:PE X e b)(j:A2l e (aA (.Name x a)) pos.line X.env=pure aD:=by rfl)(k:X.fn x=aC\/X.env.scope.names.lookup x=aA .local:=by first | exact .inl rfl | exact .inr rfl | assumption):
 PS X (.Assign [.Name x a] e pos) (IR b (GX i)):=by
 intro l s m H D I h;refine wpAny_Assign_Name (thn (g l s m H _ I h) λv t ⟨y,n,o,p,q⟩=>?_) j;exact BG o c d f p (λu r=>⟨_,n,r,q⟩) k
def Vr(i j:Nat)(b:TA):TS:=λD a H=>b a H λvs c=>∃ v w,vs=[v,w]/\D.nx ((a.set i (aA v)).set j (aA w)) c
def Tt{i j:Nat}{x y:Str}{a b:Expr}{u:TA}{g k l:Pos}{kt k2 pt2}(K:X.calm=aC)(z:X.N.Nodup)(L:X.N[i]?=aA x)(M:X.N[j]?=aA y)(m:i≠j)
 (B:X.env.scope.names.lookup x=aA .local) (C:X.env.scope.names.lookup y=aA .local) (O:PA X [a,b] u)
 (P:A21 [.Tuple [.Name x g,.Name y k] kt l] (.Tuple [a,b] k2 pt2) X.env=pure (aA [x,y]))
 (Q:A2y [.Tuple [.Name x g,.Name y k] kt l] (.Tuple [a,b] k2 pt2) pos.line X.env=pure aD:=by rfl):
 PS X (.Assign [.Tuple [.Name x g,.Name y k] kt l] (.Tuple [a,b] k2 pt2) pos) (Vr i j u):=by
 intro E s F H D I h;rw[exec_Assign_arm];refine A1D (A2I ?_);rw[Q];refine A1D (A1H ?_);rw[iG (by decide)];refine A1D (Tuple_ (thn (O _ E s F H _ I h) λR c S=>?_));obtain⟨vs,G,T,U,n⟩:=S;obtain⟨v,w,V,n⟩:=n;subst V
 obtain⟨d,f,rfl,W,r⟩:∃ d f,R=[d,f]/\RelV v d/\RelV w f:=by
  cases U with
  | cons p q=>
    cases q with
    | cons p' Y=>
      cases Y;exact⟨_,_,rfl,p,p'⟩
 refine A1S ?_ (by show 2<=A1M;decide);have Z:Inv X E F G {c with heap:=c.heap.push {cls := .type "tuple",data := .seq [d,f].toArray}}:=T.kept (t':=c.toks) λb o e=>Y8 _ e;rw[P];refine A1D (A1H ?_);show A1J (A1K X.prog X.w) X.A (do rule "assign.swapped-stores";let items <- unpackItems (.ref c.heap.objs.size) 2 aB;A3y [λv=>A3q X.env y v,λv=>A3q X.env x v] items.reverse;pure Flow.next) _ _ _;refine A1D (A2u (A1D (unpackItems_tuple (items:=#[d,f]) (I.ok.hd K) (IsTup.new c.heap _) λh' t=>?_)));have I3:=Z.kept (h':=h') (t':=c.toks) λb o e=>t b o (YG (YD e)) e;show A1J _ _ (A3y [λv=>A3q X.env y v,λv=>A3q X.env x v] [f,d] >>= λ_=>pure Flow.next) _ _ _;refine A1D (A2S (A3r (BG I3 z M (.inl C) r (λs2 I4=>?_) (.inr C))));refine A2S (A3r (BG I4 z L (.inl B) W (λs3 J=>A3E (A1H ?_)) (.inr B)));rw[List.set_comm _ _ (Ne.symm m)]at J;exact⟨_,G,J,n⟩
def ST(e f g:TE)(a:V->V->Hp->VK->Prop)(d:TIp)(b:N2):TS:=λD c H=>e c H λo h=>f c h λi j=>a o i j λx k=>g c k λy l=>d x y l λz m=>b o i z m λn=>D.nx c n
noncomputable def Vs(X:Cx)(t:V->V->Hp->VK->Prop):Prop:=
 ∀(a:List (A1G×Obj)) (s:A1F) (b:St) (H:Hp) (o i:V) (c d:A1E) (Q:VK),Inv X a b H s->RelV o c->RelV i d->t o i H Q->
  A1J (A1K X.prog X.w) X.A (getItem c d) (EP X a b Q) X.xe s
def QN{o i e:Expr}{p q r:TE}{b:V->V->Hp->VK->Prop}{l:TIp}{c:N2}{op:A2q}{m:Pos}(y:PE X o p)(z:PE X i q)(A:Vs X b)(B:PE X e r)(C:PIp X op l)(E:Tp X c)
 (F:∀ d f a,augStore i d f a=(do holding [a,d,f] (setItem d f a);release [a,d,f] [];pure .next):=by intros;rfl):PS X (.AugAssign (.Subscript o i m) op e pos) (ST p q r b l c):=by
 intro k s g H D I h;refine wpAny_AugAssign_SubscriptAny (thn (y k s g H _ I h) λd G ⟨t,J,K,u,L⟩=>?_) F;refine thn (z k G g J _ K L) λf M j=>?_;obtain⟨w,N,O,x,P⟩:=j;refine thn (A k M g N t w d f _ O u x P) λn Q j=>?_;obtain⟨R,S,T,U,W⟩:=j;refine thn (B k Q g S _ T W) λv Y j=>?_;obtain⟨Z,H4,I4,r4,q4⟩:=j;refine thn (C k Y g H4 R Z n v _ I4 U r4 q4) λa s5 j=>?_;obtain⟨x5,H5,I5,r5,q5⟩:=j;exact thn (E k s5 g H5 t w x5 d f a _ I5 u x r5 q5) λ_ s6 ⟨H6,I6,q6⟩=>⟨g,H6,I6,q6⟩
def ipI(f:Int->Int->Int):TIp:=λx y H Q=>∃ i j,x = .int i/\y = .int j/\Q (.int (f i j)) H
def Tu:PIp X .Add (ipI λi j=>i+j):=by
 intro e s f H x y v u Q I a b h;obtain⟨i,j,c,d,q⟩:=h;subst c;subst d;obtain⟨t,rfl⟩:=a;obtain⟨g,rfl⟩:=b;exact iadd_int ⟨.int _,H,I.tok _,⟨_,rfl⟩,q⟩
noncomputable def N6(c:TT)(h:TS):TS:=λD a H=>∃ W:Nat->St->Hp->Prop,(∃ m,W m a H)/\∀ m a H,W m a H->
 c a H λb e=>if b=aC then ∃ N:St->Hp->Prop,(∀ d f,N d f->∃ g,g<m/\W g d f)/\h {D with nx:=N,ct:=N,bk:=D.nx} a e else D.nx a e
def N7{c:Expr}{e:List Stmt}{u:TT}{x:TS}(y:A44 (A1K X.prog X.w) X.A X.env X.xe)(G:PT X c u)(J:PSs X e x):PS X (.While c e [] pos) (N6 u x):=by
 intro m s K H D I h;obtain⟨W,⟨L,M⟩,g⟩:=h;refine wpAny_While (codeAny_whileLoop (λn O=>∃ i z,Inv X m i z O/\W n i z) ?_ L ⟨K,H,I,M⟩);rintro n P ⟨d,B,Q,R⟩;refine A2h y (thn (G m P d B _ Q (g n d B R)) λb S ⟨C,E,k⟩=>?_);cases b with
 | true=>
   obtain⟨N,F,k⟩:=k;rw[iP rfl];refine A2h y (thn (J m S d C _ E k) λf T l=>?_);cases f with
   | next=>
     obtain⟨a,j,o,p⟩:=l;obtain⟨q,r,t⟩:=F a j p;exact⟨q,r,a,j,o,t⟩
   | cont=>
     obtain⟨a,j,o,p⟩:=l;obtain⟨q,r,t⟩:=F a j p;exact⟨q,r,a,j,o,t⟩
   | brk=>exact l
   | ret v=>exact l
 | false=>
   rw[iG YE];exact A2p ⟨d,C,E,k⟩
end
structure It where
 go:Nat->Hp->Prop
 yld:Nat->Hp->V->Hp->Prop
 stop:Nat->Hp->Prop
def FpOk(X:Cx)(a:List (A1G×Obj))(H:Hp)(b:A1G):Prop:=
 H b=aB/\b≠X.env.locals/\b∉X.fs/\(b∈X.ex\/X.s₀.heap.objs.size<=b)/\(∀ x c,X.env.cells.lookup x=aA c->c≠b)/\∀ p∈X.pn++a,p.1≠b
def Inv.fpOk{X:Cx}{d:List (A1G×Obj)}{g:St}{H f:Hp}{s:A1F}{b:A1G}(I:Inv X d g H s)(a:s.heap.objs.size<=b)(h:f b=aB):FpOk X d f b:=by
 refine⟨h,A12 (YW I.lt a),I.nofs a,.inr (Yg I.sz a),λx c e z=>?_,λp i z=>?_⟩
 ·obtain⟨v,q⟩:=I.cell x c e;exact absurd (YW q.lt (by rw[z];exact a)) (ZD _)
 ·exact absurd (YW (YD (I.pin p i).1) (by rw[z];exact a)) (ZD _)
structure Turn(P:A1L)(w:A1N)(K:Y2)(tg:Expr)(J:It)(fp:List A1G)(it:A1G)(tn:Nat->Heap->Prop):Prop where
 mem:it∈fp
 obj:∀ i h,tn i h->∀ b∈fp,∃ o,h.get? b=aA o/\∀ v,o.data ≠ .cell v
 keep:∀ i h h',tn i h->(∀ b∈fp,∀ o,h.get? b=aA o->h'.get? b=aA o)->tn i h'
 item:∀(X:Cx),X.prog=P->X.w=w->X.K=K->X.calm=aC->∀(i:Nat) (pq:List (A1G×Obj)) (s:A1F) (σ:St) (H:Hp) (E:A1E->A1F->Prop),Inv X pq σ H s->(∀ b∈fp,FpOk X pq H b)->tn i s.heap->J.go i H->
  A1J (A1K P w) X.A (pyNext (.ref it)) (λr s1=>∃ u,r=aA u/\
   A1J (A1K P w) X.A (A2A tg (.ref it) u) (λ_ s2=>∃ x H',Inv X pq σ H' s2/\RelV x u/\J.yld i H x H'/\tn (i+1) s2.heap/\∀ b∈fp,H' b=aB) E s1) E s
 done:∀(X:Cx),X.prog=P->X.w=w->X.K=K->X.calm=aC->∀(i:Nat) (pq:List (A1G×Obj)) (s:A1F) (σ:St) (H:Hp) (E:A1E->A1F->Prop),Inv X pq σ H s->(∀ b∈fp,FpOk X pq H b)->tn i s.heap->J.stop i H->
   A1J (A1K P w) X.A (pyNext (.ref it)) (λr s1=>r=aB/\Inv X pq σ H s1) E s
 self:∀(A:A1Q) (i:Nat) (s:A1F) (Q:A1E->A1F->Prop) (E:A1E->A1F->Prop),tn i s.heap->Q (.ref it) s->A1J (A1K P w) A (pyIter (.ref it)) Q E s
abbrev TI:=St->Hp->(It->Hp->Prop)->Prop
noncomputable def PIE(X:Cx)(d:List (A1G×Obj))(i:St)(j:Expr)(R:It->Hp->Prop)(a:A1E)(e:A1F):Prop:=
 ∃(f:A1G) (g:List A1G) (h:Nat->Heap->Prop) (J:It) (c:Hp),a = .ref f/\Inv X d i c e/\Turn X.prog X.w X.K j J g f h/\h 0 e.heap/\(∀ b∈g,FpOk X d c b)/\R J c
noncomputable def PI(X:Cx)(d a:Expr)(e:TI):Prop:=
 ∀(c:List (A1G×Obj)) (s:A1F) (b:St) (H:Hp) (R:It->Hp->Prop),Inv X c b H s->e b H R->
  A1J (A1K X.prog X.w) X.A (eval a X.env) (λv f=>A1J (A1K X.prog X.w) X.A (pyIter v) (PIE X c b d R) X.xe f) X.xe s
def N8{M:Model}{A:A1Q}{E:A1E->A1F->Prop}{s:A1F}{b:Expr}{c:A1G}{u:A1E}{o:Obj}{n:String}{vs:Array A1E}{Q:Unit->A1F->Prop}(d:s.heap.get? c=aA o)(e:o.cls = .type n)(f:o.data = .fields vs)
 (g:["enumerate","zip","dict_itemiterator","dict_reverseitemiterator","odict_iterator","itertools.zip_longest","itertools.pairwise"].contains n=aD) (a:Q () s):A1J M A (A2A b (.ref c) u) Q E s:=by
 unfold A2A
 cases b<;>first
  | exact A1H a
  | (cases u<;>first
      | exact A1H a
      | (refine A1D (wpAny_load d ?_)
         rw[e,f];show A1J M A (if (["enumerate","zip","dict_itemiterator","dict_reverseitemiterator","odict_iterator","itertools.zip_longest","itertools.pairwise"].contains n&&vs[0]? == aA (rawInt _))=aC then _ else _) Q E s;rw[iG (by intro h;rw[g,A1n]at h;cases h)];exact A1H a))
def Itl(K:Y2)(a:A1G):It:=
 ⟨λi H=>∃ xs x,SqL K H a xs/\xs[i]?=aA x,λi H x b=>b=H/\∀ xs,SqL K H a xs->xs[i]?=aA x,λi H=>∃ xs,SqL K H a xs/\xs.length<=i⟩
def Itt(K:Y2)(a:A1G):It:=
 ⟨λi H=>∃ xs x,SqT K H a xs/\xs[i]?=aA x,λi H x b=>b=H/\∀ xs,SqT K H a xs->xs[i]?=aA x,λi H=>∃ xs,SqT K H a xs/\xs.length<=i⟩
def Itr(a:Int)(n:Nat):It:=⟨λi _=>i<n,λi H x b=>b=H/\x = .int (a+i),λi _=>n<=i⟩
def LJ{P:A1L}{w:A1N}{K:Y2}{R:Expr}(a g:A1G):Turn P w K R (Itl K a) [g] g (λi h=>h.IsListIter g a i) where
 mem:=by simp
 obj:=λi h f b j=>by
  have e:b=g:=by simpa using j
  subst e;obtain⟨o,e,c,d⟩:=f;exact⟨o,e,λv z=>by rw[d]at z;cases z⟩
 keep:=λi h m f k=>f.at λo e=>k g (by simp) o e
 item:=by
  intro X r t y N i O s Q H E I n f A;subst r t y;obtain⟨S,x,q,B⟩:=A;obtain⟨C,D,p,T⟩:=I.list q;obtain⟨u,U,V⟩:=D.get B;obtain⟨F,G,W,J,L,M⟩:=n g (by simp);refine wpAny_pyNext_list_item f p.isList (x:=u) (by simpa using U) λm l Y=>?_;have Z:Inv X O Q H {s with heap:=m}:=I.turned (t':=s.toks) (λb o j e=>(Y.2 b j).trans e) F G J L M;obtain⟨o,e,c,d⟩:=id l;exact⟨u,rfl,N8 (s:={s with heap:=m}) e c d (by decide) ⟨x,H,Z,V,⟨rfl,λys hy=>by rw[I.list_inj hy q];exact B⟩,l,λb j=>(n b j).1⟩⟩
 done:=by
   intro X r t y N i O s Q H E I n f A;subst r t y;obtain⟨S,q,B⟩:=A;obtain⟨C,D,p,T⟩:=I.list q;obtain⟨F,G,W,J,L,M⟩:=n g (by simp);have hl:=D.length;exact wpAny_pyNext_list_end (I.ok.hd N) f p.isList (by simp;omega) λm eb=>⟨rfl,I.turned (t':=s.toks) (λb o j e=>eb b o j e) F G J L M⟩
 self:=λ_ _ _ _ _ f h=>wpAny_pyIter_listiter f h
def IS{P:A1L}{w:A1N}{K:Y2}{R:Expr}(a g:A1G):Turn P w K R (Itt K a) [g] g (λi h=>h.IsTupleIter g a i) where
 mem:=by simp
 obj:=λi h f b j=>by
  have e:b=g:=by simpa using j
  subst e;obtain⟨o,e,c,d⟩:=f;exact⟨o,e,λv z=>by rw[d]at z;cases z⟩
 keep:=λi h n f k=>f.at λo e=>k g (by simp) o e
 item:=by
  intro X t y A N i O s Q H E I q f B;subst t y A;obtain⟨S,x,r,C⟩:=B;obtain⟨l,D,p,T⟩:=I.tuple r;obtain⟨u,U,V⟩:=D.get C;obtain⟨F,G,W,J,L,M⟩:=q g (by simp);refine wpAny_pyNext_tuple_item f (show s.heap.IsTuple a l.toArray from p) (x:=u) (by simpa using U) λn m Y=>?_;have Z:Inv X O Q H {s with heap:=n}:=I.turned (t':=s.toks) (λb o j e=>(Y.2 b j).trans e) F G J L M;obtain⟨o,e,c,d⟩:=id m;exact⟨u,rfl,N8 (s:={s with heap:=n}) e c d (by decide) ⟨x,H,Z,V,⟨rfl,λys hy=>by rw[I.tuple_inj hy r];exact C⟩,m,λb j=>(q b j).1⟩⟩
 done:=by
   intro X t y A N i O s Q H E I q f B;subst t y A;obtain⟨S,r,C⟩:=B;obtain⟨l,D,p,T⟩:=I.tuple r;obtain⟨F,G,W,J,L,M⟩:=q g (by simp);have hl:=D.length;exact wpAny_pyNext_tuple_end (I.ok.hd N) f (show s.heap.IsTuple a l.toArray from p) (by simp;omega) λn eb=>⟨rfl,I.turned (t':=s.toks) (λb o j e=>eb b o j e) F G J L M⟩
 self:=λ_ _ _ _ _ f h=>wpAny_pyIter_tupleiter f h
def IT{P:A1L}{w:A1N}{K:Y2}{J:Expr}(c:A1G)(g:Int)(n:Nat):Turn P w K J (Itr g n) [c] c (λi h=>IsRangeIter h c (g+(i:Nat) * 1) ((n:Int) - (i:Nat)) 1) where
 mem:=by simp
 obj:=λi h a b d=>by
  have e:b=c:=by simpa using d
  subst e
  exact⟨_,a,λv z=>by
   have L:Data.fields _=Data.cell v:=z;cases L⟩
 keep:=λi h j a k=>k c (by simp) _ a
 item:=by
  intro X m p q r i D s F H E I l a u;subst m p q;obtain⟨x,y,M,A,B,C⟩:=l c (by simp);have W:=Walks.range (prog:=X.prog) (w:=X.w) (I.ok.hd r) c g 1 n;refine W.item i s _ _ u a λv j G N f O=>?_;obtain⟨t,rfl⟩:=N;have Q:Inv X D F H {s with heap:=j,toks:=G}:=I.turned (λb o d e=>O b o (by simpa using d) e) x y A B C;refine⟨_,rfl,N8 (s:={s with heap:=j,toks:=G}) (n:="range_iterator") f rfl rfl (by decide) ⟨.int (g+i),H,Q,⟨t,?_⟩,⟨rfl,rfl⟩,f,λb d=>(l b d).1⟩⟩;rw[Int.mul_one]
 done:=by
   intro X m p q r i D s F H E I l a u;subst m p q;obtain⟨x,y,M,A,B,C⟩:=l c (by simp);exact wpAny_pyNext_range_end (I.ok.hd r) a (by have:n<=i:=u;omega) λj R=>⟨rfl,I.turned (t':=s.toks) (λb o d e=>R b o d e) x y A B C⟩
 self:=λ_ _ _ _ _ a h=>wpAny_pyIter_rangeiter a h
section
variable{X:Cx}{tg:Expr}
def GY{d:List (A1G×Obj)}{f:St}{H:Hp}{s:A1F}{R:It->Hp->Prop}{E:A1E->A1F->Prop}{a c:Int}{t u v:Tok}{g:Nat}(I:Inv X d f H s)(i:-(2 ^ 62)<=a)(j:a<2 ^ 62)(k:-(2 ^ 62)<=c)(l:c<2 ^ 62)
 (q:R (Itr a (c - a).toNat) H):A1J (A1K X.prog X.w) X.A (pyIter (.ref s.heap.objs.size)) (PIE X d f tg R) E {s with heap:=s.heap.push {cls := .type "range",data := .fields #[.int a t,.int c u,.int 1 v]},toks:=g}:=by
 refine wpAny_pyIter_range (IsRange.new ..) (small_one i j k l) ?_;have h:Inv X d f H {s with heap:=s.heap.push {cls := .type "range",data := .fields #[.int a t,.int c u,.int 1 v]},toks:=g}:=I.kept λb o e=>Y8 _ e
 refine⟨(s.heap.push {cls := .type "range",data := .fields #[.int a t,.int c u,.int 1 v]}).objs.size,[(s.heap.push {cls := .type "range",data := .fields #[.int a t,.int c u,.int 1 v]}).objs.size],_,_,H,rfl,
  h.kept (t':=g) λb o e=>Y8 _ e,IT _ a (c - a).toNat,?_,λb m=>?_,q⟩
 ·have n:a+((0:Nat):Int) * 1=a:=by simp
  have p:(((c - a).toNat:Nat):Int) - ((0:Nat):Int)=Builtin.Range.rangeSize a c 1:=by rw[rangeSize_one];split<;>omega
  show IsRangeIter _ _ (a+((0:Nat):Int) * 1) ((((c - a).toNat:Nat):Int) - ((0:Nat):Int)) 1;rw[n,p];exact YI _ rfl
 ·have e:b=(s.heap.push {cls := .type "range",data := .fields #[.int a t,.int c u,.int 1 v]}).objs.size:=by simpa using m
  subst e;exact h.fpOk (YF _) (h.hok.fresh (YF _))
def Vt(a:TA):TI:=λb H R=>a b H λvs c=>∃ j:Int,vs=[.int j] /\ -(2 ^ 62)<=j/\j<2 ^ 62/\R (Itr 0 j.toNat) c
def Vu(a:TA):TI:=λb H R=>a b H λvs c=>∃ i j:Int,vs=[.int i,.int j]/\(-(2 ^ 62)<=i/\i<2 ^ 62 /\ -(2 ^ 62)<=j/\j<2 ^ 62)/\R (Itr i (j - i).toNat) c
def LK{a:Expr}{c:TA}{p pos:Pos}(d:Gl X "range")(f:X.mg "range"=aB)(g:PA X [a] c)(i:A1O [a] X.env=[(aD,eval a X.env)]:=by rfl):PI X tg (.Call (.Name "range" p) [a] [] pos) (Vt c):=by
 intro k s l H R I h;refine Call_ (B7 I d f boot_range (PyProof.Rows.callWith_type1 (thn (g pos k s l H _ I h) λv w ⟨x,y,m,n,b⟩=>?_) i rfl));obtain⟨j,e,b,o,q⟩:=b;subst e;cases n with
 | cons r u=>
   cases u;obtain⟨t,rfl⟩:=r;exact call_range_1 (GY m (by omega) (by omega) b o (by simpa using q))
def LL{a b:Expr}{g:TA}{p pos:Pos}(k:Gl X "range")(l:X.mg "range"=aB)(m:PA X [a,b] g)(n:A1O [a,b] X.env=[(aD,eval a X.env),(aD,eval b X.env)]:=by rfl)(c:A1O [b] X.env=[(aD,eval b X.env)]:=by rfl):
 PI X tg (.Call (.Name "range" p) [a,b] [] pos) (Vu g):=by
 intro o s u H R I h;refine Call_ (B7 I k l boot_range (PyProof.Rows.callWith_type1 (thn (m pos o s u H _ I h) λA B ⟨C,D,v,w,d⟩=>?_) (by rw[n,c]) (by rw[c];rfl)));obtain⟨i,j,e,⟨d,x,y,z⟩,q⟩:=d;subst e;cases w with
 | cons r f=>
   cases f with
   | cons r' f=>
     cases f;obtain⟨t,rfl⟩:=r;obtain⟨E,rfl⟩:=r';exact call_range_2 (GY v d x y z q)
noncomputable def Vv(f:TI)(g:TG)(h:TS):TS:=λD a H=>f a H λJ j=>∃ W:Nat->Nat->St->Hp->Prop,(∃ m,W 0 m a j)/\∀ i m a H,W i m a H->
 (J.stop i H/\D.nx a H)\/(J.go i H/\∃ N:St->Hp->Prop,(∀ b c,N b c->∃ e,e<m/\W (i+1) e b c)/\∀ x c,J.yld i H x c->g x a c λd k=>h {D with nx:=N,ct:=N,bk:=D.nx} d k)
noncomputable def CI(a:List A1G)(h:Heap):List (A1G×Obj):=a.filterMap λb=>(h.get? b).map λo=>(b,o)
def BQ{a:List A1G}{h:Heap}{b:A1G}{o:Obj}(c:b∈a)(e:h.get? b=aA o):(b,o)∈CI a h:=A0X.mpr ⟨b,c,by rw[e];rfl⟩
def LM{a:List A1G}{h:Heap}{p:A1G×Obj}(c:p∈CI a h):p.1∈a/\h.get? p.1=aA p.2:=by
 obtain⟨b,d,e⟩:=A0X.mp c;cases q:h.get? b with
 | none=>rw[q]at e;cases e
 | some o=>
   rw[q]at e;have f:(b,o)=p:=oj e;subst f;exact⟨d,q⟩
def Inv.pinned{a:List (A1G×Obj)}{f:St}{H:Hp}{s:A1F}{c:List A1G}(I:Inv X a f H s)(i:∀ b∈c,FpOk X a H b)(j:∀ b∈c,∃ o,s.heap.get? b=aA o/\∀ v,o.data ≠ .cell v):Inv X (a++CI c s.heap) f H s:=
 I.pins_of λp k=>(YT.mp k).elim (λz=>I.pin p (Ys _ z)) λz=>by
  obtain⟨g,e⟩:=LM z;obtain⟨l,m,n,_⟩:=i p.1 g;obtain⟨o,h,d⟩:=j p.1 g;rw[e]at h;cases h;exact⟨e,l,m,n,d⟩
def Inv.unpinned{a c:List (A1G×Obj)}{b:St}{H:Hp}{s:A1F}(I:Inv X (a++c) b H s):Inv X a b H s:=I.pins_of λp d=>I.pin p (Ys _ (ZG _ d))
def Tv{c:Expr}{B:List Stmt}{wi:TI}{g:TG}{tb:TS}{pos:Pos}(G:A44 (A1K X.prog X.w) X.A X.env X.xe)(hc:X.calm=aC)(hi:PI X tg c wi)(hg:PG X tg g)(j:PSs X B tb)
 (hs:∀ x,A2Z c X.env x=pure x:=by intro _;rfl):PS X (.For tg c B [] pos) (Vv wi g tb):=by
 intro E s σ H D I h;refine wpAny_For (thn (hi E s σ H _ I h) λv s1 h1=>thn h1 λa2 s2 h2=>?_) hs;obtain⟨it,K,tn,J,H2,e,I2,T,U,f2,W,⟨m0,w0⟩,L⟩:=h2;subst e;have k:∀{z:Hp},(∀ b∈K,z b=aB)->∀ b∈K,FpOk X E z b:=λhn b j=>⟨hn b j,(f2 b j).2⟩
 refine codeAny_forLoop_any (λn s'=>∃ i l z,Inv X E l z s'/\tn i s'.heap/\(∀ b∈K,z b=aB)/\W i n l z) ?_ m0 ⟨0,σ,H2,I2,U,λb j=>(f2 b j).1,w0⟩;rintro n s3 ⟨i,p,S,I3,M,O,w3⟩;rcases L i n p S w3 with⟨P,qn⟩ | ⟨go,N,hN,Q⟩
 ·refine A2h G (thn (T.done X rfl rfl rfl hc i E s3 p S X.xe I3 (k O) M P) λr s4 ⟨V,I4⟩=>?_);subst V;exact A2p ⟨p,S,I4,qn⟩
 ·refine A2h G (thn (T.item X rfl rfl rfl hc i E s3 p S X.xe I3 (k O) M go) λr s4 ⟨u,V,h4⟩=>?_);subst V;refine A2h G (thn h4 λ_ s5 Y=>?_);obtain⟨x,H5,I5,r5,y5,F,Z⟩:=Y;have a0:=I5.pinned (k Z) (T.obj _ _ F);refine A2h G (thn (hg _ s5 p H5 x u _ a0 r5 (Q x H5 y5)) λ_ s6 Y=>?_);obtain⟨a1,H6,I6,q6⟩:=Y;refine A2h G (thn (j _ s6 a1 H6 _ I6 q6) λf s7 C=>?_)
  have q:∀{a:St} {t:Hp},Inv X (E++CI K s5.heap) a t s7->N a t->∃ m,m<n/\∃ i l z,Inv X E l z s7/\tn i s7.heap/\(∀ b∈K,z b=aB)/\W i m l z:=λ{a t} y R=>by
   obtain⟨m',hm,w7⟩:=hN a t R;refine⟨m',hm,i+1,a,t,y.unpinned,T.keep _ _ _ F λb j o e=>(y.pin (b,o) (Ys _ (Ys _ (BQ j e)))).1,λb j=>?_,w7⟩;obtain⟨o,e,d⟩:=T.obj _ _ F b j;exact(y.pin (b,o) (Ys _ (Ys _ (BQ j e)))).2.1
  cases f with
  | next=>obtain⟨a,t,y,R⟩:=C;exact q y R
  | cont=>obtain⟨a,t,y,R⟩:=C;exact q y R
  | brk=>obtain⟨a,t,y,C⟩:=C;exact⟨a,t,y.unpinned,C⟩
  | ret v=>obtain⟨x7,a,t,y,r7,C⟩:=C;exact⟨x7,a,t,y.unpinned,r7,C⟩
end
abbrev R2:=V->V->Hp->VK->Prop
noncomputable def OpR(X:Cx)(f:A1E->A1E->Sem A1E)(r:R2):Prop:=
 ∀(a:List (A1G×Obj)) (s:A1F) (b:St) (H:Hp) (x y:V) (v u:A1E) (Q:VK),Inv X a b H s->RelV x v->RelV y u->r x y H Q->
  A1J (A1K X.prog X.w) X.A (f v u) (EP X a b Q) X.xe s
noncomputable def UnR(X:Cx)(f:A1E->Sem A1E)(r:V->Hp->VK->Prop):Prop:=
 ∀(a:List (A1G×Obj)) (s:A1F) (b:St) (H:Hp) (x:V) (v:A1E) (Q:VK),Inv X a b H s->RelV x v->r x H Q->
  A1J (A1K X.prog X.w) X.A (f v) (EP X a b Q) X.xe s
noncomputable def CallR(X:Cx)(f:A1E)(r:List V->Hp->VK->Prop):Prop:=
 ∀(a:List (A1G×Obj)) (s:A1F) (b:St) (H:Hp) (xs:List V) (c:List A1E) (Q:VK),Inv X a b H s->Vals xs c->r xs H Q->
  A1J (A1K X.prog X.w) X.A (call f c) (EP X a b Q) X.xe s
noncomputable def Xe(X:Cx)(r:V->Hp->(Bool->Hp->Prop)->Prop):Prop:=
 ∀(a:List (A1G×Obj)) (s:A1F) (b:St) (H:Hp) (x:V) (v:A1E) (Q:Bool->Hp->Prop),Inv X a b H s->RelV x v->r x H Q->
  A1J (A1K X.prog X.w) X.A (truthy v) (TP X a b Q) X.xe s
def tOp(r:R2)(b c:TE):TE:=λa H Q=>b a H λx d=>c a d λy e=>r x y e Q
def tUn(r:V->Hp->VK->Prop)(a:TE):TE:=λb H Q=>a b H λx c=>r x c Q
def rI(C:Int->Int->Prop)(g:Int->Int->V):R2:=λx y H Q=>∃ i j,x = .int i/\y = .int j/\C i j/\Q (g i j) H
def rI0(g:Int->Int->V):R2:=λx y H Q=>∃ i j,x = .int i/\y = .int j/\Q (g i j) H
def rU(g:Int->V):V->Hp->VK->Prop:=λx H Q=>∃ i,x = .int i/\Q (g i) H
section
variable{X:Cx}{a b c:Expr}{ta tb tc:TE}{pos:Pos}
def Tw(n:PE X a ta)(o:PE X b tb){j:List (A1G×Obj)}{s:A1F}{d:St}{H:Hp}{R:V->V->Hp->Prop}(I:Inv X j d H s)
 (h:ta d H λx l=>tb d l λy e=>R x y e) {Q:A1E->A1F->Prop} {f:A1E->A1E->Sem A1E}
 (p:∀ v u k x y e,Inv X j d e k->RelV x v->RelV y u->R x y e->A1J (A1K X.prog X.w) X.A (f v u) Q X.xe k):
 A1J (A1K X.prog X.w) X.A (eval a X.env) (λv g=>A1J (A1K X.prog X.w) X.A (eval b X.env) (λu i=>A1J (A1K X.prog X.w) X.A (f v u) Q X.xe i) X.xe g) X.xe s:=by
 refine thn (n j s d H _ I h) λv q m=>?_;obtain⟨x,l,r,t,z⟩:=m;refine thn (o j q d l _ r z) λu k m=>?_;obtain⟨y,e,B,C,D⟩:=m;exact p v u k x y e B t C D
def Vw{op:A2q}{r:R2}(d:OpR X (A2z op) r)(e:PE X a ta)(f:PE X b tb):PE X (.BinOp a op b pos) (tOp r ta tb):=by
 intro g s i H Q I h;exact wpAny_BinOp (Tw e f I h λv u j x y k l m n q=>d g j i k x y v u Q l m n q)
def Vx{op:UnaryOp}{r:V->Hp->VK->Prop}(f:UnR X (unaryOp op) r)(g:PE X a ta):PE X (.UnaryOp op a pos) (tUn r ta):=by
 intro d s e H Q I h;exact UnaryOp_ (thn (g d s e H _ I h) λv i ⟨x,j,k,l,m⟩=>f d i e j x v Q k l m)
def opI{f:A1E->A1E->Sem A1E}{C:Int->Int->Prop}{g:Int->Int->Int}
 (d:∀(i j:Int) (t u:Tok) (s:A1F) (Q:A1E->A1F->Prop) (E:A1E->A1F->Prop),C i j->Q (.int (g i j) s.toks) {s with toks:=s.toks+1}->A1J (A1K X.prog X.w) X.A (f (.int i t) (.int j u)) Q E s):
 OpR X f (rI C λi j => .int (g i j)):=by
 intro n s o H x y v u Q I e k h;obtain⟨i,j,rfl,rfl,l,q⟩:=h;obtain⟨t,rfl⟩:=e;obtain⟨m,rfl⟩:=k;exact d i j t m s _ _ l ⟨.int (g i j),H,I.tok _,⟨_,rfl⟩,q⟩
def Vy{f:A1E->A1E->Sem A1E}{g:Int->Int->Int}
 (d:∀(i j:Int) (t u:Tok) (s:A1F) (Q:A1E->A1F->Prop) (E:A1E->A1F->Prop),Q (.int (g i j) s.toks) {s with toks:=s.toks+1}->A1J (A1K X.prog X.w) X.A (f (.int i t) (.int j u)) Q E s):
 OpR X f (rI0 λi j => .int (g i j)):=by
 intro m s n H x y v u Q I e k h;obtain⟨i,j,rfl,rfl,q⟩:=h;obtain⟨t,rfl⟩:=e;obtain⟨l,rfl⟩:=k;exact d i j t l s _ _ ⟨.int (g i j),H,I.tok _,⟨_,rfl⟩,q⟩
def QO{f:A1E->A1E->Sem A1E}{g:Int->Int->Bool}
 (d:∀(i j:Int) (t u:Tok) (s:A1F) (Q:A1E->A1F->Prop) (E:A1E->A1F->Prop),Q (.bool (g i j)) s->A1J (A1K X.prog X.w) X.A (f (.int i t) (.int j u)) Q E s):
 OpR X f (rI0 λi j => .bl (g i j)):=by
 intro m s n H x y v u Q I e k h;obtain⟨i,j,rfl,rfl,q⟩:=h;obtain⟨t,rfl⟩:=e;obtain⟨l,rfl⟩:=k;exact d i j t l s _ _ ⟨.bl (g i j),H,I,rfl,q⟩
def Vz(i j:Int):Prop:=0<j/\j<1073741824
def W0(i j:Int):Prop:=0<=j/\j<=1000000/\i.natAbs<2 ^ 64
def CMul(i j:Int):Prop:=(-(2 ^ 64)<i/\i<2 ^ 64)\/(-(2 ^ 64)<j/\j<2 ^ 64)
def CMul.ok{i j:Int}(h:CMul i j):IntMulOk i j:=by
 rcases h with⟨d,e⟩ | ⟨d,e⟩
 ·exact .of_left (intBits_le_64 d e)
 ·exact .of_right (intBits_le_64 d e)
def op_add:OpR X (A2z .Add) (rI0 λi j => .int (i+j)):=Vy λ_ _ _ _ _ _ _ q=>add_int q
def Tx:OpR X (A2z .Sub) (rI0 λi j => .int (i - j)):=Vy λ_ _ _ _ _ _ _ q=>sub_int q
def op_mul:OpR X (A2z .Mult) (rI CMul λi j => .int (i * j)):=opI λ_ _ _ _ _ _ _ d q=>mul_int q d.ok
def QP:OpR X (A2z .FloorDiv) (rI Vz λi j => .int (i / j)):=opI λi j _ _ _ _ _ d q=>by
 have e:(0:Int)<j:=d.1;have f:j<1073741824:=d.2;exact floordiv_int (by omega) (by rw[Int.fdiv_eq_ediv_of_nonneg i (by omega)];exact q) (.inl (PyProof.noPylong_small (by omega)))
def Ty:OpR X (A2z .Mod) (rI (λ_ j=>0<j) λi j => .int (i % j)):=opI λi j _ _ _ _ _ d q=>by
 have e:(0:Int)<j:=d;exact mod_int' (by omega) (by rw[Int.fmod_eq_emod_of_nonneg i (by omega)];exact q)
def Tz:OpR X (A2z .Pow) (rI W0 λi j => .int (i ^ j.toNat)):=opI λ_ _ _ _ _ _ _ d q=>pow_int_small d.1 d.2.1 d.2.2 q
def unI{f:A1E->Sem A1E}{g:Int->Int}
 (d:∀(i:Int) (t:Tok) (s:A1F) (Q:A1E->A1F->Prop) (E:A1E->A1F->Prop),Q (.int (g i) s.toks) {s with toks:=s.toks+1}->A1J (A1K X.prog X.w) X.A (f (.int i t)) Q E s):
 UnR X f (rU λi => .int (g i)):=by
 intro j s k H x v Q I e h;obtain⟨i,rfl,q⟩:=h;obtain⟨t,rfl⟩:=e;exact d i t s _ _ ⟨.int (g i),H,I.tok _,⟨_,rfl⟩,q⟩
def U0:UnR X (unaryOp .USub) (rU λi => .int (-i)):=unI λ_ _ _ _ _ q=>neg_int q
end
noncomputable def U1:V->V->Bool
 | .non,.non=>aC | .non,.int _=>aC | .int _,.non=>aC | .non,.bl _=>aC | .bl _,.non=>aC | .non,.str _=>aC | .str _,.non=>aC
 | .int _,.int _=>aC | .bl _,.bl _=>aC | .str _,.str _=>aC | .byt _,.byt _=>aC
 | .int _,.str _=>aC | .str _,.int _=>aC | .bl _,.str _=>aC | .str _,.bl _=>aC
 | _,_=>aD
noncomputable def rEq:R2:=λx y H Q=>U1 x y=aC/\Q (.bl (decide (x=y))) H
noncomputable def rNe:R2:=λx y H Q=>U1 x y=aC/\Q (.bl (!decide (x=y))) H
def Je{i j:Int}:decide (V.int i=V.int j)=(i == j):=by
 rw[Yp];simp
def N9{i j:Bool}:decide (V.bl i=V.bl j)=(i == j):=by
 rw[Yp];simp
def Jf{i j:Str}:decide (V.str i=V.str j)=(i == j):=by
 rw[Yp];simp
def Jg{i j:Array UInt8}:decide (V.byt i=V.byt j)=(i.toList == j.toList):=by
 rw[Yp];cases i;cases j;simp
section
variable{X:Cx}{a b c:Expr}{ta tb tc:TE}{pos:Pos}
def n4{d:List (A1G×Obj)}{f:St}{H:Hp}{s:A1F}{Q:VK}{k g:Bool}(I:Inv X d f H s)(q:Q (.bl k) H)(e:k=g):EP X d f Q (.bool g) s:=by
 subst e;exact⟨.bl k,H,I,rfl,q⟩
def op_eq:OpR X (A1T .Eq) rEq:=by
 intro k s l H x y v u Q I g d h;obtain⟨f,q⟩:=h;cases x with
 | non=>
   cases g;cases y with
   | non=>cases d;exact PySem.EqNone.eq_none_none (n4 I q (by simp))
   | bl j=>cases d;exact PySem.EqNone.eq_none_bool (n4 I q (by simp))
   | int j=>obtain⟨e,rfl⟩:=d;exact PySem.EqNone.eq_none_int (n4 I q (by simp))
   | str j=>obtain⟨e,rfl⟩:=d;exact PySem.EqNone.eq_none_str (n4 I q (by simp))
   | _=>exact absurd (show aD=aC from f) YE
 | bl i=>
   cases g;cases y with
   | non=>cases d;exact PySem.EqNone.eq_bool_none (n4 I q (by simp))
   | bl j=>cases d;exact eq_bool (n4 I q N9)
   | str j=>obtain⟨e,rfl⟩:=d;exact PySem.EqMixed.eq_bool_str (n4 I q (by simp))
   | _=>exact absurd (show aD=aC from f) YE
 | int i=>
   obtain⟨t,rfl⟩:=g;cases y with
   | non=>cases d;exact PySem.EqNone.eq_int_none (n4 I q (by simp))
   | int j=>obtain⟨e,rfl⟩:=d;exact eq_int (n4 I q Je)
   | str j=>obtain⟨e,rfl⟩:=d;exact PySem.EqMixed.eq_int_str (n4 I q (by simp))
   | _=>exact absurd (show aD=aC from f) YE
 | str i=>
   obtain⟨t,rfl⟩:=g;cases y with
   | non=>cases d;exact PySem.EqNone.eq_str_none (n4 I q (by simp))
   | bl j=>cases d;exact PySem.EqMixed.eq_str_bool (n4 I q (by simp))
   | int j=>obtain⟨e,rfl⟩:=d;exact PySem.EqMixed.eq_str_int (n4 I q (by simp))
   | str j=>obtain⟨e,rfl⟩:=d;exact eq_str (n4 I q Jf)
   | _=>exact absurd (show aD=aC from f) YE
 | byt i=>
   obtain⟨t,rfl⟩:=g;cases y with
   | byt j=>obtain⟨e,rfl⟩:=d;exact PySem.W.eq_bytes (n4 I q Jg)
   | _=>exact absurd (show aD=aC from f) YE
 | _=>cases y<;>exact absurd (show aD=aC from f) YE
def op_ne:OpR X (A1T .NotEq) rNe:=by
 intro k s l H x y v u Q I g d h;obtain⟨f,q⟩:=h;cases x with
 | non=>
   cases g;cases y with
   | non=>cases d;exact PySem.EqNone.ne_none_none (n4 I q (by simp))
   | bl j=>cases d;exact PySem.EqNone.ne_none_bool (n4 I q (by simp))
   | int j=>obtain⟨e,rfl⟩:=d;exact PySem.EqNone.ne_none_int (n4 I q (by simp))
   | str j=>obtain⟨e,rfl⟩:=d;exact PySem.EqNone.ne_none_str (n4 I q (by simp))
   | _=>exact absurd (show aD=aC from f) YE
 | bl i=>
   cases g;cases y with
   | non=>cases d;exact PySem.EqNone.ne_bool_none (n4 I q (by simp))
   | bl j=>cases d;exact ne_bool (n4 I q (congrArg not N9))
   | str j=>obtain⟨e,rfl⟩:=d;exact PySem.EqMixed.ne_bool_str (n4 I q (by simp))
   | _=>exact absurd (show aD=aC from f) YE
 | int i=>
   obtain⟨t,rfl⟩:=g;cases y with
   | non=>cases d;exact PySem.EqNone.ne_int_none (n4 I q (by simp))
   | int j=>obtain⟨e,rfl⟩:=d;exact ne_int (n4 I q (congrArg not Je))
   | str j=>obtain⟨e,rfl⟩:=d;exact PySem.EqMixed.ne_int_str (n4 I q (by simp))
   | _=>exact absurd (show aD=aC from f) YE
 | str i=>
   obtain⟨t,rfl⟩:=g;cases y with
   | non=>cases d;exact PySem.EqNone.ne_str_none (n4 I q (by simp))
   | bl j=>cases d;exact PySem.EqMixed.ne_str_bool (n4 I q (by simp))
   | int j=>obtain⟨e,rfl⟩:=d;exact PySem.EqMixed.ne_str_int (n4 I q (by simp))
   | str j=>obtain⟨e,rfl⟩:=d;exact ne_str (n4 I q (congrArg not Jf))
   | _=>exact absurd (show aD=aC from f) YE
 | byt i=>
   obtain⟨t,rfl⟩:=g;cases y with
   | byt j=>obtain⟨e,rfl⟩:=d;exact PySem.W.ne_bytes (n4 I q (congrArg not Jg))
   | _=>exact absurd (show aD=aC from f) YE
 | _=>cases y<;>exact absurd (show aD=aC from f) YE
def W1:OpR X (A1T .Lt) (rI0 λi j => .bl (decide (i<j))):=QO λ_ _ _ _ _ _ _ q=>lt_int q
def W2:OpR X (A1T .LtE) (rI0 λi j => .bl (decide (i<=j))):=QO λ_ _ _ _ _ _ _ q=>le_int q
def W3:OpR X (A1T .Gt) (rI0 λi j => .bl (decide (j<i))):=QO λ_ _ _ _ _ _ _ q=>gt_int q
def W4:OpR X (A1T .GtE) (rI0 λi j => .bl (decide (j<=i))):=QO λ_ _ _ _ _ _ _ q=>ge_int q
def U2:OpR X (A1T .Is) (λx y H Q=>y = .non/\Q (.bl (decide (x = .non))) H):=by
 intro f s g H x y v u Q I d e h;obtain⟨rfl,q⟩:=h;cases e;refine is_none_gen (n4 I q ?_)
 cases x<;>first
  | (cases d;rfl)
  | (obtain⟨t,rfl⟩:=d;rfl)
def op_notN:OpR X (A1T .IsNot) (λx y H Q=>y = .non/\Q (.bl (!decide (x = .non))) H):=by
 intro f s g H x y v u Q I d e h;obtain⟨rfl,q⟩:=h;cases e;refine isnot_none_gen (n4 I q ?_)
 cases x<;>first
  | (cases d;rfl)
  | (obtain⟨t,rfl⟩:=d;rfl)
def OpR.or{f:A1E->A1E->Sem A1E}{r d:R2}(h:OpR X f r)(h':OpR X f d):OpR X f (λx y H Q=>r x y H Q\/d x y H Q):=by
 intro e s g H x y v u Q I i j q;rcases q with q | q
 ·exact h e s g H x y v u Q I i j q
 ·exact h' e s g H x y v u Q I i j q
def Jh{op:CmpOp}{r:R2}(d:OpR X (A1T op) r)(e:PE X a ta)(f:PE X b tb)(g:A3z op b=aD):PE X (.Compare a [op] [b] pos) (tOp r ta tb):=by
 intro i s j H Q I h;exact wpAny_Compare1 (Tw e f I h λv u k x y l m n o q=>d i k j l x y v u Q m n o q) g
def SU(t:TE):TT:=λd H Q=>t d H λx e=>∃ k,x = .bl k/\Q k e
def Ji{op:CmpOp}{r:R2}(g:OpR X (A1T op) r)(i:PE X a ta)(j:PE X b tb)(l:A3z op b=aD):PT X (.Compare a [op] [b] pos) (SU (tOp r ta tb)):=by
 intro d s f H Q I h
 refine wpAny_isTrue_Compare1 (thn (i d s f H _ I h) λv m ⟨x,n,o,p,q⟩=>thn (j d m f n _ o q) λu t ⟨y,w,A,B,C⟩=>
  thn (g d t f w x y v u _ A p B C) λc J ⟨z,D,E,F,k,e,G⟩=>?_) l
 subst e;cases F;exact A1V ⟨D,E,G⟩
def IU(r f:R2)(g h i:TE):TE:=λd H Q=>g d H λx j=>h d j λy l=>r x y l λz e=>∃ k,z = .bl k/\
 (if k=aC then i d e λm n=>f y m n Q else Q (.bl aD) e)
def NA{op f:CmpOp}{r l:R2}(q:OpR X (A1T op) r)(j:OpR X (A1T f) l)(t:PE X a ta)(w:PE X b tb)(A:PE X c tc)
 (B:A45 [op,f] [b,c]=aD):PE X (.Compare a [op,f] [b,c] pos) (IU r l ta tb tc):=by
 intro g s i H Q I h
 refine Compare_chain (thn (t g s i H _ I h) λv C ⟨x,D,E,F,G⟩=>chain_link (thn (w g C i D _ E G) λu J ⟨y,K,L,m,M⟩=>
  thn (q g J i K x y v u _ L F m M) λd N ⟨z,n,o,O,k,e,p⟩=>?_)) B
 subst e;cases O;refine A1V ?_;cases k with
 | false=>exact ite_ff ⟨.bl aD,n,o,rfl,p⟩
 | true=>exact ite_tt (chain_last (thn (A g N i n _ o p) λP R ⟨S,T,U,V,W⟩=>j g R i T y S u P Q U m V W))
def NB{op f:CmpOp}{r l:R2}(q:OpR X (A1T op) r)(j:OpR X (A1T f) l)(t:PE X a ta)(w:PE X b tb)(A:PE X c tc)
 (B:A45 [op,f] [b,c]=aD:=by with_unfolding_all rfl):PT X (.Compare a [op,f] [b,c] pos) (SU (IU r l ta tb tc)):=by
 intro g s i H Q I h
 refine isTrue_chain (thn (t g s i H _ I h) λv C ⟨x,D,E,F,G⟩=>test_link (thn (w g C i D _ E G) λu J ⟨y,K,L,m,M⟩=>
  thn (q g J i K x y v u _ L F m M) λd N ⟨z,n,o,O,k,e,p⟩=>?_)) B
 subst e;cases O;refine A1V ?_;cases k with
 | false=>
   obtain⟨k',P,R⟩:=p;cases P;exact ite_ff ⟨n,o,R⟩
 | true=>
   refine ite_tt (test_last (thn (A g N i n _ o p) λS T ⟨U,V,W,Y,Z⟩=>thn (j g T i V y U u S _ W m Y Z) λd' s5 hz=>?_));obtain⟨z2,H5,I5,r5,k2,e2,q5⟩:=hz;subst e2;cases r5;exact A1V ⟨H5,I5,q5⟩
def QR(K:Y2)(x:V)(H:Hp)(k:Bool):Prop:=
 match x with
 | .non=>k=aD
 | .bl b=>k=b
 | .int i=>k=(i != 0)
 | .str y=>y.length<=A1M/\k=((y.length:Int) != 0)
 | .byt y=>y.size<=A1M/\k=((y.size:Int) != 0)
 | .ref p=>(∃ xs,SqL K H p xs/\k=!xs.isEmpty)\/(∃ xs,SqT K H p xs/\k=!xs.isEmpty)\/∃ d,H p=aA (.dK d)/\k=!d.isEmpty
 | _=>False
def IV{e:Type}{d:List (e×V)}{vs:List (e×A1E)}(r:KV d vs):(!vs.isEmpty)=!d.isEmpty:=by
 cases r<;>rfl
def Dn{xs:List V}{d:List A1E}(r:Vals xs d):(!d.toArray.isEmpty)=!xs.isEmpty:=by
 cases r<;>simp
def BW:(A1M:Nat)<2 ^ 63:=by rw[A3M];decide
def U3:Xe X (λx H Q=>∃ k,QR X.K x H k/\Q k H):=by
 intro D s E H x v Q I l h;obtain⟨k,e,q⟩:=h;have F:=BW;have G:A1M=16777216:=A3M;cases x with
 | non=>
   cases l;have d:k=aD:=e;subst d;exact truthy_none ⟨H,I,q⟩
 | bl b=>
   cases l;have d:k=b:=e;subst d;exact A1V ⟨H,I,q⟩
 | int i=>
   obtain⟨t,rfl⟩:=l;have d:k=(i != 0):=e;subst d;exact PySem.P.truthy_int ⟨H,I,q⟩
 | str y=>
   obtain⟨t,rfl⟩:=l;obtain⟨B,d⟩:y.length<=A1M/\k=((y.length:Int) != 0):=e;subst d;exact PySem.P.truthy_str (by omega) ⟨H,I.tok _,q⟩
 | byt y=>
   obtain⟨t,rfl⟩:=l;obtain⟨B,d⟩:y.size<=A1M/\k=((y.size:Int) != 0):=e;subst d;exact PySem.W.truthy_bytes (by omega) ⟨H,I.tok _,q⟩
 | ref p=>
   cases l;have d:(∃ j,SqL X.K H p j/\k=!j.isEmpty)\/(∃ j,SqT X.K H p j/\k=!j.isEmpty)\/∃ f,H p=aA (.dK f)/\k=!f.isEmpty:=e;rcases d with⟨j,n,d⟩ | ⟨j,n,d⟩ | ⟨f,n,d⟩
   ·subst d;obtain⟨u,r,z,A⟩:=I.list n;have g:=r.length;exact wpAny_truthy_list z.isList (by simp only[YB];omega) ⟨H,I.tok _,by rw[Dn r];exact q⟩
   ·subst d;obtain⟨u,r,z,A⟩:=I.tuple n;have g:=r.length;exact truthy_tuple z (by simp only[YB];omega) ⟨H,I.tok _,by rw[Dn r];exact q⟩
   ·subst d;obtain⟨A,C,o,r,m⟩:f.length<=A1M/\(p == A22)=aD/\∃ o,KV f o/\s.heap.DictOf (t7 X.prog X.w) p o:=I.hok p _ n;have g:f.length=o.length:=Paired.length r;exact wpAny_truthy_dict C m (by omega) ⟨H,I.tok _,by rw[IV r];exact q⟩
 | _=>exact(show False from e).elim
def NC(i:PE X a ta)(j:∀ d,isTrue a X.env d=(do let v <- d;standAt a.pos;holding [v] (truthy v))):
 PT X a (λe H Q=>ta e H λx f=>∃ k,QR X.K x f k/\Q k f):=by
 intro g s e H Q I h;exact isTrue_plain (thn (i g s e H _ I h) λv l ⟨x,m,n,o,p⟩=>U3 g l e m x v Q n o p) (j _)
def B2{x:V}{d:List A1E}(r:Vals [x] d):∃ u,d=[u]/\RelV x u:=by
 cases r with
 | cons r1 e=>cases e;exact⟨_,rfl,r1⟩
def SW{x y:V}{d:List A1E}(r:Vals [x,y] d):∃ u e,d=[u,e]/\RelV x u/\RelV y e:=by
 cases r with
 | cons r1 f=>
   cases f with
   | cons r3 g=>cases g;exact⟨_,_,rfl,r1,r3⟩
def ND:CallR X (.builtin "abs") (λd H Q=>∃ i,d=[.int i]/\Q (.int (if i<0 then -i else i)) H):=by
 intro e s f H d g Q I r h;obtain⟨i,rfl,q⟩:=h;obtain⟨u,rfl,t,rfl⟩:=B2 r;exact call_abs_int λu j=>⟨.int (if i<0 then -i else i),H,I.tok _,⟨_,rfl⟩,q⟩
def LN(f:X.calm=aC):CallR X (.builtin "max") (λe H Q=>∃ i j,e=[.int i,.int j]/\Q (.int (if j>i then j else i)) H):=by
 intro g s l H e m Q I r h;obtain⟨i,j,rfl,q⟩:=h;obtain⟨u,n,rfl,⟨t,rfl⟩,⟨o,rfl⟩⟩:=SW r;refine max_two_ints (I.ok.hd f) λp v k=>⟨_,H,I.kept k,?_,q⟩
 by_cases d:j>i
 ·rw[iP d,iP d];exact⟨_,rfl⟩
 ·rw[iG d,iG d];exact⟨_,rfl⟩
def LO(f:X.calm=aC):CallR X (.builtin "min") (λe H Q=>∃ i j,e=[.int i,.int j]/\Q (.int (if j<i then j else i)) H):=by
 intro g s l H e m Q I r h;obtain⟨i,j,rfl,q⟩:=h;obtain⟨u,n,rfl,⟨t,rfl⟩,⟨o,rfl⟩⟩:=SW r;refine min_two_ints (I.ok.hd f) λp v k=>⟨_,H,I.kept k,?_,q⟩
 by_cases d:j<i
 ·rw[iP d,iP d];exact⟨_,rfl⟩
 ·rw[iG d,iG d];exact⟨_,rfl⟩
def LP:CallR X (.type "int") (λd H Q=>(∃ i,d=[.int i]/\Q (.int i) H)\/∃ k,d=[.bl k]/\Q (.int (if k then 1 else 0)) H):=by
 intro f s g H d j Q I r h;rcases h with⟨i,rfl,q⟩ | ⟨k,rfl,q⟩
 ·obtain⟨u,rfl,t,rfl⟩:=B2 r;exact call_int_int ⟨.int i,H,I,⟨_,rfl⟩,q⟩
 ·obtain⟨u,rfl,e⟩:=B2 r;cases e;exact call_int_bool ⟨.int (if k then 1 else 0),H,I.tok _,⟨_,rfl⟩,q⟩
end
structure ObjM(h:Heap)(x dx C:A1G)(mA:Str->Option A1E):Prop where
 obj:h.get? x=aA (PySem.W.instObj C dx)
 ns:h.Ns1 dx mA
 ne:dx≠x
def LQ{h:Heap}{d:A1G}{f:Str->Option A1E}(n:h.Ns1 d f):∃ g,h.get? d=aA g/\∀ b,PySem.W.lookIn b g=aA (f b):=by
 obtain⟨o,i,s,j,k,l,_,m⟩:=n;refine⟨o,j,λb=>?_⟩;have e:=m b;unfold nsFind findBy at e;rw[<-Array.find?_toList]at e;unfold PySem.W.lookIn;rw[k];dsimp only;split
 ·rename_i y q;rw[q]at e;exact congrArg aA e
 ·rename_i q;rw[q]at e
  have a:i.toList.any (·.refKey)=aD:=by
   rw[A13];intro y p;obtain⟨z,t,c⟩:=l y (Array.mem_toList_iff.mp p);simp[DictEntry.refKey,c]
  have r:¬ i.toList.any (·.refKey)=aC:=by rw[a];exact YE
  rw[iG r];exact congrArg aA e
def ObjM.look{h:Heap}{x c C:A1G}{d:Str->Option A1E}(I:ObjM h x c C d):∃ b,PySem.W.InstAt h x (PySem.W.instObj C c) C (aA b)/\∀ a,PySem.W.lookIn a b=aA (d a):=
 let ⟨b,e,f⟩:=LQ I.ns
 ⟨b,⟨I.obj,rfl,rfl,e⟩,f⟩
def RelO.some_of{v:V}{o:Option A1E}(r:RelO (aA v) o):∃ u,o=aA u/\RelV v u:=by
 cases o with
 | none=>exact(show False from r).elim
 | some u=>exact⟨u,rfl,r⟩
section
variable{P:A1L}{w:A1N}{H H':Hp}{h h':Heap}{a C dx:A1G}{fs fs':List (Str×V)}
def Jj(c:HOk P w H h)(e:H a=aA (.ins C dx fs)):∃ b,ObjM h a dx C b/\(∀ f,RelO (fs.lookup f) (b f))/\PySem.Within b (fs.map (·.1))/\fs.length<=1000/\H dx=aA (.own a):=by
 obtain⟨d,z,g,i,b,n,r,q⟩:=(show ObjOk P w H h a (.ins C dx fs) from c a _ e)
 exact⟨b,⟨i,n,g⟩,r,q,z,d⟩
end
structure Cls(K:Y2)(C:A1G):Prop where
 pg:PySem.W.plainGet K C Str.empty=aC
 hd:PySem.W.hasDictIn K C=aC
 po:PySem.W.plainOver K C=aC
 sa:PySem.W.findIn K (.ref C) "__setattr__"=aA (aA (.builtin "object.__setattr__"))
def Cls.get{K:Y2}{C:A1G}(c:Cls K C)(f:Str):PySem.W.plainGet K C f=aC:=c.pg
section
variable{X:Cx}{pq:List (A1G×Obj)}{σ:St}{H:Hp}{s:A1F}{A:A1Q}{E:A1E->A1F->Prop}{Q:A1E->A1F->Prop}{c:A1E}{b:Bool}
inductive TyOf(K:Y2)(H:Hp):V->A1E->Prop where
 | non:TyOf K H .non (.type "NoneType")
 | bl (x:Bool):TyOf K H (.bl x) (.type "bool")
 | int (i:Int):TyOf K H (.int i) (.type "int")
 | str (x:Str):TyOf K H (.str x) (.type "str")
 | flt (x:UInt64):TyOf K H (.flt x) (.type "float")
 | lst {a:A1G} {xs:List V} (e:H a=aA (.lst xs)):TyOf K H (.ref a) (.type "list")
 | frz {a:A1G} {o:Obj} {xs:List V} (e:H a=aA (.frz o (.lst xs))):TyOf K H (.ref a) (.type "list")
 | tup {a:A1G} {xs:List V} (e:H a=aA (.tup xs)):TyOf K H (.ref a) (.type "tuple")
 | dK {a:A1G} {kvs:List (Key×V)} (e:H a=aA (.dK kvs)):TyOf K H (.ref a) (.type "dict")
 | dT {a:A1G} {kvs:List (List Key×V)} (e:H a=aA (.dT kvs)):TyOf K H (.ref a) (.type "dict")
 | ins {a C dx:A1G} {fs:List (Str×V)} (e:H a=aA (.ins C dx fs)) (cl:Cls K C) (ha:PySem.W.findIn K (.ref C) "__class__"=aA (aA (.builtin "object.__class__")))
    (hn:PySem.W.specialIn K (.builtin "object.__class__") "__get__"=aA (aA (.builtin "getset_descriptor.__get__"))) (htk:PySem.W.takesIn K (.builtin "object.__class__")=aA aC)
    (hm:PySem.W.mroIn K C (.type "object")=aA aC):TyOf K H (.ref a) (.ref C)
def Ev{x:V}{u t:A1E}(I:Inv X pq σ H s)(d:RelV x u)(ty:TyOf X.K H x t)(e:PySem.W.kitOne X.K t c=aA b)(h:∀ v,Q (.bool b) {s with toks:=v}):
 A1J (A1K X.prog X.w) A (call (.builtin "isinstance") [u,c]) Q E s:=by
 cases ty with
 | non=>cases(show u=Value.none from d);exact PySem.W.kia_one PySem.W.kitx_none I.kIn True.intro e (λz=>nomatch z) h
 | bl y=>cases(show u=Value.bool y from d);exact PySem.W.kia_one PySem.W.kitx_bool I.kIn True.intro e (λz=>nomatch z) h
 | int i=>obtain⟨t,q⟩:=(show ∃ t,u=Value.int i t from d);cases q;exact PySem.W.kia_one PySem.W.kitx_int I.kIn True.intro e (λz=>nomatch z) h
 | str y=>obtain⟨t,q⟩:=(show ∃ t,u=Value.str y t from d);cases q;exact PySem.W.kia_one PySem.W.kitx_str I.kIn True.intro e (λz=>nomatch z) h
 | flt y=>obtain⟨t,q⟩:=(show ∃ t,u=Value.float y t from d);cases q;exact PySem.W.kia_one PySem.W.kitx_float I.kIn True.intro e (λz=>nomatch z) h
 | @lst a k f=>
   cases(show u=Value.ref a from d);obtain⟨_,_,n,_,g⟩:=(show ObjOk X.prog X.w H s.heap a (.lst k) from I.hok a _ f)
   exact PySem.W.kia_one PySem.W.kitx_list I.kIn ⟨_,g,rfl⟩ e (λz=>nomatch z) h
 | @frz a B k f=>
   cases(show u=Value.ref a from d);obtain⟨_,_,_,n,_,g⟩:=(show ObjOk X.prog X.w H s.heap a (.frz B (.lst k)) from I.hok a _ f)
   exact PySem.W.kia_one PySem.W.kitx_list I.kIn ⟨_,g,rfl⟩ e (λz=>nomatch z) h
 | @tup a k f=>
   cases(show u=Value.ref a from d);obtain⟨_,_,_,p⟩:=(show ObjOk X.prog X.w H s.heap a (.tup k) from I.hok a _ f)
   obtain⟨o,g,l,_⟩:=p;exact PySem.W.kia_one PySem.W.kitx_tuple I.kIn ⟨o,g,l⟩ e (λz=>nomatch z) h
 | @dK a j f=>
   cases(show u=Value.ref a from d);obtain⟨_,_,N,_,p⟩:=(show ObjOk X.prog X.w H s.heap a (.dK j) from I.hok a _ f)
   obtain⟨o,D,F,g,l,_⟩:=p;exact PySem.W.kia_one PySem.W.kitx_dict I.kIn ⟨o,g,l.1⟩ e (λz=>nomatch z) h
 | @dT a j f=>
   cases(show u=Value.ref a from d);obtain⟨_,_,k,_,o,D,F,g,l,_⟩:=(show ObjOk X.prog X.w H s.heap a (.dT j) from I.hok a _ f)
   exact PySem.W.kia_one PySem.W.kitx_dict I.kIn ⟨o,g,l.1⟩ e (λz=>nomatch z) h
 | @ins a C P R f r G L m M=>
   cases(show u=Value.ref a from d);obtain⟨S,O,_⟩:=Jj I.hok f;obtain⟨T,J,_⟩:=O.look;exact PySem.W.kia_one (PySem.W.kitx_own (r.get _) r.hd G L m M) I.kIn J e (λz=>nomatch z) h
end
structure Room(k:Nat)(A:A1Q):Prop where
 hd:A.handled=aB
 dp:A.depth+3 * k+5<A2T
 un:A.units+16 * k+200<cLine
 gd:A.guards=aA []
def Room.deeper{k:Nat}{A:A1Q}(r:Room (k+1) A)(env:Env):Room k (A.deeper env):=
 ⟨r.hd,by have:=r.dp;show A.depth+1+3 * k+5<_;omega,by have:=r.un;show A.units+3+16 * k+200<_;omega,r.gd⟩
def Room.depth{k:Nat}{A:A1Q}(r:Room k A):A.depth<A2T:=by have:=r.dp;omega
def U4:TA:=λ_ H Q=>Q [] H
def GZ(b:TE)(c:TA):TA:=λa H Q=>b a H λx d=>c a d λxs e=>Q (x::xs) e
section
variable{X:Cx}{e:Expr}{es:List Expr}{te:TE}{t:TA}{pos:Pos}
def B8:PA X [] U4:=λ_ _ _ _ H Q I h=>Calls.spliced_nil ⟨[],H,I,.nil,h⟩
def y0(c:PE X e te)(d:PA X es t)(f:A1O (e::es) X.env=(aD,eval e X.env)::A1O es X.env:=by rfl):PA X (e::es) (GZ te t):=by
 intro pos a s b H Q I h;rw[f];show A1J _ _ (spliced ((aD,eval e X.env)::backTo pos (A1O es X.env))) _ _ s;refine Calls.spliced_cons (thn (c a s b H _ I h) λu g i=>?_);obtain⟨x,j,k,l,m⟩:=i;exact thn (d pos a g b j _ k m) λv w ⟨n,o,p,q,r⟩=>⟨x::n,o,p,.cons l q,r⟩
noncomputable def W5(t:TA):TE:=λb H Q=>t b H λxs a=>xs.length<=A1M/\∀ p,a p=aB->Q (.ref p) (upd a p (.tup xs))
noncomputable def W6(t:TA):TE:=λb H Q=>t b H λxs a=>xs.length<=A1M/\∀ p,a p=aB->Q (.ref p) (upd a p (.lst xs))
def U5{x1}(h:PA X es t):PE X (.Tuple es x1 pos) (W5 t):=by
 intro f s g H Q I i;refine wpAny_Tuple_spliced (thn (h pos f s g H _ I i) λj a ⟨k,c,d,r,z,q⟩=>⟨by rw[<-r.length];exact z,?_⟩);have l:c a.heap.objs.size=aB:=d.hok.fresh (YF _);refine⟨.ref a.heap.objs.size,upd c a.heap.objs.size (.tup k),d.laid (t':=a.toks) (λb u e=>Y8 _ e) (YF _) ?_,rfl,q _ l⟩;exact⟨z,j,r,⟨_,YI _ rfl,rfl,_,rfl⟩⟩
def U6(h:PA X es t):PE X (.List es pos) (W6 t):=by
 intro f s g H Q I i;refine wpAny_List_spliced (thn (h pos f s g H _ I i) λj a ⟨k,c,d,r,z,q⟩=>⟨by rw[<-r.length];exact z,?_⟩);have l:c a.heap.objs.size=aB:=d.hok.fresh (YF _);refine⟨.ref a.heap.objs.size,upd c a.heap.objs.size (.lst k),d.laid (t':=a.toks) (λb u e=>Y8 _ e) (YF _) ?_,rfl,q _ l⟩;exact⟨z,j,0,r,YI _ rfl⟩
end
abbrev Sp:=List V->Hp->VK->XK->Prop
abbrev CXT:=List Env->Hp->A1F->XK->A1E->A1F->Prop
structure Env0(P:A1L)(w:A1N)(K:Y2)(mg:Str->Option A1E)(base:Heap)(A:A1Q)(outer:List Env)(s:A1F)(H:Hp):Prop where
 frames:A.frames=aA outer
 mod:Mod K mg base
 bs:∀ b o,base.get? b=aA o->s.heap.get? b=aA o/\H b=aB
 bsz:base.objs.size<=s.heap.objs.size
 funs:s.heap.FunFrames base outer
 frf:∀ b∈frs outer,H b=aB
 hok:HOk P w H s.heap
 bare:AllBare s.gens
noncomputable def CE(outer:List Env)(P:A1L)(w:A1N)(H:Hp)(s:A1F)(Q:VK)(u:A1E)(a:A1F):Prop:=
 ∃ v b,a.os=s.os/\AllBare a.gens/\Un (frs outer) [] H b s.heap a.heap/\HOk P w b a.heap/\RelV v u/\Q v b
noncomputable def CR(CX:CXT)(outer:List Env)(P:A1L)(w:A1N)(H:Hp)(s:A1F)(Q:VK)(E:XK)(r:Result)(a:A1F):Prop:=
 match r with
 | .ok (.ret u)=>CE outer P w H s Q u a
 | .ok _=>False
 | .error e=>CX outer H s E e a
structure FnOk(P:A1L)(w:A1N)(K:Y2)(mg:Str->Option A1E)(base:Heap)(CX:CXT)(k:Nat)(f:A1G)(fd:A2g)(ps:List Str)(sp:Sp):Prop where
 len:∀ vs H Q E,sp vs H Q E->vs.length=ps.length
 run:∀(A:A1Q) (outer:List Env) (s:A1F) (H:Hp) (args:Args) (us:List A1E) (vs:List V) (Q:VK) (E:XK),Room k A->Env0 P w K mg base A outer s H->BindsTo s fd args (ps.zip us)->Vals vs us->sp vs H Q E->
  codeAny (A1K P w) A (.call (.ref f) args) (CR CX outer P w H s Q E) s
def FnOk.imp{P:A1L}{w:A1N}{K:Y2}{e:Str->Option A1E}{base:Heap}{CX:CXT}{k:Nat}{f:A1G}{g:A2g}{ps:List Str}{sp c:Sp}(F:FnOk P w K e base CX k f g ps sp)
 (h:∀ b H Q E,c b H Q E->sp b H Q E):FnOk P w K e base CX k f g ps c:=
 ⟨λb H Q E q=>F.len b H Q E (h _ _ _ _ q),λA a s H d i b Q E j l m n o=>F.run A a s H d i b Q E j l m n (h _ _ _ _ o)⟩
section
variable{X:Cx}{pq:List (A1G×Obj)}{σ:St}{H:Hp}{s s':A1F}
def Inv.env0(I:Inv X pq σ H s):Env0 X.prog X.w X.K X.mg X.base X.A X.stack s H:=
 ⟨I.ok.frames,I.ok.mod,I.bs,Yg I.ok.bsz I.sz,I.stack,I.stkFree,I.hok,I.bare⟩
def Inv.after{Q:VK}{u:A1E}(I:Inv X pq σ H s)(h:CE X.stack X.prog X.w H s Q u s'):EP X pq σ Q u s':=by
 obtain⟨v,f,i,a,j,c,r,q⟩:=h;obtain⟨k,g,d,t,e⟩:=s';obtain rfl:e=s.os:=i;exact⟨v,f,I.call (h':=k) (g':=g) (d':=d) (t':=t) (ch:=[]) j c a (λb z=>absurd z (by simp)),r,q⟩
end
def NE(sp:Sp)(a:List V)(E:XK)(t:TA):TE:=λb H Q=>t b H λvs c=>sp (vs++a) c Q E
def Binds(K:Y2)(c:A2g)(ps:List Str)(b:List A1E):Prop:=
 ∀(s:A1F) (a:List A1E),K.In s.heap->(a++b).length=ps.length->BindsTo s c ⟨a,[]⟩ (ps.zip (a++b))
def Binds.all{K:Y2}{b:A2g}{ps:List Str}(h:∀ a:List A1E,a.length=ps.length->bindArgs b ⟨a,[]⟩=pure (ps.zip a)):Binds K b ps []:=λs a _ c=>by
 rw[Z2]at c ⊢;exact .of_eq (h a c)
def FX(CX:CXT)(X:Cx)(E:XK):Prop:=∀(b:List (A1G×Obj)) (c:St) (H:Hp) (s:A1F) (e:A1E) (a:A1F),Inv X b c H s->CX X.stack H s E e a->X.xe e a
section
variable{X:Cx}{CX:CXT}{k:Nat}{f C:A1G}{fd:A2g}{ps:List Str}{sp:Sp}{dvs:List V}{ds:List A1E}{E:XK}{x m:Str}{p pos apos:Pos}{e o:Expr}{es:List Expr}{ta:TE}{t:TA}
def U7{c:List (A1G×Obj)}{d:St}{H:Hp}{s:A1F}{Q:VK}{a:List A1E}{vs:List V}(F:FnOk X.prog X.w X.K X.mg X.base CX k f fd ps sp)(i:Room k X.A)(j:Binds X.K fd ps ds)(l:Vals dvs ds)(n:FX CX X E)
 (I:Inv X c d H s) (r:Vals vs a) (h:sp (vs++dvs) H Q E):A1J (A1K X.prog X.w) X.A (call (.ref f) a) (EP X c d Q) X.xe s:=by
 have g:Vals (vs++dvs) (a++ds):=r.append l;have q:(a++ds).length=ps.length:=by rw[<-g.length];exact F.len _ _ _ _ h
 refine A3U (A2i (F.run X.A X.stack s H ⟨a,[]⟩ (a++ds) (vs++dvs) Q E i I.env0 (j s a I.kIn q) g h) λr v b=>?_);cases r with
 | error e=>exact n c d H s e v I b
 | ok y=>
   cases y with
   | ret u=>exact I.after b
   | next=>exact False.elim b
   | brk=>exact False.elim b
   | cont=>exact False.elim b
def Jk(F:FnOk X.prog X.w X.K X.mg X.base CX k f fd ps sp)(d:Room k X.A)(g:Gl X x)(i:X.mg x=aA (.ref f))(j:PySem.W.keepIn X.K (.ref f)=aC)(l:Binds X.K fd ps ds)(n:Vals dvs ds)(u:FX CX X E)
 (v:PA X (e::es) t) (a:(x == ("__debug__":Str))=aD:=by decide) (y:A1O (e::es) X.env=(aD,eval e X.env)::A1O es X.env:=by rfl) (b:(backTo pos (A1O es X.env)).any (·.1)=aD:=by rfl):
 PE X (.Call (.Name x p) (e::es) [] pos) (NE sp dvs E t):=by
 intro z s B H Q I h;refine A28 (DT I g i ?_ a);refine PySem.W.callWith_K (h₀:=X.base) I.ok.mod.kin j (thn (v pos z s B H _ I h) λD G ⟨J,L,c,r,q⟩=>⟨c.kIn,?_⟩) y b;exact U7 F d l n u c r q
end
noncomputable def PK(X:Cx)(a:List Keyword)(t:TA):Prop:=
 ∀(pos:Pos) (c:List (A1G×Obj)) (s:A1F) (b:St) (H:Hp) (Q:List V->Hp->Prop),Inv X c b H s->t b H Q->A1J (A1K X.prog X.w) X.A (evalAll ((A2U pos (A2v a X.env)).map (·.2))) (AP X c b Q) X.xe s
section
variable{X:Cx}{CX:CXT}{k:Nat}{f C:A1G}{fd:A2g}{ps ks:List Str}{sp:Sp}{E:XK}{x m:Str}{p pos apos kpos:Pos}{e o:Expr}{es:List Expr}{kws:List Keyword}{te ta:TE}{t tk:TA}{nm:Option Str}
def NF:PK X [] U4:=λ_ _ _ _ H Q I h=>wpAny_evalAll_nil ⟨[],H,I,.nil,h⟩
def Jl(c:PE X e te)(d:PK X kws t):PK X (⟨nm,e,kpos⟩::kws) (GZ te t):=by
 intro pos a s b H Q I h;show A1J _ _ (evalAll ((do let v <- eval e X.env;standAt pos;pure v)::(A2U pos (A2v kws X.env)).map (·.2))) _ _ s;refine wpAny_evalAll_cons (A1D (thn (c a s b H _ I h) λu g ⟨x,i,j,l,n⟩=>A1D (A2I (A1H ?_))));exact thn (d pos a g b i _ j n) λA B ⟨q,r,w,y,z⟩=>⟨x::q,r,w,.cons l y,z⟩
variable{g:List A1E->List A1E->List A1E}{gV:List V->List V->List V}
end
structure FnScope(N P:List Str)(sc:A1R):Prop where
 kind:sc.kind = .function
 co:sc.isCoroutine=aD
 gen:sc.isGenerator=aD
 nd:N.Nodup
 pre:N.take P.length=P
 par:∀ x∈P,sc.names.lookup x=aA .local\/sc.names.lookup x=aA .cell
 nofree:∀ y∈sc.names,y.2 ≠ .free
theorem Ew{b:Str->Option A2a}{x:Str}:∀{a:List (Str×A1E)} {m:Str->Option A1E},(∀ v,(x,v)∉a)->bindL b a m x=m x
 | [],_,_=>rfl
 | (n,v)::r,m,h=>by
   unfold bindL;rw[Ew λw c=>h w (YC _ c)];split
   ·have:x≠n:=by rintro rfl;exact h v YL
    simp[this]
   ·rfl
theorem Ey{b:Str->Option A2a}{x:Str}:∀{a:List (Str×A1E)} {m:Str->Option A1E},(∀ v,(x,v)∉a)->bindC b a m x=m x
 | [],_,_=>rfl
 | (n,v)::r,m,h=>by
   unfold bindC;rw[Ey λw c=>h w (YC _ c)];split
   ·rfl
   ·have:x≠n:=by rintro rfl;exact h v YL
    simp[this]
theorem Ez{a:Str->Option A2a}{x:Str}{v:A1E}:∀{P:List Str} {vs:List A1E} {i:Nat} {m:Str->Option A1E},P.Nodup->P[i]?=aA x->vs[i]?=aA v->a x=aA .local->
 bindL a (P.zip vs) m x=aA v
 | [],_,_,_,_,h,_,_=>by simp at h
 | _::_,[],_,_,_,_,h,_=>by simp at h
 | p::P,w::vs,0,m,d,b,c,e=>by
   simp at b c;subst b;subst c;show bindL a ((p,w)::P.zip vs) m p=_;unfold bindL;rw[Ew λv f=>(Yy.mp d).1 (Zc f).1,iP e];simp
 | p::P,w::vs,i+1,m,d,b,c,e=>by
   show bindL a ((p,w)::P.zip vs) m x=_;unfold bindL;exact Ez (i:=i) (Yy.mp d).2 (by simpa using b) (by simpa using c) e
theorem F0{a:Str->Option A2a}{x:Str}{v:A1E}:∀{P:List Str} {vs:List A1E} {i:Nat} {m:Str->Option A1E},P.Nodup->P[i]?=aA x->vs[i]?=aA v->a x≠aA .local->
 bindC a (P.zip vs) m x=aA v
 | [],_,_,_,_,h,_,_=>by simp at h
 | _::_,[],_,_,_,_,h,_=>by simp at h
 | p::P,w::vs,0,m,d,b,c,e=>by
   simp at b c;subst b;subst c;show bindC a ((p,w)::P.zip vs) m p=_;unfold bindC;rw[Ey λv f=>(Yy.mp d).1 (Zc f).1,iG e];simp
 | p::P,w::vs,i+1,m,d,b,c,e=>by
   show bindC a ((p,w)::P.zip vs) m x=_;unfold bindC;exact F0 (i:=i) (Yy.mp d).2 (by simpa using b) (by simpa using c) e
noncomputable def start(N:List Str)(vs:List V):St:=vs.map aA++YR (N.length - vs.length) aB
noncomputable def Eg(CX:CXT)(P:A1L)(w:A1N)(K:Y2)(mg:Str->Option A1E)(base:Heap)(N:List Str)(qual:Str)(scope:A1R)(f:A1G)(cd:A1E)(A:A1Q)(outer:List Env)(s:A1F)(H:Hp)(E:XK):Cx where
 prog:=P
 w:=w
 K:=K
 mg:=mg
 base:=base
 A:=A.deeper (envOfC qual scope s.heap.objs.size f cd)
 N:=N
 s₀:=s
 H₀:=H
 env:=envOfC qual scope s.heap.objs.size f cd
 outer:=outer
 stack:=envOfC qual scope s.heap.objs.size f cd::outer
 ex:=[]
 calm:=aC
 fn:=λ_=>aC
 pn:=[]
 xe:=λe s'=>A1J (A1K P w) (A.deeper (envOfC qual scope s.heap.objs.size f cd)) (leaving (envOfC qual scope s.heap.objs.size f cd) e) (λ_ s''=>CX outer H s E e s'') (λe' s''=>CX outer H s E e' s'') s'
def Ga{a:A1R}{n:Nat}{x:Str}(h:a.names.lookup x=aA .cell):∃ c,(A2c n a.names []).lookup x=aA c:=by
 have q:=PySem.W.cellsFrom_some a.names n [] (.inl h);exact Zw.mp q
def LR{CX:CXT}{P:A1L}{w:A1N}{K:Y2}{mg:Str->Option A1E}{base:Heap}{N ps:List Str}{qual:Str}{scope:A1R}{f:A1G}{cd:A1E}{A:A1Q}{outer:List Env}{s s1:A1F}{H:Hp}{E:XK}{us:List A1E}{vs:List V}
 (S:FnScope N ps scope) (hd:A.handled=aB) (e0:Env0 P w K mg base A outer s H) (hl:vs.length=ps.length) (r:Vals vs us)
 (x:InCallC s s.heap.objs.size (bindL (envOfC qual scope s.heap.objs.size f cd).kindOf (ps.zip us) λ_=>aB) (A2c (s.heap.objs.size+1) scope.names []) (bindC (envOfC qual scope s.heap.objs.size f cd).kindOf (ps.zip us) λ_=>aB) s1):
 Inv (Eg CX P w K mg base N qual scope f cd A outer s H E) [] (start N vs) H s1:=by
 have hpl:ps.length<=N.length:=by have:=congrArg A0M S.pre;rw[Z7]at this;omega
 obtain⟨h1,tk,rfl,hk⟩:=x.done;have noA:∀ b:A1G,b∉(Eg CX P w K mg base N qual scope f cd A outer s H E).ex:=λb z=>absurd (show b∈([]:List A1G) from z) (by simp)
 refine⟨⟨e0.mod,S.kind,rfl,rfl,YF _,λy z c h1 h2=>?_,λy hy=>?_,λy c _ h=>?_,λ_=>hd,Around.frames_deeper e0.frames,.inr ⟨rfl,rfl⟩,λb z=>absurd z (noA b),e0.bs,e0.bsz,λb _ _=>noA b,λb z=>absurd z (noA b),e0.funs,e0.frf⟩,
  rfl,e0.bare,Un.kept hk,⟨_,x.toInCall.ns,λi y v h1 h2 h3=>?_⟩,λy c h=>⟨_,x.cell y c h⟩,e0.hok.fresh (YF _),λy c h=>?_,λp hp=>absurd (show p∈([]:List (A1G×Obj)) from hp) (by simp),e0.hok.kept hk,?_⟩
 ·exact name_of_addr x.apart (PySem.mem_of_lookup h1) (PySem.mem_of_lookup h2)
 ·have hy:scope.names.lookup y=aA .cell\/scope.names.lookup y=aA .free:=hy;rcases hy with hy | hy
  ·exact Ga hy
  ·exact absurd rfl (S.nofree _ (PySem.mem_of_lookup hy))
 ·exact Ze (x.above y c (PySem.mem_of_lookup h))
 ·have hi:i<vs.length:=by
   unfold start at h2;by_cases hi:i<vs.length
   ·exact hi
   ·rw[Yz (by simpa using hi)]at h2;rw[ZH]at h2;split at h2<;>cases h2
  have ha:vs[i]?=aA v:=by
   unfold start at h2;rw[YM (by simpa using hi),YA]at h2;cases e:vs[i]? with
   | none=>rw[e]at h2;cases h2
   | some a=>rw[e]at h2;cases h2;rfl
  obtain⟨u,hu,rv⟩:=r.get ha
  have hp:ps[i]?=aA y:=by
   rw[<-S.pre,List.getElem?_take_of_lt (by omega)];exact h1
  have ndP:ps.Nodup:=by rw[<-S.pre];exact S.nd.sublist (List.take_sublist _ _)
  refine⟨u,rv,?_⟩;rcases S.par y (Y7 hp) with k | k
  ·exact .inl ⟨k,Ez ndP hp hu k⟩
  ·obtain⟨c,e⟩:=Ga (n:=s.heap.objs.size+1) k;refine .inr ⟨.inl k,c,e,?_⟩;have q:=x.cell y c e;rw[F0 ndP hp hu (by show scope.names.lookup y≠_;rw[k];decide)]at q;exact q
 ·exact e0.hok.fresh (Ze (x.above y c (PySem.mem_of_lookup h)))
 ·unfold start;show _=N.length;rw[Y5,Y4,ZX];omega
def SX{CX:CXT}{P:A1L}{w:A1N}{K:Y2}{D:Str->Option A1E}{base:Heap}{k:Nat}{f:A1G}{name c:Str}{d:Arguments}{g:List Stmt}{a:A1R}{T U p X cdv Y oc:A1E}{Z od:Option A1G}
 {F:Array (Option A1E)} {N ps:List Str} {sp:Sp} (lk:K.lookup f=aA ⟨oc,od,.func (PySem.W.fnOf name c d g a T U p X Z cdv Y),F⟩) (G:PySem.W.codeIn K cdv c=aC) (S:FnScope N ps a)
 (len:∀ vs H Q E,sp vs H Q E->vs.length=ps.length)
 (j:∀(A:A1Q) (outer:List Env) (s:A1F) (H:Hp) (vs:List V) (Q:VK) (E:XK),Room k (A.deeper (envOfC c a s.heap.objs.size f cdv))->sp vs H Q E->
   ∃ t,PSs (Eg CX P w K D base N c a f cdv A outer s H E) g t/\t {nx:=λ_ i=>Q .non i,rt:=Q} (start N vs) H):
 FnOk P w K D base CX (k+1) f (PySem.W.fnOf name c d g a T U p X Z cdv Y) ps sp:=by
 refine⟨len,λA outer s H a0 us vs Q E L z hb r B=>?_⟩;have hl:=len _ _ _ _ B;have KX:K.In s.heap:=z.mod.kin.keeps λb o e=>(z.bs b o e).1;have M:s.heap.NoLimit:=z.mod.nolimit.keeps λb o e=>(z.bs b o e).1
 have l:∀ y∈ps.zip us,a.names.lookup y.1=aA .local\/(a.names.lookup y.1=aA .cell/\((A2c (s.heap.objs.size+1) a.names []).lookup y.1).isSome=aC):=λ⟨n,v⟩ hy=>by
  rcases S.par n (Zc hy).1 with q | q
  ·exact .inl q
  ·exact .inr ⟨q,PySem.W.cellsFrom_some _ _ _ (.inl q)⟩
 refine codeAny_call_function L.depth (KX _ _ lk) rfl S.co S.gen rfl (PySem.W.codeRec_of KX G) (hb _ _ _ _ ?_);refine wpAny_newFunctionEnv_cells S.kind l λa1 he s1 x=>?_;subst he;refine⟨M.keeps x.toInCall.keep,codeAny_func ?_⟩;obtain⟨t,ht,hq⟩:=j A outer s H vs Q E (L.deeper _) B;have I:Inv (Eg CX P w K D base N c a f cdv A outer s H E) [] (start N vs) H s1:=LR S L.hd z hl r x;refine A23 (ht [] s1 (start N vs) H _ I hq) (λfl O m=>?_) λe O m=>m
 have C:∀{h:St} {i:Hp} {v:V} {u:A1E},Inv (Eg CX P w K D base N c a f cdv A outer s H E) [] h i O->RelV v u->Q v i->CE outer P w H s Q u O:=
  λ{h i v u} J R q=>⟨v,i,J.os,J.bare,J.base,J.hok,R,q⟩
 cases fl with
 | ret u=>
   obtain⟨v,h,i,J,R,q⟩:=m;exact C J R q
 | next=>
   obtain⟨h,i,J,q⟩:=m;exact C (v:=V.non) (u:=Value.none) J rfl q
 | brk=>
   obtain⟨_,_,_,q⟩:=m;exact False.elim q
 | cont=>
   obtain⟨_,_,_,q⟩:=m;exact False.elim q
section
variable{X:Cx}{x:Str}{p pos:Pos}{e:Expr}{es:List Expr}{t:TA}{id T:String}{r:List V->Hp->VK->Prop}
def tCB(r:List V->Hp->VK->Prop)(t:TA):TE:=λa H Q=>t a H λvs b=>r vs b Q
def w9(f:CallR X (.builtin id) r)(g:Gl X x)(i:X.mg x=aB)(j:A1P x=aA (.builtin id))(k:PA X (e::es) t)(l:x≠"__name__":=by decide)(a:(x == ("__debug__":Str))=aD:=by decide)
 (m:A1O (e::es) X.env=(aD,eval e X.env)::A1O es X.env:=by rfl) (b:(backTo pos (A1O es X.env)).any (·.1)=aD:=by rfl):PE X (.Call (.Name x p) (e::es) [] pos) (tCB r t):=by
 intro c s d H Q I h;refine A28 (B7 I g i j ?_ l a);exact PyProof.Rows.callWith_builtin1 (thn (k pos c s d H _ I h) λn o ⟨q,u,v,w,y⟩=>f c o d u q n Q v w y) m b
def Bw(f:CallR X (.type T) r)(g:Gl X x)(i:X.mg x=aB)(j:A1P x=aA (.type T))(k:PA X (e::es) t)(l:x≠"__name__":=by decide)(a:(x == ("__debug__":Str))=aD:=by decide)
 (m:A1O (e::es) X.env=(aD,eval e X.env)::A1O es X.env:=by rfl) (b:(backTo pos (A1O es X.env)).any (·.1)=aD:=by rfl):PE X (.Call (.Name x p) (e::es) [] pos) (tCB r t):=by
 intro c s d H Q I h;refine A28 (B7 I g i j ?_ l a);exact PyProof.Rows.callWith_type1 (thn (k pos c s d H _ I h) λn o ⟨q,u,v,w,y⟩=>f c o d u q n Q v w y) m b
end
end L2
namespace HT
open PySem PyProof.Rows
noncomputable def lexLt:List Int->List Int->Bool
 | [],[]=>aD
 | [],_::_=>aC
 | _::_,[]=>aD
 | x::xs,y::a=>if x=y then lexLt xs a else decide (x<y)
def IW(x y:Int)(xs a:List Int):lexLt (x::xs) (y::a)=if x=y then lexLt xs a else decide (x<y):=rfl
def Eh:lexLt [] []=aD:=rfl
def Do(y:Int)(a:List Int):lexLt [] (y::a)=aC:=rfl
def Dp(x:Int)(xs:List Int):lexLt (x::xs) []=aD:=rfl
def NG(A:A1Q)(s:A1F)(a:Int)(t:Tok)(c:Int)(u:Tok):∃ e,SeqAt.EqAt A s (.int a t) (.int c u) e/\(e=aC↔a=c):=
 ⟨(a == c),SeqAt.EqAt.int_int a t c u,by simp⟩
def rcLt_int(A:A1Q)(s:A1F)(a:Int)(t:Tok)(c:Int)(u:Tok)(prog:A1L)(w:A1N)(E:A1E->A1F->Prop)(Q:A1E->A1F->Prop)(h:Q (.bool (decide (a<c))) s):
 A1J (A1K prog w) A (A2m .Lt (.int a t) (.int c u)) Q E s:=
 (PyProof.Rows.lt_int h:A1J (A1K prog w) A (A1T .Lt (.int a t) (.int c u)) Q E s)
section
open PySem.SeqAt
open PySem.AutoSeq1 (wpAny_loadPart')
open PySem.MeetsSeq PySem.MeetsSeq2 PySem.MeetsSeq3
def Ei(l b:A1G)(items f:Array A1E)(n U:Nat)(dd L:Option A1G)(V M:Array (Option A1E))(ns F:List Int)(Q:IntsAre items.toList ns)(S:IntsAre f.toList F):
 Meets (Builtin.«tuple.__lt__» ⟨[.ref l,.ref b],[]⟩)
  (λ_ R s=>s.heap.get? l=aA {cls := .type "tuple",dict:=dd,data := .seq items n,slots:=V}/\s.heap.get? b=aA {cls := .type "tuple",dict:=L,data := .seq f U,slots:=M}/\
    R (.ok (.ret (.bool (lexLt ns F)))) s):=
 .of_wp λp w A R s h=>by
  obtain⟨G,g,d,H,I⟩:=s;obtain⟨W,X,h⟩:=h;have f2:=AutoSeq1.sub_tuple_tuple;have z1:items.size=ns.length:=by rw[<-Q.length];simp
  have z2:f.size=F.length:=by rw[<-S.length];simp
  wp_walk using wpAny_loadPart' W,wpAny_loadPart' X,wpAny_forIn_list _ (λr b N=>b.1=aB/\N=⟨G,g,d,H,I⟩/\∃(J K:List A1E) (j k:List Int),r=J.zip K/\
   IntsAre J j/\IntsAre K k/\j.length+f.size=k.length+items.size/\R (.ok (.ret (.bool (lexLt j k)))) ⟨G,g,d,H,I⟩) _
  case turn=>
   rintro⟨y,x⟩ r b N ⟨B,rfl,J,K,j,k,m,C,o,i,v⟩;cases C with
   | nil=>rw[List.zip_nil_left]at m;cases m
   | cons a t D=>
     cases o with
     | nil=>rw[List.zip_nil_right]at m;cases m
     | cons c u E=>
       rw[A0Y]at m;injection m with O hrest;injection O with Y hx;subst Y hx;rw[IW]at v;simp only[Ya]at i;obtain⟨e,Z,z⟩:=NG A.in1 ⟨G,g,d,H,I⟩ a t c u;refine A1D (Z p w _ _ ?_);cases e with
       | true=>
         rw[iP (z.mp rfl)]at v
         wp_walk
         exact⟨rfl,rfl,_,_,_,_,hrest,D,E,by omega,v⟩
       | false=>
         rw[iG (λq=>absurd (z.mpr q) YE)]at v;have P:=rcLt_int A.in1 ⟨G,g,d,H,I⟩ a t c u p w
         wp_walk using P
         exact⟨_,rfl,by simpa using v⟩
  case fin=>
   rintro⟨b1,b2⟩ N ⟨B,rfl,J,K,j,k,m,C,o,i,v⟩;simp only at B;subst B
   have T:lexLt j k=decide (items.size<f.size):=by
    cases C with
    | nil=>
      cases o with
      | nil=>
        simp only[ZS]at i;rw[Eh];exact(decide_eq_false (by omega)).symm
      | cons c u hw=>
        simp only[ZS,Ya]at i;rw[Do];exact(decide_eq_true (by omega)).symm
    | cons a t T=>
      cases o with
      | nil=>
        simp only[ZS,Ya]at i;rw[Dp];exact(decide_eq_false (by omega)).symm
      | cons c u hw=>
        rw[A0Y]at m;cases m
   rw[T]at v
   wp_walk
   exact⟨_,rfl,by simpa[Builtin.Tuple.tupleCompareSizes] using v⟩
  case h=>
   exact⟨rfl,rfl,items.toList,f.toList,ns,F,rfl,Q,S,by omega,h⟩
end
section
variable{prog:A1L}{w:A1N}{A:A1Q}{E:A1E->A1F->Prop}{s:A1F}
def lt_tupInts{l b:A1G}{items a:Array A1E}{ns c:List Int}{Q:A1E->A1F->Prop}(r:IsTup s.heap l items)(t:IsTup s.heap b a)(u:IntsAre items.toList ns)(v:IntsAre a.toList c)
 (y:A.units<cLine) (h:Q (.bool (lexLt ns c)) s):A1J (A1K prog w) A (A1T .Lt (.ref l) (.ref b)) Q E s:=by
 obtain⟨⟨z,B,k,C⟩,m,o,n,p⟩:=id r;obtain⟨⟨q,g,i,j⟩,d,e,D,f⟩:=id t;simp only at o p e f;subst o p e f
 exact richCompare_meets_room (op := .Lt) ⟨_,m,rfl⟩ ⟨_,d,rfl⟩ PySem.F.slot_tuple_lt PySem.F.entry_tuple_lt (PySem.F.args_tuple_lt_2 _ _) (Ei l b items a n D B g C j ns c u v)
  ⟨m,d,show Value.bool (lexLt ns c)≠Value.notImplemented/\Q (.bool (lexLt ns c)) s from ⟨(λx=>nomatch x),h⟩⟩ y
noncomputable def sIx(n d:Nat):Option Int->Nat
 | none=>d
 | some v=>if v<0 then (v+(n:Int)).toNat else min v.toNat n
end
end HT
namespace L2
open PySem PySem.Spec PyProof.Rows
abbrev TO:=St->Hp->(Option Int->Hp->Prop)->Prop
noncomputable def PO(X:Cx)(e:Option Expr)(t:TO):Prop:=
 ∀(b:List (A1G×Obj)) (s:A1F) (a:St) (H:Hp) (Q:Option Int->Hp->Prop),Inv X b a H s->t a H Q->
  A1J (A1K X.prog X.w) X.A (evalPart e X.env) (λu d=>∃ o c,Inv X b a c d/\IsPart u o/\Q o c) X.xe s
def QS:TO:=λ_ H Q=>Q aB H
def W7(t:TE):TO:=λa H Q=>t a H λx b=>∃ i,x = .int i/\Q (aA i) b
section
variable{X:Cx}{e:Expr}{te:TE}{lo hi:Option Expr}{tl th:TO}{pos p2:Pos}
def QT:PO X aB QS:=by
 intro a s b H Q I h;rw[evalPart_none];exact A1H ⟨aB,H,I,.none,h⟩
def QU(h:PE X e te):PO X (aA e) (W7 te):=by
 intro a s b H Q I c;rw[evalPart_some];refine thn (h a s b H _ I c) λu l d=>?_;obtain⟨x,f,g,j,k⟩:=d;obtain⟨i,rfl,q⟩:=k;obtain⟨t,rfl⟩:=j;exact⟨aA i,f,g,.int i t,q⟩
noncomputable def SlR(X:Cx)(r:V->Option Int->Option Int->Hp->VK->Prop):Prop:=
 ∀(a:List (A1G×Obj)) (s:A1F) (b:St) (H:Hp) (x:V) (v c d:A1E) (lo hi:Option Int) (f:A1G) (Q:VK),Inv X a b H s->RelV x v->s.heap.IsSliceOf f c d .none->IsPart c lo->IsPart d hi->r x lo hi H Q->
  ∃ T id,A3V (.type T) "__getitem__"=pure (aA (.builtin id))/\s.TypeIs v T/\A1J (A1K X.prog X.w) X.A (getItem v (.ref f)) (EP X a b Q) X.xe s
def SlR.or{r a:V->Option Int->Option Int->Hp->VK->Prop}(h:SlR X r)(h':SlR X a):SlR X (λx lo hi H Q=>r x lo hi H Q\/a x lo hi H Q):=by
 intro b s c H x v d f lo hi g Q I i j k l q;rcases q with q | q
 ·exact h b s c H x v d f lo hi g Q I i j k l q
 ·exact h' b s c H x v d f lo hi g Q I i j k l q
noncomputable def W8(xs:List V)(a b:Option Int):List V:=(xs.drop (HT.sIx xs.length 0 a)).take (HT.sIx xs.length xs.length b - HT.sIx xs.length 0 a)
end
noncomputable def ixN(n:Nat)(i:Int):Option Nat:=if 0<=i then (if i<n then aA i.toNat else aB) else if -(n:Int)<=i then aA (i+n).toNat else aB
noncomputable def atI{α:Type}(xs:List α)(i:Int):Option α:=(ixN xs.length i).bind λj=>xs[j]?
def Jm{n:Nat}{i:Int}{j:Nat}(h:ixN n i=aA j):seqIndex? i n=aA j/\j<n /\ -(n:Int)<=i/\i<n:=by
 unfold ixN at h;by_cases b:0<=i
 ·rw[iP b]at h;by_cases a:i<n
  ·rw[iP a]at h;have e:i.toNat=j:=oj h;exact⟨by rw[A3N b a,e],by omega,by omega,a⟩
  ·rw[iG a]at h;cases h
 ·rw[iG b]at h;by_cases a:-(n:Int)<=i
  ·rw[iP a]at h;have e:(i+n).toNat=j:=oj h;exact⟨by rw[A3F (by omega) a,e],by omega,a,by omega⟩
  ·rw[iG a]at h;cases h
def Jn{α:Type}{xs:List α}{i:Int}{v:α}(h:atI xs i=aA v):∃ j,seqIndex? i xs.length=aA j/\xs[j]?=aA v/\j<xs.length /\ -(xs.length:Int)<=i/\i<xs.length:=by
 unfold atI at h;cases e:ixN xs.length i with
 | none=>rw[e]at h;cases h
 | some j=>
   rw[e]at h;obtain⟨a,b,c,d⟩:=Jm e;exact⟨j,a,h,b,c,d⟩
def k8{α:Type}{xs:List α}{j:Nat}{v:α}(h:xs[j]?=aA v):atI xs (j:Int)=aA v:=by
 have a:j<xs.length:=(gM h).1
 have e:ixN xs.length (j:Int)=aA j:=by
  unfold ixN;rw[iP (by omega),iP (by omega)];simp
 unfold atI;rw[e];exact h
def Gb{α:Type}(xs:List α)(v:α):atI (xs++[v]) (-1)=aA v:=by
 have a:(xs++[v]).length=xs.length+1:=by simp
 have e:ixN (xs++[v]).length (-1)=aA xs.length:=by
  unfold ixN;rw[a,iG (by decide),iP (by omega)]
  congr 1
  omega
 unfold atI;rw[e];show(xs++[v])[xs.length]?=aA v;simp
def Jo(b:Expr):Prop:=∀ o i,A3s b aD o i=operate [o,i] (getItem o i)
noncomputable def IxR(X:Cx)(r:R2):Prop:=
 ∀(b a:Expr) (c:List (A1G×Obj)) (s:A1F) (d:St) (H:Hp) (x y:V) (v u:A1E) (Q:VK),Inv X c d H s->RelV x v->RelV y u->r x y H Q->
  A3s a aD v u=operate [v,u] (getItem v u)->A1J (A1K X.prog X.w) X.A (subscriptTail b a v u) (EP X c d Q) X.xe s
noncomputable def MtR(X:Cx)(id:String)(r:V->List V->Hp->VK->Prop):Prop:=
 ∀(a:List (A1G×Obj)) (s:A1F) (b:St) (H:Hp) (x:V) (xs:List V) (v:A1E) (c:List A1E) (Q:VK),Inv X a b H s->RelV x v->Vals xs c->r x xs H Q->
  A1J (A1K X.prog X.w) X.A (call (.builtin id) (v::c)) (EP X a b Q) X.xe s
section
variable{X:Cx}{a b:Expr}{ta tb:TE}{pos:Pos}
def IxR.or{r e:R2}(h:IxR X r)(h':IxR X e):IxR X (λx y H Q=>r x y H Q\/e x y H Q):=by
 intro c d f s g H x y v u Q I i j q k;rcases q with q | q
 ·exact h c d f s g H x y v u Q I i j q k
 ·exact h' c d f s g H x y v u Q I i j q k
def W9{r:R2}(c:IxR X r)(d:PE X a ta)(e:PE X b tb)(f:Jo b):PE X (.Subscript a b pos) (tOp r ta tb):=by
 intro g s i H Q I h;exact Subscript_ (Tw d e I h λv u j x y k l m n q=>c a b g j i k x y v u Q l m n q (f _ _))
noncomputable def WB(K:Y2):R2:=λx y H Q=>∃ p xs i v,x = .ref p/\y = .int i/\SqL K H p xs/\atI xs i=aA v/\Q v H
noncomputable def WC(K:Y2):R2:=λx y H Q=>∃ p xs i v,x = .ref p/\y = .int i/\SqT K H p xs/\atI xs i=aA v/\Q v H
def ix_list:IxR X (WB X.K):=by
 intro e f n s o H x y v u Q I D E h A;obtain⟨p,P,i,z,rfl,rfl,F,G,q⟩:=h;cases D;obtain⟨t,rfl⟩:=E;obtain⟨g,r,k,R⟩:=I.list F;obtain⟨j,d,J,S,L,M⟩:=Jn G;obtain⟨w,B,l⟩:=r.get J;have N:=r.length;have T:=BW;have c:EP X n o Q w s:=⟨z,H,I,l,q⟩
 by_cases C:0<=i
 ·have m:i.toNat=j:=by
   rw[A3N C M]at d;exact oj d
  exact item_listR k.isList C (by omega) (by rw[m];simpa using B) c A
 ·have m:(i+(g.toArray.size:Int)).toNat=j:=by
   rw[A3F (by omega) L]at d;rw[YB,<-N];exact oj d
  exact A3f (x:=w) k.isList.typeIs slot_list_getitem.lookup
   (wpAny_getItem_list_neg (Q:=λr O=>r=w/\EP X n o Q r O) k.isList (by omega) (by rw[YB]<;>omega) (by omega) (by rw[m];simpa using B) ⟨rfl,c⟩) A
def U8:IxR X (WC X.K):=by
 intro c d g s k H x y v u Q I m n h o;obtain⟨p,L,i,z,rfl,rfl,A,B,q⟩:=h;cases m;obtain⟨t,rfl⟩:=n;obtain⟨C,r,l,M⟩:=I.tuple A;obtain⟨j,D,E,N,O,P⟩:=Jn B;obtain⟨w,F,e⟩:=r.get E;have G:=r.length;have R:=BW;have f:EP X g k Q w s:=⟨z,H,I,e,q⟩
 exact A3f (x:=w) l.typeIs slot_tuple_getitem.lookup
  (getItem_tuple (j:=j) (Q:=λr J=>r=w/\EP X g k Q r J) l (by omega) (by omega) (by rw[YB,<-G];exact D) (by simpa using F) ⟨rfl,f⟩) o
def IY(c:List A1E)(n j:Nat)(u:A1E):Obj.mapSeq (·.setIfInBounds j u) {cls := .type "list",data := .seq c.toArray n}={cls := .type "list",data := .seq (c.set j u).toArray n}:=by
 simp[Obj.mapSeq]
def Inv.lst{d:List (A1G×Obj)}{f:St}{H:Hp}{s:A1F}{p:A1G}{xs:List V}(I:Inv X d f H s)(h:H p=aA (.lst xs)):
 ∃(c:List A1E) (n:Nat),Vals xs c/\s.heap.get? p=aA {cls := .type "list",data := .seq c.toArray n}/\xs.length<=A1M:=by
 obtain⟨z,c,n,r,e⟩:=I.hok p _ h;exact⟨c,n,r,e,z⟩
def Inv.lstUpd{i:List (A1G×Obj)}{j:St}{H:Hp}{s:A1F}{p:A1G}{xs d:List V}{c its':List A1E}{n g:Nat}{f:Obj->Obj}(I:Inv X i j H s)(h:H p=aA (.lst xs))
 (l:s.heap.get? p=aA {cls := .type "list",data := .seq c.toArray n}) (k:f {cls := .type "list",data := .seq c.toArray n}={cls := .type "list",data := .seq its'.toArray g}) (r:Vals d its') (hz:d.length<=A1M) (t:Nat):
 Inv X i j (upd H p (.lst d)) {s with heap:=s.heap.update p f,toks:=t}:=by
 have e:(s.heap.update p f).get? p=aA {cls := .type "list",data := .seq its'.toArray g}:=by
  rw[Yc f l (by rw[k]<;>rfl),k]
 refine I.write (x:=p) (e:=p) (by rw[h];trivial) (.inl rfl) (λb u m q=>(Yi _ _ (Ne.symm m)).trans q) ⟨_,e⟩ ?_;exact⟨hz,its',g,r,e⟩
noncomputable def Jp:V->V->V->Hp->(Hp->Prop)->Prop:=λo i v H Q=>∃ p xs k j,o = .ref p/\i = .int k/\H p=aA (.lst xs)/\ixN xs.length k=aA j/\Q (upd H p (.lst (xs.set j v)))
def Gc:Tp X Jp:=by
 intro z s A H o i v G J u Q I ro B C h;obtain⟨p,D,k,j,rfl,rfl,l,E,q⟩:=h;cases ro;obtain⟨t,rfl⟩:=B;obtain⟨c,n,r,e,F⟩:=I.lst l;obtain⟨d,K,m,w⟩:=Jm E;have f:=r.length;have L:=BW
 have x:Inv X z A (upd H p (.lst (D.set j v))) {s with heap:=s.heap.update p (Obj.mapSeq (·.setIfInBounds j u))}:=
  I.lstUpd l e (IY c n j u) (r.set C j) (by rw[YZ];exact F) s.toks
 by_cases y:0<=k
 ·have g:k.toNat=j:=by
   rw[A3N y w]at d;exact oj d
  exact PySem.W.ki_setAt e y (by omega) (by rw[YB,<-f];exact w) (by rw[g];exact⟨_,x,q⟩)
 ·have g:(k+(c.toArray.size:Int)).toNat=j:=by
   rw[A3F (by omega) m]at d;rw[YB,<-f];exact oj d
  exact PySem.W.ki_setBack e (by omega) (by rw[YB,<-f];exact m) (by omega) (by rw[g];exact⟨_,x,q⟩)
def AH:V->Bool
 | .non=>aC
 | .bl _=>aC
 | .int _=>aC
 | .str _=>aC
 | _=>aD
noncomputable def eqV:V->V->Bool
 | .non,.non=>aC
 | .bl a,.bl b=>a == b
 | .bl a,.int b=>(if a then 1 else 0) == b
 | .int a,.bl b=>a == (if b then 1 else 0)
 | .int a,.int b=>a == b
 | .str a,.str b=>a == b
 | _,_=>aD
def NH{A:A1Q}{s:A1F}{y x:V}{u v:A1E}(e:RelV y u)(c:RelV x v)(g:AH y=aC)(f:AH x=aC):SeqAt.EqAt A s u v (eqV y x):=by
 cases y with
 | non=>
   cases e;cases x with
   | non=>cases c;exact SeqAt.EqAt.same _
   | bl b=>cases c;exact SeqAt.EqAt.none_bool b
   | int b=>obtain⟨t,rfl⟩:=c;exact SeqAt.EqAt.none_int b t
   | str b=>obtain⟨t,rfl⟩:=c;exact SeqAt.EqAt.none_str b t
   | _=>exact absurd (show aD=aC from f) YE
 | bl a=>
   cases e;cases x with
   | non=>cases c;exact SeqAt.EqAt.bool_none a
   | bl b=>cases c;exact SeqAt.EqAt.bool_bool a b
   | int b=>obtain⟨t,rfl⟩:=c;exact SeqAt.EqAt.bool_int a b t
   | str b=>obtain⟨t,rfl⟩:=c;exact SeqAt.EqAt.bool_str a b t
   | _=>exact absurd (show aD=aC from f) YE
 | int a=>
   obtain⟨d,rfl⟩:=e;cases x with
   | non=>cases c;exact SeqAt.EqAt.int_none a d
   | bl b=>cases c;exact SeqAt.EqAt.int_bool a d b
   | int b=>obtain⟨t,rfl⟩:=c;exact SeqAt.EqAt.int_int a d b t
   | str b=>obtain⟨t,rfl⟩:=c;exact SeqAt.EqAt.int_str a d b t
   | _=>exact absurd (show aD=aC from f) YE
 | str a=>
   obtain⟨d,rfl⟩:=e;cases x with
   | non=>cases c;exact SeqAt.EqAt.str_none a d
   | bl b=>cases c;exact SeqAt.EqAt.str_bool a d b
   | int b=>obtain⟨t,rfl⟩:=c;exact SeqAt.EqAt.str_int a d b t
   | str b=>obtain⟨t,rfl⟩:=c;exact SeqAt.EqAt.str_str a d b t
   | _=>exact absurd (show aD=aC from f) YE
 | _=>exact absurd (show aD=aC from g) YE
noncomputable def eqU(x:V)(u:A1E):Bool:=match u with
 | .none=>eqV .non x
 | .bool b=>eqV (.bl b) x
 | .int i _=>eqV (.int i) x
 | .str z _=>eqV (.str z) x
 | _=>aD
def FY{x y:V}{u:A1E}(r:RelV y u)(f:AH y=aC):eqU x u=eqV y x:=by
 cases y with
 | non=>cases r;rfl
 | bl b=>cases r;rfl
 | int i=>obtain⟨t,rfl⟩:=r;rfl
 | str z=>obtain⟨t,rfl⟩:=r;rfl
 | _=>exact absurd (show aD=aC from f) YE
theorem CU{x:V}:∀{xs:List V} {c:List A1E},Vals xs c->xs.all AH=aC->c.any (eqU x)=xs.any λy=>eqV y x
 | _,_,.nil,_=>rfl
 | y::xs,u::c,.cons r t,f=>by
   rw[Z6,Y3]at f;rw[ZL,ZL,FY r f.1,CU t f.2]
theorem Al{A:A1Q}{s:A1F}{x:V}{v:A1E}(e:RelV x v)(g:AH x=aC):∀{xs:List V} {d:List A1E},Vals xs d->xs.all AH=aC->∀ u∈d,SeqAt.EqAt A s u v (eqU x u)
 | _,_,.nil,_=>λu c=>by cases c
 | y::xs,u::d,.cons r t,f=>λh c=>by
   rw[Z6,Y3]at f;rcases YH.mp c with rfl | c
   ·rw[FY r f.1];exact NH r e f.1 g
   ·exact Al e g t f.2 h c
noncomputable def inV(x:V)(xs:List V):Bool:=xs.any λy=>eqV y x
noncomputable def rIn(K:Y2)(neg:Bool):R2:=λx y H Q=>∃ p xs,y = .ref p/\(SqL K H p xs\/SqT K H p xs)/\AH x=aC/\xs.all AH=aC/\Q (.bl (if neg then !inV x xs else inV x xs)) H
def LS:OpR X (A1T .In) (rIn X.K aD):=by
 intro m s n H x y v u Q I i k h;obtain⟨p,o,rfl,d,j,e,q⟩:=h;cases k;rcases d with d | d
 ·obtain⟨c,r,f,l⟩:=I.list d;refine SeqAt.in_listAt (eqU x) f.isList (λw g=>Al i j r e w (by simpa using g)) ⟨.bl _,H,I,rfl,?_⟩;rw[show c.toArray.any (eqU x)=c.any (eqU x) by simp,CU r e];exact q
 ·obtain⟨c,r,f,l⟩:=I.tuple d;refine SeqAt.in_tupleAt (eqU x) f (λw g=>Al i j r e w (by simpa using g)) ⟨.bl _,H,I,rfl,?_⟩;rw[show c.toArray.any (eqU x)=c.any (eqU x) by simp,CU r e];exact q
def FZ:OpR X (A1T .NotIn) (rIn X.K aC):=by
 intro m s n H x y v u Q I i k h;obtain⟨p,o,rfl,d,j,e,q⟩:=h;cases k;rcases d with d | d
 ·obtain⟨c,r,f,l⟩:=I.list d;refine SeqAt.notIn_listAt (eqU x) f.isList (λw g=>Al i j r e w (by simpa using g)) ⟨.bl _,H,I,rfl,?_⟩;rw[show c.toArray.any (eqU x)=c.any (eqU x) by simp,CU r e];exact q
 ·obtain⟨c,r,f,l⟩:=I.tuple d;refine SeqAt.notIn_tupleAt (eqU x) f (λw g=>Al i j r e w (by simpa using g)) ⟨.bl _,H,I,rfl,?_⟩;rw[show c.toArray.any (eqU x)=c.any (eqU x) by simp,CU r e];exact q
def Fa:CallR X (.builtin "len") (λj H Q=>∃ p d,j=[.ref p]/\(SqL X.K H p d\/SqT X.K H p d)/\Q (.int d.length) H):=by
 intro m s n H j o Q I r h;obtain⟨p,d,rfl,e,q⟩:=h;obtain⟨u,rfl,k⟩:=B2 r;cases k;have t:=BW;rcases e with e | e
 ·obtain⟨f,g,i,l⟩:=I.list e;have c:=g.length;exact Calls.call_len_list i.isList (by simp only[YB]<;>omega) ⟨.int d.length,H,I.tok _,⟨s.toks+1,by rw[YB,c]⟩,q⟩
 ·obtain⟨f,g,i,l⟩:=I.tuple e;have c:=g.length;exact len_tuple i (by simp only[YB]<;>omega) ⟨.int d.length,H,I.tok _,⟨s.toks+1,by rw[YB,c]⟩,q⟩
def CallR.or{f:A1E}{r d:List V->Hp->VK->Prop}(h:CallR X f r)(h':CallR X f d):CallR X f (λc H Q=>r c H Q\/d c H Q):=by
 intro e s g H c i Q I j q;rcases q with q | q
 ·exact h e s g H c i Q I j q
 ·exact h' e s g H c i Q I j q
def Fb:CallR X (.type "list") (λB H Q=>∃ p f,B=[.ref p]/\(SqL X.K H p f\/SqT X.K H p f)/\∀ l,H l=aB->Q (.ref l) (upd H l (.lst f))):=by
 intro D s E H B G Q I r h;obtain⟨p,f,rfl,j,q⟩:=h;obtain⟨u,rfl,F⟩:=B2 r;cases F
 have k:∀(c:List A1E),Vals f c->f.length<=A1M->∀(d:Heap) (g:Nat),(∀ b C,s.heap.get? b=aA C->d.get? b=aA C)->
  d.get? s.heap.objs.size=aA {cls := .type "list",dict:=aB,data := .seq c.toArray g,slots:=#[]}->EP X D E Q (.ref s.heap.objs.size) {s with heap:=d}:=λc i m d g t e=>
  ⟨.ref s.heap.objs.size,_,I.laid (t':=s.toks) t (YF _) (show ObjOk X.prog X.w _ d _ (.lst f) from ⟨m,c,g,i,e⟩),rfl,q _ (I.hok.fresh (YF _))⟩
 rcases j with j | j
 ·obtain⟨c,i,x,m⟩:=I.list j;have v:=i.length;obtain⟨o,y,z,n,A⟩:=x.isList;exact call_list_seq p (.inl rfl) y z A (λd g t e=>k c i m d g t e) (by simp only[YB]<;>omega)
 ·obtain⟨c,i,x,m⟩:=I.tuple j;have v:=i.length;obtain⟨o,y,z,n,A⟩:=x;exact call_list_seq p (.inr rfl) y z A (λd g t e=>k c i m d g t e) (by simp only[YB]<;>omega)
def Ej:CallR X (.type "tuple") (λk H Q=>∃ p d,k=[.ref p]/\((SqL X.K H p d/\∀ l,H l=aB->Q (.ref l) (upd H l (.tup d)))\/(SqT X.K H p d/\Q (.ref p) H))):=by
 intro m s n H k B Q I r h;obtain⟨p,d,rfl,h⟩:=h;obtain⟨u,rfl,y⟩:=B2 r;cases y;rcases h with⟨g,q⟩ | ⟨g,q⟩
 ·obtain⟨c,i,j,t⟩:=I.list g;have v:=i.length;refine call_tuple_list j.isList (λf z=>?_) (by simp only[YB]<;>omega);have x:Inv X m n H {s with heap:=f}:=I.kept (t':=s.toks) z
  have A:Inv X m n (upd H f.objs.size (.tup d)) {s with heap:=f.push {cls := .type "tuple",data := .seq c.toArray}}:=
   x.laid (t':=s.toks) (λb o e=>Y8 _ e) (YF _) (show ObjOk X.prog X.w _ _ _ (.tup d) from ⟨t,c,i,IsTup.new _ _⟩)
  exact⟨.ref f.objs.size,_,A,rfl,q _ (x.hok.fresh (YF _))⟩
 ·obtain⟨c,i,j,t⟩:=I.tuple g;exact call_tuple_same j ⟨.ref p,H,I,rfl,q⟩
def tyV(K:Y2)(T:String)(x:V)(H:Hp):Prop:=match x with
 | .str _=>T="str"
 | .int _=>T="int"
 | .ref p=>(T="list"/\∃ xs,SqL K H p xs)\/(T="tuple"/\∃ o,K.lookup p=aA o/\o.cls = .type "tuple"/\o.dict=aB)\/
    (T="dict"/\((∃ c,H p=aA (.dK c))\/∃ c,H p=aA (.dT c)))\/(T="set"/\∃ S n,H p=aA (.set S n))
 | _=>False
def NI{m:List (A1G×Obj)}{q:St}{H:Hp}{s:A1F}{T:String}{x:V}{v:A1E}(I:Inv X m q H s)(r:RelV x v)(ty:tyV X.K T x H):
 s.TypeIs v T/\∀ a,v = .ref a->∃ k,s.heap.get? a=aA k/\k.dict=aB:=by
 cases x with
 | str z=>
   obtain⟨t,rfl⟩:=r;cases(show T="str" from ty);exact⟨typeIs_str s z t,λ_ e=>nomatch e⟩
 | int i=>
   obtain⟨t,rfl⟩:=r;cases(show T="int" from ty);exact⟨A3g s i t,λ_ e=>nomatch e⟩
 | ref p=>
   cases r;rcases ty with⟨rfl,A,u⟩ | ⟨rfl,o,d,w,g⟩ | ⟨rfl,d⟩ | ⟨rfl,S,n,d⟩
   ·obtain⟨y,_,l,_⟩:=I.list u;refine⟨l.isList.typeIs,λa e=>?_⟩;cases e;obtain⟨o,n,e,c,g,_⟩:=l;exact⟨o,e,g⟩
   ·refine⟨⟨o,I.kIn p o d,w⟩,λa e=>?_⟩;cases e;exact⟨o,I.kIn _ o d,g⟩
   ·have z:∃ o,s.heap.get? p=aA o/\o.ExactDict:=by
     rcases d with⟨h,d⟩ | ⟨h,d⟩
     ·obtain⟨_,_,_,_,o,_,_,e,f,_⟩:=I.hok p _ d;exact⟨o,e,f⟩
     ·obtain⟨_,_,_,_,o,_,_,e,f,_⟩:=I.hok p _ d;exact⟨o,e,f⟩
    obtain⟨o,e,f⟩:=z;refine⟨⟨o,e,f.1⟩,λa j=>?_⟩;cases j;exact⟨o,e,f.2.1⟩
   ·obtain⟨o,_,_,_,e,f,_⟩:=I.hok p _ d;refine⟨⟨o,e,f.1⟩,λa j=>?_⟩;cases j;exact⟨o,e,f.2.1⟩
 | _=>exact False.elim ty
def U9(K:Y2)(T:String)(r:V->List V->Hp->VK->Prop)(d:TE):TE:=λe H Q=>d e H λx c=>tyV K T x c/\r x [] c Q
def tBM(K:Y2)(T:String)(r:V->List V->Hp->VK->Prop)(e:TE)(t:TA):TE:=λc H Q=>e c H λx d=>tyV K T x d/\t c d λxs f=>r x xs f Q
variable{o e:Expr}{es:List Expr}{to:TE}{t:TA}{name:Str}{apos cpos:Pos}{T id:String}{r:V->List V->Hp->VK->Prop}
def Co(m:PlainAttrs T)(f:Slot T name id)(g:typeOf (.builtin id)=pure (.type "method_descriptor"))(n:MtR X id r)(p:PE X o to)
 (c:A2J o name X.env (eval o X.env)=eval o X.env:=by rfl) (d:(apos.endLine == cpos.line)=aC:=by rfl):PE X (.Call (.Attribute o name apos) [] [] cpos) (U9 X.K T r to):=by
 intro i s j H Q I h;refine A36 c d (thn (p i s j H _ I h) λv q u=>?_);obtain⟨x,w,k,l,ty,y⟩:=u;obtain⟨z,A⟩:=NI k l ty;exact⟨T,id,m,f,g,z,A,Calls.callWith_builtin rfl (PySem.evalArgs_none (n i q j w x [] v [] Q k l .nil y))⟩
def F1(q:PlainAttrs T)(g:Slot T name id)(j:typeOf (.builtin id)=pure (.type "method_descriptor"))(u:MtR X id r)(w:PE X o to)(y:PA X (e::es) t)
 (d:A2J o name X.env (eval o X.env)=eval o X.env:=by rfl)
 (i:((backTo cpos (A1O (e::es) X.env)).all (λx=>!x.1)&&(A2U cpos (A2v [] X.env)).all (λx=>x.1.isSome)
   && decide ((e::es).length+([]:List Keyword).length+(if ([]:List Keyword).isEmpty then 0 else 1)<30))=aC:=by rfl)
 (f:(apos.endLine == cpos.line)=aC:=by rfl) (z:A1O (e::es) X.env=(aD,eval e X.env)::A1O es X.env:=by rfl) (c:(backTo cpos (A1O es X.env)).any (·.1)=aD:=by rfl):
 PE X (.Call (.Attribute o name apos) (e::es) [] cpos) (tBM X.K T r to t):=by
 intro k s l H Q I h;refine wpAny_Call_method_late d i f rfl (thn (w k s l H _ I h) λv A B=>?_);obtain⟨x,C,m,n,ty,D⟩:=B;obtain⟨E,F⟩:=NI m n ty;refine⟨T,id,q,g,j,E,F,?_⟩;have p:=y cpos k A l C _ m D;rw[z]at p ⊢;refine Calls.callWith_builtin (by show(aD||(backTo cpos (A1O es X.env)).any (·.1))=aD;rw[c]<;>rfl) (Calls.evalArgs_plain ?_);exact thn p λG J ⟨L,M,N,O,P⟩=>u k J l M x L v G Q N n O P
end
noncomputable def MtM(X:Cx)(id:String)(r:V->List V->Hp->VK->Prop):Prop:=
 ∀(a:List (A1G×Obj)) (s:A1F) (b:St) (H:Hp) (x:V) (xs:List V) (v:A1E) (c:List A1E) (Q:VK),Inv X a b H s->RelV x v->Vals xs c->r x xs H Q->
  A1J (A1K X.prog X.w) X.A (call (.builtin id) (v::c)) (EP X a b Q) X.xe s
def Vals.one{x:V}{a:List A1E}(h:Vals [x] a):∃ u,a=[u]/\RelV x u:=by
 cases h with
 | cons r q=>cases q;exact⟨_,rfl,r⟩
def Vals.two{x y:V}{a:List A1E}(h:Vals [x,y] a):∃ u v,a=[u,v]/\RelV x u/\RelV y v:=by
 cases h with
 | cons r q=>
   obtain⟨v,rfl,s⟩:=Vals.one q;exact⟨_,v,rfl,r,s⟩
def Vals.zero:∀{a:List A1E},Vals [] a->a=[]
 | _,.nil=>rfl
def Vals.dropLast{xs:List V}{a:List A1E}(h:Vals xs a):Vals xs.dropLast a.dropLast:=by
 induction h with
 | nil=>exact .nil
 | cons r t b=>
   cases t with
   | nil=>exact .nil
   | cons q c=>exact .cons r b
theorem Vals.eraseIdx:∀{xs:List V} {a:List A1E} (i:Nat),Vals xs a->Vals (xs.eraseIdx i) (a.eraseIdx i)
 | _,_,_,.nil => .nil
 | _,_,0,.cons _ t=>t
 | _,_,i+1,.cons r t => .cons r (Vals.eraseIdx i t)
def Vals.reverse{xs:List V}{a:List A1E}(h:Vals xs a):Vals xs.reverse a.reverse:=by
 induction h with
 | nil=>exact .nil
 | cons r t b=>rw[Zf,Zf];exact Vals.append b (.cons r .nil)
theorem Vals.rep{xs:List V}{a:List A1E}(h:Vals xs a):∀ k:Nat,Vals (YR k xs).flatten (YR k a).flatten
 | 0 => .nil
 | k+1=>by
   rw[Yv,Yv,ZA,ZA];exact Vals.append h (Vals.rep h k)
theorem F2(a:List A1E):∀(k:Nat) (b:List A1E),
 A1o (λc d=>c++d) b.toArray (YR k a.toArray)=(b++(YR k a).flatten).toArray
 | 0,b=>by simp
 | k+1,b=>by
   have e:b.toArray++a.toArray=(b++a).toArray:=by simp
   have f:(b++a)++(YR k a).flatten=b++(YR (k+1) a).flatten:=by
    rw[Yv,ZA,A00]
   rw[<-f,<-F2 a k (b++a),<-e,Yv,List.foldl_cons]
section
variable{X:Cx}{pq:List (A1G×Obj)}{σ:St}{H:Hp}{s:A1F}{l b:A1G}{xs ys zs:List V}
def Inv.lset{a its':List A1E}{n:Nat}{f:Array A1E->Array A1E}{t':Nat}(I:Inv X pq σ H s)(c:H l=aA (.lst xs))
 (e:s.heap.get? l=aA {cls := .type "list",data := .seq a.toArray n}) (d:f a.toArray=its'.toArray) (g:Vals ys its') (hz:ys.length<=A1M):
 Inv X pq σ (upd H l (.lst ys)) {s with heap:=s.heap.update l (Obj.mapSeq f),toks:=t'}:=by
 have q:=PySem.IsL.update e f;rw[d]at q;refine I.write (x:=l) (e:=l) (by rw[c];exact trivial) (.inl rfl) (λj u h i=>(Yi s.heap (Obj.mapSeq f) (Ne.symm h)).trans i) ⟨_,q⟩ ?_;exact⟨hz,its',_,g,q⟩
def Inv.lnew{a:List A1E}{t':Nat}(I:Inv X pq σ H s)(c:Vals ys a)(hz:ys.length<=A1M):
 Inv X pq σ (upd H s.heap.objs.size (.lst ys)) {s with heap:=s.heap.push {cls := .type "list",data := .seq a.toArray},toks:=t'}:=
 I.laid (λ_ _ q=>Y8 _ q) (YF _) ⟨hz,a,0,c,YI _ rfl⟩
def Inv.fresh(I:Inv X pq σ H s):H s.heap.objs.size=aB:=I.hok.fresh (YF _)
def Inv.lstM(I:Inv X pq σ H s)(c:H l=aA (.lst xs)):xs.length<=A1M/\∃(a:List A1E) (n:Nat),Vals xs a/\xs.length=a.length/\s.heap.get? l=aA {cls := .type "list",data := .seq a.toArray n}:=by
 obtain⟨z,a,n,r,e⟩:=I.hok l _ c;exact⟨z,a,n,r,r.length,e⟩
def Ge{n:Nat}(h:n<=A1M):Builtin.List.listTooLong n=aD:=by
 unfold Builtin.List.listTooLong;exact decide_eq_false (by omega)
end
section
variable{X:Cx}
noncomputable def Jq:V->List V->Hp->VK->Prop:=λx vs H Q=>∃ l xs y,x = .ref l/\vs=[y]/\H l=aA (.lst xs)/\xs.length<A1M/\Q .non (upd H l (.lst (xs++[y])))
def Cp:MtM X "list.append" Jq:=by
 intro g s i H x j v k Q I c d h;obtain⟨l,m,y,rfl,rfl,b,o,q⟩:=h;cases c;obtain⟨u,rfl,f⟩:=d.one;obtain⟨z,a,n,r,p,e⟩:=I.lstM b;refine A2B F.slot_list_append ⟨_,e,rfl⟩ F.entry_list_append (F.args_list_append_2 _ _) (PySem.list_append l a.toArray n u (by rw[YB];omega)) ⟨e,?_⟩;refine⟨.non,_,I.lset (its':=a++[u]) b e (by simp) (r.append (.cons f .nil)) ?_,rfl,q⟩;rw[Y5,Yt];omega
noncomputable def Jr:V->List V->Hp->VK->Prop:=λx vs H Q=>∃ l b xs a,x = .ref l/\vs=[.ref b]/\H l=aA (.lst xs)/\H b=aA (.lst a)/\xs.length+a.length<=A1M/\Q .non (upd H l (.lst (xs++a)))
def F3:MtM X "list.extend" Jr:=by
 intro y s A H x B v C Q I i j h;obtain⟨l,b,D,E,rfl,rfl,g,k,G,q⟩:=h;cases i;obtain⟨u,rfl,m⟩:=j.one;cases m;obtain⟨z,c,n,r,J,e⟩:=I.lstM g;obtain⟨K,a,o,p,t,w⟩:=I.lstM k;have f:c.toArray.size+a.toArray.size<=A1M:=by rw[YB,YB];omega
 have d:¬ (!c.toArray.isEmpty&&Builtin.List.listTooLong (c.toArray.size+a.toArray.size))=aC:=by
  rw[Ge f,A1p];exact YE
 refine A2B F.slot_list_extend ⟨_,e,rfl⟩ F.entry_list_extend (F.args_list_extend_2 _ _)
  (AutoSeq1.list_extend_list_list_0 l c.toArray n b a.toArray o d (by rw[YB];omega) (by omega)) ⟨e,w,?_⟩
 refine⟨.non,_,I.lset (its':=c++a) g e (by simp) (r.append p) ?_,rfl,q⟩;rw[Y5];omega
noncomputable def Gf:V->List V->Hp->VK->Prop:=λx vs H Q=>∃ l xs,x = .ref l/\vs=[]/\H l=aA (.lst xs)/\Q .non (upd H l (.lst xs.reverse))
def Dq:MtM X "list.reverse" Gf:=by
 intro g s i H x j v k Q I d f h;obtain⟨l,m,rfl,rfl,c,q⟩:=h;cases d;have b:=f.zero;subst b;obtain⟨z,a,n,r,o,e⟩:=I.lstM c;refine A2B F.slot_list_reverse ⟨_,e,rfl⟩ F.entry_list_reverse (F.args_list_reverse_1 _) (AutoSeq1.list_reverse_list_0 l a.toArray n (by rw[YB];omega)) ⟨e,?_⟩;refine⟨.non,_,I.lset (its':=a.reverse) c e (by simp) r.reverse ?_,rfl,q⟩;rw[Zt];omega
noncomputable def WD:R2:=λx y H Q=>∃ l b xs a,x = .ref l/\y = .ref b/\H l=aA (.lst xs)/\H b=aA (.lst a)/\xs.length+a.length<=A1M/\∀ p,H p=aB->Q (.ref p) (upd H p (.lst (xs++a)))
def UA:OpR X (A2z .Add) WD:=by
 intro p s t H x y v u Q I d f h;obtain⟨l,b,w,A,rfl,rfl,g,i,B,q⟩:=h;cases d;cases f;obtain⟨z,c,n,r,C,e⟩:=I.lstM g;obtain⟨D,a,E,j,k,m⟩:=I.lstM i;refine PySem.P.add_list e m ?_ (by rw[YB,YB];omega);have o:c.toArray++a.toArray=(c++a).toArray:=by simp
 rw[o];exact⟨.ref _,_,I.lnew (t':=s.toks) (r.append j) (by rw[Y5];omega),rfl,q _ I.fresh⟩
noncomputable def WF:R2:=λx y H Q=>∃ l k xs,x = .ref l/\y = .int k/\H l=aA (.lst xs) /\ -(2 ^ 63)<=k/\k<2 ^ 63/\xs.length * k.toNat<=A1M/\
 ∀ p,H p=aB->Q (.ref p) (upd H p (.lst (YR k.toNat xs).flatten))
def QV{α:Type}(xs:List α)(k:Nat):(YR k xs).flatten.length=k * xs.length:=by
 induction k with
 | zero=>simp
 | succ k a=>rw[Yv,ZA,Y5,a,Zk,Nat.add_comm]
def UB:OpR X (A2z .Mult) WF:=by
 intro K s L H x y v u Q I w A h;obtain⟨l,k,M,rfl,rfl,B,C,D,p,q⟩:=h;cases w;obtain⟨t,rfl⟩:=A;obtain⟨z,b,n,r,E,e⟩:=I.lstM B;have d:b.toArray.size * k.toNat<=A1M:=by rw[YB,<-E];exact p
 have f:¬ b.toArray.size * k.toNat>(2 ^ 63 - 1) / 8:=by
  have:(A1M:Nat)<=(2 ^ 63 - 1) / 8:=by decide
  omega
 have g:¬ (!Builtin.List.listFitsIndex k)=aC:=by
  rw[A3W C D];exact YE
 have c:¬ Builtin.List.listTooLong (b.toArray.size * k.toNat)=aC:=by
  rw[Ge d];exact YE
 have i:A1o (λj o=>j++o) #[] (YR (if b.toArray.isEmpty=aC then 0 else k.toNat) b.toArray)=(YR k.toNat b).flatten.toArray:=by
  have G:∀ m:Nat,A1o (λj o=>j++o) #[] (YR m b.toArray)=(YR m b).flatten.toArray:=λm=>by
   have:=F2 b m [];rw[A0H]at this;exact this
  rw[G];cases b with
  | nil=>simp
  | cons a N=>rw[iG (by simp)]
 refine wpAny_binaryOp_repeat_ref (T:="list") (U:="int") (by decide) ⟨_,e,rfl⟩ (λJ=>A3g J k t) noFill_list_mul F.fills_int_mul F.slot_int_rmul repeat_list F.slot_int_index.lookup
  (A2B F.slot_int_rmul (A3g s k t) F.entry_int_rmul (F.args_int_rmul_2 _ _) (int___rmul___int_list k t l b.toArray n)
    ⟨e,rfl,⟨_,e,rfl⟩,A2B F.slot_list_mul ⟨_,e,rfl⟩ F.entry_list_mul (F.args_list_mul_2 _ _) (AutoListH.list___mul___list_int_3 l b.toArray n k t g f c) ⟨e,?_⟩⟩)
 rw[i];exact⟨.ref _,_,I.lnew (t':=s.toks) (r.rep k.toNat) (by rw[QV,Nat.mul_comm];exact p),rfl,q _ I.fresh⟩
end
end L2
namespace Att
open PySem PySem.W PySem.Calls PyProof.Rows
def DO{P:Params}{h:Heap}:∀(ns:List Int) (vs:List A1E),WellAll P h vs (ns.map WData.int)->IntsAre vs ns:=by
 intro ns
 induction ns with
 | nil=>
   intro vs w;rw[A1x]at w;cases w;exact .nil
 | cons n ns c=>
   intro vs w;rw[Yf]at w;cases w with
   | cons a b=>
     cases a;exact .cons _ _ (c _ b)
def LU{l:OpenLaw}{n:Nat}(t:l.most=aA n){P:Params}{h:Heap}{b:List WData}{e:List A1E}
 (f:l.row.toRowW.claim.pre b=aC) (m:WellAll P h e b):
 ∃ a p c,e=[Value.ref a]/\b=[WData.list (c.map WData.int)]/\h.get? a=aA {cls := .type "list",data := .seq p.toArray}/\IntsAre p c/\c.length<=n:=by
 have o:WShape.hasAll [] b [.list .int]=aC:=(pre_splitW f).1;have s:l.pre.holds [] {args:=b}=aC:=(pre_splitW f).2;obtain⟨d,r,rfl,u,v⟩:=hasAllW_cons o;obtain rfl:=hasAllW_nil v;obtain⟨z,rfl,w⟩:=hasW_list u;obtain⟨c,rfl⟩:=items_int w
 have g:c.length<=n:=by
  unfold OpenLaw.pre at s
  have j:(WTm.not (.lt (.lit (.int (n:Int))) (.len (.arg 0)))).holds [] {args:=[.list (c.map .int)]}=aC:=by
   have j:=(holds_andW s).1;rw[t]at j;exact j
  have k:=condW_of j (w_not (w_lt w_lit (w_len_list (w_arg rfl))));rw[Y4]at k;refine A1d λq=>?_;have x:(n:Int)<((c.length:Nat):Int):=by omega
  first
   | (rw[decide_eq_true x]at k;exact absurd k (by decide))
   | (simp at k;omega)
 cases m with
 | cons w1 y=>
   cases y;cases w1 with
   | list ho i=>exact⟨_,_,c,rfl,rfl,ho,DO c _ i,g⟩
def LV(l:OpenLaw)(a:List WData):l.row.toRowW.claim.post a (.bool aC) a=aC:=
 postW_of (r:=l.row.toRowW) (X:=(aC == aC))
  (show WShape.has [] (.bool aC) .bool=aC by first | rfl | decide | simp[WShape.has,WShape.arms,WShape.armsAll])
  (show(WTm.eq .res (.lit (.bool aC))).value [] {args:=a,res:=aA (.bool aC),after:=a}=aA (.bool (aC == aC)) from w_eq_bool (w_res rfl) w_lit) rfl
def attach_call{l:OpenLaw}{n:Nat}{q:A1L}{c:List Str}{B:(Str->Option A1E)->Heap->Prop}{C:A1N->Heap->Prop}{d:DefRec}
 (I:l.most=aA n) (u:d.params.defaults=[])
 (call:∀(w:A1N) (e b:A1F) (p v:Str->Option A1E) (i:A1G) (o:Obj) (x s g:A1E) (a:A1G) (vs:List A1E) (ns:List Int),
   Ground q c [] B w e p v b.heap->C w b.heap->
   b.heap.get? i=aA o->o.data = .func (docDef d.name d.params d.body d.scope x s g)->b.heap.CodeRec s d.name->p d.name=aA (.ref i)->
   b.heap.get? a=aA {cls := .type "list",data := .seq vs.toArray}->IntsAre vs ns->ns.length<=n->b.gens=#[]->
   codeAny (A1K l.prog w) callerA (.call (.ref i) ⟨[.ref a],[]⟩) (λr t=>r = .ok (.ret (.bool aC))/\OldK b.heap t.heap/\t.os=b.os/\AllBare t.gens) b):
 WalkO q c B C l.row.toRowW d [] (λf vs=>PySem.call f vs):=by
 intro w e b p v G Y i o x s g J K L M y D z N E F V j H O A P;obtain rfl:J = .none:=Dflts.none D u;obtain rfl:K = .none:=Dflts.noKw D;obtain⟨a,vs,ns,rfl,rfl,k,h,m⟩:=LU I j A;refine enter_call (A2i (call w e b p v i o x s g a vs ns G Y L (fd_plain M) y z k h m N) λr t Q=>?_);obtain⟨rfl,R,S,T⟩:=Q;exact⟨.inl ⟨.bool aC,.bool aC,[],rfl,λ_=>rfl,.bool aC,LV l _,λ_=>⟨List.Pairwise.nil,λ_ U=>(nomatch U)⟩⟩,R,S,T⟩
end Att
namespace L2
open PySem PySem.Spec PyProof.Rows
theorem F4:∀{vs:List A1E} {ns:List Int},IntsAre vs ns->Vals (ns.map V.int) vs
 | _,_,.nil => .nil
 | _,_,.cons n t h => .cons ⟨t,rfl⟩ (F4 h)
def QW(H:Hp):Prop:=∀ b,H b=aB\/∃ o xs,H b=aA (.frz o (.lst xs))
def NJ{P:A1L}{w:A1N}{K:Y2}{t Q:Str->Option A1E}{CX:CXT}{k:Nat}{R a:A1G}{fd:A2g}{x:Str}{sp:Sp}{c:A1F}{vs:List A1E}{ns:List Int}
 (KX:K.In c.heap) (y:c.heap.Ns A1I t) (f:c.heap.Ns A2R Q) (S:∀ x:Str,x≠"__name__"->Q x=A1P x) (A:c.heap.NoLimit) (T:BmAt t c.heap) (hg:c.gens=#[])
 (B:c.heap.get? a=aA {cls := .type "list",data := .seq vs.toArray}) (hi:IntsAre vs ns) (hl:ns.length<=A1M) (hr:Room k callerA)
 (F:∀ g:Heap,K.In g->g.Ns A1I t->FnOk P w K t g CX k R fd [x] sp) (p:∀(s:A1F) (u:A1E),BindsTo s fd ⟨[u],[]⟩ [(x,u)])
 (U:∀ H:Hp,QW H->SqL K H a (ns.map V.int)->sp [.ref a] H (λv _=>v = .bl aC) λ_ _ _=>False)
 (W:∀ H e i,CX [] H c (λ_ _ _=>False) e i->False):
 codeAny (A1K P w) callerA (.call (.ref R) ⟨[.ref a],[]⟩) (λr i=>r = .ok (.ret (.bool aC))/\OldK c.heap i.heap/\i.os=c.os/\AllBare i.gens) c:=by
 have rv:=F4 hi;have C:=hi.length
 have l:∀ H:Hp,QW H->SqL K H a (ns.map V.int)->HOk P w H c.heap->(∀ b,H b≠aB->b=a)->(H a≠aB->K.lookup a=aB)->
  codeAny (A1K P w) callerA (.call (.ref R) ⟨[.ref a],[]⟩) (λr i=>r = .ok (.ret (.bool aC))/\OldK c.heap i.heap/\i.os=c.os/\AllBare i.gens) c:=by
  intro H hO hS D X hK;have Y:∀{b:A1G} {o:Obj},c.heap.get? b=aA o->H b=aB->(FW c.heap H).get? b=aA o:=λe n=>Mu e n
  have Z:∀{b:A1G} {o:Obj} {E:Array A2r} {G:Nat},c.heap.get? b=aA o->o.data = .dict E G->H b=aB:=λ{b o E G} e d=>by
   cases q:H b with
   | none=>rfl
   | some u=>
     have I:b=a:=X b (by rw[q];simp);subst I;rw[B]at e;cases e;have d':Data.seq vs.toArray _=Data.dict E G:=d;cases d'
  have j:∀{b:A1G} {m:Str->Option A1E},c.heap.Ns b m->(FW c.heap H).Ns b m:=λ{b m} ⟨o,E,G,e,d,r⟩=>⟨o,E,G,Y e (Z e d),d,r⟩
  have J:K.In (FW c.heap H):=λb o e=>Y (KX b o e) (by
   cases q:H b with
   | none=>rfl
   | some u=>
     have I:b=a:=X b (by rw[q];simp);subst I;rw[hK (by rw[q];simp)]at e;cases e)
  have hM:Mod K t (FW c.heap H):=⟨J,j y,⟨Q,j f,S⟩,let ⟨mc,h1,h2⟩:=A;⟨mc,j h1,h2⟩,let ⟨O,ob,b1,b2,b3,b4,b5,b6⟩:=T;⟨O,ob,b1,b2,Y b3 (by
   cases q:H O with
   | none=>rfl
   | some u=>
     have I:O=a:=X O (by rw[q];simp);rw[I,B]at b3;cases b3;exact absurd b4 (by simp)),b4,b5,b6⟩⟩
  have e0:Env0 P w K t (FW c.heap H) callerA [] c H:=⟨rfl,hM,λb o e=>QG e,A1y (LH _ _),trivial,λb f=>absurd (show b∈([]:List A1G) from f) (by simp),D,.of_eq hg⟩
  refine A2i ((F _ J (j y)).run callerA [] c H ⟨[.ref a],[]⟩ [.ref a] [.ref a] _ _ hr e0 (p c (.ref a)) (.cons rfl .nil) (U H hO hS)) λr i h=>?_;cases r with
  | error e=>exact(W H e i h).elim
  | ok fl=>
    cases fl with
    | next=>exact False.elim h
    | brk=>exact False.elim h
    | cont=>exact False.elim h
    | ret u=>
      obtain⟨v,H',os,L,un,M,r',q⟩:=h;have q':v = .bl aC:=q;subst q';obtain rfl:u=Value.bool aC:=r';refine⟨rfl,OldK.of_keep λb o e=>?_,os,L⟩;cases q:H b with
      | none=>exact un.keep b o e q (by intro z;exact absurd (show b∈([]:List A1G) from z) (by simp)) (by simp)
      | some u=>
        rcases hO b with z | ⟨ob,xs,z⟩
        ·rw[q]at z;cases z
        ·have z2:=un.frzs b ob _ z;obtain⟨e1,_⟩:=D b _ z;obtain⟨e2,_⟩:=M b _ z2;rw[e]at e1;cases e1;exact e2
 cases hk:K.lookup a with
 | some o=>
   have e:=KX a o hk;rw[B]at e;cases e;refine l (λ_=>aB) (λ_ => .inl rfl) (.inr ⟨_,vs.toArray,_,hk,rfl,rfl,rfl,by rw[YB,C];exact hl,by simpa using rv⟩) (λb u z=>by have N:(none:Option HO)=aA u:=z;cases N) (λb z=>absurd rfl z) λz=>absurd rfl z
 | none=>
   refine l (λb=>if b=a then aA (.frz {cls := .type "list",data := .seq vs.toArray} (.lst (ns.map V.int))) else aB) (λb=>?_) (.inl (.inr ⟨{cls := .type "list",data := .seq vs.toArray},iP rfl⟩)) (λb u z=>?_) (λb z=>?_) λ_=>hk
   ·by_cases f:b=a
    ·exact .inr ⟨_,_,iP f⟩
    ·exact .inl (iG f)
   ·by_cases f:b=a
    ·have N:=(iP f).symm.trans z;cases N;subst f;exact⟨B,by rw[Y4];exact hl,vs,_,rv,B⟩
    ·have N:=(iG f).symm.trans z;cases N
   ·by_cases f:b=a
    ·exact f
    ·exact absurd (iG f) z
def walk_of{l:PySem.W.OpenLaw}{n k:Nat}{q:A1L}{j:List Str}{O:(Str->Option A1E)->Heap->Prop}{J:A1N->Heap->Prop}{d:DefRec}{K:Params->Y2}{CX:A1N->CXT}{sp:A1N->Sp}{x:Str}
 (P:l.most=aA n) (z:n<=A1M) (A:d.params.defaults=[]) (Q:Room k callerA)
 (R:∀(w:A1N) (h:Heap),J w h->(K w.params).In h)
 (F:∀(w:A1N) (p:Str->Option A1E) (y:A1G) (h:Heap),(K w.params).In h->h.Ns A1I p->p d.name=aA (.ref y)->
   ∃ B:A2g,(∀(s:A1F) (u:A1E),BindsTo s B ⟨[u],[]⟩ [(x,u)])/\
    ∀ c:Heap,(K w.params).In c->c.Ns A1I p->FnOk l.prog w (K w.params) p c (CX w) k y B [x] (sp w))
 (C:∀(w:A1N) (H:Hp) (a:A1G) (ns:List Int),ns.length<=n->QW H->SqL (K w.params) H a (ns.map V.int)->sp w [.ref a] H (λv _=>v = .bl aC) λ_ _ _=>False)
 (D:∀(w:A1N) (H:Hp) (s:A1F) (e:A1E) (E:A1F),CX w [] H s (λ_ _ _=>False) e E->False):
 PySem.W.WalkO q j O J l.row.toRowW d [] (λf L=>PySem.call f L):=by
 refine Att.attach_call P A λw M r p mb y o pm cd S a L ns G Y ho hd U I t m i X=>?_;have N:=R w _ Y;obtain⟨B,Z,hF⟩:=F w p y _ N G.T.g I;exact NJ N G.T.g G.T.b G.T.builtins G.T.nolimit G.T.bmain X t m (Yg i z) Q hF Z (λH hO hS=>C w H a ns i hO hS) λH e E=>D w H r e E
noncomputable def defArgs(s:Stmt):Arguments:=match s with
 | .FunctionDef _ a _ _ _ _ _ _ _ _=>a
 | _=>{posonlyargs:=[],args:=[],vararg:=aB,kwonlyargs:=[],kw_defaults:=[],kwarg:=aB,defaults:=[]}
def defBody(s:Stmt):List Stmt:=match s with
 | .FunctionDef _ _ b _ _ _ _ _ _ _=>b
 | _=>[]
noncomputable def defScope(s:Stmt):A1R:=match s with
 | .FunctionDef _ _ _ _ _ _ a _ _ _=>a
 | _=>{kind := .function,names:=[],isGenerator:=aD,isCoroutine:=aD}
abbrev CX0:CXT:=λ_ _ _ _ _ _=>False
abbrev E0:XK:=λ_ _ _=>False
def WG{X:Cx}:FX CX0 X E0:=λ_ _ _ _ _ _ _ h=>h.elim
structure Fun(K:Y2)(x qual:Str)(st:Stmt)(f:A1G)(fd:A2g):Prop where
 ex:∃(oc:A1E) (od:Option A1G) (kV doc pm:A1E) (an:Option A1G) (cdv ct:A1E) (osl:Array (Option A1E)),
  fd=PySem.W.fnOf x qual (defArgs st) (defBody st) (defScope st) .none kV doc pm an cdv ct/\K.lookup f=aA ⟨oc,od,.func fd,osl⟩/\PySem.W.codeIn K cdv qual=aC
 kp:PySem.W.keepIn K (.ref f)=aC
section
variable{P:A1L}{w:A1N}{K:Y2}{mg:Str->Option A1E}{base:Heap}
def Fun.binds{x a:Str}{st:Stmt}{f:A1G}{j:A2g}{ps:List Str}(F:Fun K x a st f j)
 (h:∀(c b d:A1E) (e:Option A1G) (cdv g:A1E) (i:List A1E),i.length=ps.length->bindArgs (PySem.W.fnOf x a (defArgs st) (defBody st) (defScope st) .none c b d e cdv g) ⟨i,[]⟩=pure (ps.zip i)):Binds K j ps []:=by
 obtain⟨m,n,c,b,d,e,cdv,g,k,rfl,o,l⟩:=F.ex;exact .all (h c b d e cdv g)
def IZ{x a:Str}{st:Stmt}{f:A1G}{j:A1E}{m e:Option A1G}{d:Array (Option A1E)}{g b h cdv i:A1E}(l:K.lookup f=aA ⟨j,m,.func (PySem.W.fnOf x a (defArgs st) (defBody st) (defScope st) .none g b h e cdv i),d⟩)
 (c:PySem.W.codeIn K cdv a=aC) (k:PySem.W.keepIn K (.ref f)=aC):Fun K x a st f (PySem.W.fnOf x a (defArgs st) (defBody st) (defScope st) .none g b h e cdv i):=⟨⟨j,m,g,b,h,e,cdv,i,d,rfl,l,c⟩,k⟩
end
def LW{n:Nat}(h:n<=1000):n<A1M:=Zl h (by decide)
section
variable{X:Cx}
def pv(i:Nat){x:Str}{pos:Pos}(b:X.N[i]?=aA x)(c:Vis X.env.scope x)(d:(x == ("__debug__":Str))=aD)
 (a:(x == ("__classdict__":Str))=aD):PE X (.Name x pos) (Mv i):=Mw b c d a
end
end L2
set_option maxHeartbeats 4000000
namespace L2
open PySem PySem.Spec PyProof.Rows
noncomputable def AR(env:Env):List (Str×A2a)->List (Str×A1G)->List (Str×A1G)
 | [],a=>a
 | (n,k)::r,a=>if k == .free then AR env r ((n,(env.cells.lookup n).getD 0)::a) else AR env r a
def Cq{env:Env}{b:A1R}(h:∀ x∈b.names,x.2 = .free->∃ c,env.cells.lookup x.1=aA c):closureFor b env=pure (AR env b.names []):=by
 unfold closureFor
 have o:∀(a:List (Str×A2a)) (d:List (Str×A1G)),(∀ x∈a,x.2 = .free->∃ c,env.cells.lookup x.1=aA c)->
  (forIn a d λx r=>match x with
    | (e,f)=>if (f == NameKind.free)=aC then do let __do_lift <- cellOf env e;pure (ForInStep.yield ((e,__do_lift)::r)) else pure (ForInStep.yield r):Sem (List (Str×A1G)))=pure (AR env a d):=by
  intro a
  induction a with
  | nil=>intro d _;rfl
  | cons x r i=>
    intro d j;obtain⟨n,k⟩:=x;rw[List.forIn_cons];have l:=λy p=>j y (YC _ p);by_cases m:k = .free
    ·subst m;obtain⟨c,q⟩:=j (n,.free) YL rfl;have g:env.cells.lookup n=aA c:=q;unfold AR;simp only[beq_self_eq_true,if_true,cellOf,g,A1e,pure_bind];exact i _ l
    ·have s:(k == NameKind.free)=aD:=by simpa using m
     unfold AR;simp only[s,Z5,if_false,pure_bind];exact i _ l
 have:=o b.names [] h;simp only[this]
 first | rfl | simp
theorem Cr{env:Env}:∀(a:List (Str×A2a)) (b:List (Str×A1G)),(∀ x∈a,x.2 = .free->∃ c,env.cells.lookup x.1=aA c)->(∀ p∈b,env.cells.lookup p.1=aA p.2)->
 ∀ p∈AR env a b,env.cells.lookup p.1=aA p.2
 | [],_,_,e,p,d=>e p d
 | (n,k)::r,b,h,e,p,d=>by
   unfold AR at d;have j:=λy l=>h y (YC _ l);split at d
   ·rename_i f;have f:k = .free:=by simpa using f
    obtain⟨c,m⟩:=h (n,k) YL f;have g:env.cells.lookup n=aA c:=m;refine Cr r _ j (λq i=>?_) p d;rcases YH.mp i with rfl | i
    ·show env.cells.lookup n=aA ((env.cells.lookup n).getD 0);rw[g];rfl
    ·exact e q i
   ·exact Cr r b j e p d
theorem Cs{env:Env}:∀(b:List (Str×A2a)) (a:List (Str×A1G)),∀ p∈a,p∈AR env b a
 | [],_,_,c=>c
 | (n,k)::r,a,p,c=>by
   unfold AR;split
   ·exact Cs r _ p (YC _ c)
   ·exact Cs r a p c
theorem Ct{env:Env}:∀(a:List (Str×A2a)) (b:List (Str×A1G)) (n:Str),(n,NameKind.free)∈a->∃ c,(n,c)∈AR env a b
 | (m,k)::r,b,n,d=>by
   unfold AR;rcases YH.mp d with e | d
   ·cases e;simp only[beq_self_eq_true,if_true];exact⟨_,Cs r _ _ YL⟩
   ·split
    ·exact Ct r _ n d
    ·exact Ct r _ n d
theorem BX{env:Env}:∀(a:List (Str×A2a)) (b:List (Str×A1G)),∀ p∈AR env a b,p∈b\/(p.1,NameKind.free)∈a
 | [],_,_,c => .inl c
 | (n,k)::r,b,p,c=>by
   unfold AR at c;split at c
   ·rename_i d;have d:k = .free:=by simpa using d
    subst d;rcases BX r _ p c with z | z
    ·rcases YH.mp z with rfl | z
     ·exact .inr YL
     ·exact .inl z
    ·exact .inr (YC _ z)
   ·rcases BX r _ p c with z | z
    ·exact .inl z
    ·exact .inr (YC _ z)
theorem AU:∀(a:List (Str×A2a)) (n:Nat) (b:List (Str×A1G)),∀ p∈A2c n a b,p∈b\/(n<=p.2/\(p.1,NameKind.cell)∈a)
 | [],_,_,_,c => .inl c
 | (x,k)::r,n,b,p,c=>by
   unfold A2c at c;split at c
   ·rename_i d;have d:k = .cell:=by simpa using d
    subst d;rcases AU r (n+1) _ p c with z | ⟨z,w⟩
    ·rcases YH.mp z with rfl | z
     ·exact .inr ⟨YF _,YL⟩
     ·exact .inl z
    ·exact .inr ⟨Nat.le_of_succ_le z,YC _ w⟩
   ·rcases AU r n b p c with z | ⟨z,w⟩
    ·exact .inl z
    ·exact .inr ⟨z,YC _ w⟩
theorem AV:∀(a:List (Str×A2a)) (n:Nat) (b:List (Str×A1G)),∀ p∈b,p∈A2c n a b
 | [],_,_,_,c=>c
 | (x,k)::r,n,b,p,c=>by
   unfold A2c;split
   ·exact AV r _ _ p (YC _ c)
   ·exact AV r _ _ p c
theorem B9:∀(a:List (Str×A2a)) (n:Nat) (b:List (Str×A1G)) (x:Str),(x,NameKind.cell)∈a->∃ c,(x,c)∈A2c n a b
 | (y,k)::r,n,b,x,d=>by
   unfold A2c;rcases YH.mp d with e | d
   ·cases e;simp only[beq_self_eq_true,if_true];exact⟨_,AV r _ _ _ YL⟩
   ·split
    ·exact B9 r _ _ x d
    ·exact B9 r _ _ x d
theorem BA:∀(a:List (Str×A2a)) (h:Heap) (b:List (Str×A1G)),∀ p∈A2c h.objs.size a b,p∈b\/(A3I h a).IsCell p.2 aB
 | [],_,_,_,c => .inl c
 | (x,k)::r,h,b,p,c=>by
   unfold A2c at c;unfold A3I;split at c
   ·rename_i d;rw[iP d];have:=BA r (h.push {cls := .type "cell",data := .cell aB}) ((x,h.objs.size)::b) p (by rw[Yr];exact c);rcases this with z | z
    ·rcases YH.mp z with rfl | z
     ·exact .inr ⟨_,A3i _ _ _ _ (YI _ rfl),rfl⟩
     ·exact .inl z
    ·exact .inr z
   ·rename_i d;rw[iG d];exact BA r h b p c
theorem Aa:∀(b:List (Str×A2a)) (n:Nat) (a:List (Str×A1G)),(a.Pairwise λx y=>x.2≠y.2)->(∀ p∈a,p.2<n)->(A2c n b a).Pairwise λx y=>x.2≠y.2
 | [],_,_,h,_=>h
 | (x,k)::r,n,a,h,c=>by
   unfold A2c;split
   ·refine Aa r (n+1) _ (Zy.mpr ⟨λy f e=>?_,h⟩) λp d=>?_
    ·have g:=c y f;have i:n=y.2:=e;exact absurd g (by rw[<-i];exact ZD _)
    ·rcases YH.mp d with rfl | d
     ·exact ZT _
     ·exact Z0 (c p d)
   ·exact Aa r n a h c
theorem BY{env:Env}(inj:∀ x y c,env.cells.lookup x=aA c->env.cells.lookup y=aA c->x=y):∀(a:List (Str×A2a)) (b:List (Str×A1G)),(a.map (·.1)).Nodup->
 (∀ x∈a,x.2 = .free->∃ c,env.cells.lookup x.1=aA c)->(b.Pairwise λx y=>x.2≠y.2)->(∀ p∈b,env.cells.lookup p.1=aA p.2/\p.1∉a.map (·.1))->(AR env a b).Pairwise λx y=>x.2≠y.2
 | [],_,_,_,h,_=>h
 | (n,k)::r,b,t,m,h,i=>by
   unfold AR;have d:=Yy.mp t;have o:=λy j=>m y (YC _ j);split
   ·rename_i l;have l:k = .free:=by simpa using l
    obtain⟨c,u⟩:=m (n,k) YL l;have f:env.cells.lookup n=aA c:=u;refine BY inj r _ d.2 o (Zy.mpr ⟨λy j e=>?_,h⟩) λp g=>?_
    ·have s:(env.cells.lookup n).getD 0=y.2:=e;rw[f]at s;have v:c=y.2:=s;have q:=(i y j).1;have:=inj n y.1 c f (by rw[v];exact q);exact(i y j).2 (by rw[<-this];exact YL)
    ·rcases YH.mp g with rfl | g
     ·refine⟨?_,d.1⟩;show env.cells.lookup n=aA ((env.cells.lookup n).getD 0);rw[f];rfl
     ·exact⟨(i p g).1,λz=>(i p g).2 (YC _ z)⟩
   ·exact BY inj r b d.2 o h λp g=>⟨(i p g).1,λz=>(i p g).2 (YC _ z)⟩
theorem Am{env:Env}:∀(a:List (Str×A2a)) (x:Str),
 (a.map λ(n,k)=>if (k == NameKind.free&&env.scope.kind == .function&&env.kindOf n == aA .cell) then (n,NameKind.cell) else (n,k)).lookup x=
   (a.lookup x).map λk=>if (k == NameKind.free&&env.scope.kind == .function&&env.kindOf x == aA .cell) then NameKind.cell else k
 | [],x=>rfl
 | (n,k)::r,x=>by
   have c:=Am (env:=env) r x;rw[Yf];show A0N x ((if (k == NameKind.free&&env.scope.kind == .function&&env.kindOf n == aA .cell)=aC then (n,NameKind.cell) else (n,k))::_)=_;split
   ·rename_i b;rw[ZI,ZI];cases hx:x == n with
    | false=>exact c
    | true=>
      have e:x=n:=by simpa using hx
      subst e;simp only[Zd];rw[iP b]
   ·rename_i b;rw[ZI,ZI];cases hx:x == n with
    | false=>exact c
    | true=>
      have e:x=n:=by simpa using hx
      subst e;simp only[Zd];rw[iG b]
theorem A0{α:Type}:∀{l:List (Str×α)} {n:Str} {c:α},(l.map (·.1)).Nodup->(n,c)∈l->l.lookup n=aA c
 | (k,v)::r,n,c,b,h=>by
   have a:=Yy.mp b;rw[ZI];rcases YH.mp h with e | h2
   ·cases e;simp
   ·cases hb:n == k with
    | true=>
      have e:n=k:=by simpa using hb
      exact absurd (YO.mpr ⟨(n,c),h2,e⟩:k∈r.map (·.1)) a.1
    | false=>exact A0 a.2 h2
theorem CB{α:Type}:∀{l:List (Str×α)} {n:Str} {c:α},(n,c)∈l->∃ d,l.lookup n=aA d
 | (k,v)::r,n,c,h=>by
   rw[ZI];cases hb:n == k with
   | true=>exact⟨v,rfl⟩
   | false=>
     rcases YH.mp h with e | h
     ·cases e;simp at hb
     ·exact CB h
noncomputable abbrev y4(X:Cx)(a:A1R)(b:List Str)(c:A1F)(d:Hp)(cs:List (Str×A1G))(C:A1G)(e:List A1G):Cx where
 prog:=X.prog
 w:=X.w
 K:=X.K
 mg:=X.mg
 base:=X.base
 A:=X.A
 N:=b
 s₀:=c
 H₀:=d
 env:=A37 a cs C X.env
 outer:=X.stack
 stack:=X.stack
 ex:=e
 fn:=λx=>a.names.lookup x == aA .cell
 calm:=X.calm
 pn:=X.pn
 xe:=λ_ _=>False
noncomputable def BB(b a:A1R)(own c N:List Str)(js:List Nat):Bool:=
 (decide (a.kind = .function))&&(a.names.all λx=>!decide (x.2 = .free)||decide (b.names.lookup x.1=aA .cell)||decide (b.names.lookup x.1=aA .free))
 && decide ((a.names.map (·.1)).Nodup)&&(own.all λx=>decide (a.names.lookup x=aA .local)||decide (a.names.lookup x=aA .cell))&&(c.all λx=>decide (a.names.lookup x=aA .free))
 && decide ((own++c).Nodup)&&decide (js.map (λj=>N[j]?)=c.map aA)
noncomputable def CJ(k:Nat)(js:List Nat)(a:St):St:=YR k aB++js.map λj=>(a[j]?).join
noncomputable def Gg(X:Cx)(a:List Expr)(t:TT):Prop:=
 ∀(d:List (A1G×Obj)) (s:A1F) (b:St) (H:Hp) (Q:Bool->Hp->Prop),Inv X d b H s->t b H Q->
  A1J (A1K X.prog X.w) X.A (forIn a aC λc r=>if r=aC then do let e <- isTrue c X.env (eval c X.env);pure (ForInStep.yield e) else pure (ForInStep.yield r)) (TP X d b Q) X.xe s
def NK{X:Cx}:Gg X [] (λ_ H Q=>Q aC H):=λ_ _ _ H _ I h=>wpAny_tests_nil ⟨H,I,h⟩
def NL{X:Cx}{c:Expr}{t:TT}(h:PT X c t):Gg X [c] t:=λa s b H Q I d=>wpAny_tests_one (h a s b H Q I d)
def NM{M:Model}{A:A1Q}{E:A1E->A1F->Prop}{s:A1F}{a:A1R}{env:Env}{d:List (Str×A1G)}{Q:Env->A1F->Prop}
 (h:Q (newEnv a s.heap.objs.size env.globals (A2c (s.heap.objs.size+1) a.names d) env.qual aB .none (aA env) A2R) {s with heap:=A3I (s.heap.push {cls := .type "dict",data := .dict #[]}) a.names}):
 A1J M A (A3t a env.globals d [] env.qual aB .none (aA env)) Q E s:=by
 simp only[A3t,A0Z,if_true];refine A1D (wpAny_alloc ?_);refine A1D (wpAny_layCells _ (λe b c=>by cases hkc:b == NameKind.cell<;>simp[hkc]) _ _ _ _ ?_);rw[show({s with heap:=s.heap.push {cls := .type "dict",data := .dict #[]}}:A1F).heap.objs.size=s.heap.objs.size+1 from Yr ..];refine A1D ?_;rw[List.forIn_nil];exact A1H (A1H h)
structure CForm(prog:A1L)(w:A1N)(A:A1Q)(E tg iter:Expr)(ifs:List Expr)(emit:A1E->Env->Sem Unit)(dp:Nat:=0):Prop where
 turn:∀(it:A1E) (D:A1G) (env:Env),compTurn E dp it (.ref D) env=(do
  standAt iter.pos
  match <- pyNext it with
  | none=>pure (.done .next)
  | some v=>
    A2A tg it v
    assign tg env v
    let mut ok:=aC
    for c in ifs do
     if ok then ok <- isTrue c env (eval c env)
    if ok then emit (.ref D) env
    again (.compLoop E dp it (.ref D) env))
 und:∀(it acc:A1E) (env:Env),A.under (.compLoop E dp it acc env)=A
 den:∀(it acc:A1E) (env:Env),(A1K prog w).den (.compLoop E dp it acc env)=(compTurn E dp it acc env).onRaise (λx=>do noteFrame x env;theTreesLotGoes x)
 start:∀{R:Result->A1F->Prop} {s:A1F} {it acc:A1E} {env:Env},codeAny (A1K prog w) A (.compLoop E dp it acc env) R s->A1J (A1K prog w) A (pyIter it) (λit' s'=>codeAny (A1K prog w) A (.compLoop E dp it' acc env) R s') (notedBy (A1K prog w) A env λx s'=>R (.error x) s') s->
  codeAny (A1K prog w) A (.compStart E dp it acc env) R s
def CForm.loop{prog:A1L}{w:A1N}{A:A1Q}{E y o:Expr}{p:List Expr}{f:A1E->Env->Sem Unit}{B:Nat}(F:CForm prog w A E y o p f B){R:Result->A1F->Prop}{s:A1F}{z:A1E}{D:A1G}{env:Env}(I:Nat->A1F->Prop)
 (q:∀ n s,I n s->A1J (A1K prog w) A (pyNext z) (λr a=>match r with
   | none=>R (.ok .next) a
   | some v=>A1J (A1K prog w) A (A2A y z v) (λ_ b=>A1J (A1K prog w) A (assign y env v) (λ_ g=>
      A1J (A1K prog w) A (forIn p aC λc r=>if r=aC then do let t <- isTrue c env (eval c env);pure (ForInStep.yield t) else pure (ForInStep.yield r)) (λt d=>
       if t=aC then A1J (A1K prog w) A (f (.ref D) env) (λ_ i=>∃ m,m<n/\I m i) (λ_ _=>False) d
       else ∃ m,m<n/\I m d) (λ_ _=>False) g) (λ_ _=>False) b) (λ_ _=>False) a) (λ_ _=>False) s)
 (n:Nat) (h:I n s):
 codeAny (A1K prog w) A (.compLoop E B z (.ref D) env) R s:=by
 refine codeAny_loop rfl I (λn s C=>?_) n h;rw[F.und,F.den];refine wpAny_noted ?_;rw[F.turn];refine A1D (A2I (A1D (A23 (q n s C) (λr a j=>?_) λ_ _ e=>False.elim e)));cases r with
 | none=>exact A1H j
 | some v=>
   refine A1D (A23 j (λ_ b l=>?_) λ_ _ e=>False.elim e);refine A1D (A23 l (λ_ g u=>A1D (A23 u (λt d k=>?_) λ_ _ e=>False.elim e)) λ_ _ e=>False.elim e);cases t with
   | false=>exact A1H ⟨rfl,k⟩
   | true=>exact A1D (A23 k (λ_ i x=>A1H ⟨rfl,x⟩) λ_ _ e=>False.elim e)
noncomputable def NN{α:Type}(J:It)(g:TG)(l:TT)(e:α->St->Hp->(α->Hp->Prop)->Prop)(f:St)(Q:Hp->Prop)(W:Nat->Nat->α->Hp->Prop):Prop:=
 ∀ i m a H,W i m a H->(J.stop i H/\Q H)\/(J.go i H/\∃ N:α->Hp->Prop,(∀ h c,N h c->∃ j,j<m/\W (i+1) j h c)/\∀ x c,J.yld i H x c->g x f c λd n=>l d n λb k=>if b=aC then e a d k N else N a k)
noncomputable def SY(a:Expr)(b:A1E)(env:Env):Sem Unit:=do
 let x <- eval a env
 let _ <- call (.builtin "list.append") [b,x]
def Ia{prog:A1L}{w:A1N}{A:A1Q}{c e a:Expr}{d:List Expr}{b:A1R}{pos:Pos}:CForm prog w A (.ListComp c [⟨e,a,d,0⟩] b pos) e a d (SY c) where
 turn:=λ_ _ _=>compTurn_list ..
 und:=λ_ _ _=>rfl
 den:=λ_ _ _=>rfl
 start:=λf h=>codeAny_compStart_list f h
def WH(c:TE)(D:A1G)(a:List V)(d:St)(H:Hp)(N:List V->Hp->Prop):Prop:=c d H λv b=>b D=aA (.lst a)/\a.length<A1M/\N (a++[v]) (upd b D (.lst (a++[v])))
section
variable{X:Cx}{pq:List (A1G×Obj)}{σ:St}{H2:Hp}{s2:A1F}{tg elt iter:Expr}{ifs:List Expr}{scope:A1R}{pos:Pos}{own cn:List Str}{js:List Nat}{g:TG}{tt:TT}{te:TE}
def Gh{α:Type}{E:Expr}{b1:A1E->Env->Sem Unit}{mk:Sem A1E}{o0:Obj}{u0:HO}{a0:α}{c6:A1G->α->St->Hp->(α->Hp->Prop)->Prop}(F:CForm X.prog X.w X.A E tg iter ifs b1)(f7:∀{Q:A1E->A1F->Prop},Q (.ref s2.heap.objs.size) {s2 with heap:=s2.heap.push o0}->A1J (A1K X.prog X.w) X.A mk Q X.xe s2)(f8:o0.isFreed=aD)(c7:∀(H:Hp) (h:Heap),h.get? s2.heap.objs.size=aA o0->ObjOk X.prog X.w H h s2.heap.objs.size u0)(b8:BB X.env.scope scope own cn X.N js=aC)(hc:X.calm=aC)
 (hg:∀ s2 H2 f C t,PG (y4 X scope (own++cn) s2 H2 f C t) tg g) (ht:∀ s2 H2 f C t,Gg (y4 X scope (own++cn) s2 H2 f C t) ifs tt) (f9:∀ D s2 H2 f C t pq s σ H (a:α) (N:α->Hp->Prop),Inv (y4 X scope (own++cn) s2 H2 f C t) pq σ H s->c6 D a σ H N->A1J (A1K X.prog X.w) X.A (b1 (.ref D) (A37 scope f C X.env)) (λ_ s1=>∃ g0 a1 H1,Inv (y4 X scope (own++cn) s2 H2 f C t) pq g0 H1 s1/\N a1 H1) (λ_ _=>False) s)
 (B:Inv X pq σ H2 s2) {it:A1G} {t:List A1G} {tn:Nat->Heap->Prop} {J:It} (T:Turn X.prog X.w X.K tg J t it tn) (b0:tn 0 s2.heap) (f2:∀ b∈t,FpOk X pq H2 b)
 {Qe:Hp->Prop} (hW:∃ W:Nat->Nat->α->Hp->Prop,(∃ m,W 0 m a0 (upd H2 s2.heap.objs.size u0))/\NN J g tt (c6 s2.heap.objs.size) (CJ own.length js σ) Qe W)
 {RR:A1E->A1G->Result->A1F->Prop}
 (g1:∀ C I s',Inv X pq σ I s'->FpOk X pq I C->(∃ m,s'.heap.Ns C m)->Qe I->RR (.ref s2.heap.objs.size) C (.ok .next) s'):
 A1J (A1K X.prog X.w) X.A mk (λc8 c9=>A1J (A1K X.prog X.w) X.A (A3t scope X.env.globals (AR X.env scope.names []) [] X.env.qual aB .none (aA X.env)) (λb2 d0=>
  codeAny (A1K X.prog X.w) X.A (.compStart E 0 (.ref it) c8 {b2 with scope:=relabel scope X.env}) (RR c8 b2.locals) d0) X.xe c9) X.xe s2:=by
 unfold BB at b8;simp only[Y3,dQ,YX,Yj,YS,decide_eq_false_iff_not]at b8;obtain⟨⟨⟨⟨⟨⟨k1,k2⟩,k3⟩,k4⟩,k5⟩,k6⟩,k7⟩:=b8
 have P:∀ x∈scope.names,x.2 = .free->X.env.kindOf x.1=aA .cell\/X.env.kindOf x.1=aA .free:=λx hx hf=>by
  rcases k2 x hx with(z | z) | z
  ·exact absurd hf z
  ·exact .inl z
  ·exact .inr z
 have a2:∀ x∈scope.names,x.2 = .free->∃ c,X.env.cells.lookup x.1=aA c:=λx hx hf=>B.ok.has x.1 (P x hx hf);refine f7 (NM ?_);have b3:(s2.heap.push o0).objs.size=s2.heap.objs.size+1:=Yr ..;dsimp only;generalize d1:s2.heap.push o0=h3 at b3 ⊢;have d2:∀ b o,s2.heap.get? b=aA o->h3.get? b=aA o:=λb o e=>d1▸Y8 _ e;have g2:h3.get? s2.heap.objs.size=aA o0:=d1▸YI _ f8;generalize a3:A2c (h3.objs.size+1) scope.names (AR X.env scope.names [])=f;generalize b9:A3I (h3.push {cls := .type "dict",data := .dict #[]}) scope.names=h4;have b4:∀ b o,h3.get? b=aA o->h4.get? b=aA o:=λb o e=>b9▸A3i _ _ b o (Y8 _ e);have O:∀ b o,s2.heap.get? b=aA o->h4.get? b=aA o:=λb o e=>b4 b o (d2 b o e);have g3:h4.get? s2.heap.objs.size=aA o0:=b4 _ _ g2;have d3:h4.Ns h3.objs.size (λ_=>aB):=b9▸(Heap.Ns.new h3 (.type "dict")).keeps (A3i _ _);generalize hC:h3.objs.size=C at d3 a3 ⊢;have h8:@Eq Nat C (s2.heap.objs.size+1):=by rw[<-hC];exact b3
 have c0:=Cr (env:=X.env) scope.names [] a2 (λp Z=>absurd Z (by simp));have R:∀ x c,X.env.cells.lookup x=aA c->@LT.lt Nat _ c s2.heap.objs.size:=λx c e=>by obtain⟨v,z⟩:=B.cell x c e;exact z.lt
 have c1:f.Pairwise λx y=>x.2≠y.2:=by
  rw[<-a3];refine Aa _ _ _ (BY B.ok.inj scope.names [] k3 a2 List.Pairwise.nil λp Z=>absurd Z (by simp)) λp Z=>?_;have:=R _ _ (c0 p Z);show @LT.lt Nat _ p.2 (C+1);omega
 have a4:∀ p∈f,X.env.cells.lookup p.1=aA p.2\/(C+1<=p.2/\(p.1,NameKind.cell)∈scope.names/\h4.IsCell p.2 aB):=λp Z=>by
  have h9:=Z;rw[<-a3]at Z;rcases AU _ _ _ p Z with z | ⟨z,y⟩
  ·exact .inl (c0 p z)
  ·have e:h3.objs.size+1=(h3.push {cls := .type "dict",data := .dict #[]}).objs.size:=by rw[Yr]
   have d4:=Z;rw[<-hC,e]at d4;rcases BA _ _ _ p d4 with q | q
   ·exact .inl (c0 p q)
   ·exact .inr ⟨z,y,b9▸q⟩
 have hX:(y4 X scope (own++cn) s2 H2 f C t).Ok:=by
  refine⟨B.ok.mod,k1,B.ok.glob,B.ok.blt,by show @LE.le Nat _ s2.heap.objs.size C;omega,λx y c h1 h2=>name_of_addr c1 (PySem.mem_of_lookup h1) (PySem.mem_of_lookup h2),λx hx=>?_,λx c hf hx=>?_,B.ok.hd,B.ok.frames,.inl rfl,λb G=>?_,B.bs,Yg B.ok.bsz B.sz,λb o e G=>?_,λb G hf=>?_,B.stack,B.stkFree⟩
  ·have S:(relabel scope X.env).names.lookup x=aA .cell\/(relabel scope X.env).names.lookup x=aA .free:=hx
   have hl:scope.names.lookup x=aA .cell\/scope.names.lookup x=aA .free:=by
    unfold relabel at S;dsimp only at S;rw[Am]at S;cases e:scope.names.lookup x with
    | none=>rw[e]at S;simp at S
    | some k=>
      rw[e]at S;cases k<;>simp_all
   have:∃ c,(x,c)∈f:=by
    rw[<-a3];rcases hl with hl | hl
    ·exact B9 _ _ _ x (PySem.mem_of_lookup hl)
    ·obtain⟨c,c2⟩:=Ct (env:=X.env) scope.names [] x (PySem.mem_of_lookup hl);exact⟨c,AV _ _ _ _ c2⟩
   obtain⟨c,hm⟩:=this;exact CB hm
  ·have g4:scope.names.lookup x=aA .cell:=by simpa using hf
   have hm:=PySem.mem_of_lookup (show f.lookup x=aA c from hx);rcases a4 _ hm with z | ⟨z,_⟩
   ·
    rw[<-a3]at hm;rcases AU _ _ _ _ hm with q | ⟨q,_⟩
    ·rcases BX (env:=X.env) scope.names [] _ q with q' | q'
     ·exact absurd q' (by simp)
     ·have:=A0 k3 q';have h2:scope.names.lookup x=aA .free:=this;rw[g4]at h2;cases h2
    ·show @LE.le Nat _ s2.heap.objs.size c;have q2:@LE.le Nat _ (C+1) c:=q;omega
   ·show @LE.le Nat _ s2.heap.objs.size c;have z2:@LE.le Nat _ (C+1) c:=z;omega
  ·obtain⟨f0,f1,U,f3,f4,f5⟩:=f2 b G;obtain⟨o,ho,_⟩:=T.obj 0 _ b0 b G;have i0:@LT.lt Nat _ b s2.heap.objs.size:=YD ho;refine⟨?_,λx c e=>?_⟩
   ·show @Ne Nat b C;omega
   ·rcases a4 _ (PySem.mem_of_lookup (show f.lookup x=aA c from e)) with z | ⟨z,_⟩
    ·exact f4 x c z
    ·have z2:@LE.le Nat _ (C+1) c:=z;show @Ne Nat c b;omega
  ·obtain⟨f0,f1,U,f3,f4,f5⟩:=f2 b G;rcases f3 with z | z
   ·exact B.ok.noex b o e z
   ·exact absurd (YW (YD e) (Yg B.ok.bsz z)) (ZD _)
  ·obtain⟨f0,f1,U,_⟩:=f2 b G;rcases YH.mp (B.stkSub b hf) with z | z
   ·exact f1 z
   ·exact U z
 have b5:∀{H:Hp} {s:A1F},Inv X pq σ H s->∀{i:Nat} {x:Str} {v:V},(own++cn)[i]?=aA x->(CJ own.length js σ)[i]?=aA (aA v)->∃ u,RelV v u/\((A37 scope f C X.env).kindOf x=aA .cell\/(A37 scope f C X.env).kindOf x=aA .free)/\∃ c,f.lookup x=aA c/\s.heap.IsCell c (aA u):=λ{H s} IX {i x v} e1 e2=>by
  have hi:own.length<=i:=by
   rcases A0b i own.length with z | z
   ·exfalso;unfold CJ at e2;rw[YM (by simpa using z),ZH,iP z]at e2;cases e2
   ·exact z
  have d5:cn[i - own.length]?=aA x:=by
   have:(own++cn)[i]?=aA x:=e1;rw[Yz hi]at this;exact this
  have a5:(js.map λj=>(σ[j]?).join)[i - own.length]?=aA (aA v):=by
   unfold CJ at e2;rw[Yz (by simpa using hi)]at e2;simpa using e2
  rw[YA]at a5;cases hj:js[i - own.length]? with
  | none=>rw[hj]at a5;cases a5
  | some j=>
    rw[hj]at a5;have L:(σ[j]?).join=aA v:=by simpa using a5
    have g5:σ[j]?=aA (aA v):=by
     cases q:σ[j]? with
     | none=>rw[q]at L;cases L
     | some z=>rw[q]at L;simp at L;rw[L]
    have g6:X.N[j]?=aA x:=by
     have:=congrArg (λl=>l[i - own.length]?) k7;simp only[YA,hj,d5,Zd]at this;exact oj this
    have c3:scope.names.lookup x=aA .free:=k5 x (Y7 d5);have hK:=P (x,.free) (PySem.mem_of_lookup c3) rfl;have d6:X.env.kindOf x=aA .cell\/X.env.kindOf x=aA .free:=hK;obtain⟨m,hn,hl⟩:=IX.loc
    have d7:Vis X.env.scope x:=by
     rcases d6 with z | z
     ·exact .inr (.inl z)
     ·exact .inr (.inr z)
    obtain⟨u,r,l⟩:=hl j x v g6 g5 d7;rcases l with⟨l1,_⟩ | ⟨l1,c,l2,l3⟩
    ·rcases d6 with z | z
     ·rw[z]at l1;cases l1
     ·rw[z]at l1;cases l1
    ·have d8:(A37 scope f C X.env).kindOf x=aA .cell\/(A37 scope f C X.env).kindOf x=aA .free:=by
      show(relabel scope X.env).names.lookup x=_\/(relabel scope X.env).names.lookup x=_;unfold relabel;dsimp only;rw[Am,c3];simp only[Zd];split
      ·exact .inl rfl
      ·exact .inr rfl
     refine⟨u,r,d8,c,?_,l3⟩;obtain⟨c',c2⟩:=hX.has x d8;have d9:f.lookup x=aA c':=c2;rw[d9];have hm:=PySem.mem_of_lookup d9
     have:X.env.cells.lookup x=aA c':=by
      rcases a4 _ hm with z | ⟨_,z,_⟩
      ·exact z
      ·have:=A0 k3 z;have h2:scope.names.lookup x=aA .cell:=this;rw[c3]at h2;cases h2
     rw[l2]at this;exact this.symm
 have g7:H2 s2.heap.objs.size=aB:=B.fresh;have g8:H2 C=aB:=B.hok.fresh (show @LE.le Nat _ s2.heap.objs.size C by omega)
 have a6:∀ b,b≠X.env.locals->b∉X.fs->b∉frs X.stack:=λb h1 h2 G=>by
  rcases YH.mp (B.stkSub b G) with z | z
  ·exact h1 z
  ·exact h2 z
 have I4:Inv (y4 X scope (own++cn) s2 H2 f C t) pq (CJ own.length js σ) (upd H2 s2.heap.objs.size u0) {s2 with heap:=h4}:=by
  refine⟨hX,rfl,B.bare,Un.laid O (YF _) g7,⟨λ_=>aB,d3,λi x v e1 e2 e3=>?_⟩,λx c e=>?_,?_,λx c e=>?_,λp Z=>?_,B.hok.laid O (YF _) (c7 _ _ g3),?_⟩
  ·obtain⟨u,r,hr,c,l2,l3⟩:=b5 B e1 e2;exact⟨u,r,.inr ⟨hr,c,l2,l3.keeps λb o e=>O b o e⟩⟩
  ·rcases a4 _ (PySem.mem_of_lookup (show f.lookup x=aA c from e)) with z | ⟨_,_,z⟩
   ·obtain⟨v,q⟩:=B.cell _ _ z;exact⟨v,q.keeps λb o e=>O b o e⟩
   ·exact⟨aB,z⟩
  ·show upd H2 s2.heap.objs.size u0 C=aB;rw[i9 (show @Ne Nat C s2.heap.objs.size by omega)];exact g8
  ·have e0:c≠s2.heap.objs.size/\H2 c=aB:=by
    rcases a4 _ (PySem.mem_of_lookup (show f.lookup x=aA c from e)) with z | ⟨z,_,_⟩
    ·exact⟨YG (R _ _ z),B.freeC _ _ z⟩
    ·have z2:@LE.le Nat _ (C+1) c:=z;exact⟨show @Ne Nat c s2.heap.objs.size by omega,B.hok.fresh (show @LE.le Nat _ s2.heap.objs.size c by omega)⟩
   rw[i9 e0.1];exact e0.2
  ·obtain⟨e,n,ne,nf,d⟩:=B.pin p Z;have g9:@LT.lt Nat _ p.1 s2.heap.objs.size:=YD e;refine⟨O _ _ e,?_,?_,a6 _ ne nf,d⟩
   ·rw[i9 (YG g9)];exact n
   ·show @Ne Nat p.1 C;omega
  ·show(CJ own.length js σ).length=(own++cn).length;unfold CJ;have hl:=congrArg A0M k7;simp only[Y4]at hl;simp[hl]
 have a7:∀{I:Hp},(∀ b∈t,I b=aB)->∀ b∈t,FpOk (y4 X scope (own++cn) s2 H2 f C t) pq I b:=λhn b G=>by
  obtain⟨f0,f1,U,f3,f4,f5⟩:=f2 b G;exact⟨hn b G,(hX.exf b G).1,a6 b f1 U,.inl G,λx c e=>(hX.exf b G).2 x c e,f5⟩
 have b6:∀{e4:St} {I:Hp} {s':A1F},Inv (y4 X scope (own++cn) s2 H2 f C t) pq e4 I s'->Inv X pq σ I s':=λ{e4 I s'} J'=>
  B.call' (ch:=t) J'.os J'.base J'.hok J'.bare λb G=>by
   obtain⟨f0,f1,U,f3,f4,f5⟩:=f2 b G;exact⟨f3,f1,f4,f5⟩
 obtain⟨W,⟨m0,w0⟩,e5⟩:=hW
 have loop:codeAny (A1K X.prog X.w) X.A (.compLoop E 0 (.ref it) (.ref s2.heap.objs.size) (A37 scope f C X.env)) (RR (.ref s2.heap.objs.size) C) {s2 with heap:=h4}:=by
  refine F.loop (λn s'=>∃ i ys I,Inv (y4 X scope (own++cn) s2 H2 f C t) pq (CJ own.length js σ) I s'/\tn i s'.heap/\(∀ b∈t,I b=aB)/\W i n ys I) ?_ m0
   ⟨0,a0,_,I4,T.keep _ _ _ b0 λb G o e=>O b o e,λb G=>?_,w0⟩
  ·rintro n s3 ⟨i,ys,H3,I3,e6,e7,w3⟩;rcases e5 i n ys H3 w3 with⟨e8,q⟩ | ⟨go,N,hN,e9⟩
   ·refine thn (T.done (y4 X scope (own++cn) s2 H2 f C t) rfl rfl rfl hc i pq s3 _ H3 _ I3 (a7 e7) e6 e8) λr s4 ⟨hr,I5⟩=>?_;subst hr;obtain⟨m,hn,_⟩:=I5.loc;exact g1 C H3 s4 (b6 I5) (B.fpOk (show @LE.le Nat _ s2.heap.objs.size C by omega) I5.free) ⟨m,hn⟩ q
   ·refine thn (T.item (y4 X scope (own++cn) s2 H2 f C t) rfl rfl rfl hc i pq s3 _ H3 _ I3 (a7 e7) e6 go) λr s4 ⟨u,hr,h0⟩=>?_;subst hr;refine thn h0 λ_ s5 hz=>?_;obtain⟨x,H5,I5,r5,y5,c4,h5⟩:=hz;have h6:=I5.pinned (a7 h5) (T.obj _ _ c4);refine thn (hg s2 H2 f C t _ s5 _ H5 x u _ h6 r5 (e9 x H5 y5)) λ_ s6 hz=>?_;obtain⟨f6,H6,I6,q6⟩:=hz;refine thn (ht s2 H2 f C t _ s6 f6 H6 _ I6 q6) λb s7 ⟨H7,I7,q7⟩=>?_
    have a8:∀{Y:St} {H8:Hp} {s8:A1F} {c5:α},Inv (y4 X scope (own++cn) s2 H2 f C t) (pq++CI t s5.heap) Y H8 s8->(∀(j:Nat) v,(CJ own.length js σ)[j]?=aA (aA v)->Y[j]?=aA (aA v))->(∃ m',m'<n/\W (i+1) m' c5 H8)->
     ∃ m,m<n/\∃ i ys I,Inv (y4 X scope (own++cn) s2 H2 f C t) pq (CJ own.length js σ) I s8/\tn i s8.heap/\(∀ b∈t,I b=aB)/\W i m ys I:=λ{Y H8 s8 c5} M h7 ⟨m',hm,w8⟩=>by
     refine⟨m',hm,i+1,c5,H8,M.unpinned.weak (by rw[M.len,I4.len]) h7,T.keep _ _ _ c4 λb G o e=>(M.pin (b,o) (Ys _ (Ys _ (BQ G e)))).1,λb G=>?_,w8⟩;obtain⟨o,e,d⟩:=T.obj _ _ c4 b G;exact(M.pin (b,o) (Ys _ (Ys _ (BQ G e)))).2.1
    have b7:∀{Y:St} {H8:Hp} {s8:A1F},Inv (y4 X scope (own++cn) s2 H2 f C t) (pq++CI t s5.heap) Y H8 s8->Inv (y4 X scope (own++cn) s2 H2 f C t) (pq++CI t s5.heap) (CJ own.length js σ) H8 s8:=λ{Y H8 s8} M=>by
     have IX:=b6 M.unpinned;refine⟨M.ok,M.os,M.bare,M.base,?_,M.cell,M.free,M.freeC,M.pin,M.hok,I4.len⟩;obtain⟨m,hn,_⟩:=M.loc;refine⟨m,hn,λi x v e1 e2 e3=>?_⟩;obtain⟨u,r,z⟩:=b5 IX e1 e2;exact⟨u,r,.inr z⟩
    cases b with
    | false=>
      rw[iG YE];rw[iG YE]at q7;exact a8 (b7 I7) (λ_ _ e=>e) (hN _ _ q7)
    | true=>
      rw[iP rfl];rw[iP rfl]at q7;exact thn (f9 _ s2 H2 f C t _ s7 f6 H7 _ _ I7 q7) λ_ s9 ⟨i1,a9,H9,I9,q9⟩=>a8 (b7 I9) (λ_ _ e=>e) (hN _ _ q9)
  ·obtain⟨f0,_⟩:=f2 b G;obtain⟨o,ho,_⟩:=T.obj 0 _ b0 b G;rw[i9 (YG (YD ho))];exact f0
 exact F.start loop (T.self _ 0 _ _ _ (T.keep _ _ _ b0 λb G o e=>O b o e) loop)
end
end L2
namespace PySem
open AutoSeq1 (wpAny_loadPart')
section
variable{prog:A1L}{w:A1N}{A:A1Q}{E:A1E->A1F->Prop}{s:A1F}
def BV{b l:A1G}{i:Nat}{items}{x:A1E}{Q:A1E->A1F->Prop}(a:s.heap.IsTupleIter b l i)
 (h:s.heap.IsTuple l items) (j:items[i]?=aA x)
 (k:∀ e,e.IsTupleIter b l (i+1)->Ye b s.heap e->Q x {s with heap:=e}):
 A1J (A1K prog w) A (Builtin.SmallTypes.nextOf (.ref b)) Q E s:=by
 obtain⟨o,d,m,c⟩:=id a;obtain⟨n,f,_,p,g⟩:=h;unfold Builtin.SmallTypes.nextOf
 refine A1D (A20 (name:=Str.ofString "__next__") a.typeIs F.slot_tuple_iterator_next
  (A1Y F.slot_tuple_iterator_next a.typeIs F.entry_tuple_iterator_next ?_ (F.args_tuple_iterator_next_1 _)))
 show A1J _ _ (field (.ref b) 0 >>= _) _ _ s;refine A1D (A30 d c (x := .ref l) rfl ?_);show A1J _ _ (if (Value.ref l == Value.none)=aC then _ else _) _ _ s;rw[iG (show ¬ ((Value.ref l == Value.none)=aC) from YE)];show A1J _ _ (field (.ref b) 1 >>= _) _ _ s;refine A1D (A30 d c (x := .int i 0) rfl ?_);show A1J _ _ (A2H (.ref l) >>= _) _ _ s;refine A1D (A24 f g ?_);simp only[ZM,j];refine A1D (A25 d c (by simp) (A1H ⟨x,rfl,A1H (k _ ?_ (Ye.update ..))⟩))
 exact⟨_,Yc _ d (Obj.isFreed_of_fields (Obj.data_mapFields c _)),(Obj.cls_mapFields ..).trans m,by
  rw[Obj.data_mapFields c];simp[rawInt]⟩
def BZ{c l:A1G}{i:Nat}{items}{Q:A1E->A1F->Prop}(k:A.handled=aB)
 (b:s.heap.IsTupleIter c l i) (n:s.heap.IsTuple l items) (p:items[i]?=aB)
 (q:∀ d e,A0O c s.heap d->(∃ o,d.get? e=aA o/\o.cls = .type "StopIteration")->E (.ref e) {s with heap:=d}):
 A1J (A1K prog w) A (Builtin.SmallTypes.nextOf (.ref c)) Q E s:=by
 obtain⟨o,f,r,g⟩:=id b;obtain⟨t,h,_,u,j⟩:=n;unfold Builtin.SmallTypes.nextOf
 refine A1D (A20 (name:=Str.ofString "__next__") b.typeIs F.slot_tuple_iterator_next
  (A1Y F.slot_tuple_iterator_next b.typeIs F.entry_tuple_iterator_next ?_ (F.args_tuple_iterator_next_1 _)))
 show A1J _ _ (field (.ref c) 0 >>= _) _ _ s;refine A1D (A30 f g (x := .ref l) rfl ?_);show A1J _ _ (if (Value.ref l == Value.none)=aC then _ else _) _ _ s;rw[iG (show ¬ ((Value.ref l == Value.none)=aC) from YE)];show A1J _ _ (field (.ref c) 1 >>= _) _ _ s;refine A1D (A30 f g (x := .int i 0) rfl ?_);show A1J _ _ (A2H (.ref l) >>= _) _ _ s;refine A1D (A24 h j ?_);simp only[ZM,p];refine A1D (A2u (A1D (A25 f g (by simp) ?_)))
 first
  | refine A1D (A2n ?_)
  | skip
 show A1J _ _ (newExc (.type "StopIteration") [] >>= _) _ _ _;refine A1D ?_;simp only[newExc,newTuple];refine A1D (A1S ?_ (by size_fits));refine A1D (m:=A2w _ _) (A2L (a:=Value.none) (by first | rfl | (simp only[A2w];rfl)) ?_);refine A1S ?_ (by size_fits);simp only[A3X];refine A1D (A3A ?_)
 first | rw[show A.in1.handled=aB from k] | rw[k]
 refine A1D (A1H (A3O ?_));exact q _ _ (((Ye.update ..).extBut.push _).push _) ⟨_,YI _ rfl,rfl⟩
end
def BU{prog:A1L}{w:A1N}{A:A1Q}(m:A.handled=aB)(b l:A1G)(f:l≠b)(items:Array A1E):
 Draws prog w A b [b,l] items.size (λi v=>items[i]?=aA v) (λi h=>h.IsTupleIter b l i/\h.IsTuple l items) where
 live:=λ_ _ a=>let ⟨o,g,_⟩:=a.1;⟨o,g⟩
 frame:=λ_ _ _ a j=>⟨a.1.at λo e=>j b (by simp) o e,let ⟨o,g,r⟩:=a.2;⟨o,j l (by simp) o g,r⟩⟩
 item:=λi s Q E k a n=>by
  refine BV a.1 a.2 (x:=items[i]) (by simp[k]) λp c d=>?_;exact n _ p s.toks (by simp[k]) ⟨c,a.2.extBut d.extBut f⟩ d
 done:=λs Q E a q=>BZ m a.1 a.2 (by simp) q
def CK(l:A1G)(items:Array A1E)(n:Nat)(dct:Option A1G)(i:Array (Option A1E)):
 Meets (Builtin.«enumerate.__new__» ⟨[.type "enumerate",.ref l],[]⟩) (λ_ R s=>s.heap.get? l=aA {cls := .type "tuple",dict:=dct,data := .seq items n,slots:=i}/\
  R (.ok (.ret (.ref (s.heap.push {cls := .type "tuple_iterator",data := .fields #[.ref l,.int 0 0]}).objs.size)))
   {s with heap:=(s.heap.push {cls := .type "tuple_iterator",data := .fields #[.ref l,.int 0 0]}).push {cls := .type "enumerate",data := .fields #[.none,.bool aD,.ref s.heap.objs.size,rawInt 0,.none,.none]}}):=
 .of_wp λe w A R s h=>by
  obtain⟨j,g,d,k,m⟩:=s;obtain⟨a,h⟩:=h;have f:=sub_enumerate;have b:Heap.IsTuple (Shared.heap ⟨j,g,d,k,m⟩) l items:=⟨_,a,rfl,n,rfl⟩
  wp_walk using wpAny_loadPart' a
  refine wpAny_stack_any λo=>A1H ?_;split
  ·rename_i c _ _ _ _ _;cases(c == Value.type "enumerate")
   ·wp_walk using wpAny_loadPart' a,A2o b
    exact⟨_,rfl,h⟩
   ·wp_walk using wpAny_loadPart' a,A2o b
    exact⟨_,rfl,h⟩
  ·wp_walk using wpAny_loadPart' a,A2o b
   exact⟨_,rfl,h⟩
section
variable{prog:A1L}{w:A1N}{A:A1Q}{E:A1E->A1F->Prop}{s:A1F}
def BC{l:A1G}{items:Array A1E}{Q:A1E->A1F->Prop}(j:s.heap.IsTuple l items)
 (h:∀ a,IsEnum a (s.heap.objs.size+1) s.heap.objs.size 0 .none->a.IsTupleIter s.heap.objs.size l 0->a.objs.size=s.heap.objs.size+2->
   (∀ b o,s.heap.get? b=aA o->a.get? b=aA o)->Q (.ref (s.heap.objs.size+1)) {s with heap:=a}):
 A1J (A1K prog w) A (call (.type "enumerate") [.ref l]) Q E s:=by
 obtain⟨⟨c,dct,k,m⟩,p,d,n,e⟩:=j;replace d:c = .type "tuple":=d;replace e:k = .seq items n:=e;subst d e
 refine callType_new F.called_enumerate (by decide) (F.typeCall_enumerate_1 _) (F.newCall_enumerate_1 _) (λf=>F.args_object_init_2 f _) F.entry_enumerate_new
  (CK l items n dct m) ⟨p,?_⟩
 have g:(s.heap.push {cls := .type "tuple_iterator",data := .fields #[.ref l,.int 0 0]}).objs.size=s.heap.objs.size+1:=Yr ..;show _/\_;rw[g]
 have i:IsEnum ((s.heap.push {cls := .type "tuple_iterator",data := .fields #[.ref l,.int 0 0]}).push
  {cls := .type "enumerate",data := .fields #[.none,.bool aD,.ref s.heap.objs.size,rawInt 0,.none,.none]}) (s.heap.objs.size+1) s.heap.objs.size 0 .none:=by
  have:=YI (s.heap.push {cls := .type "tuple_iterator",data := .fields #[.ref l,.int 0 0]})
   (o:={cls := .type "enumerate",data := .fields #[.none,.bool aD,.ref s.heap.objs.size,rawInt 0,.none,.none]}) rfl
  rw[g]at this;exact this
 refine⟨⟨_,i,rfl⟩,h _ i ⟨_,Y8 _ (YI _ rfl),rfl,rfl⟩ (by rw[Yr,g]) λb o x=>Y8 _ (Y8 _ x)⟩
end
end PySem
namespace L2
open PySem PySem.Spec PyProof.Rows
section
variable{X:Cx}{pq:List (A1G×Obj)}{σ:St}{H:Hp}{s:A1F}{h':Heap}
def Inv.turnedL{t':Nat}{ch:List A1G}(I:Inv X pq σ H s)(k:∀ b o,b∉ch->s.heap.get? b=aA o->h'.get? b=aA o)(f:∀ b∈ch,FpOk X pq H b):Inv X pq σ H {s with heap:=h',toks:=t'}:=by
 have d:∀ b u,H b=aA u->b∉ch:=λb u e z=>by rw[(f b z).1]at e;cases e
 refine I.step (g':=s.gens) (d':=s.drawn) (ch:=ch) (λb g=>?_) (λb o _ _ a e _=>k b o a e) (λb o _ _ a e _=>⟨o.slots,k b o a e⟩) (λ_ _ _ _ n=>n)
  (λb o a e=>⟨o,k b o a e⟩) (λ_ _ e=>e) (λ_ _ _ e=>e) (λb y e=>⟨#[],by rw[e];simp⟩) (λm h=>?_) (λb u e=>?_) I.bare
 ·obtain⟨A,i,B,j,l,p⟩:=f b g;exact⟨j,i,l,p⟩
 ·obtain⟨o,t,w,x,r⟩:=h;exact⟨o,t,w,k _ o (λz=>(f _ z).2.1 rfl) x,r⟩
 ·refine(I.hok b u e).stay (λc v a q=>k c v ?_ q) (λ_ q=>q) λ_ _ q=>q;rcases a with z | z
  ·rw[z];exact d b u e
  ·exact d c _ z
def Inv.turnLay{t':Nat}{ch:List A1G}{o:HO}(I:Inv X pq σ H s)(k:∀ b u,b∉ch->s.heap.get? b=aA u->h'.get? b=aA u)(h:∀ b∈ch,FpOk X pq H b)
 (i:ObjOk X.prog X.w (upd H s.heap.objs.size o) h' s.heap.objs.size o):Inv X pq σ (upd H s.heap.objs.size o) {s with heap:=h',toks:=t'}:=by
 have d:H s.heap.objs.size=aB:=I.fresh;have f:∀ b u,H b=aA u->b∉ch:=λb u e z=>by rw[(h b z).1]at e;cases e
 have l:∀ b u,s.heap.get? b=aA u->b≠s.heap.objs.size:=λb u e=>YG (YD e)
 refine I.step (g':=s.gens) (d':=s.drawn) (ch:=ch) (λb g=>?_) (λb o _ _ a e _=>k b o a e) (λb o _ _ a e _=>⟨o.slots,k b o a e⟩) (λb u _ e n=>by rw[i9 (l b u e)];exact n)
  (λb o a e=>⟨o,k b o a e⟩) (λb j e=>by rw[i9 (i8 e d)];exact e) (λb u j e=>by rw[i9 (i8 e d)];exact e) (λb E e=>⟨#[],by rw[i9 (i8 e d),e];simp⟩) (λm p=>?_) (λb u e=>?_) I.bare
 ·obtain⟨F,t,G,x,y,A⟩:=h b g;exact⟨x,t,y,A⟩
 ·obtain⟨o,B,C,D,r⟩:=p;exact⟨o,B,C,k _ o (λz=>(h _ z).2.1 rfl) D,r⟩
 ·by_cases g:b=s.heap.objs.size
  ·subst g;rw[n6]at e;cases e;exact i
  ·rw[i9 g]at e;refine(I.hok b u e).stay (λc v a q=>k c v ?_ q) (λc q=>by rw[i9 (i8 q d)];exact q) λc j q=>by rw[i9 (i8 q d)];exact q
   rcases a with z | z
   ·rw[z];exact f b u e
   ·exact f c _ z
end
noncomputable def UC(K:Y2)(a:A1G):It:=
 ⟨λi H=>∃ xs x,SqL K H a xs/\xs[i]?=aA x,λi H x b=>∃ p v,H p=aB/\x = .ref p/\(∀ xs,SqL K H a xs->xs[i]?=aA v)/\b=upd H p (.tup [.int i,v]),λi H=>∃ xs,SqL K H a xs/\xs.length=i⟩
noncomputable def UD(K:Y2)(a:A1G):It:=
 ⟨λi H=>∃ xs x,SqT K H a xs/\xs[i]?=aA x,λi H x b=>∃ p v,H p=aB/\x = .ref p/\(∀ xs,SqT K H a xs->xs[i]?=aA v)/\b=upd H p (.tup [.int i,v]),λi H=>∃ xs,SqT K H a xs/\xs.length=i⟩
def NO:2<=A1M:=by decide
def Ib{P:A1L}{w:A1N}{K:Y2}{C:List Expr}{kx:Nat}{tp:Pos}(a e j:A1G)(t:e≠j)(Q:a≠e)(D:a≠j):Turn P w K (.Tuple C kx tp) (UC K a) [e,j] e (λi h=>(∃ g,IsEnum h e j i g)/\h.IsListIter j a i) where
 mem:=by simp
 obj:=λi h m b f=>by
  rcases YH.mp f with rfl | f
  ·obtain⟨⟨g,z⟩,_⟩:=m;exact⟨_,z,λv q=>by cases q⟩
  ·have R:b=j:=by simpa using f
   subst R;obtain⟨o,q,c,d⟩:=m.2;exact⟨o,q,λv z=>by rw[d]at z;cases z⟩
 keep:=λi h G m k=>⟨let ⟨g,z⟩:=m.1;⟨g,k e (by simp) _ z⟩,m.2.at λo q=>k j (by simp) o q⟩
 item:=by
  intro X S T U V i J s W H E I L m Y;subst S T U;obtain⟨xs,x,M,Z⟩:=Y;obtain⟨l,rv,p,hz⟩:=I.list M;obtain⟨u,hu,ru⟩:=rv.get Z;obtain⟨⟨g,N⟩,n⟩:=m
  have a0:i<l.toArray.size:=by
   have:=(gM hu).1;simpa using this
  refine A38 (Draws.list (prog:=X.prog) (w:=X.w) (A:=X.A.in1) (show X.A.in1.handled=aB from I.ok.hd V) j a D l.toArray) N ⟨n,p.isList⟩ a0 t (by simp[t,Ne.symm Q]) λy G B O ho a1 hT a5 hk=>?_
  have a2:y=u:=by
   have:l.toArray[i]?=aA u:=by simpa using hu
   rw[this]at O;exact(oj O).symm
  subst a2;refine⟨_,rfl,?_⟩
  have I1:Inv X J W (upd H s.heap.objs.size (.tup [.int i,x])) {s with heap:=G,toks:=B+1}:=
   I.turnLay (ch:=[e,j]) (λb o f q=>hk b o (λz=>f (by simp[z])) (λz=>f (by simp[z])) q) L ⟨NO,[.int i B,y],.cons ⟨B,rfl⟩ (.cons ru .nil),⟨_,hT,rfl,_,rfl⟩⟩
  refine A2V ho λh2 a3 F=>?_
  have r:∀ b∈[e,j],FpOk X J (upd H s.heap.objs.size (.tup [.int i,x])) b:=λb f=>by
   obtain⟨f0,f1⟩:=L b f
   have a4:b≠s.heap.objs.size:=by
    rcases YH.mp f with rfl | f
    ·exact YG (YD N)
    ·have R:b=j:=by simpa using f
     subst R;obtain⟨o,q,_⟩:=n;exact YG (YD q)
   exact⟨by rw[i9 a4];exact f0,f1⟩
  have I2:Inv X J W (upd H s.heap.objs.size (.tup [.int i,x])) {s with heap:=h2,toks:=B+1}:=
   Inv.turnedL (s:={s with heap:=G,toks:=B+1}) (t':=B+1) (ch:=[e,j]) I1 (λb o f q=>(F.2 b (λz=>f (by simp[z]))).trans q) r
  refine⟨.ref s.heap.objs.size,_,I2,rfl,⟨_,x,I.fresh,rfl,λys O=>by rw[I.list_inj O M];exact Z,rfl⟩,⟨⟨y,by simpa using a3⟩,a1.1.extBut F.extBut (Ne.symm t)⟩,λb f=>(r b f).1⟩
 done:=by
   intro X S T U V i J s W H E I L m Y;subst S T U;obtain⟨xs,M,Z⟩:=Y;obtain⟨l,rv,p,hz⟩:=I.list M;obtain⟨⟨g,N⟩,n⟩:=m;have hl:=rv.length;have hn:l.toArray.size=i:=by simp;omega
   refine A3h (Draws.list (prog:=X.prog) (w:=X.w) (A:=X.A.in1) (show X.A.in1.handled=aB from I.ok.hd V) j a D l.toArray) N (by rw[hn];exact⟨n,p.isList⟩) λG eb=>⟨rfl,I.turnedL (t':=s.toks) (ch:=[e,j]) (λb o f q=>eb b o (λz=>f (by simp[z])) q) L⟩
 self:=λ_ _ _ _ _ m h=>let ⟨g,z⟩:=m.1;A2D z h
def Ic{P:A1L}{w:A1N}{K:Y2}{C:List Expr}{kx:Nat}{tp:Pos}(a e j:A1G)(t:e≠j)(Q:a≠e)(D:a≠j):Turn P w K (.Tuple C kx tp) (UD K a) [e,j] e (λi h=>(∃ g,IsEnum h e j i g)/\h.IsTupleIter j a i) where
 mem:=by simp
 obj:=λi h m b f=>by
  rcases YH.mp f with rfl | f
  ·obtain⟨⟨g,z⟩,_⟩:=m;exact⟨_,z,λv q=>by cases q⟩
  ·have R:b=j:=by simpa using f
   subst R;obtain⟨o,q,c,d⟩:=m.2;exact⟨o,q,λv z=>by rw[d]at z;cases z⟩
 keep:=λi h G m k=>⟨let ⟨g,z⟩:=m.1;⟨g,k e (by simp) _ z⟩,m.2.at λo q=>k j (by simp) o q⟩
 item:=by
  intro X S T U V i J s W H E I L m Y;subst S T U;obtain⟨xs,x,M,Z⟩:=Y;obtain⟨l,rv,p,hz⟩:=I.tuple M;obtain⟨u,hu,ru⟩:=rv.get Z;obtain⟨⟨g,N⟩,n⟩:=m
  have a0:i<l.toArray.size:=by
   have:=(gM hu).1;simpa using this
  refine A38 (BU (prog:=X.prog) (w:=X.w) (A:=X.A.in1) (show X.A.in1.handled=aB from I.ok.hd V) j a D l.toArray) N ⟨n,p⟩ a0 t (by simp[t,Ne.symm Q]) λy G B O ho a1 hT a5 hk=>?_
  have a2:y=u:=by
   have:l.toArray[i]?=aA u:=by simpa using hu
   rw[this]at O;exact(oj O).symm
  subst a2;refine⟨_,rfl,?_⟩
  have I1:Inv X J W (upd H s.heap.objs.size (.tup [.int i,x])) {s with heap:=G,toks:=B+1}:=
   I.turnLay (ch:=[e,j]) (λb o f q=>hk b o (λz=>f (by simp[z])) (λz=>f (by simp[z])) q) L ⟨NO,[.int i B,y],.cons ⟨B,rfl⟩ (.cons ru .nil),⟨_,hT,rfl,_,rfl⟩⟩
  refine A2V ho λh2 a3 F=>?_
  have r:∀ b∈[e,j],FpOk X J (upd H s.heap.objs.size (.tup [.int i,x])) b:=λb f=>by
   obtain⟨f0,f1⟩:=L b f
   have a4:b≠s.heap.objs.size:=by
    rcases YH.mp f with rfl | f
    ·exact YG (YD N)
    ·have R:b=j:=by simpa using f
     subst R;obtain⟨o,q,_⟩:=n;exact YG (YD q)
   exact⟨by rw[i9 a4];exact f0,f1⟩
  have I2:Inv X J W (upd H s.heap.objs.size (.tup [.int i,x])) {s with heap:=h2,toks:=B+1}:=
   Inv.turnedL (s:={s with heap:=G,toks:=B+1}) (t':=B+1) (ch:=[e,j]) I1 (λb o f q=>(F.2 b (λz=>f (by simp[z]))).trans q) r
  refine⟨.ref s.heap.objs.size,_,I2,rfl,⟨_,x,I.fresh,rfl,λys O=>by rw[I.tuple_inj O M];exact Z,rfl⟩,⟨⟨y,by simpa using a3⟩,a1.1.extBut F.extBut (Ne.symm t)⟩,λb f=>(r b f).1⟩
 done:=by
   intro X S T U V i J s W H E I L m Y;subst S T U;obtain⟨xs,M,Z⟩:=Y;obtain⟨l,rv,p,hz⟩:=I.tuple M;obtain⟨⟨g,N⟩,n⟩:=m;have hl:=rv.length;have hn:l.toArray.size=i:=by simp;omega
   refine A3h (BU (prog:=X.prog) (w:=X.w) (A:=X.A.in1) (show X.A.in1.handled=aB from I.ok.hd V) j a D l.toArray) N (by rw[hn];exact⟨n,p⟩) λG eb=>⟨rfl,I.turnedL (t':=s.toks) (ch:=[e,j]) (λb o f q=>eb b o (λz=>f (by simp[z])) q) L⟩
 self:=λ_ _ _ _ _ m h=>let ⟨g,z⟩:=m.1;A2D z h
section
variable{X:Cx}
noncomputable def WJ(K:Y2)(c:TA):TI:=λd H R=>c d H λvs b=>∃ a,vs=[.ref a]/\(((∃ xs,SqL K b a xs)/\R (UC K a) b)\/((∃ xs,SqT K b a xs)/\R (UD K a) b))
def Dr:A1P "enumerate"=aA (.type "enumerate"):=by decide +kernel
def QX{a:Expr}{E:TA}{p pos:Pos}{j:List Expr}{F:Nat}{G:Pos}(J:Gl X "enumerate")(L:X.mg "enumerate"=aB)(M:PA X [a] E)(N:A1O [a] X.env=[(aD,eval a X.env)]:=by rfl):
 PI X (.Tuple j F G) (.Call (.Name "enumerate" p) [a] [] pos) (WJ X.K E):=by
 intro v s w H R I h;refine Call_ (B7 I J L Dr (PyProof.Rows.callWith_type1 (thn (M pos v s w H _ I h) λU c ⟨V,u,f,O,x⟩=>?_) N rfl));obtain⟨l,e,x⟩:=x;subst e;cases O with
 | cons r P=>
   cases P;cases r;rcases x with⟨⟨Q,y⟩,q⟩ | ⟨⟨Q,y⟩,q⟩
   ·obtain⟨k,S,m,T⟩:=f.list y;have z:@LT.lt Nat _ l c.heap.objs.size:=by obtain⟨o,n,e,_⟩:=m;exact YD e
    refine call_enumerate_list m.isList λA t g B C=>?_;refine A2D t ?_;have D:Inv X v w u {c with heap:=A}:=f.kept (t':=c.toks) C;refine⟨c.heap.objs.size+1,[c.heap.objs.size+1,c.heap.objs.size],_,_,u,rfl,D,Ib l _ c.heap.objs.size (show @Ne Nat _ _ by omega) (show @Ne Nat _ _ by omega) (show @Ne Nat _ _ by omega),⟨⟨_,t⟩,g⟩,λb i=>?_,q⟩
    have d:@LE.le Nat _ c.heap.objs.size b:=by
     rcases YH.mp i with rfl | i
     ·exact Zz _
     ·have e:b=c.heap.objs.size:=by simpa using i
      rw[e];exact YF _
    exact f.fpOk d (f.hok.fresh d)
   ·obtain⟨k,S,m,T⟩:=f.tuple y;have z:@LT.lt Nat _ l c.heap.objs.size:=by obtain⟨o,e,_⟩:=m;exact YD e
    refine BC (show c.heap.IsTuple l k.toArray from m) λA t g B C=>?_;refine A2D t ?_;have D:Inv X v w u {c with heap:=A}:=f.kept (t':=c.toks) C;refine⟨c.heap.objs.size+1,[c.heap.objs.size+1,c.heap.objs.size],_,_,u,rfl,D,Ic l _ c.heap.objs.size (show @Ne Nat _ _ by omega) (show @Ne Nat _ _ by omega) (show @Ne Nat _ _ by omega),⟨⟨_,t⟩,g⟩,λb i=>?_,q⟩
    have d:@LE.le Nat _ c.heap.objs.size b:=by
     rcases YH.mp i with rfl | i
     ·exact Zz _
     ·have e:b=c.heap.objs.size:=by simpa using i
      rw[e];exact YF _
    exact f.fpOk d (f.hok.fresh d)
end
def LX(a:List A1E)(k:Nat)(y:A1E):(a.toArray.extract 0 k).push y++a.toArray.extract k=(a.take k++y::a.drop k).toArray:=by
 apply Array.toList_inj.mp;simp
 first
  | done
  | exact A0A (by simp)
section
variable{X:Cx}
noncomputable def Js:V->List V->Hp->VK->Prop:=λx vs H Q=>∃ l xs i y,x = .ref l/\vs=[.int i,y]/\H l=aA (.lst xs)/\0<=i/\i<=xs.length/\xs.length<A1M/\Q .non (upd H l (.lst (xs.take i.toNat++y::xs.drop i.toNat)))
def F5:MtM X "list.insert" Js:=by
 intro m s o H x p v u Q I d f h;obtain⟨l,w,i,y,rfl,rfl,c,A,B,C,q⟩:=h;cases d;obtain⟨D,b,rfl,⟨t,rfl⟩,g⟩:=Vals.two f;obtain⟨z,a,n,r,E,e⟩:=I.lstM c;have G:=BW;refine A2B F.slot_list_insert ⟨_,e,rfl⟩ F.entry_list_insert (F.args_list_insert_3 _ _ _) (AutoSeq1.list_insert_list_int_val_1 l a.toArray n i t b (by rw[A3W (by omega) (by omega)];exact YE) (by rw[YB];omega)) ⟨e,?_⟩;refine⟨.non,_,I.lset (its':=a.take i.toNat++b::a.drop i.toNat) c e ?_ (Vals.append (r.take _) (.cons g (r.drop _))) ?_,rfl,q⟩
 ·have j:(if i<0 then (i+(a.toArray.size:Int)).toNat else min i.toNat a.toArray.size)=i.toNat:=by
   rw[iG (by omega),YB];omega
  show(let k:=if i<0 then (i+(a.toArray.size:Int)).toNat else min i.toNat a.toArray.size;(a.toArray.extract 0 k).push b++a.toArray.extract k)=_;rw[j];exact LX a i.toNat b
 ·rw[Y5,Z7,Ya,A0t];omega
noncomputable def BD(xs a:List V):Bool:=xs.length == a.length&&(xs.zip a).all λp=>eqV p.1 p.2
noncomputable def QY(K:Y2)(neg:Bool):R2:=λx y H Q=>∃ a b xs c,x = .ref a/\y = .ref b/\SqL K H a xs/\SqL K H b c/\((xs.all AH=aC/\c.all AH=aC)\/xs=[]\/c=[])/\Q (.bl (if neg then !BD xs c else BD xs c)) H
def Ds{xs b:List V}(f:xs.length=b.length):(YJ xs.length).all (λj=>eqV (xs.getD j .non) (b.getD j .non))=BD xs b:=by
 have g:BD xs b=(xs.zip b).all λp=>eqV p.1 p.2:=by unfold BD;simp[f]
 rw[g,Yp,YX,YX];constructor
 ·intro h p i;obtain⟨j,d,e⟩:=ZJ.mp i;have a:j<xs.length:=by simp at d;omega
  have c:j<b.length:=by omega
  have:=h j (YU.mpr a);rw[<-e];simpa[ZC,a,c] using this
 ·intro h j d;have a:j<xs.length:=YU.mp d;have c:j<b.length:=by omega
  have:=h (xs[j],b[j]) (ZJ.mpr ⟨j,by simp;omega,by simp⟩);simpa[ZC,a,c] using this
def CL{xs a:List V}{d e:List A1E}{A:A1Q}{s:A1F}(h:Vals xs d)(k:Vals a e)(f:(xs.all AH=aC/\a.all AH=aC)\/xs=[]\/a=[]):
 ∀ j (l:j<d.toArray.size) (m:j<e.toArray.size),SeqAt.EqAt A s d.toArray[j] e.toArray[j] (eqV (xs.getD j .non) (a.getD j .non)):=by
 intro j l m;have C:=h.length;have D:=k.length;simp only[YB]at l m;have b:j<xs.length:=by omega
 have c:j<a.length:=by omega
 obtain⟨n,o⟩:xs.all AH=aC/\a.all AH=aC:=by
  rcases f with f | f | f
  ·exact f
  ·subst f;simp at b
  ·subst f;simp at c
 obtain⟨u,p,r⟩:=h.get (i:=j) (x:=xs[j]) (by simp[b]);obtain⟨t,v,g⟩:=k.get (i:=j) (x:=a[j]) (by simp[c])
 have w:d.toArray[j]=u:=by
  have:=gM p;obtain⟨_,q⟩:=this;simpa using q
 have y:e.toArray[j]=t:=by
  obtain⟨_,q⟩:=gM v;simpa using q
 rw[w,y];have z:xs.getD j .non=xs[j]:=by simp[ZC,b]
 have B:a.getD j .non=a[j]:=by simp[ZC,c]
 rw[z,B];exact NH r g (YX.mp n _ (Z8 b)) (YX.mp o _ (Z8 c))
def UE(g:X.A.units<cLine):OpR X (A1T .Eq) (QY X.K aD):=by
 intro B s C H x y v u Q I p r h;obtain⟨a,b,c,d,rfl,rfl,t,w,f,q⟩:=h;cases p;cases r;obtain⟨i,j,k,_⟩:=I.list t;obtain⟨l,m,n,_⟩:=I.list w;have z:=j.length;have D:=m.length;by_cases o:c.length=d.length
 ·refine SeqAt.eq_listAt k.isList n.isList (by simp;omega) g (CL j m f) ⟨.bl _,H,I,rfl,?_⟩;rw[YB,<-z,Ds o];exact q
 ·refine SeqAt.eq_list_lengthsAt k.isList n.isList (by simp;omega) g ⟨.bl aD,H,I,rfl,?_⟩;have e:BD c d=aD:=by unfold BD;simp[o]
  rw[show(if aD=aC then !BD c d else BD c d)=BD c d from rfl,e]at q;exact q
def UF(g:X.A.units<cLine):OpR X (A1T .NotEq) (QY X.K aC):=by
 intro B s C H x y v u Q I p r h;obtain⟨a,b,c,d,rfl,rfl,t,w,f,q⟩:=h;cases p;cases r;obtain⟨i,j,k,_⟩:=I.list t;obtain⟨l,m,n,_⟩:=I.list w;have z:=j.length;have D:=m.length;by_cases o:c.length=d.length
 ·refine(SeqAt.RcNeAt.lists k.isList n.isList (by simp;omega) g (CL j m f)) _ _ _ _ ?_;refine⟨.bl _,H,I,rfl,?_⟩;rw[YB,<-z,Ds o];exact q
 ·refine(SeqAt.RcNeAt.lists_lengths k.isList n.isList (by simp;omega) g) _ _ _ _ ?_;refine⟨.bl aC,H,I,rfl,?_⟩;have e:BD c d=aD:=by unfold BD;simp[o]
  rw[show(if aC=aC then !BD c d else BD c d)=!BD c d from rfl,e]at q;exact q
def call_isi1:CallR X (.builtin "isinstance") (λa H Q=>∃ x T t b,a=[x,.ty T]/\TyOf X.K H x t/\PySem.W.kitOne X.K t (.type T)=aA b/\Q (.bl b) H):=by
 intro g s i H a j Q I r h;obtain⟨x,T,t,b,rfl,ty,e,q⟩:=h;obtain⟨k,l,rfl,c,d⟩:=Vals.two r;cases d;exact Ev I c ty e λf=>⟨.bl b,H,I.tok f,rfl,q⟩
def Id{D:List (A1G×Obj)}{F:St}{H:Hp}{s:A1F}{A:A1Q}{E:A1E->A1F->Prop}{Q:A1E->A1F->Prop}{b:Bool}{x:V}{u t:A1E}{v:A1G}{dd:Option A1G}{l:List A1E}{n:Nat}{G:Array (Option A1E)}(I:Inv X D F H s)(d:RelV x u)(ty:TyOf X.K H x t)
 (c:s.heap.get? v=aA ⟨.type "tuple",dd,.seq l.toArray n,G⟩) (e:PySem.W.kitAny X.K t l=aA b) (h:∀ L,Q (.bool b) {s with toks:=L}):
 A1J (A1K X.prog X.w) A (call (.builtin "isinstance") [u,.ref v]) Q E s:=by
 cases ty with
 | non=>cases(show u=Value.none from d);exact PySem.W.kia_tup PySem.W.kitx_none I.kIn True.intro c e (λz=>nomatch z) h
 | bl y=>cases(show u=Value.bool y from d);exact PySem.W.kia_tup PySem.W.kitx_bool I.kIn True.intro c e (λz=>nomatch z) h
 | int i=>obtain⟨t,q⟩:=(show ∃ t,u=Value.int i t from d);cases q;exact PySem.W.kia_tup PySem.W.kitx_int I.kIn True.intro c e (λz=>nomatch z) h
 | str y=>obtain⟨t,q⟩:=(show ∃ t,u=Value.str y t from d);cases q;exact PySem.W.kia_tup PySem.W.kitx_str I.kIn True.intro c e (λz=>nomatch z) h
 | flt y=>obtain⟨t,q⟩:=(show ∃ t,u=Value.float y t from d);cases q;exact PySem.W.kia_tup PySem.W.kitx_float I.kIn True.intro c e (λz=>nomatch z) h
 | @lst a k f=>
   cases(show u=Value.ref a from d);obtain⟨_,_,n,_,g⟩:=(show ObjOk X.prog X.w H s.heap a (.lst k) from I.hok a _ f)
   exact PySem.W.kia_tup PySem.W.kitx_list I.kIn ⟨_,g,rfl⟩ c e (λz=>nomatch z) h
 | @frz a M k f=>
   cases(show u=Value.ref a from d);obtain⟨_,_,_,n,_,g⟩:=(show ObjOk X.prog X.w H s.heap a (.frz M (.lst k)) from I.hok a _ f)
   exact PySem.W.kia_tup PySem.W.kitx_list I.kIn ⟨_,g,rfl⟩ c e (λz=>nomatch z) h
 | @tup a k f=>
   cases(show u=Value.ref a from d);obtain⟨_,_,_,p⟩:=(show ObjOk X.prog X.w H s.heap a (.tup k) from I.hok a _ f)
   obtain⟨o,g,m,_⟩:=p;exact PySem.W.kia_tup PySem.W.kitx_tuple I.kIn ⟨o,g,m⟩ c e (λz=>nomatch z) h
 | @dK a j f=>
   cases(show u=Value.ref a from d);obtain⟨_,_,U,_,p⟩:=(show ObjOk X.prog X.w H s.heap a (.dK j) from I.hok a _ f)
   obtain⟨o,N,P,g,m,_⟩:=p;exact PySem.W.kia_tup PySem.W.kitx_dict I.kIn ⟨o,g,m.1⟩ c e (λz=>nomatch z) h
 | @dT a j f=>
   cases(show u=Value.ref a from d);obtain⟨_,_,k,_,o,N,P,g,m,_⟩:=(show ObjOk X.prog X.w H s.heap a (.dT j) from I.hok a _ f)
   exact PySem.W.kia_tup PySem.W.kitx_dict I.kIn ⟨o,g,m.1⟩ c e (λz=>nomatch z) h
 | @ins a C Y Z f B R S r T=>
   cases(show u=Value.ref a from d);obtain⟨mA,O,_⟩:=Jj I.hok f;obtain⟨od,J,_⟩:=O.look;exact PySem.W.kia_tup (PySem.W.kitx_own (B.get _) B.hd R S r T) I.kIn J c e (λz=>nomatch z) h
theorem Jt:∀(a:List String) {b:List A1E},Vals (a.map V.ty) b->b=a.map Value.type
 | [],_,.nil=>rfl
 | T::r,_,.cons h t=>by cases h;rw[Jt r t];rfl
def LY:CallR X (.builtin "isinstance") (λg H Q=>∃(x:V) (p:A1G) (a:List String) (t:A1E) (b:Bool),g=[x,.ref p]/\H p=aA (.tup (a.map V.ty))/\TyOf X.K H x t/\PySem.W.kitAny X.K t (a.map Value.type)=aA b/\Q (.bl b) H):=by
 intro z s A H g B Q I r h;obtain⟨x,p,a,t,b,rfl,i,ty,e,q⟩:=h;obtain⟨C,D,rfl,j,k⟩:=Vals.two r;cases k;obtain⟨_,l,m,⟨⟨c,E,o,F⟩,u,d,n,f⟩⟩:=(show ObjOk X.prog X.w H s.heap p (.tup (a.map V.ty)) from I.hok p _ i)
 have v:=Jt a m;subst v;replace d:c = .type "tuple":=d;replace f:o = .seq (a.map Value.type).toArray n:=f;subst d f;exact Id I j ty u e λy=>⟨.bl b,H,I.tok y,rfl,q⟩
def LZ(B:X.calm=aC):CallR X (.builtin "all") (λx H Q=>∃(a:A1G) (bs:List Bool),x=[.ref a]/\SqL X.K H a (bs.map V.bl)/\Q (.bl (bs.all id)) H):=by
 intro C s D H x S Q I r h;obtain⟨a,bs,rfl,E,q⟩:=h;obtain⟨u,rfl,F⟩:=B2 r;cases F;obtain⟨c,y,l,T⟩:=I.list E;have z:=y.length;rw[Y4]at z;refine call_all_walk (A2d l.isList ?_);have m:a<s.heap.objs.size:=by obtain⟨o,n,e,_⟩:=l;exact YD e
 refine⟨s.heap.objs.size,_,_,_,_,_,λi=>bs.getD i aD,rfl,Walks.list (by exact I.ok.hd B) s.heap.objs.size a (YG m) c.toArray,⟨⟨_,YI _ rfl,rfl,rfl⟩,l.isList.push _⟩,?_,λG J L=>?_⟩
 ·intro i v M N U O p;have d:c[i]?=aA v:=by simpa using O
  have W:i<c.length:=(gM d).1;have t:(bs.map V.bl)[i]?=aA (.bl (bs[i]'(by omega))):=by simp
  obtain⟨Y,A,w⟩:=y.get t;rw[d]at A;cases A;cases w;have P:bs.getD i aD=bs[i]'(by omega):=by simp[ZC,show i<bs.length by omega]
  have f:N (bs.getD i aD) M:=p;rw[P]at f;exact A1V f
 ·have R:Inv X C D H {s with heap:=G,toks:=J}:=I.kept λb o e=>L b o (by simp;exact YG (YD e)) (Y8 _ e);refine⟨.bl _,H,R,rfl,?_⟩
  have e:(YJ c.toArray.size).all (λi=>bs.getD i aD)=bs.all id:=by
   rw[YB,<-z,Yp,YX,YX];constructor
   ·intro h b t;obtain⟨j,k,e⟩:=ZJ.mp t;have:=h j (YU.mpr k);simpa[ZC,k,e] using this
   ·intro h j k;have g:j<bs.length:=YU.mp k;have:=h bs[j] (Z8 g);simpa[ZC,g] using this
  rw[e];exact q
end
def srt(ns:List Int):List Int:=ns.mergeSort (λa b=>decide (a<=b))
def Gi(ns:List Int):(srt ns).Perm ns:=List.mergeSort_perm _ _
def UG(ns:List Int):(srt ns).Pairwise (·<=·):=by
 have h:=List.pairwise_mergeSort (le:=λ(a b:Int)=>decide (a<=b)) (λa b c d e=>by simp only[dQ]at *;omega) (λa b=>by simp only[Yj,dQ];omega) ns;exact h.imp λh=>of_decide_eq_true h
def NP{ns c:List Int}(d:c.Perm ns)(e:c.Pairwise (·<=·)):c=srt ns:=
 List.Perm.eq_of_pairwise (λ_ _ _ _ a b=>Int.le_antisymm a b) e (UG ns) (d.trans (Gi ns).symm)
theorem Ae:∀{ns:List Int} {a:List A1E},Vals (ns.map V.int) a->IntsAre a ns
 | [],_,.nil => .nil
 | _::_,_,.cons ⟨_,e⟩ t=>by subst e;exact .cons _ _ (Ae t)
theorem Cu:∀{ns:List Int} {a:List A1E},IntsAre a ns->Vals (ns.map V.int) a
 | _,_,.nil => .nil
 | _,_,.cons _ _ t => .cons ⟨_,rfl⟩ (Cu t)
def NQ:A1P "sorted"=aA (.builtin "sorted"):=by decide +kernel
section
variable{X:Cx}
def Gj:CallR X (.builtin "sorted") (λi H Q=>∃ p a,i=[.ref p]/\SqL X.K H p (a.map V.int)/\a.length<64/\∀ l,H l=aB->Q (.ref l) (upd H l (.lst ((srt a).map V.int)))):=by
 intro B s C H i D Q I r h;obtain⟨p,a,rfl,m,f,q⟩:=h;obtain⟨u,rfl,n⟩:=B2 r;cases n;obtain⟨g,j,t,E⟩:=I.list m;have c:=j.length;rw[Y4]at c;refine sorted_ints t.isList (Ae j) (by omega) λd v x k y=>?_;obtain⟨e,z⟩:=sortedAll_at s.heap g d;have A:=NP k y;subst A;refine⟨.ref (s.heap.objs.size+1),_,I.laid (t':=s.toks) (λb o h=>sortedAll_old h) (Zz _) (show ObjOk X.prog X.w _ _ _ (.lst ((srt a).map V.int)) from ⟨?_,d.toList,e,Cu x,by simpa using z⟩),rfl,q _ (I.hok.fresh (Zz _))⟩;rw[Y4,k.length_eq];exact Yg (Ze f) (by decide)
end
section
variable{κ:Type}[DecidableEq κ]
noncomputable def A9(a:List (κ×V))(k:κ):Option V:=(a.find? λb=>decide (b.1=k)).map (·.2)
noncomputable def B0(a:List (κ×V))(k:κ)(v:V):List (κ×V):=
 if (a.any λb=>decide (b.1=k))=aC then a.map (λb=>if b.1=k then (b.1,v) else b) else a++[(k,v)]
def Ba{p:κ×V}{r:List (κ×V)}{k:κ}(e:p.1=k):A9 (p::r) k=aA p.2:=by simp[A9,Yb,e]
def Bb{p:κ×V}{r:List (κ×V)}{k:κ}(e:¬ p.1=k):A9 (p::r) k=A9 r k:=by simp[A9,Yb,e]
theorem Dt(k:κ):∀ a:List (κ×V),(a.any λb=>decide (b.1=k))=(A9 a k).isSome
 | []=>rfl
 | p::r=>by
   rw[ZL];by_cases e:p.1=k
   ·simp only[Ba e,decide_eq_true e,A0c,A0Z]
   ·rw[Bb e,decide_eq_false e,A1v];exact Dt k r
def B3(a:List (κ×V))(k:κ)(v:V):(B0 a k v).length<=a.length+1:=by
 unfold B0;split
 ·rw[Y4];omega
 ·rw[Y5,Ya,ZS];omega
def Gk{a:List (κ×V)}{k:κ}(v:V)(h:A9 a k=aB):B0 a k v=a++[(k,v)]:=by
 unfold B0;rw[Dt,h];exact iG (by decide)
def RelO.isSome_eq{o:Option V}{u:Option A1E}(r:RelO o u):o.isSome=u.isSome:=by
 cases o with
 | none=>cases u with
   | none=>rfl
   | some _=>exact(show False from r).elim
 | some _=>cases u with
   | none=>exact(show False from r).elim
   | some _=>rfl
def RelO.getD{o:Option V}{u:Option A1E}{d:V}{d':A1E}(r:RelO o u)(a:RelV d d'):RelV (o.getD d) (u.getD d'):=by
 cases o with
 | none=>cases u with
   | none=>exact a
   | some _=>exact(show False from r).elim
 | some _=>cases u with
   | none=>exact(show False from r).elim
   | some _=>exact r
def KV.val{a:List (κ×V)}{vs:List (κ×A1E)}(r:KV a vs)(k:κ):RelO (A9 a k) (valueAt vs k):=by
 unfold KV at r
 induction r with
 | nil=>exact True.intro
 | @cons p q j c h t g=>
   obtain⟨f,i⟩:=h;by_cases e:p.1=k
   ·have d:q.1=k:=f.symm.trans e;have b:valueAt (q::c) k=aA q.2:=by simp[valueAt,Yb,d]
    rw[Ba e,b];exact i
   ·have d:¬ q.1=k:=λz=>e (f.trans z);have b:valueAt (q::c) k=valueAt c k:=by simp[valueAt,Yb,d]
    rw[Bb e,b];exact g
def KV.any{a:List (κ×V)}{vs:List (κ×A1E)}(r:KV a vs)(k:κ):(a.any λb=>decide (b.1=k))=vs.any λb=>decide (b.1=k):=by
 unfold KV at r
 induction r with
 | nil=>rfl
 | cons h t c=>rw[ZL,ZL,c,h.1]
def KV.repl{b:List (κ×V)}{vs:List (κ×A1E)}(r:KV b vs)(k:κ){y:V}{u:A1E}(d:RelV y u):
 KV (b.map λa=>if a.1=k then (a.1,y) else a) (vs.map λa=>if a.1=k then (a.1,u) else a):=by
 unfold KV at r ⊢
 induction r with
 | nil=>exact .nil
 | @cons p q i j h t f=>
   rw[Yf,Yf];refine .cons ?_ f;obtain⟨c,g⟩:=h;by_cases e:p.1=k
   ·rw[iP e,iP (c.symm.trans e)];exact⟨c,d⟩
   ·rw[iG e,iG (λz=>e (c.trans z))];exact⟨c,g⟩
def KV.put{a:List (κ×V)}{vs:List (κ×A1E)}(r:KV a vs)(k:κ){y:V}{u:A1E}(b:RelV y u):KV (B0 a k y) (stored vs k u):=by
 unfold B0 stored;rw[r.any k];by_cases e:(vs.any λc=>decide (c.1=k))=aC
 ·rw[iP e,iP e];exact r.repl k b
 ·rw[iG e,iG e];exact Paired.snoc r ⟨rfl,b⟩
def KV.keys{a:List (κ×V)}{vs:List (κ×A1E)}(r:KV a vs):a.map (·.1)=vs.map (·.1):=by
 unfold KV at r
 induction r with
 | nil=>rfl
 | cons h t b=>rw[Yf,Yf,b,h.1]
def KV.length{a:List (κ×V)}{vs:List (κ×A1E)}(r:KV a vs):a.length=vs.length:=Paired.length r
end
def Gm{P:A1L}{w:A1N}{k:Key}{u:A1E}(r:RelV (kV k) u):(t7 P w).is k u=aC:=by
 cases k with
 | inl i=>obtain⟨t,e⟩:=(show ∃ t,u=Value.int i t from r);subst e;exact GV P w i t
 | inr x=>obtain⟨t,e⟩:=(show ∃ t,u=Value.str x t from r);subst e;exact GW P w x t
theorem F6{P:A1L}{w:A1N}:∀{a:List Key} {b:List A1E},Vals (a.map kV) b->ItemsAre (t7 P w) a b
 | [],_,r=>by rw[A1x]at r;cases r;exact .nil
 | k::a,_,r=>by
   rw[Yf]at r;cases r with
   | cons h t=>exact .cons (Gm h) (F6 t)
noncomputable abbrev KT(H:Hp):List (List Key×V)->List (List Key×A1G×A1E)->Prop:=Paired λp q=>p.1=q.1/\H q.2.1=aA (.tup (p.1.map kV))/\RelV p.2 q.2.2
def KT.val{H:Hp}{a:List (List Key×V)}{xs:List (List Key×A1G×A1E)}(r:KT H a xs)(k:List Key):RelO (A9 a k) ((atKey xs k).map (·.2)):=by
 induction r with
 | nil=>exact True.intro
 | @cons p q j c h t g=>
   obtain⟨f,_,i⟩:=h;by_cases e:p.1=k
   ·have d:q.1=k:=f.symm.trans e;have b:atKey (q::c) k=aA q.2:=by simp[atKey,Yb,d]
    rw[Ba e,b];exact i
   ·have d:¬ q.1=k:=λz=>e (f.trans z);have b:atKey (q::c) k=atKey c k:=by simp[atKey,Yb,d]
    rw[Bb e,b];exact g
def KT.repl{H:Hp}{a:List (List Key×V)}{xs:List (List Key×A1G×A1E)}(r:KT H a xs)(k:List Key){y:V}{u:A1E}(f:RelV y u):
 KT H (a.map λc=>if c.1=k then (c.1,y) else c) (xs.map (putAt k u)):=by
 induction r with
 | nil=>exact .nil
 | @cons p q j l h t g=>
   rw[Yf,Yf];refine .cons ?_ g;obtain⟨b,d,i⟩:=h;unfold putAt;by_cases e:p.1=k
   ·rw[iP e,iP (b.symm.trans e)];exact⟨b,d,f⟩
   ·rw[iG e,iG (λz=>e (b.trans z))];exact⟨b,d,i⟩
def KT.put{H:Hp}{a:List (List Key×V)}{xs:List (List Key×A1G×A1E)}(r:KT H a xs)(k:List Key){b:A1G}{y:V}{u:A1E}(d:H b=aA (.tup (k.map kV)))(c:RelV y u):
 KT H (B0 a k y) (storedH xs k b u):=by
 have e:(a.any λf=>decide (f.1=k))=(atKey xs k).isSome:=by
  rw[Dt,(r.val k).isSome_eq,Option.isSome_map]
 unfold B0 storedH;rw[e];by_cases q:(atKey xs k).isSome=aC
 ·rw[iP q,iP q];exact r.repl k c
 ·rw[iG q,iG q];exact Paired.snoc r ⟨rfl,d,c⟩
def KT.keeps{H c:Hp}{a:List (List Key×V)}{xs:List (List Key×A1G×A1E)}(r:KT H a xs)(e:∀ b d,H b=aA (.tup d)->c b=aA (.tup d)):KT c a xs:=
 Paired.mapP r λ_ _ z=>⟨z.1,e _ _ z.2.1,z.2.2⟩
section
variable{P:A1L}{w:A1N}{H:Hp}{h:Heap}{a:A1G}
def SZ{u:HO}(b:HOk P w H h)(e:Rd H a u):ObjOk P w H h a u:=e.ok b
def Gn{b:List (Key×V)}(d:HOk P w H h)(e:Rd H a (.dK b)):b.length<=A1M/\(a == A22)=aD/\∃ c,KV b c/\h.DictOf (t7 P w) a c:=
 show ObjOk P w H h a (.dK b) from SZ d e
def Sa{b:List (Key×V)}(d:HOk P w H h)(e:H a=aA (.dK b)):b.length<=A1M/\(a == A22)=aD/\∃ c,KV b c/\h.DictOf (t7 P w) a c:=Gn d (.inl e)
def Du{b:List Key}(d:HOk P w H h)(e:H a=aA (.tup (b.map kV))):(A2Q (t7 P w)).is h b a:=by
 obtain⟨_,c,r,o,f,g,n,i⟩:=(show ObjOk P w H h a (.tup (b.map kV)) from d a _ e)
 exact⟨o,c.toArray,n,f,g,i,by simpa using F6 r⟩
def Gp{b:List (List Key×V)}(f:HOk P w H h)(e:Rd H a (.dT b)):b.length<=A1M/\(a == A22)=aD/\
 ∃ d,KT H b d/\h.DictOfH (A2Q (t7 P w)) a d:=by
 obtain⟨z,y,d,r,o,i,j,k,n,s,u,v⟩:=(show ObjOk P w H h a (.dT b) from SZ f e)
 refine⟨z,y,d,r,o,i,j,k,n,s,u,λx c=>?_,v⟩
 have all:∀{l:List (List Key×V)} {m:List (List Key×A1G×A1E)},KT H l m->∀ x∈m,(A2Q (t7 P w)).is h x.1 x.2.1:=by
  intro l m q
  induction q with
  | nil=>intro x c;exact nomatch c
  | @cons p q B C g t A=>
    intro x c;rcases YH.mp c with e | c
    ·subst e;exact Du f (by rw[<-g.1];exact g.2.1)
    ·exact A x c
 exact all r x c
def NR{b:List (List Key×V)}(d:HOk P w H h)(e:H a=aA (.dT b)):b.length<=A1M/\(a == A22)=aD/\
 ∃ c,KT H b c/\h.DictOfH (A2Q (t7 P w)) a c:=Gp d (.inl e)
end
def DGet(H:Hp)(a:A1G)(y:V)(r:Option V):Prop:=
 (∃ c k,Rd H a (.dK c)/\y=kV k/\r=A9 c k)\/∃ c k b,Rd H a (.dT c)/\y = .ref b/\H b=aA (.tup (k.map kV))/\r=A9 c k
def DPut(H:Hp)(a:A1G)(y v:V)(d:Hp):Prop:=
 (∃ c k,H a=aA (.dK c)/\y=kV k/\c.length<A1M/\d=upd H a (.dK (B0 c k v)))\/
 ∃ c k b,H a=aA (.dT c)/\y = .ref b/\H b=aA (.tup (k.map kV))/\c.length<A1M/\d=upd H a (.dT (B0 c k v))
def DGet.t{H:Hp}{a b:A1G}{c:List (List Key×V)}{k:List Key}(e:H a=aA (.dT c))(d:H b=aA (.tup (k.map kV))):DGet H a (.ref b) (A9 c k) := .inr ⟨c,k,b,.inl e,rfl,d,rfl⟩
def DPut.t{H:Hp}{a b:A1G}{c:List (List Key×V)}{k:List Key}{v:V}(e:H a=aA (.dT c))(d:H b=aA (.tup (k.map kV)))(f:c.length<A1M):
 DPut H a (.ref b) v (upd H a (.dT (B0 c k v))) := .inr ⟨c,k,b,e,rfl,d,f,rfl⟩
section
variable{X:Cx}{pq:List (A1G×Obj)}{σ:St}{H:Hp}{s:A1F}{a:A1G}{y v:V}{u r:A1E}{o:Option V}{A:A1Q}{E:A1E->A1F->Prop}
def Inv.big(I:Inv X pq σ H s):A22<s.heap.objs.size:=by
 have h:A1I<s.heap.objs.size:=(I.mod.glob.keeps I.bk).lt;exact A1z (by decide) h
def La{Q:A1E->A1F->Prop}(B:A.units+1<cLine)(I:Inv X pq σ H s)(g:DGet H a y (aA v))(t:RelV y u)(h:∀ f x,Inv X pq σ H x->RelV v f->Q f x):
 A1J (A1K X.prog X.w) A (getItem (.ref a) u) Q E s:=by
 rcases g with⟨i,k,e,j,l⟩ | ⟨i,k,b,e,j,C,l⟩
 ·subst j;obtain⟨z,D,F,c,m⟩:=Gn I.hok e;obtain⟨f,n,d⟩:=RelO.some_of (v:=v) (o:=valueAt F k) (by rw[l];exact c.val k);exact wpAny_getItem_of (Gm t) m.mapOf n (h f _ (I.tok _) d)
 ·subst j;cases(show u=Value.ref b from t);obtain⟨z,D,G,c,m⟩:=Gp I.hok e;obtain⟨f,n,d⟩:=RelO.some_of (v:=v) (o:=(atKey G k).map (·.2)) (by rw[l];exact c.val k);obtain⟨p,J,q⟩:=Zm.mp n;refine wpAny_getItem_heap (A2C B) (Du I.hok C) m J ?_;rw[q];exact h f _ (I.tok _) d
def DU{h':Heap}{t':Nat}{c:HO}(I:Inv X pq σ H s)(f:Mut (H a))(g:Ye a s.heap h')(h:∃ q,h'.get? a=aA q)(d:ObjOk X.prog X.w (upd H a c) h' a c):
 Inv X pq σ (upd H a c) {s with heap:=h',toks:=t'}:=
 I.write (x:=a) (e:=a) f (.inl rfl) (λb q i z=>(g.2 b i).trans z) h d
def NS{P:A1L}{w:A1N}{d:Hp}{h':Heap}{b:List (Key×V)}{vs:List (Key×A1E)}(z:b.length<=A1M)(e:(a == A22)=aD)(c:KV b vs)(dd:h'.DictOf (t7 P w) a vs):
 ObjOk P w d h' a (.dK b):=⟨z,e,vs,c,dd⟩
def Lb{D:Hp}{Q:Unit->A1F->Prop}(N:A.units+1<cLine)(I:Inv X pq σ H s)(g:DPut H a y v D)(F:RelV y u)(G:RelV v r)(h:∀ J,Inv X pq σ D J->Q () J):
 A1J (A1K X.prog X.w) A (setItem (.ref a) u r) Q E s:=by
 rcases g with⟨d,k,e,m,l,n⟩ | ⟨d,k,b,e,m,K,l,n⟩
 ·subst m n;obtain⟨z,p,O,f,t⟩:=Sa I.hok e;have x:O.length<=A1M:=by rw[<-f.length];exact z
  have B:(B0 d k v).length<=A1M:=by have:=B3 d k v;omega
  refine wpAny_setItem_pairs (hsz:=x) (Gm F) t λL i C=>h _ ?_;have P:∃ q,L.get? a=aA q:=let ⟨q,_,_,j,_⟩:=i;⟨q,j⟩
  exact DU I (by rw[e];exact True.intro) C P (NS B p (f.put k G) i)
 ·subst m n;cases(show u=Value.ref b from F);obtain⟨z,p,R,f,t⟩:=NR I.hok e;have x:R.length<=A1M:=by rw[<-Paired.length f];exact z
  have B:(B0 d k v).length<=A1M:=by have:=B3 d k v;omega
  refine wpAny_setItem_heap (hsz:=x) (A2C N) (Du I.hok K) t λL i C=>h _ ?_;obtain⟨q,S,T,j,U,V,W,_,Y⟩:=i;refine DU I (by rw[e];exact True.intro) C ⟨q,j⟩ ⟨B,p,_,(f.put k K G).keeps λc Z M=>?_,q,S,T,j,U,V,W,Y⟩;rw[i9 (Mt M e (λz=>nomatch z))];exact M
end
def WK(i:Expr):Prop:=∀ a b,A3s i aD a b=operate [a,b] (getItem a b)
def QZ{prog:A1L}{w:A1N}{A:A1Q}{E:A1E->A1F->Prop}{s:A1F}{env:Env}{b a:Expr}{pos:Pos}{T id:String}{Q:A1E->A1F->Prop}
 (m:A3V (.type T) "__getitem__"=pure (aA (.builtin id))) (n:WK a)
 (h:A1J (A1K prog w) A (eval b env) (λo e=>A1J (A1K prog w) A (eval a env) (λi c=>c.TypeIs o T/\A1J (A1K prog w) A (getItem o i) Q E c) E e) E s):
 A1J (A1K prog w) A (eval (.Subscript b a pos) env) Q E s:=by
 refine Subscript_ (A23 h (λo e j=>A23 j (λi c d=>?_) λ_ _ x=>x) λ_ _ x=>x);obtain⟨l,d⟩:=d;unfold subscriptTail;refine A1D ?_;rw[getitemInPython_of_ne l.not_modules];refine A1D (A3Q l m ?_)
 have g:A1J (A1K prog w) A (A3s a aD o i) (λr f=>A1J (A1K prog w) A (letTemporaryGo b o r >>= λ_=>pure r) Q E f) E c:=by
  rw[n o i];exact wpAny_operating (A23 d (λr f k=>A1D (wpAny_letTemporaryGo (A1H k))) λ_ _ x=>x)
 first
  | exact A1H (A1D g)
  | exact A1D (A1H (A1D g))
  | exact A1D g
def Gq{X:Cx}{f:List (A1G×Obj)}{h:St}{H:Hp}{s:A1F}{a:A1G}{y:V}{o:Option V}(I:Inv X f h H s)(g:DGet H a y o):s.TypeIs (.ref a) "dict":=by
 rcases g with⟨c,k,e,_,_⟩ | ⟨c,k,b,e,_,_,_⟩
 ·obtain⟨_,_,i,_,d⟩:=Gn I.hok e;exact d.typeIs
 ·obtain⟨_,_,j,_,d⟩:=Gp I.hok e;exact d.typeIs
def WL(d ty:TE):TE:=λb H Q=>d b H λx e=>ty b e λy c=>∃ a v,x = .ref a/\DGet c a y (aA v)/\Q v c
def Sc(d ty e:TE):TS:=λD b H=>e b H λv f=>d b f λx g=>ty b g λy h=>∃ a c,x = .ref a/\DPut h a y v c/\D.nx b c
section
variable{X:Cx}{o i e value:Expr}{pos pos' tpos:Pos}{td ty tv:TE}
def Qa(j:X.A.units+1<cLine)(k:PE X o td)(l:PE X i ty)(m:WK i):PE X (.Subscript o i pos) (WL td ty):=by
 intro c s d H Q I h;refine QZ PySem.F.slot_dict_getitem.lookup m (thn (k c s d H _ I h) λu n ⟨x,p,q,r,t⟩=>thn (l c n d p _ q t) λG J w=>?_);obtain⟨y,z,f,B,a,v,C,g,D⟩:=w;subst C;obtain rfl:u=Value.ref a:=r;exact⟨Gq f g,La j f g B λK L E b=>⟨v,z,E,b,D⟩⟩
def Qb(d:X.A.units+1<cLine)(f:PE X o td)(j:PE X i ty)(k:PE X value tv)(l:A2l value (aA (.Subscript o i pos')) pos.line X.env=pure aD):
 PS X (.Assign [.Subscript o i pos'] value pos) (Sc td ty tv):=by
 intro c s b H D I h;refine wpAny_Assign_Subscript (thn (k c s b H _ I h) λr m ⟨v,n,p,q,t⟩=>thn (f c m b n _ p t) λu w ⟨x,z,B,C,E⟩=>thn (j c w b z _ B E) λN O ⟨y,P,F,G,a,J,K,g,L⟩=>?_) l;subst K;obtain rfl:u=Value.ref a:=C;exact Lb d F g G q λQ M=>⟨b,J,M,L⟩
end
def NT{P:A1L}{w:A1N}{H:Hp}(h:Heap)(a:A22<h.objs.size):ObjOk P w H (h.push {cls := .type "dict",data := .dict #[]}) h.objs.size (.dK []):=
 ⟨Z3 _,beq_eq_false_iff_ne.mpr (Ne.symm (YG a)),[],.nil,Heap.DictOf.new h⟩
def NU{P:A1L}{w:A1N}{H:Hp}(h:Heap)(a:A22<h.objs.size):ObjOk P w H (h.push {cls := .type "dict",data := .dict #[]}) h.objs.size (.dT []):=
 ⟨Z3 _,beq_eq_false_iff_ne.mpr (Ne.symm (YG a)),[],.nil,_,#[],0,YI _ rfl,⟨rfl,rfl,rfl⟩,rfl,rfl,A1q⟩
noncomputable def UH:TE:=λ_ H Q=>∀ p,H p=aB->Q (.ref p) (upd H p (.dK []))
noncomputable def UI:TE:=λ_ H Q=>∀ p,H p=aB->Q (.ref p) (upd H p (.dT []))
section
variable{X:Cx}{pos:Pos}
def NV:PE X (.Dict [] [] pos) UH:=λb s c H Q I h=>
 A3J ⟨.ref s.heap.objs.size,_,I.laid (a:=s.heap.objs.size) (o := .dK []) (t':=s.toks) (λ_ _ q=>Y8 _ q) (YF _) (NT s.heap I.big),rfl,h _ (I.hok.fresh (YF _))⟩
def Gr:PE X (.Dict [] [] pos) UI:=λb s c H Q I h=>
 A3J ⟨.ref s.heap.objs.size,_,I.laid (a:=s.heap.objs.size) (o := .dT []) (t':=s.toks) (λ_ _ q=>Y8 _ q) (YF _) (NU s.heap I.big),rfl,h _ (I.hok.fresh (YF _))⟩
end
structure M2(X:Cx)(o:Expr)(m:Str)(apos:Pos)(e f:Expr)(cpos:Pos):Prop where
 base:A2J o m X.env (eval o X.env)=eval o X.env
 few:((backTo cpos (A1O [e,f] X.env)).all (λx=>!x.1)&&(A2U cpos (A2v [] X.env)).all (λx=>x.1.isSome)
  && decide (([e,f]:List Expr).length+([]:List Keyword).length+(if ([]:List Keyword).isEmpty then 0 else 1)<30))=aC
 line:(apos.endLine == cpos.line)=aC
 trees:backTo cpos (A1O [e,f] X.env)=[(aD,eval e X.env),(aD,eval f X.env)]
def IsD(H:Hp)(a:A1G):Prop:=(∃ b,Rd H a (.dK b))\/∃ b,Rd H a (.dT b)
def Ie{X:Cx}{k:List (A1G×Obj)}{l:St}{H:Hp}{s:A1F}{a:A1G}(I:Inv X k l H s)(d:IsD H a):
 s.TypeIs (.ref a) "dict"/\(∀ b,Value.ref a = .ref b->∃ c,s.heap.get? b=aA c/\c.dict=aB)/\(a == A22)=aD:=by
 rcases d with⟨g,e⟩ | ⟨g,e⟩
 ·obtain⟨_,h,m,_,f⟩:=Gn I.hok e;refine⟨f.typeIs,λb q=>?_,h⟩;cases q;obtain⟨c,_,_,i,j,_⟩:=f;exact⟨c,i,j.2.1⟩
 ·obtain⟨_,h,n,_,f⟩:=Gp I.hok e;refine⟨f.typeIs,λb q=>?_,h⟩;cases q;obtain⟨c,_,_,i,j,_⟩:=f;exact⟨c,i,j.2.1⟩
section
variable{X:Cx}{pq:List (A1G×Obj)}{σ:St}{H:Hp}{s:A1F}{a:A1G}{y d:V}{u r:A1E}{o:Option V}{A:A1Q}{E:A1E->A1F->Prop}
def UJ{Q:A1E->A1F->Prop}(v:A.units+1<cLine)(I:Inv X pq σ H s)(g:DGet H a y o)(n:RelV y u)(p:RelV d r)(h:∀ q t,Inv X pq σ H t->RelV (o.getD d) q->Q q t):
 A1J (A1K X.prog X.w) A (call (.builtin "dict.get") [.ref a,u,r]) Q E s:=by
 rcases g with⟨i,k,e,j,l⟩ | ⟨i,k,b,e,j,x,l⟩
 ·subst j;obtain⟨z,m,C,c,f⟩:=Gn I.hok e;refine A2P PySem.F.slot_dict_get f.typeIs PySem.F.entry_dict_get (PySem.F.args_dict_get_3 _ _ _) (meets_dict_get_default (t7 X.prog X.w) a (Gm n) m r) ⟨_,f.mapOf,h _ _ (I.tok _) ?_⟩;rw[l];exact(c.val k).getD p
 ·subst j;cases(show u=Value.ref b from n);obtain⟨z,m,B,c,f⟩:=Gp I.hok e;refine A2P PySem.F.slot_dict_get f.typeIs PySem.F.entry_dict_get (PySem.F.args_dict_get_3 _ _ _) (meetsH_dict_get_default (A2Q (t7 X.prog X.w)) a b m r) ⟨A2C v,k,B,Du I.hok x,f,h _ _ (I.tok _) ?_⟩;rw[l];exact(c.val k).getD p
end
def UK(e ty f:TE):TE:=λb H Q=>e b H λx c=>∃ a,x = .ref a/\IsD c a/\ty b c λy g=>f b g λz d=>∃ o,DGet d a y o/\Q (o.getD z) d
section
variable{X:Cx}{o e f:Expr}{apos cpos:Pos}{td ty tx:TE}
def NW(k:X.A.units+1<cLine)(l:PE X o td)(n:PE X e ty)(p:PE X f tx)(m:M2 X o "get" apos e f cpos):PE X (.Call (.Attribute o "get" apos) [e,f] [] cpos) (UK td ty tx):=by
 intro b s c H Q I h;refine A31 m.base m.few m.line PySem.F.plainAttrs_dict PySem.F.slot_dict_get PySem.F.type_dict_get (thn (l b s c H _ I h) λu q r=>?_);obtain⟨x,t,j,v,a,w,d,B⟩:=r;subst w;obtain rfl:u=Value.ref a:=v;obtain⟨C,D,_⟩:=Ie j d;refine⟨C,D,?_⟩;rw[m.trees]
 refine Calls.callWith_builtin rfl (Calls.evalArgs_plain (Calls.spliced_cons (thn (n b q c t _ j B) λS E ⟨y,G,J,K,L⟩=>
  Calls.spliced_cons (thn (p b E c G _ J L) λT U ⟨z,M,N,O,V,g,P⟩=>Calls.spliced_nil ?_))))
 exact UJ k N g K O λW Y R i=>⟨_,M,R,i,P⟩
end
end L2
set_option maxHeartbeats 1000000
namespace L2
open PySem PySem.Spec PyProof.Rows
section
variable{prog:A1L}{w:A1N}{A:A1Q}{R:Result->A1F->Prop}{I:A1G}{fp wr:List A1G}{G:Array A35->Array A35->Prop}{n:Nat}{P:Nat->A1E->Prop}{St:Nat->A1F->Prop}
noncomputable def TupsAt(prog:A1L)(w:A1N)(h:Heap)(n:Nat)(c:Nat->A1G)(b:Nat->Key×A1E):Prop:=∀ i,i<n->∃ a,(t7 prog w).is (b i).1 a=aC/\h.IsTuple (c i) #[a,(b i).2]
def TupsAt.keep{h h':Heap}{a:Nat->A1G}{c:Nat->Key×A1E}(t:TupsAt prog w h n a c)(k:∀ i o,i<n->h.get? (a i)=aA o->h'.get? (a i)=aA o):TupsAt prog w h' n a c:=λi d=>by
 obtain⟨b,e,o,f,r⟩:=t i d;exact⟨b,e,o,k i o d f,r⟩
end
end L2
set_option maxHeartbeats 2000000
namespace L2
open PySem PySem.Spec PyProof.Rows
def KV.at{c:Type}{d:List (c×V)}{vs:List (c×A1E)}(r:KV d vs):∀{i:Nat} {p:c×V},d[i]?=aA p->∃ v,vs[i]?=aA (p.1,v)/\RelV p.2 v:=by
 intro i
 induction r generalizing i with
 | nil=>exact λh=>by simp at h
 | @cons a b _ _ h _ f=>
   intro p e;cases i with
   | zero=>cases e;exact⟨b.2,by rw[h.1];rfl,h.2⟩
   | succ i=>exact f e
section
variable{X:Cx}
theorem CV(n:Bool):∀{ns:List Bool} {a:List A1E},Vals (ns.map V.bl) a->a.countP (eqU (.bl n))=ns.count n
 | [],_,r=>by cases r;rfl
 | m::ns,_,r=>by
   cases r with
   | cons r1 b=>
     rw[A03,List.count_cons,CV n b,FY r1 rfl];rfl
def Ju:V->List V->Hp->VK->Prop:=λx vs H Q=>∃(l:A1G) (ns:List Bool) (n:Bool),x = .ref l/\vs=[.bl n]/\H l=aA (.lst (ns.map V.bl))/\Q (.int (ns.count n:Nat)) H
def F7:MtM X "list.count" Ju:=by
 intro c s d H x t v w Q I f g h;obtain⟨l,b,n,rfl,rfl,i,q⟩:=h;cases f;obtain⟨u,rfl,j⟩:=g.one;obtain⟨z,a,k,r,A,e⟩:=I.lstM i
 have m:(b.map V.bl).all AH=aC:=YX.mpr λv o=>by
  obtain⟨n,_,rfl⟩:=YO.mp o;rfl
 refine A2B F.slot_list_count ⟨_,e,rfl⟩ F.entry_list_count (F.args_list_count_2 _ _) (SeqAt.list_countAt l a.toArray k aB #[] u (eqU (.bl n))) ⟨e,λy p=>Al j rfl r m y (by simpa using p),?_⟩;show EP X c d Q (.int ((a.toArray.toList.countP (eqU (.bl n)):Nat):Int) s.toks) _;rw[show a.toArray.toList=a from rfl,CV n r];exact⟨.int (b.count n:Nat),H,I.tok _,⟨_,rfl⟩,q⟩
def Jv:V->List V->Hp->VK->Prop:=λx vs H Q=>∃(l:A1G) (ns:List Bool) (n:Bool) (j:Nat),x = .ref l/\vs=[.bl n]/\H l=aA (.lst (ns.map V.bl))/\ns[j]?=aA n/\(∀ m,m<j->ns[m]?≠aA n)/\Q (.int (j:Nat)) H
def F8:MtM X "list.index" Jv:=by
 intro P s R H x S v T Q I B C h;obtain⟨l,b,n,j,rfl,rfl,D,A,o,q⟩:=h;cases B;obtain⟨u,rfl,E⟩:=C.one;obtain⟨z,a,k,r,G,e⟩:=I.lstM D;have f:=G;rw[Y4]at f z;have J:j<b.length:=(gM A).1;have g:j<a.toArray.size:=by rw[YB];omega
 have K:(b.map V.bl).all AH=aC:=YX.mpr λv L=>by
  obtain⟨n,_,rfl⟩:=YO.mp L;rfl
 have i:∀ m (d:m<a.toArray.size),eqU (.bl n) a.toArray[m]=(b[m]'(by rw[YB]at d;omega) == n):=λm d=>by
  have c:m<b.length:=by rw[YB]at d;omega
  obtain⟨M,p,t⟩:=r.get (show(b.map V.bl)[m]?=aA (V.bl b[m]) by simp[c])
  have N:a.toArray[m]=M:=by
   have:a[m]?=aA a.toArray[m]:=by simp
   rw[p]at this;exact(oj this).symm
  rw[N,FY t rfl];rfl
 refine A2B F.slot_list_index ⟨_,e,rfl⟩ F.entry_list_index (F.args_list_index_2 _ _)
  (SeqAt.list_indexAt l a.toArray k aB #[] u (eqU (.bl n)) j g ?_ ?_ ?_) ⟨e,?_,?_⟩
 ·have:b.length<=A1M:=z;have U:=BW;omega
 ·rw[i j g];have:=(gM A).2;simp[this]
 ·intro m d w;rw[i m d];have c:m<b.length:=by rw[YB]at d;omega
  have:=o m w;simpa[c] using this
 ·intro y O;exact Al E rfl r K y (by simpa using O)
 ·exact⟨.int (j:Nat),H,I.tok _,⟨_,rfl⟩,q⟩
end
mutual
noncomputable def Dat(H:Hp):V->PyData->Prop
 | x,.none=>x = .non
 | x,.bool b=>x = .bl b
 | x,.int i=>x = .int i
 | x,.str s=>x = .str s
 | x,.list c=>∃ a xs,x = .ref a/\H a=aA (.lst xs)/\DatAll H xs c
 | x,.tuple c=>∃ a xs,x = .ref a/\H a=aA (.tup xs)/\DatAll H xs c
 | _,.dict _=>False
noncomputable def DatAll(H:Hp):List V->List PyData->Prop
 | [],[]=>True
 | x::xs,d::a=>Dat H x d/\DatAll H xs a
 | [],_::_=>False
 | _::_,[]=>False
end
mutual
theorem Dat.mono{H j:Hp}(k:∀ b o,H b=aA o->j b=aA o):∀(x:V) (d:PyData),Dat H x d->Dat j x d
 | _,.none,h=>by unfold Dat at h ⊢;exact h
 | _,.bool _,h=>by unfold Dat at h ⊢;exact h
 | _,.int _,h=>by unfold Dat at h ⊢;exact h
 | _,.str _,h=>by unfold Dat at h ⊢;exact h
 | x,.list f,h=>by
   unfold Dat at h ⊢;obtain⟨a,c,e,g,i⟩:=h;exact⟨a,c,e,k _ _ g,DatAll.mono k c f i⟩
 | x,.tuple f,h=>by
   unfold Dat at h ⊢;obtain⟨a,c,e,g,i⟩:=h;exact⟨a,c,e,k _ _ g,DatAll.mono k c f i⟩
 | _,.dict _,h=>by unfold Dat at h;exact h.elim
theorem DatAll.mono{H c:Hp}(k:∀ b o,H b=aA o->c b=aA o):∀(xs:List V) (a:List PyData),DatAll H xs a->DatAll c xs a
 | [],[],_=>by unfold DatAll;trivial
 | x::xs,d::a,h=>by
   unfold DatAll at h ⊢;exact⟨Dat.mono k x d h.1,DatAll.mono k xs a h.2⟩
 | [],_::_,h=>by unfold DatAll at h;exact h.elim
 | _::_,[],h=>by unfold DatAll at h;exact h.elim
end
section
variable{X:Cx}{a b:Expr}{ta:TE}{pos:Pos}
def Lc:OpR X (A1T .IsNot) (λx y H Q=>∃ c d,x = .bl c/\y = .bl d/\Q (.bl (c != d)) H):=by
 intro g s i H x y v u Q I e f h;obtain⟨c,d,rfl,rfl,q⟩:=h;cases e;cases f;exact isnot_bool ⟨.bl (c != d),H,I,rfl,q⟩
end
def b_set:A1P "set"=aA (.type "set"):=by decide +kernel
section
variable{prog:A1L}{w:A1N}{A:A1Q}{E:A1E->A1F->Prop}{s:A1F}
def IsPr(h:Heap)(v:A1E)(a b:Int):Prop:=∃ p o n t u,v = .ref p/\h.get? p=aA o/\o.cls = .type "tuple"/\o.data = .seq #[.int a t,.int b u] n
def IsPr.at{h h':Heap}{v:A1E}{a b:Int}(x:IsPr h v a b)(k:∀ p o,h.get? p=aA o->o.cls = .type "tuple"->h'.get? p=aA o):IsPr h' v a b:=by
 obtain⟨p,o,n,d,f,e,g,c,i⟩:=x;exact⟨p,o,n,d,f,e,k p o g c,c,i⟩
end
def Up(xs:Array Nat):Prop:=∀ i j (a:i<xs.size) (b:j<xs.size),i<j->xs[i]<xs[j]
def up_list{xs:Array Nat}:Up xs↔xs.toList.Pairwise (·<·):=by
 rw[List.pairwise_iff_getElem]
 exact⟨λh i j b c a=>by simpa using h i j (by simpa using b) (by simpa using c) a,λh i j b c a=>by
  have:=h i j (by simpa using b) (by simpa using c) a
  rwa [A0P,A0P]at this⟩
def NX{xs:Array Nat}(o:Up xs)(j:Nat):∀(f b a:Nat),a<=xs.size->b<=a->a - b<=f->(∀ i (h:i<xs.size),i<b->xs[i]<j)->(∀ i (h:i<xs.size),a<=i->j<=xs[i])->
 (SetTable.below.go xs j f b a)<=xs.size/\(∀ i (h:i<xs.size),i<SetTable.below.go xs j f b a->xs[i]<j)/\(∀ i (h:i<xs.size),SetTable.below.go xs j f b a<=i->j<=xs[i]):=by
 intro f
 induction f with
 | zero=>
   intro b a d q r g k;have:b=a:=by omega
   subst this;unfold SetTable.below.go;exact⟨d,g,k⟩
 | succ f p=>
   intro b a d q r g k;unfold SetTable.below.go;by_cases c:b<a
   ·rw[iP c];have m:(b+a) / 2<xs.size:=by omega
    have e:xs.getD ((b+a) / 2) j=xs[(b+a) / 2]:=by simp[A1r,m]
    dsimp only;rw[e];by_cases l:xs[(b+a) / 2]<j
    ·rw[iP l];refine p _ _ d (by omega) (by omega) (λi h n=>?_) k;by_cases z:i=(b+a) / 2
     ·subst z;exact l
     ·exact A1z (o i _ h m (by omega)) l
    ·rw[iG l];refine p _ _ (by omega) (by omega) (by omega) g (λi h n=>?_);by_cases z:i=(b+a) / 2
     ·subst z;omega
     ·have:=o _ i m h (by omega);omega
   ·rw[iG c];have:b=a:=by omega
    subst this;exact⟨d,g,k⟩
def Gs{xs:Array Nat}(a:Up xs)(j:Nat):SetTable.below xs j<=xs.size/\(∀ i (h:i<xs.size),i<SetTable.below xs j->xs[i]<j)/\(∀ i (h:i<xs.size),SetTable.below xs j<=i->j<=xs[i]):=
 NX a j xs.size 0 xs.size (YF _) (Z3 _) (by omega) (λi _ h=>absurd h (Zx _)) (λi h b=>absurd h (Nat.not_lt.mpr b))
def UL{xs:Array Nat}(l:Up xs){j:Nat}(s:xs[SetTable.below xs j]?≠aA j):Up (SetTable.insertAt xs (SetTable.below xs j) j):=by
 obtain⟨w,t,p⟩:=Gs l j;rw[up_list,SetTable.toList_insertAt];have q:=up_list.mp l
 have d:∀ i (h:i<xs.size),SetTable.below xs j<=i->j<xs[i]:=by
  intro i h c;have:=p i h c;by_cases z:SetTable.below xs j=i
  ·have:xs[i]≠j:=λe=>s (by rw[z];simp[h,e]);omega
  ·have a:=l _ i (by omega) h (Nat.lt_of_le_of_ne c z);have b:=p (SetTable.below xs j) (by omega) (YF _);omega
 rw[List.pairwise_append];refine⟨q.take,?_,?_⟩
 ·rw[Zy];refine⟨λy f=>?_,q.drop⟩;obtain⟨i,c,e⟩:=ZJ.mp f;rw[A14]at e;have m:SetTable.below xs j+i<xs.size:=by simp at c;omega
  have:=d _ m (A0u _ _);rw[<-e];simpa using this
 ·intro x u y f;obtain⟨i,c,e⟩:=ZJ.mp u;have n:i<SetTable.below xs j:=by simp at c;omega
  have o:x<j:=by
   rw[<-e,List.getElem_take];have:=t i (by omega) n;simpa using this
  rcases YH.mp f with rfl | f
  ·exact o
  ·obtain⟨k,v,r⟩:=ZJ.mp f;rw[A14]at r;have g:SetTable.below xs j+k<xs.size:=by simp at v;omega
   have:=d _ g (A0u _ _);have h:xs.toList[SetTable.below xs j+k]'(by simpa using g)=xs[SetTable.below xs j+k]:=by simp
   rw[h]at r;omega
structure Tab(w:A1N)(t:A27):Prop where
 up:Up t.place
 no:t.dummies=#[]
 led:t.led=!w.params.followText "set-order"
def NY{w:A1N}{t:A27}(T:Tab w t)(j:Nat):t.slot j ≠ .dummy:=by
 unfold SetTable.slot;rw[T.no];dsimp only;split
 ·exact λz=>nomatch z
 ·have:SetTable.has #[] j=aD:=rfl;rw[this];exact λz=>nomatch z
def UM{w:A1N}{t:A27}(T:Tab w t)(g:Nat->Int)(h:Int):∀(f:Nat) (p:SetTable.Probe) (j:Nat) (d:Option Nat),p.dummy=aB->SetTable.probe.go t g h f p=aA (.empty j d)->t.slot j = .empty/\d=aB:=by
 intro f
 induction f with
 | zero=>intro p j d _ e;unfold SetTable.probe.go at e;cases e
 | succ f k=>
   intro p j d c e
   have a:∀ q:SetTable.Probe,q.dummy=aB->(t.advance q).dummy=aB:=by
    intro q i;unfold SetTable.advance;split
    ·exact i
    ·exact i
   unfold SetTable.probe.go at e;split at e
   ·rename_i b;cases e;exact⟨b,c⟩
   ·rename_i b;exact absurd b (NY T _)
   ·split at e
    ·cases e
    ·exact k _ _ _ (a _ c) e
def NZ{w:A1N}{t:A27}(T:Tab w t){h:Int}{j:Nat}{b:Bool}(e:t.freeSlot h=aA (j,b)):t.place[SetTable.below t.place j]?≠aA j:=by
 unfold SetTable.freeSlot at e;split at e
 ·rename_i i d c;unfold SetTable.probe at c;obtain⟨a,f⟩:=UM T _ _ _ _ _ _ rfl c;subst f;cases e;unfold SetTable.slot at a;dsimp only[Option.getD_none]at a ⊢;split at a
  ·cases a
  ·rename_i g;intro z;exact g (by rw[z];simp)
 ·cases e
def Bx{w:A1N}{t:A27}(T:Tab w t)(n:Nat):Tab w (t.standIn n):=by
 refine⟨?_,rfl,T.led⟩;show Up (Array.range n);intro i j b c a;simpa using a
def UN{w:A1N}{t:A27}(T:Tab w t)(n:Nat):Tab w (t.orStandIn n):=by
 unfold SetTable.orStandIn;split
 ·exact T
 ·exact Bx T n
def Qc{w:A1N}{t:A27}(T:Tab w t)(es:Array (Int×A1E))(h:Int)(x:A1E):Tab w (layNew t es h x).2.1:=by
 unfold layNew;split
 ·rename_i j b e;refine UN (t:=(t.put j).1) ⟨UL T.up (NZ T e),?_,T.led⟩ _;show(if SetTable.has t.dummies j=aC then _ else t.dummies)=#[];rw[T.no];rfl
 ·exact Bx T _
def Ld{w:A1N}{t:A27}(T:Tab w t)(es:Array (Int×A1E))(n:Nat):Tab w (A3u t es n).2.1:=by
 unfold A3u;split
 ·rename_i m f e;dsimp only;split
  ·unfold SetTable.relaid SetTable.laid at e;obtain⟨c,_,e⟩:=Option.bind_eq_some_iff.mp e;have i:=oj e;have k:=congrArg Prod.fst i;subst k;refine⟨?_,rfl,T.led⟩;rw[up_list]
   have g:∀ l:List Nat,l.Pairwise (·<·)->((l.filterMap λj=>(c.getD j aB).map (j,·)).map (·.1)).Pairwise (·<·):=by
    intro l h
    have:(l.filterMap λj=>(c.getD j aB).map (j,·)).map (·.1)=l.filter λj=>(c.getD j aB).isSome:=by
     induction l with
     | nil=>rfl
     | cons a l d=>
       have d:=d (Zy.mp h).2;cases ho:c.getD a aB with
       | none=>rw[A0r (by rw[ho];rfl),List.filter_cons_of_neg (by rw[ho];simp),d]
       | some b=>rw[A0s (b:=(a,b)) (by rw[ho];rfl),List.filter_cons_of_pos (by rw[ho];rfl),Yf,d]
    rw[this];exact h.filter _
   simpa using g _ List.pairwise_lt_range
  ·exact Bx T _
 ·exact Bx T _
noncomputable def SetX(prog:A1L)(w:A1N)(h:Heap)(a:A1G)(L:List Int):Prop:=
 ∃ o es ep t,h.get? a=aA o/\o.ExactSet/\o.data = .set es ep t/\ElemsOf (intKind prog w) es.toList/\es.size<A2s/\t.fits es.size=aC/\Tab w t/\(es.toList.map λe=>numOf e.2).Perm L
section
variable{prog:A1L}{w:A1N}{A:A1Q}{E:A1E->A1F->Prop}{s:A1F}
def SetX.keep{h h':Heap}{a:A1G}{L:List Int}(x:SetX prog w h a L)(k:∀ o,h.get? a=aA o->h'.get? a=aA o):SetX prog w h' a L:=by
 obtain⟨o,b,c,t,d,r⟩:=x;exact⟨o,b,c,t,k o d,r⟩
def DV{k:Int}{v:A1E}(h:(intKind prog w).is k v=aC):numOf v=k:=by
 obtain⟨t,rfl⟩:=Value.isInt_shape (k:=k) (v:=v) h;rfl
def Na{h:Heap}{a:A1G}{o:Obj}{es b:Array (Int×A1E)}{ep:Nat}{t t':A27}{L:List Int}(d:h.get? a=aA o)(f:o.ExactSet)(c:o.data = .set es ep t)
 (i:ElemsOf (intKind prog w) b.toList) (j:b.size<A2s) (k:t'.fits b.size=aC) (l:Tab w t') (m:(b.toList.map λe=>numOf e.2).Perm L):
 (h.update a (Obj.putSet b t')).get? a=aA {o with data := .set b (ep+1) t'}/\SetX prog w (h.update a (Obj.putSet b t')) a L:=by
 have g:=Yc (Obj.putSet b t') d (by rw[putSet_of b t' c];rfl);rw[putSet_of b t' c]at g;exact⟨g,_,b,ep+1,t',g,f,rfl,i,j,k,l,m⟩
def Sd{g:Bool->Sem Unit}(D:∀(b:Bool) (f:A1F) (Q':Unit->A1F->Prop),Q' () f->A1J (A1K prog w) A (g b) Q' E f){a:A1G}{o:Obj}{es c:Array (Int×A1E)}{ep:Nat}{t d:A27}{L:List Int}{p:Bool}
 {R:Option Bool->A1F->Prop} (q:s.heap.get? a=aA o) (r:o.ExactSet) (u:o.data = .set es ep t) (v:ElemsOf (intKind prog w) c.toList) (k:c.size<A2s) (F:d.fits c.size=aC) (x:Tab w d) (y:(c.toList.map λe=>numOf e.2).Perm L)
 (h:∀ l,Ye a s.heap l->SetX prog w l a L->R (aA aC) {s with heap:=l}):
 A1J (A1K prog w) A (do
  storeSet a c d
  if (!p&&d.tooFull)=aC then do
      g (A3u d c (SetTable.grown c.size)).2.2
      storeSet a (A3u d c (SetTable.grown c.size)).1 (A3u d c (SetTable.grown c.size)).2.1
      pure (aA aC)
   else pure (aA aC)) R E s:=by
 obtain⟨z,G⟩:=Na (prog:=prog) q r u v k F x y;have B:=Ye.update s.heap a (Obj.putSet c d);refine A1D (A3G q u ?_ (A32 k));by_cases C:(!p&&d.tooFull)=aC
 ·rw[iP C];have i:=relayAll_perm d c (SetTable.grown c.size);have m:=relayAll_fits d c (SetTable.grown c.size);have n:=Ld x c (SetTable.grown c.size)
  have j:(A3u d c (SetTable.grown c.size)).1.size<A2s:=by
   rw[<-Yw,i.length_eq,Yw];exact k
  obtain⟨_,H⟩:=Na (prog:=prog) z r rfl (v.perm i) j m n ((i.map _).trans y);exact A1D (D _ _ _ (A1D (A3G z rfl (A1H (h _ (B.trans (Ye.update _ a _)) H)) (A32 j))))
 ·rw[iG C];exact A1H (h _ B G)
def Xf{a:A1G}{L:List Int}{k:Int}{u:Tok}{Q:Bool->A1F->Prop}(hX:SetX prog w s.heap a L)(l:L.length+1<A2s)
 (h:∀ m b,Ye a s.heap m->SetX prog w m a (A2W L k)->Q b {s with heap:=m}):A1J (A1K prog w) A (setAddHashed a (.int k u) ((intKind prog w).hash k)) Q E s:=by
 obtain⟨o,g,ep,t,B,N,C,d,W,O,X,D⟩:=hX;have i:(intKind prog w).is k (.int k u)=aC:=A3Y _ _ _ _;have P:g.size=L.length:=by rw[<-D.length_eq,Y4,Yw]
 unfold setAddHashed setAddHashedIn;refine A1W (A1D (A2j B C O ?_));dsimp only;rw[byScan_of (knd:=intKind prog w) rfl W d,iP rfl];unfold setAddByScan;refine A1D (A1D (A2u (A1D (wpAny_setScan_of i B C O d ?_))))
 have F:(L.any (· == k))=aC↔∃ e∈g.toList,(intKind prog w).is k e.2=aC:=by
  rw[Z9];constructor
  ·rintro⟨x,R,e⟩;obtain⟨y,J,ey⟩:=YO.mp (D.mem_iff.mpr R);obtain⟨⟨Y,c,_⟩,_⟩:=d y J;have:numOf y.2=Y:=DV c;have:Y=k:=by rw[<-this,ey];simpa using e
   subst this;exact⟨y,J,c⟩
  ·rintro⟨y,J,c⟩;refine⟨k,D.mem_iff.mp (YO.mpr ⟨y,J,DV c⟩),by simp⟩
 cases hr:List.findIdx? (λe=>(intKind prog w).is k e.2) g.toList with
 | some j=>
   obtain⟨hj,S,_⟩:=ZZ.mp hr;have T:A2W L k=L:=by unfold A2W;rw[iP (F.mpr ⟨_,Z8 hj,S⟩)]
   refine A1H (A1H ?_);exact h s.heap _ (Ye.refl a s.heap) (by rw[T];exact⟨o,g,ep,t,B,N,C,d,W,O,X,D⟩)
 | none=>
   have T:A2W L k=L++[k]:=by
    unfold A2W;rw[iG];intro z;obtain⟨e,he,c⟩:=F.mp z;have:=Zr.mp hr e he;rw[c]at this;cases this
   have v:=layNew_perm t g ((intKind prog w).hash k) (.int k u);have K:=layNew_fits t g ((intKind prog w).hash k) (.int k u);have M:=Qc X g ((intKind prog w).hash k) (.int k u);generalize layNew t g ((intKind prog w).hash k) (.int k u)=U at v K M ⊢;obtain⟨n,t1,dm,gv⟩:=U;dsimp only at v K M ⊢;rw[A15]at v;have G:ElemsOf (intKind prog w) n.toList:=(d.push i rfl).perm v
   have H:n.size<A2s:=by
    rw[<-Yw,v.length_eq,Y5,Yw,P];simpa using l
   have I:(n.toList.map λe=>numOf e.2).Perm (A2W L k):=by
    rw[T];refine(v.map _).trans ?_;rw[YN];exact D.append_right _
   have p:∀(b:Bool) (f:A1F) (V:Unit->A1F->Prop),V () f->A1J (A1K prog w) A (match b with | true=>rule "set.scan.the-table-gave-way" | false=>pure ()) V E f:=
    λb f V Z=>by cases b<;>first | exact A1H Z | exact A2u Z
   refine A1D (p _ _ _ ?_);split
   ·refine A1D ?_;rw[hashByValue_scannable 8 rfl];refine A1H (Sd p B N C G H K M I λm q r=>?_);exact A1H (h m _ q r)
   ·refine A1D (A1H ?_);rw[iP rfl];refine Sd p B N C G H K M I λm q r=>?_;exact A1H (h m _ q r)
end
section
variable{prog:A1L}{w:A1N}{A:A1Q}{R:Result->A1F->Prop}{I:A1G}{fp wr:List A1G}{G:Array A35->Array A35->Prop}{n:Nat}{P:Nat->A1E->Prop}{St:Nat->A1F->Prop}
def WN(W:WalksS prog w A.in1 I fp wr G n P St)(S:A1G)(d:S∉fp)(a:Nat->Int)(f:∀ i v,P i v->∃ t,v = .int (a i) t)(q:n+1<A2s):
 ∀(k i:Nat) (s:A1F),i+k=n->St i s->SetX prog w s.heap S (A2E a i)->
  (∀ g,Moved (S::wr) G s g->SetX prog w g.heap S (A2E a n)->R (.ok (.ret .none)) g)->
  codeAny (A1K prog w) A (.builtin "set.update.loop" ⟨[.ref S,.ref I],[]⟩) R s:=by
 have D:S∉wr:=λz=>d (W.sub _ z);have E:∀ b∈wr,b∈S::wr:=λb q=>YC _ q;intro k
 induction k with
 | zero=>
   intro i s H c r u;obtain rfl:i=n:=H;refine A1U F.entry_set_update_loop ?_;rw[Around.under_plainId F.plain_set_update_loop _];exact A1D (m:=pyNext (.ref I)) (W.done s _ _ c λg h=>A1H (u g (h.mono E) (r.keep λo e=>h.heap S o D e)))
 | succ k K=>
   intro i s H c r u;refine A1U F.entry_set_update_loop ?_;rw[Around.under_plainId F.plain_set_update_loop _];refine A1D (m:=pyNext (.ref I)) (W.item i s _ _ (by omega) c λv j L x h=>?_);obtain⟨t,rfl⟩:=f i v L;refine A1D (m:=holding [Value.int (a i) t] (setAdd S (.int (a i) t))) (A1W ?_);unfold setAdd;have M:SetX prog w j.heap S (A2E a i):=r.keep λo e=>h.heap S o D e;have l:(A2E a i).length+1<A2s:=by have:=A2X a i;omega
   refine A1W (A1D ((intKind prog w).pyHash (k:=a i) (A3Y _ _ _ _) ?_));refine Xf (s:={j with toks:=j.toks+1}) M l λN b y J=>?_;rw[<-firstMet_succ]at J;have p:∀ b o,b≠S->j.heap.get? b=aA o->N.get? b=aA o:=λb o B e=>(y.2 b B).trans e;refine A1H ⟨A1X F.plain_set_update_loop _,K (i+1) _ (by omega) (W.frame _ j _ _ x (Zz _) λb C o e=>p b o (λz=>d (z▸C)) e) J λO Q T=>?_⟩;exact u O (Moved.trans W.gtrans ((h.mono E).then_heap (Zz _) λb o q e=>p b o (λz=>q (by rw[z];exact YL)) e) Q) T
end
section
variable{prog:A1L}{w:A1N}{A:A1Q}{E:A1E->A1F->Prop}{s:A1F}
noncomputable abbrev BH(w:A1N):Obj:={cls := .type "set",dict:=aB,data := .set #[] 0 (.fresh 0 0 (!w.params.followText "set-order"))}
def WP(a:A1E){Q₁:A1E->A1F->Prop}(h:Q₁ (.ref s.heap.objs.size) {s with heap:=s.heap.push (BH w)}):codeAny (A1K prog w) A (.call (.builtin "set.__new__") ⟨[.type "set",a],[]⟩) (wants Q₁ E) s:=by
 refine A3j ?_;show A1J _ A.in1 (A39 "set.__new__" ⟨[.type "set",a],[]⟩ >>= λ_=>again (.builtin "set.__new__" ⟨[.type "set",a],[]⟩)) _ _ s;refine A1D (A2L (F.newCall_set_1 a) (A1H ⟨A1X F.plain_set_new _,A1U F.entry_set_new ?_⟩));rw[Around.under_plainId F.plain_set_new _];unfold Builtin.«set.__new__» Builtin.Frozenset.newClass;have b:=sub_set_self;obtain⟨c,g,d,e,f⟩:=s;dsimp only
 wp_walk
 refine A3a (A1H ?_);dsimp only;simp only[newObj];exact A1D (wpAny_alloc (A1H (A1H h)))
def Nb(h:Heap):SetX prog w (h.push (BH w)) h.objs.size []:=
 ⟨_,#[],0,_,YI _ rfl,⟨rfl,rfl,rfl⟩,rfl,λe a=>by simp at a,by decide,rfl,⟨λi j b=>absurd b (Zx _),rfl,rfl⟩,by simp⟩
set_option maxHeartbeats 8000000 in
def WQ{l:A1G}{items:Array A1E}{ns:List Int}{Q:A1E->A1F->Prop}(U:A.handled=aB)(V:s.heap.IsList l items)(W:IntsAre items.toList ns)(u:items.size+1<A2s)
 (h:∀(h':Heap) (x:Nat),SetX prog w h' s.heap.objs.size (A2E (λi=>ns.getD i 0) items.size)->(∀ b o,b<s.heap.objs.size->s.heap.get? b=aA o->h'.get? b=aA o)->Q (.ref s.heap.objs.size) {s with heap:=h',toks:=x}):
 A1J (A1K prog w) A (call (.type "set") [.ref l]) Q E s:=by
 obtain⟨c,tl,M⟩:=F.called_set.mro;have N:=F.called_set.made;have X:=F.called_set.sub;have u1:=F.called_set.notType;have u2:=F.called_set.canCreate;have u3:=F.typeCall_set_1 (.ref l);refine A3U (A3j ?_);show A1J _ _ (callAny (.type "set") _) _ _ _;refine A1H ⟨Code.quiet_builtin _ (by decide +kernel),A1U F.entry_type_call ?_⟩;rw[Around.under_plain (A3m "set" [.ref l] []) rfl]
 repeat (any_goals (first | assumption | wp_step))
 refine A2i (WP (.ref l) (E:=E) (Q₁:=λj d=>j = .ref s.heap.objs.size/\d={s with heap:=s.heap.push (BH w)}) ⟨rfl,rfl⟩) λr d B=>?_;cases r with
 | error e=>exact B
 | ok Y=>
   cases Y with
   | ret j=>
     obtain⟨rfl,rfl⟩:=B;have Z:(s.heap.push (BH w)).get? s.heap.objs.size=aA (BH w):=YI _ rfl;have hT:Shared.TypeIs {s with heap:=s.heap.push (BH w)} (.ref s.heap.objs.size) "set":=⟨_,Z,rfl⟩
     have u4:=F.called_set.init.lookup;have u5:=F.called_set.init.bind (.ref s.heap.objs.size)
     repeat (any_goals (first | assumption | wp_step))
     refine A2i (A2x (R:=wants (λr f=>r = .none/\∃ h' x,f={s with heap:=h',toks:=x}/\SetX prog w h' s.heap.objs.size (A2E (λi=>ns.getD i 0) items.size)/\
      (∀ b o,b<s.heap.objs.size->s.heap.get? b=aA o->h'.get? b=aA o)) E) F.called_set.init.plain F.entry_set_init (A3K hT ?_)) λk f a=>?_
     ·obtain⟨⟨cl,di,da,sl⟩,O,m,P,n⟩:=V;simp only at m n;subst m n;have C:(s.heap.push (BH w)).get? l=aA {cls := .type "list",dict:=di,data := .seq items P,slots:=sl}:=Y8 _ O;have v1:=F.sub_list_set;have v2:=F.sub_list_frozenset;have v3:(Value.type "list" == Value.type "dict")=aD:=by decide
      have p:(s.heap.push (BH w)).IsList l items:=⟨_,C,rfl,P,rfl⟩
      unfold Builtin.«set.__init__» noKeywords Builtin.Frozenset.updateFrom;generalize D:pyIter=PI
      wp_walk
      subst D;refine A2d p (A1D (A3v ?_));have S:l<s.heap.objs.size:=YD O;have G:(s.heap.push (BH w)).objs.size=s.heap.objs.size+1:=Yr _ _;have lI:l≠(s.heap.push (BH w)).objs.size:=by rw[G];exact YG (Z0 S)
      have H:s.heap.objs.size∉[(s.heap.push (BH w)).objs.size,l]:=by
       rw[G];intro z;rcases YH.mp z with z | z
       ·exact absurd z (YG (ZT _))
       ·exact absurd (YK.mp z) (A12 S)
      have q:∀(i:Nat) (v:A1E),items[i]?=aA v->∃ t,v = .int ((λi=>ns.getD i 0) i) t:=λi v hv=>IntsAre.int_at W i v (by rw[Z4];exact hv)
      refine WN ((Walks.list (by simp[U]) _ l lI items).toS) s.heap.objs.size H (λi=>ns.getD i 0) q u items.size 0 _ (A16 _)
       ⟨⟨_,YI _ rfl,rfl,rfl⟩,p.push _⟩ ((Nb s.heap).keep λo e=>Y8 _ e) λs' y I=>?_
      obtain⟨h',g',d',J,K⟩:=s';obtain rfl:g'=s.gens:=y.gens;obtain rfl:d'=s.drawn:=y.drawn;obtain rfl:K=s.os:=y.os;refine A1H (A1H ⟨rfl,h',J,rfl,I,λb o u e=>y.heap b o (λz=>?_) (Y8 _ (Y8 _ e))⟩);rcases YH.mp z with z | z
      ·exact absurd z (YG u)
      ·have T:=YK.mp z;rw[G]at T;exact absurd T (YG (Z0 u))
     ·cases k with
      | error e=>exact a
      | ok g=>
        cases g with
        | ret r=>
          obtain⟨rfl,h',x,rfl,I,L⟩:=a
          repeat (any_goals (first | assumption | wp_step))
          exact h _ _ I L
        | _=>exact a.elim
   | _=>exact B.elim
end
namespace SiF
def slot_si_next:Slot "set_iterator" "__next__" "set_iterator.__next__":=
 .of (owner:="set_iterator") (n:="__next__") (by rw[A3R,A3n];kernel_rfl) (by decide +kernel) (by decide +kernel) (by decide +kernel)
  (by first | exact .inl (by decide +kernel) | exact .inr (by decide +kernel)) (by rw[A3Z];kernel_rfl)
def entry_si_next:entryFor table "set_iterator.__next__"=aA Builtin.«set_iterator.__next__»:=entryFor_of_fast (by kernel_rfl)
def args_si_next(a:A1E):argsOk "set_iterator.__next__" ⟨[a],[]⟩:=by unfold argsOk;kernel_rfl
def slot_si_iter:Slot "set_iterator" "__iter__" "set_iterator.__iter__":=
 .of (owner:="set_iterator") (n:="__iter__") (by rw[A3R,A3n];kernel_rfl) (by decide +kernel) (by decide +kernel) (by decide +kernel)
  (by first | exact .inl (by decide +kernel) | exact .inr (by decide +kernel)) (by rw[A3Z];kernel_rfl)
def entry_si_iter:entryFor table "set_iterator.__iter__"=aA Builtin.«dict_keyiterator.__iter__»:=A40 (id':="dict_keyiterator.__iter__") (by kernel_rfl) rfl (by decide +kernel) (by kernel_rfl)
def args_si_iter(a:A1E):argsOk "set_iterator.__iter__" ⟨[a],[]⟩:=by unfold argsOk;kernel_rfl
def entry_set_iter:entryFor table "set.__iter__"=aA Builtin.«frozenset.__iter__»:=A40 (id':="frozenset.__iter__") (by kernel_rfl) rfl (by decide +kernel) (by kernel_rfl)
end SiF
theorem CM{α:Type}:∀{l:List α} {i:Nat} (h:i<l.length),(l[i]::l.eraseIdx i).Perm l
 | a::l,0,h => .rfl
 | a::l,i+1,h=>(List.Perm.swap a _ _).trans ((CM (l:=l) (i:=i) (by simpa using h)).cons a)
section
variable{prog:A1L}{w:A1N}{A:A1Q}{E:A1E->A1F->Prop}
def Qd{a:Source}{n:Nat}(b:n≠0){s:A1F}{Q:Nat->A1F->Prop}(h:∀ i d,i<n->Q i {s with drawn:=d}):A1J (A1K prog w) A (choose a n) Q E s:=by
 intro e p c;show Sem.wp _ _ (.choose a n .pure) _ _ _ _;rw[Sem.wp_choose];exact⟨b,h _ _ (A1s _ (Zn b))⟩
theorem Se{α:Type}:∀(n:Nat) (xs:List α) (s:A1F) (Q:List α->A1F->Prop),xs.length=n->(∀ b d,b.Perm xs->Q b {s with drawn:=d})->A1J (A1K prog w) A (A46 n xs) Q E s
 | 0,xs,s,Q,a,h=>by
   unfold A46;have:xs=[]:=A07 a;subst this;exact A1H (h [] s.drawn .rfl)
 | n+1,[],s,Q,a,h=>by cases a
 | n+1,x::xs,s,Q,a,h=>by
   unfold A46;refine A1D (Qd (by simp) λi d c=>?_);rw[Y6 c];dsimp only;refine A1D (Se n _ _ _ (by rw[A0e c];simp at a ⊢;omega) λb e f=>A1H (h _ e ?_));exact((f.cons _)).trans (CM c)
end
theorem Jw{α:Type}(f:Nat->Nat):∀(n k:Nat) (left:List α) (out:Array α),left.length=n->(pickOrder.go f n k left out).toList.Perm (out.toList++left)
 | 0,k,left,out,b=>by
   have:left=[]:=A07 b;subst this;unfold pickOrder.go;simp
 | n+1,k,left,out,b=>by
   unfold pickOrder.go;have a:f k % left.length<left.length:=A1s _ (by omega);rw[Y6 a];dsimp only;refine(Jw f n (k+1) _ _ (by rw[A0e a];omega)).trans ?_;rw[A15,A00];exact List.Perm.append_left _ (CM a)
def Lf{α:Type}(f:Nat->Nat)(xs:Array α):(A3b f xs).toList.Perm xs.toList:=by
 unfold A3b;simpa using Jw f xs.size 0 xs.toList #[] (by simp)
end L2
set_option maxHeartbeats 400000
namespace L2
open PySem PySem.Spec PyProof.Rows
def SetAt(w:A1N)(h:Heap)(a:A1G)(es:Array (Int×A1E))(ep:Nat)(t:A27):Prop:=∃ o,h.get? a=aA o/\o.cls = .type "set"/\o.data = .set es ep t/\t.fits es.size=aC/\Tab w t
def SetAt.keep{w:A1N}{h h':Heap}{a:A1G}{es:Array (Int×A1E)}{ep:Nat}{t:A27}(x:SetAt w h a es ep t)(k:∀ o,h.get? a=aA o->h'.get? a=aA o):SetAt w h' a es ep t:=let ⟨o,e,r⟩:=x;⟨o,k o e,r⟩
noncomputable def slotAt(t:A27)(i:Nat):Nat:=if i=0 then 0 else t.place.getD (i - 1) 0+1
def Ig{w:A1N}{t:A27}(T:Tab w t){i:Nat}(h:i<=t.place.size):SetTable.below t.place (slotAt t i)=i:=by
 obtain⟨f,d,g⟩:=Gs T.up (slotAt t i);by_cases z:i=0
 ·subst z;have e:slotAt t 0=0:=rfl;rw[e]at d f ⊢;by_cases q:SetTable.below t.place 0=0
  ·exact q
  ·have:=d 0 (by omega) (by omega);omega
 ·have e:slotAt t i=t.place[i - 1]'(by omega)+1:=by unfold slotAt;rw[iG z];simp[A1r,show i - 1<t.place.size by omega]
  rw[e]at f d g ⊢;rcases A0l (SetTable.below t.place (t.place[i - 1]'(by omega)+1)) i with q | q | q
  ·have:=g (i - 1) (by omega) (by omega);omega
  ·exact q
  ·have c:i<t.place.size:=by omega
   have a:=d i c q;have b:=T.up (i - 1) i (by omega) c (by omega);omega
inductive Way(w:A1N)(h:Heap)(T0 S:A1G)(es:Array (Int×A1E))(ep:Nat)(t:A27)(fs:List (Int×A1E))(i:Nat):A1E->Prop where
 | text (hw:w.params.followText "set-order"=aC) (hf:fs=(A3b (w.params.setOrder S ep) es).toList):Way w h T0 S es ep t fs i (.int 0 0)
 | table (hw:w.params.followText "set-order"=aD) (hd:(!t.plain&&decide (es.size>1))=aD) (hf:fs=es.toList):Way w h T0 S es ep t fs i (.int (slotAt t i:Nat) 0)
 | drawn (hw:w.params.followText "set-order"=aD) (pl:List Nat) (o:Obj) (n:Nat) (ho:h.get? T0=aA o) (hd:o.data = .seq (pl.map λk=>Value.int (k:Nat) 0).toArray n) (hl:pl.length=fs.length)
    (hf:∀(k:Nat) p,pl[k]?=aA p->es[p]?=fs[k]?):Way w h T0 S es ep t fs i (.ref T0)
def Sit(w:A1N)(h:Heap)(a I S:A1G)(es:Array (Int×A1E))(ep:Nat)(t:A27)(fs:List (Int×A1E))(i:Nat):Prop:=
 ∃ o first,h.get? I=aA o/\o.cls = .type "set_iterator"/\o.data = .fields #[first,.int (i:Nat) 0,.ref S,.int (es.size:Nat) 0,.int (ep:Nat) 0]/\Way w h a S es ep t fs i first
section
variable{prog:A1L}{w:A1N}{A:A1Q}{E:A1E->A1F->Prop}{s:A1F}{T0 I S:A1G}{es:Array (Int×A1E)}{ep:Nat}{t:A27}{fs:List (Int×A1E)}{i:Nat}
def Sit.typeIs(x:Sit w s.heap T0 I S es ep t fs i):s.TypeIs (.ref I) "set_iterator":=let ⟨o,_,e,c,_⟩:=x;⟨o,e,c⟩
def BJ{b:Bool}(a:w.params.followText "set-order"=b){Q:Bool->A1F->Prop}(h:Q b s):A1J (A1K prog w) A setsByText Q E s:=by
 unfold setsByText;refine A1D (A3a (A1H ?_));show Q (w.params.followText "set-order") s;rw[a];exact h
def CW{c:Nat}{Q:Option (A1E×Nat)->A1F->Prop}(y:SetAt w s.heap S es ep t)(d:w.params.followText "set-order"=aC)(h:Q (((A3b (w.params.setOrder S ep) es)[i]?).map λe=>(e.2,c)) s):
 A1J (A1K prog w) A (setNext S c i ep) Q E s:=by
 obtain⟨j,a,g,b,f,T⟩:=y;unfold setNext;refine A1D (A2j a b f ?_);dsimp only;refine A1D (BJ d ?_);rw[iP rfl,iG (by simp)];refine A1D ?_;unfold setWalk;refine A1D (A2j a b f ?_);dsimp only;refine A1D (BJ d ?_);rw[iP rfl];refine A1D (A3a (A1H ?_));exact A1H h
def CC{Q:Option (A1E×Nat)->A1F->Prop}(y:SetAt w s.heap S es ep t)(d:w.params.followText "set-order"=aD)(e:(!t.plain&&decide (es.size>1))=aD)(k:i<=es.size)
 (h:Q (match es[i]?,t.place[i]? with | some (_,x),aA j=>aA (x,j+1) | _,_=>aB) s):A1J (A1K prog w) A (setNext S (slotAt t i) i ep) Q E s:=by
 obtain⟨l,a,f,b,c,T⟩:=y
 have g:t.place.size=es.size:=by
  simp only[SetTable.fits,Y3,bQ]at c;exact c.1
 unfold setNext;refine A1D (A2j a b c ?_);dsimp only;refine A1D (BJ d ?_);rw[iG YE];show A1J _ _ (if (!t.plain&&decide (es.size>1))=aC then _ else _) _ _ _;rw[e,iG YE];show A1J _ _ ((if (!t.led&&!es.isEmpty)=aC then A3P "set:maker-not-led" else pure ()) >>= _) _ _ _;rw[T.led,d];refine A1D ?_;rw[show(!(!false)&&!es.isEmpty)=aD from rfl,iG YE];refine A1H (A1H ?_);rw[Ig T (by omega)];exact h
def Lg{e:Int×A1E}{Q:Option A1E->A1F->Prop}(x:Sit w s.heap T0 I S es ep t fs i)(y:SetAt w s.heap S es ep t)(hl:fs.length=es.size)(hi:fs[i]?=aA e)
 (hQ:∀ h',Ye I s.heap h'->Sit w h' T0 I S es ep t fs (i+1)->Q (aA e.2) {s with heap:=h'}):A1J (A1K prog w) A (pyNext (.ref I)) Q E s:=by
 obtain⟨o,first,ho,hc,hd,W⟩:=id x;obtain⟨oS,hoS,hcS,hdS,hf,T⟩:=id y;have hlt:i<es.size:=by rw[<-hl];exact(gM hi).1
 unfold pyNext;refine A1D (A2K (A20 (name:=Str.ofString "__next__") x.typeIs SiF.slot_si_next (A1Y SiF.slot_si_next x.typeIs SiF.entry_si_next ?_ (SiF.args_si_next _))));unfold Builtin.«set_iterator.__next__»;refine A1D (m:=slotArgs "__next__" 0 ⟨[.ref I],[]⟩) (A1H ?_);refine A1D (A2Y ho hd ?_);dsimp only;refine A1D (A2O hoS hdS hf ?_);rw[iG (by simp)]
 have step2:∀(nx:Nat) (v:A1E),v=e.2->(∀ h',(∀ T o,T≠I->s.heap.get? T=aA o->h'.get? T=aA o)->Way w h' T0 S es ep t fs (i+1) (.int nx 0))->
  A1J (A1K prog w) A.in1 (do A3c (.ref I) 0 (rawInt nx);A3c (.ref I) 1 (rawInt ((i:Int)+1));ret v) (λfin s'=>∃ v,fin=Fin.done (Flow.ret v)/\A1J (A1K prog w) A (pure (aA v)) Q E s')
   (λe s'=>A1J (A1K prog w) A (do let __do_lift <- A3C e (Value.type "StopIteration");if __do_lift=aC then pure aB else throw e) Q E s') s:=by
  intro nx v hv hW;subst hv;refine A1D (A25 ho hd (by simp) ?_);have g1:=Yc (Obj.mapFields (·.setIfInBounds 0 (rawInt nx))) ho (Obj.isFreed_of_fields (Obj.data_mapFields hd _));refine A1D (A25 g1 (Obj.data_mapFields hd _) (by simp) ?_);have g2:=Yc (Obj.mapFields (·.setIfInBounds 1 (rawInt ((i:Int)+1)))) g1 (Obj.isFreed_of_fields (Obj.data_mapFields (Obj.data_mapFields hd _) _));refine A1H ⟨_,rfl,A1H (hQ _ ((Ye.update _ I _).trans (Ye.update _ I _)) ⟨_,_,g2,?_,?_,hW _ λT o hT e=>?_⟩)⟩
  ·exact((Obj.cls_mapFields ..).trans (Obj.cls_mapFields ..)).trans hc
  ·rw[Obj.data_mapFields (Obj.data_mapFields hd _)];simp[rawInt]
  ·exact(Yi _ _ (Ne.symm hT)).trans ((Yi _ _ (Ne.symm hT)).trans e)
 cases W with
 | text hw hf'=>
   dsimp only;refine A1D (CW (i:=i) (ep:=ep) y hw ?_);have:(A3b (w.params.setOrder S ep) es)[i]?=aA e:=by rw[<-Z4,<-hf'];exact hi
   rw[this];exact step2 0 e.2 rfl λh' _ => .text hw hf'
 | table hw hd' hf'=>
   dsimp only;refine A1D (CC (i:=i) (ep:=ep) y hw hd' (by omega) ?_)
   have hsz:t.place.size=es.size:=by
    simp only[SetTable.fits,Y3,bQ]at hf;exact hf.1
   have e1:es[i]?=aA e:=by rw[<-Z4,<-hf'];exact hi
   have e2:t.place[i]?=aA (t.place[i]'(by omega)):=by simp[show i<t.place.size by omega]
   rw[e1,e2];refine step2 _ e.2 rfl λh' _=>?_;have:t.place[i]'(by omega)+1=slotAt t (i+1):=by unfold slotAt;rw[iG (by omega)];simp[A1r,show i<t.place.size by omega]
   rw[this];exact .table hw hd' hf'
 | drawn hw pl oT nT hoT hdT hlT hfT=>
   dsimp only;refine A1D (A24 hoT hdT ?_);have hip:i<pl.length:=by omega
   have e1:pl[i]?=aA (pl[i]'hip):=by simp
   have e2:(pl.map λk=>Value.int (k:Nat) 0).toArray[(i:Int).toNat]?=aA (.int ((pl[i]'hip:Nat):Int) 0):=by simp[hip]
   dsimp only;rw[e2];dsimp only;have e3:es[pl[i]'hip]?=aA e:=by rw[hfT i _ e1];exact hi
   refine A1D ?_;unfold setNextDrawn;refine A1D (A2j hoS hdS hf ?_);dsimp only;rw[iG (by simp),ZM,e3];refine A1H (A1D (A25 ho hd (by simp) ?_));have g1:=Yc (Obj.mapFields (·.setIfInBounds 1 (rawInt ((i:Int)+1)))) ho (Obj.isFreed_of_fields (Obj.data_mapFields hd _));have hTI:T0≠I:=λz=>by subst z;rw[ho]at hoT;cases hoT;rw[hd]at hdT;cases hdT
   refine A1H ⟨_,rfl,A1H (hQ _ (Ye.update _ I _) ⟨_,_,g1,(Obj.cls_mapFields ..).trans hc,?_,.drawn hw pl oT nT ((Yi _ _ (Ne.symm hTI)).trans hoT) hdT hlT hfT⟩)⟩;rw[Obj.data_mapFields hd];simp[rawInt]
def Nc{Q:Option A1E->A1F->Prop}(g:A.handled=aB)(h:∀ c,A0O I s.heap c->Q aB {s with heap:=c})(k:Sem Unit)(j:∀(Q':Unit->A1F->Prop) (l:A1E->A1F->Prop),(∀ c,Ye I s.heap c->Q' () {s with heap:=c})->A1J (A1K prog w) A.in1 k Q' l s):
 A1J (A1K prog w) A.in1 (k >>= λ_=>newExc (.type "StopIteration") [] >>= λe=>A3X (α:=Fin) e) (λd f=>∃ v,d=Fin.done (Flow.ret v)/\A1J (A1K prog w) A (pure (aA v)) Q E f)
  (λe f=>A1J (A1K prog w) A (do let __do_lift <- A3C e (Value.type "StopIteration");if __do_lift=aC then pure aB else throw e) Q E f) s:=by
 refine A1D (j _ _ λc n=>?_);refine A1D ?_;simp only[newExc,newTuple];refine A1D (A1S ?_ (by size_fits));refine A1D (m:=A2w _ _) (A2L (a:=Value.none) (by first | rfl | (simp only[A2w];rfl)) ?_);refine A1S ?_ (by size_fits);simp only[A3X];refine A1D (A3A ?_);rw[show A.in1.handled=aB from g];refine A1D (A1H (A3O ?_));refine A1D (A3d (T:="StopIteration") (b:=aC) ⟨_,YI _ rfl,rfl⟩ A41 ?_);exact A1H (h _ ((n.extBut.push _).push _))
def Nd{Q:Option A1E->A1F->Prop}(h:A.handled=aB)(x:Sit w s.heap T0 I S es ep t fs es.size)(y:SetAt w s.heap S es ep t)(J:fs.length=es.size)
 (j:∀ a,A0O I s.heap a->Q aB {s with heap:=a}):A1J (A1K prog w) A (pyNext (.ref I)) Q E s:=by
 obtain⟨o,first,f,K,b,W⟩:=id x;obtain⟨L,l,z,n,B,T⟩:=id y;unfold pyNext;refine A1D (A2K (A20 (name:=Str.ofString "__next__") x.typeIs SiF.slot_si_next (A1Y SiF.slot_si_next x.typeIs SiF.entry_si_next ?_ (SiF.args_si_next _))));unfold Builtin.«set_iterator.__next__»;refine A1D (m:=slotArgs "__next__" 0 ⟨[.ref I],[]⟩) (A1H ?_);refine A1D (A2Y f b ?_);dsimp only;refine A1D (A2O l n B ?_);rw[iG (by simp)];have c:∀(g:Unit->A1F->Prop) (p:A1E->A1F->Prop),(∀ a,Ye I s.heap a->g () {s with heap:=a})->A1J (A1K prog w) A.in1 (A3c (.ref I) 2 .none) g p s:=λg p q=>A25 f b (by simp) (q _ (Ye.update ..));cases W with
 | text hw d=>
   dsimp only;refine A1D (CW (i:=es.size) (ep:=ep) y hw ?_);have:(A3b (w.params.setOrder S ep) es)[es.size]?=aB:=by rw[<-Z4,<-d];exact Yd (by omega)
   rw[this];exact Nc h j _ c
 | table hw r d=>
   dsimp only;refine A1D (CC (i:=es.size) (ep:=ep) y hw r (YF _) ?_);rw[show es[es.size]?=aB by simp];exact Nc h j _ c
 | drawn hw C M N u v D F=>
   dsimp only;refine A1D (A24 u v ?_);have G:(C.map λk=>Value.int (k:Nat) 0).toArray[((es.size:Nat):Int).toNat]?=aB:=by simp;omega
   dsimp only;rw[G];dsimp only
   have e:=Nc (prog:=prog) (w:=w) (A:=A) (E:=E) (s:=s) (I:=I) (Q:=Q) h j (A3c (.ref I) 0 (rawInt 0) >>= λ_=>A3c (.ref I) 2 .none) λg p q=>by
    refine A1D (A25 f b (by simp) ?_);have H:=Yc (Obj.mapFields (·.setIfInBounds 0 (rawInt 0))) f (Obj.isFreed_of_fields (Obj.data_mapFields b _));exact A25 H (Obj.data_mapFields b _) (by simp) (q _ ((Ye.update _ I _).trans (Ye.update _ I _)))
   rw[bind_assoc]at e;exact e
def Lh{Q:A1E->A1F->Prop}(x:Sit w s.heap T0 I S es ep t fs i)(h:Q (.ref I) s):A1J (A1K prog w) A (pyIter (.ref I)) Q E s:=by
 refine A33 x.typeIs SiF.slot_si_iter (A1Y SiF.slot_si_iter x.typeIs SiF.entry_si_iter ?_ (SiF.args_si_iter _));show A1J _ _ (ret (.ref I)) _ _ s;exact A1H ⟨_,rfl,"set_iterator",_,x.typeIs,SiF.slot_si_next.lookup,h⟩
def Sit.keep{h h':Heap}(x:Sit w h T0 I S es ep t fs i)(k:∀ b,b=I\/b=T0->∀ o,h.get? b=aA o->h'.get? b=aA o):Sit w h' T0 I S es ep t fs i:=by
 obtain⟨o,first,e,f,g,W⟩:=x;refine⟨o,first,k I (.inl rfl) _ e,f,g,?_⟩;cases W with
 | text hw a=>exact .text hw a
 | table hw j a=>exact .table hw j a
 | drawn hw l m n c d p a=>exact .drawn hw l m n (k T0 (.inr rfl) _ c) d p a
def WR(p:A.handled=aB)(l I S:A1G)(g:S≠I)(es:Array (Int×A1E))(ep:Nat)(t:A27)(fs:List (Int×A1E))(m:fs.length=es.size):
 Walks prog w A I [I,S,l] [I] es.size (λi v=>∃ e,fs[i]?=aA e/\e.2=v) (λi h=>Sit w h l I S es ep t fs i/\SetAt w h S es ep t) where
 sub:=λb c=>by simp at c;simp[c]
 frame:=λ_ _ _ a n=>⟨a.1.keep λb c o e=>n b (by rcases c with rfl | rfl<;>simp) o e,a.2.keep λo e=>n S (by simp) o e⟩
 item:=λi s Q E u a d=>by
  have q:i<fs.length:=by omega
  refine Lg (e:=fs[i]) a.1 a.2 m (by simp) λj f r=>?_;exact d fs[i].2 j s.toks ⟨fs[i],by simp,rfl⟩ ⟨r,a.2.keep λo e=>f.extBut _ _ g e⟩ λb o c e=>f.extBut b o (λh=>c (by simp[h])) e
 done:=λs Q E a d=>Nd p a.1 a.2 m λj k=>d j s.toks λb o c e=>k b o (λh=>c (by simp[h])) e
 self:=λ_ _ _ _ a d=>Lh a.1 d
def WU{Q:A1E->A1F->Prop}(y:SetAt w s.heap S es ep t)(hz:es.size<=A1M)
 (P:∀ g d I T0 fs,(∀ b o,s.heap.get? b=aA o->g.get? b=aA o)->s.heap.objs.size<=I->s.heap.objs.size<=T0->g.objs.size=I+1->fs.Perm es.toList->Sit w g T0 I S es ep t fs 0->Q (.ref I) {s with heap:=g,drawn:=d}):A1J (A1K prog w) A (pyIter (.ref S)) Q E s:=by
 obtain⟨R,j,x,n,z,T⟩:=id y;have H:s.TypeIs (.ref S) "set":=⟨R,j,x⟩
 refine A33 H F.slot_set_iter (A1Y F.slot_set_iter H SiF.entry_set_iter ?_ (F.args_set_iter_1 _));unfold Builtin.«frozenset.__iter__»;refine A1D (m:=Builtin.Frozenset.slot0 "__iter__" ⟨[.ref S],[]⟩) (A1H ?_);refine A1D (m:=Builtin.Frozenset.sizeOf S) ?_;unfold Builtin.Frozenset.sizeOf;refine A1D (A2O j n z (A1H ?_));refine A1D ?_;unfold setDrawn;refine A1D (A2j j n z ?_);dsimp only
 have c:∀(first:A1E) (h:Heap) (d:Drawn) (fs:List (Int×A1E)) (T0:A1G),(∀ b o,s.heap.get? b=aA o->h.get? b=aA o)->s.heap.objs.size<=h.objs.size->s.heap.objs.size<=T0->fs.Perm es.toList->(∀ g,(∀ b o,h.get? b=aA o->g.get? b=aA o)->Way w g T0 S es ep t fs 0 first)->
  A1J (A1K prog w) A.in1 (setEpoch S >>= λe=>newFields "set_iterator" [first,rawInt 0,.ref S,rawInt (es.size:Nat),rawInt e] >>= λv=>ret v)
   (λc J=>∃ r,c=Fin.done (Flow.ret r)/\∃ K B,J.TypeIs r K/\A3V (.type K) "__next__"=pure (aA B)/\Q r J) E {s with heap:=h,drawn:=d}:=by
  intro first h d fs T0 L U V q W
  refine A1D (wpAny_setEpoch_of (L _ _ j) n z ?_);refine A1D (A1S ?_ (by size_fits));refine A1H ⟨_,rfl,"set_iterator",_,⟨_,YI _ rfl,rfl⟩,SiF.slot_si_next.lookup,?_⟩;have M:∀ b o,h.get? b=aA o->(h.push {cls := .type "set_iterator",data := .fields #[first,rawInt 0,.ref S,rawInt (es.size:Nat),rawInt (ep:Nat)]}).get? b=aA o:=λb o e=>Y8 _ e;exact P _ d h.objs.size T0 fs (λb o e=>M b o (L b o e)) U V (Yr _ _) q ⟨_,first,YI _ rfl,rfl,rfl,W _ M⟩
 cases hw:w.params.followText "set-order" with
 | true=>
   refine A1D (BJ hw (A1H ?_));show A1J _ _ (if (!true&&(!t.plain&&decide (es.size>1)))=aC then _ else _) _ _ _;rw[iG (by simp)];refine A1D (A1H ?_);exact c _ s.heap s.drawn _ s.heap.objs.size (λ_ _ e=>e) (YF _) (YF _) (Lf (w.params.setOrder S ep) es) λg _ => .text hw rfl
 | false=>
   refine A1D (BJ hw (A1H ?_));show A1J _ _ (if (!false&&(!t.plain&&decide (es.size>1)))=aC then _ else _) _ _ _;cases hpl:(!t.plain&&decide (es.size>1)) with
   | false=>
     rw[iG (by simp)];refine A1D (A1H ?_);exact c _ s.heap s.drawn es.toList s.heap.objs.size (λ_ _ e=>e) (YF _) (YF _) .rfl λg _ => .table hw hpl rfl
   | true=>
     rw[iP (by simp)];refine A1D (Se es.size (YJ es.size) s _ (by simp) λu d q=>?_);refine A1D (wpAny_newTuple ?_ (by rw[Y4,q.length_eq,Yl];exact hz));have C:∀ p∈u,p<es.size:=λp D=>YU.mp (q.mem_iff.mp D);have f:∃ fs:List (Int×A1E),fs=u.filterMap (λp=>es[p]?):=⟨_,rfl⟩
     obtain⟨fs,f⟩:=f
     have G:∀(l:List Nat),(∀ p∈l,p<es.size)->(l.filterMap λp=>es[p]?).length=l.length/\∀(k:Nat) p,l[k]?=aA p->es[p]?=(l.filterMap λp=>es[p]?)[k]?:=by
      intro l
      induction l with
      | nil=>intro _;exact⟨rfl,λk p h=>by simp at h⟩
      | cons a l X=>
        intro N;obtain⟨Y,Z⟩:=X λp q=>N p (YC _ q);have O:=N a (YL ..);have ea:es[a]?=aA es[a]:=by simp[O]
        rw[A0s ea];refine⟨by simp[Y],λk p h=>?_⟩;cases k with
        | zero=>simp at h;subst h;simp[O]
        | succ k=>simpa using Z k p (by simpa using h)
     obtain⟨l1,l2⟩:=G u C;refine c _ _ d fs s.heap.objs.size (λb o e=>Y8 _ e) (by rw[Yr];exact Zz _) (YF _) ?_ λg k=>?_
     ·rw[f];exact(q.filterMap _).trans (by rw[filterMap_getElem?_range])
     ·exact .drawn hw u _ 0 (k _ _ (YI _ rfl)) rfl (by rw[f,l1]) (λk p h=>by rw[f];exact l2 k p h)
end
end L2
set_option maxHeartbeats 800000
namespace L2
open PySem PySem.Spec PyProof.Rows
section
variable{prog:A1L}{w:A1N}{A:A1Q}{E:A1E->A1F->Prop}{s:A1F}{S:A1G}{es:Array (Int×A1E)}{ep:Nat}{t:A27}
def WV{Q:Bool->A1F->Prop}(c:s.TypeIs (.ref S) "set")(h:Q aD s):A1J (A1K prog w) A (Builtin.List.listLengthHint (.ref S)) Q E s:=by
 unfold Builtin.List.listLengthHint;refine A1D (A3Q c PySem.F.slot_set_len.lookup ?_);generalize a:("set.__len__":String)=d
 wp_delta
 rw[show splitId d=aA ("set","__len__") from by subst a;decide +kernel];subst a;refine A1D (A3d (T:="set") (b:=aC) c sub_set_self ?_);refine A3k (λz=>absurd z (by decide)) (λ_=>?_);refine A3k (λ_=>?_) (λz=>absurd (by decide +kernel) z);exact A1D (wpAny_typeOf c (A1H h))
def Nf{Q:List A1E->A1F->Prop}(hh:A.handled=aB)(y:SetAt w s.heap S es ep t)(hz:es.size<=A1M)
 (hQ:∀ g O d (f:List A1E) (fs:List (Int×A1E)),(∀ b o,s.heap.get? b=aA o->g.get? b=aA o)->s.heap.objs.size<=g.objs.size->fs.Perm es.toList->f=fs.map (·.2)->Q f {s with heap:=g,toks:=O,drawn:=d}):
 A1J (A1K prog w) A (collect (.ref S)) Q E s:=by
 obtain⟨Z,n,D,a0,hf,T⟩:=id y;unfold collect;refine A1D (A3v (A1U PySem.F.entry_proto_collect ?_));rw[Around.under_plainId PySem.F.plain_proto_collect _];refine A1D (m:=newList []) (A1S ?_);refine A1H ⟨A1X PySem.F.plain_list_iadd _,A1U PySem.F.entry_list_iadd ?_⟩;rw[Around.under_plainId PySem.F.plain_list_iadd _];show A1J _ A.in1 (Builtin.List.listExtendWith (.ref s.heap.objs.size) (.ref S) (.ref s.heap.objs.size)) _ _ {s with heap:=s.heap.push {cls := .type "list",data := .seq ([]:List A1E).toArray}};have y1:SetAt w (s.heap.push {cls := .type "list",data := .seq ([]:List A1E).toArray}) S es ep t:=y.keep λo e=>Y8 _ e;have u:s.heap.objs.size≠S:=λz=>by rw[<-z]at n;exact absurd (YD n) (ZD _)
 have hL:(s.heap.push {cls := .type "list",data := .seq ([]:List A1E).toArray}).get? s.heap.objs.size=aA {cls := .type "list",data := .seq #[]}:=YI _ rfl;have q:(s.heap.push {cls := .type "list",data := .seq ([]:List A1E).toArray}).objs.size=s.heap.objs.size+1:=Yr _ _;unfold Builtin.List.listExtendWith;refine A1D (wpAny_typeOf (T:="set") ⟨Z,Y8 _ n,D⟩ ?_);have b1:Builtin.List.listSameRef (.ref s.heap.objs.size) (.ref S)=aD:=by simp[Builtin.List.listSameRef,u]
 have b2:(Value.type "set" == Value.type "list")=aD:=by decide
 have b3:(Value.type "set" == Value.type "tuple")=aD:=by decide
 simp only[b1,b2,b3,A0W,Z5,if_false];refine A1D (WU (s:={s with heap:=s.heap.push {cls := .type "list",data := .seq ([]:List A1E).toArray}}) y1 hz λG d I P fs R B H a1 hp x2=>?_);have y2:SetAt w G S es ep t:=y1.keep λo e=>R _ _ e;refine A1D (A1W (WV (s:={s with heap:=G,drawn:=d}) ⟨Z,R _ _ (Y8 _ n),D⟩ ?_));have p:=R _ _ hL;have LI:s.heap.objs.size≠I:=by rw[q]at B;exact YG B
 have LT:s.heap.objs.size≠P:=by rw[q]at H;exact YG H
 have SI:S≠I:=λz=>by
  have h1:=YD n;rw[q,<-z]at B;exact absurd (A17 B) (A04 h1)
 have nf:s.heap.objs.size∉[I,S,P]:=by
  simp only[YH,Zi,or_false,not_or];exact⟨LI,u,LT⟩
 have J:fs.length=es.size:=by rw[hp.length_eq,Yw]
 have W:=(WR (prog:=prog) (w:=w) (A:=A.in1) hh P I S SI es ep t fs J).toS
 have K:∀(h:Heap) (c O:Nat),Sit w h P I S es ep t fs 0->SetAt w h S es ep t->(∀ b o,b≠s.heap.objs.size->G.get? b=aA o->h.get? b=aA o)->h.get? s.heap.objs.size=aA {cls := .type "list",dict:=aB,data := .seq #[] c,slots:=#[]}->s.heap.objs.size<=h.objs.size->
  codeAny (A1K prog w) A (.builtin "list.extend.loop" ⟨[.ref s.heap.objs.size,.ref I,.ref s.heap.objs.size],[]⟩) (wants (λv l=>∃ g j f C,v = .ref s.heap.objs.size/\l={s with heap:=g,toks:=j,drawn:=d}/\(∀ b o,s.heap.get? b=aA o->g.get? b=aA o)/\s.heap.objs.size<=g.objs.size/\g.get? s.heap.objs.size=aA {cls := .type "list",dict:=aB,data := .seq f C,slots:=#[]}/\ItemsOf (λi v=>∃ e,fs[i]?=aA e/\e.2=v) f es.size) E) {s with heap:=h,toks:=O,drawn:=d}:=by
  intro h c O x3 y3 k3 X a2;refine codeAny_extend_loopS W hz s.heap.objs.size nf (.ref s.heap.objs.size) es.size 0 _ #[] c rfl (Z3 _) ⟨x3,y3⟩ X (ItemsOf.nil _) λl f C hm L M=>?_;rw[Moved.eq_with hm];refine⟨l.heap,l.toks,f,C,rfl,rfl,λb o e=>hm.heap b o (λz=>?_) (k3 b o (YG (YD e)) (R _ _ (Y8 _ e))),Ze (YD L),L,M⟩;rcases YH.mp z with z | z
  ·exact absurd z (YG (YD e))
  ·have z':=YK.mp z;rw[q]at B;have:=YD e;rw[z']at this;exact absurd this (A04 (A17 B))
 have N:∀ r l,wants (λv l=>∃ g j f C,v = .ref s.heap.objs.size/\l={s with heap:=g,toks:=j,drawn:=d}/\(∀ b o,s.heap.get? b=aA o->g.get? b=aA o)/\s.heap.objs.size<=g.objs.size/\g.get? s.heap.objs.size=aA {cls := .type "list",dict:=aB,data := .seq f C,slots:=#[]}/\ItemsOf (λi v=>∃ e,fs[i]?=aA e/\e.2=v) f es.size) E r l->
  wants (λv l=>A1J (A1K prog w) A (match v with | .ref a=>load a >>= λo=>(match o.data with | .seq xs _=>pure xs.toList | _=>A3P "internal:collect") | _=>A3P "internal:collect") Q E l) E r l:=by
  intro r l Y;cases r with
  | error e=>exact Y
  | ok fl=>
    cases fl with
    | ret v=>
      obtain⟨g,j,f,C,rfl,rfl,h3,h4,h5,U⟩:=Y;refine A1D (wpAny_load (s:={s with heap:=g,toks:=j,drawn:=d}) h5 (A1H (hQ g j d _ fs h3 h4 hp ?_)));refine ZN λk=>?_;rw[YA,Z4];by_cases hk:k<es.size
      ·have ha:f[k]?=aA (f[k]'(by rw[U.1];exact hk)):=by simp[U.1,hk]
       obtain⟨e,he,ev⟩:=U.2 k _ ha;rw[ha,he,<-ev];rfl
      ·rw[A0B (by rw[U.1];omega),Yd (by omega)];rfl
    | _=>exact Y.elim
 refine A3k (λ_=>?_) (λ_=>A1H ⟨A1X PySem.F.plain_extend_loop _,A2i (K _ _ _ x2 y2 (λ_ _ _ e=>e) p (Ze (YD p))) N⟩);refine A1D (A2u (A1D ?_));show A1J _ _ (A3e s.heap.objs.size (·.push .none) >>= λ_=>A3e s.heap.objs.size (·.pop)) _ _ _;refine A1D (A2f p rfl ?_);have u1:=Yc (Obj.mapSeq (·.push Value.none)) p rfl;refine A2f (hz:=by seq_fits) u1 rfl ?_;have u2:=Yc (Obj.mapSeq (·.pop)) u1 rfl;have x:∀ b o,b≠s.heap.objs.size->G.get? b=aA o->((G.update s.heap.objs.size (Obj.mapSeq (·.push Value.none))).update s.heap.objs.size (Obj.mapSeq (·.pop))).get? b=aA o:=λb o V e=>(Yi _ _ (Ne.symm V)).trans ((Yi _ _ (Ne.symm V)).trans e);refine A1H ⟨A1X PySem.F.plain_extend_loop _,A2i (K _ _ _ (x2.keep λb V o e=>x b o (by rcases V with rfl | rfl;exact LI.symm;exact LT.symm) e) (y2.keep λo e=>x _ o u.symm e) x u2 ?_) N⟩;rw[A1f,A1f];exact Ze (YD p)
end
def _root_.L2.Inv.dr{X:Cx}{a:List (A1G×Obj)}{b:St}{H:Hp}{s:A1F}(I:Inv X a b H s)(d:Drawn):Inv X a b H {s with drawn:=d}:=
 ⟨I.ok,I.os,I.bare,I.base,I.loc,I.cell,I.free,I.freeC,I.pin,I.hok,I.len⟩
section
variable{prog:A1L}{w:A1N}{A:A1Q}{E:A1E->A1F->Prop}{s:A1F}
def Qf{S:A1G}{L:List Int}{Q:A1E->A1F->Prop}(I:A.handled=aB)(x:SetX prog w s.heap S L)(J:L.length<64)
 (h:∀(h':Heap) (r:Nat) (d:Drawn) (l:A1G) (out:Array A1E) (e:Nat),(∀ b o,s.heap.get? b=aA o->h'.get? b=aA o)->s.heap.objs.size<=l->h'.get? l=aA (seqObj "list" out e)->IntsAre out.toList (srt L)->Q (.ref l) {s with heap:=h',toks:=r,drawn:=d}):
 A1J (A1K prog w) A (call (.builtin "sorted") [.ref S]) Q E s:=by
 obtain⟨o,es,ep,t,K,M,N,y,O,P,R,T⟩:=x;refine Calls.call_function_entry kind_sorted plain_sorted entry_sorted (args_sorted1 _) ?_;unfold Builtin.«sorted»;refine A1D (m:=checkCount "sorted" 1 1 _) (A1H ?_);refine A1D (Nf (A:=A.in1) I ⟨o,K,M.1,N,P,R⟩ (A32 O) λu r d a fs F z i c=>?_)
 have f:∀ v∈a,∃ n B,v=Value.int n B:=by
  intro v G;rw[c]at G;obtain⟨e,C,rfl⟩:=YO.mp G;obtain⟨⟨k,U,_⟩,_⟩:=y e (i.mem_iff.mp C);obtain⟨B,V⟩:=Value.isInt_shape (k:=k) (v:=e.2) U;exact⟨k,B,V⟩
 have W:IntsAre a (a.map numOf):=intsAre_map a f
 have j:(a.map numOf).Perm L:=by
  rw[c,Zo];exact(i.map _).trans T
 have p:a.length<64:=by have:=j.length_eq;rw[Y4]at this;omega
 refine A1D (wpAny_newList ?_ (by rw[A3M];omega));have g:(u.push (seqObj "list" a.toArray 0)).get? u.objs.size=aA (seqObj "list" a.toArray 0):=YI _ rfl;refine A1D (A1W (A1Y (s:={s with heap:=u.push (seqObj "list" a.toArray 0),toks:=r,drawn:=d}) slot_list_sort ⟨_,g,rfl⟩ entry_list_sort (list_sort_tree g W p λout D X Y Z=>⟨_,rfl,?_⟩) (args_list_sort _)));have en:D=srt L:=NP (Y.trans j) Z;subst en;obtain⟨e,C⟩:=sortedHeap_at (vs:=a) (out:=out) g;refine A1H ⟨_,rfl,h _ r d u.objs.size out e (λb o H=>?_) z C X⟩;have q:=YD (F b o H);rw[sortedHeap_old (YG q) (by rw[Yr];exact Z0 q)];exact Y8 _ (F b o H)
end
section
variable{X:Cx}
def Li:A1P "sorted"=aA (.builtin "sorted"):=by decide +kernel
noncomputable def Cw(ns:List Int):List Int:=A2E (λi=>ns.getD i 0) ns.length
end
open PySem.AutoSeq1 (wpAny_loadPart')
open PySem.MeetsSeq PySem.MeetsSeq2 PySem.MeetsSeq3
def rcLt_int{prog:A1L}{w:A1N}{A:A1Q}{E:A1E->A1F->Prop}{s:A1F}{a b:Int}{t u:Tok}{Q:A1E->A1F->Prop}(h:Q (.bool (decide (a<b))) s):A1J (A1K prog w) A (A2m .Lt (.int a t) (.int b u)) Q E s:=by
 exact wpAny_richCompare_same (A3g s a t) (A3g s b u) slot_int_lt (call_int_lt ⟨(λx=>nomatch x),h⟩)
section
variable{prog:A1L}{w:A1N}{A:A1Q}{E:A1E->A1F->Prop}{s:A1F}{a₀:Array Keyed}
structure SBk(κ:A42)(a₀:Array Keyed)(st:SortSt):Prop where
 perm:(arrOf st).Perm a₀
 kind:kindOf st=κ
 failed:failedOf st=aB
 pend:pendingOf st=#[]
def SBk.size{a:A42}{st:SortSt}(h:SBk a a₀ st):(arrOf st).size=a₀.size:=h.perm.size_eq
def SBk.setArr{a:A42}{st:SortSt}(h:SBk a a₀ st){xs:Array Keyed}(b:xs.Perm (arrOf st)):SBk a a₀ (setArr st xs):=⟨b.trans h.perm,h.kind,h.failed,h.pend⟩
variable{κ:A42}
end
section
variable{prog:A1L}{w:A1N}{A:A1Q}{R:Result->A1F->Prop}{I:A1G}{fp wr:List A1G}{n:Nat}{P:Nat->A1E->Prop}{St:Nat->Heap->Prop}
structure CmpIn(prog:A1L)(w:A1N)(A:A1Q)(wr:List A1G)(S:A1G)(P:Nat->A1E->Prop)(bt:Nat->Nat->Bool)(G:Heap->Prop):Prop where
 keep:∀ h h',G h->(∀ b o,b∉wr->b≠S->h.get? b=aA o->h'.get? b=aA o)->G h'
 cmp:∀(s:A1F),G s.heap->∀(i j:Nat) (vi vj:A1E) (Q:A1E->A1F->Prop) (E:A1E->A1F->Prop),P i vi->P j vj->Q (.bool (bt i j)) s->A1J (A1K prog w) A (A2m .Lt vi vj) Q E s
def Fc{Z:List (Str×A1E)}(W:Walks prog w A.in1 I fp wr n P St){t:Nat->Nat->Bool}{S:A1G}{G:Heap->Prop}(C:CmpIn prog w A.in1 wr S P t G)(x:S∉fp)(k:Nat):
 ∀(j:Nat) (s:A1F) (g:A1E) (c:Nat),n=j+1+k->St (j+1) s.heap->G s.heap->P (argBest t j) g->
 s.heap.get? S=aA {cls := .type "list",dict:=aB,data := .seq #[g,g] c,slots:=#[]}->
 (∀ v U H,P (argBest t (n - 1)) v->(∀ b o,b∉wr->b≠S->s.heap.get? b=aA o->U.get? b=aA o)->R (.ok (.ret v)) {s with heap:=U,toks:=H})->
 codeAny (A1K prog w) A (.builtin "min.loop" ⟨[.ref I,.none,.ref S],Z⟩) R s:=by
 have y:S∉wr:=λz=>x (W.sub _ z);have nm:(toString "min"++toString ".loop":String)="min.loop":=by decide
 induction k with
 | zero=>
   intro j s g c K i V h B J;refine A1U F.entry_min_loop ?_;rw[Around.under_plainId F.plain_min_loop _];refine A1D (m:=A2H (.ref S)) (A24 B rfl ?_);have D:St n s.heap:=by rw[K];exact i
   refine A1D (m:=tryCatch (pyNext (.ref I)) _) (A26 (W.done s _ _ D λL H l=>?_));have a:=l S _ y B;refine A1D (m:=A3e S (λ_=>#[])) (A2f a rfl (A1D (A2n (A1H ?_))));exact J g _ H (by rw[K];exact h) λb o u f e=>(Yi _ _ (Ne.symm f)).trans (l b o u e)
 | succ k X=>
   intro j s g c K i V h B J;refine A1U F.entry_min_loop ?_;rw[Around.under_plainId F.plain_min_loop _];refine A1D (m:=A2H (.ref S)) (A24 B rfl ?_);refine A1D (m:=tryCatch (pyNext (.ref I)) _) (A26 (W.item (j+1) s _ _ (by omega) i λv L H Y E l=>?_));have a:=l S _ y B;have p:=C.keep _ _ V λb o u _ e=>l b o u e;refine A1D (m:=tryCatch (holding [v,v] (A2m .Lt v g >>= _)) _) (A26 (A1W (A1D (C.cmp _ p (j+1) (argBest t j) v g _ _ Y h ?_))));refine A1D (A1W (A1V (A1D (A2n (A1H ?_)))));cases u:t (j+1) (argBest t j) with
   | true=>
     simp only[if_true];refine A1D (A2f a rfl (A1D (A2n ?_)));rw[nm];have M:∀ b o,b≠S->L.get? b=aA o->(A0Q L S (Obj.mapSeq λ_=>#[v,v])).get? b=aA o:=λb o f e=>(Yi _ _ (Ne.symm f)).trans e;refine A1H ⟨A1X F.plain_min_loop _,X (j+1) _ v _ (by omega) (W.frame _ _ _ E λb N o e=>M b o (λz=>x (z▸N)) e) (C.keep _ _ p λb o _ f e=>M b o f e) ?_ (Yc _ a rfl) λO Q q r T=>?_⟩
     ·simp only[argBest,u,if_true];exact Y
     ·exact J O Q q r λb o d f e=>T b o d f (M b o f (l b o d e))
   | false=>
     simp only[Z5,if_false];refine A1D (A2n ?_);rw[nm];refine A1H ⟨A1X F.plain_min_loop _,X (j+1) _ g c (by omega) E p ?_ a λO Q q r T=>?_⟩
     ·simp only[argBest,u,Z5,if_false];exact h
     ·exact J O Q q r λb o d f e=>T b o d f (l b o d e)
def Ek{d:A1E}(W:Walks prog w A.in1 I fp wr n P St){D:Nat->Nat->Bool}{S:A1G}{G:Heap->Prop}(C:CmpIn prog w A.in1 wr S P D G)(f:S∉fp){s:A1F}{c:Nat}(h:St 0 s.heap)(H:G s.heap)
 (E:s.heap.get? S=aA {cls := .type "list",dict:=aB,data := .seq #[] c,slots:=#[]})
 (J:n=0->∀ i g,(∀ b o,b∉wr->b≠S->s.heap.get? b=aA o->i.get? b=aA o)->R (.ok (.ret d)) {s with heap:=i,toks:=g})
 (K:0<n->∀ v i g,P (argBest D (n - 1)) v->(∀ b o,b∉wr->b≠S->s.heap.get? b=aA o->i.get? b=aA o)->R (.ok (.ret v)) {s with heap:=i,toks:=g}):
 codeAny (A1K prog w) A (.builtin "min.loop" ⟨[.ref I,.none,.ref S],[(Str.ofString "default",d)]⟩) R s:=by
 have q:S∉wr:=λz=>f (W.sub _ z);have nm:(toString "min"++toString ".loop":String)="min.loop":=by decide
 refine A1U F.entry_min_loop ?_;rw[Around.under_plainId F.plain_min_loop _];refine A1D (m:=A2H (.ref S)) (A24 E rfl ?_);by_cases a:n=0
 ·subst a;refine A1D (m:=tryCatch (pyNext (.ref I)) _) (A26 (W.done s _ _ h λp g j=>?_));exact A1D (A2u (A1H (J rfl p g λb o r _ e=>j b o r e)))
 ·refine A1D (m:=tryCatch (pyNext (.ref I)) _) (A26 (W.item 0 s _ _ (by omega) h λv p g L t j=>?_));have k:=j S _ q E;have u:∀ b o,b≠S->p.get? b=aA o->(A0Q p S (Obj.mapSeq λ_=>#[v,v])).get? b=aA o:=λb o a e=>(Yi _ _ (Ne.symm a)).trans e;refine A1D (m:=A3e S (λ_=>#[v,v])) (A2f k rfl ?_);rw[nm];refine A1H ⟨A1X F.plain_min_loop _,Fc W C f (n - 1) 0 _ v _ (by omega) (W.frame _ _ _ t λb x o e=>u b o (λz=>f (z▸x)) e) (C.keep _ _ (C.keep _ _ H λb o r _ e=>j b o r e) λb o _ a e=>u b o a e) L (Yc _ k rfl) λM N y B O=>?_⟩;exact K (by omega) M N y B λb o l a e=>O b o l a (u b o a (j b o l e))
end
def El{a b:Int}{d:List A1E}(r:Vals [V.int a,V.int b] d):IntsAre d [a,b]:=by
 cases r with
 | cons r1 c=>
   obtain⟨f,rfl⟩:=r1;cases c with
   | cons c e=>
     obtain⟨g,rfl⟩:=c;cases e;exact .cons _ _ (.cons _ _ .nil)
def Fd(a v:A1E):argsOk "min" ⟨[a],[(Str.ofString "default",v)]⟩:=by unfold argsOk;kernel_rfl
section
variable{prog:A1L}{w:A1N}{A:A1Q}{E:A1E->A1F->Prop}{s:A1F}
def Fe{l:A1G}{items:Array A1E}{d:A1E}{Q:A1E->A1F->Prop}(J:A.handled=aB)(r:s.heap.IsList l items)(t:Nat->Nat->Bool)(G:Heap->Prop)(K:G s.heap)
 (c:∀ h a,G h->(∀ b o,b<s.heap.objs.size->h.get? b=aA o->a.get? b=aA o)->G a)
 (n:∀(u:A1F),G u.heap->∀(i j:Nat) (D H:A1E) (Q:A1E->A1F->Prop) (E:A1E->A1F->Prop),items[i]?=aA D->items[j]?=aA H->Q (.bool (t i j)) u->A1J (A1K prog w) A.in1 (A2m .Lt D H) Q E u)
 (L:items.size=0->∀ a f,(∀ b o,s.heap.get? b=aA o->a.get? b=aA o)->Q d {s with heap:=a,toks:=f})
 (M:0<items.size->∀ v a f,items[argBest t (items.size - 1)]?=aA v->(∀ b o,s.heap.get? b=aA o->a.get? b=aA o)->Q v {s with heap:=a,toks:=f}):
 A1J (A1K prog w) A (call (.builtin "min") [.ref l] [(Str.ofString "default",d)]) Q E s:=by
 have nm:(toString "min"++toString ".loop":String)="min.loop":=by decide
 have p:l<s.heap.objs.size:=by obtain⟨o,N,_⟩:=r;exact YD N
 refine kmb_tree F.kind_min F.plain_min F.entry_min (Fd _ _) ?_;refine A1D (m:=Builtin.Builtins.bindParams "min" ["key","default"] 0 ⟨[],[(Str.ofString "default",d)]⟩) (A2L (show Builtin.Builtins.bindParams "min" ["key","default"] 0 ⟨[],[(Str.ofString "default",d)]⟩=pure [aB,aA d] from rfl) ?_);refine A1D (A1H ?_);refine A1D (A2d r ?_);refine A1D (A1S ?_);rw[nm];have W:=Walks.list (prog:=prog) (w:=w) (A:=A.in1) J s.heap.objs.size l (YG p) items;have x:∀ b o,s.heap.get? b=aA o->((s.heap.push {cls := .type "list_iterator",data := .fields #[.ref l,.int 0 0]}).push {cls := .type "list",data := .seq ([]:List A1E).toArray}).get? b=aA o:=λb o e=>Y8 _ (Y8 _ e);have y:(s.heap.push {cls := .type "list_iterator",data := .fields #[.ref l,.int 0 0]}).objs.size=s.heap.objs.size+1:=by simp[Yr]
 have C:CmpIn prog w A.in1 [s.heap.objs.size] (s.heap.push {cls := .type "list_iterator",data := .fields #[.ref l,.int 0 0]}).objs.size (λi v=>items[i]?=aA v) t G:=⟨λh a g k=>c h a g λb o I e=>k b o (by simp;exact YG I) (by rw[y];exact YG (Z0 I)) e,n⟩
 have q:∀(h:Heap),(∀ b o,b∉[s.heap.objs.size]->b≠(s.heap.push {cls := .type "list_iterator",data := .fields #[.ref l,.int 0 0]}).objs.size->((s.heap.push {cls := .type "list_iterator",data := .fields #[.ref l,.int 0 0]}).push {cls := .type "list",data := .seq ([]:List A1E).toArray}).get? b=aA o->h.get? b=aA o)->∀ b o,s.heap.get? b=aA o->h.get? b=aA o:=λh k b o e=>k b o (by simp;exact YG (YD e)) (by rw[y];have:=YD e;exact YG (Z0 this)) (x b o e);refine A1H ⟨A1X F.plain_min_loop _,Ek (d:=d) W C ?_ ?_ (c _ _ K λb o _ e=>x b o e) (YI _ rfl) (λB a f k=>L B a f (q a k)) (λB v a f O k=>M B v a f O (q a k))⟩
 ·rw[y];simp only[YH,Zi,or_false,not_or];exact⟨A1g _,λz=>absurd p (by rw[<-z];exact A04 (ZT _))⟩
 ·exact⟨⟨_,Y8 _ (YI _ rfl),rfl,rfl⟩,r.at λo e=>x _ _ e⟩
end
section
variable{X:Cx}
noncomputable def Ih(X:Cx)(f:A1E)(g:List Str)(r:List V->List V->Hp->VK->Prop):Prop:=
 ∀(a:List (A1G×Obj)) (s:A1F) (b:St) (H:Hp) (vs c:List V) (d e:List A1E) (Q:VK),Inv X a b H s->Vals vs d->Vals c e->r vs c H Q->A1J (A1K X.prog X.w) X.A (call f d (g.zip e)) (EP X a b Q) X.xe s
def Xg(r:List V->List V->Hp->VK->Prop)(t b:TA):TE:=λa H Q=>t a H λvs c=>b a c λd e=>r vs d e Q
def F9{id:String}{l:List Str}{r:List V->List V->Hp->VK->Prop}{x:Str}{p pos:Pos}{e:Expr}{es:List Expr}{a:List Keyword}{t m:TA}(n:Ih X (.builtin id) l r)(o:Gl X x)(q:X.mg x=aB)(u:A1P x=aA (.builtin id))(v:PA X (e::es) t)(c:PK X a m)
 (d:(A2U pos (A2v a X.env)).filterMap (·.1)=l:=by rfl) (w:x≠"__name__":=by decide) (f:(x == ("__debug__":Str))=aD:=by decide)
 (y:backTo pos (A1O (e::es) X.env)=(aD,eval e X.env)::backTo pos (A1O es X.env):=by rfl) (g:(backTo pos (A1O (e::es) X.env)).any (·.1)=aD:=by rfl)
 (b:(A2U pos (A2v a X.env)).all (·.1.isSome)=aC:=by rfl) (i:(A2U pos (A2v a X.env)).any (·.1.isNone)=aD:=by rfl):PE X (.Call (.Name x p) (e::es) a pos) (Xg r t m):=by
 intro j s k H Q I h;refine A28 (B7 I o q u ?_ w f);refine callWith_kw (thn (v pos j s k H _ I h) λz A ⟨B,C,D,E,F⟩=>thn (c pos j A k C _ D F) λG J ⟨K,L,M,N,O⟩=>?_) y g b i;rw[d];exact n j J k L B K z G Q M E N O
def Qg(H:Hp)(vs:List V)(ps:List (Int×Int)):Prop:=vs.length=ps.length/\∀(i:Nat) (p:Int×Int),ps[i]?=aA p->∃ q,vs[i]?=aA (.ref q)/\H q=aA (.tup [.int p.1,.int p.2])
noncomputable def lt2(p q:Int×Int):Bool:=HT.lexLt [p.1,p.2] [q.1,q.2]
noncomputable def WW:List V->List V->Hp->VK->Prop:=λxs c H Q=>∃ l vs ps,xs=[.ref l]/\c=[.non]/\H l=aA (.lst vs)/\Qg H vs ps/\(ps=[]->Q .non H)/\
 ∀(i:Nat) p q,ps[i]?=aA p->vs[i]?=aA (.ref q)->i=argBest (λa b=>lt2 (ps.getD a (0,0)) (ps.getD b (0,0))) (ps.length - 1)->0<ps.length->Q (.ref q) H
def Lj(U:X.calm=aC)(V:X.A.units+1<cLine):Ih X (.builtin "min") ["default"] WW:=by
 intro pq s σ H xs zs us ws Q I r W h;obtain⟨l,Y,c,rfl,rfl,Z,⟨w,C⟩,q0,q1⟩:=h;obtain⟨u,rfl,ru⟩:=B2 r;cases ru;obtain⟨z,rfl,D⟩:=B2 W;cases D;obtain⟨f,O,pl,hz⟩:=I.list (SqL.of Z);have a0:=O.length
 have tup:∀(i:Nat) (v:A1E),f.toArray[i]?=aA v->∃ q p,v = .ref q/\c[i]?=aA p/\Y[i]?=aA (.ref q)/\H q=aA (.tup [.int p.1,.int p.2])/\∃ d:List A1E,IsTup s.heap q d.toArray/\IntsAre d [p.1,p.2]:=λi v n=>by
  have x:f[i]?=aA v:=by simpa using n
  have y:i<c.length:=by have:=(gM x).1;omega
  obtain⟨q,m,e⟩:=C i c[i] (by simp[y]);obtain⟨u',P,E⟩:=O.get m;rw[x]at P;cases P;cases E;obtain⟨d,rt,pt,_⟩:=I.tuple (SqT.of e);exact⟨q,c[i],rfl,by simp[y],m,e,d,pt,El rt⟩
 refine Fe (I.ok.hd U) pl.isList (λa b=>lt2 (c.getD a (0,0)) (c.getD b (0,0))) (λh=>∀(i:Nat) (v:A1E),f.toArray[i]?=aA v->∃ q p,v = .ref q/\q<s.heap.objs.size/\c[i]?=aA p/\∃ d:List A1E,IsTup h q d.toArray/\IntsAre d [p.1,p.2]) ?_ ?_ ?_ ?_ ?_
 ·intro i v n;obtain⟨q,p,m,e,_,_,d,t,R⟩:=tup i v n;obtain⟨o,B,_⟩:=t;exact⟨q,p,m,YD B,e,d,⟨o,B,by assumption⟩,R⟩
 ·intro h S g k i v n;obtain⟨q,p,m,e,t,d,⟨o,B,hr⟩,e5⟩:=g i v n;exact⟨q,p,m,e,t,d,⟨o,k q o e B,hr⟩,e5⟩
 ·intro s' g i j vi vj Q' E' y hj q;obtain⟨qi,pi,rfl,_,ei,d,F,G⟩:=g i vi y;obtain⟨qj,pj,rfl,_,ej,tj,J,K⟩:=g j vj hj;refine HT.lt_tupInts F J (by simpa using G) (by simpa using K) (show X.A.units+1<cLine from V) ?_;have m:c.getD i (0,0)=pi:=by simp[ZC,ei]
  have e:c.getD j (0,0)=pj:=by simp[ZC,ej]
  rw[m,e]at q;exact q
 ·intro L S M k
  have:c=[]:=by
   cases c with
   | nil=>rfl
   | cons p r=>rw[YB]at L;simp at w;omega
  exact⟨.non,H,I.kept (t':=M) k,rfl,q0 this⟩
 ·intro T v S M n k;obtain⟨q,p,rfl,e,t,R,_⟩:=tup _ v n;have N:f.toArray.size=c.length:=by rw[YB];omega
  rw[N]at e t T;exact⟨.ref q,H,I.kept (t':=M) k,rfl,q1 _ p q e t rfl T⟩
end
def Kpt(a h:Heap):Prop:=∀ b o,a.get? b=aA o->h.get? b=aA o
structure Sk(hb h:Heap)(a k:A1G)(ks xs:Array A1E)(e:Nat):Prop where
 a0:hb.get? a=aB
 k0:hb.get? k=aB
 ne:k≠a
 kp:Kpt hb h
 kk:∃ n,h.get? k=aA (seqObj "list" ks n)
 aa:h.get? a=aA (seqObj "list" xs e)
def Sk.grow{c h h':Heap}{a k:A1G}{d xs:Array A1E}{e:Nat}(S:Sk c h a k d xs e)(K:Kpt h h'):Sk c h' a k d xs e:=
 ⟨S.a0,S.k0,S.ne,λb o q=>K _ _ (S.kp b o q),S.kk.elim λn q=>⟨n,K _ _ q⟩,K _ _ S.aa⟩
section
variable{X:Cx}{pq:List (A1G×Obj)}{σ:St}{H:Hp}{s:A1F}{A:A1Q}{q:Str}{sc:A1R}{ps cn:List Str}{js:List Nat}{f c':A1G}{vs:List V}{us:List A1E}{h':Heap}{tk:Nat}
def Xh(a:A1G)(q:Str):HO := .ext λh=>h.CodeRec (.ref a) q
end
section
variable{X:Cx}{pq:List (A1G×Obj)}{σ:St}{H:Hp}{s:A1F}{A:A1Q}{E:A1E->A1F->Prop}{a k:A1G}{vs:List A1E}{P:PySem.Fin->A1F->Prop}{e:Nat}{kz:List Int}{h':Heap}
def Inv.take{t':Nat}{o:HO}(I:Inv X pq σ H s)(i:FpOk X pq H a)(g:ObjOk X.prog X.w (upd H a o) s.heap a o):Inv X pq σ (upd H a o) {s with toks:=t'}:=by
 obtain⟨d,j,y,l,p,r⟩:=i
 refine I.step (h':=s.heap) (g':=s.gens) (d':=s.drawn) (ch:=[a]) (λb f=>?_) (λb o _ _ _ e _=>e) (λb o _ _ _ e _=>⟨o.slots,e⟩) (λb u t e n=>by rw[i9 (λz=>t (by simp[z]))];exact n)
  (λb o _ e=>⟨o,e⟩) (λb h e=>by rw[i9 (i8 e d)];exact e) (λb u h e=>by rw[i9 (i8 e d)];exact e) (λb B e=>⟨#[],by rw[i9 (i8 e d),e];simp⟩) (λm x=>x) (λb u e=>?_) I.bare
 ·rw[YK.mp f];exact⟨l,j,p,r⟩
 ·by_cases f:b=a
  ·subst f;rw[n6]at e;cases e;exact g
  ·rw[i9 f]at e;exact(I.hok b u e).stay (λc v _ q=>q) (λc q=>by rw[i9 (i8 q d)];exact q) λc h q=>by rw[i9 (i8 q d)];exact q
end
def WX(H:Hp)(q:Str)(pos:Pos)(ps:Array A1E):Prop:=TriplesOk ps.toList/\(codeAmong pos ps.toList=aB\/∃ a,codeAmong pos ps.toList=aA (.ref a)/\H a=aA (Xh a q))
noncomputable def BK(h:Heap)(a:A1G->Bool):Heap:={h with objs:=h.objs.mapIdx λi o=>if a i=aC then {o with data := .freed} else o}
def m6(h:Heap)(a:A1G->Bool)(b:A1G):(BK h a).get? b=if a b=aC then aB else h.get? b:=by
 unfold BK Heap.get?;simp only[Array.getElem?_mapIdx];cases e:h.objs[b]? with
 | none=>simp
 | some o=>
   cases hb:a b with
   | true=>simp[hb]
   | false=>simp[hb]
def ObjOk.here{P:A1L}{w:A1N}{H:Hp}{h:Heap}{a:A1G}{o:HO}(x:ObjOk P w H h a o):∃ c,h.get? a=aA c:=by
 cases o with
 | lst d=>obtain⟨_,_,_,_,e⟩:=x;exact⟨_,e⟩
 | tup d=>obtain⟨_,_,_,o,e,_⟩:=x;exact⟨_,e⟩
 | dK b=>obtain⟨_,_,_,_,o,_,_,e,_⟩:=x;exact⟨_,e⟩
 | dT b=>obtain⟨_,_,_,_,o,_,_,e,_⟩:=x;exact⟨_,e⟩
 | set S n=>obtain⟨o,_,_,_,e,_⟩:=x;exact⟨_,e⟩
 | ins C i g=>obtain⟨_,_,_,e,_⟩:=x;exact⟨_,e⟩
 | own y=>exact x
 | xd g=>obtain⟨_,⟨_,_,_,e,_⟩,_⟩:=x;exact⟨_,e⟩
 | rng lo j=>obtain⟨_,_,_,e⟩:=x;exact⟨_,e⟩
 | frz c u=>obtain⟨e,_⟩:=x;exact⟨_,e⟩
 | tbl k=>exact⟨_,(show h.get? a=aA _ from x)⟩
 | met f y=>exact⟨_,(show h.get? a=aA _ from x)⟩
 | ext l=>obtain⟨_,e,_⟩:=x;exact e
structure Xc(h0 h:Heap)(H:Hp)(x:A1G)(C:A1E):Prop where
 fresh:h0.get? x=aB
 free:H x=aB
 obj:∃(oe:Obj) (vs:Array A1E) (a0:A1E),h.get? x=aA oe/\oe.cls=C/\oe.data = .fields vs/\vs[0]?=aA a0/\
  (vs[1]?=aA .none\/∃(T:A1G) (oT:Obj) (ts:Array A1E),vs[1]?=aA (.ref T)/\T≠x/\h0.get? T=aB/\H T=aB/\h.get? T=aA oT/\oT.data = .fields ts/\ts[3]?=aA .none)
structure Xt(h0 h:Heap)(H:Hp)(x:A1G)(C:A1E):Prop where
 fresh:h0.get? x=aB
 free:H x=aB
 newer:∀ b,h.get? b=aB->h0.get? b=aB
 obj:∃(oe:Obj) (vs:Array A1E) (a0:A1E) (T:A1G) (oT:Obj) (ts:Array A1E),h.get? x=aA oe/\oe.cls=C/\oe.data = .fields vs/\vs[0]?=aA a0/\vs[1]?=aA (.ref T)/\T≠x/\h0.get? T=aB/\H T=aB/\h.get? T=aA oT/\oT.data = .fields ts/\ts[3]?=aA .none
def Xt.xc{c h:Heap}{H:Hp}{x:A1G}{C:A1E}(t:Xt c h H x C):Xc c h H x C:=by
 obtain⟨d,e,f,T,g,i,j,k,l,m,n,o,p,q,r,a,b⟩:=t.obj;exact⟨t.fresh,t.free,d,e,f,j,k,l,m,.inr ⟨T,g,i,n,o,p,q,r,a,b⟩⟩
noncomputable def CXE(P:A1L)(w:A1N):CXT:=λouter H s E e a=>∃(x:A1G) (C:A1E) (b:Hp),e = .ref x/\a.os=s.os/\AllBare a.gens/\Un (frs outer) [] H b s.heap a.heap/\HOk P w b a.heap/\Xt s.heap a.heap b x C/\E C aB b
theorem AL{h B b:Heap}:∀{l:List Env},h.FunFrames B l->(∀ L∈frs l,b.get? L=aB)->h.FunFrames b l
 | [],_,_=>trivial
 | d::r,⟨e,⟨L,o,a,k,f,g⟩,i⟩,c=>by
   refine⟨e,⟨L,o,a,c L ?_,f,g⟩,AL i λM j=>c M ?_⟩
   ·unfold frs;rw[Yu,a];exact YL
   ·unfold frs;rw[Yu,a];exact YC _ j
section
variable{X:Cx}{pq:List (A1G×Obj)}{σ:St}{H:Hp}{s:A1F}{E:XK}{Ex:A1E->A1F->Prop}
def Ng(I:Inv X pq σ H s)(U:X.stack=X.env::X.outer)(k:X.env.frame=aA X.env.locals)(V:X.ex=[]){x:A1G}{C:A1E}(xc:Xc X.s₀.heap s.heap H x C)(hE:E C aB H):
 A1J (A1K X.prog X.w) X.A (leaving X.env (.ref x)) (λ_ W=>CXE X.prog X.w X.outer X.H₀ X.s₀ E (.ref x) W) Ex s:=by
 obtain⟨l,B,oe,vs,a0,hx,D,hd,h0,Y⟩:=xc;have J:=I.ok.frames;have i:=I.stack;have N:=I.stkFree;rw[U]at J i N;have m:frs (X.env::X.outer)=X.env.locals::X.fs:=by unfold frs;rw[Yu,k];rfl
 have g:∀ b:A1G,b∉X.ex:=λb z=>by rw[V]at z;cases z
 have F:∀ b o,X.s₀.heap.get? b=aA o->b≠X.env.locals:=λb o e z=>by
  have:=YD e;have h2:=I.ok.above;rw[z]at this;exact absurd (YW this h2) (ZD _)
 have O:∀(c:A1G->Bool) (p:Heap),(∀ b o,X.s₀.heap.get? b=aA o->b∉X.fs->c b=aD)->(∀ b o,H b=aA o->c b=aD)->(∀ b,c b=aC->b=x\/b∈X.env.locals::X.fs\/(X.s₀.heap.get? b=aB/\H b=aB))->
  Heap.LeftW (BK s.heap c) (X.env::X.outer) x C a0 s.heap p->CXE X.prog X.w X.outer X.H₀ X.s₀ E (.ref x) {s with heap:=p}:=by
  intro c p b0 b1 b2 ⟨k1,k2,k3,k4⟩;have j:∀ b o,c b=aD->s.heap.get? b=aA o->p.get? b=aA o:=λb o f e=>k1 b o (by rw[m6,f];simpa using e)
  have r:∀ b o,b∈X.env.locals::X.fs->s.heap.get? b=aA o->∃ Z,p.get? b=aA {o with slots:=Z}:=λb o f e=>by
   rw[<-m]at f;obtain⟨_,K,t,hn⟩:=i.mem f;rw[e]at t;cases t;exact k4 b o e hn
  have v:∀ b o,X.s₀.heap.get? b=aA o->∃ K,p.get? b=aA K:=λb o e=>by
   obtain⟨K,P⟩:=I.base.there b o e (g b);by_cases f:b∈X.fs
   ·obtain⟨Z,Q⟩:=r b _ (YC _ f) P;exact⟨_,Q⟩
   ·exact⟨_,j b K (b0 b o e f) P⟩
  refine⟨x,C,H,rfl,I.os,I.bare,⟨?_,?_,?_,λb o e _=>v b o e,I.base.tups,I.base.frzs,I.base.tbls⟩,?_,⟨l,B,?_,?_⟩,hE⟩
  ·intro b o e n f _;exact j b o (b0 b o e f) (I.base.keep b o e n f (g b))
  ·intro b o e n f _;obtain⟨Z,e1⟩:=I.base.slot b o e n f (g b);obtain⟨a1,Q⟩:=r b _ (YC _ f) e1;exact⟨a1,Q⟩
  ·intro b o e n _;exact I.base.free b o e n (g b)
  ·intro a o e;refine(I.hok a o e).stay (λb u f P=>?_) (λ_ h=>h) (λ_ _ h=>h);rcases f with rfl | f
   ·exact j b u (b1 b o e) P
   ·exact j b u (b1 b _ f) P
  ·intro b e;cases q:X.s₀.heap.get? b with
   | none=>rfl
   | some o=>
     obtain⟨K,G⟩:=v b o q;have e:p.get? b=aB:=e;rw[e]at G;cases G
  ·obtain⟨a2,a3,y,oT,S,e1,⟨Q,e3⟩,e4,e5,M,e7,e8,e9,a4⟩:=k3;refine⟨a2,a3,a0,y,oT,S,e1,Q,e4,e3,e5,e7,?_⟩
   have hh:X.s₀.heap.get? y=aB/\H y=aB:=by
    rw[m6]at M;cases f:c y with
    | true=>
      rcases b2 y f with z | z | z
      ·exact absurd z e7
      ·exfalso;rw[<-m]at z;obtain⟨_,K,t,hn⟩:=k2.mem z;rw[e8]at t;cases t;exact hn S e9
      ·exact z
    | false=>
      rw[f]at M;have M:s.heap.get? y=aB:=by simpa using M
      constructor
      ·cases q:X.s₀.heap.get? y with
       | none=>rfl
       | some o=>
         obtain⟨K,G⟩:=I.base.there y o q (g y);rw[M]at G;cases G
      ·cases q:H y with
       | none=>rfl
       | some o=>
         obtain⟨ob,G⟩:=(I.hok y o q).here;rw[M]at G;cases G
   exact⟨hh.1,hh.2,e8,e9,a4⟩
 have Hx:∀ b o,H b=aA o->b≠x:=λb o e z=>by rw[z,B]at e;cases e
 have Hf:∀ b o,H b=aA o->b∉X.env.locals::X.fs:=λb o e z=>by
  rw[<-m]at z;rw[N b z]at e;cases e
 have Sx:∀ b o,X.s₀.heap.get? b=aA o->b≠x:=λb o e z=>by rw[z,l]at e;cases e
 rcases Y with h1 | ⟨T,oT,S,h1,hTx,T0,HT,Y,hdT,h3⟩
 ·obtain⟨c,d⟩:∃ c:A1G->Bool,∀ b,c b=(decide (b=x)||decide (b∈X.env.locals::X.fs)):=⟨_,λ_=>rfl⟩
  have f0:∀ L∈frs (X.env::X.outer),(BK s.heap c).get? L=aB:=λL R=>by
   rw[m]at R;rw[m6,d,decide_eq_true R,A0d];rfl
  subst D;refine wpAny_leaving_firstW (base:=BK s.heap c) J (AL i f0) k hx (λb o e=>?_) (by rw[m6,d];simp) hd h1 h0 λp L=>O c p (λb o e f=>?_) (λb o e=>?_) (λb f=>?_) L
  ·rw[m6]at e;split at e
   ·cases e
   ·exact e
  ·rw[d,decide_eq_false (Sx b o e),decide_eq_false (λz=>(YH.mp z).elim (F b o e) f)];rfl
  ·rw[d,decide_eq_false (Hx b o e),decide_eq_false (Hf b o e)];rfl
  ·rw[d,Yj,dQ,dQ]at f;exact f.imp id Or.inl
 ·obtain⟨c,d⟩:∃ c:A1G->Bool,∀ b,c b=(decide (b=x)||(decide (b∈X.env.locals::X.fs)||decide (b=T))):=⟨_,λ_=>rfl⟩
  have f0:∀ L∈frs (X.env::X.outer),(BK s.heap c).get? L=aB:=λL R=>by
   rw[m]at R;rw[m6,d,decide_eq_true R,A0c,A0d];rfl
  subst D;refine wpAny_leaving_nextW (base:=BK s.heap c) (cls:=oe.cls) (a0:=a0) J (AL i f0) k ⟨oe,vs,T,oT,S,hx,⟨rfl,h0⟩,hd,h1,by rw[m6,d];simp,hTx,Y,hdT,h3⟩ (λb o e=>?_) (by rw[m6,d];simp) λp L=>O c p (λb o e f=>?_) (λb o e=>?_) (λb f=>?_) L
  ·rw[m6]at e;split at e
   ·cases e
   ·exact e
  ·rw[d,decide_eq_false (Sx b o e),decide_eq_false (λz=>(YH.mp z).elim (F b o e) f),decide_eq_false (λz=>by rw[z,T0]at e;cases e)];rfl
  ·rw[d,decide_eq_false (Hx b o e),decide_eq_false (Hf b o e),decide_eq_false (λz=>by rw[z,HT]at e;cases e)];rfl
  ·rw[d,Yj,Yj,dQ,dQ,dQ]at f;rcases f with z | z | z
   ·exact .inl z
   ·exact .inr (.inl z)
   ·exact .inr (.inr ⟨by rw[z];exact T0,by rw[z];exact HT⟩)
end
section
variable{X:Cx}{pq:List (A1G×Obj)}{σ:St}{H:Hp}{s:A1F}{E:XK}
def Catch(X:Cx)(E:XK):Prop:=∀(pq:List (A1G×Obj)) (σ:St) (H:Hp) (s:A1F) (x:A1G) (C:A1E),Inv X pq σ H s->Xc X.s₀.heap s.heap H x C->E C aB H->X.xe (.ref x) s
def Xc.since{a c h:Heap}{x:A1G}{C:A1E}(d:Xc c h H x C)(k:∀ b,c.get? b=aB->a.get? b=aB):Xc a h H x C:=by
 obtain⟨f,e,g,i,j,l,m,n,o,p⟩:=d;refine⟨k _ f,e,g,i,j,l,m,n,o,p.imp id ?_⟩;rintro⟨T,r,t,u,v,w,q⟩;exact⟨T,r,t,u,v,k _ w,q⟩
def Inv.older(I:Inv X pq σ H s)(a:X.ex=[]):∀ b,s.heap.get? b=aB->X.s₀.heap.get? b=aB:=λb e=>by
 cases q:X.s₀.heap.get? b with
 | none=>rfl
 | some o=>
   obtain⟨d,c⟩:=I.base.there b o q (by rw[a];exact Zi);rw[e]at c;cases c
structure Since(X:Cx)(pq:List (A1G×Obj))(h0:Heap):Prop where
 old:∀ b,h0.get? b=aB->X.s₀.heap.get? b=aB
 pin:∀ p∈X.pn++pq,h0.get? p.1≠aB
def CatchT(X:Cx)(E:XK):Prop:=∀(pq:List (A1G×Obj)) (σ:St) (H:Hp) (s:A1F) (a:Heap) (x:A1G) (C:A1E),Inv X pq σ H s->Since X pq a->Xt a s.heap H x C->E C aB H->X.xe (.ref x) s
def Catch.t(c:Catch X E):CatchT X E:=λpq σ H s d x C I S a b=>c pq σ H s x C I (a.xc.since S.old) b
def WY(d:X.ex=[])(c:CatchT X E):FX (CXE X.prog X.w) X E:=by
 rintro pq σ H s e g I ⟨x,C,h,rfl,i,a,j,f,k,l⟩;exact c pq σ h g s.heap x C (I.call' i j f a λb z=>absurd z Zi) ⟨I.older d,λp m z=>by have:=(I.pin p m).1;rw[z]at this;cases this⟩ k l
end
def catch_fn{P:A1L}{w:A1N}{K:Y2}{c:Str->Option A1E}{base:Heap}{N:List Str}{b:Str}{a:A1R}{f:A1G}{d:A1E}{A:A1Q}{outer:List Env}{s:A1F}{H:Hp}{E:XK}:
 Catch (Eg (CXE P w) P w K c base N b a f d A outer s H E) E:=λh i j k x C I e g=>
 Ng (X:=Eg (CXE P w) P w K c base N b a f d A outer s H E) I rfl rfl rfl e g
structure CalleeE(P:A1L)(w:A1N)(K:Y2)(mg:Str->Option A1E)(base:Heap)(k:Nat)(x:Str)(ps:List Str)(sp:Sp):Prop where
 ex:∃ f fd,FnOk P w K mg base (CXE P w) k f fd ps sp/\mg x=aA (.ref f)/\PySem.W.keepIn K (.ref f)=aC/\Binds K fd ps []
structure ExcC(K:Y2)(mg:Str->Option A1E)(x:Str)(C:A1G):Prop where
 bound:mg x=aA (.ref C)
 obj:∀ h:Heap,K.In h->∃ bm N nm q bs hdct sn sub ab col dd k0 k1 k2 k3 k5 mN,h.get? C=aA (A2M nm q C N bs bm hdct sn sub ab col dd k0 k1 k2 k3 k5 "ValueError.__new__")/\h.Ns N mN/\mN "__init__"=aB/\OwnTail h [.type "ValueError",.type "Exception",.type "BaseException",.type "object"] bm
def UO(C:A1G)(E:XK)(t:TE):TS:=λ_ a H=>t a H λ_ b=>E (.ref C) aB b
def Nh{X:Cx}{x:Str}{C:A1G}{E:XK}{e:Expr}{p:TE}{z a pos:Pos}(r:ExcC X.K X.mg x C)(i:X.ex=[])(c:X.calm=aC)(A:Catch X E)(B:Gl X x)(G:PE X e p)(J:(x == ("__debug__":Str))=aD:=by decide)
 (w:A1O [e] X.env=(aD,eval e X.env)::A1O [] X.env:=by rfl) (L:(backTo a (A1O [] X.env)).any (·.1)=aD:=by rfl):
 PS X (.Raise (aA (.Call (.Name x z) [e] [] a)) aB pos) (UO C E p):=by
 intro j s k H D I h;obtain⟨M,N,nm,q,bs,hdct,sn,sub,ab,col,dd,k0,k1,k2,k3,k5,mN,l,O,m,T⟩:=r.obj X.base I.mod.kin
 refine wpAny_Raise_call_subT (C:=C) (nm:=nm) (q:=q) (N:=N) (bs:=bs) (bm:=M) (hdct:=hdct) (sn:=sn) (sub:=sub) (ab:=ab) (col:=col) (dd:=dd) (k0:=k0) (k1:=k1) (k2:=k2) (k3:=k3) (k5:=k5)
  PySem.F.excBase_ValueError (mN:=mN) (T.hasType PySem.F.excBase_ValueError.hasBase) (I.ok.hd c) (by rw[w];show(aD||(backTo a (A1O [] X.env)).any (·.1))=aD;rw[L];rfl) m (DT I B r.bound ⟨rfl,?_⟩ J)
 rw[w];refine Calls.evalArgs_plain ?_;show A1J _ _ (spliced ((aD,eval e X.env)::backTo a (A1O [] X.env))) _ _ s;refine Calls.spliced_cons (thn (G j s k H _ I h) λu n ⟨v,f,d,Z,P⟩=>Calls.spliced_nil ?_);refine⟨rfl,by show 1<=A1M;decide,d.bk _ _ l,O.keeps d.bk,T.keeps d.bk,λQ R g=>?_⟩;obtain⟨t,S,U,V⟩:=g.there;have W:Inv X j k f {n with heap:=Q}:=d.kept (t':=n.toks) λb o e=>g.keeps b o e
 have Y:∀ b,n.heap.get? b=aB->f b=aB:=λb e=>by
  cases q:f b with
  | none=>rfl
  | some o=>
    obtain⟨ob,y⟩:=(d.hok b o q).here;rw[e]at y;cases y
 exact A j k f _ R (.ref C) W ⟨d.older i _ g.new,Y _ g.new,_,_,_,S,rfl,rfl,rfl,.inl rfl⟩ P
section
variable{X:Cx}{pq:List (A1G×Obj)}{σ:St}{H:Hp}{s:A1F}
def Inv.flown(I:Inv X pq σ H s)(J:X.stack=X.env::X.outer)(B:X.env.frame=aA X.env.locals)(K:X.ex=[])(L:∀ x,X.fn x=aC){M h':Heap}(S:Since X pq M){l:A1G->Bool}
 (b2:∀ b,l b=aC->b∈X.env.locals::X.fs\/(M.get? b=aB/\H b=aB/\∃ o y,s.heap.get? b=aA o/\o.data = .fields y))
 (d:∀ b o,l b=aD->s.heap.get? b=aA o->h'.get? b=aA o)
 (g:∀ b o,b∈X.env.locals::X.fs->s.heap.get? b=aA o->∃ F,h'.get? b=aA {o with slots:=F}):Inv X pq σ H {s with heap:=h'}:=by
 have j:∀ b:A1G,b∉X.ex:=λb z=>by rw[K]at z;cases z
 have C:∀ b o,X.s₀.heap.get? b=aA o->b≠X.env.locals:=λb o e z=>by
  have:=YD e;have N:=I.ok.above;rw[z]at this;exact absurd (YW this N) (ZD _)
 have k:∀ b,b∉X.env.locals::X.fs->(M.get? b≠aB\/H b≠aB\/∀ o y,s.heap.get? b=aA o->o.data ≠ .fields y)->l b=aD:=λb f h=>by
  cases z:l b with
  | false=>rfl
  | true=>
    rcases b2 b z with q | ⟨q1,q2,o,y,q3,q4⟩
    ·exact absurd q f
    ·rcases h with h | h | h
     ·exact absurd q1 h
     ·exact absurd q2 h
     ·exact absurd q4 (h o y q3)
 have T:∀ b o,X.s₀.heap.get? b=aA o->b∉X.fs->l b=aD:=λb o e f=>
  k b (λz=>(YH.mp z).elim (C b o e) f) (.inl λz=>by rw[S.old b z]at e;cases e)
 have O:frs X.stack=X.env.locals::X.fs:=by rw[J];unfold frs;rw[Yu,B];rfl
 have Hf:∀ b o,H b=aA o->b∉X.env.locals::X.fs:=λb o e z=>by
  rw[<-O]at z;rw[I.stkFree b z]at e;cases e
 have U:∀ b o,H b=aA o->l b=aD:=λb o e=>k b (Hf b o e) (.inr (.inl (by rw[e];intro z;cases z)))
 have P:∀ x c,X.env.cells.lookup x=aA c->c∉X.env.locals::X.fs:=λx c e z=>by
  rcases YH.mp z with z | z
  ·exact I.cne x c e z
  ·obtain⟨_,o,A,_⟩:=I.ok.funs.mem z;exact absurd (YW (YD A) (I.ok.cab x c (L x) e)) (ZD _)
 have t:∀ x c,X.env.cells.lookup x=aA c->∀ v,s.heap.IsCell c v->h'.IsCell c v:=λx c e v ⟨o,A,G⟩=>
  ⟨o,d c o (k c (P x c e) (.inr (.inr λV y q z=>by rw[A]at q;cases q;rw[G]at z;cases z))) A,G⟩
 refine⟨I.ok,I.os,I.bare,⟨?_,?_,?_,?_,I.base.tups,I.base.frzs,I.base.tbls⟩,?_,?_,I.free,I.freeC,?_,?_,I.len⟩
 ·intro b o e n f _;exact d b o (T b o e f) (I.base.keep b o e n f (j b))
 ·intro b o e n f _;obtain⟨F,e1⟩:=I.base.slot b o e n f (j b);obtain⟨Q,D⟩:=g b _ (YC _ f) e1;exact⟨Q,D⟩
 ·intro b o e n _;exact I.base.free b o e n (j b)
 ·intro b o e _;obtain⟨V,E⟩:=I.base.there b o e (j b);by_cases f:b∈X.fs
  ·obtain⟨F,D⟩:=g b _ (YC _ f) E;exact⟨_,D⟩
  ·exact⟨_,d b V (T b o e f) E⟩
 ·obtain⟨m,⟨o,es,ep,A,G,r⟩,R⟩:=I.loc;obtain⟨F,D⟩:=g X.env.locals o (YL ..) A;refine⟨m,⟨_,es,ep,D,G,r⟩,λi x v h1 N h3=>?_⟩;obtain⟨u,ru,hl⟩:=R i x v h1 N h3;refine⟨u,ru,hl.imp id ?_⟩;rintro⟨hk,c,W,w⟩;exact⟨hk,c,W,t x c W _ w⟩
 ·intro x c e;obtain⟨v,R⟩:=I.cell x c e;exact⟨v,t x c e v R⟩
 ·intro p Y;obtain⟨p1,p2,Z,p4,p5⟩:=I.pin p Y;exact⟨d p.1 p.2 (k p.1 (λz=>(YH.mp z).elim Z p4) (.inl (S.pin p Y))) p1,p2,Z,p4,p5⟩
 ·intro a o e;refine(I.hok a o e).stay (λb u f E=>?_) (λ_ h=>h) (λ_ _ h=>h);rcases f with rfl | f
  ·exact d b u (U b o e) E
  ·exact d b u (U b _ f) E
def UP{M:Model}{Q:Unit->A1F->Prop}{E Ex:A1E->A1F->Prop}(I:Inv X pq σ H s)(w:X.stack=X.env::X.outer)(h:X.env.frame=aA X.env.locals)(V:X.ex=[])(W:∀ x,X.fn x=aC){y:Heap}(S:Since X pq y){x:A1G}{C:A1E}(xt:Xt y s.heap H x C)
 (k:∀ Y,Inv X pq σ H Y->Xt y Y.heap H x C->Q () Y):A1J M X.A (noteFrame (.ref x) X.env) (λ_ B=>A1J M X.A (setFlight (.ref x) aB) Q E B) Ex s:=by
 obtain⟨f,p,i,oe,Z,a0,T,oT,ts,hx,D,hd,a1,h1,a2,T0,HT,hT,F,h3⟩:=xt;have G:=I.ok.frames;have j:=I.stack;rw[w]at G j;have t:frs (X.env::X.outer)=X.env.locals::X.fs:=by unfold frs;rw[Yu,h];rfl
 obtain⟨a,c⟩:∃ a:A1G->Bool,∀ b,a b=(decide (b=x)||(decide (b∈X.env.locals::X.fs)||decide (b=T))):=⟨_,λ_=>rfl⟩
 have f0:∀ L∈frs (X.env::X.outer),(BK s.heap a).get? L=aB:=λL hL=>by
  rw[t]at hL;rw[m6,c,decide_eq_true hL,A0c,A0d];rfl
 have b2:∀ b,a b=aC->b∈X.env.locals::X.fs\/(y.get? b=aB/\H b=aB/\∃ o Z,s.heap.get? b=aA o/\o.data = .fields Z):=λb g=>by
  rw[c,Yj,Yj,dQ,dQ,dQ]at g;rcases g with z | z | z
  ·rw[z];exact .inr ⟨f,p,_,_,hx,hd⟩
  ·exact .inl z
  ·rw[z];exact .inr ⟨T0,HT,_,_,hT,F⟩
 subst D;refine wpAny_noteFrame_onW (base:=BK s.heap a) (cls:=oe.cls) (a0:=a0) G (AL j f0) h ⟨oe,Z,T,oT,ts,hx,⟨rfl,a1⟩,hd,h1,by rw[m6,c];simp,a2,hT,F,h3⟩ (λb o e=>?_) (by rw[m6,c];simp) λa7 ⟨k1,k2,k3,k4⟩=>?_
 ·rw[m6]at e;split at e
  ·cases e
  ·exact e
 refine A3o (base:=BK s.heap a) k1 k2 k3 λd l1 l2 l3 l4=>?_;have r:∀ b o,a b=aD->s.heap.get? b=aA o->d.get? b=aA o:=λb o g e=>l1 b o (by rw[m6,g];simpa using e)
 have l:∀ b o,b∈X.env.locals::X.fs->s.heap.get? b=aA o->∃ N,d.get? b=aA {o with slots:=N}:=λb o g e=>by
  rw[<-t]at g;obtain⟨_,O,m,P⟩:=j.mem g;rw[e]at m;cases m;obtain⟨N,q⟩:=k4 b o e P;exact⟨N,l4 b _ q P⟩
 have u:∀ b o,s.heap.get? b=aA o->b≠x->b≠T->∃ O,d.get? b=aA O:=λb o e R U=>by
  by_cases g:b∈X.env.locals::X.fs
  ·obtain⟨N,q⟩:=l b o g e;exact⟨_,q⟩
  ·exact⟨o,r b o (by rw[c,decide_eq_false R,decide_eq_false g,decide_eq_false U];rfl) e⟩
 refine k {s with heap:=d} (I.flown w h V W S b2 r l) ⟨f,p,λb e=>?_,?_⟩
 ·by_cases R:b=x
  ·rw[R];exact f
  ·by_cases U:b=T
   ·rw[U];exact T0
   ·refine i b ?_;cases q:s.heap.get? b with
    | none=>rfl
    | some o=>
      obtain⟨O,J⟩:=u b o q R U;have e:d.get? b=aB:=e;rw[e]at J;cases J
 ·obtain⟨a3,a4,n,a5,K,e1,⟨e2,e3⟩,e4,e5,v,e7,e8,e9,a6⟩:=l3;refine⟨a3,a4,a0,n,a5,K,e1,e2,e4,e3,e5,e7,?_⟩
  have hh:y.get? n=aB/\H n=aB:=by
   rw[m6]at v;cases g:a n with
   | true=>
     rcases b2 n g with z | ⟨z1,z2,_⟩
     ·exfalso;rw[<-t]at z;obtain⟨_,O,m,P⟩:=l2.mem z;rw[e8]at m;cases m;exact P K e9
     ·exact⟨z1,z2⟩
   | false=>
     rw[g]at v;have v:s.heap.get? n=aB:=by simpa using v
     refine⟨i n v,?_⟩;cases q:H n with
     | none=>rfl
     | some o=>
       obtain⟨ob,J⟩:=(I.hok n o q).here;rw[v]at J;cases J
  exact⟨hh.1,hh.2,e8,e9,a6⟩
def UQ{M:Model}{A:A1Q}{Q:Unit->A1F->Prop}{E:A1E->A1F->Prop}(I:Inv X pq σ H s)(w:X.stack=X.env::X.outer)(n:X.env.frame=aA X.env.locals)(O:X.ex=[])(P:∀ x,X.fn x=aC){y:Heap}(S:Since X pq y){x:A1G}{C:A1E}(xt:Xt y s.heap H x C)
 (k:∀ R,Inv X pq σ H R->Xt y R.heap H x C->Q () R):A1J M A (setFlight (.ref x) aB) Q E s:=by
 obtain⟨d,p,h,oe,U,a0,T,oT,ts,hx,B,hd,V,h1,W,T0,HT,hT,D,h3⟩:=xt;have i:=I.stack;rw[w]at i;have t:frs (X.env::X.outer)=X.env.locals::X.fs:=by unfold frs;rw[Yu,n];rfl
 obtain⟨a,f⟩:∃ a:A1G->Bool,∀ b,a b=(decide (b=x)||(decide (b∈X.env.locals::X.fs)||decide (b=T))):=⟨_,λ_=>rfl⟩
 have f0:∀ L∈frs (X.env::X.outer),(BK s.heap a).get? L=aB:=λL hL=>by
  rw[t]at hL;rw[m6,f,decide_eq_true hL,A0c,A0d];rfl
 have b2:∀ b,a b=aC->b∈X.env.locals::X.fs\/(y.get? b=aB/\H b=aB/\∃ o U,s.heap.get? b=aA o/\o.data = .fields U):=λb g=>by
  rw[f,Yj,Yj,dQ,dQ,dQ]at g;rcases g with z | z | z
  ·rw[z];exact .inr ⟨d,p,_,_,hx,hd⟩
  ·exact .inl z
  ·rw[z];exact .inr ⟨T0,HT,_,_,hT,D⟩
 have Y:(BK s.heap a).StaysIn s.heap:=λb o e=>by
  rw[m6]at e;split at e
  ·cases e
  ·exact e
 subst B;refine A3o (base:=BK s.heap a) (cls:=oe.cls) (a0:=a0) (fl := .none) Y (AL i f0) ⟨oe,U,T,oT,ts,hx,⟨rfl,V⟩,hd,h1,by rw[m6,f];simp,W,hT,D,h3⟩ λc l1 l2 l3 l4=>?_;have r:∀ b o,a b=aD->s.heap.get? b=aA o->c.get? b=aA o:=λb o g e=>l1 b o (by rw[m6,g];simpa using e)
 have j:∀ b o,b∈X.env.locals::X.fs->s.heap.get? b=aA o->∃ sl,c.get? b=aA {o with slots:=sl}:=λb o g e=>by
  rw[<-t]at g;obtain⟨_,J,l,Z⟩:=i.mem g;rw[e]at l;cases l;exact⟨o.slots,l4 b _ e Z⟩
 have u:∀ b o,s.heap.get? b=aA o->b≠x->b≠T->∃ J,c.get? b=aA J:=λb o e K N=>by
  by_cases g:b∈X.env.locals::X.fs
  ·obtain⟨sl,q⟩:=j b o g e;exact⟨_,q⟩
  ·exact⟨o,r b o (by rw[f,decide_eq_false K,decide_eq_false g,decide_eq_false N];rfl) e⟩
 refine k {s with heap:=c} (I.flown w n O P S b2 r j) ⟨d,p,λb e=>?_,?_⟩
 ·by_cases K:b=x
  ·rw[K];exact d
  ·by_cases N:b=T
   ·rw[N];exact T0
   ·refine h b ?_;cases q:s.heap.get? b with
    | none=>rfl
    | some o=>
      obtain⟨J,F⟩:=u b o q K N;have e:c.get? b=aB:=e;rw[e]at F;cases F
 ·obtain⟨a1,a2,m,a3,G,e1,⟨e2,e3⟩,e4,e5,v,e7,e8,e9,a4⟩:=l3;refine⟨a1,a2,a0,m,a3,G,e1,e2,e4,e3,e5,e7,?_⟩
  have hh:y.get? m=aB/\H m=aB:=by
   rw[m6]at v;cases g:a m with
   | true=>
     rcases b2 m g with z | ⟨z1,z2,_⟩
     ·exfalso;rw[<-t]at z;obtain⟨_,J,l,Z⟩:=l2.mem z;rw[e8]at l;cases l;exact Z G e9
     ·exact⟨z1,z2⟩
   | false=>
     rw[g]at v;have v:s.heap.get? m=aB:=by simpa using v
     refine⟨h m v,?_⟩;cases q:H m with
     | none=>rfl
     | some o=>
       obtain⟨ob,F⟩:=(I.hok m o q).here;rw[v]at F;cases F
  exact⟨hh.1,hh.2,e8,e9,a4⟩
def ExcO(x:A1G)(C:A1E):HO := .ext λh=>∃ o,h.get? x=aA o/\o.cls=C
def Inv.track(I:Inv X pq σ H s)(m:X.stack=X.env::X.outer)(g:X.env.frame=aA X.env.locals)(K:X.ex=[]){B:Heap}(S:Since X pq B){x:A1G}{C:A1E}(L:Xt B s.heap H x C):Inv X pq σ (upd H x (ExcO x C)) s:=by
 obtain⟨f,d,r,D,M,a0,T,oT,ts,l,h,E,_⟩:=L;have t:frs X.stack=X.env.locals::X.fs:=by rw[m];unfold frs;rw[Yu,g];rfl
 have w:x∉X.env.locals::X.fs:=λz=>by
  rw[<-t]at z;obtain⟨_,o',i,A⟩:=I.stack.mem z;rw[l]at i;cases i;exact A M E
 have N:∀ b o,X.s₀.heap.get? b=aA o->b≠x:=λb o e z=>by rw[z,S.old x f]at e;cases e
 refine⟨I.ok,I.os,I.bare,⟨I.base.keep,I.base.slot,λb o e n O=>?_,I.base.there,λb F e=>?_,λb o u e=>?_,λb P e=>?_⟩,I.loc,I.cell,?_,λy c e=>?_,λp G=>?_,λa o e=>?_,I.len⟩
 ·rw[i9 (N b o e)];exact I.base.free b o e n O
 ·have:=I.base.tups b F e;rw[i9 (i8 this d)];exact this
 ·have:=I.base.frzs b o u e;rw[i9 (i8 this d)];exact this
 ·obtain⟨j,q⟩:=I.base.tbls b P e;exact⟨j,by rw[i9 (i8 q d)];exact q⟩
 ·have A:X.env.locals≠x:=λz=>w (by rw[<-z];exact YL ..);rw[i9 A];exact I.free
 ·have Q:c≠x:=λz=>by
   obtain⟨v,o,J,k⟩:=I.cell y c e;rw[z,l]at J;cases J;rw[E]at k;cases k
  rw[i9 Q];exact I.freeC y c e
 ·obtain⟨R,U,V⟩:=I.pin p G;have:p.1≠x:=λz=>S.pin p G (by rw[z];exact f);exact⟨R,by rw[i9 this];exact U,V⟩
 ·by_cases z:a=x
  ·subst z;rw[n6]at e;cases e;exact⟨⟨D,l,h⟩,⟨D,l⟩,λh1 h2 ⟨o,W,Y⟩ Z=>⟨o,Z o W,Y⟩⟩
  ·rw[i9 z]at e;refine(I.hok a o e).stay (λb u _ q=>q) (λb q=>?_) (λb F q=>?_)
   ·rw[i9 (i8 q d)];exact q
   ·rw[i9 (i8 q d)];exact q
end
section
variable{M:Model}{A:A1Q}{E:A1E->A1F->Prop}
variable{nm q nm' q':Str}{C N D N':A1G}{bs bm bs' bm':List A1E}{hdct hdct':Bool}{sn sn':List Str}{sub sub':List A1E}{ab ab':Bool}{col col':Option Bool}{dd dd':Option A1G}{k0 k1 k2 k3 k5 l0 l1 l2 l3 l5:Option A1E}{newId newId':String}
def Em{h:Heap}{g:Array A35}{d:Drawn}{t:Nat}{j:OsState}{e:A1G}{k:Obj}{Q:Bool->A1F->Prop}
 (m:h.get? C=aA (A2M nm q C N bs bm hdct sn sub ab col dd k0 k1 k2 k3 k5 newId)) (l:h.get? D=aA (A2M nm' q' D N' bs' bm' hdct' sn' sub' ab' col' dd' l0 l1 l2 l3 l5 newId')) (n:h.get? e=aA k) (b:k.cls = .ref C)
 (c:(Value.ref C::bm).contains (.ref D)=aC) (a:bm'.contains (.type "BaseException")=aC) (o:Q aC ⟨h,g,d,t,j⟩):A1J M A (excMatches (.ref e) (.ref D)) Q E ⟨h,g,d,t,j⟩:=by
 have i:(Value.ref D::bm').contains (.type "BaseException")=aC:=by rw[List.contains_cons,a,A0d]
 have f:=tc_notTuple;unfold excMatches
 repeat (first | (with_reducible refine A2t n ?_;rw[b]) | with_reducible refine A2t l ?_ | (with_reducible refine A3x l ?_;rw[i]) | (with_reducible refine A3x m ?_;rw[c]) | wp_step)
 exact o
end
section
variable{X:Cx}{pq:List (A1G×Obj)}{σ:St}{H:Hp}{s:A1F}
def Lk{M:Model}{A:A1Q}{E:A1E->A1F->Prop}{i:Nat}{n:Str}{pos:Pos}{Q:Unit->A1F->Prop}(I:Inv X pq σ H s)(P:X.N.Nodup)(B:X.N[i]?=aA n)(v:X.env.scope.names.lookup n=aA .local)
 (h:∀ R,Inv X pq (σ.set i aB) H R->Q () R):A1J M A (do A3q X.env n .none;A2N X.env n pos) Q E s:=by
 have w:(X.env.scope.kind == .class||(X.env.scope.kind == .module&&X.env.locals != X.env.globals))=aD:=by rw[I.ok.kind];rfl
 have g:i<σ.length:=by rw[I.len];exact(gM B).1
 refine A1D (A3r (BG I P B (.inl v) (show RelV .non Value.none from rfl) (λs1 f=>?_) (.inr v)));unfold A2N;refine wpAny_onRaise ?_;obtain⟨m,V,S⟩:=id f.loc;obtain⟨u0,G,J⟩:=S i n .non B (by rw[YV g]) (.inl v);cases G
 have W:m n=aA Value.none:=by
  rcases J with⟨_,z⟩ | ⟨z,_⟩
  ·exact z
  ·exfalso;have K:X.env.kindOf n=aA .local:=v;rw[K]at z;rcases z with z | z<;>cases z
 refine wpAny_unbindName_local v V W w λh' u L l=>?_;have r:∀ b o,X.s₀.heap.get? b=aA o->b≠X.env.locals:=λb o e=>YG (YW (YD e) I.ok.above);refine h _ ⟨f.ok,f.os,f.bare,⟨λb o e n O x=>(l.2 b (r b o e)).trans (f.base.keep b o e n O x),λb o e n O x=>?_,f.base.free,λb o e x=>?_,f.base.tups,f.base.frzs,f.base.tbls⟩,⟨_,L,λj y Y t C Z=>?_⟩,λy c e=>?_,f.free,f.freeC,λp hp=>?_,λa ob e=>?_,by rw[YZ];exact I.len⟩
 ·obtain⟨sl,t⟩:=f.base.slot b o e n O x;exact⟨sl,(l.2 b (r b o e)).trans t⟩
 ·obtain⟨o',t⟩:=f.base.there b o e x;exact⟨o',(l.2 b (r b o e)).trans t⟩
 ·by_cases D:j=i
  ·subst D;rw[YV g]at C;cases C
  ·rw[Yq (Ne.symm D)]at C;obtain⟨u',r',q⟩:=S j y Y t (by rw[Yq (Ne.symm D)];exact C) Z;refine⟨u',r',?_⟩;rcases q with⟨k,e⟩ | ⟨k,c,e,z⟩
   ·refine .inl ⟨k,?_⟩;have:y≠n:=λe=>D (Dm P t (e▸B));simp[this,e]
   ·exact .inr ⟨k,c,e,z.sameBut l (f.cne y c e)⟩
 ·obtain⟨T,z⟩:=f.cell y c e;exact⟨T,z.sameBut l (f.cne y c e)⟩
 ·obtain⟨e,n,U,nf,d⟩:=f.pin p hp;exact⟨(l.2 p.1 U).trans e,n,U,nf,d⟩
 ·refine(f.hok a ob e).stay (λc T F q=>(l.2 c ?_).trans q) (λ_ q=>q) λ_ _ q=>q;rintro rfl;rcases F with rfl | F
  ·rw[f.free]at e;cases e
  ·rw[f.free]at F;cases F
abbrev Cx.held(X:Cx)(x:A1G):Cx:={X with A:=X.A.mark (aA (.ref x)),calm:=aD,xe:=λ_ _=>False}
def Inv.held(I:Inv X pq σ H s)(x:A1G):Inv (X.held x) pq σ H s:=
 ⟨⟨I.ok.mod,I.ok.kind,I.ok.glob,I.ok.blt,I.ok.above,I.ok.inj,I.ok.has,I.ok.cab,(λz=>nomatch z),I.ok.frames,I.ok.stk,I.ok.exf,I.ok.bs,I.ok.bsz,I.ok.noex,I.ok.exfs,I.ok.funs,I.ok.frf⟩,I.os,I.bare,I.base,I.loc,I.cell,I.free,I.freeC,I.pin,I.hok,I.len⟩
def Inv.unheld{x:A1G}(a:X.Ok)(I:Inv (X.held x) pq σ H s):Inv X pq σ H s:=⟨a,I.os,I.bare,I.base,I.loc,I.cell,I.free,I.freeC,I.pin,I.hok,I.len⟩
def Ni(K:Y2)(C D:A1G):Prop:=∀ h:Heap,K.In h->∃ bm N nm q bs hdct sn sub ab col dd k0 k1 k2 k3 k5 a,h.get? C=aA (A2M nm q C N bs bm hdct sn sub ab col dd k0 k1 k2 k3 k5 a)/\(Value.ref C::bm).contains (.ref D)=aC
end
open PySem PySem.Spec PyProof.Rows PySem.W PySem.Builtin PySem.Builtin.ObjectAttr PySem.Builtin.Getset_descriptor
section
variable{prog:A1L}{w:A1N}{A:A1Q}{E:A1E->A1F->Prop}{s:A1F}{K:Y2}{x D:A1G}{ox:Obj}
def FA{M:Model}{h:Heap}(a:h.get? x=aA ox)(b:ox.cls = .ref D):Looks M h (typeOf (.ref x)) (.ref D):=b▸(Looks.ld a).andThen .now
def Ii{R:Result->A1F->Prop}{a:A1E}(X:K.In s.heap)(b:s.heap.get? x=aA ox)(c:ox.cls = .ref D)(d:mroIn K D (.type "object")=aA aC)
 (h:R (.ok (.ret (.ref D))) s):codeAny (A1K prog w) A (.call (.builtin "getset_descriptor.__get__") ⟨[.builtin "object.__class__",.ref x,a],[]⟩) R s:=by
 obtain⟨e,g,f,t,i⟩:=s;have j:=FA (M:=A1K prog w) b c;have k:=looks_mroIn (M:=A1K prog w) X d;refine A2x KF.slot_gs.plain KF.entry_gs (KF.slot_gs.check _ _ _ _ _ _ _ _ KF.type_class (KF.args_gs _ _ _) ?_);unfold Builtin.«getset_descriptor.__get__» descrGet;rw[dga_obj];refine A1D (A1H ?_);unfold descrGetter descrCheckInstance descrNameAndClass A3C;simp only[KF.owner_class]
 repeat lk
 refine⟨Code.quiet_builtin _ (by decide +kernel),A1U KF.entry_class ?_⟩;unfold Builtin.«object.__class__» shownTypeOf
 repeat lk
 exact h
def Ll{e:Tok}{Q:Fin->A1F->Prop}(X:K.In s.heap)(b:s.heap.get? x=aA ox)(c:ox.cls = .ref D)(f:mroIn K D (.type "object")=aA aC)(a:findIn K (.ref D) "__class__"=aA (aA (.builtin "object.__class__")))
 (i:Q (.done (.ret (.ref D))) s):A1J (A1K prog w) A (Builtin.«object.__getattribute__» ⟨[.ref x,.str "__class__" e],[]⟩) Q E s:=by
 obtain⟨h,g,d,t,j⟩:=s;have k:=looks_findIn (M:=A1K prog w) X a;have l:=F.typeOf_object_class;have m:=F.slot_gs_get.lookup;have n:=F.slot_gs_set.lookup
 repeat (any_goals (first | assumption | (with_reducible refine A2t b ?_;rw[c]) | with_reducible refine k.at ?_ | wp_step))
 refine Ii (s:=⟨h,g,d,t,j⟩) X b c f ?_;exact A1H i
def Lm{M:Model}{a:A1E}{Q:Unit->A1F->Prop}(X:K.In s.heap)(e:s.heap.get? x=aA ox)(f:ox.cls = .ref D)(c:mroIn K D (.type "BaseException")=aA aC)(i:Q () s):
 A1J M A (A39 "BaseException.__getattribute__" ⟨[.ref x,a],[]⟩) Q E s:=by
 obtain⟨h,g,d,t,l⟩:=s;have j:builtinKind "BaseException.__getattribute__"=aA .slot:=by decide +kernel
 have b:splitId "BaseException.__getattribute__"=aA ("BaseException","__getattribute__"):=by decide +kernel
 have k:=looks_mroIn (M:=M) X c;have m:=F.args_bexc_ga (.ref x) a;simp only[A39,j,b];refine A1D ?_
 ·unfold A3C
  repeat (first | (with_reducible refine A2t e ?_;rw[f]) | with_reducible refine k.at ?_ | wp_step)
  exact i
def UR{m:Tok}{a:Bool}{Q:A1E->A1F->Prop}(X:K.In s.heap)(b:s.heap.get? x=aA ox)(c:ox.cls = .ref D)(n:mroIn K D (.type "object")=aA aC)(e:mroIn K D (.type "BaseException")=aA aC)(f:findIn K (.ref D) "__class__"=aA (aA (.builtin "object.__class__")))
 (i:findIn K (.ref D) "__getattribute__"=aA (aA (.builtin "BaseException.__getattribute__"))) (j:findIn K (.ref D) "__getattr__"=aA aB) (r:Q (.ref D) s):
 A1J (A1K prog w) A (getAttrBy (.ref x) (.str "__class__" m) a aD) Q E s:=by
 obtain⟨h,g,d,t,l⟩:=s;have u:=PySem.F.attr_ValueError.ga.bind (.ref x);have k:(Value.builtin "BaseException.__getattribute__" == Value.builtin "object.__getattribute__")=aD:=by decide +kernel
 have o:(onTheHeap (Value.ref D)&&Value.builtin "BaseException.__getattribute__" == Value.builtin "object.__getattribute__")=aD:=by rw[k];rfl
 have p:=looks_findIn (M:=A1K prog w) X i;have q:=looks_findIn (M:=A1K prog w) X j
 repeat (any_goals (first | assumption | (with_reducible refine A2t b ?_;rw[c]) | with_reducible refine p.at ?_ | with_reducible refine q.at ?_ | wp_step))
 refine A2x PySem.F.attr_ValueError.ga.plain F.entry_bexc_ga (Lm (s:=⟨h,g,d,t,l⟩) X b c e (Ll (s:=⟨h,g,d,t,l⟩) X b c n f ?_))
 repeat (any_goals (first | assumption | wp_step))
def Nj{Q:Option A1E->A1F->Prop}(X:K.In s.heap)(f:s.heap.get? x=aA ox)(i:ox.cls = .ref D)(j:mroIn K D (.type "object")=aA aC)(a:mroIn K D (.type "BaseException")=aA aC)(b:findIn K (.ref D) "__class__"=aA (aA (.builtin "object.__class__")))
 (c:findIn K (.ref D) "__getattribute__"=aA (aA (.builtin "BaseException.__getattribute__"))) (e:findIn K (.ref D) "__getattr__"=aA aB) (k:Q (aA (.ref D)) {s with toks:=s.toks+1}):
 A1J (A1K prog w) A (getAttr? (.ref x) "__class__") Q E s:=by
 obtain⟨h,g,d,t,l⟩:=s;unfold getAttr? getAttrBy?;refine A1D (wpAny_mkText (A1D (A2K (UR (s:=⟨h,g,d,t+1,l⟩) X f i j a b c e ?_))));exact A1H k
end
structure ExcT(K:Y2)(D:A1G):Prop where
 cl:(PySem.W.clsIn K D).isSome=aC
 obj:PySem.W.mroIn K D (.type "object")=aA aC
 bas:PySem.W.mroIn K D (.type "BaseException")=aA aC
 get:PySem.W.findIn K (.ref D) "__class__"=aA (aA (.builtin "object.__class__"))
 gat:PySem.W.findIn K (.ref D) "__getattribute__"=aA (aA (.builtin "BaseException.__getattribute__"))
 gno:PySem.W.findIn K (.ref D) "__getattr__"=aA aB
def Gv{K:Y2}{C:A1G}(h:(PySem.W.clsIn K C).isSome=aC):∃ o c,K.lookup C=aA o/\o.data = .cls c:=by
 unfold PySem.W.clsIn at h;cases hl:K.lookup C with
 | none=>rw[hl]at h;cases h
 | some o=>
   rw[hl]at h;obtain⟨k,d,a,s⟩:=o;cases a with
   | cls c=>exact⟨_,c,rfl,rfl⟩
   | _=>cases h
def Nk{K:Y2}{x D:A1G}(T:ExcT K D):PySem.W.KitX K (.ref x) (.ref D) (λh=>∃ o,h.get? x=aA o/\o.cls = .ref D) where
 ty:=λ_ _ _ ⟨o,b,a⟩=>FA b a
 it:=λ_ _ X _=>by
  obtain⟨o,c,d,a⟩:=Gv T.cl;intro j l m p k q;unfold isType loadHead;refine A1D (wpAny_loadPart (k _ _ (X _ _ d)) (A1H ?_));rw[a];exact q
 ne:=λh g r i n s X f=>by
  obtain⟨o,c,d,a⟩:=Gv T.cl;refine A18.mpr λq=>?_;have e:D=g:=Value.ref.inj (bQ.mp q);subst e;have z:=(X _ _ d).symm.trans f;cases z;cases a
 ca:=λX ⟨o,b,a⟩ k=>Nj X b a T.obj T.bas T.get T.gat T.gno k
noncomputable def WZ:V->Option A1E
 | .ref C=>aA (.ref C)
 | .ty T=>aA (.type T)
 | _=>aB
def Nl{c:V}{u v:A1E}(h:WZ c=aA u)(r:RelV c v):v=u:=by
 cases c with
 | ref C=>cases h;exact r
 | ty T=>cases h;exact r
 | _=>cases h
section
variable{X:Cx}
inductive Got(X:Cx)(H:Hp):V->A1E->Prop where
 | no:Got X H .non (.type "NoneType")
 | yes {x D:A1G} (e:H x=aA (ExcO x (.ref D))) (t:ExcT X.K D):Got X H (.ref x) (.ref D)
def FB:CallR X (.builtin "isinstance") (λf H Q=>∃(x c:V) (t u:A1E) (b:Bool),f=[x,c]/\Got X H x t/\WZ c=aA u/\PySem.W.kitOne X.K t u=aA b/\Q (.bl b) H):=by
 intro n s p H f v Q I r h;obtain⟨x,c,t,u,b,rfl,g,j,e,q⟩:=h;obtain⟨y,A,rfl,i,k⟩:=Vals.two r;have:=Nl j k;subst this;cases g with
 | no=>exact Ev I i .non e λa=>⟨.bl b,H,I.tok a,rfl,q⟩
 | @yes x D l T=>
   cases i;obtain⟨⟨o,m,d⟩,_⟩:=(show ObjOk X.prog X.w H s.heap x (ExcO x (.ref D)) from I.hok x _ l)
   exact PySem.W.kia_one (Nk T) I.kIn ⟨o,m,d⟩ e (λz=>nomatch z) λa=>⟨.bl b,H,I.tok a,rfl,q⟩
end
abbrev bmVE:List A1E:=[.type "ValueError",.type "Exception",.type "BaseException",.type "object"]
def Jx{K:Y2}{C:A1G}(q:PySem.W.excIn K C bmVE "ValueError.__new__"=aC):
 ∀ h:Heap,K.In h->(∃ d N nm q r c s a t b u g i j k m B,h.get? C=aA (A2M nm q C N r d c s a t b u g i j k m "ValueError.__new__")/\h.Ns N B/\B "__init__"=aB/\OwnTail h [.type "ValueError",.type "Exception",.type "BaseException",.type "object"] d)/\∀ D:A1G,PySem.W.mroIn K C (.ref D)=aA aC->∃ d N nm q r c s a t b u g i j k m o,h.get? C=aA (A2M nm q C N r d c s a t b u g i j k m o)/\(Value.ref C::d).contains (.ref D)=aC:=by
 intro h X;unfold PySem.W.excIn at q;split at q
 ·rename_i u L E x;split at q
  ·rename_i F d g i j k n m y G;simp only[Y3,bQ,YS]at q;obtain⟨⟨⟨⟨⟨rfl,rfl⟩,f⟩,M⟩,p⟩,w⟩:=q
   have z:∀ v:A1E,PySem.W.mroIn K F v=aA aC->(Value.ref F::d).contains v=aC:=λv e=>by
    unfold PySem.W.mroIn PySem.W.clsIn at e;rw[x]at e;simp only[A05]at e;split at e
    ·cases e
    ·rw[y]at e;exact oj e
   obtain⟨nm,r,O,H,I,J,s,a,t,b,P⟩:=L;dsimp only at y f p w;subst y f
   have A:E=#[g,i,j,k,aA (.builtin "ValueError.__new__"),m]:=by
    obtain⟨l⟩:=E;simp only at G;rw[G]
   subst A;exact⟨⟨d,H,nm,I,r,J,s,a,t,b,u,g,i,j,k,m,_,X _ _ x,.of_isNs (PySem.W.isNs_of_in X p),PySem.W.nsMap_none_of_in X p w,PySem.W.tail_of_in X M⟩,λD e=>⟨d,H,nm,I,r,J,s,a,t,b,u,g,i,j,k,m,_,X _ _ x,z _ e⟩⟩
  ·cases q
 ·cases q
def Qh{K:Y2}{a:Str->Option A1E}{x:Str}{C:A1G}(b:a x=aA (.ref C))(q:PySem.W.excIn K C bmVE "ValueError.__new__"=aC):ExcC K a x C:=⟨b,λh X=>(Jx q h X).1⟩
def Ln{K:Y2}{C D:A1G}(q:PySem.W.excIn K C bmVE "ValueError.__new__"=aC)(m:PySem.W.mroIn K C (.ref D)=aA aC):Ni K C D:=λh X=>(Jx q h X).2 D m
section
variable{X:Cx}{pq:List (A1G×Obj)}{σ:St}{H:Hp}{s:A1F}
abbrev Cx.inTry(X:Cx)(b:List (A1G×Obj))(E:XK):Cx:={X with pn:=X.pn++b,xe:=λe c=>∃(σ:St) (H:Hp) (d:Heap) (a:A1G) (C:A1E),e = .ref a/\Inv X b σ H c/\Since X b d/\Xt d c.heap H a C/\E C aB H}
def Inv.inTry(I:Inv X pq σ H s)(E:XK):Inv (X.inTry pq E) [] σ H s:=
 ⟨⟨I.ok.mod,I.ok.kind,I.ok.glob,I.ok.blt,I.ok.above,I.ok.inj,I.ok.has,I.ok.cab,I.ok.hd,I.ok.frames,I.ok.stk,I.ok.exf,I.ok.bs,I.ok.bsz,I.ok.noex,I.ok.exfs,I.ok.funs,I.ok.frf⟩,I.os,I.bare,I.base,I.loc,I.cell,I.free,I.freeC,λp a=>I.pin p (by simpa using a),I.hok,I.len⟩
def Inv.outTry{ps:List (A1G×Obj)}{E:XK}(I:Inv (X.inTry pq E) ps σ H s):Inv X pq σ H s:=
 ⟨⟨I.ok.mod,I.ok.kind,I.ok.glob,I.ok.blt,I.ok.above,I.ok.inj,I.ok.has,I.ok.cab,I.ok.hd,I.ok.frames,I.ok.stk,I.ok.exf,I.ok.bs,I.ok.bsz,I.ok.noex,I.ok.exfs,I.ok.funs,I.ok.frf⟩,I.os,I.bare,I.base,I.loc,I.cell,I.free,I.freeC,λp a=>I.pin p (ZG _ a),I.hok,I.len⟩
def Gx{E:XK}:CatchT (X.inTry pq E) E:=λe σ H s a x C I S b c=>⟨σ,H,a,x,C,rfl,I.outTry,⟨S.old,λp d=>S.pin p (ZG _ d)⟩,b,c⟩
def SP.outTry{E:XK}{D:Ends}{f:Flow}{g:A1F}(h:SP (X.inTry pq E) [] D f g):SP X pq D f g:=by
 cases f with
 | next=>obtain⟨d,e,I,q⟩:=h;exact⟨d,e,I.outTry,q⟩
 | ret v=>obtain⟨a,b,c,I,q⟩:=h;exact⟨a,b,c,I.outTry,q⟩
 | brk=>obtain⟨d,e,I,q⟩:=h;exact⟨d,e,I.outTry,q⟩
 | cont=>obtain⟨d,e,I,q⟩:=h;exact⟨d,e,I.outTry,q⟩
structure Top(X:Cx):Prop where
 st:X.stack=X.env::X.outer
 fr:X.env.frame=aA X.env.locals
 ex:X.ex=[]
 fn:∀ x,X.fn x=aC
def Top.inTry(T:Top X)(a:List (A1G×Obj))(E:XK):Top (X.inTry a E):=⟨T.st,T.fr,T.ex,T.fn⟩
def Qi{i j:Nat}{M n m:Str}{Dc:A1G}{ts:XK->TS}{a:List Stmt}{V o W np b pos:Pos}(T:Top X)(hD:ExcC X.K X.mg M Dc)(Y:Gl X M)(Z:X.N.Nodup)(O:X.N[i]?=aA n)(P:X.env.scope.names.lookup n=aA .local)
 (hj:X.N[j]?=aA m) (u:X.env.scope.names.lookup m=aA .local) (hs:∀ pq E,PSs (X.inTry pq E) a (ts E)) (a1:(M == ("__debug__":Str))=aD) (a2:(n == ("__debug__":Str))=aD) (a3:(n == ("__classdict__":Str))=aD):
 PS X (.Try a [.ExceptHandler (aA (.Name M np)) (aA n) [.Assign [.Name m V] (.Name n o) W] b] [] [] pos) (λD σ H=>∃ E:XK,(∀ C B,E C aB B->∃ Ca,C = .ref Ca/\Ni X.K Ca Dc/\∀ x,B x=aB->∀ c:St,c.length=X.N.length->
  D.nx (((c.set i (aA (.ref x))).set j (aA (.ref x))).set i aB) (upd B x (ExcO x C)))/\ts E D σ H):=by
 intro pq s σ H D I ⟨E,hE,h⟩;have p:=T.st;have k:=T.fr;refine A3L (A23 (hs pq E [] s σ H D (I.inTry E) h) (λf s1 q=>?_) λe s1 q=>?_)
 ·have q:=q.outTry;cases f with
  | next=>exact A2p q
  | _=>exact q
 ·obtain⟨c,H',h0,y,Cy,rfl,I',S,xt,a4⟩:=q;obtain⟨Ca,rfl,U,a5⟩:=hE _ _ a4;refine UP I' p k T.ex T.fn S xt λQ R G=>?_;refine wpAny_handleBy_cons (codeAny_handlers_test (DT (X:=X.held y) (R.held y) Y hD.bound ?_ a1)) (by intro q;cases q);obtain⟨bm,N,nm,q,bs,b5,sn,b9,ab,c0,dd,k0,k1,k2,k3,k5,a6,hC,a7⟩:=U Q.heap R.kIn;obtain⟨a8,N',c1,q',c2,a9,c3,b6,c4,b7,c5,l0,l1,l2,l3,l5,mN,b0,_,_,T'⟩:=hD.obj Q.heap R.kIn;obtain⟨oe,vs,a0,_,_,_,hx,J,_⟩:=id G.obj;have t:a8.contains (.type "BaseException")=aC:=T'.hasType PySem.F.excBase_ValueError.hasBase
  have b1:codeAny (A1K X.prog X.w) (X.A.mark (aA (.ref y))) (.handlers (.ref y) [.ExceptHandler aB (aA n) [.Assign [.Name m V] (.Name n o) W] b] X.env) (λr l=>match r with
   | .ok f=>A1J (A1K X.prog X.w) X.A (do A3q X.env n .none;A2N X.env n b) (λ_ L=>SP X pq D f L) X.xe l
   | .error x=>cameBackBy (A1K X.prog X.w) X.A X.env X.xe x l) Q:=by
   refine codeAny_handlers_suite_as (UQ (A:=X.A.mark _) R p k T.ex T.fn S G λs4 I4 b2=>?_);refine BG (I4.track p k T.ex S b2) Z O (.inl P) (show RelV (.ref y) (.ref y) from rfl) (λs5 I5=>?_) (.inr P);have b3:i<c.length:=by rw[I'.len];exact(gM O).1
   have asg:PSs (X.held y) [.Assign [.Name m V] (.Name n o) W] _:=QK (N5 (i:=j) Z hj (.inl u) (pv (X:=X.held y) (i:=i) (x:=n) O (.inl P) a2 a3) (by rfl) (.inr u));refine A23 (asg pq s5 _ _ {nx:=λb4 B=>D.nx (b4.set i aB) B,rt:=λ_ _=>False} (I5.held y) ⟨.ref y,YV b3,a5 y xt.free c I'.len⟩) (λf s6 q=>?_) λ_ _ z=>False.elim z;cases f with
   | next=>
     obtain⟨b8,c6,I6,q⟩:=q;exact Lk (I6.unheld I.ok) Z O P λs7 I7=>⟨_,_,I7,q⟩
   | ret v=>obtain⟨_,_,_,_,_,q⟩:=q;exact False.elim q
   | brk=>obtain⟨_,_,_,q⟩:=q;exact False.elim q
   | cont=>obtain⟨_,_,_,q⟩:=q;exact False.elim q
  obtain⟨hh,g,d,tk,os⟩:=Q;exact Em hC b0 hx J a7 t b1
end
end L2
namespace Rf
open PySem L2
inductive TyN where
 | int | bool | str | list | tuple | none
 deriving DecidableEq
def TyN.nm:TyN->String
 | .int=>"int" | .bool=>"bool" | .str=>"str" | .list=>"list" | .tuple=>"tuple" | .none=>"NoneType"
structure XCls where
 ad:A1G
 un:List A1G
 tb:List (Str×A1G×Bool)
 deriving DecidableEq
inductive SV where
 | non | bl (b:Bool) | int (i:Int) | str (x:Str) | tup (xs:List SV) | loc (k:Nat) | ro (xs:List SV) | ty (t:TyN) | exc (c:XCls)
inductive SO where
 | lst (xs:List SV)
 | iset (ms:List Int)
 | dtp (kvs:List ((Int×Int)×Int)) | dtl (kvs:List (List Int×SV)) | dtf (o:Obj) (us:List (List Key×V)) (kvs:List (List Int×SV)) | dct (kvs:List (Int×SV)) | dcf (o:Obj) (ks:List (Key×V)) (kvs:List (Int×SV)) | tbl (x:Str) (lp:Pos)
abbrev Sto:=List SO
abbrev EnvS:=List (Option SV)
def FzL(K:Y2)(H:Hp)(a:A1G)(vs:List V):Prop:=(∃ o,H a=aA (.frz o (.lst vs)))\/
 ∃(o:Obj) (b:Array A1E) (n:Nat),K.lookup a=aA o/\o.cls = .type "list"/\o.dict=aB/\o.data = .seq b n/\b.size<=A1M/\Vals vs b.toList
def FzL.sq{K:Y2}{H:Hp}{a:A1G}{vs:List V}(h:FzL K H a vs):SqL K H a vs:=h.imp (λ⟨o,e⟩ => .inr ⟨o,e⟩) id
structure ClsK(K:Y2)(c:XCls):Prop where
 t:ExcT K c.ad
 x:PySem.W.excIn K c.ad bmVE "ValueError.__new__"=aC
 un:∀ D∈c.un,PySem.W.mroIn K c.ad (.ref D)=aA aC
 nv:PySem.W.nsIn K A1I "ValueError"=aA aB
 kv:PySem.W.kitOne K (.ref c.ad) (.type "ValueError")=aA aC
 tb:∀ p∈c.tb,PySem.W.nsIn K A1I p.1=aA (aA (.ref p.2.1))/\PySem.W.kitOne K (.ref c.ad) (.ref p.2.1)=aA p.2.2
mutual
noncomputable def Rl(K:Y2)(as:List A1G)(H:Hp):V->SV->Prop
 | v,.non=>v = .non
 | v,.bl b=>v = .bl b
 | v,.int i=>v = .int i
 | v,.str x=>v = .str x
 | v,.tup xs=>∃ p vs,v = .ref p/\H p=aA (.tup vs)/\RlAll K as H vs xs
 | v,.loc k=>∃ a,as[k]?=aA a/\v = .ref a
 | v,.ro xs=>∃ a vs,v = .ref a/\FzL K H a vs/\RlAll K as H vs xs
 | v,.ty t=>v = .ty t.nm
 | v,.exc c=>∃ a,v = .ref a/\H a=aA (ExcO a (.ref c.ad))/\ClsK K c
noncomputable def RlAll(K:Y2)(as:List A1G)(H:Hp):List V->List SV->Prop
 | vs,[]=>vs=[]
 | vs,x::xs=>∃ v r,vs=v::r/\Rl K as H v x/\RlAll K as H r xs
end
noncomputable def imm:HO->Bool
 | .tup _=>aC
 | .frz _ (.lst _)=>aC
 | .ext _=>aC
 | _=>aD
def KeepU(H a:Hp):Prop:=∀ b o,H b=aA o->imm o=aC->a b=aA o
def KeepU.refl(H:Hp):KeepU H H:=λ_ _ h _=>h
def KeepU.trans{H d c:Hp}(a:KeepU H d)(b:KeepU d c):KeepU H c:=λx o h i=>b x o (a x o h i) i
def BL{H:Hp}{p:A1G}{o:HO}(a:H p=aB):KeepU H (upd H p o):=λb u h _=>by
 rw[i9 (i8 h a)];exact h
def Cz{H:Hp}{a:A1G}{u o:HO}(h:H a=aA u)(i:imm u=aD):KeepU H (upd H a o):=λb v c d=>by
 rw[i9 (Mt c h (by intro z;rw[z,i]at d;cases d))];exact c
def FzL.mono{K:Y2}{H b:Hp}{a:A1G}{vs:List V}(k:KeepU H b)(h:FzL K H a vs):FzL K b a vs:=h.imp (λ⟨o,e⟩=>⟨o,k _ _ e rfl⟩) id
def BR{α:Type}{as b:List α}(h:as <+: b){k:Nat}{a:α}(e:as[k]?=aA a):b[k]?=aA a:=by
 obtain⟨t,rfl⟩:=h;rw[YM ((gM e).1)];exact e
mutual
theorem Rl.mono{K:Y2}{as b:List A1G}{H l:Hp}(g:as <+: b)(d:KeepU H l):∀(x:SV) (v:V),Rl K as H v x->Rl K b l v x
 | .non,v,h=>by unfold Rl at h ⊢;exact h
 | .bl _,v,h=>by unfold Rl at h ⊢;exact h
 | .int _,v,h=>by unfold Rl at h ⊢;exact h
 | .str _,v,h=>by unfold Rl at h ⊢;exact h
 | .tup i,v,h=>by
   unfold Rl at h ⊢;obtain⟨p,f,e,j,h⟩:=h;exact⟨p,f,e,d p _ j rfl,RlAll.mono g d i f h⟩
 | .ro i,v,h=>by
   unfold Rl at h ⊢;obtain⟨p,f,e,j,h⟩:=h;exact⟨p,f,e,j.mono d,RlAll.mono g d i f h⟩
 | .ty _,v,h=>by unfold Rl at h ⊢;exact h
 | .exc c,v,h=>by
   unfold Rl at h ⊢;obtain⟨a,e,z,q⟩:=h;exact⟨a,e,d a _ z rfl,q⟩
 | .loc k,v,h=>by
   unfold Rl at h ⊢;obtain⟨a,e,z⟩:=h;exact⟨a,BR g e,z⟩
theorem RlAll.mono{K:Y2}{as a:List A1G}{H b:Hp}(c:as <+: a)(d:KeepU H b):∀(xs:List SV) (vs:List V),RlAll K as H vs xs->RlAll K a b vs xs
 | [],vs,h=>by unfold RlAll at h ⊢;exact h
 | x::xs,vs,h=>by
   unfold RlAll at h ⊢;obtain⟨v,r,e,f,g⟩:=h;exact⟨v,r,e,Rl.mono c d x v f,RlAll.mono c d xs r g⟩
end
section
variable{K:Y2}{as:List A1G}{H:Hp}
def rl_non{v:V}:Rl K as H v .non↔v = .non:=by unfold Rl;exact Iff.rfl
def rl_bl{v:V}{b:Bool}:Rl K as H v (.bl b)↔v = .bl b:=by unfold Rl;exact Iff.rfl
def rl_int{v:V}{i:Int}:Rl K as H v (.int i)↔v = .int i:=by unfold Rl;exact Iff.rfl
def rl_str{v:V}{x:Str}:Rl K as H v (.str x)↔v = .str x:=by unfold Rl;exact Iff.rfl
def rl_tup{v:V}{xs:List SV}:Rl K as H v (.tup xs)↔∃ p a,v = .ref p/\H p=aA (.tup a)/\RlAll K as H a xs:=by rw[Rl]
def rl_loc{v:V}{k:Nat}:Rl K as H v (.loc k)↔∃ a,as[k]?=aA a/\v = .ref a:=by unfold Rl;exact Iff.rfl
def rl_ro{v:V}{xs:List SV}:Rl K as H v (.ro xs)↔∃ a b,v = .ref a/\FzL K H a b/\RlAll K as H b xs:=by rw[Rl]
def rl_exc{v:V}{c:XCls}:Rl K as H v (.exc c)↔∃ a,v = .ref a/\H a=aA (ExcO a (.ref c.ad))/\ClsK K c:=by unfold Rl;exact Iff.rfl
def rl_ty{v:V}{n:TyN}:Rl K as H v (.ty n)↔v = .ty n.nm:=by unfold Rl;exact Iff.rfl
def rla_nil{vs:List V}:RlAll K as H vs []↔vs=[]:=by unfold RlAll;exact Iff.rfl
def rla_cons{vs:List V}{x:SV}{xs:List SV}:RlAll K as H vs (x::xs)↔∃ v r,vs=v::r/\Rl K as H v x/\RlAll K as H r xs:=by rw[RlAll]
def RlAll.nil:RlAll K as H [] []:=rla_nil.mpr rfl
def RlAll.cons{v:V}{x:SV}{vs:List V}{xs:List SV}(h:Rl K as H v x)(t:RlAll K as H vs xs):RlAll K as H (v::vs) (x::xs):=rla_cons.mpr ⟨v,vs,rfl,h,t⟩
theorem RlAll.length:∀{xs:List SV} {vs:List V},RlAll K as H vs xs->vs.length=xs.length
 | [],_,h=>by rw[rla_nil.mp h];rfl
 | x::xs,_,h=>by
   obtain⟨v,r,rfl,_,t⟩:=rla_cons.mp h;simp[t.length]
theorem RlAll.get:∀{xs:List SV} {vs:List V} {i:Nat} {x:SV},RlAll K as H vs xs->xs[i]?=aA x->∃ v,vs[i]?=aA v/\Rl K as H v x
 | [],_,i,_,_,e=>by simp at e
 | y::xs,_,0,_,h,e=>by
   obtain⟨v,r,rfl,a,_⟩:=rla_cons.mp h;simp at e;subst e;exact⟨v,rfl,a⟩
 | y::xs,_,i+1,_,h,e=>by
   obtain⟨v,r,rfl,_,t⟩:=rla_cons.mp h;simpa using t.get (by simpa using e)
theorem RlAll.append:∀{xs c:List SV} {vs d:List V},RlAll K as H vs xs->RlAll K as H d c->RlAll K as H (vs++d) (xs++c)
 | [],_,_,_,h,b=>by rw[rla_nil.mp h];exact b
 | x::xs,_,_,_,h,b=>by
   obtain⟨v,r,rfl,a,t⟩:=rla_cons.mp h;exact .cons a (t.append b)
theorem RlAll.take:∀{xs:List SV} {vs:List V} (n:Nat),RlAll K as H vs xs->RlAll K as H (vs.take n) (xs.take n)
 | _,_,0,_=>by simpa using RlAll.nil
 | [],_,n+1,h=>by rw[rla_nil.mp h];exact .nil
 | x::xs,_,n+1,h=>by
   obtain⟨v,r,rfl,a,t⟩:=rla_cons.mp h;exact .cons a (t.take n)
theorem RlAll.drop:∀{xs:List SV} {vs:List V} (n:Nat),RlAll K as H vs xs->RlAll K as H (vs.drop n) (xs.drop n)
 | _,_,0,h=>h
 | [],_,n+1,h=>by rw[rla_nil.mp h];exact .nil
 | x::xs,_,n+1,h=>by
   obtain⟨v,r,rfl,a,t⟩:=rla_cons.mp h;exact t.drop n
theorem RlAll.set{x:SV}{v:V}(b:Rl K as H v x):∀{xs:List SV} {vs:List V} (n:Nat),RlAll K as H vs xs->RlAll K as H (vs.set n v) (xs.set n x)
 | [],_,n,h=>by rw[rla_nil.mp h];exact .nil
 | y::xs,_,0,h=>by
   obtain⟨_,r,rfl,_,t⟩:=rla_cons.mp h;exact .cons b t
 | y::xs,_,n+1,h=>by
   obtain⟨_,r,rfl,a,t⟩:=rla_cons.mp h;exact .cons a (t.set b n)
theorem RlAll.rev:∀{xs:List SV} {vs:List V},RlAll K as H vs xs->RlAll K as H vs.reverse xs.reverse
 | [],_,h=>by rw[rla_nil.mp h];exact .nil
 | x::xs,_,h=>by
   obtain⟨v,r,rfl,a,t⟩:=rla_cons.mp h;rw[Zf,Zf];exact t.rev.append (.cons a .nil)
def RlAll.ins{x:SV}{v:V}(a:Rl K as H v x){xs:List SV}{vs:List V}(h:RlAll K as H vs xs)(n:Nat):RlAll K as H (vs.take n++v::vs.drop n) (xs.take n++x::xs.drop n):=(h.take n).append (.cons a (h.drop n))
def RlAll.ints{a:List Int}:RlAll K as H (a.map V.int) (a.map SV.int):=by
 induction a with
 | nil=>exact .nil
 | cons i a b=>exact .cons (rl_int.mpr rfl) b
end
noncomputable def RlD(K:Y2)(as:List A1G)(H:Hp):List (Key×V)->List (Int×SV)->Prop
 | a,[]=>a=[]
 | a,p::r=>∃ v t,a=(.inl p.1,v)::t/\Rl K as H v p.2/\RlD K as H t r
theorem RlD.mono{K:Y2}{as a:List A1G}{H c:Hp}(d:as <+: a)(f:KeepU H c):∀(b:List (Int×SV)) (g:List (Key×V)),RlD K as H g b->RlD K a c g b
 | [],_,h=>h
 | p::r,_,⟨v,t,e,i,j⟩=>⟨v,t,e,Rl.mono d f p.2 v i,RlD.mono d f r t j⟩
noncomputable def RlT(K:Y2)(as:List A1G)(H:Hp):List (List Key×V)->List (List Int×SV)->Prop
 | a,[]=>a=[]
 | a,p::r=>∃ v t,a=(p.1.map Sum.inl,v)::t/\Rl K as H v p.2/\RlT K as H t r
theorem RlT.mono{K:Y2}{as a:List A1G}{H c:Hp}(d:as <+: a)(f:KeepU H c):∀(b:List (List Int×SV)) (g:List (List Key×V)),RlT K as H g b->RlT K a c g b
 | [],_,h=>h
 | p::r,_,⟨v,t,e,i,j⟩=>⟨v,t,e,Rl.mono d f p.2 v i,RlT.mono d f r t j⟩
def dtV(a:List ((Int×Int)×Int)):List (List Key×V):=a.map λp=>([.inl p.1.1,.inl p.1.2],V.int p.2)
noncomputable def TabK(K:Y2)(x:Str)(c P:A1G):Prop:=PySem.W.tabIn K x=aA (c,P)/\PySem.W.codeHdIn K c P=aC
noncomputable abbrev Xi(x:Str):Str:=x++".<locals>."++"<lambda>"
noncomputable def RlO(K:Y2)(as:List A1G)(H:Hp)(a:A1G):SO->Prop
 | .lst xs=>∃ vs,H a=aA (.lst vs)/\RlAll K as H vs xs
 | .iset f=>∃ F,H a=aA (.set F f.length)/\∀ k,F k=decide (k∈f)
 | .dtp b=>H a=aA (.dT (dtV b))
 | .dtl b=>∃ d,H a=aA (.dT d)/\RlT K as H d b
 | .dtf o d b=>H a=aA (.frz o (.dT d))/\RlT K as H d b
 | .dct b=>∃ e,H a=aA (.dK e)/\RlD K as H e b
 | .dcf o e b=>H a=aA (.frz o (.dK e))/\RlD K as H e b
 | .tbl x g=>∃ c ps,H a=aA (.tbl ps)/\TabK K x c a/\WX H (Xi x) g ps
structure Ok(K:Y2)(as:List A1G)(H:Hp)(S:Sto):Prop where
 len:as.length=S.length
 nd:as.Nodup
 obj:∀(k:Nat) (o:SO) (a:A1G),S[k]?=aA o->as[k]?=aA a->RlO K as H a o
noncomputable def EnvOk(K:Y2)(as:List A1G)(H:Hp)(a:St)(b:EnvS):Prop:=a.length=b.length/\∀(i:Nat) (x:SV),b[i]?=aA (aA x)->∃ v,a[i]?=aA (aA v)/\Rl K as H v x
def EnvOk.mono{K:Y2}{as c:List A1G}{H d:Hp}{f:St}{g:EnvS}(h:EnvOk K as H f g)(j:as <+: c)(k:KeepU H d):EnvOk K c d f g:=⟨h.1,λi x e=>let ⟨v,a,b⟩:=h.2 i x e;⟨v,a,Rl.mono j k x v b⟩⟩
def EnvOk.set{K:Y2}{as:List A1G}{H:Hp}{c:St}{b:EnvS}(h:EnvOk K as H c b){i:Nat}{v:V}{x:SV}(f:Rl K as H v x):EnvOk K as H (c.set i (aA v)) (b.set i (aA x)):=⟨by rw[YZ,YZ];exact h.1,λj y e=>by
 by_cases a:i=j
 ·subst a;have d:i<b.length:=by have:=(gM e).1;rwa [YZ]at this
  rw[YV d]at e;rw[YV (by rw[h.1];exact d)];cases e;exact⟨v,rfl,f⟩
 ·rw[Yq a]at e ⊢;exact h.2 j y e⟩
section
variable{K:Y2}{as:List A1G}{H:Hp}{S:Sto}
def RlO.mono{h:List A1G}{l:Hp}{a:A1G}(i:as <+: h)(g:KeepU H l)(e:∀ u,H a=aA u->l a=aA u):∀{o:SO},RlO K as H a o->RlO K h l a o
 | .lst p,⟨m,d,f⟩=>⟨m,e _ d,RlAll.mono i g p m f⟩
 | .iset v,⟨F,d,f⟩=>⟨F,e _ d,f⟩
 | .dtp b,d=>e _ d
 | .dtl b,⟨j,d,f⟩=>⟨j,e _ d,RlT.mono i g b j f⟩
 | .dtf _ j b,⟨d,f⟩=>⟨e _ d,RlT.mono i g b j f⟩
 | .dct b,⟨k,d,f⟩=>⟨k,e _ d,RlD.mono i g b k f⟩
 | .dcf _ k b,⟨d,f⟩=>⟨e _ d,RlD.mono i g b k f⟩
 | .tbl x w,⟨c,q,d,f,n⟩=>⟨c,q,e _ d,f,n.1,n.2.imp id λ⟨r,s,t⟩=>⟨r,s,g _ _ t rfl⟩⟩
def RlO.some{a:A1G}:∀{o:SO},RlO K as H a o->∃ u,H a=aA u/\imm u=aD
 | .lst _,⟨_,h,_⟩=>⟨_,h,rfl⟩
 | .iset _,⟨_,h,_⟩=>⟨_,h,rfl⟩
 | .dtp _,h=>⟨_,h,rfl⟩
 | .dtl _,⟨_,h,_⟩=>⟨_,h,rfl⟩
 | .dtf _ _ _,⟨h,_⟩=>⟨_,h,rfl⟩
 | .dct _,⟨_,h,_⟩=>⟨_,h,rfl⟩
 | .dcf _ _ _,⟨h,_⟩=>⟨_,h,rfl⟩
 | .tbl _ _,⟨_,_,h,_⟩=>⟨_,h,rfl⟩
def Ok.at(h:Ok K as H S){k:Nat}{o:SO}(e:S[k]?=aA o):∃ a,as[k]?=aA a/\RlO K as H a o:=by
 have b:k<as.length:=by rw[h.len];exact(gM e).1
 exact⟨as[k],Y6 b,h.obj k o _ e (Y6 b)⟩
def Ok.of(h:Ok K as H S){k:Nat}{a:A1G}(e:as[k]?=aA a):∃ o,S[k]?=aA o/\RlO K as H a o:=by
 have b:k<S.length:=by rw[<-h.len];exact(gM e).1
 exact⟨S[k],Y6 b,h.obj k _ a (Y6 b) e⟩
def Ok.new(h:Ok K as H S){p:A1G}{o:HO}(b:H p=aB):Ok K as (upd H p o) S:=⟨h.len,h.nd,λk u a e c=>by
 have r:=h.obj k u a e c;obtain⟨z,d,_⟩:=r.some;exact r.mono (Yh as) (BL b) λg f=>by rw[i9 (i8 d b)];exact f⟩
def Ok.free(h:Ok K as H S){p:A1G}(b:H p=aB):p∉as:=λc=>by
 obtain⟨k,d⟩:=ZQ c;obtain⟨o,_,r⟩:=h.of d;obtain⟨z,a,_⟩:=r.some;rw[b]at a;cases a
def Ok.pushO(h:Ok K as H S){p:A1G}(g:H p=aB){u:HO}{x:SO}(r:RlO K (as++[p]) (upd H p u) p x):Ok K (as++[p]) (upd H p u) (S++[x]):=by
 have d:as <+: as++[p]:=ZU _ _;refine⟨by rw[Y5,Y5,h.len];rfl,?_,λk o a e c=>?_⟩
 ·rw[Zg];refine⟨h.nd,by simp,λa j b l=>?_⟩;rw[YK.mp l];intro z;subst z;exact h.free g j
 ·by_cases i:k<S.length
  ·rw[YM i]at e;rw[YM (by rw[h.len];exact i)]at c;exact((h.new (o:=u) g).obj k o a e c).mono d (KeepU.refl _) λ_ z=>z
  ·have f:k=S.length:=by
    have:=(gM e).1;rw[Y5,Yt]at this;omega
   subst f;rw[YY]at e;rw[<-h.len,YY]at c;cases e;cases c;exact r
def Ok.push(h:Ok K as H S){p:A1G}(a:H p=aB){vs:List V}{xs:List SV}(r:RlAll K as H vs xs):Ok K (as++[p]) (upd H p (.lst vs)) (S++[.lst xs]):=h.pushO a ⟨vs,n6,RlAll.mono (ZU _ _) (BL a) xs vs r⟩
def Ok.writeO(h:Ok K as H S){k:Nat}{a:A1G}{y x:SO}{u:HO}(e:S[k]?=aA y)(c:as[k]?=aA a)(r:KeepU H (upd H a u)->RlO K as (upd H a u) a x):Ok K as (upd H a u) (S.set k x)/\KeepU H (upd H a u):=by
 obtain⟨z,m,n⟩:=(h.obj k _ a e c).some;have g:KeepU H (upd H a u):=Cz m n;refine⟨⟨by rw[YZ];exact h.len,h.nd,λj o b d f=>?_⟩,g⟩;by_cases i:k=j
 ·subst i;rw[YV ((gM e).1)]at d;rw[c]at f;cases d;cases f;exact r g
 ·rw[Yq i]at d
  have l:b≠a:=λz=>by
   subst z;exact i ((A19 ((gM c).1) h.nd).mp (c.trans f.symm))
  exact(h.obj j o b d f).mono (Yh as) g λq p=>by rw[i9 l];exact p
def Ok.write(h:Ok K as H S){k:Nat}{a:A1G}{b xs:List SV}{vs:List V}(e:S[k]?=aA (.lst b))(c:as[k]?=aA a)(r:RlAll K as H vs xs):Ok K as (upd H a (.lst vs)) (S.set k (.lst xs))/\KeepU H (upd H a (.lst vs)):=h.writeO e c λd=>⟨vs,n6,RlAll.mono (Yh as) d xs vs r⟩
end
structure Go(as:List A1G)(H:Hp)(as':List A1G)(H':Hp):Prop where
 pre:as <+: as'
 keep:∀ b o,H b=aA o->b∉as->H' b=aA o/\b∉as'
def Go.refl(as:List A1G)(H:Hp):Go as H as H:=⟨Yh _,λ_ _ h n=>⟨h,n⟩⟩
def Go.trans{as c d:List A1G}{H e f:Hp}(a:Go as H c e)(b:Go c e d f):Go as H d f:=⟨a.pre.trans b.pre,λx o h n=>let ⟨g,i⟩:=a.keep x o h n;b.keep x o g i⟩
def Go.new{as:List A1G}{H:Hp}{p:A1G}{o:HO}(a:H p=aB):Go as H as (upd H p o):=⟨Yh _,λb u h n=>⟨by rw[i9 (i8 h a)];exact h,n⟩⟩
def Go.push{as:List A1G}{H:Hp}{p:A1G}{o:HO}(a:H p=aB):Go as H (as++[p]) (upd H p o):=⟨ZU _ _,λb u h n=>⟨by rw[i9 (i8 h a)];exact h,by
 rw[YT,YK];rintro(z | z)
 ·exact n z
 ·exact i8 h a z⟩⟩
def Go.write{as:List A1G}{H:Hp}{a:A1G}{o:HO}(c:a∈as):Go as H as (upd H a o):=⟨Yh _,λb u h n=>⟨by rw[i9 (λz=>n (by rw[z];exact c))];exact h,n⟩⟩
section
variable{K:Y2}{as as':List A1G}{H H':Hp}{S:Sto}
def Ok.away(h:Ok K as H S){b:A1G}{o:HO}(e:H b=aA o)(i:imm o=aC):b∉as:=λd=>by
 obtain⟨k,f⟩:=ZQ d;obtain⟨_,_,r⟩:=h.of f;obtain⟨z,a,c⟩:=r.some;rw[e]at a;cases a;rw[i]at c;cases c
def Go.ku(g:Go as H as' H')(a:Ok K as H S):KeepU H H':=λb o h i=>(g.keep b o h (a.away h i)).1
end
end Rf
namespace L2
open PySem PySem.Spec PyProof.Rows
open PySem.AutoSeq1 (wpAny_loadPart')
section
variable{X:Cx}
def Wa:A1P "any"=aA (.builtin "any"):=by decide +kernel
def Lo(B:X.calm=aC):CallR X (.builtin "any") (λx H Q=>∃(a:A1G) (bs:List Bool),x=[.ref a]/\SqL X.K H a (bs.map V.bl)/\Q (.bl (bs.any id)) H):=by
 intro C s D H x T Q I r h;obtain⟨a,bs,rfl,E,q⟩:=h;obtain⟨u,rfl,F⟩:=B2 r;cases F;obtain⟨c,y,l,U⟩:=I.list E;have z:=y.length;rw[Y4]at z;refine call_any_walk (A2d l.isList ?_);have m:a<s.heap.objs.size:=by obtain⟨o,n,e,_⟩:=l;exact YD e
 refine⟨s.heap.objs.size,_,_,_,_,_,λi=>bs.getD i aD,rfl,Walks.list (by exact I.ok.hd B) s.heap.objs.size a (YG m) c.toArray,⟨⟨_,YI _ rfl,rfl,rfl⟩,l.isList.push _⟩,?_,λG J L=>?_⟩
 ·intro i v M N W O p;have d:c[i]?=aA v:=by simpa using O
  have Y:i<c.length:=(gM d).1;have t:(bs.map V.bl)[i]?=aA (.bl (bs[i]'(by omega))):=by simp
  obtain⟨Z,A,w⟩:=y.get t;rw[d]at A;cases A;cases w;have P:bs.getD i aD=bs[i]'(by omega):=by simp[ZC,show i<bs.length by omega]
  have f:N (bs.getD i aD) M:=p;rw[P]at f;exact A1V f
 ·have R:Inv X C D H {s with heap:=G,toks:=J}:=I.kept λb o e=>L b o (by simp;exact YG (YD e)) (Y8 _ e);refine⟨.bl _,H,R,rfl,?_⟩
  have e:(YJ c.toArray.size).any (λi=>bs.getD i aD)=bs.any id:=by
   rw[YB,<-z,Yp,Z9,Z9];constructor
   ·rintro⟨j,k,e⟩;have g:j<bs.length:=YU.mp k;exact⟨bs[j],Z8 g,by simpa[ZC,g] using e⟩
   ·rintro⟨b,t,e⟩;obtain⟨j,k,S⟩:=ZJ.mp t;exact⟨j,YU.mpr k,by simpa[ZC,k,S] using e⟩
  rw[e];exact q
end
end L2
namespace Rf
open PySem L2
abbrev QE:=SV->Sto->Prop
abbrev WE:=EnvS->Sto->QE->Prop
abbrev WA:=EnvS->Sto->(List SV->Sto->Prop)->Prop
abbrev WT:=EnvS->Sto->(Bool->Sto->Prop)->Prop
noncomputable def Post(K:Y2)(as:List A1G)(H:Hp)(Q:VK):QE:=λx c=>∀ a b v,Go as H a b->Ok K a b c->Rl K a b v x->Q v b
noncomputable def Wc(K:Y2)(as:List A1G)(H:Hp)(Q:List V->Hp->Prop):List SV->Sto->Prop:=λxs c=>∀ a b vs,Go as H a b->Ok K a b c->RlAll K a b vs xs->Q vs b
def PostT(K:Y2)(as:List A1G)(H:Hp)(Q:Bool->Hp->Prop):Bool->Sto->Prop:=λb d=>∀ a c,Go as H a c->Ok K a c d->Q b c
noncomputable def lift(K:Y2)(w:WE):TE:=λb H Q=>∃ as a S,Ok K as H S/\EnvOk K as H b a/\w a S (Post K as H Q)
noncomputable def liftA(K:Y2)(w:WA):TA:=λb H Q=>∃ as a S,Ok K as H S/\EnvOk K as H b a/\w a S (Wc K as H Q)
noncomputable def liftT(K:Y2)(w:WT):TT:=λb H Q=>∃ as a S,Ok K as H S/\EnvOk K as H b a/\w a S (PostT K as H Q)
def Mono(w:WE):Prop:=∀ a S (P b:QE),(∀ x c,P x c->b x c)->w a S P->w a S b
def MonoA(w:WA):Prop:=∀ a S (P b:List SV->Sto->Prop),(∀ x c,P x c->b x c)->w a S P->w a S b
def MonoT(w:WT):Prop:=∀ a S (P b:Bool->Sto->Prop),(∀ x c,P x c->b x c)->w a S P->w a S b
def l7{X:Cx}{e:Expr}{t:TE}(t':TE)(h:PE X e t)(b:∀ a H Q,t' a H Q->t a H Q):PE X e t':=λc s a H Q I d=>h c s a H Q I (b a H Q d)
def Dv{X:Cx}{e:Expr}{t:TT}(t':TT)(h:PT X e t)(b:∀ a H Q,t' a H Q->t a H Q):PT X e t':=λc s a H Q I d=>h c s a H Q I (b a H Q d)
def Nm{X:Cx}{e:List Expr}{t:TA}(t':TA)(h:PA X e t)(b:∀ a H Q,t' a H Q->t a H Q):PA X e t':=λp c s a H Q I d=>h p c s a H Q I (b a H Q d)
section
variable{K:Y2}{as as1 as2:List A1G}{H H1 H2:Hp}
def Post.mono{Q:VK}{x:SV}{S:Sto}(h:Post K as H Q x S)(g:Go as H as1 H1):Post K as1 H1 Q x S:=λa b v c=>h a b v (g.trans c)
end
abbrev S2:=SV->SV->Sto->QE->Prop
abbrev S1:=SV->Sto->QE->Prop
abbrev Sn:=List SV->Sto->QE->Prop
def w2(s:S2)(a b:WE):WE:=λρ S Q=>a ρ S λx S1=>b ρ S1 λy S2=>s x y S2 Q
def w1(s:S1)(a:WE):WE:=λρ S Q=>a ρ S λx S1=>s x S1 Q
def wn(s:Sn)(a:WA):WE:=λρ S Q=>a ρ S λxs S1=>s xs S1 Q
def Mono2(s:S2):Prop:=∀ x y S (P a:QE),(∀ x b,P x b->a x b)->s x y S P->s x y S a
def Gy(s:S1):Prop:=∀ x S (P a:QE),(∀ x b,P x b->a x b)->s x S P->s x S a
def MonoN(s:Sn):Prop:=∀ x S (P a:QE),(∀ x b,P x b->a x b)->s x S P->s x S a
def Mono.two{s:S2}{a b:WE}(c:Mono2 s)(d:Mono a)(e:Mono b):Mono (w2 s a b):=λf S P g i h=>d _ _ _ _ (λ_ _ h=>e _ _ _ _ (λ_ _ h=>c _ _ _ _ _ i h) h) h
def Mono.one{s:S1}{a:WE}(b:Gy s)(c:Mono a):Mono (w1 s a):=λd S P e i h=>c _ _ _ _ (λ_ _ h=>b _ _ _ _ i h) h
def Mono.n{s:Sn}{a:WA}(b:MonoN s)(c:MonoA a):Mono (wn s a):=λd S P e i h=>c _ _ _ _ (λ_ _ h=>b _ _ _ _ i h) h
noncomputable def Bc(K:Y2)(s:S2)(r:R2):Prop:=∀ as H S x y v u Q,Ok K as H S->Rl K as H v x->Rl K as H u y->s x y S (Post K as H Q)->r v u H Q
noncomputable def Xj(K:Y2)(s:S1)(r:V->Hp->VK->Prop):Prop:=∀ as H S x v Q,Ok K as H S->Rl K as H v x->s x S (Post K as H Q)->r v H Q
noncomputable def Wd(K:Y2)(s:Sn)(r:List V->Hp->VK->Prop):Prop:=∀ as H S xs vs Q,Ok K as H S->RlAll K as H vs xs->s xs S (Post K as H Q)->r vs H Q
def BS{K:Y2}{s:S2}{r:R2}{wa wb:WE}(sim:Bc K s r)(ms:Mono2 s)(ma:Mono wa)(mb:Mono wb):∀ σ H Q,lift K (w2 s wa wb) σ H Q->tOp r (lift K wa) (lift K wb) σ H Q:=by
 rintro σ H Q ⟨as,ρ,S,ok,en,h⟩;refine⟨as,ρ,S,ok,en,ma _ _ _ _ (λx S1 hb as1 H1 v g1 ok1 rv=>?_) h⟩;refine⟨as1,ρ,S1,ok1,en.mono g1.pre (g1.ku ok),mb _ _ _ _ (λy S2 hs as2 H2 u g2 ok2 ru=>?_) hb⟩;exact sim as2 H2 S2 x y v u Q ok2 (Rl.mono g2.pre (g2.ku ok1) x v rv) ru (ms _ _ _ _ _ (λz S3 hz=>hz.mono (g1.trans g2)) hs)
def US{K:Y2}{s:S1}{r:V->Hp->VK->Prop}{wa:WE}(sim:Xj K s r)(ms:Gy s)(ma:Mono wa):∀ σ H Q,lift K (w1 s wa) σ H Q->tUn r (lift K wa) σ H Q:=by
 rintro σ H Q ⟨as,ρ,S,ok,en,h⟩;refine⟨as,ρ,S,ok,en,ma _ _ _ _ (λx S1 hs as1 H1 v g1 ok1 rv=>?_) h⟩;exact sim as1 H1 S1 x v Q ok1 rv (ms _ _ _ _ (λz S3 hz=>hz.mono g1) hs)
def We{K:Y2}{s:Sn}{r:List V->Hp->VK->Prop}{a:WA}(b:Wd K s r)(f:MonoN s)(g:MonoA a):∀ c H Q,lift K (wn s a) c H Q->tCB r (liftA K a) c H Q:=by
 rintro c H Q ⟨i,j,S,k,l,h⟩;refine⟨i,j,S,k,l,g _ _ _ _ (λx m n d o v p e q=>?_) h⟩;exact b d o m x v Q e q (f _ _ _ _ (λz u t=>t.mono p) n)
def FC:WA:=λ_ S Q=>Q [] S
def Dw(a:WE)(b:WA):WA:=λc S Q=>a c S λx d=>b c d λxs e=>Q (x::xs) e
def MonoA.nil:MonoA FC:=λ_ _ _ _ i h=>i _ _ h
def MonoA.cons{a:WE}{b:WA}(c:Mono a)(d:MonoA b):MonoA (Dw a b):=λ_ _ _ _ i h=>c _ _ _ _ (λ_ _ h=>d _ _ _ _ (λ_ _ h=>i _ _ h) h) h
def Qj{X:Cx}{K:Y2}:PA X [] (liftA K FC):=Nm _ B8 λc H Q ⟨a,d,S,b,e,h⟩=>h a H [] (Go.refl _ _) b .nil
def Nn{K:Y2}{a:WE}{b:WA}(n:Mono a)(o:MonoA b):∀ d H Q,liftA K (Dw a b) d H Q->GZ (lift K a) (liftA K b) d H Q:=by
 rintro d H Q ⟨p,k,S,l,m,h⟩;refine⟨p,k,S,l,m,n _ _ _ _ (λx q r e y v f c s=>?_) h⟩;refine⟨e,k,q,c,m.mono f.pre (f.ku l),o _ _ _ _ (λz A t g u B i j w=>?_) r⟩;exact t g u _ (f.trans i) j (.cons (Rl.mono i.pre (i.ku c) x v s) w)
def No{X:Cx}{K:Y2}{e:Expr}{es:List Expr}{a:WE}{b:WA}(c:Mono a)(d:MonoA b)(f:PE X e (lift K a))(g:PA X es (liftA K b))(h:A1O (e::es) X.env=(aD,eval e X.env)::A1O es X.env):PA X (e::es) (liftA K (Dw a b)):=Nm _ (y0 f g h) (Nn c d)
def UT(i:Nat):WE:=λa S Q=>∃ x,a[i]?=aA (aA x)/\Q x S
def wC(x:SV):WE:=λ_ S Q=>Q x S
def Mono.var{i:Nat}:Mono (UT i):=λ_ _ _ _ i ⟨x,a,b⟩=>⟨x,a,i _ _ b⟩
def Mono.c{x:SV}:Mono (wC x):=λ_ _ _ _ i h=>i _ _ h
def Qk{K:Y2}{i:Nat}:∀ a H Q,lift K (UT i) a H Q->Mv i a H Q:=λa H Q ⟨b,j,S,c,d,x,e,h⟩=>let ⟨v,f,g⟩:=d.2 i x e;⟨v,f,h b H v (Go.refl _ _) c g⟩
def Gz{K:Y2}{x:SV}{v:V}(c:∀ a H,Rl K a H v x):∀ b H Q,lift K (wC x) b H Q->tC v b H Q:=λb H Q ⟨a,e,S,d,f,h⟩=>h a H v (Go.refl _ _) d (c a H)
def big:Nat:=100000
def An{n:Nat}(h:n<=big):n<=A1M:=Yg h (by decide)
def Ff{n:Nat}(h:n<big):n<A1M:=YW h (by decide)
def Ql:Sn:=λxs S Q=>xs.length<=big/\Q (.tup xs) S
def Qm:Sn:=λxs S Q=>xs.length<=big/\Q (.loc S.length) (S++[.lst xs])
def MonoN.tup:MonoN Ql:=λ_ _ _ _ i h=>⟨h.1,i _ _ h.2⟩
def MonoN.lst:MonoN Qm:=λ_ _ _ _ i h=>⟨h.1,i _ _ h.2⟩
def UU{K:Y2}{as:List A1G}{H:Hp}{S:Sto}{p:A1G}(a:Ok K as H S):Rl K (as++[p]) (upd H p (.lst vs)) (.ref p) (.loc S.length):=rl_loc.mpr ⟨p,by rw[<-a.len,YY],rfl⟩
def Ao{K:Y2}{as:List A1G}{H:Hp}{S:Sto}{Q:VK}{xs:List SV}{vs:List V}(a:Ok K as H S)(r:RlAll K as H vs xs)(h:Post K as H Q (.loc S.length) (S++[.lst xs])):∀ p,H p=aB->Q (.ref p) (upd H p (.lst vs)):=λp b=>
 h (as++[p]) _ (.ref p) (Go.push b) (a.push b r) (UU a)
def Dx{K:Y2}{as:List A1G}{H:Hp}{S:Sto}{Q:VK}{xs:List SV}{vs:List V}(b:Ok K as H S)(r:RlAll K as H vs xs)(h:Post K as H Q (.tup xs) S):∀ p,H p=aB->Q (.ref p) (upd H p (.tup vs)):=λp a=>
 h as _ (.ref p) (Go.new a) (b.new a) (rl_tup.mpr ⟨p,vs,rfl,n6,RlAll.mono (Yh _) (BL a) xs vs r⟩)
def Qn{K:Y2}{a:WA}(f:MonoA a):∀ b H Q,lift K (wn Ql a) b H Q->W5 (liftA K a) b H Q:=by
 rintro b H Q ⟨g,i,S,j,k,h⟩;refine⟨g,i,S,j,k,f _ _ _ _ (λn o d l p q m c e=>?_) h⟩;exact⟨by rw[e.length];exact An d.1,Dx c e (d.2.mono m)⟩
def Qo{K:Y2}{a:WA}(f:MonoA a):∀ b H Q,lift K (wn Qm a) b H Q->W6 (liftA K a) b H Q:=by
 rintro b H Q ⟨g,i,S,j,k,h⟩;refine⟨g,i,S,j,k,f _ _ _ _ (λn o d l p q m c e=>?_) h⟩;exact⟨by rw[e.length];exact An d.1,Ao c e (d.2.mono m)⟩
end Rf
namespace L2
open PySem PySem.Spec PyProof.Rows
section
variable{prog:A1L}{w:A1N}{A:A1Q}{E:A1E->A1F->Prop}{s:A1F}
set_option maxHeartbeats 8000000 in
def UV{l:A1G}{items:Array A1E}{ns:List Int}{Q:A1E->A1F->Prop}(U:A.handled=aB)(V:s.heap.IsTuple l items)(W:IntsAre items.toList ns)(u:items.size+1<A2s)
 (h:∀(h':Heap) (x:Nat),SetX prog w h' s.heap.objs.size (A2E (λi=>ns.getD i 0) items.size)->(∀ b o,b<s.heap.objs.size->s.heap.get? b=aA o->h'.get? b=aA o)->Q (.ref s.heap.objs.size) {s with heap:=h',toks:=x}):
 A1J (A1K prog w) A (call (.type "set") [.ref l]) Q E s:=by
 obtain⟨c,tl,M⟩:=F.called_set.mro;have N:=F.called_set.made;have X:=F.called_set.sub;have u1:=F.called_set.notType;have u2:=F.called_set.canCreate;have u3:=F.typeCall_set_1 (.ref l);refine A3U (A3j ?_);show A1J _ _ (callAny (.type "set") _) _ _ _;refine A1H ⟨Code.quiet_builtin _ (by decide +kernel),A1U F.entry_type_call ?_⟩;rw[Around.under_plain (A3m "set" [.ref l] []) rfl]
 repeat (any_goals (first | assumption | wp_step))
 refine A2i (WP (.ref l) (E:=E) (Q₁:=λj d=>j = .ref s.heap.objs.size/\d={s with heap:=s.heap.push (BH w)}) ⟨rfl,rfl⟩) λr d B=>?_;cases r with
 | error e=>exact B
 | ok Y=>
   cases Y with
   | ret j=>
     obtain⟨rfl,rfl⟩:=B;have Z:(s.heap.push (BH w)).get? s.heap.objs.size=aA (BH w):=YI _ rfl;have hT:Shared.TypeIs {s with heap:=s.heap.push (BH w)} (.ref s.heap.objs.size) "set":=⟨_,Z,rfl⟩
     have u4:=F.called_set.init.lookup;have u5:=F.called_set.init.bind (.ref s.heap.objs.size)
     repeat (any_goals (first | assumption | wp_step))
     refine A2i (A2x (R:=wants (λr f=>r = .none/\∃ h' x,f={s with heap:=h',toks:=x}/\SetX prog w h' s.heap.objs.size (A2E (λi=>ns.getD i 0) items.size)/\
      (∀ b o,b<s.heap.objs.size->s.heap.get? b=aA o->h'.get? b=aA o)) E) F.called_set.init.plain F.entry_set_init (A3K hT ?_)) λk f a=>?_
     ·obtain⟨⟨cl,di,da,sl⟩,O,m,P,n⟩:=V;simp only at m n;subst m n;have C:(s.heap.push (BH w)).get? l=aA {cls := .type "tuple",dict:=di,data := .seq items P,slots:=sl}:=Y8 _ O;have v1:=F.sub_tuple_set;have v2:=F.sub_tuple_frozenset;have v3:(Value.type "tuple" == Value.type "dict")=aD:=by decide
      have p:(s.heap.push (BH w)).IsTuple l items:=⟨_,C,rfl,P,rfl⟩
      unfold Builtin.«set.__init__» noKeywords Builtin.Frozenset.updateFrom;generalize D:pyIter=PI
      wp_walk
      subst D;refine A2o p (A1D (A3v ?_));have S:l<s.heap.objs.size:=YD O;have G:(s.heap.push (BH w)).objs.size=s.heap.objs.size+1:=Yr _ _;have lI:l≠(s.heap.push (BH w)).objs.size:=by rw[G];exact YG (Z0 S)
      have H:s.heap.objs.size∉[(s.heap.push (BH w)).objs.size,l]:=by
       rw[G];intro z;rcases YH.mp z with z | z
       ·exact absurd z (YG (ZT _))
       ·exact absurd (YK.mp z) (A12 S)
      have q:∀(i:Nat) (v:A1E),items[i]?=aA v->∃ t,v = .int ((λi=>ns.getD i 0) i) t:=λi v hv=>IntsAre.int_at W i v (by rw[Z4];exact hv)
      refine WN ((Walks.tuple (by simp[U]) _ l lI items).toS) s.heap.objs.size H (λi=>ns.getD i 0) q u items.size 0 _ (A16 _)
       ⟨⟨_,YI _ rfl,rfl,rfl⟩,p.push _⟩ ((Nb s.heap).keep λo e=>Y8 _ e) λs' y I=>?_
      obtain⟨h',g',d',J,K⟩:=s';obtain rfl:g'=s.gens:=y.gens;obtain rfl:d'=s.drawn:=y.drawn;obtain rfl:K=s.os:=y.os;refine A1H (A1H ⟨rfl,h',J,rfl,I,λb o u e=>y.heap b o (λz=>?_) (Y8 _ (Y8 _ e))⟩);rcases YH.mp z with z | z
      ·exact absurd z (YG u)
      ·have T:=YK.mp z;rw[G]at T;exact absurd T (YG (Z0 u))
     ·cases k with
      | error e=>exact a
      | ok g=>
        cases g with
        | ret r=>
          obtain⟨rfl,h',x,rfl,I,L⟩:=a
          repeat (any_goals (first | assumption | wp_step))
          exact h _ _ I L
        | _=>exact a.elim
   | _=>exact B.elim
def SetX.kind{h:Heap}{a:A1G}{L:List Int}(x:SetX prog w h a L):h.SetOf (intKind prog w) a (λk=>decide (k∈L)) L.length:=by
 obtain⟨o,g,i,t,j,l,m,b,n,p,q,f⟩:=x;refine⟨o,g,i,t,j,l,m,b,λk=>?_,n,p,by rw[<-f.length_eq];simp⟩;rw[dQ,<-f.mem_iff,YO];constructor
 ·rintro⟨e,c,rfl⟩;obtain⟨⟨k,d,_⟩,_⟩:=b e c;exact⟨e,c,by rw[DV d];exact d⟩
 ·rintro⟨e,c,d⟩;exact⟨e,c,DV d⟩
end
section
variable{X:Cx}
def Jy(ns:List Int):List Int:=A2E (λi=>ns.getD i 0) ns.length
def Np(ns:List Int)(k:Int):k∈Jy ns↔k∈ns:=by
 have e:=firstMet_any (λi=>ns.getD i 0) ns.length k
 have c:(YJ ns.length).map (λi=>ns.getD i 0)=ns:=by
  apply List.ext_getElem
  ·simp
  ·intro i b a;simp[Y6 a]
 rw[c]at e;have b:(Jy ns).any (· == k)=aC↔k∈Jy ns:=by simp
 have a:ns.any (· == k)=aC↔k∈ns:=by simp
 rw[<-b,<-a];unfold Jy;rw[e]
def Nq:OpR X (A1T .In) (λx y H Q=>∃(k:Int) (p:A1G) (S:Int->Bool) (n:Nat),x = .int k/\y = .ref p/\H p=aA (.set S n)/\Q (.bl (S k)) H):=by
 intro e s f H x y v u Q I a b h;obtain⟨k,p,S,n,rfl,rfl,c,q⟩:=h;obtain⟨t,rfl⟩:=a;cases b;have d:s.heap.SetOf (intKind X.prog X.w) p S n:=I.hok p _ c;exact wpAny_inSet_of (k:=k) (A3Y _ _ _ _) rfl d ⟨.bl _,H,I.tok _,rfl,q⟩
end
theorem Vals.rev:∀{xs:List V} {a:List A1E},Vals xs a->Vals xs.reverse a.reverse
 | _,_,.nil => .nil
 | _,_,.cons r b=>by
   rw[Zf,Zf];exact(Vals.rev b).append (.cons r .nil)
open PySem PySem.Spec PyProof.Rows PySem.SeqAt
section
variable{X:Cx}
def Sf(K:Y2):R2:=λx y H Q=>∃ a t,x = .ref a/\y = .str t/\((∃ xs,SqL K H a xs)\/∃ xs,SqT K H a xs)/\Q (.bl aD) H
def Qp(g:X.A.units<cLine):OpR X (A1T .Eq) (Sf X.K):=by
 intro i s j H x y v u Q I k l h;obtain⟨a,t,rfl,rfl,b,q⟩:=h;cases k;obtain⟨d,rfl⟩:=l
 have e:A1J (A1K X.prog X.w) X.A (A2m .Eq (.ref a) (.str t d)) (EP X i j Q) X.xe s:=by
  rcases b with⟨m,b⟩ | ⟨m,b⟩
  ·obtain⟨c,n,f,_⟩:=I.list b;exact RcAt.list_str t d f.isList g _ _ _ _ ⟨.bl aD,H,I,rfl,q⟩
  ·obtain⟨c,n,f,_⟩:=I.tuple b;exact RcAt.tuple_str (items:=c.toArray) t d f g _ _ _ _ ⟨.bl aD,H,I,rfl,q⟩
 exact e
end
end L2
namespace Rf
open PySem L2
def AI:SV->Bool
 | .non=>aC | .bl _=>aC | .int _=>aC | .str _=>aC | _=>aD
noncomputable def toV:SV->V
 | .non => .non | .bl b => .bl b | .int i => .int i | .str x => .str x | _ => .non
noncomputable def eqF:SV->SV->Bool
 | .non,.non=>aC
 | .bl a,.bl b=>a == b
 | .bl a,.int b=>(if a then 1 else 0) == b
 | .int a,.bl b=>a == (if b then 1 else 0)
 | .int a,.int b=>a == b
 | .str a,.str b=>a == b
 | _,_=>aD
noncomputable def En(xs a:List SV):Bool:=xs.length == a.length&&(xs.zip a).all λp=>eqF p.1 p.2
noncomputable def inS(x:SV)(xs:List SV):Bool:=xs.any λy=>eqF y x
section
variable{K:Y2}{as:List A1G}{H:Hp}
def Jz{x:SV}{v:V}(f:AI x=aC)(r:Rl K as H v x):v=toV x:=by
 cases x with
 | non=>exact rl_non.mp r
 | bl _=>exact rl_bl.mp r
 | int _=>exact rl_int.mp r
 | str _=>exact rl_str.mp r
 | _=>cases f
theorem BM:∀{xs:List SV} {vs:List V},xs.all AI=aC->RlAll K as H vs xs->vs=xs.map toV
 | [],_,_,r=>rla_nil.mp r
 | x::xs,_,f,r=>by
   rw[Z6,Y3]at f;obtain⟨v,vs,rfl,a,b⟩:=rla_cons.mp r;rw[Jz f.1 a,BM f.2 b];rfl
def HA{x:SV}(f:AI x=aC):AH (toV x)=aC:=by cases x<;>first | rfl | cases f
def D0{xs:List SV}(f:xs.all AI=aC):(xs.map toV).all AH=aC:=by
 rw[YX]at f ⊢;intro v a;obtain⟨x,b,rfl⟩:=YO.mp a;exact HA (f x b)
def Fg{x y:SV}(a:AI x=aC)(b:AI y=aC):eqV (toV x) (toV y)=eqF x y:=by
 cases x<;>first | cases a;done | (cases y<;>first | rfl | cases b)
def UW{x:SV}{xs:List SV}(b:AI x=aC)(f:xs.all AI=aC):inV (toV x) (xs.map toV)=inS x xs:=by
 unfold inV inS;rw[A01];rw[YX]at f;rw[Yp,Z9,Z9];constructor
 ·rintro⟨y,a,e⟩;exact⟨y,a,by rw[<-Fg (f y a) b];exact e⟩
 ·rintro⟨y,a,e⟩;exact⟨y,a,by show eqV (toV y) (toV x)=aC;rw[Fg (f y a) b];exact e⟩
def Qq:∀{xs d:List SV},xs.all AI=aC->d.all AI=aC->BD (xs.map toV) (d.map toV)=En xs d:=by
 intro xs d e f;unfold BD En;rw[Y4,Y4,List.zip_map,A0C]
 congr 1
 rw[Yp,YX,YX];rw[YX]at e f;constructor
 ·rintro h ⟨a,b⟩ c;have:=h (a,b) c;rw[<-Fg (e a (Zc c).1) (f b (Zc c).2)];exact this
 ·rintro h ⟨a,b⟩ c;have:=h (a,b) c;show eqV (toV a) (toV b)=aC;rw[Fg (e a (Zc c).1) (f b (Zc c).2)];exact this
noncomputable def seqS:SV->Sto->Option (List SV)
 | .tup xs,_=>aA xs
 | .ro xs,_=>aA xs
 | .loc k,S=>match S[k]? with | some (.lst xs)=>aA xs | _=>aB
 | _,_=>aB
def Dy{x:SV}{v:V}{S:Sto}{xs:List SV}(f:Ok K as H S)(r:Rl K as H v x)(h:seqS x S=aA xs):∃ a b,v = .ref a/\(SqL K H a b\/SqT K H a b)/\RlAll K as H b xs:=by
 cases x with
 | tup e=>
   cases h;obtain⟨p,b,rfl,d,c⟩:=rl_tup.mp r;exact⟨p,b,rfl,.inr (SqT.of d),c⟩
 | ro e=>
   cases h;obtain⟨p,b,rfl,d,c⟩:=rl_ro.mp r;exact⟨p,b,rfl,.inl d.sq,c⟩
 | loc k=>
   obtain⟨a,g,rfl⟩:=rl_loc.mp r;unfold seqS at h;cases hs:S[k]? with
   | none=>simp only[hs]at h;cases h
   | some o=>
     cases o with
     | lst e=>
       simp only[hs]at h;cases h;obtain⟨b,i,c⟩:=f.obj k _ a hs g;exact⟨a,b,rfl,.inl (SqL.of i),c⟩
     | iset _=>simp only[hs]at h;cases h
     | dtl _=>simp only[hs]at h;cases h
     | dtf _ _ _=>simp only[hs]at h;cases h
     | dtp _=>simp only[hs]at h;cases h
     | dct _=>simp only[hs]at h;cases h
     | dcf _ _ _=>simp only[hs]at h;cases h
     | tbl _ _=>simp only[hs]at h;cases h
 | _=>cases h
def v6{k:Nat}{v:V}{S:Sto}{xs:List SV}(d:Ok K as H S)(r:Rl K as H v (.loc k))(h:S[k]?=aA (.lst xs)):∃ a b,v = .ref a/\as[k]?=aA a/\H a=aA (.lst b)/\RlAll K as H b xs:=by
 obtain⟨a,c,rfl⟩:=rl_loc.mp r;obtain⟨b,e,f⟩:=d.obj k _ a h c;exact⟨a,b,rfl,c,e,f⟩
end
def UX:S2
 | .int i,.int j,S,Q=>Q (.int (i+j)) S
 | .loc k,.loc l,S,Q=>∃ xs a,S[k]?=aA (.lst xs)/\S[l]?=aA (.lst a)/\xs.length+a.length<=big/\Q (.loc S.length) (S++[.lst (xs++a)])
 | _,_,_,_=>False
def Ij(C:Int->Int->Prop)(g:Int->Int->SV):S2
 | .int i,.int j,S,Q=>C i j/\Q (g i j) S
 | _,_,_,_=>False
def CY(g:Int->Int->SV):S2
 | .int i,.int j,S,Q=>Q (g i j) S
 | _,_,_,_=>False
def UY:S2
 | .int i,.int j,S,Q=>CMul i j/\Q (.int (i * j)) S
 | .loc k,.int j,S,Q=>∃ xs,S[k]?=aA (.lst xs)/\(-1000000<j/\j<1000000)/\xs.length * j.toNat<=big/\Q (.loc S.length) (S++[.lst (YR j.toNat xs).flatten])
 | _,_,_,_=>False
def Mono2.add:Mono2 UX:=λx y S P a i h=>by
 cases x with
 | int=>cases y with
   | int=>exact i _ _ h
   | _=>exact h.elim
 | loc=>cases y with
   | loc=>exact h.imp λ_ => .imp λ_ z=>⟨z.1,z.2.1,z.2.2.1,i _ _ z.2.2.2⟩
   | _=>exact h.elim
 | _=>exact h.elim
def Mono2.int{C:Int->Int->Prop}{g:Int->Int->SV}:Mono2 (Ij C g):=λx y S P a i h=>by
 unfold Ij at h ⊢;split at h
 ·exact⟨h.1,i _ _ h.2⟩
 ·exact h.elim
def Mono2.int0{g:Int->Int->SV}:Mono2 (CY g):=λx y S P a i h=>by
 unfold CY at h ⊢;split at h
 ·exact i _ _ h
 ·exact h.elim
def Mono2.mul:Mono2 UY:=λx y S P a i h=>by
 cases x with
 | int=>cases y with
   | int=>exact⟨h.1,i _ _ h.2⟩
   | _=>exact h.elim
 | loc=>cases y with
   | int=>exact h.imp λ_ z=>⟨z.1,z.2.1,z.2.2.1,i _ _ z.2.2.2⟩
   | _=>exact h.elim
 | _=>exact h.elim
section
variable{K:Y2}
def Post.here{as:List A1G}{H:Hp}{Q:VK}{x:SV}{S:Sto}{v:V}(h:Post K as H Q x S)(a:Ok K as H S)(r:Rl K as H v x):Q v H:=h as H v (Go.refl _ _) a r
def Fh{C:Int->Int->Prop}{g:Int->Int->SV}{g':Int->Int->V}(d:∀ a H i j,Rl K a H (g' i j) (g i j)):Bc K (Ij C g) (rI C g'):=λa H S x y v u Q e b c h=>by
 unfold Ij at h;split at h
 ·rw[rl_int]at b c;exact⟨_,_,b,c,h.1,h.2.here e (d _ _ _ _)⟩
 ·exact h.elim
def Bd{g:Int->Int->SV}{g':Int->Int->V}(d:∀ a H i j,Rl K a H (g' i j) (g i j)):Bc K (CY g) (rI0 g'):=λa H S x y v u Q e b c h=>by
 unfold CY at h;split at h
 ·rw[rl_int]at b c;exact⟨_,_,b,c,h.here e (d _ _ _ _)⟩
 ·exact h.elim
noncomputable def Wf(K:Y2):R2:=λx y H Q=>(rI0 λi j => .int (i+j)) x y H Q\/WD x y H Q
def Qr{X:Cx}:OpR X (A2z .Add) (Wf X.K):=op_add.or UA
def Qt:Bc K UX (Wf K):=λq H S x y v u Q c d e h=>by
 cases x with
 | int=>cases y with
   | int=>
     rw[rl_int]at d e;exact .inl ⟨_,_,d,e,Post.here h c (rl_int.mpr rfl)⟩
   | _=>exact h.elim
 | loc=>cases y with
  | loc=>
   obtain⟨r,s,i,j,k,l⟩:=h;obtain⟨a,m,rfl,_,n,f⟩:=v6 c d i;obtain⟨b,o,rfl,_,p,g⟩:=v6 c e j;exact(.inr (⟨a,b,m,o,rfl,rfl,n,p,by rw[f.length,g.length];exact An k,Ao c (f.append g) l⟩))
  | _=>exact h.elim
 | _=>exact h.elim
theorem RlAll.rep{as:List A1G}{H:Hp}{vs:List V}{xs:List SV}(h:RlAll K as H vs xs):∀ n,RlAll K as H (YR n vs).flatten (YR n xs).flatten
 | 0=>by simpa using RlAll.nil
 | n+1=>by
   rw[Yv,Yv,ZA,ZA];exact h.append (RlAll.rep h n)
def Qu:Bc K UY (λx y H Q=>(rI CMul λi j => .int (i * j)) x y H Q\/WF x y H Q):=λo H S x y v u Q c d b h=>by
 cases x with
 | int=>cases y with
  | int=>
   rw[rl_int]at d b;exact .inl ⟨_,_,d,b,h.1,h.2.here c (rl_int.mpr rfl)⟩
  | _=>exact h.elim
 | loc k=>cases y with
  | int j=>
   obtain⟨p,f,q,g,l⟩:=h;obtain⟨a,m,rfl,_,n,e⟩:=v6 c d f;rw[rl_int]at b;subst b;exact .inr (⟨a,j,m,rfl,rfl,n,by omega,by omega,by rw[e.length];exact An g,Ao c (e.rep _) l⟩)
  | _=>exact h.elim
 | _=>exact h.elim
end
noncomputable def scS:SV->SV->Option Bool
 | .int i,.int j=>aA (decide (i=j))
 | .bl i,.bl j=>aA (decide (i=j))
 | .str i,.str j=>aA (decide (i=j))
 | .non,.non=>aA aC
 | .non,.int _=>aA aD | .int _,.non=>aA aD | .non,.bl _=>aA aD | .bl _,.non=>aA aD | .non,.str _=>aA aD | .str _,.non=>aA aD
 | .int _,.str _=>aA aD | .str _,.int _=>aA aD | .bl _,.str _=>aA aD | .str _,.bl _=>aA aD
 | _,_=>aB
noncomputable def Ik:SV->SV->Sto->(Bool->Prop)->Prop
 | .loc k,.loc l,S,Q=>∃ xs a,S[k]?=aA (.lst xs)/\S[l]?=aA (.lst a)/\((xs.all AI=aC/\a.all AI=aC)\/xs=[]\/a=[])/\Q (En xs a)
 | _,_,_,_=>False
noncomputable def Lp:SV->SV->Sto->(Bool->Prop)->Prop
 | .loc k,.loc l,S,Q=>∃ xs a,S[k]?=aA (.lst xs)/\S[l]?=aA (.lst a)/\((xs.all AI=aC/\a.all AI=aC)\/xs=[]\/a=[])/\Q (En xs a)
 | .loc k,.str _,S,Q=>(∃ xs,S[k]?=aA (.lst xs))/\Q aD
 | .tup _,.str _,_,Q=>Q aD
 | _,_,_,_=>False
def UZ{x y:SV}{S:Sto}{Q:Bool->Prop}(h:Lp x y S Q):Ik x y S Q\/(∃ t,y = .str t/\((∃ k a,x = .loc k/\S[k]?=aA (.lst a))\/∃ a,x = .tup a)/\Q aD):=by
 unfold Lp at h;split at h
 ·exact .inl h
 ·obtain⟨⟨a,e⟩,q⟩:=h;exact .inr ⟨_,rfl,.inl ⟨_,a,rfl,e⟩,q⟩
 ·exact .inr ⟨_,rfl,.inr ⟨_,rfl⟩,h⟩
 ·exact h.elim
def Lq{x y:SV}{S:Sto}{P e:Bool->Prop}(i:∀ b,P b->e b)(h:Lp x y S P):Lp x y S e:=by
 unfold Lp at h ⊢;split at h
 ·obtain⟨f,g,a,b,c,d⟩:=h;exact⟨f,g,a,b,c,i _ d⟩
 ·exact⟨h.1,i _ h.2⟩
 ·exact i _ h
 ·exact h.elim
noncomputable def sEq:S2:=λx y S Q=>match scS x y with | some b=>Q (.bl b) S | none=>Lp x y S λb=>Q (.bl b) S
noncomputable def sNe:S2:=λx y S Q=>match scS x y with | some b=>Q (.bl (!b)) S | none=>Ik x y S λb=>Q (.bl (!b)) S
noncomputable def CD:SV->Sto->Option (List Int)
 | .loc k,S=>match S[k]? with | some (.iset a)=>aA a | _=>aB
 | _,_=>aB
noncomputable def sIn(neg:Bool):S2:=λx y S Q=>match CD y S with
 | some b=>∃ i,x = .int i/\neg=aD/\Q (.bl (decide (i∈b))) S
 | none=>AI x=aC/\∃ a,seqS y S=aA a/\a.all AI=aC/\Q (.bl (if neg then !inS x a else inS x a)) S
def CZ:SV->Bool
 | .non=>aC
 | _=>aD
def Nr(neg:Bool):S2:=λx y S Q=>(y = .non/\Q (.bl (if neg then !CZ x else CZ x)) S)\/∃ c d,neg=aC/\x = .bl c/\y = .bl d/\Q (.bl (c != d)) S
def Lr{x y:SV}{S:Sto}{P e:Bool->Prop}(i:∀ b,P b->e b)(h:Ik x y S P):Ik x y S e:=by
 unfold Ik at h ⊢;split at h
 ·obtain⟨f,g,a,b,c,d⟩:=h;exact⟨f,g,a,b,c,i _ d⟩
 ·exact h.elim
def Mono2.eq:Mono2 sEq:=λx y S P a i h=>by
 unfold sEq at h ⊢;split at h
 ·exact i _ _ h
 ·exact Lq (λ_=>i _ _) h
def Mono2.ne:Mono2 sNe:=λx y S P a i h=>by
 unfold sNe at h ⊢;split at h
 ·exact i _ _ h
 ·exact Lr (λ_=>i _ _) h
def Mono2.in'{n:Bool}:Mono2 (sIn n):=λx y S P d i h=>by
 unfold sIn at h ⊢;split at h
 ·obtain⟨j,e,z,h⟩:=h;exact⟨j,e,z,i _ _ h⟩
 ·obtain⟨f,c,a,b,h⟩:=h;exact⟨f,c,a,b,i _ _ h⟩
def Mono2.isN{n:Bool}:Mono2 (Nr n):=λx y S P e i h=>h.imp (λh=>⟨h.1,i _ _ h.2⟩) λ⟨c,d,z,a,b,h⟩=>⟨c,d,z,a,b,i _ _ h⟩
section
variable{K:Y2}
def Nt{as:List A1G}{H:Hp}{x y:SV}{v u:V}{b:Bool}(e:scS x y=aA b)(a:Rl K as H v x)(c:Rl K as H u y):U1 v u=aC/\decide (v=u)=b:=by
 cases x<;>first | (unfold scS at e;cases e;done) | (cases y<;>first | (unfold scS at e;cases e;done) | (simp only[rl_non,rl_bl,rl_int,rl_str]at a c;subst a c;unfold scS at e;injection e with e;subst e;exact⟨rfl,by simp⟩))
def K0{as:List A1G}{H:Hp}{S:Sto}{x y:SV}{v u:V}{Q:Bool->Prop}(m:Ok K as H S)(p:Rl K as H v x)(q:Rl K as H u y)(h:Ik x y S Q):∃ a b d f,v = .ref a/\u = .ref b/\SqL K H a d/\SqL K H b f/\((d.all AH=aC/\f.all AH=aC)\/d=[]\/f=[])/\Q (BD d f):=by
 unfold Ik at h;split at h
 ·obtain⟨d,f,r,s,c,t⟩:=h;obtain⟨a,n,rfl,_,w,g⟩:=v6 m p r;obtain⟨b,o,rfl,_,z,i⟩:=v6 m q s;refine⟨a,b,n,o,rfl,rfl,SqL.of w,SqL.of z,?_,?_⟩
  ·rcases c with⟨j,k⟩ | c | c
   ·rw[BM j g,BM k i];exact .inl ⟨D0 j,D0 k⟩
   ·subst c;exact .inr (.inl (rla_nil.mp g))
   ·subst c;exact .inr (.inr (rla_nil.mp i))
  ·have e:BD n o=En d f:=by
    rcases c with⟨j,k⟩ | c | c
    ·rw[BM j g,BM k i,Qq j k]
    ·subst c;have:=rla_nil.mp g;subst this;have l:=i.length;unfold BD En;simp[l]
    ·subst c;have:=rla_nil.mp i;subst this;have l:=g.length;unfold BD En;simp[l]
   rw[e];exact t
 ·exact h.elim
def Ua:Bc K sEq (λx y H Q=>rEq x y H Q\/(QY K aD x y H Q\/Sf K x y H Q)):=λB H S x y v u Q c d f h=>by
 unfold sEq at h;split at h
 ·rename_i b e;obtain⟨g,i⟩:=Nt e d f;exact .inl ⟨g,by rw[i];exact h.here c (rl_bl.mpr rfl)⟩
 ·rcases UZ h with h | ⟨t,rfl,h,q⟩
  ·obtain⟨a,b,j,m,n,o,g,i,r,s⟩:=K0 c d f h;exact .inr (.inl ⟨a,b,j,m,n,o,g,i,r,s.here c (rl_bl.mpr rfl)⟩)
  ·rw[rl_str]at f;subst f;rcases h with⟨k,j,rfl,w⟩ | ⟨j,rfl⟩
   ·obtain⟨a,l,rfl,_,z,_⟩:=v6 c d w;exact .inr (.inr ⟨a,t,rfl,rfl,.inl ⟨l,SqL.of z⟩,Post.here q c (rl_bl.mpr rfl)⟩)
   ·obtain⟨p,l,rfl,A,_⟩:=rl_tup.mp d;exact .inr (.inr ⟨p,t,rfl,rfl,.inr ⟨l,SqT.of A⟩,Post.here q c (rl_bl.mpr rfl)⟩)
def Ub:Bc K sNe (λx y H Q=>rNe x y H Q\/QY K aC x y H Q):=λp H S x y v u Q c g i h=>by
 unfold sNe at h;split at h
 ·rename_i b e;obtain⟨d,f⟩:=Nt e g i;exact .inl ⟨d,by rw[f];exact h.here c (rl_bl.mpr rfl)⟩
 ·obtain⟨a,b,j,k,l,m,d,f,n,o⟩:=K0 c g i h;exact .inr ⟨a,b,j,k,l,m,d,f,n,o.here c (rl_bl.mpr rfl)⟩
def Qv{as:List A1G}{H:Hp}{S:Sto}{y:SV}{u:V}{b:List Int}(d:Ok K as H S)(r:Rl K as H u y)(h:CD y S=aA b):∃ a k F,y = .loc k/\u = .ref a/\as[k]?=aA a/\S[k]?=aA (.iset b)/\H a=aA (.set F b.length)/\∀ k,F k=decide (k∈b):=by
 cases y with
 | loc k=>
   obtain⟨a,c,rfl⟩:=rl_loc.mp r;unfold CD at h;cases hs:S[k]? with
   | none=>simp only[hs]at h;cases h
   | some o=>
     cases o with
     | lst g=>simp only[hs]at h;cases h
     | iset i=>
       simp only[hs]at h;cases h;obtain⟨F,e,f⟩:=d.obj k _ a hs c;exact⟨a,k,F,rfl,rfl,c,hs,e,f⟩
     | dtl _=>simp only[hs]at h;cases h
     | dtf _ _ _=>simp only[hs]at h;cases h
     | dtp _=>simp only[hs]at h;cases h
     | dct _=>simp only[hs]at h;cases h
     | dcf _ _ _=>simp only[hs]at h;cases h
     | tbl _ _=>simp only[hs]at h;cases h
 | _=>cases h
noncomputable def Uc(K:Y2)(neg:Bool):R2:=λx y H Q=>rIn K neg x y H Q\/(neg=aD/\∃(k:Int) (p:A1G) (S:Int->Bool) (n:Nat),x = .int k/\y = .ref p/\H p=aA (.set S n)/\Q (.bl (S k)) H)
def Ud{X:Cx}:OpR X (A1T .In) (Uc X.K aD):=λa s b H x y v u Q I c d h=>h.elim (LS a s b H x y v u Q I c d) λh=>Nq a s b H x y v u Q I c d h.2
def Ls{X:Cx}:OpR X (A1T .NotIn) (Uc X.K aC):=λa s b H x y v u Q I c d h=>h.elim (FZ a s b H x y v u Q I c d) λh=>by cases h.1
def Nu{n:Bool}:Bc K (sIn n) (Uc K n):=λs H S x y v u Q b c e h=>by
 unfold sIn at h;split at h
 ·rename_i t j;obtain⟨i,rfl,rfl,h⟩:=h;obtain⟨a,k,F,rfl,rfl,w,g,l,m⟩:=Qv b e j;rw[rl_int]at c;exact .inr ⟨rfl,i,a,F,_,c,rfl,l,by rw[m];exact h.here b (rl_bl.mpr rfl)⟩
 ·obtain⟨f,z,o,d,h⟩:=h;obtain⟨a,A,rfl,p,q⟩:=Dy b e o;have r:=Jz f c;have g:=BM d q;subst r g;exact .inl ⟨a,_,rfl,p,HA f,D0 d,by rw[UW f d];exact h.here b (rl_bl.mpr rfl)⟩
def HB{as:List A1G}{H:Hp}{x:SV}{v:V}(r:Rl K as H v x):decide (v=V.non)=CZ x:=by
 cases x with
 | non=>rw[rl_non.mp r];rfl
 | bl _=>rw[rl_bl.mp r];rfl
 | int _=>rw[rl_int.mp r];rfl
 | str _=>rw[rl_str.mp r];rfl
 | tup _=>obtain⟨p,a,rfl,_⟩:=rl_tup.mp r;rfl
 | loc _=>obtain⟨p,_,rfl⟩:=rl_loc.mp r;rfl
 | ro _=>obtain⟨p,a,rfl,_⟩:=rl_ro.mp r;rfl
 | ty _=>rw[rl_ty.mp r];rfl
 | exc _=>obtain⟨p,rfl,_⟩:=rl_exc.mp r;rfl
def Qw:Bc K (Nr aD) (λx y H Q=>y = .non/\Q (.bl (decide (x = .non))) H):=λg H S x y v u Q a b f h=>by
 rcases h with⟨e,h⟩ | ⟨c,d,z,_⟩
 ·subst e;exact⟨rl_non.mp f,by rw[HB b];exact h.here a (rl_bl.mpr rfl)⟩
 ·cases z
def Nv:Bc K (Nr aC) (λx y H Q=>(y = .non/\Q (.bl (!decide (x = .non))) H)\/∃ c d,x = .bl c/\y = .bl d/\Q (.bl (c != d)) H):=λg H S x y v u Q a b f h=>by
 rcases h with⟨e,h⟩ | ⟨c,d,_,rfl,rfl,h⟩
 ·subst e;exact .inl ⟨rl_non.mp f,by rw[HB b];exact h.here a (rl_bl.mpr rfl)⟩
 ·exact .inr ⟨c,d,rl_bl.mp b,rl_bl.mp f,h.here a (rl_bl.mpr rfl)⟩
end
noncomputable def sIx:S2
 | x,.int i,S,Q=>∃ xs y,seqS x S=aA xs/\atI xs i=aA y/\Q y S
 | _,_,_,_=>False
def Mono2.ix:Mono2 sIx:=λx y S P e i h=>by
 unfold sIx at h ⊢;split at h
 ·obtain⟨d,z,a,b,c⟩:=h;exact⟨d,z,a,b,i _ _ c⟩
 ·exact h.elim
section
variable{K:Y2}
def RlAll.atI{as:List A1G}{H:Hp}{xs:List SV}{vs:List V}{i:Int}{y:SV}(h:RlAll K as H vs xs)(e:L2.atI xs i=aA y):∃ v,L2.atI vs i=aA v/\Rl K as H v y:=by
 unfold L2.atI at e ⊢;rw[h.length];cases hj:ixN xs.length i with
 | none=>rw[hj]at e;cases e
 | some j=>
   rw[hj]at e;exact h.get e
def Ue:Bc K sIx (λx y H Q=>WB K x y H Q\/WC K x y H Q):=λn H S x y v u Q d j e h=>by
 unfold sIx at h;split at h
 ·obtain⟨o,z,k,l,f⟩:=h;obtain⟨a,g,rfl,b,m⟩:=Dy d j k;obtain⟨w,i,c⟩:=m.atI l;rw[rl_int]at e;rcases b with b | b
  ·exact .inl ⟨a,g,_,w,rfl,e,b,i,f.here d c⟩
  ·exact .inr ⟨a,g,_,w,rfl,e,b,i,f.here d c⟩
 ·exact h.elim
end
end Rf
namespace L2
open PySem PySem.Spec PyProof.Rows
section
variable{prog:A1L}{w:A1N}{κ:Type}[DecidableEq κ]{knd:HeapKind prog w κ}{A:A1Q}{E:A1E->A1F->Prop}{s:A1F}
def Il{d a:A1G}{o:Obj}{es:Array A2r}{ep:Nat}{xs:List (κ×A1G×A1E)}{k:κ}{v:A1E}(e:knd.is s.heap k a)(h:s.heap.get? d=aA o)(n:o.ExactDict)(g:o.data = .dict es ep)(p:es.toList=xs.map (A3S knd))(i:∀ x∈xs,knd.is s.heap x.1 x.2.1)(q:(xs.map (·.1)).Nodup)
 (j:atKey xs k=aB) (f:k∉xs.map (·.1)):(s.heap.update d (Obj.mapDictKeys (·.push ⟨knd.hash k,.ref a,v⟩))).DictOfH knd d (storedH xs k a v):=by
 have b:Ye d s.heap (s.heap.update d (Obj.mapDictKeys (·.push ⟨knd.hash k,.ref a,v⟩))):=Ye.update ..;rw[storedH_new j];refine⟨_,_,ep+1,Yc _ h (Obj.isFreed_of_dict (Obj.data_mapDictKeys g _)),n.mapDictKeys _,Obj.data_mapDictKeys g _,by simp[p,A3S],λx l=>?_,?_⟩
 ·have c:x∈xs\/x=(k,a,v):=by simpa using l
  rcases c with c | rfl
  ·exact knd.keeps (i x c) h g b
  ·exact knd.keeps e h g b
 ·rw[YN];exact Zg.mpr ⟨q,by simp,λx l y m z=>f (by simp at m;subst m;rw[<-z];exact l)⟩
def Nw{d a:A1G}{xs:List (κ×A1G×A1E)}{k:κ}{v:A1E}{Q:A1E->A1F->Prop}(q:knd.room A)(b:knd.is s.heap k a)(u:s.heap.DictOfH knd d xs)
 (x:∀ p,atKey xs k=aA p->∀ l,Q p.2 {s with toks:=l})
 (y:atKey xs k=aB->∀ m l,m.DictOfH knd d (storedH xs k a v)->Ye d s.heap m->Q v {s with heap:=m,toks:=l}) (hsz:xs.length<=A1M):A1J (A1K prog w) A (A3w d (.ref a) v) Q E s:=by
 obtain⟨o,B,C,g,z,h,i,c,n⟩:=id u;unfold A3w
 try with_reducible refine A1W ?_
 refine A1D (knd.pyHash q b (A1D (wpAny_dictFind_heap (s:={s with toks:=s.toks+knd.draws k}) q b g h i c n (λf=>?_) (λj p r=>?_))))
 ·have t:=atKey_none_of_get f;refine A1D (A2u (A1D (wpAny_updateDictKeys (hz:=by have e:=size_of_entries i;omega) (s:={s with toks:=s.toks+knd.draws k}) g h (A1H ?_))));exact y t _ _ (Il b g z h i c n t (not_mem_keys_of_get f)) (Ye.update ..)
 ·refine A1D (A2F (s:={s with toks:=s.toks+knd.draws k}) g h ?_);rw[entry_at i j,r];exact A1D (A2u (A1H (x p (atKey_of_get n r) _)))
def Dz(d a:A1G)(h:(d == A22)=aD)(v:A1E):
 MeetsIn prog w (Builtin.«dict.setdefault» ⟨[.ref d,.ref a,v],[]⟩) (λA R s=>knd.room A.in1/\∃ k c,knd.is s.heap k a/\s.heap.DictOfH knd d c/\c.length<=A1M/\s.TypeIs (.ref d) "dict"/\
  (∀ p,atKey c k=aA p->∀ b,R (.ok (.ret p.2)) {s with toks:=b})/\
  (atKey c k=aB->∀ f b,f.DictOfH knd d (storedH c k a v)->Ye d s.heap f->R (.ok (.ret v)) {s with heap:=f,toks:=b})):=
 .of_wp λA R s ⟨i,k,c,g,j,l,m,n,o⟩=>by
  unfold Builtin.«dict.setdefault»;refine A1D ?_;unfold Builtin.Dict.keyAndDefault;refine A1D (A3p m ?_);refine A1H ?_;show A1J _ _ (if (d == A22)=aC then _ else (A3w d (.ref a) v >>= _)) _ _ s;rw[h];rw[iG YE];exact A1D (Nw i g j (λp e b=>A1H ⟨p.2,rfl,n p e b⟩) (λe f b q r=>A1H ⟨v,rfl,o e f b q r⟩) l)
end
section
variable{X:Cx}{o e f:Expr}{apos cpos:Pos}{td ty tx:TE}
noncomputable def Wg(i ty j:TE):TE:=λg H Q=>i g H λx h=>∃ a,x = .ref a/\IsD h a/\ty g h λy l=>j g l λz d=>∃ c k b,y = .ref b/\d a=aA (.dT c)/\d b=aA (.tup (k.map kV))/\c.length<A1M/\
 (∀ v,A9 c k=aA v->Q v d)/\(A9 c k=aB->Q z (upd d a (.dT (B0 c k z))))
def Qx(T:X.A.units+1<cLine)(U:PE X o td)(V:PE X e ty)(W:PE X f tx)(m:M2 X o "setdefault" apos e f cpos):PE X (.Call (.Attribute o "setdefault" apos) [e,f] [] cpos) (Wg td ty tx):=by
 intro r s t H Q I h;refine A31 m.base m.few m.line PySem.F.plainAttrs_dict PySem.F.slot_dict_setdefault PySem.F.type_dict_setdefault (thn (U r s t H _ I h) λu Y J=>?_);obtain⟨x,Z,K,rx,a,ex,d,q1⟩:=J;subst ex;obtain rfl:u=Value.ref a:=rx;obtain⟨t1,t2,_⟩:=Ie K d;refine⟨t1,t2,?_⟩;rw[m.trees]
 refine Calls.callWith_builtin rfl (Calls.evalArgs_plain (Calls.spliced_cons (thn (V r Y t Z _ K q1) λiv s2 ⟨y,H2,I2,ry,q2⟩=>
  Calls.spliced_cons (thn (W r s2 t H2 _ I2 q2) λfv s3 ⟨z,H3,n,L,g,k,b,ey,B,M,J,qs,qn⟩=>Calls.spliced_nil ?_))))
 subst ey;cases ry;obtain⟨hl,N,O,i,C⟩:=NR n.hok B;have D:O.length<=A1M:=by rw[<-Paired.length i];exact hl
 refine A2P PySem.F.slot_dict_setdefault C.typeIs PySem.F.entry_dict_setdefault (PySem.F.args_dict_setdefault_3 _ _ _) (Dz (knd:=A2Q (t7 X.prog X.w)) a b N fv) ⟨A2C T,k,O,Du n.hok M,C,D,C.typeIs,λp e P=>?_,λe h' P E hs=>?_⟩
 ·have j:=i.val k;rw[e]at j;cases l:A9 g k with
  | none=>rw[l]at j;exact j.elim
  | some v=>rw[l]at j;exact⟨v,H3,n.tok P,j,qs v l⟩
 ·have l:A9 g k=aB:=by
   have j:=i.val k;rw[e]at j;cases l:A9 g k with
   | none=>rfl
   | some v=>rw[l]at j;exact j.elim
  refine⟨z,_,?_,L,qn l⟩;obtain⟨q,es,ep,R,h2,h3,h4,_,h5⟩:=E;have G:(B0 g k z).length<=A1M:=by have:=B3 g k z;omega
  refine DU n (by rw[B];exact True.intro) hs ⟨q,R⟩ ⟨G,N,_,(i.put k M L).keeps λc ys S=>?_,q,es,ep,R,h2,h3,h4,h5⟩;rw[i9 (Mt S B (λz=>nomatch z))];exact S
end
section
variable{prog:A1L}{w:A1N}{A:A1Q}{R:Result->A1F->Prop}{I:A1G}{fp wr:List A1G}{n:Nat}{P:Nat->A1E->Prop}{St:Nat->Heap->Prop}
structure CmpMx(prog:A1L)(w:A1N)(A:A1Q)(wr:List A1G)(S:A1G)(P:Nat->A1E->Prop)(bt:Nat->Nat->Bool)(G:Heap->Prop):Prop where
 keep:∀ h h',G h->(∀ b o,b∉wr->b≠S->h.get? b=aA o->h'.get? b=aA o)->G h'
 cmp:∀(s:A1F),G s.heap->∀(i j:Nat) (vi vj:A1E) (Q:A1E->A1F->Prop) (E:A1E->A1F->Prop),P i vi->P j vj->Q (.bool (bt i j)) s->A1J (A1K prog w) A (A2m .Gt vi vj) Q E s
def Fi{Z:List (Str×A1E)}(W:Walks prog w A.in1 I fp wr n P St){t:Nat->Nat->Bool}{S:A1G}{G:Heap->Prop}(C:CmpMx prog w A.in1 wr S P t G)(x:S∉fp)(k:Nat):
 ∀(j:Nat) (s:A1F) (g:A1E) (c:Nat),n=j+1+k->St (j+1) s.heap->G s.heap->P (argBest t j) g->
 s.heap.get? S=aA {cls := .type "list",dict:=aB,data := .seq #[g,g] c,slots:=#[]}->
 (∀ v U H,P (argBest t (n - 1)) v->(∀ b o,b∉wr->b≠S->s.heap.get? b=aA o->U.get? b=aA o)->R (.ok (.ret v)) {s with heap:=U,toks:=H})->
 codeAny (A1K prog w) A (.builtin "max.loop" ⟨[.ref I,.none,.ref S],Z⟩) R s:=by
 have y:S∉wr:=λz=>x (W.sub _ z);have nm:(toString "max"++toString ".loop":String)="max.loop":=by decide
 induction k with
 | zero=>
   intro j s g c K i V h B J;refine A1U F.entry_max_loop ?_;rw[Around.under_plainId F.plain_max_loop _];refine A1D (m:=A2H (.ref S)) (A24 B rfl ?_);have D:St n s.heap:=by rw[K];exact i
   refine A1D (m:=tryCatch (pyNext (.ref I)) _) (A26 (W.done s _ _ D λL H l=>?_));have a:=l S _ y B;refine A1D (m:=A3e S (λ_=>#[])) (A2f a rfl (A1D (A2n (A1H ?_))));exact J g _ H (by rw[K];exact h) λb o u f e=>(Yi _ _ (Ne.symm f)).trans (l b o u e)
 | succ k X=>
   intro j s g c K i V h B J;refine A1U F.entry_max_loop ?_;rw[Around.under_plainId F.plain_max_loop _];refine A1D (m:=A2H (.ref S)) (A24 B rfl ?_);refine A1D (m:=tryCatch (pyNext (.ref I)) _) (A26 (W.item (j+1) s _ _ (by omega) i λv L H Y E l=>?_));have a:=l S _ y B;have p:=C.keep _ _ V λb o u _ e=>l b o u e;refine A1D (m:=tryCatch (holding [v,v] (A2m .Gt v g >>= _)) _) (A26 (A1W (A1D (C.cmp _ p (j+1) (argBest t j) v g _ _ Y h ?_))));refine A1D (A1W (A1V (A1D (A2n (A1H ?_)))));cases u:t (j+1) (argBest t j) with
   | true=>
     simp only[if_true];refine A1D (A2f a rfl (A1D (A2n ?_)));rw[nm];have M:∀ b o,b≠S->L.get? b=aA o->(A0Q L S (Obj.mapSeq λ_=>#[v,v])).get? b=aA o:=λb o f e=>(Yi _ _ (Ne.symm f)).trans e;refine A1H ⟨A1X F.plain_max_loop _,X (j+1) _ v _ (by omega) (W.frame _ _ _ E λb N o e=>M b o (λz=>x (z▸N)) e) (C.keep _ _ p λb o _ f e=>M b o f e) ?_ (Yc _ a rfl) λO Q q r T=>?_⟩
     ·simp only[argBest,u,if_true];exact Y
     ·exact J O Q q r λb o d f e=>T b o d f (M b o f (l b o d e))
   | false=>
     simp only[Z5,if_false];refine A1D (A2n ?_);rw[nm];refine A1H ⟨A1X F.plain_max_loop _,X (j+1) _ g c (by omega) E p ?_ a λO Q q r T=>?_⟩
     ·simp only[argBest,u,Z5,if_false];exact h
     ·exact J O Q q r λb o d f e=>T b o d f (l b o d e)
def Ep{d:A1E}(W:Walks prog w A.in1 I fp wr n P St){D:Nat->Nat->Bool}{S:A1G}{G:Heap->Prop}(C:CmpMx prog w A.in1 wr S P D G)(f:S∉fp){s:A1F}{c:Nat}(h:St 0 s.heap)(H:G s.heap)
 (E:s.heap.get? S=aA {cls := .type "list",dict:=aB,data := .seq #[] c,slots:=#[]})
 (J:n=0->∀ i g,(∀ b o,b∉wr->b≠S->s.heap.get? b=aA o->i.get? b=aA o)->R (.ok (.ret d)) {s with heap:=i,toks:=g})
 (K:0<n->∀ v i g,P (argBest D (n - 1)) v->(∀ b o,b∉wr->b≠S->s.heap.get? b=aA o->i.get? b=aA o)->R (.ok (.ret v)) {s with heap:=i,toks:=g}):
 codeAny (A1K prog w) A (.builtin "max.loop" ⟨[.ref I,.none,.ref S],[(Str.ofString "default",d)]⟩) R s:=by
 have q:S∉wr:=λz=>f (W.sub _ z);have nm:(toString "max"++toString ".loop":String)="max.loop":=by decide
 refine A1U F.entry_max_loop ?_;rw[Around.under_plainId F.plain_max_loop _];refine A1D (m:=A2H (.ref S)) (A24 E rfl ?_);by_cases a:n=0
 ·subst a;refine A1D (m:=tryCatch (pyNext (.ref I)) _) (A26 (W.done s _ _ h λp g j=>?_));exact A1D (A2u (A1H (J rfl p g λb o r _ e=>j b o r e)))
 ·refine A1D (m:=tryCatch (pyNext (.ref I)) _) (A26 (W.item 0 s _ _ (by omega) h λv p g L t j=>?_));have k:=j S _ q E;have u:∀ b o,b≠S->p.get? b=aA o->(A0Q p S (Obj.mapSeq λ_=>#[v,v])).get? b=aA o:=λb o a e=>(Yi _ _ (Ne.symm a)).trans e;refine A1D (m:=A3e S (λ_=>#[v,v])) (A2f k rfl ?_);rw[nm];refine A1H ⟨A1X F.plain_max_loop _,Fi W C f (n - 1) 0 _ v _ (by omega) (W.frame _ _ _ t λb x o e=>u b o (λz=>f (z▸x)) e) (C.keep _ _ (C.keep _ _ H λb o r _ e=>j b o r e) λb o _ a e=>u b o a e) L (Yc _ k rfl) λM N y B O=>?_⟩;exact K (by omega) M N y B λb o l a e=>O b o l a (u b o a (j b o l e))
end
def Fj(a v:A1E):argsOk "max" ⟨[a],[(Str.ofString "default",v)]⟩:=by unfold argsOk;kernel_rfl
section
variable{prog:A1L}{w:A1N}{A:A1Q}{E:A1E->A1F->Prop}{s:A1F}
def Fk{l:A1G}{items:Array A1E}{d:A1E}{Q:A1E->A1F->Prop}(J:A.handled=aB)(r:s.heap.IsList l items)(t:Nat->Nat->Bool)(G:Heap->Prop)(K:G s.heap)
 (c:∀ h a,G h->(∀ b o,b<s.heap.objs.size->h.get? b=aA o->a.get? b=aA o)->G a)
 (n:∀(u:A1F),G u.heap->∀(i j:Nat) (D H:A1E) (Q:A1E->A1F->Prop) (E:A1E->A1F->Prop),items[i]?=aA D->items[j]?=aA H->Q (.bool (t i j)) u->A1J (A1K prog w) A.in1 (A2m .Gt D H) Q E u)
 (L:items.size=0->∀ a f,(∀ b o,s.heap.get? b=aA o->a.get? b=aA o)->Q d {s with heap:=a,toks:=f})
 (M:0<items.size->∀ v a f,items[argBest t (items.size - 1)]?=aA v->(∀ b o,s.heap.get? b=aA o->a.get? b=aA o)->Q v {s with heap:=a,toks:=f}):
 A1J (A1K prog w) A (call (.builtin "max") [.ref l] [(Str.ofString "default",d)]) Q E s:=by
 have nm:(toString "max"++toString ".loop":String)="max.loop":=by decide
 have p:l<s.heap.objs.size:=by obtain⟨o,N,_⟩:=r;exact YD N
 refine kmb_tree F.kind_max F.plain_max F.entry_max (Fj _ _) ?_;refine A1D (m:=Builtin.Builtins.bindParams "max" ["key","default"] 0 ⟨[],[(Str.ofString "default",d)]⟩) (A2L (show Builtin.Builtins.bindParams "max" ["key","default"] 0 ⟨[],[(Str.ofString "default",d)]⟩=pure [aB,aA d] from rfl) ?_);refine A1D (A1H ?_);refine A1D (A2d r ?_);refine A1D (A1S ?_);rw[nm];have W:=Walks.list (prog:=prog) (w:=w) (A:=A.in1) J s.heap.objs.size l (YG p) items;have x:∀ b o,s.heap.get? b=aA o->((s.heap.push {cls := .type "list_iterator",data := .fields #[.ref l,.int 0 0]}).push {cls := .type "list",data := .seq ([]:List A1E).toArray}).get? b=aA o:=λb o e=>Y8 _ (Y8 _ e);have y:(s.heap.push {cls := .type "list_iterator",data := .fields #[.ref l,.int 0 0]}).objs.size=s.heap.objs.size+1:=by simp[Yr]
 have C:CmpMx prog w A.in1 [s.heap.objs.size] (s.heap.push {cls := .type "list_iterator",data := .fields #[.ref l,.int 0 0]}).objs.size (λi v=>items[i]?=aA v) t G:=⟨λh a g k=>c h a g λb o I e=>k b o (by simp;exact YG I) (by rw[y];exact YG (Z0 I)) e,n⟩
 have q:∀(h:Heap),(∀ b o,b∉[s.heap.objs.size]->b≠(s.heap.push {cls := .type "list_iterator",data := .fields #[.ref l,.int 0 0]}).objs.size->((s.heap.push {cls := .type "list_iterator",data := .fields #[.ref l,.int 0 0]}).push {cls := .type "list",data := .seq ([]:List A1E).toArray}).get? b=aA o->h.get? b=aA o)->∀ b o,s.heap.get? b=aA o->h.get? b=aA o:=λh k b o e=>k b o (by simp;exact YG (YD e)) (by rw[y];have:=YD e;exact YG (Z0 this)) (x b o e);refine A1H ⟨A1X F.plain_max_loop _,Ep (d:=d) W C ?_ ?_ (c _ _ K λb o _ e=>x b o e) (YI _ rfl) (λB a f k=>L B a f (q a k)) (λB v a f O k=>M B v a f O (q a k))⟩
 ·rw[y];simp only[YH,Zi,or_false,not_or];exact⟨A1g _,λz=>absurd p (by rw[<-z];exact A04 (ZT _))⟩
 ·exact⟨⟨_,Y8 _ (YI _ rfl),rfl,rfl⟩,r.at λo e=>x _ _ e⟩
end
section
variable{X:Cx}
noncomputable def gtB(ns:List Int)(a b:Nat):Bool:=decide (ns.getD a 0>ns.getD b 0)
theorem K1(ns:List Int):∀ k j,j<=k->ns.getD j 0<=ns.getD (argBest (gtB ns) k) 0
 | 0,j,c=>by
   have:j=0:=by omega
   subst this;exact A0R _
 | k+1,j,c=>by
   have b:=K1 ns k;simp only[argBest];split
   ·rename_i a;have a:=of_decide_eq_true a;by_cases e:j=k+1
    ·subst e;exact A0R _
    ·have:=b j (by omega);omega
   ·rename_i a;have a:¬ ns.getD (k+1) 0>ns.getD (argBest (gtB ns) k) 0:=λz=>a (decide_eq_true z);by_cases e:j=k+1
    ·subst e;omega
    ·exact b j (by omega)
theorem HC(a:Nat->Nat->Bool):∀ k,argBest a k<=k
 | 0=>YF _
 | k+1=>by
   simp only[argBest];split
   ·exact YF _
   ·exact A1a (HC a k)
def Grt(ns:List Int)(m:Int):Prop:=m∈ns/\∀ n∈ns,n<=m
def HD{ns:List Int}(h:0<ns.length):Grt ns (ns.getD (argBest (gtB ns) (ns.length - 1)) 0):=by
 have e:=HC (gtB ns) (ns.length - 1);have a:argBest (gtB ns) (ns.length - 1)<ns.length:=by omega
 refine⟨by rw[show ns.getD (argBest (gtB ns) (ns.length - 1)) 0=ns[argBest (gtB ns) (ns.length - 1)] by simp[ZC,a]];exact Z8 a,λn c=>?_⟩;obtain⟨j,b⟩:=ZQ c;have d:=(gM b).1;have:=K1 ns (ns.length - 1) j (by omega);rw[show ns.getD j 0=n by simp[ZC,b]]at this;exact this
def Wh:List V->List V->Hp->VK->Prop:=λxs a H Q=>∃ l ns d,xs=[.ref l]/\a=[.int d]/\H l=aA (.lst (ns.map V.int))/\(ns=[]->Q (.int d) H)/\∀ m,Grt ns m->Q (.int m) H
def DW{ns:List Int}{a:List A1E}(b:Vals (ns.map V.int) a){i:Nat}{v:A1E}(h:a[i]?=aA v):∃ n t,ns[i]?=aA n/\v = .int n t:=by
 have f:=b.length;rw[Y4]at f;have c:i<ns.length:=by have:=(gM h).1;omega
 have e:(ns.map V.int)[i]?=aA (.int ns[i]):=by simp[c]
 obtain⟨u,d,g⟩:=b.get e;rw[h]at d;cases d;obtain⟨t,rfl⟩:=g;exact⟨_,t,by simp[c],rfl⟩
def Lu(B:X.calm=aC):Ih X (.builtin "max") ["default"] Wh:=by
 intro V s W H Y Z us ws Q I r C h;obtain⟨l,b,d,rfl,rfl,D,E,F⟩:=h;obtain⟨u,rfl,G⟩:=B2 r;cases G;obtain⟨z,rfl,e⟩:=B2 C;obtain⟨t,rfl⟩:=e;obtain⟨a,f,J,hz⟩:=I.list (SqL.of D);have m:b.length=a.length:=by have:=f.length;rwa [Y4]at this
 refine Fk (I.ok.hd B) J.isList (gtB b) (λ_=>True) trivial (λ_ _ _ _=>trivial) ?_ ?_ ?_
 ·intro K _ i j L M N O R S q
  exact CmpOf.ints_gt (P:=λi v=>a.toArray[i]?=aA v) (λi=>b.getD i 0) (λi v h=>by
   obtain⟨n,o,c,rfl⟩:=DW f (show a[i]?=aA v by simpa using h);exact⟨o,by simp[ZC,c]⟩) i j L M K N O R S q
 ·intro w T x k
  have:b=[]:=by
   cases b with
   | nil=>rfl
   | cons p r=>rw[YB]at w;simp at m;omega
  exact⟨.int d,H,I.kept (t':=x) k,⟨t,rfl⟩,E this⟩
 ·intro A v T x U k;obtain⟨n,o,c,rfl⟩:=DW f (show a[argBest (gtB b) (a.toArray.size - 1)]?=aA v by simpa using U);have y:a.toArray.size=b.length:=by rw[YB];omega
  rw[y]at c A;have g:=HD A;rw[show b.getD (argBest (gtB b) (b.length - 1)) 0=n by simp[ZC,c]]at g;exact⟨.int n,H,I.kept (t':=x) k,⟨o,rfl⟩,F n g⟩
def Lv(C:X.calm=aC):CallR X (.builtin "max") (λB H Q=>∃ l c,B=[.ref l]/\H l=aA (.lst (c.map V.int))/\0<c.length/\∀ m,Grt c m->Q (.int m) H):=by
 intro N s O H B P Q I r h;obtain⟨l,c,rfl,D,E,F⟩:=h;obtain⟨u,rfl,G⟩:=B2 r;cases G;obtain⟨a,j,p,R⟩:=I.list (SqL.of D);have J:c.length=a.length:=by have:=j.length;rwa [Y4]at this
 have d:l<s.heap.objs.size:=by obtain⟨o,K,_⟩:=p.isList;exact YD K
 have q:l≠s.heap.objs.size:=YG d;refine call_max_walk (A2d p.isList ⟨s.heap.objs.size,[s.heap.objs.size,l],[s.heap.objs.size],a.toArray.size,_,_,gtB c,rfl,Walks.list (prog:=X.prog) (w:=X.w) (A:=X.A.in1) (I.ok.hd C) s.heap.objs.size l q a.toArray,?_,?_,?_,?_,?_⟩)
 ·exact⟨⟨_,YI _ rfl,rfl,rfl⟩,p.isList.at λo e=>Y8 _ e⟩
 ·intro b t;rcases YH.mp t with rfl | t
  ·show _<(s.heap.push _).objs.size;rw[Yr];exact ZT _
  ·rw[YK.mp t];show _<(s.heap.push _).objs.size;rw[Yr];exact Z0 d
 ·rw[YB];omega
 ·exact CmpOf.ints_gt (λi=>c.getD i 0) (λi v h=>by
   obtain⟨n,x,f,rfl⟩:=DW j (show a[i]?=aA v by simpa using h);exact⟨x,by simp[ZC,f]⟩)
 ·intro v S L M k;obtain⟨n,x,f,rfl⟩:=DW j (show a[argBest (gtB c) (a.toArray.size - 1)]?=aA v by simpa using M);have y:a.toArray.size=c.length:=by rw[YB];omega
  rw[y]at f;have g:=HD E;rw[show c.getD (argBest (gtB c) (c.length - 1)) 0=n by simp[ZC,f]]at g;refine⟨.int n,H,I.kept (t':=L) (λb o e=>k b o (λz=>?_) (Y8 _ e)),⟨x,rfl⟩,F n g⟩;rw[YK.mp z]at e;exact ZD _ (YD e)
def Qy{a:List Stmt}{h₀:A29}{c:List A29}{pos:Pos}{t:TS}(d:∀ e s,¬ X.xe e s)(g:PSs X a t):PS X (.Try a (h₀::c) [] [] pos) t:=by
 intro h s i H D I j;refine A3L (A23 (g h s i H D I j) (λf b q=>?_) λe b z=>(d e b z).elim);cases f with
 | next=>exact A2p q
 | _=>exact q
end
end L2
namespace Rf
open PySem L2
inductive BI where
 | len | abs | min | max | int | list | tuple | all | any | sorted | isi | str | repr
 deriving DecidableEq
def BI.name:BI->Str
 | .len=>"len" | .abs=>"abs" | .min=>"min" | .max=>"max" | .int=>"int" | .list=>"list" | .tuple=>"tuple" | .all=>"all" | .any=>"any" | .sorted=>"sorted" | .isi=>"isinstance" | .str=>"str" | .repr=>"repr"
noncomputable def blS:List SV->Option (List Bool)
 | []=>aA []
 | .bl b::xs=>(blS xs).map (b::·)
 | _::_=>aB
noncomputable def HE:List SV->Option (List Int)
 | []=>aA []
 | .int i::xs=>(HE xs).map (i::·)
 | _::_=>aB
noncomputable def tyS:SV->Sto->Option TyN
 | .non,_=>aA .none
 | .bl _,_=>aA .bool
 | .int _,_=>aA .int
 | .str _,_=>aA .str
 | .tup _,_=>aA .tuple
 | .loc k,S=>match S[k]? with | some (.lst _)=>aA .list | _=>aB
 | _,_=>aB
noncomputable def Im:TyN->TyN->Bool
 | .bool,.int=>aC
 | a,b=>decide (a=b)
noncomputable def Lw:List SV->Option (List TyN)
 | []=>aA []
 | .ty t::xs=>(Lw xs).map (t::·)
 | _::_=>aB
def a0(f:Sto->QE->Prop):Sn:=λxs S Q=>match xs with | []=>f S Q | _=>False
def a1(f:S1):Sn:=λxs S Q=>match xs with | [x]=>f x S Q | _=>False
def a2(f:S2):Sn:=λxs S Q=>match xs with | [x,y]=>f x y S Q | _=>False
def oI(f:Int->Sto->QE->Prop):S1:=λx S Q=>match x with | .int i=>f i S Q | _=>False
def Wi{f:Sto->QE->Prop}{xs:List SV}{S:Sto}{Q:QE}(h:a0 f xs S Q):xs=[]/\f S Q:=match xs,h with | [],h=>⟨rfl,h⟩
def D1{f:S1}{xs:List SV}{S:Sto}{Q:QE}(h:a1 f xs S Q):∃ x,xs=[x]/\f x S Q:=match xs,h with | [x],h=>⟨x,rfl,h⟩
def Nx{f:S2}{xs:List SV}{S:Sto}{Q:QE}(h:a2 f xs S Q):∃ x y,xs=[x,y]/\f x y S Q:=match xs,h with | [x,y],h=>⟨x,y,rfl,h⟩
def DP{f:Int->Sto->QE->Prop}{x:SV}{S:Sto}{Q:QE}(h:oI f x S Q):∃ i,x = .int i/\f i S Q:=match x,h with | .int i,h=>⟨i,rfl,h⟩
def AE{f:S1}(m:Gy f):MonoN (a1 f):=λb S P a i h=>by
 replace h:=D1 h;obtain⟨x,rfl,h⟩:=h;exact m x S P a i h
def DX{f:S2}(m:Mono2 f):MonoN (a2 f):=λb S P a i h=>by
 replace h:=Nx h;obtain⟨x,y,rfl,h⟩:=h;exact m x y S P a i h
def Qz{f:Int->Sto->QE->Prop}(m:∀ k S P a,(∀ x b,P x b->a x b)->f k S P->f k S a):Gy (oI f):=λx S P a i h=>by
 replace h:=DP h;obtain⟨k,rfl,h⟩:=h;exact m k S P a i h
def Wj:S1
 | .int i,S,Q=>Q (.int i) S
 | .bl b,S,Q=>Q (.int (if b then 1 else 0)) S
 | _,_,_=>False
def Sh{x:SV}{S:Sto}{Q:QE}(h:Wj x S Q):(∃ i,x = .int i/\Q (.int i) S)\/∃ b,x = .bl b/\Q (.int (if b then 1 else 0)) S:=match x,h with
 | .int i,h => .inl ⟨i,rfl,h⟩
 | .bl b,h => .inr ⟨b,rfl,h⟩
noncomputable def Wk:S2:=λx y S Q=>match y with
 | .ty t=>∃ a,t ≠ .none/\tyS x S=aA a/\Q (.bl (Im a t)) S
 | .tup ts=>∃ a bs,TyN.none∉bs/\tyS x S=aA a/\Lw ts=aA bs/\Q (.bl (bs.any (Im a))) S
 | _=>False
def Si{x y:SV}{S:Sto}{Q:QE}(h:Wk x y S Q):(∃ t a,y = .ty t/\t ≠ .none/\tyS x S=aA a/\Q (.bl (Im a t)) S)\/∃ c a b,y = .tup c/\TyN.none∉b/\tyS x S=aA a/\Lw c=aA b/\Q (.bl (b.any (Im a))) S:=match y,h with
 | .ty t,⟨a,h⟩ => .inl ⟨t,a,rfl,h⟩
 | .tup c,⟨a,b,h⟩ => .inr ⟨c,a,b,rfl,h⟩
noncomputable def Xk:S1:=λx S Q=>∃ xs,seqS x S=aA xs/\Q (.int xs.length) S
def Xl:S1:=oI λi S Q=>Q (.int (if i<0 then -i else i)) S
def Xm:S2:=λx y S Q=>oI (λi S Q=>oI (λj S Q=>Q (.int (if j<i then j else i)) S) y S Q) x S Q
def Xn:S2:=λx y S Q=>oI (λi S Q=>oI (λj S Q=>Q (.int (if j>i then j else i)) S) y S Q) x S Q
noncomputable def Wl:S1:=λx S Q=>∃ xs,seqS x S=aA xs/\Q (.loc S.length) (S++[.lst xs])
noncomputable def Uf:S1:=λx S Q=>∃ xs,seqS x S=aA xs/\Q (.tup xs) S
noncomputable def Xo:S1:=λx S Q=>∃ xs bs,x ≠ .tup xs/\seqS x S=aA xs/\blS xs=aA bs/\Q (.bl (bs.all id)) S
noncomputable def Xq:S1:=λx S Q=>∃ xs bs,x ≠ .tup xs/\seqS x S=aA xs/\blS xs=aA bs/\Q (.bl (bs.any id)) S
noncomputable def R0:S1:=λx S Q=>∃ xs ns,x ≠ .tup xs/\seqS x S=aA xs/\HE xs=aA ns/\ns.length<64/\Q (.loc S.length) (S++[.lst ((srt ns).map SV.int)])
noncomputable def sBi:BI->Sn
 | .len=>a1 Xk
 | .abs=>a1 Xl
 | .min=>a2 Xm
 | .max=>a2 Xn
 | .int=>a1 Wj
 | .list=>a1 Wl
 | .tuple=>a1 Uf
 | .all=>a1 Xo
 | .any=>a1 Xq
 | .sorted=>a1 R0
 | .isi=>a2 Wk
 | .str=>λ_ _ _=>False
 | .repr=>λ_ _ _=>False
def MonoN.bi:∀{b:BI},MonoN (sBi b)
 | .len=>AE λ_ _ _ _ i ⟨a,c,d⟩=>⟨a,c,i _ _ d⟩
 | .abs=>AE (Qz λ_ _ _ _ i h=>i _ _ h)
 | .min=>DX λx y S P n i h=>by
   replace h:=DP h;obtain⟨k,rfl,j⟩:=h;obtain⟨l,rfl,m⟩:=DP j;exact i _ _ m
 | .max=>DX λx y S P n i h=>by
   replace h:=DP h;obtain⟨k,rfl,j⟩:=h;obtain⟨l,rfl,m⟩:=DP j;exact i _ _ m
 | .int=>AE λx S P n i h=>by
   replace h:=Sh h;rcases h with⟨k,rfl,h⟩ | ⟨b,rfl,h⟩
   ·exact i _ _ h
   ·exact i _ _ h
 | .list=>AE λ_ _ _ _ i ⟨a,c,d⟩=>⟨a,c,i _ _ d⟩
 | .tuple=>AE λ_ _ _ _ i ⟨a,c,d⟩=>⟨a,c,i _ _ d⟩
 | .all=>AE λ_ _ _ _ i ⟨a,b,c,d,e,f⟩=>⟨a,b,c,d,e,i _ _ f⟩
 | .any=>AE λ_ _ _ _ i ⟨a,b,c,d,e,f⟩=>⟨a,b,c,d,e,i _ _ f⟩
 | .sorted=>AE λ_ _ _ _ i ⟨a,b,c,d,e,f,g⟩=>⟨a,b,c,d,e,f,i _ _ g⟩
 | .isi=>DX λx y S P n i h=>by
   replace h:=Si h;rcases h with⟨t,a,rfl,j,m,h⟩ | ⟨q,a,o,rfl,j,m,p,h⟩
   ·exact⟨a,j,m,i _ _ h⟩
   ·exact⟨a,o,j,m,p,i _ _ h⟩
 | .str=>λ_ _ _ _ _ h=>h
 | .repr=>λ_ _ _ _ _ h=>h
section
variable{K:Y2}{as:List A1G}{H:Hp}{S:Sto}
theorem Io:∀{xs:List SV} {bs:List Bool} {vs:List V},blS xs=aA bs->RlAll K as H vs xs->vs=bs.map V.bl
 | [],_,_,e,r=>by cases e;exact rla_nil.mp r
 | .bl b::xs,_,_,e,r=>by
   obtain⟨v,vs,rfl,a,c⟩:=rla_cons.mp r;unfold blS at e;cases h:blS xs with
   | none=>rw[h]at e;cases e
   | some d=>
     rw[h]at e;cases e;rw[rl_bl.mp a,Io h c];rfl
 | .non::_,_,_,e,_=>by cases e
 | .int _::_,_,_,e,_=>by cases e
 | .str _::_,_,_,e,_=>by cases e
 | .tup _::_,_,_,e,_=>by cases e
 | .loc _::_,_,_,e,_=>by cases e
 | .ro _::_,_,_,e,_=>by cases e
 | .ty _::_,_,_,e,_=>by cases e
 | .exc _::_,_,_,e,_=>by cases e
theorem Fl:∀{xs:List SV} {bs:List Int} {vs:List V},HE xs=aA bs->RlAll K as H vs xs->vs=bs.map V.int
 | [],_,_,e,r=>by cases e;exact rla_nil.mp r
 | .int b::xs,_,_,e,r=>by
   obtain⟨v,vs,rfl,a,c⟩:=rla_cons.mp r;unfold HE at e;cases h:HE xs with
   | none=>rw[h]at e;cases e
   | some d=>
     rw[h]at e;cases e;rw[rl_int.mp a,Fl h c];rfl
 | .non::_,_,_,e,_=>by cases e
 | .bl _::_,_,_,e,_=>by cases e
 | .str _::_,_,_,e,_=>by cases e
 | .tup _::_,_,_,e,_=>by cases e
 | .loc _::_,_,_,e,_=>by cases e
 | .ro _::_,_,_,e,_=>by cases e
 | .ty _::_,_,_,e,_=>by cases e
 | .exc _::_,_,_,e,_=>by cases e
def Af{x:SV}{v:V}{xs:List SV}(e:Ok K as H S)(r:Rl K as H v x)(n:x ≠ .tup xs)(h:seqS x S=aA xs):∃ a b,v = .ref a/\SqL K H a b/\RlAll K as H b xs:=by
 cases x with
 | tup d=>cases h;exact absurd rfl n
 | ro d=>
   cases h;obtain⟨p,b,rfl,f,c⟩:=rl_ro.mp r;exact⟨p,b,rfl,f.sq,c⟩
 | loc k=>
   obtain⟨a,g,rfl⟩:=rl_loc.mp r;unfold seqS at h;cases hs:S[k]? with
   | none=>simp only[hs]at h;cases h
   | some o=>
     cases o with
     | lst d=>
       simp only[hs]at h;cases h;obtain⟨b,i,c⟩:=e.obj k _ a hs g;exact⟨a,b,rfl,SqL.of i,c⟩
     | iset _=>simp only[hs]at h;cases h
     | dtl _=>simp only[hs]at h;cases h
     | dtf _ _ _=>simp only[hs]at h;cases h
     | dtp _=>simp only[hs]at h;cases h
     | dct _=>simp only[hs]at h;cases h
     | dcf _ _ _=>simp only[hs]at h;cases h
     | tbl _ _=>simp only[hs]at h;cases h
 | _=>cases h
def D3{vs:List V}{x:SV}(r:RlAll K as H vs [x]):∃ v,vs=[v]/\Rl K as H v x:=by
 obtain⟨v,t,rfl,a,b⟩:=rla_cons.mp r;rw[rla_nil.mp b];exact⟨v,rfl,a⟩
def Lx{vs:List V}{x y:SV}(r:RlAll K as H vs [x,y]):∃ v u,vs=[v,u]/\Rl K as H v x/\Rl K as H u y:=by
 obtain⟨v,t,rfl,a,b⟩:=rla_cons.mp r;obtain⟨u,rfl,c⟩:=D3 b;exact⟨v,u,rfl,a,c⟩
end
def Ny{K:Y2}{as:List A1G}{H:Hp}{S:Sto}{Q:VK}{x:SV}{v:V}{i:List SV}(c:Ok K as H S)(d:Rl K as H v x)(e:seqS x S=aA i)(g:Post K as H Q (.tup i) S):∃ p b,v = .ref p/\((SqL K H p b/\∀ l,H l=aB->Q (.ref l) (upd H l (.tup b)))\/(SqT K H p b/\Q (.ref p) H)):=by
 cases x with
 | tup m=>
   cases e;obtain⟨p,b,rfl,j,f⟩:=rl_tup.mp d;exact⟨p,b,rfl,.inr ⟨SqT.of j,g.here c d⟩⟩
 | loc k=>
   obtain⟨a,b,rfl,h,f⟩:=Af c d (by intro z;cases z) e;exact⟨a,b,rfl,.inl ⟨h,Dx c f g⟩⟩
 | ro k=>
   obtain⟨a,b,rfl,h,f⟩:=Af c d (by intro z;cases z) e;exact⟨a,b,rfl,.inl ⟨h,Dx c f g⟩⟩
 | _=>cases e
section
variable{K:Y2}{as:List A1G}{H:Hp}{S:Sto}
def Sj{x:SV}{v:V}{a:TyN}(c:Ok K as H S)(r:Rl K as H v x)(h:tyS x S=aA a):TyOf K H v (.type a.nm):=by
 cases x with
 | non=>cases h;rw[rl_non.mp r];exact .non
 | bl b=>cases h;rw[rl_bl.mp r];exact .bl b
 | int b=>cases h;rw[rl_int.mp r];exact .int b
 | str b=>cases h;rw[rl_str.mp r];exact .str b
 | tup i=>cases h;obtain⟨p,d,rfl,e,_⟩:=rl_tup.mp r;exact .tup e
 | loc k=>
   obtain⟨b,f,rfl⟩:=rl_loc.mp r;unfold tyS at h;cases hs:S[k]? with
   | none=>simp only[hs]at h;cases h
   | some o=>
     cases o with
     | lst j=>
       simp only[hs]at h;cases h;obtain⟨d,g,_⟩:=c.obj k _ b hs f;exact .lst g
     | iset _=>simp only[hs]at h;cases h
     | dtl _=>simp only[hs]at h;cases h
     | dtf _ _ _=>simp only[hs]at h;cases h
     | dtp _=>simp only[hs]at h;cases h
     | dct _=>simp only[hs]at h;cases h
     | dcf _ _ _=>simp only[hs]at h;cases h
     | tbl _ _=>simp only[hs]at h;cases h
 | _=>cases h
noncomputable def ktn(t c:String):Option Bool:=if (Value.type t == Value.type c)=aC then aA aC else if PySem.W.kitMeta c=aC then (fastBuiltinMro t).map (·.contains (.type c)) else aB
def K3{K:Y2}(a:TyN)(t:TyN)(b:t ≠ .none):PySem.W.kitOne K (.type a.nm) (.type t.nm)=aA (Im a t):=by
 have e:PySem.W.kitOne K (.type a.nm) (.type t.nm)=ktn a.nm t.nm:=rfl;rw[e];cases a<;>cases t<;>first | exact absurd rfl b | decide +kernel
theorem K4{K:Y2}(a:TyN):∀(bs:List TyN),TyN.none∉bs->PySem.W.kitAny K (.type a.nm) ((bs.map TyN.nm).map Value.type)=aA (bs.any (Im a))
 | [],_=>rfl
 | b::bs,h=>by
   rw[Yf,Yf,PySem.W.kitAny,K3 a b (λz=>h (by rw[z];simp)),ZL];cases Im a b with
   | true=>rfl
   | false=>exact K4 a bs (λz=>h (YC _ z))
theorem Nz:∀{xs:List SV} {bs:List TyN} {vs:List V},Lw xs=aA bs->RlAll K as H vs xs->vs=(bs.map TyN.nm).map V.ty
 | [],_,_,e,r=>by cases e;exact rla_nil.mp r
 | .ty b::xs,_,_,e,r=>by
   obtain⟨v,vs,rfl,a,c⟩:=rla_cons.mp r;unfold Lw at e;cases h:Lw xs with
   | none=>rw[h]at e;cases e
   | some d=>
     rw[h]at e;cases e;rw[rl_ty.mp a,Nz h c];rfl
 | .non::_,_,_,e,_=>by cases e
 | .bl _::_,_,_,e,_=>by cases e
 | .str _::_,_,_,e,_=>by cases e
 | .tup _::_,_,_,e,_=>by cases e
 | .loc _::_,_,_,e,_=>by cases e
 | .ro _::_,_,_,e,_=>by cases e
 | .int _::_,_,_,e,_=>by cases e
end
noncomputable def rBi(K:Y2):BI->List V->Hp->VK->Prop
 | .len=>λxs H Q=>∃ p c,xs=[.ref p]/\(SqL K H p c\/SqT K H p c)/\Q (.int c.length) H
 | .abs=>λxs H Q=>∃ i,xs=[.int i]/\Q (.int (if i<0 then -i else i)) H
 | .min=>λxs H Q=>∃ i j,xs=[.int i,.int j]/\Q (.int (if j<i then j else i)) H
 | .max=>λxs H Q=>∃ i j,xs=[.int i,.int j]/\Q (.int (if j>i then j else i)) H
 | .int=>λxs H Q=>(∃ i,xs=[.int i]/\Q (.int i) H)\/∃ k,xs=[.bl k]/\Q (.int (if k then 1 else 0)) H
 | .list=>λxs H Q=>∃ p c,xs=[.ref p]/\(SqL K H p c\/SqT K H p c)/\∀ l,H l=aB->Q (.ref l) (upd H l (.lst c))
 | .tuple=>λxs H Q=>∃ p c,xs=[.ref p]/\((SqL K H p c/\∀ l,H l=aB->Q (.ref l) (upd H l (.tup c)))\/(SqT K H p c/\Q (.ref p) H))
 | .all=>λxs H Q=>∃(a:A1G) (bs:List Bool),xs=[.ref a]/\SqL K H a (bs.map V.bl)/\Q (.bl (bs.all id)) H
 | .any=>λxs H Q=>∃(a:A1G) (bs:List Bool),xs=[.ref a]/\SqL K H a (bs.map V.bl)/\Q (.bl (bs.any id)) H
 | .sorted=>λxs H Q=>∃ p ns,xs=[.ref p]/\SqL K H p (ns.map V.int)/\ns.length<64/\∀ l,H l=aB->Q (.ref l) (upd H l (.lst ((srt ns).map V.int)))
 | .isi=>λxs H Q=>(∃ x T t b,xs=[x,.ty T]/\TyOf K H x t/\PySem.W.kitOne K t (.type T)=aA b/\Q (.bl b) H)\/(∃(x:V) (p:A1G) (d:List String) (t:A1E) (b:Bool),xs=[x,.ref p]/\H p=aA (.tup (d.map V.ty))/\TyOf K H x t/\PySem.W.kitAny K t (d.map Value.type)=aA b/\Q (.bl b) H)
 | .str=>λ_ _ _=>False
 | .repr=>λ_ _ _=>False
def Ug{K:Y2}:∀{b:BI},Wd K (sBi b) (rBi K b)
 | .len=>λn H S o l Q c r h=>by
   replace h:=D1 h;obtain⟨x,rfl,B,e,f⟩:=h;obtain⟨v,rfl,d⟩:=D3 r;obtain⟨a,s,rfl,g,m⟩:=Dy c d e;exact⟨a,s,rfl,g,by rw[m.length];exact f.here c (rl_int.mpr rfl)⟩
 | .abs=>λn H S o l Q c r h=>by
   replace h:=D1 h;obtain⟨x,rfl,h⟩:=h;replace h:=DP h;obtain⟨i,rfl,h⟩:=h;obtain⟨v,rfl,d⟩:=D3 r;exact⟨_,by rw[rl_int.mp d],Post.here h c (rl_int.mpr rfl)⟩
 | .min=>λn H S o l Q c r h=>by
   replace h:=Nx h;obtain⟨x,y,rfl,h⟩:=h;replace h:=DP h;obtain⟨i,rfl,h⟩:=h;replace h:=DP h;obtain⟨j,rfl,h⟩:=h;obtain⟨v,u,rfl,d,A⟩:=Lx r;exact⟨_,_,by rw[rl_int.mp d,rl_int.mp A],Post.here h c (rl_int.mpr rfl)⟩
 | .max=>λn H S o l Q c r h=>by
   replace h:=Nx h;obtain⟨x,y,rfl,h⟩:=h;replace h:=DP h;obtain⟨i,rfl,h⟩:=h;replace h:=DP h;obtain⟨j,rfl,h⟩:=h;obtain⟨v,u,rfl,d,A⟩:=Lx r;exact⟨_,_,by rw[rl_int.mp d,rl_int.mp A],Post.here h c (rl_int.mpr rfl)⟩
 | .int=>λn H S o l Q c r h=>by
   replace h:=D1 h;obtain⟨x,rfl,h⟩:=h;obtain⟨v,rfl,d⟩:=D3 r;replace h:=Sh h;rcases h with⟨k,rfl,h⟩ | ⟨b,rfl,h⟩
   ·exact .inl ⟨_,by rw[rl_int.mp d],Post.here h c (rl_int.mpr rfl)⟩
   ·exact .inr ⟨_,by rw[rl_bl.mp d],Post.here h c (rl_int.mpr rfl)⟩
 | .list=>λn H S o l Q c r h=>by
   replace h:=D1 h;obtain⟨x,rfl,B,e,f⟩:=h;obtain⟨v,rfl,d⟩:=D3 r;obtain⟨a,s,rfl,g,m⟩:=Dy c d e;exact⟨a,s,rfl,g,Ao c m f⟩
 | .tuple=>λn H S o l Q c r h=>by
   replace h:=D1 h;obtain⟨x,rfl,B,e,f⟩:=h;obtain⟨v,rfl,d⟩:=D3 r;obtain⟨p,s,rfl,z⟩:=Ny c d e f;exact⟨p,s,rfl,z⟩
 | .all=>λn H S o l Q c r h=>by
   replace h:=D1 h;obtain⟨x,rfl,B,C,q,e,f,w⟩:=h;obtain⟨v,rfl,d⟩:=D3 r;obtain⟨a,s,rfl,g,m⟩:=Af c d q e;rw[Io f m]at g;exact⟨a,C,rfl,g,w.here c (rl_bl.mpr rfl)⟩
 | .any=>λn H S o l Q c r h=>by
   replace h:=D1 h;obtain⟨x,rfl,B,C,q,e,f,w⟩:=h;obtain⟨v,rfl,d⟩:=D3 r;obtain⟨a,s,rfl,g,m⟩:=Af c d q e;rw[Io f m]at g;exact⟨a,C,rfl,g,w.here c (rl_bl.mpr rfl)⟩
 | .sorted=>λn H S o l Q c r h=>by
   replace h:=D1 h;obtain⟨x,rfl,B,E,q,e,f,w,F⟩:=h;obtain⟨v,rfl,d⟩:=D3 r;obtain⟨a,s,rfl,g,m⟩:=Af c d q e;rw[Fl f m]at g;exact⟨a,E,rfl,g,w,Ao c RlAll.ints F⟩
 | .isi=>λn H S o l Q c r h=>by
   replace h:=Nx h;obtain⟨x,y,rfl,h⟩:=h;obtain⟨v,u,rfl,d,A⟩:=Lx r;replace h:=Si h;rcases h with⟨t,a,rfl,q,e,f⟩ | ⟨G,a,C,rfl,q,e,f,w⟩
   ·rw[rl_ty.mp A];exact .inl ⟨v,_,_,_,rfl,Sj c d e,K3 _ _ q,f.here c (rl_bl.mpr rfl)⟩
   ·obtain⟨p,l,rfl,D,m⟩:=rl_tup.mp A;rw[Nz f m]at D;exact .inr ⟨v,p,_,_,_,rfl,D,Sj c d e,K4 _ _ q,w.here c (rl_bl.mpr rfl)⟩
 | .str=>λ_ _ _ _ _ _ _ _ h=>False.elim h
 | .repr=>λ_ _ _ _ _ _ _ _ h=>False.elim h
theorem Fm{K:Y2}{as:List A1G}{H:Hp}:∀{ns:List Int} {vs:List V},RlAll K as H vs (ns.map SV.int)->vs=ns.map V.int
 | [],vs,h=>rla_nil.mp h
 | n::ns,vs,h=>by
   obtain⟨v,r,rfl,a,b⟩:=rla_cons.mp h;rw[rl_int.mp a,Fm b];rfl
inductive MT where
 | append | extend | insert | reverse | indexB | countB
 deriving DecidableEq
def MT.name:MT->Str
 | .append=>"append" | .extend=>"extend" | .insert=>"insert" | .reverse=>"reverse" | .indexB=>"index" | .countB=>"count"
def oL(f:Nat->Sto->QE->Prop):S1:=λx S Q=>match x with | .loc k=>f k S Q | _=>False
theorem E1{K:Y2}{as:List A1G}{H:Hp}:∀{ns:List Bool} {vs:List V},RlAll K as H vs (ns.map SV.bl)->vs=ns.map V.bl
 | [],_,h=>rla_nil.mp h
 | n::ns,_,h=>by
   obtain⟨v,r,rfl,a,t⟩:=rla_cons.mp h;rw[rl_bl.mp a,E1 t];rfl
def Cb{f:Nat->Sto->QE->Prop}{x:SV}{S:Sto}{Q:QE}(h:oL f x S Q):∃ k,x = .loc k/\f k S Q:=match x,h with | .loc k,h=>⟨k,rfl,h⟩
def R1(x:SV):S1:=λy S Q=>oL (λk S Q=>∃ xs,S[k]?=aA (.lst xs)/\xs.length<big/\Q .non (S.set k (.lst (xs++[y])))) x S Q
def R3(x:SV):S1:=λy S Q=>oL (λk S Q=>oL (λl S Q=>∃ xs a,S[k]?=aA (.lst xs)/\S[l]?=aA (.lst a)/\xs.length+a.length<=big/\Q .non (S.set k (.lst (xs++a)))) y S Q) x S Q
def R4(x:SV):S2:=λz y S Q=>oL (λk S Q=>oI (λi S Q=>∃ xs,S[k]?=aA (.lst xs)/\(0<=i/\i<=xs.length)/\xs.length<big/\Q .non (S.set k (.lst (xs.take i.toNat++y::xs.drop i.toNat)))) z S Q) x S Q
def O0(x:SV):Sto->QE->Prop:=λS Q=>oL (λk S Q=>∃ xs,S[k]?=aA (.lst xs)/\Q .non (S.set k (.lst xs.reverse))) x S Q
def R5(x:SV):S1:=λy S Q=>oL (λk S Q=>∃(ns:List Bool) (n:Bool) (j:Nat),y = .bl n/\S[k]?=aA (.lst (ns.map SV.bl))/\ns[j]?=aA n/\(∀ m,m<j->ns[m]?≠aA n)/\Q (.int (j:Nat)) S) x S Q
def R6(x:SV):S1:=λy S Q=>oL (λk S Q=>∃(ns:List Bool) (n:Bool),y = .bl n/\S[k]?=aA (.lst (ns.map SV.bl))/\Q (.int (ns.count n:Nat)) S) x S Q
def sMt:MT->SV->Sn
 | .append,x=>a1 (R1 x)
 | .extend,x=>a1 (R3 x)
 | .insert,x=>a2 (R4 x)
 | .reverse,x=>a0 (O0 x)
 | .indexB,x=>a1 (R5 x)
 | .countB,x=>a1 (R6 x)
def Fn:∀{m:MT} {x:SV},MonoN (sMt m x)
 | .append,x=>AE λy S P o i h=>by
   replace h:=Cb h;obtain⟨k,rfl,a,c,d,e⟩:=h;exact⟨a,c,d,i _ _ e⟩
 | .extend,x=>AE λy S P o i h=>by
   replace h:=Cb h;obtain⟨k,rfl,h⟩:=h;replace h:=Cb h;obtain⟨l,rfl,a,c,d,e,f,g⟩:=h;exact⟨a,c,d,e,f,i _ _ g⟩
 | .insert,x=>DX λz y S P o i h=>by
   replace h:=Cb h;obtain⟨k,rfl,h⟩:=h;replace h:=DP h;obtain⟨j,rfl,a,c,d,e,f⟩:=h;exact⟨a,c,d,e,i _ _ f⟩
 | .reverse,x=>λr S P o i h=>by
   replace h:=Wi h;obtain⟨rfl,h⟩:=h;replace h:=Cb h;obtain⟨k,rfl,a,c,d⟩:=h;exact⟨a,c,i _ _ d⟩
 | .indexB,x=>AE λy S P o i h=>by
   replace h:=Cb h;obtain⟨k,rfl,p,n,j,a,b,c,d,q⟩:=h;exact⟨p,n,j,a,b,c,d,i _ _ q⟩
 | .countB,x=>AE λy S P o i h=>by
   replace h:=Cb h;obtain⟨k,rfl,p,n,a,b,q⟩:=h;exact⟨p,n,a,b,i _ _ q⟩
noncomputable def rMt:MT->V->List V->Hp->VK->Prop
 | .append=>Jq
 | .extend=>Jr
 | .insert=>Js
 | .reverse=>Gf
 | .indexB=>Jv
 | .countB=>Ju
section
variable{K:Y2}{as:List A1G}{H:Hp}{S:Sto}
def RlAll.dropLast{xs:List SV}{vs:List V}(h:RlAll K as H vs xs):RlAll K as H vs.dropLast xs.dropLast:=by
 rw[A0J,A0J,h.length];exact h.take _
def BT{Q:VK}{k:Nat}{a:A1G}{xs c:List SV}{d:List V}{x:SV}{v:V}(g:Ok K as H S)(e:S[k]?=aA (.lst xs))(f:as[k]?=aA a)(r:RlAll K as H d c)(h:Post K as H Q x (S.set k (.lst c)))(i:Rl K as H v x):Q v (upd H a (.lst d)):=by
 obtain⟨b,j⟩:=g.write e f r;exact h as _ v (Go.write (Y7 f)) b (Rl.mono (Yh _) j x v i)
def O9:∀{m:MT} {Q:VK} {x:SV} {v:V} {xs:List SV} {vs:List V} (c:Ok K as H S) (g:Rl K as H v x) (r:RlAll K as H vs xs) (h:sMt m x xs S (Post K as H Q)),rMt m v vs H Q
 | .append,Q,x,v,xs,vs,c,g,r,h=>by
   replace h:=D1 h;obtain⟨y,rfl,h⟩:=h;replace h:=Cb h;obtain⟨k,rfl,B,d,o,t⟩:=h;obtain⟨a,p,rfl,q,f,e⟩:=v6 c g d;obtain⟨u,rfl,s⟩:=D3 r;exact⟨a,p,u,rfl,rfl,f,by rw[e.length];exact Ff o,BT c d q (e.append (.cons s .nil)) t (rl_non.mpr rfl)⟩
 | .extend,Q,x,v,xs,vs,c,g,r,h=>by
   replace h:=D1 h;obtain⟨y,rfl,h⟩:=h;replace h:=Cb h;obtain⟨k,rfl,h⟩:=h;replace h:=Cb h;obtain⟨l,rfl,B,I,d,o,t,A⟩:=h;obtain⟨a,p,rfl,q,f,e⟩:=v6 c g d;obtain⟨u,rfl,s⟩:=D3 r;obtain⟨b,F,rfl,J,G,E⟩:=v6 c s o;exact⟨a,b,p,F,rfl,rfl,f,G,by rw[e.length,E.length];exact An t,BT c d q (e.append E) A (rl_non.mpr rfl)⟩
 | .insert,Q,x,v,xs,vs,c,g,r,h=>by
   replace h:=Nx h;obtain⟨z,y,rfl,h⟩:=h;replace h:=Cb h;obtain⟨k,rfl,h⟩:=h;replace h:=DP h;obtain⟨i,rfl,B,d,o,t,A⟩:=h;obtain⟨a,p,rfl,q,f,e⟩:=v6 c g d;obtain⟨u,w,rfl,s,C⟩:=Lx r;rw[rl_int.mp s];exact⟨a,p,i,w,rfl,rfl,f,o.1,by rw[e.length];exact o.2,by rw[e.length];exact Ff t,BT c d q (e.ins C _) A (rl_non.mpr rfl)⟩
 | .reverse,Q,x,v,xs,vs,c,g,r,h=>by
   replace h:=Wi h;obtain⟨rfl,h⟩:=h;replace h:=Cb h;obtain⟨k,rfl,B,d,o⟩:=h;obtain⟨a,p,rfl,q,f,e⟩:=v6 c g d;rw[rla_nil.mp r];exact⟨a,p,rfl,rfl,f,BT c d q e.rev o (rl_non.mpr rfl)⟩
 | .countB,Q,x,v,xs,vs,c,g,r,h=>by
   replace h:=D1 h;obtain⟨y,rfl,h⟩:=h;replace h:=Cb h;obtain⟨k,rfl,D,n,rfl,d,A⟩:=h;obtain⟨a,p,rfl,q,f,e⟩:=v6 c g d;obtain⟨u,rfl,s⟩:=D3 r;rw[E1 e]at f;exact⟨a,D,n,rfl,by rw[rl_bl.mp s],f,A.here c (rl_int.mpr rfl)⟩
 | .indexB,Q,x,v,xs,vs,c,g,r,h=>by
   replace h:=D1 h;obtain⟨y,rfl,h⟩:=h;replace h:=Cb h;obtain⟨k,rfl,D,n,j,rfl,d,o,t,A⟩:=h;obtain⟨a,p,rfl,q,f,e⟩:=v6 c g d;obtain⟨u,rfl,s⟩:=D3 r;rw[E1 e]at f;exact⟨a,D,n,j,rfl,by rw[rl_bl.mp s],f,o,t,A.here c (rl_int.mpr rfl)⟩
end
mutual
inductive Tg where
 | nm (i:Nat) | tup (ts:Tgs)
inductive Tgs where
 | nil | cons (t:Tg) (ts:Tgs)
end
mutual
inductive Ex where
 | var (i:Nat) | c (x:SV) | op (o:A2q) (a b:Ex) | neg (a:Ex) | cmp (o:CmpOp) (a b:Ex) | chn (o p:CmpOp) (a b c:Ex)
 | and (a b:Ex) | or (a b:Ex) | not (a:Ex) | ife (t a b:Ex) | tup (es:Exs) | lst (es:Exs) | ix (a b:Ex)
 | call (f:Nat) (es:Exs) | bi (b:BI) (es:Exs) | mt (m:MT) (a:Ex) (es:Exs) | comp (own cn:List Str) (js:List Nat) (g:Tg) (it:Itb) (t:Eo) (e:Ex) | tyc (t:TyN) | max1 (a:Ex) | maxd (a d:Ex) | dnewl | dget2l (d e v:Ex) | dvalsl (a:Ex) | setdi (d e v:Ex) | mind (a d:Ex) | dnewp | setd (d e v:Ex) | srtset (a:Ex) | eqp (a b:Ex) | dnew | dget (a b:Ex) | isx (a:Ex) (x:Str) | isv (a:Ex) | no
inductive Exs where
 | nil | cons (e:Ex) (es:Exs)
inductive Eo where
 | no | yes (e:Ex)
inductive Itb where
 | seq (e:Ex) | rng1 (a:Ex) | rng2 (a b:Ex) | enum (e:Ex)
end
abbrev vA(a:Ex):Exs:=.cons a .nil
abbrev vB(a b:Ex):Exs:=.cons a (vA b)
abbrev vC(a b c:Ex):Exs:=.cons a (vB b c)
abbrev vD(a b c d:Ex):Exs:=.cons a (vC b c d)
abbrev vE(a b c d e:Ex):Exs:=.cons a (vD b c d e)
abbrev vH(a b c d e f:Ex):Exs:=.cons a (vE b c d e f)
abbrev vG(a b c d e f g:Ex):Exs:=.cons a (vH b c d e f g)
abbrev vI(a b c d e f g h:Ex):Exs:=.cons a (vG b c d e f g h)
abbrev vF(a b c d e f g h i:Ex):Exs:=.cons a (vI b c d e f g h i)
abbrev vJ:Ex:=.var 0
abbrev vK:Ex:=.var 1
abbrev vL:Ex:=.var 3
abbrev vM:Ex:=.var 2
abbrev vN:Ex:=.c (.int 1)
abbrev vO:Ex:=.var 4
abbrev vP:Ex:=.c .non
abbrev vQ:Ex:=.c (.int 0)
abbrev vR:Ex:=.var 5
abbrev vS:Ex:=.var 6
abbrev vT:Ex:=.var 7
abbrev vU:Ex:=.var 8
abbrev vV:Ex:=.c (.int 3)
abbrev vW:Ex:=.c (.bl aD)
abbrev vX:Ex:=.var 9
abbrev vY:Ex:=.c (.int 2)
abbrev vZ:Ex:=.var 10
abbrev kA:Ex:=.c (.int 2147483647)
abbrev kB:Ex:=.c (.int 5)
abbrev kC:Ex:=.c (.int 7)
abbrev kD:Ex:=.c (.int 48271)
abbrev kE:Ex:=.ix vJ vN
abbrev kF:Ex:=.bi .len (vA (.ix vL vN))
abbrev kG:Ex:=.lst .nil
abbrev kH:Ex:=.op .Mult (.bi .abs (vA vM)) (.bi .int (vA (.cmp .GtE (.bi .abs (vA vM)) (.op .Pow (.c (.int 10)) (.c (.int 18))))))
abbrev kI:Ex:=.lst (vB vL (.op .Mod (.op .Mult (.op .Mod (.op .Add (.op .Add vM (.op .Mult (.c (.int 7919)) vK)) vN) kA) kD) kA))
abbrev kJ:Ex:=.mt .extend vO (vA (.comp ["_law_j"] ["_law_k"] [7] (.nm 0) (.rng1 vT) .no (.tup (vB vJ vK))))
abbrev kK:Ex:=.ix (.lst (vB (.c (.str "")) (.c (.str "TooFew")))) (.bi .int (vA (.cmp .Lt vT vO)))
abbrev kM:Ex:=.and (.cmp .GtE vT vQ) (.cmp .NotEq (.call 51 (vD vL vX vZ vT)) (.c (.str "NoTie")))
abbrev kN:Ex:=.mt .append vL (vA (.tup (vB vU vO)))
abbrev kO:Ex:=.and (.cmp .GtE vT vQ) (.cmp .NotEq (.call 51 (vD vL vR vP vT)) vU)
abbrev kP:Ex:=.and (.cmp .GtE vT vQ) (.cmp .NotEq (.call 51 (vD vL vX vZ vT)) vU)
abbrev kQ:Ex:=.bi .len (vA kE)
abbrev kR:Ex:=.lst (vA (.tup (vB vT (.op .Mod (.op .Add vT vN) vV))))
abbrev kS:Ex:=.ife (.and (.cmp .IsNot vJ vP) (.cmp .Lt vJ vK)) vJ vP
abbrev kT:Ex:=.cmp .IsNot (.ix vK vM) vP
inductive Stm where
 | asg (t:Tg) (e:Ex) | par (i j:Nat) (a b:Ex) | put (o i e:Ex) | augS (o i e:Ex) | dputl (o i e:Ex) | expr (e:Ex) | iff (t:Ex) (a b:List Stm) | loop (g:Tg) (it:Itb) (b:List Stm) | whl (t:Ex) (b:List Stm) | tri (b:List Stm) | rse (x:Str) (c:XCls) (e:Ex) | exx (f:Nat) (es:Exs) | tryx (n i j:Nat) (dn:Str) (Dc:A1G) (b:List Stm)
 | ret (e:Ex) | no
def sOp:A2q->S2
 | .Add=>UX
 | .Sub=>CY λi j => .int (i - j)
 | .Mult=>UY
 | .FloorDiv=>Ij Vz λi j => .int (i / j)
 | .Mod=>Ij (λ_ j=>0<j) λi j => .int (i % j)
 | .Pow=>Ij W0 λi j => .int (i ^ j.toNat)
 | _=>λ_ _ _ _=>False
noncomputable def BE:CmpOp->S2
 | .Eq=>sEq
 | .NotEq=>sNe
 | .Lt=>CY λi j => .bl (decide (i<j))
 | .LtE=>CY λi j => .bl (decide (i<=j))
 | .Gt=>CY λi j => .bl (decide (j<i))
 | .GtE=>CY λi j => .bl (decide (j<=i))
 | .In=>sIn aD
 | .NotIn=>sIn aC
 | .Is=>Nr aD
 | .IsNot=>Nr aC
def OA:S1
 | .int i,S,Q=>Q (.int (-i)) S
 | _,_,_=>False
noncomputable def OB:SV->Sto->Option Bool
 | .bl b,_=>aA b
 | .tup xs,_=>aA (!xs.isEmpty)
 | .loc k,S=>match S[k]? with | some (.lst xs)=>aA (!xs.isEmpty) | _=>aB
 | _,_=>aB
noncomputable def Uh(w:WE):WT:=λc S Q=>w c S λx a=>∃ b,OB x a=aA b/\Q b a
def OC(a b:WE):WE:=λd S Q=>a d S λx e=>∃ c,x = .bl c/\if c=aC then b d e Q else Q (.bl aD) e
def wOr(a b:WE):WE:=λd S Q=>a d S λx e=>∃ c,x = .bl c/\if c=aC then Q (.bl aC) e else b d e Q
def R7(a:WE):WE:=λb S Q=>a b S λx d=>∃ c,x = .bl c/\Q (.bl (!c)) d
def E3(a b:WT):WT:=λd S Q=>a d S λc e=>if c=aC then b d e Q else Q aD e
def Ip(a b:WT):WT:=λd S Q=>a d S λc e=>if c=aC then Q aC e else b d e Q
def K5(a:WT):WT:=λb S Q=>a b S λc d=>Q (!c) d
def R8(t:WT)(a b:WE):WE:=λd S Q=>t d S λc e=>if c=aC then a d e Q else b d e Q
def OD(s s':S2)(a b c:WE):WE:=λρ S Q=>a ρ S λx S1=>b ρ S1 λy S2=>s x y S2 λz S3=>∃ k,z = .bl k/\if k=aC then c ρ S3 λu S4=>s' y u S4 Q else Q (.bl aD) S3
abbrev WO:=EnvS->Sto->(Option Int->Sto->Prop)->Prop
def Ui:WO:=λ_ S Q=>Q aB S
def OE(w:WE):WO:=λa S Q=>w a S λx b=>∃ i,x = .int i/\Q (aA i) b
noncomputable def Wm(xs:List SV)(a b:Option Int):List SV:=(xs.drop (HT.sIx xs.length 0 a)).take (HT.sIx xs.length xs.length b - HT.sIx xs.length 0 a)
abbrev WI:=EnvS->Sto->((Sto->Prop)->List SV->Sto->Prop)->Prop
def keepS:SV->Sto->Sto->Prop
 | .loc k,S,a=>a[k]?=S[k]?
 | _,_,_=>True
noncomputable def Sl(w:WE):WI:=λb S R=>w b S λx a=>∃ xs,seqS x a=aA xs/\R (keepS x a) xs a
def DQ(a b:Int):List SV:=(YJ (b - a).toNat).map λ(i:Nat) => .int (a+i)
def OF(w:WE):WI:=λa S R=>w a S λx b=>∃ j,x = .int j/\(-(2 ^ 62)<=j/\j<2 ^ 62)/\R (λ_=>True) (DQ 0 j) b
def OG(w u:WE):WI:=λa S R=>w a S λx b=>u a b λy c=>∃ i j,x = .int i/\y = .int j/\(-(2 ^ 62)<=i/\i<2 ^ 62 /\ -(2 ^ 62)<=j/\j<2 ^ 62)/\R (λ_=>True) (DQ i j) c
noncomputable def Be(xs:List SV):List SV:=(YJ xs.length).zipWith (λ(i:Nat) x => .tup [.int i,x]) xs
noncomputable def OH(w:WE):WI:=λb S R=>w b S λx a=>∃ xs,seqS x a=aA xs/\R (keepS x a) (Be xs) a
def OI(a:WE):WE:=λc S Q=>a c S λx b=>∃ k ns,x = .loc k/\b[k]?=aA (.lst (ns.map SV.int))/\0<ns.length/\∀ m,Grt ns m->Q (.int m) b
def OJ(a d:WE):WE:=λc S Q=>a c S λx e=>d c e λy b=>∃ k ps,x = .loc k/\y = .non/\b[k]?=aA (.lst (ps.map λp:Int×Int=>SV.tup [.int p.1,.int p.2]))/\(ps=[]->Q .non b)/\∀ p∈ps,Q (.tup [.int p.1,.int p.2]) b
noncomputable def dpv(a:List ((Int×Int)×Int))(k:Int×Int):Option Int:=(a.find? λp=>decide (p.1=k)).map (·.2)
noncomputable def OK(d e v:WE):WE:=λb S Q=>d b S λx g=>∃ k c,x = .loc k/\g[k]?=aA (.dtp c)/\e b g λy h=>v b h λz f=>∃ i j m a,y = .tup [.int i,.int j]/\z = .int m/\f[k]?=aA (.dtp a)/\a.length<big/\
 (∀ n,dpv a (i,j)=aA n->Q (.int n) f)/\(dpv a (i,j)=aB->Q (.int m) (f.set k (.dtp (a++[((i,j),m)]))))
def E4(a:List (List Int×SV))(k:List Int):Option SV:=(a.find? λp=>decide (p.1=k)).map (·.2)
def Fo(d e v:WE):WE:=λb S Q=>d b S λx f=>∃ k c,x = .loc k/\f[k]?=aA (.dtl c)/\e b f λy i=>v b i λz g=>∃(h:List Int) (a:List (List Int×SV)),y = .tup (h.map SV.int)/\g[k]?=aA (.dtl a)/\Q ((E4 a h).getD z) g
def Fp(a:WE):WE:=λd S Q=>a d S λx c=>∃ k b,x = .loc k/\c[k]?=aA (.dtl b)/\Q (.loc c.length) (c++[.lst (b.map (·.2))])
def FD(a:List (List Int×SV))(k:List Int)(x:SV):List (List Int×SV):=if (a.any λp=>decide (p.1=k))=aC then a.map (λp=>if p.1=k then (p.1,x) else p) else a++[(k,x)]
def K6:SV->SV->SV->Sto->(Sto->Prop)->Prop:=λx y v S Q=>∃(k:Nat) (b:List Int) (a:List (List Int×SV)),x = .loc k/\y = .tup (b.map SV.int)/\S[k]?=aA (.dtl a)/\a.length<big/\Q (S.set k (.dtl (FD a b v)))
def OL(a d:WE):WE:=λc S Q=>a c S λx e=>d c e λy b=>∃ k ns i,x = .loc k/\y = .int i/\b[k]?=aA (.lst (ns.map SV.int))/\(ns=[]->Q (.int i) b)/\∀ m,Grt ns m->Q (.int m) b
def Uj(x:Str)(a:WE):WE:=λd S Q=>a d S λv e=>∃(c:XCls) (C:A1G) (b:Bool),v = .exc c/\(x,C,b)∈c.tb/\Q (.bl b) e
def Uk(a:WE):WE:=λb S Q=>a b S λv d=>∃ c:XCls,v = .exc c/\Q (.bl aC) d
noncomputable def Fq(a:WE):WE:=λc S Q=>a c S λx b=>∃ xs ns,seqS x b=aA xs/\HE xs=aA ns/\ns.length<64/\Q (.loc b.length) (b++[.lst ((srt (Cw ns)).map SV.int)])
def D4(a:List (Int×SV))(i:Int):Option SV:=(a.find? λp=>decide (p.1=i)).map (·.2)
noncomputable def Sm(a:List (Int×SV))(i:Int)(x:SV):List (Int×SV):=if (a.any λp=>decide (p.1=i))=aC then a.map (λp=>if p.1=i then (p.1,x) else p) else a++[(i,x)]
noncomputable def R9:SV->Sto->Option (List (Int×SV))
 | .loc k,S=>match S[k]? with | some (.dct a)=>aA a | some (.dcf _ _ a)=>aA a | _=>aB
 | _,_=>aB
def Iq(d e v:WE):WE:=λb S Q=>d b S λx g=>∃ k c,x = .loc k/\g[k]?=aA (.dct c)/\e b g λy h=>v b h λz f=>∃(i:Int) (a:List (Int×SV)),y = .int i/\f[k]?=aA (.dct a)/\a.length<big/\
 (∀ n,D4 a i=aA n->Q n f)/\(D4 a i=aB->Q z (f.set k (.dct (a++[(i,z)]))))
noncomputable def K7:S2:=λx y S Q=>∃ a i v,R9 x S=aA a/\y = .int i/\D4 a i=aA v/\Q v S
def OM:S2:=λx y S Q=>∃ i j k l:Int,x = .tup [.int i,.int j]/\y = .tup [.int k,.int l]/\Q (.bl (decide (i=k/\j=l))) S
def Ir:WE:=λ_ S Q=>Q (.loc S.length) (S++[.dtp []])
def Iu:WE:=λ_ S Q=>Q (.loc S.length) (S++[.dtl []])
def ON:WE:=λ_ S Q=>Q (.loc S.length) (S++[.dct []])
def wMt(m:MT)(a:WE)(b:WA):WE:=λc S Q=>a c S λx d=>(∃ k xs,x = .loc k/\d[k]?=aA (.lst xs))/\b c d λxs e=>sMt m x xs e Q
mutual
noncomputable def wTg:Tg->SV->EnvS->(EnvS->Prop)->Prop
 | .nm i,x,a,Q=>Q (a.set i (aA x))
 | .tup ts,.tup xs,a,Q=>B1 ts xs a Q
 | .tup _,_,_,_=>False
noncomputable def B1:Tgs->List SV->EnvS->(EnvS->Prop)->Prop
 | .nil,[],a,Q=>Q a
 | .cons t ts,x::xs,a,Q=>wTg t x a λb=>B1 ts xs b Q
 | _,_,_,_=>False
end
def HF(k:Nat)(js:List Nat)(a:EnvS):EnvS:=YR k aB++js.map λj=>(a[j]?).join
abbrev WM(a:Type):=EnvS->a->Sto->(a->Sto->Prop)->Prop
noncomputable def wTG{e:Type}(c:Sto->Prop)(g:Tg)(t:WT)(f:WM e)(h:EnvS)(Q:e->Sto->Prop):List SV->e->Sto->Prop
 | [],a,S=>c S/\Q a S
 | x::xs,a,S=>c S/\wTg g x h λd=>t d S λb i=>if b=aC then f d a i λj k=>wTG c g t f h Q xs j k else wTG c g t f h Q xs a i
abbrev emL(e:WE):WM (List SV):=λb a S N=>e b S λy c=>a.length<big/\N (a++[y]) c
noncomputable abbrev wCG{b:Type}(k:Nat)(js:List Nat)(g:Tg)(i:WI)(t:WT)(d:WM b)(b0:b)(fin:QE->b->Sto->Prop):WE:=λc S Q=>i c S λa xs e=>wTG a g t d (HF k js c) (fin Q) xs b0 e
abbrev Ul{a:Type}(o:a->SO):QE->a->Sto->Prop:=λQ b S=>Q (.loc S.length) (S++[o b])
noncomputable abbrev OO(a:Sto->Prop)(g:Tg)(t:WT)(e:WE)(b:EnvS)(Q:List SV->Sto->Prop):=wTG a g t (emL e) b Q
noncomputable abbrev wKL(k:Nat)(js:List Nat)(g:Tg)(i:WI)(t:WT)(d:WM (List SV)):WE:=λb S Q=>i b S λa xs e=>wTG a g t d (HF k js b) (λf c=>Q (.loc c.length) (c++[.lst f])) xs [] e
noncomputable def tt1(w:WE):WE×WT:=(w,Uh w)
def wBl(w:WE):WT:=λa S Q=>w a S λx c=>∃ b,x = .bl b/\Q b c
def tt2(w:WE):WE×WT:=(w,wBl w)
def Wn:WT:=λ_ S Q=>Q aC S
mutual
noncomputable def wEx(Δ:Nat->Sn):Ex->WE×WT
 | .var i=>tt1 (UT i)
 | .c x=>tt1 (wC x)
 | .op o a b=>tt1 (w2 (sOp o) (wEx Δ a).1 (wEx Δ b).1)
 | .neg a=>tt1 (w1 OA (wEx Δ a).1)
 | .cmp o a b=>tt2 (w2 (BE o) (wEx Δ a).1 (wEx Δ b).1)
 | .chn o p a b c=>tt2 (OD (BE o) (BE p) (wEx Δ a).1 (wEx Δ b).1 (wEx Δ c).1)
 | .and a b=>(OC (wEx Δ a).1 (wEx Δ b).1,E3 (wEx Δ a).2 (wEx Δ b).2)
 | .or a b=>(wOr (wEx Δ a).1 (wEx Δ b).1,Ip (wEx Δ a).2 (wEx Δ b).2)
 | .not a=>(R7 (wEx Δ a).1,K5 (wEx Δ a).2)
 | .ife t a b=>(R8 (wEx Δ t).2 (wEx Δ a).1 (wEx Δ b).1,λ_ _ _=>False)
 | .tup es=>tt1 (wn Ql (Fs Δ es))
 | .lst es=>tt1 (wn Qm (Fs Δ es))
 | .ix a b=>tt1 (w2 sIx (wEx Δ a).1 (wEx Δ b).1)
 | .call f es=>tt1 (wn (Δ f) (Fs Δ es))
 | .bi b es=>tt1 (wn (sBi b) (Fs Δ es))
 | .mt m a es=>tt1 (wMt m (wEx Δ a).1 (Fs Δ es))
 | .comp own _ js g h t e=>tt1 (wKL own.length js g (RA Δ h) (wEo Δ t).2 (emL (wEx Δ e).1))
 | .tyc t=>tt1 (wC (.ty t))
 | .max1 a=>tt1 (OI (wEx Δ a).1)
 | .maxd a d=>tt1 (OL (wEx Δ a).1 (wEx Δ d).1)
 | .isx a x=>tt1 (Uj x (wEx Δ a).1)
 | .isv a=>tt1 (Uk (wEx Δ a).1)
 | .srtset a=>tt1 (Fq (wEx Δ a).1)
 | .eqp a b=>tt2 (w2 OM (wEx Δ a).1 (wEx Δ b).1)
 | .dnew=>tt1 ON
 | .dnewl=>tt1 Iu
 | .dget2l d e v=>tt1 (Fo (wEx Δ d).1 (wEx Δ e).1 (wEx Δ v).1)
 | .dvalsl a=>tt1 (Fp (wEx Δ a).1)
 | .setdi d e v=>tt1 (Iq (wEx Δ d).1 (wEx Δ e).1 (wEx Δ v).1)
 | .dnewp=>tt1 Ir
 | .setd d e v=>tt1 (OK (wEx Δ d).1 (wEx Δ e).1 (wEx Δ v).1)
 | .mind a d=>tt1 (OJ (wEx Δ a).1 (wEx Δ d).1)
 | .dget a b=>tt1 (w2 K7 (wEx Δ a).1 (wEx Δ b).1)
 | .no=>(λ_ _ _=>False,λ_ _ _=>False)
noncomputable def Fs(Δ:Nat->Sn):Exs->WA
 | .nil=>FC
 | .cons e es=>Dw (wEx Δ e).1 (Fs Δ es)
noncomputable def wEo(Δ:Nat->Sn):Eo->WO×WT
 | .no=>(Ui,Wn)
 | .yes e=>(OE (wEx Δ e).1,(wEx Δ e).2)
noncomputable def RA(Δ:Nat->Sn):Itb->WI
 | .seq e=>Sl (wEx Δ e).1
 | .rng1 a=>OF (wEx Δ a).1
 | .rng2 a b=>OG (wEx Δ a).1 (wEx Δ b).1
 | .enum e=>OH (wEx Δ e).1
end
structure EndsS where
 nx:EnvS->Sto->Prop
 rt:SV->Sto->Prop
 bk:EnvS->Sto->Prop:=λ_ _=>False
 ct:EnvS->Sto->Prop:=λ_ _=>False
abbrev WS:=EndsS->EnvS->Sto->Prop
noncomputable def HG:SV->SV->SV->Sto->(Sto->Prop)->Prop
 | .loc k,.int i,v,S,Q=>∃ xs j,S[k]?=aA (.lst xs)/\ixN xs.length i=aA j/\Q (S.set k (.lst (xs.set j v)))
 | _,_,_,_,_=>False
noncomputable def y6(a:Sto->Prop)(g:Tg)(b:WS)(D:EndsS):List SV->EnvS->Sto->Prop
 | [],c,S=>a S/\D.nx c S
 | x::xs,c,S=>a S/\wTg g x c λd=>b {D with nx:=y6 a g b D xs,ct:=y6 a g b D xs,bk:=D.nx} d S
noncomputable def Um(t:WT)(b:WS):WS:=λD d S=>∃ W:Nat->EnvS->Sto->Prop,(∃ m,W m d S)/\∀ m d S,W m d S->t d S λc g=>if c=aC then
 b {D with nx:=λa f=>∃ e,e<m/\W e a f,ct:=λa f=>∃ e,e<m/\W e a f,bk:=D.nx} d g else D.nx d g
abbrev rz:Nat:=1000000
abbrev tz:Nat:=2000000
def setE(Δ:Nat->Sn)(a:XCls->Sto->Prop):Nat->Sn:=λg=>match Nat.beq g rz with
 | true=>λxs S _=>∃ c,xs=[.exc c]/\a c S
 | false=>Δ g
def rX(Δ:Nat->Sn)(Q:QE):SV->Sto->Prop
 | .tup (v::_),S=>Q v S
 | .exc c,S=>Δ rz [.exc c] S λ_ _=>False
 | _,_=>False
def wCx(Δ:Nat->Sn)(f:Nat):Sn:=λxs S Q=>Δ (tz+f) xs S (rX Δ Q)
mutual
noncomputable def wSt:(Nat->Sn)->Stm->WS
 | Δ,.asg t e=>λD d S=>(wEx Δ e).1 d S λx h=>wTg t x d λq=>D.nx q h
 | Δ,.par i j a b=>λD d S=>(wEx Δ a).1 d S λx h=>(wEx Δ b).1 d h λy l=>D.nx ((d.set i (aA x)).set j (aA y)) l
 | Δ,.put o i e=>λD d S=>(wEx Δ e).1 d S λv h=>(wEx Δ o).1 d h λx l=>(wEx Δ i).1 d l λy r=>HG x y v r λm=>D.nx d m
 | Δ,.augS o i e=>λD d S=>(wEx Δ o).1 d S λx h=>(wEx Δ i).1 d h λy l=>∃(k:Nat) (j:Nat) (xs:List SV) (a:Int),x = .loc k/\y = .int j/\l[k]?=aA (.lst xs)/\xs[j]?=aA (.int a)/\(wEx Δ e).1 d l λv m=>∃(b:Int) (s:List SV),v = .int b/\m[k]?=aA (.lst s)/\j<s.length/\D.nx d (m.set k (.lst (s.set j (.int (a+b)))))
 | Δ,.dputl o i e=>λD d S=>(wEx Δ e).1 d S λv h=>(wEx Δ o).1 d h λx l=>(wEx Δ i).1 d l λy r=>K6 x y v r λm=>D.nx d m
 | Δ,.expr e=>λD d S=>(wEx Δ e).1 d S λ_ h=>D.nx d h
 | Δ,.iff t a b=>λD d S=>(wEx Δ t).2 d S λc h=>if c=aC then wSs Δ a D d h else wSs Δ b D d h
 | Δ,.loop g z b=>λD d S=>RA Δ z d S λp xs h=>y6 p g (wSs Δ b) D xs d h
 | Δ,.whl t b=>Um (wEx Δ t).2 (wSs Δ b)
 | Δ,.tri b=>wSs Δ b
 | Δ,.ret e=>λD d S=>(wEx Δ e).1 d S D.rt
 | Δ,.rse _ c e=>λD d S=>(wEx Δ e).1 d S λ_ h=>Δ rz [.exc c] h λ_ _=>False
 | Δ,.exx f es=>λD d S=>wn (wCx Δ f) (Fs Δ es) d S λ_ h=>D.nx d h
 | Δ,.tryx n _ j _ Dc b=>λD d S=>∃ u:XCls->Sto->Prop,(∀ c w,u c w->Dc∈c.un/\D.nx ((YR n aB).set j (aA (.exc c))) w)/\wSs (setE Δ u) b D d S
 | Δ,.no=>λ_ _ _=>False
noncomputable def wSs:(Nat->Sn)->List Stm->WS
 | Δ,[]=>λD a S=>D.nx a S
 | Δ,s::b=>λD a S=>wSt Δ s {D with nx:=wSs Δ b D} a S
end
def y7{α:Type}{P:Prop}{x:α}(h:(none:Option α)=aA x):P:=nomatch h
noncomputable def OP(a b:A1R):A1R:={a with names:=a.names.map λ(n,k)=>if (k == .free&&b.kind == .function&&b.names.lookup n == aA .cell) then (n,.cell) else (n,k)}
def i4:Expr->Bool
 | .Starred ..=>aD
 | _=>aC
def j4{e:Expr}{es:List Expr}{env:Env}(h:i4 e=aC):A1O (e::es) env=(aD,eval e env)::A1O es env:=by
 cases e<;>first | rfl | cases h
theorem Bf{env:Env}{pos:Pos}:∀{es:List Expr},es.all i4=aC->(backTo pos (A1O es env)).any (·.1)=aD
 | [],_=>rfl
 | e::es,h=>by
   rw[Z6,Y3]at h;rw[j4 h.1];exact Bf (es:=es) h.2
theorem FE{env:Env}{pos:Pos}:∀{es:List Expr},es.all i4=aC->(backTo pos (A1O es env)).all (λx=>!x.1)=aC
 | [],_=>rfl
 | e::es,h=>by
   rw[Z6,Y3]at h;rw[j4 h.1];exact FE (es:=es) h.2
noncomputable def glo(a:A1R)(x:Str):Bool:=a.names.lookup x == aA .globalImplicit&&!(x == ("__name__":Str))&&!(x == ("__debug__":Str))
noncomputable def vis(a:A1R)(x:Str):Bool:=a.names.lookup x == aA .local||a.names.lookup x == aA .cell||a.names.lookup x == aA .free
noncomputable def loc(a:A1R)(x:Str):Bool:=a.names.lookup x == aA .local||a.names.lookup x == aA .cell
noncomputable def Wo:SV->Const->Bool
 | .non,.none=>aC
 | .bl a,.bool b=>a == b
 | .int i,.int j=>decide (i=j)
 | .str x,.str y=>decide (x=y)
 | _,_=>aD
def AA:Expr->Bool
 | .Slice ..=>aD
 | _=>aC
def Ap:Expr->Bool
 | .Set ..=>aD
 | _=>aC
noncomputable def Iv:Expr->Bool
 | .UnaryOp .Not _ _=>aD
 | .BoolOp ..=>aD
 | .IfExp ..=>aD
 | .Compare ..=>aD
 | _=>aC
def AF:Expr->Bool
 | .Call (.Name _ _) [] [] _=>aD
 | _=>aC
def B4:Expr->Option Str
 | .Name x _=>aA x
 | _=>aB
def OQ:Expr->Option Const
 | .Constant k _ _=>aA k
 | _=>aB
noncomputable def Wq:Expr->Option (Expr×A2q×Expr)
 | .BinOp a o b _=>aA (a,o,b)
 | _=>aB
def vUn:Expr->Option (UnaryOp×Expr)
 | .UnaryOp o a _=>aA (o,a)
 | _=>aB
noncomputable def RB:Expr->Option (Expr×List CmpOp×List Expr)
 | .Compare a b bs _=>aA (a,b,bs)
 | _=>aB
noncomputable def OR:Expr->Option (BoolOp×List Expr×Pos)
 | .BoolOp o vs p=>aA (o,vs,p)
 | _=>aB
noncomputable def Wr:Expr->Option (Expr×Expr×Expr)
 | .IfExp t a b _=>aA (t,a,b)
 | _=>aB
def Ft:Expr->Option (List Expr)
 | .Tuple es _ _=>aA es
 | _=>aB
def Ws:Expr->Option (List Expr)
 | .List es _=>aA es
 | _=>aB
noncomputable def Ly:Expr->Option (Expr×Expr)
 | .Subscript a b _=>aA (a,b)
 | _=>aB
noncomputable def E5:Expr->Option (Expr×List Expr×List Keyword)
 | .Call f as a _=>aA (f,as,a)
 | _=>aB
def Iw:Expr->Nat
 | .Call _ _ _ p=>p.line
 | _=>0
noncomputable def OS:Expr->Option (Expr×Str×Nat)
 | .Attribute o n p=>aA (o,n,p.endLine)
 | _=>aB
def So:Expr->Option (Expr×List A34×A1R)
 | .ListComp e a s _=>aA (e,a,s)
 | _=>aB
noncomputable def K8:Expr->Option (List (Option Expr)×List Expr)
 | .Dict a vs _=>aA (a,vs)
 | _=>aB
def E6{r:Expr}{x:List (Option Expr)×List Expr}(h:K8 r=aA x):∃ p,r = .Dict x.1 x.2 p:=by cases r<;>first | (cases h;exact⟨_,rfl⟩) | exact y7 h
def AB{r:Expr}{x:Str}(h:B4 r=aA x):∃ p,r = .Name x p:=by cases r<;>first | (cases h;exact⟨_,rfl⟩) | exact y7 h
def Lz{r:Expr}{x:Const}(h:OQ r=aA x):∃ j p,r = .Constant x j p:=by cases r<;>first | (cases h;exact⟨_,_,rfl⟩) | exact y7 h
def RC{r:Expr}{x:Expr×A2q×Expr}(h:Wq r=aA x):∃ p,r = .BinOp x.1 x.2.1 x.2.2 p:=by cases r<;>first | (cases h;exact⟨_,rfl⟩) | exact y7 h
def OT{r:Expr}{x:UnaryOp×Expr}(h:vUn r=aA x):∃ p,r = .UnaryOp x.1 x.2 p:=by cases r<;>first | (cases h;exact⟨_,rfl⟩) | exact y7 h
def Fu{r:Expr}{x:Expr×List CmpOp×List Expr}(h:RB r=aA x):∃ p,r = .Compare x.1 x.2.1 x.2.2 p:=by cases r<;>first | (cases h;exact⟨_,rfl⟩) | exact y7 h
def HH{r:Expr}{x:BoolOp×List Expr×Pos}(h:OR r=aA x):r = .BoolOp x.1 x.2.1 x.2.2:=by cases r<;>first | (cases h;exact rfl) | exact y7 h
def RD{r:Expr}{x:Expr×Expr×Expr}(h:Wr r=aA x):∃ p,r = .IfExp x.1 x.2.1 x.2.2 p:=by cases r<;>first | (cases h;exact⟨_,rfl⟩) | exact y7 h
def By{r:Expr}{x:List Expr}(h:Ft r=aA x):∃ j p,r = .Tuple x j p:=by cases r<;>first | (cases h;exact⟨_,_,rfl⟩) | exact y7 h
def RE{r:Expr}{x:List Expr}(h:Ws r=aA x):∃ p,r = .List x p:=by cases r<;>first | (cases h;exact⟨_,rfl⟩) | exact y7 h
def Cc{r:Expr}{x:Expr×Expr}(h:Ly r=aA x):∃ p,r = .Subscript x.1 x.2 p:=by cases r<;>first | (cases h;exact⟨_,rfl⟩) | exact y7 h
def E7{r:Expr}{x:Expr×List Expr×List Keyword}(h:E5 r=aA x):∃ p,r = .Call x.1 x.2.1 x.2.2 p/\Iw r=p.line:=by cases r<;>first | (cases h;exact⟨_,rfl,rfl⟩) | exact y7 h
def OU{r:Expr}{x:Expr×Str×Nat}(h:OS r=aA x):∃ p,r = .Attribute x.1 x.2.1 p/\x.2.2=p.endLine:=by cases r<;>first | (cases h;exact⟨_,rfl,rfl⟩) | exact y7 h
def OV{r:Expr}{x:Expr×List A34×A1R}(h:So r=aA x):∃ p,r = .ListComp x.1 x.2.1 x.2.2 p:=by cases r<;>first | (cases h;exact⟨_,rfl⟩) | exact y7 h
def c4{α:Type}{o:Option α}{p:α->Bool}(h:o.any p=aC):∃ x,o=aA x/\p x=aC:=by
 cases o with
 | none=>cases h
 | some x=>exact⟨x,rfl,h⟩
def B5{α:Type}{l:List α}{x:α}(h:l.head?=aA x):l=x::l.tail:=by
 cases l with
 | nil=>cases h
 | cons y r=>cases h;rfl
noncomputable def l1{α:Type}:List α->Option α
 | [x]=>aA x
 | _=>aB
noncomputable def l2{α:Type}:List α->Option (α×α)
 | [x,y]=>aA (x,y)
 | _=>aB
def AJ{α:Type}{l:List α}{x:α}(h:l1 l=aA x):l=[x]:=by
 match l,h with
 | [y],h=>cases h;rfl
def CF{α:Type}{l:List α}{x:α×α}(h:l2 l=aA x):l=[x.1,x.2]:=by
 match l,h with
 | [y,z],h=>cases h;rfl
noncomputable def l3{α:Type}:List α->Option (α×α×α)
 | [x,y,z]=>aA (x,y,z)
 | _=>aB
noncomputable def RF(r:Expr):Option (Str×List Expr×Keyword):=(E5 r).bind λc=>match c.2.2 with
 | [a]=>(B4 c.1).map λx=>(x,c.2.1,a)
 | _=>aB
def K9{r:Expr}{x:Str×List Expr×Keyword}(h:RF r=aA x):∃ p q,r = .Call (.Name x.1 p) x.2.1 [x.2.2] q:=by
 unfold RF at h;cases hc:E5 r with
 | none=>rw[hc]at h;cases h
 | some c=>
   rw[hc]at h;obtain⟨q,e,_⟩:=E7 hc;obtain⟨f,a,b⟩:=c
   match b,h with
   | [d],h=>
     replace h:(B4 f).map (λx=>(x,a,d))=aA x:=h;cases hn:B4 f with
     | none=>rw[hn]at h;cases h
     | some nm=>
       rw[hn]at h;cases h;obtain⟨p,g⟩:=AB hn;exact⟨p,q,by rw[e,g]⟩
   | [],h=>cases h
   | _::_::_,h=>cases h
noncomputable def vFn(r:Expr):Option (Str×List Expr):=(E5 r).bind λc=>if c.2.2.isEmpty then (B4 c.1).map λx=>(x,c.2.1) else aB
def AS{r:Expr}{x:Str×List Expr}(h:vFn r=aA x):∃ p q,r = .Call (.Name x.1 p) x.2 [] q:=by
 unfold vFn at h;cases hc:E5 r with
 | none=>rw[hc]at h;cases h
 | some c=>
   rw[hc]at h;obtain⟨q,e,_⟩:=E7 hc;simp only[A05]at h;by_cases a:c.2.2.isEmpty=aC
   ·rw[iP a]at h;cases hn:B4 c.1 with
    | none=>rw[hn]at h;cases h
    | some y=>
      rw[hn]at h;cases h;obtain⟨p,b⟩:=AB hn;rw[e,b,Ym.mp a];exact⟨p,q,rfl⟩
   ·rw[iG a]at h;cases h
noncomputable def vMt(r:Expr):Option (Expr×Str×List Expr):=(E5 r).bind λc=>if c.2.2.isEmpty then (OS c.1).bind λa=>if a.2.2 == Iw r then aA (a.1,a.2.1,c.2.1) else aB else aB
def E8{r:Expr}{x:Expr×Str×List Expr}(h:vMt r=aA x):∃ f g,r = .Call (.Attribute x.1 x.2.1 f) x.2.2 [] g/\(f.endLine == g.line)=aC:=by
 unfold vMt at h;cases hc:E5 r with
 | none=>rw[hc]at h;cases h
 | some c=>
   rw[hc]at h;obtain⟨q,e,i⟩:=E7 hc;simp only[A05]at h;by_cases a:c.2.2.isEmpty=aC
   ·rw[iP a]at h;cases hn:OS c.1 with
    | none=>rw[hn]at h;cases h
    | some y=>
      rw[hn]at h;simp only[A05]at h;obtain⟨p,j,b⟩:=OU hn;by_cases d:(y.2.2 == Iw r)=aC
      ·rw[iP d]at h;cases h;refine⟨p,q,?_,?_⟩
       ·rw[e,j,Ym.mp a]
       ·rw[<-b,<-i];exact d
      ·rw[iG d]at h;cases h
   ·rw[iG a]at h;cases h
mutual
noncomputable def CG(k:Nat)(N:List Str)(a:A1R):Tg->Expr->Bool
 | .nm i,r=>(B4 r).any λx=>decide (i<k)&&decide (N[i]?=aA x)&&loc a x
 | .tup ts,r=>(Ft r).any λes=>Aq k N a ts es
noncomputable def Aq(k:Nat)(N:List Str)(a:A1R):Tgs->List Expr->Bool
 | .nil,r=>r.isEmpty
 | .cons t ts,r=>(r.head?).any λe=>CG k N a t e&&i4 e&&Aq k N a ts r.tail
end
noncomputable def nmB(N:List Str)(a:A1R)(i:Nat)(x:Str):Bool:=decide (N[i]?=aA x)&&vis a x&&!(x == ("__debug__":Str))&&!(x == ("__classdict__":Str))
mutual
noncomputable def m8(T:List Str)(N:List Str)(h:A1R):Ex->Expr->Bool
 | .var i,r=>(B4 r).any λx=>nmB N h i x
 | .c x,r=>(OQ r).any λk=>Wo x k
 | .op o a b,r=>(Wq r).any λv=>decide (o=v.2.1)&&m8 T N h a v.1&&m8 T N h b v.2.2
 | .neg a,r=>(vUn r).any λv=>decide (v.1 = .USub)&&m8 T N h a v.2
 | .cmp o a b,r=>(RB r).any λv=>(l1 v.2.2).any λn=>decide (v.2.1=[o])&&m8 T N h a v.1&&m8 T N h b n&&Ap n
 | .chn o p a b c,r=>(RB r).any λv=>(l2 v.2.2).any λl=>decide (v.2.1=[o,p])&&m8 T N h a v.1&&m8 T N h b l.1&&m8 T N h c l.2&&Ap l.2
 | .and a b,r=>(OR r).any λv=>decide (v.1 = .And)&&(v.2.1.head?).any λx=>m8 T N h a x&&(match l1 v.2.1.tail with | some y=>m8 T N h b y | none=>decide (2<=v.2.1.tail.length)&&m8 T N h b (.BoolOp .And v.2.1.tail v.2.2))
 | .or a b,r=>(OR r).any λv=>decide (v.1 = .Or)&&(v.2.1.head?).any λx=>m8 T N h a x&&(match l1 v.2.1.tail with | some y=>m8 T N h b y | none=>decide (2<=v.2.1.tail.length)&&m8 T N h b (.BoolOp .Or v.2.1.tail v.2.2))
 | .not a,r=>(vUn r).any λv=>decide (v.1 = .Not)&&m8 T N h a v.2
 | .ife t a b,r=>(Wr r).any λv=>m8 T N h t v.1&&m8 T N h a v.2.1&&m8 T N h b v.2.2
 | .tup es,r=>(Ft r).any λl=>B6 T N h es l
 | .lst es,r=>(Ws r).any λl=>B6 T N h es l
 | .ix a b,r=>(Ly r).any λv=>m8 T N h a v.1&&m8 T N h b v.2&&AA v.2
 | .call f es,r=>(vFn r).any λv=>decide (f+1<T.length/\T[f]?=aA v.1)&&glo h v.1&&B6 T N h es v.2&&!v.2.isEmpty
 | .bi b es,r=>(vFn r).any λv=>decide (b.name=v.1)&&glo h v.1&&B6 T N h es v.2&&!v.2.isEmpty
 | .mt m a es,r=>(vMt r).any λv=>decide (v.2.1=m.name)&&AF v.1&&decide (v.2.2.length<29)&&m8 T N h a v.1&&B6 T N h es v.2.2
 | .comp own q js g s t e,r=>(So r).any λv=>(l1 v.2.1).any λc=>decide (c.is_async=0)&&BB h v.2.2 own q N js&&CG own.length (own++q) (OP v.2.2 h) g c.target&&Uq T N h s c.target c.iter&&Ap c.iter&&KA T (own++q) (OP v.2.2 h) t c.ifs&&m8 T (own++q) (OP v.2.2 h) e v.1
 | .tyc t,r=>(B4 r).any λx=>decide (x=Str.ofString t.nm)&&glo h x&&decide (t ≠ .none)
 | .max1 a,r=>(vFn r).any λv=>(l1 v.2).any λj=>decide (v.1=("max":Str))&&glo h v.1&&m8 T N h a j&&i4 j
 | .dnewl,r=>(K8 r).any λv=>v.1.isEmpty&&v.2.isEmpty
 | .dget2l d e v,r=>(vMt r).any λu=>(l2 u.2.2).any λj=>decide (u.2.1=("get":Str))&&AF u.1&&m8 T N h d u.1&&m8 T N h e j.1&&i4 j.1&&m8 T N h v j.2&&i4 j.2
 | .dvalsl a,r=>(vFn r).any λv=>(l1 v.2).any λz=>(vMt z).any λu=>decide (v.1=("list":Str))&&glo h v.1&&decide (u.2.1=("values":Str))&&u.2.2.isEmpty&&AF u.1&&m8 T N h a u.1
 | .setdi d e v,r=>(vMt r).any λu=>(l2 u.2.2).any λj=>decide (u.2.1=("setdefault":Str))&&AF u.1&&m8 T N h d u.1&&m8 T N h e j.1&&i4 j.1&&m8 T N h v j.2&&i4 j.2
 | .mind a d,r=>(RF r).any λv=>(l1 v.2.1).any λj=>decide (v.1=("min":Str))&&glo h v.1&&m8 T N h a j&&m8 T N h d v.2.2.value&&i4 j&&decide (v.2.2.arg=aA ("default":Str))
 | .setd d e v,r=>(vMt r).any λu=>(l2 u.2.2).any λj=>decide (u.2.1=("setdefault":Str))&&AF u.1&&m8 T N h d u.1&&m8 T N h e j.1&&i4 j.1&&m8 T N h v j.2&&i4 j.2
 | .dnewp,r=>(K8 r).any λv=>v.1.isEmpty&&v.2.isEmpty
 | .maxd a d,r=>(RF r).any λv=>(l1 v.2.1).any λj=>decide (v.1=("max":Str))&&glo h v.1&&m8 T N h a j&&m8 T N h d v.2.2.value&&i4 j&&decide (v.2.2.arg=aA ("default":Str))
 | .isx a x,r=>(vFn r).any λv=>(l2 v.2).any λj=>decide (v.1=("isinstance":Str))&&glo h v.1&&m8 T N h a j.1&&i4 j.1&&(B4 j.2 == aA x)&&glo h x
 | .isv a,r=>(vFn r).any λv=>(l2 v.2).any λj=>decide (v.1=("isinstance":Str))&&glo h v.1&&m8 T N h a j.1&&i4 j.1&&(B4 j.2 == aA ("ValueError":Str))&&glo h "ValueError"
 | .srtset a,r=>(vFn r).any λv=>(l1 v.2).any λz=>(vFn z).any λu=>(l1 u.2).any λj=>decide (v.1=("sorted":Str))&&decide (u.1=("set":Str))&&glo h v.1&&glo h u.1&&m8 T N h a j&&i4 j
 | .eqp a b,r=>(RB r).any λv=>(l1 v.2.2).any λn=>decide (v.2.1=[.Eq])&&m8 T N h a v.1&&m8 T N h b n&&Ap n
 | .dnew,r=>(K8 r).any λv=>v.1.isEmpty&&v.2.isEmpty
 | .dget a b,r=>(Ly r).any λv=>m8 T N h a v.1&&m8 T N h b v.2&&AA v.2
 | .no,_=>aC
noncomputable def B6(T:List Str)(N:List Str)(a:A1R):Exs->List Expr->Bool
 | .nil,r=>r.isEmpty
 | .cons e es,r=>(r.head?).any λx=>m8 T N a e x&&i4 x&&B6 T N a es r.tail
noncomputable def Uo(T:List Str)(N:List Str)(a:A1R):Eo->Option Expr->Bool
 | .no,r=>r.isNone
 | .yes e,r=>r.any λx=>m8 T N a e x
noncomputable def KA(T:List Str)(N:List Str)(a:A1R):Eo->List Expr->Bool
 | .no,r=>r.isEmpty
 | .yes e,r=>(l1 r).any λx=>m8 T N a e x
noncomputable def Uq(T:List Str)(N:List Str)(c:A1R):Itb->Expr->Expr->Bool
 | .seq e,_,r=>m8 T N c e r
 | .rng1 a,_,r=>(vFn r).any λv=>(l1 v.2).any λd=>decide (v.1=("range":Str))&&glo c v.1&&m8 T N c a d&&i4 d
 | .rng2 a b,_,r=>(vFn r).any λv=>(l2 v.2).any λd=>decide (v.1=("range":Str))&&glo c v.1&&m8 T N c a d.1&&i4 d.1&&m8 T N c b d.2&&i4 d.2
 | .enum e,f,r=>(Ft f).isSome&&(vFn r).any λv=>(l1 v.2).any λa=>decide (v.1=("enumerate":Str))&&glo c v.1&&m8 T N c e a&&i4 a
end
noncomputable def spS(K:Y2)(w:Sn):Sp:=λvs H Q _=>∃ as S xs,Ok K as H S/\RlAll K as H vs xs/\w xs S (Post K as H Q)
structure Cal(P:A1L)(w:A1N)(K:Y2)(mg:Str->Option A1E)(base:Heap)(k:Nat)(x:Str)(ps:List Str)(sp:Sp):Prop where
 ex:∃ f fd,FnOk P w K mg base CX0 k f fd ps sp/\mg x=aA (.ref f)/\PySem.W.keepIn K (.ref f)=aC/\Binds K fd ps []
noncomputable def Me(X:Cx)(x:Str):Prop:=X.env.qual=x++".<locals>."/\(∀ c P,TabK X.K x c P->X.env.code = .ref c)/\X.A.depth+2<A2T/\X.A.units+110<cLine
structure NsK(K:Y2)(mg:Str->Option A1E):Prop where
 on:∀ x v,PySem.W.nsIn K A1I x=aA (aA v)->mg x=aA v
 off:∀ x,PySem.W.nsIn K A1I x=aA aB->mg x=aB
structure Cok(T:List Str)(Δ:Nat->Sn)(X:Cx)(k:Nat)(N:List Str)(sc:A1R):Prop where
 hN:X.N=N
 hs:X.env.scope=sc
 nd:N.Nodup
 calm:X.calm=aC
 fn:∀ i x,i<k->N[i]?=aA x->sc.names.lookup x=aA .cell->X.fn x=aC
 un:X.A.units+102<cLine
 bl:∀ b:BI,X.mg b.name=aB
 rng:X.mg "range"=aB
 enm:X.mg "enumerate"=aB
 rvs:X.mg "reversed"=aB
 zip:X.mg "zip"=aB
 sm0:X.mg "sum"=aB
 st0:X.mg "set"=aB
 dc0:X.mg "dict"=aB
 ty:∀ t:TyN,t ≠ .none->X.mg (Str.ofString t.nm)=aB
 gd:X.A.guards=aA []
 ns:NsK X.K X.mg
 me:∀ x,T.getLast?=aA x->Me X x
 call:∀ f x,f+1<T.length->T[f]?=aA x->∃ k ps,Cal X.prog X.w X.K X.mg X.base k x ps (spS X.K (Δ f))/\Room k X.A
 mono:∀ f,MonoN (Δ f)
noncomputable def isCmp:Expr->Bool
 | .ListComp ..=>aC
 | .DictComp ..=>aC
 | _=>aD
noncomputable def AsgC(X:Cx)(r:Expr)(w:WE):Prop:=∀(i:Nat) (x:Str) (b a:Pos),X.N.Nodup->X.N[i]?=aA x->X.env.scope.names.lookup x=aA .local->A2l r (aA (.Name x b)) a.line X.env=pure aC->PS X (.Assign [.Name x b] r a) (IR (lift X.K w) (GX i))
structure Good(X:Cx)(r:Expr)(w:WE×WT):Prop where
 pe:PE X r (lift X.K w.1)
 pt:PT X r (liftT X.K w.2)
 m:Mono w.1
 mt:MonoT w.2
 pw:∀ op vs p,r = .BoolOp op vs p->PW X r (liftT X.K w.2)
 cg:isCmp r=aC->AsgC X r w.1:=by intro h;cases h
section
variable{X:Cx}{r:Expr}{w:WE}
def MonoT.tru(m:Mono w):MonoT (Uh w):=λa S P c i h=>m _ _ _ _ (λx d ⟨b,e,q⟩=>⟨b,e,i _ _ q⟩) h
def MonoT.bl(m:Mono w):MonoT (wBl w):=λa S P c i h=>m _ _ _ _ (λx d ⟨b,e,q⟩=>⟨b,e,i _ _ q⟩) h
def Ur{K:Y2}{as:List A1G}{H:Hp}{S:Sto}{x:SV}{v:V}{b:Bool}(g:Ok K as H S)(r:Rl K as H v x)(e:OB x S=aA b):QR K v H b:=by
 cases x with
 | bl c=>cases e;rw[rl_bl.mp r];exact rfl
 | tup f=>
   cases e;obtain⟨p,d,rfl,h,i⟩:=rl_tup.mp r;refine .inr (.inl ⟨d,SqT.of h,?_⟩);have:=i.length;cases d<;>cases f<;>first | rfl | (simp at this)
 | loc k=>
   unfold OB at e;cases hs:S[k]? with
   | none=>simp only[hs]at e;cases e
   | some o=>
     cases o with
     | lst f=>
       simp only[hs]at e;cases e;obtain⟨a,d,rfl,_,j,l⟩:=v6 g r hs;refine .inl ⟨d,SqL.of j,?_⟩;have:=l.length;cases d<;>cases f<;>first | rfl | (simp at this)
     | iset _=>simp only[hs]at e;cases e
     | dtl _=>simp only[hs]at e;cases e
     | dtf _ _ _=>simp only[hs]at e;cases e
     | dtp _=>simp only[hs]at e;cases e
     | dct _=>simp only[hs]at e;cases e
     | dcf _ _ _=>simp only[hs]at e;cases e
     | tbl _ _=>simp only[hs]at e;cases e
 | _=>cases e
def Er{env:Env}(h:Iv r=aC):∀ a,isTrue r env a=(do let v <- a;standAt r.pos;holding [v] (truthy v)):=by
 intro a;cases r<;>first | rfl | (cases h;done) | (rename_i o _ _;cases o<;>first | rfl | cases h)
def RG{K:Y2}(m:Mono w):∀ d H Q,liftT K (Uh w) d H Q->lift K w d H λx c=>∃ k,QR K x c k/\Q k c:=by
 rintro d H Q ⟨i,j,S,l,n,h⟩;exact⟨i,j,S,l,n,m _ _ _ _ (λx o ⟨b,e,q⟩ f c v g a r=>⟨b,Ur a r e,q f c g a⟩) h⟩
def Ix{K:Y2}(m:Mono w):∀ a H Q,liftT K (wBl w) a H Q->lift K w a H λx c=>∃ k,x = .bl k/\Q k c:=by
 rintro a H Q ⟨i,j,S,l,n,h⟩;exact⟨i,j,S,l,n,m _ _ _ _ (λx o ⟨b,e,q⟩ d c v g f r=>⟨b,by subst e;exact rl_bl.mp r,q d c g f⟩) h⟩
def Good.one(a:PE X r (lift X.K w))(m:Mono w)(h:Iv r=aC)(b:isCmp r=aC->AsgC X r w:=by intro h;cases h):Good X r (tt1 w) where
 cg:=b
 pe:=a
 pt:=Dv _ (NC a (Er h)) (RG m)
 m:=m
 mt := .tru m
 pw:=λop c p e=>by rw[e]at h;cases h
def OW{X:Cx}{r:Expr}:PE X r (lift X.K λ_ _ _=>False):=λ_ _ _ _ _ _ h=>let ⟨_,_,_,_,_,z⟩:=h;z.elim
def HI{X:Cx}{r:Expr}:PT X r (liftT X.K λ_ _ _=>False):=λ_ _ _ _ _ _ h=>let ⟨_,_,_,_,_,z⟩:=h;z.elim
def OX{X:Cx}{r:Expr}:PW X r (liftT X.K λ_ _ _=>False):=λ_ _ _ _ _ _ _ h=>let ⟨_,_,_,_,_,z⟩:=h;z.elim
def Good.never:Good X r (λ_ _ _=>False,λ_ _ _=>False):=⟨OW,HI,λ_ _ _ _ _ h=>h,λ_ _ _ _ _ h=>h,λ_ _ _ _=>OX,λ_ _ _ _ _ _ _ _ _ _ _ _ _ _ _ h=>let ⟨_,_,_,_,_,z⟩:=h;z.elim⟩
end
def KB{o:A2q}:Mono2 (sOp o):=by
 unfold sOp;split<;>first | exact .add | exact .int0 | exact .mul | exact .int | exact λ_ _ _ _ _ _ h=>h
def AX{o:CmpOp}:Mono2 (BE o):=by
 unfold BE;split<;>first | exact .eq | exact .ne | exact .int0 | exact .in' | exact .isN
section
variable{X:Cx}
def OY{o:A2q}{d e:Expr}{p:Pos}{b c:WE}(g:PE X d (lift X.K b))(i:PE X e (lift X.K c))(j:Mono b)(k:Mono c):PE X (.BinOp d o e p) (lift X.K (w2 (sOp o) b c)):=by
 have a:∀{s:S2} {rr:R2},Mono2 s->OpR X (A2z o) rr->Bc X.K s rr->PE X (.BinOp d o e p) (lift X.K (w2 s b c)):=λl m f=>l7 _ (Vw m g i) (BS f l j k);have no:PE X (.BinOp d o e p) (lift X.K (w2 (λ_ _ _ _=>False) b c)):=a (λ_ _ _ _ _ _ h=>h) (rr:=λ_ _ _ _=>False) (λ_ _ _ _ _ _ _ _ _ _ _ _ h=>h.elim) (λ_ _ _ _ _ _ _ _ _ _ _ h=>h);cases o with
 | Add=>exact a .add Qr Qt
 | Sub=>exact a .int0 Tx (Bd λ_ _ _ _=>rl_int.mpr rfl)
 | Mult=>exact a .mul (op_mul.or UB) Qu
 | FloorDiv=>exact a .int QP (Fh λ_ _ _ _=>rl_int.mpr rfl)
 | Mod=>exact a .int Ty (Fh λ_ _ _ _=>rl_int.mpr rfl)
 | Pow=>exact a .int Tz (Fh λ_ _ _ _=>rl_int.mpr rfl)
 | _=>exact no
def E9(o:CmpOp)(a:X.A.units<cLine):∃ b:R2,OpR X (A1T o) b/\Bc X.K (BE o) b:=by
 cases o with
 | Eq=>exact⟨_,op_eq.or ((UE a).or (Qp a)),Ua⟩
 | NotEq=>exact⟨_,op_ne.or (UF a),Ub⟩
 | Lt=>exact⟨_,W1,Bd λ_ _ _ _=>rl_bl.mpr rfl⟩
 | LtE=>exact⟨_,W2,Bd λ_ _ _ _=>rl_bl.mpr rfl⟩
 | Gt=>exact⟨_,W3,Bd λ_ _ _ _=>rl_bl.mpr rfl⟩
 | GtE=>exact⟨_,W4,Bd λ_ _ _ _=>rl_bl.mpr rfl⟩
 | Is=>exact⟨_,U2,Qw⟩
 | IsNot=>exact⟨_,op_notN.or Lc,Nv⟩
 | In=>exact⟨_,Ud,Nu⟩
 | NotIn=>exact⟨_,Ls,Nu⟩
def Bg{o:CmpOp}{r:Expr}(h:Ap r=aC):A3z o r=aD:=by
 cases r<;>first | rfl | cases h
def M0{o:CmpOp}{i d:Expr}{p:Pos}{b c:WE}(r:X.A.units<cLine)(j:PE X i (lift X.K b))(k:PE X d (lift X.K c))(f:Mono b)(g:Mono c)(l:Ap d=aC):Good X (.Compare i [o] [d] p) (tt2 (w2 (BE o) b c)):=by
 obtain⟨s,n,a⟩:=E9 (X:=X) o r;have m:Mono (w2 (BE o) b c) := .two AX f g
 exact{pe:=l7 _ (Jh n j k (Bg l)) (BS a AX f g)
       pt:=Dv _ (Ji n j k (Bg l)) λq H Q h=>BS a AX f g q H _ (Ix m q H Q h)
       m:=m
       mt := .bl m
       pw:=λ_ _ _ e=>by cases e}
def HJ{o p:CmpOp}{a b c:WE}(ma:Mono a)(mb:Mono b)(mc:Mono c):Mono (OD (BE o) (BE p) a b c):=λρ S P P' i h=>ma _ _ _ _ (λx S1 h=>mb _ _ _ _ (λy S2 h=>AX _ _ _ _ _ (λz S3 ⟨k,e,q⟩=>⟨k,e,by
 cases k with
 | true=>rw[iP rfl]at q ⊢;exact mc _ _ _ _ (λu S4 h=>AX _ _ _ _ _ i h) q
 | false=>rw[iG YE]at q ⊢;exact i _ _ q⟩) h) h) h
def KC{K:Y2}{o p:CmpOp}{r r':R2}{a b c:WE}(s1:Bc K (BE o) r)(s2:Bc K (BE p) r')(ma:Mono a)(mb:Mono b)(mc:Mono c):∀ σ H Q,lift K (OD (BE o) (BE p) a b c) σ H Q->IU r r' (lift K a) (lift K b) (lift K c) σ H Q:=by
 rintro σ H Q ⟨as,ρ,S,ok,en,h⟩;refine⟨as,ρ,S,ok,en,ma _ _ _ _ (λx S1 h as1 H1 v g1 ok1 rv=>?_) h⟩;refine⟨as1,ρ,S1,ok1,en.mono g1.pre (g1.ku ok),mb _ _ _ _ (λy S2 h as2 H2 u g2 ok2 ru=>?_) h⟩;refine s1 as2 H2 S2 x y v u _ ok2 (Rl.mono g2.pre (g2.ku ok1) x v rv) ru (AX _ _ _ _ _ (λz S3 ⟨k,e,q⟩ as3 H3 t g3 ok3 rt=>?_) h);subst e;refine⟨k,rl_bl.mp rt,?_⟩;cases k with
 | true=>
   rw[iP rfl]at q ⊢;refine⟨as3,ρ,S3,ok3,(en.mono g1.pre (g1.ku ok)).mono (g2.trans g3).pre ((g2.trans g3).ku ok1),mc _ _ _ _ (λn S4 h as4 H4 m g4 ok4 rm=>?_) q⟩;exact s2 as4 H4 S4 y n u m Q ok4 (Rl.mono (g3.trans g4).pre ((g3.trans g4).ku ok2) y u ru) rm (AX _ _ _ _ _ (λf S5 hf=>hf.mono (((g1.trans g2).trans g3).trans g4)) h)
 | false=>
   rw[iG YE]at q ⊢;exact q as3 H3 _ ((g1.trans g2).trans g3) ok3 (rl_bl.mpr rfl)
def M1{o q:CmpOp}{n i c:Expr}{p:Pos}{d f g:WE}(r:X.A.units<cLine)(s:PE X n (lift X.K d))(t:PE X i (lift X.K f))(u:PE X c (lift X.K g))(j:Mono d)(k:Mono f)(l:Mono g)(z:Ap c=aC):Good X (.Compare n [o,q] [i,c] p) (tt2 (OD (BE o) (BE q) d f g)):=by
 obtain⟨B,v,b⟩:=E9 (X:=X) o r;obtain⟨C,w,a⟩:=E9 (X:=X) q r;have m:Mono (OD (BE o) (BE q) d f g):=HJ j k l;have x:A45 [o,q] [i,c]=aD:=Bg z
 exact{pe:=l7 _ (NA v w s t u x) (KC b a j k l)
       pt:=Dv _ (NB v w s t u x) λy H Q h=>KC b a j k l y H _ (Ix m y H Q h)
       m:=m
       mt := .bl m
       pw:=λ_ _ _ e=>by cases e}
end
section
variable{K:Y2}
def v4{c:Bool}{A B a b:Prop}(d:A->a)(e:B->b)(h:if c=aC then A else B):if c=aC then a else b:=by
 cases c with
 | true=>rw[iP rfl]at h ⊢;exact d h
 | false=>rw[iG YE]at h ⊢;exact e h
def Mono.and{a b:WE}(d:Mono a)(f:Mono b):Mono (OC a b):=λg S P j i h=>d _ _ _ _ (λx k ⟨c,e,q⟩=>⟨c,e,v4 (f _ _ _ _ i) (i _ _) q⟩) h
def Mono.or{a b:WE}(d:Mono a)(f:Mono b):Mono (wOr a b):=λg S P j i h=>d _ _ _ _ (λx k ⟨c,e,q⟩=>⟨c,e,v4 (i _ _) (f _ _ _ _ i) q⟩) h
def Mono.not{a:WE}(b:Mono a):Mono (R7 a):=λd S P f i h=>b _ _ _ _ (λx g ⟨c,e,q⟩=>⟨c,e,i _ _ q⟩) h
def MonoT.and{a b:WT}(c:MonoT a)(d:MonoT b):MonoT (E3 a b):=λe S P f i h=>c _ _ _ _ (λx g q=>v4 (d _ _ _ _ i) (i _ _) q) h
def MonoT.or{a b:WT}(c:MonoT a)(d:MonoT b):MonoT (Ip a b):=λe S P f i h=>c _ _ _ _ (λx g q=>v4 (i _ _) (d _ _ _ _ i) q) h
def MonoT.not{a:WT}(b:MonoT a):MonoT (K5 a):=λc S P d i h=>b _ _ _ _ (λx e q=>i _ _ q) h
def Mono.ifE{t:WT}{a b:WE}(mt:MonoT t)(c:Mono a)(d:Mono b):Mono (R8 t a b):=λe S P f i h=>mt _ _ _ _ (λx g q=>v4 (c _ _ _ _ i) (d _ _ _ _ i) q) h
def Post.at{as a:List A1G}{H b:Hp}{Q:VK}{x:SV}{S:Sto}{v:V}(h:Post K as H Q x S)(g:Go as H a b)(c:Ok K a b S)(r:Rl K a b v x):Q v b:=h a b v g c r
def KD{a b:WE}(m:Mono a)(n:Mono b):∀ g H Q,lift K (OC a b) g H Q->SQ (lift K a) (lift K b) g H Q:=by
 rintro g H Q ⟨o,j,S,k,l,h⟩;refine⟨o,j,S,k,l,m _ _ _ _ (λx p ⟨c,e,q⟩ i s v f d r=>?_) h⟩;subst e;refine⟨c,rl_bl.mp r,v4 (λq=>?_) (λq=>q.at f d (rl_bl.mpr rfl)) q⟩;exact⟨i,j,p,d,l.mono f.pre (f.ku k),n _ _ _ _ (λy t h=>h.mono f) q⟩
def OZ{a b:WE}(m:Mono a)(n:Mono b):∀ g H Q,lift K (wOr a b) g H Q->Vk (lift K a) (lift K b) g H Q:=by
 rintro g H Q ⟨o,j,S,k,l,h⟩;refine⟨o,j,S,k,l,m _ _ _ _ (λx p ⟨c,e,q⟩ i s v f d r=>?_) h⟩;subst e;refine⟨c,rl_bl.mp r,v4 (λq=>q.at f d (rl_bl.mpr rfl)) (λq=>?_) q⟩;exact⟨i,j,p,d,l.mono f.pre (f.ku k),n _ _ _ _ (λy t h=>h.mono f) q⟩
def RH{a:WE}(f:Mono a):∀ b H Q,lift K (R7 a) b H Q->SR (lift K a) b H Q:=by
 rintro b H Q ⟨g,i,S,j,k,h⟩;refine⟨g,i,S,j,k,f _ _ _ _ (λx o ⟨c,e,q⟩ l p v m d n=>?_) h⟩;subst e;exact⟨c,rl_bl.mp n,q.at m d (rl_bl.mpr rfl)⟩
def PostT.mono{as a:List A1G}{H c:Hp}{Q:Bool->Hp->Prop}{x:Bool}{S:Sto}(h:PostT K as H Q x S)(g:Go as H a c):PostT K a c Q x S:=λb d e=>h b d (g.trans e)
def HK{a b:WT}(l:MonoT a)(m:MonoT b):∀ g H Q,liftT K (E3 a b) g H Q->Vi (liftT K a) (liftT K b) g H Q:=by
 rintro g H Q ⟨n,i,S,j,k,h⟩;refine⟨n,i,S,j,k,l _ _ _ _ (λc o q d p f e=>?_) h⟩;refine v4 (λq=>?_) (λq=>q d p f e) q;exact⟨d,i,o,e,k.mono f.pre (f.ku j),m _ _ _ _ (λy r h=>h.mono f) q⟩
def KG{a b:WT}(l:MonoT a)(m:MonoT b):∀ g H Q,liftT K (Ip a b) g H Q->tOr (liftT K a) (liftT K b) g H Q:=by
 rintro g H Q ⟨n,i,S,j,k,h⟩;refine⟨n,i,S,j,k,l _ _ _ _ (λc o q d p f e=>?_) h⟩;refine v4 (λq=>q d p f e) (λq=>?_) q;exact⟨d,i,o,e,k.mono f.pre (f.ku j),m _ _ _ _ (λy r h=>h.mono f) q⟩
def Oa{a:WT}(f:MonoT a):∀ b H Q,liftT K (K5 a) b H Q->Vj (liftT K a) b H Q:=by
 rintro b H Q ⟨g,i,S,j,k,h⟩;exact⟨g,i,S,j,k,f _ _ _ _ (λc n q d l m e=>q d l m e) h⟩
def RI{t:WT}{a b:WE}(mt:MonoT t)(m:Mono a)(n:Mono b):∀ g H Q,lift K (R8 t a b) g H Q->tIf (liftT K t) (lift K a) (lift K b) g H Q:=by
 rintro g H Q ⟨o,i,S,j,k,h⟩;refine⟨o,i,S,j,k,mt _ _ _ _ (λc l q e r d f=>?_) h⟩;refine v4 (λq=>?_) (λq=>?_) q
 ·exact⟨e,i,l,f,k.mono d.pre (d.ku j),m _ _ _ _ (λy p h=>h.mono d) q⟩
 ·exact⟨e,i,l,f,k.mono d.pre (d.ku j),n _ _ _ _ (λy p h=>h.mono d) q⟩
end
section
variable{X:Cx}
def Fv{e:Expr}{t:TT}(t':TT)(h:PW X e t)(b:∀ a H Q,t' a H Q->t a H Q):PW X e t':=λc d s a H Q I f=>h c d s a H Q I (b a H Q f)
def Iy{x y:Expr}{p:Pos}{a b:WE×WT}(c:Good X x a)(d:Good X y b):Good X (.BoolOp .And [x,y] p) (OC a.1 b.1,E3 a.2 b.2):=
 have e:PW X (.BoolOp .And [x,y] p) (liftT X.K (E3 a.2 b.2)):=Fv _ (Mx c.pt (QI d.pt)) (HK c.mt d.mt)
 {pe:=l7 _ (Mz c.pe (My d.pe)) (KD c.m d.m),pt:=e.pt,m := .and c.m d.m,mt := .and c.mt d.mt,pw:=λ_ _ _ _=>e}
def Iz{x y z:Expr}{e:List Expr}{p:Pos}{a b:WE×WT}(c:Good X x a)(d:Good X (.BoolOp .And (y::z::e) p) b):Good X (.BoolOp .And (x::y::z::e) p) (OC a.1 b.1,E3 a.2 b.2):=
 have f:PW X (.BoolOp .And (x::y::z::e) p) (liftT X.K (E3 a.2 b.2)):=Fv _ (Mx c.pt (d.pw _ _ _ rfl)) (HK c.mt d.mt)
 {pe:=l7 _ (Mz c.pe d.pe) (KD c.m d.m),pt:=f.pt,m := .and c.m d.m,mt := .and c.mt d.mt,pw:=λ_ _ _ _=>f}
def M3{x y:Expr}{p:Pos}{a b:WE×WT}(c:Good X x a)(d:Good X y b):Good X (.BoolOp .Or [x,y] p) (wOr a.1 b.1,Ip a.2 b.2):=
 have e:PW X (.BoolOp .Or [x,y] p) (liftT X.K (Ip a.2 b.2)):=Fv _ (SN c.pt (Tl d.pt)) (KG c.mt d.mt)
 {pe:=l7 _ (SS c.pe (My d.pe)) (OZ c.m d.m),pt:=e.pt,m := .or c.m d.m,mt := .or c.mt d.mt,pw:=λ_ _ _ _=>e}
def M4{x y z:Expr}{e:List Expr}{p:Pos}{a b:WE×WT}(c:Good X x a)(d:Good X (.BoolOp .Or (y::z::e) p) b):Good X (.BoolOp .Or (x::y::z::e) p) (wOr a.1 b.1,Ip a.2 b.2):=
 have f:PW X (.BoolOp .Or (x::y::z::e) p) (liftT X.K (Ip a.2 b.2)):=Fv _ (SN c.pt (d.pw _ _ _ rfl)) (KG c.mt d.mt)
 {pe:=l7 _ (SS c.pe d.pe) (OZ c.m d.m),pt:=f.pt,m := .or c.m d.m,mt := .or c.mt d.mt,pw:=λ_ _ _ _=>f}
def M5{x:Expr}{p:Pos}{a:WE×WT}(b:Good X x a):Good X (.UnaryOp .Not x p) (R7 a.1,K5 a.2) where
 pe:=l7 _ (Tn b.pe) (RH b.m)
 pt:=Dv _ (Tm b.pt) (Oa b.mt)
 m := .not b.m
 mt := .not b.mt
 pw:=λ_ _ _ e=>by cases e
def M6{t x y:Expr}{p:Pos}{c a b:WE×WT}(d:Good X t c)(f:Good X x a)(g:Good X y b):Good X (.IfExp t x y p) (R8 c.2 a.1 b.1,λ_ _ _=>False) where
 pe:=l7 _ (N0 d.pt f.pe g.pe) (RI d.mt f.m g.m)
 pt:=HI
 m := .ifE d.mt f.m g.m
 mt:=λ_ _ _ _ _ h=>h
 pw:=λ_ _ _ e=>by cases e
def Us{i:Nat}{x:Str}{p:Pos}{N:List Str}{c:A1R}{T:List Str}{Δ:Nat->Sn}{k:Nat}(C:Cok T Δ X k N c)(d:N[i]?=aA x)(a:vis c x=aC)(e:(x == ("__debug__":Str))=aD)(f:(x == ("__classdict__":Str))=aD):PE X (.Name x p) (Mv i):=by
 have b:Vis X.env.scope x:=by
  rw[C.hs];unfold vis at a;simp only[Yj,bQ]at a;rcases a with(a | a) | a
  ·exact .inl a
  ·exact .inr (.inl a)
  ·exact .inr (.inr a)
 exact Mw (i:=i) (by rw[C.hN];exact d) b e f
def RJ{x:SV}{k:Const}{j:Nat}{p:Pos}(h:Wo x k=aC):Good X (.Constant k j p) (tt1 (wC x)):=by
 refine .one ?_ .c rfl;cases x with
 | non=>cases k with
   | none=>exact l7 _ Ti (Gz λ_ _=>rl_non.mpr rfl)
   | _=>cases h
 | bl=>cases k with
   | bool=>cases eq_of_beq h;exact l7 _ Vh (Gz λ_ _=>rl_bl.mpr rfl)
   | _=>cases h
 | int=>cases k with
   | int=>cases of_decide_eq_true h;exact l7 _ Th (Gz λ_ _=>rl_int.mpr rfl)
   | _=>cases h
 | str=>cases k with
   | str=>cases of_decide_eq_true h;exact l7 _ Tj (Gz λ_ _=>rl_str.mpr rfl)
   | _=>cases h
 | _=>cases h
def EA:Gy OA:=λx S P a i h=>by
 unfold OA at h ⊢;split at h
 ·exact i _ _ h
 ·exact h.elim
def M7{x:Expr}{p:Pos}{a:WE×WT}(b:Good X x a):Good X (.UnaryOp .USub x p) (tt1 (w1 OA a.1)):=by
 refine .one (l7 _ (Vx U0 b.pe) (US (λd H S x v Q c r h=>?_) EA b.m)) (.one EA b.m) rfl;unfold OA at h;split at h
 ·exact⟨_,rl_int.mp r,h.here c (rl_int.mpr rfl)⟩
 ·exact h.elim
def EB{b:Expr}(h:AA b=aC):Jo b:=λo i=>by cases b<;>first | rfl | cases h
def Ob{x y:Expr}{p:Pos}{a b:WE×WT}(c:Good X x a)(d:Good X y b)(h:AA y=aC):Good X (.Subscript x y p) (tt1 (w2 sIx a.1 b.1)):=
 .one (l7 _ (W9 (ix_list.or U8) c.pe d.pe (EB h)) (BS Ue .ix c.m d.m)) (.two .ix c.m d.m) rfl
def Wt(K:Y2)(as:List A1G)(H:Hp)(Q:Option Int->Hp->Prop):Option Int->Sto->Prop:=λb d=>∀ a c,Go as H a c->Ok K a c d->Q b c
noncomputable def Oc(K:Y2)(w:WO):St->Hp->(Option Int->Hp->Prop)->Prop:=λb H Q=>∃ as a S,Ok K as H S/\EnvOk K as H b a/\w a S (Wt K as H Q)
def MonoO(w:WO):Prop:=∀ a S (P b:Option Int->Sto->Prop),(∀ x c,P x c->b x c)->w a S P->w a S b
def MonoO.no:MonoO Ui:=λ_ _ _ _ i h=>i _ _ h
def MonoO.yes{w:WE}(m:Mono w):MonoO (OE w):=λ_ _ _ _ i h=>m _ _ _ _ (λx a ⟨k,e,q⟩=>⟨k,e,i _ _ q⟩) h
def Wu:PO X aB (Oc X.K Ui):=λa s b H Q I ⟨c,e,S,d,f,h⟩=>QT a s b H Q I (h c H (Go.refl _ _) d)
def Ut{x:Expr}{a:WE×WT}(d:Good X x a):PO X (aA x) (Oc X.K (OE a.1)):=λf s g H Q I ⟨i,j,S,l,n,h⟩=>
 QU d.pe f s g H Q I ⟨i,j,S,l,n,d.m _ _ _ _ (λy t ⟨k,e,q⟩ b o v p c r=>⟨k,by subst e;exact rl_int.mp r,q b o p c⟩) h⟩
def RlAll.cut{K:Y2}{as:List A1G}{H:Hp}{xs:List SV}{vs:List V}(h:RlAll K as H vs xs)(a b:Option Int):RlAll K as H (W8 vs a b) (Wm xs a b):=by
 unfold W8 Wm;rw[h.length];exact(h.drop _).take _
end
end Rf
namespace L2
open PySem PySem.Spec PyProof.Rows
abbrev ZipL(h:Heap)(z a c:A1G)(T:Nat)(b:Bool):Prop:=h.get? z=aA {cls := .type "zip",dict:=aB,data := .fields #[rawInt T,.bool b,.bool aD,.ref a,.ref c],slots:=#[]}
structure StZ(z TI TO i1 i2 l1 l2 d:A1G)(xs ys:Array A1E)(i:Nat)(h:Heap):Prop where
 zip:(i=0/\IsZip h z TI TO .none/\∃ a b,IsPair h TO a b)\/∃(T:Nat) (b:Bool) (o:Obj),ZipL h z TI TO T b/\h.get? T=aA o/\T≠z/\T≠i1/\T≠i2/\T≠d
 ti:IsPair h TI (.ref i1) (.ref i2)
 w1:h.IsListIter i1 l1 i/\h.IsList l1 xs
 w2:h.IsListIter i2 l2 i/\h.IsList l2 ys
section
variable{prog:A1L}{w:A1N}{A:A1Q}{E:A1E->A1F->Prop}{s:A1F}{z TI TO i1 i2 l1 l2 d:A1G}{xs ys:Array A1E}{i:Nat}
def StZ.keep{h h':Heap}(st:StZ z TI TO i1 i2 l1 l2 d xs ys i h)(l:d≠z/\d≠TO/\d≠i1/\d≠i2/\d≠TI/\d≠l1/\d≠l2)(k:∀ c o,c≠d->h.get? c=aA o->h'.get? c=aA o):StZ z TI TO i1 i2 l1 l2 d xs ys i h':=by
 obtain⟨g,m,n,p,q,r,t⟩:=l;refine⟨?_,k _ _ q.symm st.ti,⟨st.w1.1.at λo e=>k _ o n.symm e,st.w1.2.at λo e=>k _ o r.symm e⟩,⟨st.w2.1.at λo e=>k _ o p.symm e,st.w2.2.at λo e=>k _ o t.symm e⟩⟩;rcases st.zip with⟨e,f,a,b,u⟩ | ⟨T,b,o,f,v,x,y,B,j⟩
 ·exact .inl ⟨e,k _ _ g.symm f,a,b,k _ _ m.symm u⟩
 ·exact .inr ⟨T,b,o,k _ _ g.symm f,k _ _ j v,x,y,B,j⟩
end
section
variable{X:Cx}
noncomputable def M8(K:Y2)(b:TE):TE:=λc H Q=>b c H λx a=>∃(p:A1G) (ns:List Int),x = .ref p/\(SqL K a p (ns.map V.int)\/SqT K a p (ns.map V.int))/\ns.length<64/\∀ l,a l=aB->Q (.ref l) (upd a l (.lst ((srt (Cw ns)).map V.int)))
def HL{e:Expr}{J:TE}{S r i c:Pos}(v:X.calm=aC)(T:Gl X "sorted")(y:X.mg "sorted"=aB)(U:Gl X "set")(z:X.mg "set"=aB)(W:PE X e J)
 (L:A1O [e] X.env=(aD,eval e X.env)::A1O [] X.env:=by rfl)
 (M:A1O [.Call (.Name "set" r) [e] [] c] X.env=(aD,eval (.Call (.Name "set" r) [e] [] c) X.env)::A1O [] X.env:=by rfl)
 (A:(backTo i (A1O [] X.env)).any (·.1)=aD:=by rfl) (Y:(backTo c (A1O [] X.env)).any (·.1)=aD:=by rfl):
 PE X (.Call (.Name "sorted" S) [.Call (.Name "set" r) [e] [] c] [] i) (M8 X.K J):=by
 intro N s O H Q I h;refine A28 (B7 I T y Li ?_ (by decide) (by decide));refine PyProof.Rows.callWith_builtin1 ?_ M A;rw[M];show A1J _ _ (spliced ((aD,eval (.Call (.Name "set" r) [e] [] c) X.env)::backTo i (A1O [] X.env))) _ _ s;refine Calls.spliced_cons ?_;refine A28 (B7 I U z b_set ?_ (by decide) (by decide));refine PyProof.Rows.callWith_type1 ?_ L Y;rw[L];show A1J _ _ (spliced ((aD,eval e X.env)::backTo c (A1O [] X.env))) _ _ s;refine Calls.spliced_cons (thn (W N s O H _ I h) λu t ⟨x,Z,j,rx,p,ns,ex,k,hb,q1⟩=>Calls.spliced_nil ?_);subst ex;cases rx;cases k
 case' inl k=>
  obtain⟨g,m,B,hz⟩:=j.list k;have f:=m.length;rw[Y4]at f;refine WQ (items:=g.toArray) (ns:=ns) (j.ok.hd v) B.isList (by simpa using Ae m) (by simp only[YB];show g.length+1<4096;omega) λh' C n P=>?_
 case' inr k=>
  obtain⟨g,m,B,hz⟩:=j.tuple k;have f:=m.length;rw[Y4]at f;refine UV (items:=g.toArray) (ns:=ns) (j.ok.hd v) B (by simpa using Ae m) (by simp only[YB];show g.length+1<4096;omega) λh' C n P=>?_
 all_goals
  refine Calls.spliced_nil ?_;have k1:∀ b o,t.heap.get? b=aA o->h'.get? b=aA o:=λb o e=>P b o (YD e) e;have R:Inv X N O Z {t with heap:=h',toks:=C}:=j.kept k1
  have n:SetX X.prog X.w h' t.heap.objs.size (Cw ns):=by
   have e:g.toArray.size=ns.length:=by rw[YB,f]
   rw[e]at n;exact n
  refine Qf (s:={t with heap:=h',toks:=C}) (j.ok.hd v) n (Zl (A2X _ _) hb) λA D d l E e k3 q F G=>?_;refine⟨.ref l,_,(R.dr d).laid (h':=A) (a:=l) (o := .lst ((srt (Cw ns)).map V.int)) (t':=D) k3 q (show ObjOk X.prog X.w _ _ _ (.lst ((srt (Cw ns)).map V.int)) from ⟨?_,E.toList,e,Cu G,by simpa using F⟩),rfl,q1 l ((R.dr d).hok.fresh q)⟩;rw[Y4,(Gi _).length_eq];exact Ze (LW (Yg (A2X _ _) (by omega)))
end
theorem KT.at{H:Hp}:∀{b:List (List Key×V)} {xs:List (List Key×A1G×A1E)},KT H b xs->∀{i:Nat} {p:List Key×V},b[i]?=aA p->∃ q,xs[i]?=aA q/\H q.2.1=aA (.tup (p.1.map kV))
 | _,_,.nil,_,_,h=>by simp at h
 | _,_,.cons a t,0,p,h=>by simp at h;subst h;exact⟨_,rfl,a.2.1⟩
 | _,_,.cons a t,i+1,p,h=>by
   obtain⟨q,e,z⟩:=KT.at t (i:=i) (p:=p) (by simpa using h);exact⟨q,by simpa using e,z⟩
section
variable{X:Cx}{o e f:Expr}{apos cpos:Pos}{td ty tx:TE}
noncomputable def Uu(h ty i:TE):TE:=λc H Q=>h c H λx g=>∃ a,x = .ref a/\IsD g a/\ty c g λy j=>i c j λz d=>∃ b k,y=kV k/\d a=aA (.dK b)/\b.length<A1M/\
 (∀ v,A9 b k=aA v->Q v d)/\(A9 b k=aB->Q z (upd d a (.dK (B0 b k z))))
def Od(J:PE X o td)(l:PE X e ty)(K:PE X f tx)(m:M2 X o "setdefault" apos e f cpos):PE X (.Call (.Attribute o "setdefault" apos) [e,f] [] cpos) (Uu td ty tx):=by
 intro n s p H Q I h;refine A31 m.base m.few m.line PySem.F.plainAttrs_dict PySem.F.slot_dict_setdefault PySem.F.type_dict_setdefault (thn (J n s p H _ I h) λu L A=>?_);obtain⟨x,M,B,N,a,O,d,P⟩:=A;subst O;obtain rfl:u=Value.ref a:=N;obtain⟨R,S,_⟩:=Ie B d;refine⟨R,S,?_⟩;rw[m.trees]
 refine Calls.callWith_builtin rfl (Calls.evalArgs_plain (Calls.spliced_cons (thn (l n L p M _ B P) λiv T ⟨y,U,V,W,Y⟩=>
  Calls.spliced_cons (thn (K n T p U _ V Y) λZ s3 ⟨z,H3,r,C,b,k,ey,D,A,qs,qn⟩=>Calls.spliced_nil ?_))))
 subst ey;obtain⟨hl,E,vs,c,G⟩:=Sa r.hok D;refine A2P PySem.F.slot_dict_setdefault G.typeIs PySem.F.entry_dict_setdefault (PySem.F.args_dict_setdefault_3 _ _ _) (kt_meets_setdefault (t7 X.prog X.w) a (Gm W) E Z) ⟨vs,G,by rw[<-c.length];exact hl,λv e=>?_,λe h' j hs=>?_⟩
 ·have g:=c.val k;rw[e]at g;cases i:A9 b k with
  | none=>rw[i]at g;exact g.elim
  | some w=>rw[i]at g;exact⟨w,H3,r.tok _,g,qs w i⟩
 ·have i:A9 b k=aB:=by
   have g:=c.val k;rw[e]at g;cases i:A9 b k with
   | none=>rfl
   | some v=>rw[i]at g;exact g.elim
  refine⟨z,_,?_,C,qn i⟩;have t:(B0 b k z).length<=A1M:=by have:=B3 b k z;omega
  have l:∃ q,h'.get? a=aA q:=let ⟨q,_,_,hq,_⟩:=j;⟨q,hq⟩
  exact DU r (by rw[D];exact True.intro) hs l (NS t E (c.put k C) j)
end
section
variable{X:Cx}
def KH(n:X.A.units<cLine):OpR X (A1T .Eq) (λx y H Q=>∃ a b,∃ i j k l:Int,x = .ref a/\y = .ref b/\SqT X.K H a [.int i,.int j]/\SqT X.K H b [.int k,.int l]/\Q (.bl (decide (i=k/\j=l))) H):=by
 intro D s E H x y v u Q I o p h;obtain⟨a,b,i,j,k,l,rfl,rfl,r,t,q⟩:=h;cases o;cases p;obtain⟨c,d,w,_⟩:=I.tuple r;obtain⟨f,g,z,_⟩:=I.tuple t;have B:=d.length;have C:=g.length;refine(SeqAt.RcAt.tuples (A:=X.A) (s:=s) (e:=λm=>eqV (([.int i,.int j]:List V).getD m .non) (([.int k,.int l]:List V).getD m .non)) w z n (CL d g (.inl ⟨rfl,rfl⟩))) _ _ _ _ ⟨.bl _,H,I,?_,q⟩;show Value.bool _=Value.bool _
 congr 1
 rw[YB,YB,<-B,<-C];show(List.all [0,1] _&&(2 == 2))=_;simp[eqV,Bool.decide_and,Bool.beq_eq_decide_eq]
end
end L2
namespace PySem
def DEn(h:Heap)(d:A1G)(es:Array A2r)(ep:Nat):Prop:=∃ o,h.get? d=aA o/\o.ExactDict/\o.data = .dict es ep
def DEn.keep{h h':Heap}{d:A1G}{es:Array A2r}{ep:Nat}(x:DEn h d es ep)(k:∀ o,h.get? d=aA o->h'.get? d=aA o):DEn h' d es ep:=let ⟨o,e,r⟩:=x;⟨o,k o e,r⟩
def DEn.lt{h:Heap}{d:A1G}{es:Array A2r}{ep:Nat}(x:DEn h d es ep):d<h.objs.size:=let ⟨_,e,_⟩:=x;YD e
section
variable{prog:A1L}{w:A1N}{A:A1Q}{E:A1E->A1F->Prop}{s:A1F}
def DR{v d:A1G}{es:Array A2r}{ep:Nat}{Q:A1E->A1F->Prop}(b:s.heap.IsValuesView v d)(g:DEn s.heap d es ep)
 (h:Q (.ref s.heap.objs.size) {s with heap:=s.heap.push {cls := .type "dict_valueiterator",data := .fields #[.ref d,.int 0 0,.int es.size 0,.int ep 0]}}):A1J (A1K prog w) A (pyIter (.ref v)) Q E s:=by
 obtain⟨i,c,_,e⟩:=id b;obtain⟨o,f,_,a⟩:=id g;refine A33 b.typeIs F.slot_dict_values_iter (A1Y F.slot_dict_values_iter b.typeIs F.entry_dict_values_iter ?_ (F.args_dict_values_iter_1 _));unfold Builtin.«dict_values.__iter__»;refine A1D (A1H (A1D ?_));unfold Builtin.Dict_items.dictOf;refine A1D (A30 c e (x := .ref d) rfl (A1H (A1D ?_)));unfold Builtin.Dict_items.newIterator;refine A1D (A2F f a (A1D (A3l f a ?_)));simp only[show Builtin.Dict_items.ownsTuple "dict_valueiterator"=aD by decide,Z5,if_false];refine A1S (A1H ⟨_,rfl,"dict_valueiterator",_,⟨_,YI _ rfl,rfl⟩,F.slot_dict_valueiterator_next.lookup,?_⟩);simpa[rawInt] using h
def Bh{c d:A1G}{i ep:Nat}{es:Array A2r}{e:A2r}{Q:Option A1E->A1F->Prop}(a:s.heap.IsValIter c d i es.size ep)(n:DEn s.heap d es ep)(j:es[i]?=aA e)
 (p:∀ k,k.IsValIter c d (i+1) es.size ep->Ye c s.heap k->Q (aA e.val) {s with heap:=k}):A1J (A1K prog w) A (pyNext (.ref c)) Q E s:=by
 obtain⟨o,l,q,h⟩:=id a;obtain⟨t,f,_,g⟩:=id n;have r:i<es.size:=(A0f.mp j).1;have m:es[i]=e:=(A0f.mp j).2;unfold pyNext;refine A1D (A2K (A20 (name:=Str.ofString "__next__") a.typeIs F.slot_dict_valueiterator_next (A1Y F.slot_dict_valueiterator_next a.typeIs F.entry_dict_valueiterator_next ?_ (F.args_dict_valueiterator_next_1 _))));refine A1D (A1H (A1D (A1D ?_)))
 first | refine A1D (A2b a.typeIs (A1H ?_)) | refine A1D (A2k a.typeIs (A1H ?_))
 refine A1D (A2Y l h ?_);simp only[show Builtin.Dict_items.ownsTuple "dict_valueiterator"=aD by decide,Z5,if_false];show A1J _ _ (if (Value.ref d == Value.none)=aC then _ else _) _ _ s;rw[iG (show ¬ ((Value.ref d == Value.none)=aC) from YE)];refine A1D (A1H (A1D (A2F f g ?_)));rw[iG (by simp)];refine A1D (A1H (A1D (A3l f g ?_)));rw[iG (by simp)];refine A1H ?_;simp only[show ¬ ((i:Int)<0) from by omega,if_false,ZM,j];refine A1D ?_
 first | refine A1D (A2b a.typeIs (A1H ?_)) | refine A1D (A2k a.typeIs (A1H ?_))
 refine A1D (A2G a.typeIs ?_);show A1J _ _ (A3c (.ref c) 1 (rawInt ((i:Int)+1)) >>= _) _ _ s;refine A1D (A25 l h (by simp) ?_)
 have b:(s.heap.update c (Obj.mapFields (·.setIfInBounds 1 (rawInt ((i:Int)+1))))).IsValIter c d (i+1) es.size ep:=
  ⟨_,Yc _ l (Obj.isFreed_of_fields (Obj.data_mapFields h _)),(Obj.cls_mapFields ..).trans q,by rw[Obj.data_mapFields h];simp[rawInt]⟩
 refine A1D (A1W (A1D (A2G (s:={s with heap:=s.heap.update c (Obj.mapFields (·.setIfInBounds 1 (rawInt ((i:Int)+1))))}) b.typeIs ?_)));refine A1D (A2G (s:={s with heap:=s.heap.update c (Obj.mapFields (·.setIfInBounds 1 (rawInt ((i:Int)+1))))}) b.typeIs ?_);show A1J _ _ (pure e.val) _ _ _;exact A1H (A1H ⟨_,rfl,A1H (p _ b (Ye.update ..))⟩)
def C7{g d:A1G}{ep:Nat}{es:Array A2r}{Q:Option A1E->A1F->Prop}(k:A.handled=aB)(c:s.heap.IsValIter g d es.size es.size ep)(l:DEn s.heap d es ep)
 (n:∀ h,A0O g s.heap h->Q aB {s with heap:=h}):A1J (A1K prog w) A (pyNext (.ref g)) Q E s:=by
 obtain⟨o,i,p,j⟩:=id c;obtain⟨q,e,_,f⟩:=id l;unfold pyNext;refine A1D (A2K (A20 (name:=Str.ofString "__next__") c.typeIs F.slot_dict_valueiterator_next (A1Y F.slot_dict_valueiterator_next c.typeIs F.entry_dict_valueiterator_next ?_ (F.args_dict_valueiterator_next_1 _))));refine A1D (A1H (A1D (A1D ?_)))
 first | refine A1D (A2b c.typeIs (A1H ?_)) | refine A1D (A2k c.typeIs (A1H ?_))
 refine A1D (A2Y i j ?_);simp only[show Builtin.Dict_items.ownsTuple "dict_valueiterator"=aD by decide,Z5,if_false];show A1J _ _ (if (Value.ref d == Value.none)=aC then _ else _) _ _ s;rw[iG (show ¬ ((Value.ref d == Value.none)=aC) from YE)];refine A1D (A1H (A1D (A2F e f ?_)));rw[iG (by simp)];refine A1D (A1H (A1D (A3l e f ?_)));rw[iG (by simp)];refine A1H ?_;simp only[show ¬ ((es.size:Int)<0) from by omega,if_false,ZM,A0B (YF es.size)];refine A1D ?_
 first | refine A1D (A2b c.typeIs (A1H ?_)) | refine A1D (A2k c.typeIs (A1H ?_))
 show A1J _ _ (A3c (.ref g) 0 .none >>= _) _ _ s;refine A1D (A25 i j (by simp) ?_);show A1J _ _ (newExc (.type "StopIteration") [] >>= _) _ _ _;refine A1D ?_;simp only[newExc,newTuple];refine A1D (A1S ?_ (by size_fits));refine A1D (m:=A2w _ _) (A2L (a:=Value.none) (by first | rfl | (simp only[A2w];rfl)) ?_);refine A1S ?_ (by size_fits);simp only[A3X];refine A1D (A3A ?_);rw[show A.in1.handled=aB from k];refine A1D (A1H (A3O ?_));refine A1D (A3d (T:="StopIteration") (b:=aC) ⟨_,YI _ rfl,rfl⟩ A41 ?_);exact A1H (n _ (((Ye.update ..).extBut.push _).push _))
def DS(q:A.handled=aB)(I d:A1G)(k:d≠I)(es:Array A2r)(ep:Nat):
 Walks prog w A I [I,d] [I] es.size (λi v=>∃ e,es[i]?=aA e/\e.val=v) (λi h=>h.IsValIter I d i es.size ep/\DEn h d es ep) where
 sub:=λb c=>by simp at c;simp[c]
 frame:=λ_ _ _ a n=>⟨a.1.at λo e=>n I (by simp) o e,a.2.keep λo e=>n d (by simp) o e⟩
 item:=λi s Q E p a f=>by
  refine Bh (e:=es[i]) a.1 a.2 (by simp[p]) λl g j=>?_;exact f es[i].val l s.toks ⟨es[i],by simp[p],rfl⟩ ⟨g,a.2.keep λo e=>j.extBut _ _ k e⟩ λb o c e=>j.extBut b o (λh=>c (by simp[h])) e
 done:=λs Q E a f=>C7 q a.1 a.2 λl m=>f l s.toks λb o c e=>m b o (λh=>c (by simp[h])) e
 self:=λ_ _ _ _ a f=>wpAny_pyIter_valiter a.1 f
end
def EC{prog:A1L}{w:A1N}{d r:A1G}{es:Array A2r}{ep:Nat}:PySem.W.KdlSrc prog w "dict_values" r d es.size (λi v=>∃ e,es[i]?=aA e/\e.val=v) (λh=>h.IsValuesView r d/\DEn h d es ep) where
 type:=λ_ a=>a.1.typeIs
 there:=λ_ a=>⟨let ⟨_,b,_⟩:=a.1;YD b,a.2.lt⟩
 keep:=λ_ _ a f=>⟨let ⟨o,b,x⟩:=a.1;⟨o,f r (.inl rfl) o b,x⟩,a.2.keep λo e=>f d (.inr rfl) o e⟩
 notList:=by decide
 notTuple:=by decide
 hint:=λ_ _ _ _ a c=>PySem.W.kdl_hint_values a.1.typeIs c
 iter:=λ_ _ g a=>⟨_,_,(λ_ _ c=>DR a.1 a.2 c),DS g _ d (YG a.2.lt) es ep,⟨⟨_,YI _ rfl,rfl,rfl⟩,a.2.keep λo e=>Y8 _ e⟩⟩
def D5{prog:A1L}{w:A1N}(d:A1G)(a:(d == A22)=aD):
 MeetsIn prog w (Builtin.«dict.values» ⟨[.ref d],[]⟩) (λ_ R s=>s.TypeIs (.ref d) "dict"/\R (.ok (.ret (.ref s.heap.objs.size))) {s with heap:=s.heap.push {cls := .type "dict_values",data := .fields #[.ref d]}}):=
 .of_wp λA R s ⟨b,h⟩=>by
  refine A1D ?_;unfold Builtin.Dict.noArgs;refine A1D (A3p b ?_);show A1J _ _ (pure d) _ _ s;refine A1H ?_;show A1J _ _ (Builtin.Dict.showsAll d >>= _) _ _ s;unfold Builtin.Dict.showsAll;rw[iG (by rw[a];exact YE)];exact A1D (A1H (A1D (A1S (A1H ⟨_,rfl,h⟩))))
end PySem
namespace L2
open PySem PySem.Spec PyProof.Rows
section
variable{X:Cx}{o:Expr}{apos cpos pos p:Pos}{td:TE}
noncomputable def Wv(d:TE):TE:=λe H Q=>d e H λx c=>∃ a b,x = .ref a/\c a=aA (.dT b)/\∀ p,c p=aB->Q (.ref p) (upd c p (.lst (b.map (·.2))))
theorem DY{H:Hp}:∀{a:List (List Key×V)} {xs:List (List Key×A1G×A1E)},KT H a xs->Vals (a.map (·.2)) (xs.map λx=>x.2.2)
 | _,_,.nil => .nil
 | _,_,.cons h r => .cons h.2.2 (DY r)
def RK(Y:X.calm=aC)(Z:Gl X "list")(hm:X.mg "list"=aB)(hv:A1P "list"=aA (.type "list"))(ho:PE X o td)
 (l:A2J o "values" X.env (eval o X.env)=eval o X.env:=by rfl) (m:(apos.endLine == cpos.line)=aC:=by rfl)
 (O:A1O [.Call (.Attribute o "values" apos) [] [] cpos] X.env=[(aD,eval (.Call (.Attribute o "values" apos) [] [] cpos) X.env)]:=by rfl):
 PE X (.Call (.Name "list" p) [.Call (.Attribute o "values" apos) [] [] cpos] [] pos) (Wv td):=by
 intro P s R H Q I h;refine A28 (B7 I Z hm hv ?_);refine PyProof.Rows.callWith_type1 (rest:=[]) ?_ O rfl;rw[O];refine Calls.spliced_cons ?_;refine A36 l m (thn (ho P s R H _ I h) λv E B=>?_);obtain⟨x,S,G,r1,a,n,e,hd,q⟩:=B;subst e;cases r1;obtain⟨B,J,C,K,L⟩:=NR G.hok hd;obtain⟨t,es,ep,d,f,u,w,_,_⟩:=id L;refine⟨"dict","dict.values",PySem.F.plainAttrs_dict,PySem.F.slot_dict_values,PySem.F.type_dict_values,⟨t,d,f.1⟩,λb eb=>by cases eb;exact⟨t,d,f.2.1⟩,Calls.callWith_builtin rfl (PySem.evalArgs_none ?_)⟩;refine A2P PySem.F.slot_dict_values ⟨t,d,f.1⟩ PySem.F.entry_dict_values (PySem.F.args_dict_values_1 _) (D5 a J) ⟨⟨t,d,f.1⟩,?_⟩;refine Calls.spliced_nil ?_
 have y:es.size=n.length:=by
  have D:=congrArg A0M w;rw[Yw,Y4]at D;rw[D];exact(by have:=(DY K).length;simpa using this.symm)
 refine PySem.W.kdl_call (A:=X.A) (EC (es:=es) (ep:=ep)) (G.ok.hd Y) ⟨⟨_,YI _ rfl,rfl,rfl⟩,t,Y8 _ d,f,u⟩ (by rw[y];exact B) λh' tk g c k hS i=>?_;have T:Inv X P R S {E with heap:=E.heap.push {cls := .type "dict_values",data := .fields #[.ref a]}}:=G.kept (t':=E.toks) λb t q=>Y8 _ q
 have r:g.toList=C.map λx=>x.2.2:=by
  have hl:g.toList.length=(C.map λx=>x.2.2).length:=by
   rw[Yw,i.1,y];have:=(DY K).length;simpa using this
  refine ZN λj=>?_;by_cases U:j<g.toList.length
  ·obtain⟨D,M,N⟩:=i.2 j g.toList[j] (by rw[<-Z4];simp[U]);have V:C[j]?=aA (C[j]'(by rw[Y4]at hl;omega)):=by simp
   have z:es.toList[j]?=aA D:=by rw[Z4];exact M
   rw[w,YA,V]at z;cases z;rw[YA,V];simp only[Y6 U,Zd];exact congrArg aA N.symm
  ·rw[Yd (by omega),Yd (by omega)]
 refine⟨.ref _,upd S _ (.lst (n.map (·.2))),T.laid (t':=tk) (o := .lst (n.map (·.2))) k (YF _) ⟨by rw[Y4];exact B,g.toList,c,by rw[r];exact DY K,by rw[Array.toArray_toList];exact hS⟩,rfl,q _ (T.hok.fresh (YF _))⟩
end
end L2
namespace Rf
open PySem L2
structure GoodA(X:Cx)(rs:List Expr)(w:WA):Prop where
 pa:PA X rs (liftA X.K w)
 m:MonoA w
section
variable{X:Cx}
def M9:GoodA X [] FC:=⟨Qj,.nil⟩
def J1{x:Expr}{xs:List Expr}{a:WE×WT}{b:WA}(c:Good X x a)(d:GoodA X xs b)(e:i4 x=aC):GoodA X (x::xs) (Dw a.1 b):=⟨No c.m d.m c.pe d.pa (j4 e),.cons c.m d.m⟩
def MA{a:List Expr}{j:Nat}{p:Pos}{w:WA}(h:GoodA X a w):Good X (.Tuple a j p) (tt1 (wn Ql w)) := .one (l7 _ (U5 h.pa) (Qn h.m)) (.n .tup h.m) rfl
def MB{a:List Expr}{p:Pos}{w:WA}(h:GoodA X a w):Good X (.List a p) (tt1 (wn Qm w)) := .one (l7 _ (U6 h.pa) (Qo h.m)) (.n .lst h.m) rfl
def Oe{K:Y2}{s:Sn}{w:WA}(d:MonoN s)(m:MonoA w):∀ a H Q,lift K (wn s w) a H Q->NE (spS K s) [] E0 (liftA K w) a H Q:=by
 rintro a H Q ⟨e,f,S,g,i,h⟩;refine⟨e,f,S,g,i,m _ _ _ _ (λj k l b n o p c q=>?_) h⟩;show spS K s (o++[]) n Q E0;rw[Z2];exact⟨b,k,j,c,q,d _ _ _ _ (λz t r=>r.mono p) l⟩
def J2{T:List Str}{Δ:Nat->Sn}{k f:Nat}{N:List Str}{c:A1R}{x:Str}{y:Expr}{b:List Expr}{p q:Pos}{w:WA}(C:Cok T Δ X k N c)(e:f+1<T.length/\T[f]?=aA x)(a:glo c x=aC)(h:GoodA X (y::b) w)(g:i4 y=aC)(i:b.all i4=aC):Good X (.Call (.Name x p) (y::b) [] q) (tt1 (wn (Δ f) w)):=by
 obtain⟨d,u,j,l⟩:=C.call f x e.1 e.2;obtain⟨v,z,F,o,r,s⟩:=j.ex;unfold glo at a;simp only[Y3,bQ,YS]at a;have t:Gl X x:=by show X.env.scope.names.lookup x=_;rw[C.hs];exact a.1.1
 exact .one (l7 _ (Jk F l t o r s .nil WG h.pa a.2 (j4 g) (Bf i)) (Oe (C.mono f) h.m)) (.n (C.mono f) h.m) rfl
def Ww:A1P "abs"=aA (.builtin "abs"):=by decide +kernel
def Sq:A1P "min"=aA (.builtin "min"):=by decide +kernel
def Of:A1P "max"=aA (.builtin "max"):=by decide +kernel
def Wx:A1P "len"=aA (.builtin "len"):=by decide +kernel
def Wy:A1P "all"=aA (.builtin "all"):=by decide +kernel
def Sr:A1P "int"=aA (.type "int"):=by decide +kernel
def J3:A1P "list"=aA (.type "list"):=by decide +kernel
def Og:A1P "isinstance"=aA (.builtin "isinstance"):=by decide +kernel
def Ss:A1P "str"=aA (.type "str"):=by decide +kernel
def Uv:A1P "bool"=aA (.type "bool"):=by decide +kernel
def b_set:A1P "set"=aA (.type "set"):=by decide +kernel
def KI:A1P "tuple"=aA (.type "tuple"):=by decide +kernel
def Uw:A1P "repr"=aA (.builtin "repr"):=by decide +kernel
def Oh{T:List Str}{Δ:Nat->Sn}{k:Nat}{N:List Str}{i:A1R}{b:BI}{y:Expr}{g:List Expr}{p q:Pos}{w:WA}(C:Cok T Δ X k N i)(a:glo i b.name=aC)(h:GoodA X (y::g) w)(j:i4 y=aC)(l:g.all i4=aC):Good X (.Call (.Name b.name p) (y::g) [] q) (tt1 (wn (sBi b) w)):=by
 unfold glo at a;simp only[Y3,bQ,YS]at a;have c:Gl X b.name:=by show X.env.scope.names.lookup b.name=_;rw[C.hs];exact a.1.1
 have d:=C.bl b;have e:=j4 (es:=g) (env:=X.env) j;have f:=Bf (env:=X.env) (pos:=q) l;refine .one (l7 (t:=tCB (rBi X.K b) (liftA X.K w)) _ ?_ (We Ug .bi h.m)) (.n .bi h.m) rfl;cases b with
 | len=>exact w9 Fa c d Wx h.pa (by decide) a.2 e f
 | abs=>exact w9 ND c d Ww h.pa (by decide) a.2 e f
 | min=>exact w9 (LO C.calm) c d Sq h.pa (by decide) a.2 e f
 | max=>exact w9 (LN C.calm) c d Of h.pa (by decide) a.2 e f
 | int=>exact Bw LP c d Sr h.pa (by decide) a.2 e f
 | list=>exact Bw Fb c d J3 h.pa (by decide) a.2 e f
 | tuple=>exact Bw Ej c d KI h.pa (by decide) a.2 e f
 | all=>exact w9 (LZ C.calm) c d Wy h.pa (by decide) a.2 e f
 | any=>exact w9 (Lo C.calm) c d Wa h.pa (by decide) a.2 e f
 | sorted=>exact w9 Gj c d NQ h.pa (by decide) a.2 e f
 | isi=>exact w9 (call_isi1.or LY) c d Og h.pa (by decide) a.2 e f
 | repr=>exact w9 (λ_ _ _ _ _ _ _ _ _ h=>False.elim h) c d Uw h.pa (by decide) a.2 e f
 | str=>exact Bw (λ_ _ _ _ _ _ _ _ _ h=>False.elim h) c d Ss h.pa (by decide) a.2 e f
def Mono.mt{m:MT}{a:WE}{b:WA}(c:Mono a)(d:MonoA b):Mono (wMt m a b):=λf S P g i h=>c _ _ _ _ (λx j ⟨e,h⟩=>⟨e,d _ _ _ _ (λk l h=>Fn _ _ _ _ i h) h⟩) h
def p9{ro:Expr}{nm:Str}{env:Env}{a:Sem A1E}(h:AF ro=aC):A2J ro nm env a=a:=by
 cases ro with
 | Call f b c p=>
   cases f with
   | Name x q=>
     cases b with
     | nil=>cases c with
       | nil=>cases h
       | cons _ _=>rfl
     | cons _ _=>rfl
   | _=>rfl
 | _=>rfl
def Oi{K:Y2}{as:List A1G}{H:Hp}{S:Sto}{k:Nat}{v:V}{xs:List SV}(b:Ok K as H S)(r:Rl K as H v (.loc k))(c:S[k]?=aA (.lst xs)):tyV K "list" v H:=by
 obtain⟨a,e,rfl,_,d,_⟩:=v6 b r c;exact .inl ⟨rfl,_,SqL.of d⟩
def Ux{K:Y2}{m:MT}{a:WE}{b:WA}(r:Mono a)(s:MonoA b):∀ d H Q,lift K (wMt m a b) d H Q->tBM K "list" (rMt m) (lift K a) (liftA K b) d H Q:=by
 rintro d H Q ⟨t,n,S,o,p,h⟩;refine⟨t,n,S,o,p,r _ _ _ _ (λx u ⟨⟨j,A,e,f⟩,h⟩ g B v i c q=>?_) h⟩;subst e;refine⟨Oi c q f,g,n,u,c,p.mono i.pre (i.ku o),s _ _ _ _ (λC D h w E F k l y=>?_) h⟩;exact O9 l (Rl.mono k.pre (k.ku c) _ v q) y (Fn _ _ _ _ (λz G f=>f.mono (i.trans k)) h)
def RL{K:Y2}{m:MT}{a:WE}(g:Mono a):∀ c H Q,lift K (wMt m a FC) c H Q->U9 K "list" (rMt m) (lift K a) c H Q:=by
 rintro c H Q ⟨i,k,S,l,n,h⟩;refine⟨i,k,S,l,n,g _ _ _ _ (λx q ⟨⟨j,r,e,d⟩,h⟩ o s v p b f=>?_) h⟩;subst e;exact⟨Oi b f d,O9 b f .nil (Fn _ _ _ _ (λz t d=>d.mono p) h)⟩
def Oj{m:MT}{ro y:Expr}{c:List Expr}{w k:Pos}{a:WE×WT}{b:WA}(d:Good X ro a)(e:GoodA X (y::c) b)(f:AF ro=aC)(g:(w.endLine == k.line)=aC)(B:(y::c).length<29)(z:i4 y=aC)(A:c.all i4=aC):Good X (.Call (.Attribute ro m.name w) (y::c) [] k) (tt1 (wMt m a.1 b)):=by
 have h:=j4 (es:=c) (env:=X.env) z;have i:=Bf (env:=X.env) (pos:=k) A
 have j:((backTo k (A1O (y::c) X.env)).all (λx=>!x.1)&&(A2U k (A2v [] X.env)).all (λx=>x.1.isSome)
  && decide ((y::c).length+([]:List Keyword).length+(if ([]:List Keyword).isEmpty then 0 else 1)<30))=aC:=by
  rw[FE (by rw[Z6,z,A];rfl)];simp only[A06,Y3,dQ];exact⟨rfl,by show(y::c).length+0+0<30;omega⟩
 refine .one (l7 (t:=tBM X.K "list" (rMt m) (lift X.K a.1) (liftA X.K b)) _ ?_ (Ux d.m e.m)) (.mt d.m e.m) rfl;cases m with
 | append=>exact F1 PySem.F.plainAttrs_list PySem.F.slot_list_append PySem.F.type_list_append Cp d.pe e.pa (p9 f) j g h i
 | extend=>exact F1 PySem.F.plainAttrs_list PySem.F.slot_list_extend PySem.F.type_list_extend F3 d.pe e.pa (p9 f) j g h i
 | insert=>exact F1 PySem.F.plainAttrs_list PySem.F.slot_list_insert PySem.F.type_list_insert F5 d.pe e.pa (p9 f) j g h i
 | reverse=>exact F1 PySem.F.plainAttrs_list PySem.F.slot_list_reverse PySem.F.type_list_reverse Dq d.pe e.pa (p9 f) j g h i
 | countB=>exact F1 PySem.F.plainAttrs_list PySem.F.slot_list_count PySem.F.type_list_count (λl s n H x o v p Q I r u q=>F7 l s n H x o v p Q I r u q) d.pe e.pa (p9 f) j g h i
 | indexB=>exact F1 PySem.F.plainAttrs_list PySem.F.slot_list_index PySem.F.type_list_index (λl s n H x o v p Q I r u q=>F8 l s n H x o v p Q I r u q) d.pe e.pa (p9 f) j g h i
def MC{m:MT}{ro:Expr}{k l:Pos}{a:WE×WT}(b:Good X ro a)(c:AF ro=aC)(d:(k.endLine == l.line)=aC):Good X (.Call (.Attribute ro m.name k) [] [] l) (tt1 (wMt m a.1 FC)):=by
 refine .one (l7 (t:=U9 X.K "list" (rMt m) (lift X.K a.1)) _ ?_ (RL b.m)) (.mt b.m .nil) rfl;cases m with
 | append=>exact Co PySem.F.plainAttrs_list PySem.F.slot_list_append PySem.F.type_list_append Cp b.pe (p9 c) d
 | extend=>exact Co PySem.F.plainAttrs_list PySem.F.slot_list_extend PySem.F.type_list_extend F3 b.pe (p9 c) d
 | insert=>exact Co PySem.F.plainAttrs_list PySem.F.slot_list_insert PySem.F.type_list_insert F5 b.pe (p9 c) d
 | reverse=>exact Co PySem.F.plainAttrs_list PySem.F.slot_list_reverse PySem.F.type_list_reverse Dq b.pe (p9 c) d
 | countB=>exact Co PySem.F.plainAttrs_list PySem.F.slot_list_count PySem.F.type_list_count (λe s f H x g v h Q I i j q=>F7 e s f H x g v h Q I i j q) b.pe (p9 c) d
 | indexB=>exact Co PySem.F.plainAttrs_list PySem.F.slot_list_index PySem.F.type_list_index (λe s f H x g v h Q I i j q=>F8 e s f H x g v h Q I i j q) b.pe (p9 c) d
def MD{T:List Str}{Δ:Nat->Sn}{k:Nat}{N:List Str}{e:A1R}{t:TyN}{p:Pos}(C:Cok T Δ X k N e)(a:glo e (Str.ofString t.nm)=aC)(d:t ≠ .none):Good X (.Name (Str.ofString t.nm) p) (tt1 (wC (.ty t))):=by
 unfold glo at a;simp only[Y3,bQ,YS]at a;have f:Gl X (Str.ofString t.nm):=by show X.env.scope.names.lookup _=_;rw[C.hs];exact a.1.1
 have b:A1P (Str.ofString t.nm)=aA (.type t.nm):=by cases t<;>first | exact Sr | exact Uv | exact Ss | exact J3 | exact KI | exact absurd rfl d
 exact .one (l7 _ (Jc (v := .ty t.nm) f (C.ty t d) b rfl (by cases t<;>first | decide | exact absurd rfl d) a.2) (Gz λ_ _=>rl_ty.mpr rfl)) .c rfl
def DH{a:WE}(m:Mono a):Mono (Fq a):=λg S P j i h=>m _ _ _ _ (λx k ⟨e,f,b,c,d,q⟩=>⟨e,f,b,c,d,i _ _ q⟩) h
def FF{a:WE}(m:Mono a):Mono (OI a):=λe S P f i h=>m _ _ _ _ (λx j ⟨k,d,a,b,c,q⟩=>⟨k,d,a,b,c,λm g=>i _ _ (q m g)⟩) h
def FG{a d:WE}(m:Mono a)(f:Mono d):Mono (OL a d):=λn S P o i h=>m _ _ _ _ (λx p h=>f _ _ _ _ (λy r ⟨k,j,z,a,b,c,l,q⟩=>⟨k,j,z,a,b,c,λe=>i _ _ (l e),λm g=>i _ _ (q m g)⟩) h) h
theorem RlD.length{K:Y2}{as:List A1G}{H:Hp}:∀{a:List (Int×SV)} {b:List (Key×V)},RlD K as H b a->b.length=a.length
 | [],_,h=>by rw[show _=[] from h];rfl
 | p::r,_,⟨v,t,e,_,h⟩=>by rw[e,Ya,Ya,RlD.length h]
def RlAll.perm{K:Y2}{as:List A1G}{H:Hp}{h c:List V}(p:c.Perm h):∀{xs:List SV},RlAll K as H h xs->∃ a,RlAll K as H c a/\a.Perm xs:=by
 induction p with
 | nil=>exact λ{xs} r=>⟨xs,r,.refl _⟩
 | cons v _ i=>
   intro xs r;cases xs with
   | nil=>exact absurd (show _::_=[] from r) (A0v _ _)
   | cons x xs=>
     obtain⟨_,_,e,d,b⟩:=r;cases e;obtain⟨a,j,k⟩:=i b;exact⟨x::a,⟨_,_,rfl,d,j⟩,.cons _ k⟩
 | swap u v l=>
   intro xs r;cases xs with
   | nil=>exact absurd (show _::_=[] from r) (A0v _ _)
   | cons x xs=>
     obtain⟨_,_,e,d,b⟩:=r;cases e;cases xs with
     | nil=>exact absurd (show _::_=[] from b) (A0v _ _)
     | cons y xs=>
       obtain⟨_,_,e,m,n⟩:=b;cases e;exact⟨y::x::xs,⟨_,_,rfl,m,_,_,rfl,d,n⟩,.swap ..⟩
 | trans _ _ f g=>
   intro xs r;obtain⟨t,b,o⟩:=g r;obtain⟨q,d,s⟩:=f b;exact⟨q,d,s.trans o⟩
def J4{T:List Str}{Δ:Nat->Sn}{k:Nat}{N:List Str}{f:A1R}{r:Expr}{p q:Pos}{a:WE×WT}(C:Cok T Δ X k N f)(d:glo f "max"=aC)(b:Good X r a)(i:i4 r=aC):Good X (.Call (.Name "max" p) [r] [] q) (tt1 (OI a.1)):=by
 unfold glo at d;simp only[Y3,bQ,YS]at d;have j:Gl X "max":=by show X.env.scope.names.lookup ("max":Str)=_;rw[C.hs];exact d.1.1
 refine .one (l7 _ (w9 (Lv C.calm) j (C.bl .max) Of (y0 b.pe B8 (j4 i)) (by decide) d.2 (j4 i) rfl) ?_) (FF b.m) rfl;rintro E H Q ⟨l,n,S,o,s,h⟩;refine⟨l,n,S,o,s,b.m _ _ _ _ (λx F ⟨k,t,u,w,y,q⟩ e z v A c B=>?_) h⟩;subst u;obtain⟨a,G,rfl,I,b,D⟩:=v6 c B w;rw[Fm D]at b;exact⟨a,t,rfl,b,y,λm g=>q m g e z _ A c (rl_int.mpr rfl)⟩
def Uy{X:Cx}{x:Str}{p:Pos}(a:Gl X x)(b:(x == ("__debug__":Str))=aD):PE X (.Name x p) λ_ H Q=>∃ C:A1G,X.mg x=aA (.ref C)/\Q (.ref C) H:=λc s d H Q I ⟨C,e,q⟩=>QH (v := .ref C) a e rfl b c s d H Q I q
def HM{x:Str}{a:WE}(m:Mono a):Mono (Uj x a):=λd S P f i h=>m _ _ _ _ (λv g ⟨c,C,b,e,q,z⟩=>⟨c,C,b,e,q,i _ _ z⟩) h
def HN{a:WE}(m:Mono a):Mono (Uk a):=λb S P d i h=>m _ _ _ _ (λv f ⟨c,e,z⟩=>⟨c,e,i _ _ z⟩) h
def ME{T:List Str}{Δ:Nat->Sn}{k:Nat}{N:List Str}{f:A1R}{r:Expr}{x:Str}{p q o:Pos}{a:WE×WT}(C:Cok T Δ X k N f)(d:glo f "isinstance"=aC)(e:glo f x=aC)(g:Good X r a)(l:i4 r=aC):Good X (.Call (.Name "isinstance" p) [r,.Name x o] [] q) (tt1 (Uj x a.1)):=by
 unfold glo at d e;simp only[Y3,bQ,YS]at d e;have s:Gl X "isinstance":=by show X.env.scope.names.lookup ("isinstance":Str)=_;rw[C.hs];exact d.1.1
 have u:Gl X x:=by show X.env.scope.names.lookup x=_;rw[C.hs];exact e.1.1
 refine .one (l7 _ (w9 FB s (C.bl .isi) Og (y0 g.pe (y0 (Uy u e.2) B8 rfl) (j4 l)) (by decide) d.2 (j4 l) rfl) ?_) (HM g.m) rfl;rintro O H Q ⟨w,y,S,z,A,h⟩;refine⟨w,y,S,z,A,g.m _ _ _ _ (λv P ⟨c,D,b,B,E,q⟩ i F R G j I=>?_) h⟩;subst B;obtain⟨J,rfl,K,n⟩:=rl_exc.mp I;obtain⟨L,M⟩:=n.tb _ E;exact⟨D,C.ns.on _ _ L,.ref J,.ref D,.ref c.ad,.ref D,b,rfl,.yes K n.t,rfl,M,q i F _ G j (rl_bl.mpr rfl)⟩
def Xr:A1P "ValueError"=aA (.type "ValueError"):=by decide +kernel
def Wz{X:Cx}{p:Pos}(a:Gl X "ValueError"):PE X (.Name "ValueError" p) λ_ H Q=>X.mg "ValueError"=aB/\Q (.ty "ValueError") H:=λb s c H Q I ⟨d,q⟩=>Jc (v := .ty "ValueError") a d Xr rfl (by decide) rfl b s c H Q I q
def MF{T:List Str}{Δ:Nat->Sn}{k:Nat}{N:List Str}{d:A1R}{r:Expr}{p q n:Pos}{a:WE×WT}(C:Cok T Δ X k N d)(b:glo d "isinstance"=aC)(e:glo d "ValueError"=aC)(f:Good X r a)(l:i4 r=aC):Good X (.Call (.Name "isinstance" p) [r,.Name "ValueError" n] [] q) (tt1 (Uk a.1)):=by
 unfold glo at b e;simp only[Y3,bQ,YS]at b e;have o:Gl X "isinstance":=by show X.env.scope.names.lookup ("isinstance":Str)=_;rw[C.hs];exact b.1.1
 have s:Gl X "ValueError":=by show X.env.scope.names.lookup ("ValueError":Str)=_;rw[C.hs];exact e.1.1
 refine .one (l7 _ (w9 FB o (C.bl .isi) Og (y0 f.pe (y0 (Wz s) B8 rfl) (j4 l)) (by decide) b.2 (j4 l) rfl) ?_) (HN f.m) rfl;rintro G H Q ⟨u,w,S,x,y,h⟩;refine⟨u,w,S,x,y,f.m _ _ _ _ (λv I ⟨c,z,q⟩ g A J B i D=>?_) h⟩;subst z;obtain⟨E,rfl,F,j⟩:=rl_exc.mp D;exact⟨C.ns.off _ j.nv,.ref E,.ty "ValueError",.ref c.ad,.type "ValueError",aC,rfl,.yes F j.t,rfl,j.kv,q g A _ B i (rl_bl.mpr rfl)⟩
def J5{T:List Str}{Δ:Nat->Sn}{k:Nat}{N:List Str}{B:A1R}{r u:Expr}{p q kp:Pos}{a d:WE×WT}(C:Cok T Δ X k N B)(n:glo B "max"=aC)(c:Good X r a)(t:Good X u d)(w:i4 r=aC):Good X (.Call (.Name "max" p) [r] [⟨aA "default",u,kp⟩] q) (tt1 (OL a.1 d.1)):=by
 unfold glo at n;simp only[Y3,bQ,YS]at n;have I:Gl X "max":=by show X.env.scope.names.lookup ("max":Str)=_;rw[C.hs];exact n.1.1
 refine .one (l7 _ (F9 (Lu C.calm) I (C.bl .max) Of (y0 c.pe B8 (j4 w)) (Jl t.pe NF) rfl (by decide) n.2 (by rw[j4 w];rfl) (by rw[j4 w];rfl) rfl rfl) ?_) (FG c.m t.m) rfl;rintro Y H Q ⟨J,D,S,E,F,h⟩;refine⟨J,D,S,E,F,c.m _ _ _ _ (λx K h z Z v o f L=>?_) h⟩;have A:=F.mono o.pre (o.ku E);refine⟨z,D,K,f,A,t.m _ _ _ _ (λy S2 ⟨k,M,i,O,P,R,U,q⟩ j G v2 s b l=>?_) h⟩;subst O;subst P;rw[rl_int]at l;obtain⟨a,us,V,ea,c,W⟩:=v6 b (Rl.mono s.pre (s.ku f) _ _ L) R;rw[Fm W]at c;exact⟨a,M,i,by rw[V],by rw[l],c,λe=>U e j G _ (o.trans s) b (rl_int.mpr rfl),λm g=>q m g j G _ (o.trans s) b (rl_int.mpr rfl)⟩
def Fw{T:List Str}{Δ:Nat->Sn}{k:Nat}{N:List Str}{d:A1R}{r:Expr}{p i q j:Pos}{a:WE×WT}(C:Cok T Δ X k N d)(e:glo d "sorted"=aC)(b:glo d "set"=aC)(f:Good X r a)(l:i4 r=aC):Good X (.Call (.Name "sorted" p) [.Call (.Name "set" i) [r] [] j] [] q) (tt1 (Fq a.1)):=by
 unfold glo at e b;simp only[Y3,bQ,YS]at e b;have n:Gl X "sorted":=by show X.env.scope.names.lookup ("sorted":Str)=_;rw[C.hs];exact e.1.1
 have o:Gl X "set":=by show X.env.scope.names.lookup ("set":Str)=_;rw[C.hs];exact b.1.1
 refine .one (l7 _ (HL C.calm n (C.bl .sorted) o C.st0 f.pe (j4 l) rfl rfl rfl) ?_) (DH f.m) rfl;rintro I H Q ⟨s,t,S,u,w,h⟩;refine⟨s,t,S,u,w,f.m _ _ _ _ (λx J ⟨K,y,z,A,B,q⟩ D L v E c F=>?_) h⟩;obtain⟨a,M,rfl,g,G⟩:=Dy c F z;rw[Fl A G]at g;exact⟨a,y,rfl,g,B,Ao c RlAll.ints (q.mono E)⟩
end
section
variable{K:Y2}{as:List A1G}{H:Hp}{S:Sto}
theorem RlD.get:∀{a:List (Int×SV)} {c:List (Key×V)} {i:Nat} {p:Int×SV},RlD K as H c a->a[i]?=aA p->∃ v,c[i]?=aA (.inl p.1,v)
 | q::r,_,0,p,⟨v,t,e,_,_⟩,b=>by cases b;subst e;exact⟨v,rfl⟩
 | q::r,_,i+1,p,⟨v,t,e,_,h⟩,b=>by
   subst e;obtain⟨u,d⟩:=RlD.get (i:=i) h (show r[i]?=aA p from b);exact⟨u,d⟩
theorem RlD.val:∀{a:List (Int×SV)} {c:List (Key×V)},RlD K as H c a->∀ i,(∃ x v,D4 a i=aA x/\A9 c (.inl i)=aA v/\Rl K as H v x)\/(D4 a i=aB/\A9 c (.inl i)=aB)
 | [],_,h,i=>by rw[show _=[] from h];exact .inr ⟨rfl,rfl⟩
 | p::r,_,⟨v,t,e,d,f⟩,i=>by
   subst e;by_cases b:p.1=i
   ·refine .inl ⟨p.2,v,?_,?_,d⟩
    ·unfold D4;rw[A0D (by simp[b])];rfl
    ·unfold A9;rw[A0D (by simp[b])];rfl
   ·have g:D4 (p::r) i=D4 r i:=by unfold D4;rw[A0E (by simp[b])]
    have j:A9 ((Sum.inl p.1,v)::t) (Sum.inl i)=A9 t (Sum.inl i):=by unfold A9;rw[A0E (by simp[b])]
    rw[g,j];exact RlD.val f i
theorem RlD.any:∀{a:List (Int×SV)} {b:List (Key×V)},RlD K as H b a->∀ i,(b.any λc=>decide (c.1=Sum.inl i))=a.any λp=>decide (p.1=i)
 | [],_,h,i=>by rw[show _=[] from h];rfl
 | p::r,_,⟨v,t,e,f,d⟩,i=>by
   subst e;rw[ZL,ZL,RlD.any d i]
   congr 1
   simp
theorem RlD.set{v:V}{x:SV}(c:Rl K as H v x):∀{a:List (Int×SV)} {f:List (Key×V)},RlD K as H f a->∀ i,RlD K as H (f.map λd=>if d.1=Sum.inl i then (d.1,v) else d) (a.map λp=>if p.1=i then (p.1,x) else p)
 | [],_,h,i=>by rw[show _=[] from h];rfl
 | p::r,_,⟨u,t,e,j,g⟩,i=>by
   subst e;rw[Yf,Yf];by_cases b:p.1=i
   ·rw[iP b,iP (by rw[b])];exact⟨v,_,rfl,c,RlD.set c g i⟩
   ·rw[iG b,iG (λz=>b (Sum.inl.inj z))];exact⟨u,_,rfl,j,RlD.set c g i⟩
theorem RlD.snoc{v:V}{x:SV}(b:Rl K as H v x)(i:Int):∀{a:List (Int×SV)} {c:List (Key×V)},RlD K as H c a->RlD K as H (c++[(Sum.inl i,v)]) (a++[(i,x)])
 | [],_,h=>by rw[show _=[] from h];exact⟨v,[],rfl,b,rfl⟩
 | p::r,_,⟨u,t,e,d,f⟩=>by subst e;exact⟨u,_,rfl,d,RlD.snoc b i f⟩
def RlD.put{a:List (Int×SV)}{b:List (Key×V)}{v:V}{x:SV}(h:RlD K as H b a)(c:Rl K as H v x)(i:Int):RlD K as H (B0 b (Sum.inl i) v) (Sm a i x):=by
 unfold B0 Sm;rw[h.any i];by_cases z:(a.any λp=>decide (p.1=i))=aC
 ·rw[iP z,iP z];exact h.set c i
 ·rw[iG z,iG z];exact h.snoc c i
def Uz{x:SV}{v:V}{c:List (Int×SV)}(e:Ok K as H S)(r:Rl K as H v x)(h:R9 x S=aA c):∃ a k b,x = .loc k/\v = .ref a/\as[k]?=aA a/\Rd H a (.dK b)/\RlD K as H b c:=by
 cases x with
 | loc k=>
   obtain⟨a,d,rfl⟩:=rl_loc.mp r;unfold R9 at h;cases hs:S[k]? with
   | none=>simp only[hs]at h;cases h
   | some o=>
     have ro:=e.obj k o a hs d;cases o with
     | lst _=>simp only[hs]at h;cases h
     | iset _=>simp only[hs]at h;cases h
     | dtl _=>simp only[hs]at h;cases h
     | dtf _ _ _=>simp only[hs]at h;cases h
     | dtp _=>simp only[hs]at h;cases h
     | dct f=>simp only[hs]at h;cases h;obtain⟨b,g,i⟩:=ro;exact⟨a,k,b,rfl,rfl,d,.inl g,i⟩
     | dcf o b f=>simp only[hs]at h;cases h;exact⟨a,k,b,rfl,rfl,d,.inr ⟨o,ro.1⟩,ro.2⟩
     | tbl _ _=>simp only[hs]at h;cases h
 | _=>cases h
def D6:Mono2 K7:=λx y S P e i ⟨d,j,v,a,b,c,q⟩=>⟨d,j,v,a,b,c,i _ _ q⟩
def Ol:Bc K K7 (λx y H Q=>∃ a v,x = .ref a/\DGet H a y (aA v)/\Q v H):=λas H S x y v u Q c f d h=>by
 obtain⟨g,i,w,j,rfl,e,q⟩:=h;obtain⟨a,k,l,rfl,rfl,s,m,n⟩:=Uz c f j;rw[rl_int]at d;subst d;rcases n.val i with⟨t,o,b,p,r⟩ | ⟨b,_⟩
 ·rw[e]at b;cases b;exact⟨a,o,rfl,.inl ⟨l,.inl i,m,rfl,p.symm⟩,q.here c r⟩
 ·rw[e]at b;cases b
end
section
variable{X:Cx}
def D7:Mono ON:=λa S P b i h=>i _ _ h
def J6{p:Pos}:Good X (.Dict [] [] p) (tt1 ON):=
 .one (l7 _ NV (λc H Q ⟨d,e,S,a,f,h⟩=>λl b=>h _ _ _ (Go.push b) (a.pushO b ⟨[],n6,rfl⟩) (rl_loc.mpr ⟨l,by rw[<-a.len];exact YY,rfl⟩))) D7 rfl
theorem RlD.zip{K:Y2}{as:List A1G}{H:Hp}:∀(ns:List Int) {b:List V} {a:List SV},RlAll K as H b a->RlD K as H ((ns.zip b).map λt=>((.inl t.1:Key),t.2)) (ns.zip a)
 | [],_,_,_=>rfl
 | n::ns,_,[],h=>by rw[rla_nil.mp h];rfl
 | n::ns,_,y::a,h=>by
   obtain⟨v,r,rfl,c,d⟩:=rla_cons.mp h;exact⟨v,_,rfl,c,RlD.zip ns d⟩
def J7{x y:Expr}{p:Pos}{a b:WE×WT}(e:X.A.units+1<cLine)(c:Good X x a)(d:Good X y b)(h:AA y=aC):Good X (.Subscript x y p) (tt1 (w2 K7 a.1 b.1)):=
 .one (l7 _ (Qa e c.pe d.pe (EB h)) (BS Ol D6 c.m d.m)) (.two D6 c.m d.m) rfl
end
theorem RlD.vals{K:Y2}{as:List A1G}{H:Hp}:∀{b:List (Int×SV)} {c:List (Key×V)},RlD K as H c b->RlAll K as H (c.map (·.2)) (b.map (·.2))
 | [],_,h=>by rw[show _=[] from h];rfl
 | p::r,_,⟨v,t,e,a,h⟩=>by rw[e];exact⟨v,_,rfl,a,RlD.vals h⟩
theorem RlD.at{K:Y2}{as:List A1G}{H:Hp}:∀{b:List (Int×SV)} {d:List (Key×V)} {i:Nat} {p:Int×SV},RlD K as H d b->b[i]?=aA p->∃ v,d[i]?=aA (.inl p.1,v)/\Rl K as H v p.2
 | [],_,i,p,_,c=>by simp at c
 | p::r,_,0,_,⟨v,t,e,a,h⟩,c=>by cases c;exact⟨v,by rw[e];rfl,a⟩
 | p::r,_,i+1,_,⟨v,t,e,a,h⟩,c=>by
   obtain⟨u,f,g⟩:=RlD.at (i:=i) h c;exact⟨u,by rw[e];exact f,g⟩
def FH{a d:WE}(m:Mono a)(f:Mono d):Mono (OJ a d):=λn S P o i h=>m _ _ _ _ (λx r h=>f _ _ _ _ (λy s ⟨k,g,a,b,c,j,q⟩=>⟨k,g,a,b,c,λe=>i _ _ (j e),λp l=>i _ _ (q p l)⟩) h) h
def FI{d e v:WE}(m:Mono d)(l:Mono e)(o:Mono v):Mono (OK d e v):=λs S P t i h=>m _ _ _ _ (λx u ⟨k,f,a,b,h⟩=>⟨k,f,a,b,l _ _ _ _ (λy w h=>o _ _ _ _ (λz A ⟨p,j,m,g,a,b,c,d,q,r⟩=>⟨p,j,m,g,a,b,c,d,λn e=>i _ _ (q n e),λe=>i _ _ (r e)⟩) h) h⟩) h
def CN:Mono Ir:=λa S P b i h=>i _ _ h
def HP{X:Cx}{p:Pos}:Good X (.Dict [] [] p) (tt1 Ir):=
 .one (l7 _ Gr (λc H Q ⟨d,e,S,a,f,h⟩=>λl b=>h _ _ _ (Go.push b) (a.pushO b (show RlO _ _ _ _ (.dtp []) from n6)) (rl_loc.mpr ⟨l,by rw[<-a.len];exact YY,rfl⟩))) CN rfl
theorem Fx(k:Int×Int):∀ a:List ((Int×Int)×Int),A9 (dtV a) [.inl k.1,.inl k.2]=(dpv a k).map V.int
 | []=>rfl
 | p::r=>by
   have d:=Fx k r;by_cases e:p.1=k
   ·rw[show dtV (p::r)=([.inl p.1.1,.inl p.1.2],V.int p.2)::dtV r from rfl,Ba (by rw[e])];unfold dpv;rw[Yb,decide_eq_true e];rfl
   ·rw[show dtV (p::r)=([.inl p.1.1,.inl p.1.2],V.int p.2)::dtV r from rfl,Bb (λz=>e (by
     have z:([.inl p.1.1,.inl p.1.2]:List Key)=[.inl k.1,.inl k.2]:=z;injection z with c b;injection b with b _;injection c with c;injection b with b;exact Prod.ext c b)),d]
    unfold dpv;rw[Yb,decide_eq_false e]
def J8{X:Cx}{ro r o:Expr}{Z cp:Pos}{d e v:WE×WT}(hu:X.A.units+1<cLine)(I:Good X ro d)(J:Good X r e)(K:Good X o v)(hn:AF ro=aC)(hl:(Z.endLine == cp.line)=aC)(hs:i4 r=aC)(q:i4 o=aC):Good X (.Call (.Attribute ro "setdefault" Z) [r,o] [] cp) (tt1 (OK d.1 e.1 v.1)):=by
 refine .one (l7 _ (Qx hu I.pe J.pe K.pe ⟨p9 hn,by rw[j4 hs,j4 q];rfl,hl,by rw[j4 hs,j4 q];rfl⟩) ?_) (FI I.m J.m K.m) rfl;rintro σ H Q ⟨as,L,S,ok,en,h⟩;refine⟨as,L,S,ok,en,I.m _ _ _ _ (λx S1 ⟨k,M,e0,hk,h⟩ N H1 w O f P=>?_) h⟩;subst e0;obtain⟨a,ea,rfl⟩:=rl_loc.mp P;have h1:H1 a=aA (.dT (dtV M)):=f.obj k _ a hk ea;have s:=en.mono O.pre (O.ku ok);refine⟨a,rfl,.inr ⟨_,.inl h1⟩,N,L,S1,f,s,J.m _ _ _ _ (λy S2 h R H2 w2 E t T=>?_) h⟩;refine⟨R,L,S2,t,s.mono E.pre (E.ku f),K.m _ _ _ _ (λz S3 ⟨i,j,m,b,e1,e2,B,hb,q0,q1⟩ C H3 w3 F g D=>?_) h⟩;subst e1;subst e2;have l:=BR F.pre (BR E.pre ea);have h3:H3 a=aA (.dT (dtV b)):=g.obj k _ a B l;obtain⟨p,vs,rfl,hp,rp⟩:=rl_tup.mp (Rl.mono F.pre (F.ku t) _ _ T);obtain⟨u1,u2,rfl,r1,o⟩:=Lx rp;rw[rl_int]at r1 o D;subst r1;subst o;subst D;have G:=O.trans (E.trans F);have len:(dtV b).length=b.length:=Y4 ..;refine⟨dtV b,[.inl i,.inl j],p,rfl,h3,hp,by rw[len];exact YW hb (An (YF _)),λu c=>?_,λc=>?_⟩
 ·rw[Fx (i,j)]at c;obtain⟨n,U,rfl⟩:=Zm.mp c;exact q0 n U C H3 _ G g (rl_int.mpr rfl)
 ·have W:=c;rw[Fx (i,j)]at c;have e:dpv b (i,j)=aB:=ZO.mp c;rw[Gk _ W]
  obtain⟨Y,ku⟩:=g.writeO (x := .dtp (b++[((i,j),m)])) (u := .dT (dtV b++[([.inl i,.inl j],V.int m)])) B l (λ_=>by
   show upd _ _ _ a=aA (.dT (dtV (b++[((i,j),m)])));rw[n6];unfold dtV;rw[YN];rfl)
  exact q1 e C _ _ (G.trans (Go.write (Y7 l))) Y (rl_int.mpr rfl)
def J9{X:Cx}{T:List Str}{Δ:Nat->Sn}{k:Nat}{N:List Str}{L:A1R}{r u:Expr}{p q kp:Pos}{a d:WE×WT}(W:X.A.units+1<cLine)(C:Cok T Δ X k N L)(n:glo L "min"=aC)(c:Good X r a)(w:Good X u d)(z:i4 r=aC):Good X (.Call (.Name "min" p) [r] [⟨aA "default",u,kp⟩] q) (tt1 (OJ a.1 d.1)):=by
 unfold glo at n;simp only[Y3,bQ,YS]at n;have Y:Gl X "min":=by show X.env.scope.names.lookup ("min":Str)=_;rw[C.hs];exact n.1.1
 refine .one (l7 _ (F9 (Lj C.calm W) Y (C.bl .min) Sq (y0 c.pe B8 (j4 z)) (Jl w.pe NF) rfl (by decide) n.2 (by rw[j4 z];rfl) (by rw[j4 z];rfl) rfl rfl) ?_) (FH c.m w.m) rfl;rintro σ H Q ⟨Z,M,S,O,P,h⟩;refine⟨Z,M,S,O,P,c.m _ _ _ _ (λx S1 h B H1 v D f g=>?_) h⟩;have E:=P.mono D.pre (D.ku O);refine⟨B,M,S1,f,E,w.m _ _ _ _ (λy S2 ⟨k,F,e0,e1,h1,q0,q⟩ j R v2 I b l=>?_) h⟩;subst e0;subst e1;rw[rl_non]at l;obtain⟨a,us,ev,ea,c,J⟩:=v6 b (Rl.mono I.pre (I.ku f) _ _ g) h1;have G:=D.trans I;refine⟨a,us,F,by rw[ev],by rw[l],c,⟨by rw[J.length,Y4],λi p o=>?_⟩,λe=>q0 e j R _ G b (rl_non.mpr rfl),λi p q' o K _ _=>?_⟩
 ·obtain⟨v,s,g⟩:=J.get (show(F.map λp:Int×Int=>SV.tup [.int p.1,.int p.2])[i]?=aA (SV.tup [.int p.1,.int p.2]) by rw[YA,o];rfl);obtain⟨t,vs,rfl,ht,rt⟩:=rl_tup.mp g;obtain⟨u1,u2,rfl,U,V⟩:=Lx rt;rw[rl_int]at U V;subst U;subst V;exact⟨t,s,ht⟩
 ·obtain⟨v,s,g⟩:=J.get (show(F.map λp:Int×Int=>SV.tup [.int p.1,.int p.2])[i]?=aA (SV.tup [.int p.1,.int p.2]) by rw[YA,o];rfl);rw[K]at s;cases s;exact q p (Y7 o) j R _ G b g
section
variable{K:Y2}{as:List A1G}{H:Hp}{S:Sto}
theorem RlT.length:∀{a:List (List Int×SV)} {b:List (List Key×V)},RlT K as H b a->b.length=a.length
 | [],_,h=>by rw[show _=_ from h];rfl
 | p::r,_,⟨v,t,e,_,c⟩=>by rw[e,Ya,Ya,c.length]
theorem RlT.get:∀{a:List (List Int×SV)} {b:List (List Key×V)} {i:Nat} {p:List Int×SV},RlT K as H b a->a[i]?=aA p->∃ v,b[i]?=aA (p.1.map Sum.inl,v)
 | [],_,_,_,_,h=>by simp at h
 | p::r,_,0,_,⟨v,t,e,_,c⟩,h=>by
   simp at h;subst h;rw[e];exact⟨v,rfl⟩
 | p::r,_,i+1,_,⟨v,t,e,_,c⟩,h=>by
   rw[e];obtain⟨v,d⟩:=c.get (i:=i) (by simpa using h);exact⟨v,by simpa using d⟩
theorem DZ:∀{a b:List Int},a.map (Sum.inl:Int->Key)=b.map Sum.inl->a=b
 | [],[],_=>rfl
 | [],_::_,h=>by simp at h
 | _::_,[],h=>by simp at h
 | a::x,b::y,h=>by
   rw[Yf,Yf]at h;injection h with c h2;injection c with c;rw[c,DZ h2]
theorem RlT.val(k:List Int):∀{a:List (List Int×SV)} {b:List (List Key×V)},RlT K as H b a->(∃ x v,E4 a k=aA x/\A9 b (k.map Sum.inl)=aA v/\Rl K as H v x)\/(E4 a k=aB/\A9 b (k.map Sum.inl)=aB)
 | [],_,h=>by rw[show _=_ from h];exact .inr ⟨rfl,rfl⟩
 | p::r,_,⟨v,t,e,c,d⟩=>by
   rw[e];by_cases z:p.1=k
   ·refine .inl ⟨p.2,v,?_,Ba (by rw[z]),c⟩;unfold E4;rw[Yb,decide_eq_true z];rfl
   ·rw[Bb (λy=>z (DZ y)),show E4 (p::r) k=E4 r k by unfold E4;rw[Yb,decide_eq_false z]];exact RlT.val k d
theorem RlT.snoc{k:List Int}{v:V}{x:SV}(b:Rl K as H v x):∀{a:List (List Int×SV)} {c:List (List Key×V)},RlT K as H c a->RlT K as H (c++[(k.map Sum.inl,v)]) (a++[(k,x)])
 | [],_,h=>by rw[show _=_ from h];exact⟨v,[],rfl,b,rfl⟩
 | p::r,_,⟨w,t,e,d,f⟩=>by rw[e];exact⟨w,_,rfl,d,f.snoc b⟩
def HQ{v:V}{b:List Int}(r:Rl K as H v (.tup (b.map SV.int))):∃ p,v = .ref p/\H p=aA (.tup ((b.map Sum.inl).map kV)):=by
 obtain⟨p,c,rfl,d,e⟩:=rl_tup.mp r
 have f:∀{b:List Int} {c:List V},RlAll K as H c (b.map SV.int)->c=(b.map Sum.inl).map kV:=by
  intro b
  induction b with
  | nil=>intro c h;exact rla_nil.mp h
  | cons a b g=>
    intro c h;obtain⟨v,t,rfl,i,j⟩:=rla_cons.mp h;rw[rl_int.mp i,g j];rfl
 exact⟨p,rfl,by rw[<-f e];exact d⟩
end
def CO:Mono Iu:=λa S P b i h=>i _ _ h
def HR{X:Cx}{p:Pos}:Good X (.Dict [] [] p) (tt1 Iu):=
 .one (l7 _ Gr (λc H Q ⟨d,e,S,a,f,h⟩=>λl b=>h _ _ _ (Go.push b) (a.pushO b ⟨[],n6,rfl⟩) (rl_loc.mpr ⟨l,by rw[<-a.len];exact YY,rfl⟩))) CO rfl
section
variable{K:Y2}{as:List A1G}{H:Hp}
theorem RlT.any:∀{a:List (List Int×SV)} {b:List (List Key×V)},RlT K as H b a->∀ k,(b.any λc=>decide (c.1=k.map Sum.inl))=a.any λp=>decide (p.1=k)
 | [],_,h,k=>by rw[show _=_ from h];rfl
 | p::r,_,⟨v,t,e,_,d⟩,k=>by
   rw[e,ZL,ZL,RlT.any d k];by_cases z:p.1=k
   ·rw[decide_eq_true z,decide_eq_true (show _=_ by rw[z])]
   ·rw[decide_eq_false z,decide_eq_false (λy=>z (DZ y))]
theorem RlT.set{v:V}{x:SV}(b:Rl K as H v x):∀{a:List (List Int×SV)} {d:List (List Key×V)},RlT K as H d a->∀ k:List Int,RlT K as H (d.map λc=>if c.1=k.map Sum.inl then (c.1,v) else c) (a.map λp=>if p.1=k then (p.1,x) else p)
 | [],_,h,k=>by rw[show _=_ from h];rfl
 | p::r,_,⟨w,t,e,g,f⟩,k=>by
   rw[e,Yf,Yf];by_cases z:p.1=k
   ·rw[iP z,iP (by rw[z])];exact⟨v,_,rfl,b,RlT.set b f k⟩
   ·rw[iG z,iG (λy=>z (DZ y))];exact⟨w,_,rfl,g,RlT.set b f k⟩
def RlT.put{a:List (List Int×SV)}{b:List (List Key×V)}{v:V}{x:SV}(h:RlT K as H b a)(c:Rl K as H v x)(k:List Int):RlT K as H (B0 b (k.map Sum.inl) v) (FD a k x):=by
 unfold B0 FD;rw[h.any k];split
 ·exact h.set c k
 ·exact h.snoc c
theorem RlT.vals:∀{b:List (List Int×SV)} {c:List (List Key×V)},RlT K as H c b->RlAll K as H (c.map (·.2)) (b.map (·.2))
 | [],_,h=>by rw[show _=[] from h];rfl
 | p::r,_,⟨v,t,e,a,h⟩=>by rw[e];exact⟨v,_,rfl,a,RlT.vals h⟩
end
def DK{d e v:WE}(m:Mono d)(g:Mono e)(j:Mono v):Mono (Fo d e v):=λn S P o i h=>m _ _ _ _ (λx p ⟨k,c,a,b,h⟩=>⟨k,c,a,b,g _ _ _ _ (λy r h=>j _ _ _ _ (λz s ⟨l,f,a,b,q⟩=>⟨l,f,a,b,i _ _ q⟩) h) h⟩) h
def ED{d e v:WE}(m:Mono d)(j:Mono e)(l:Mono v):Mono (Iq d e v):=λr S P s i h=>m _ _ _ _ (λx t ⟨k,f,a,b,h⟩=>⟨k,f,a,b,j _ _ _ _ (λy u h=>l _ _ _ _ (λz w ⟨o,g,a,b,c,p,q⟩=>⟨o,g,a,b,c,λn e=>i _ _ (p n e),λe=>i _ _ (q e)⟩) h) h⟩) h
def DL{a:WE}(m:Mono a):Mono (Fp a):=λd S P e i h=>m _ _ _ _ (λx f ⟨k,c,a,b,q⟩=>⟨k,c,a,b,i _ _ q⟩) h
def Fy{X:Cx}{ro r s:Expr}{P R:Pos}{d e v:WE×WT}(hu:X.A.units+1<cLine)(u:Good X ro d)(B:Good X r e)(C:Good X s v)(hn:AF ro=aC)(hl:(P.endLine == R.line)=aC)(T:i4 r=aC)(f:i4 s=aC):Good X (.Call (.Attribute ro "get" P) [r,s] [] R) (tt1 (Fo d.1 e.1 v.1)):=by
 refine .one (l7 _ (NW hu u.pe B.pe C.pe ⟨p9 hn,by rw[j4 T,j4 f];rfl,hl,by rw[j4 T,j4 f];rfl⟩) ?_) (DK u.m B.m C.m) rfl;rintro σ H Q ⟨as,D,S,U,V,h⟩;refine⟨as,D,S,U,V,u.m _ _ _ _ (λx S1 ⟨k,a0,e0,hk,h⟩ E H1 w F b I=>?_) h⟩;subst e0;obtain⟨a,W,rfl⟩:=rl_loc.mp I;obtain⟨a1,h1,_⟩:=b.obj k _ a hk W;have g:=V.mono F.pre (F.ku U);refine⟨a,rfl,.inr ⟨_,.inl h1⟩,E,D,S1,b,g,B.m _ _ _ _ (λy S2 h J H2 w2 n i K=>?_) h⟩;refine⟨J,D,S2,i,g.mono n.pre (n.ku b),C.m _ _ _ _ (λz S3 ⟨Y,a2,j,L,q⟩ l Z w3 o c M=>?_) h⟩;subst j;have N:=BR o.pre (BR n.pre W);obtain⟨us,h3,rr⟩:=c.obj k _ a L N;obtain⟨p,rfl,hp⟩:=HQ (Rl.mono o.pre (o.ku i) _ _ K);have G:=F.trans (n.trans o);refine⟨A9 us (Y.map Sum.inl),DGet.t h3 hp,?_⟩;rcases rr.val Y with⟨x',v',j,O,r'⟩ | ⟨j,O⟩
 ·rw[j]at q;rw[O];exact q l Z _ G c r'
 ·rw[j]at q;rw[O];exact q l Z _ G c M
def HS{X:Cx}{ro r E:Expr}{V W:Pos}{d e v:WE×WT}(F:Good X ro d)(I:Good X r e)(J:Good X E v)(hn:AF ro=aC)(hl:(V.endLine == W.line)=aC)(Y:i4 r=aC)(n:i4 E=aC):Good X (.Call (.Attribute ro "setdefault" V) [r,E] [] W) (tt1 (Iq d.1 e.1 v.1)):=by
 refine .one (l7 _ (Od F.pe I.pe J.pe ⟨p9 hn,by rw[j4 Y,j4 n];rfl,hl,by rw[j4 Y,j4 n];rfl⟩) ?_) (ED F.m I.m J.m) rfl;rintro σ H Q ⟨as,K,S,Z,en,h⟩;refine⟨as,K,S,Z,en,F.m _ _ _ _ (λx S1 ⟨k,a0,e0,hk,h⟩ L H1 w M f N=>?_) h⟩;subst e0;obtain⟨a,ea,rfl⟩:=rl_loc.mp N;obtain⟨a1,h1,_⟩:=f.obj k _ a hk ea;have o:=en.mono M.pre (M.ku Z);refine⟨a,rfl,.inl ⟨_,.inl h1⟩,L,K,S1,f,o,I.m _ _ _ _ (λy S2 h O H2 w2 B P p=>?_) h⟩;refine⟨O,K,S2,P,o.mono B.pre (B.ku f),J.m _ _ _ _ (λz S3 ⟨i,q,l,s,hb,q0,q1⟩ t H3 R g3 g A=>?_) h⟩;subst l;rw[rl_int]at p;subst p;have j:=BR g3.pre (BR B.pre ea);obtain⟨T,h3,C⟩:=g.obj k _ a s j;have G:=M.trans (B.trans g3);refine⟨T,.inl i,rfl,h3,by rw[C.length];exact YW hb (An (YF _)),λu b=>?_,λb=>?_⟩
 ·rcases C.val i with⟨x',v',l,c,r'⟩ | ⟨_,c⟩
  ·rw[b]at c;cases c;exact q0 x' l t H3 _ G g r'
  ·rw[b]at c;cases c
 ·rcases C.val i with⟨x',v',l,c,r'⟩ | ⟨l,_⟩
  ·rw[b]at c;cases c
  ·rw[Gk _ b];obtain⟨U,D⟩:=g.writeO (x := .dct (q++[(i,z)])) (u := .dK (T++[(Sum.inl i,R)])) s j (λD=>⟨_,n6,RlD.snoc (Rl.mono (Yh _) D z R A) i (RlD.mono (Yh _) D q T C)⟩);exact q1 l t _ _ (G.trans (Go.write (Y7 j))) U (Rl.mono (Yh _) D z R A)
def Fz{X:Cx}{T:List Str}{Δ:Nat->Sn}{k:Nat}{N:List Str}{e:A1R}{r:Expr}{p q f g:Pos}{a:WE×WT}(C:Cok T Δ X k N e)(c:glo e "list"=aC)(d:Good X r a)(i:AF r=aC)(j:(f.endLine == g.line)=aC):Good X (.Call (.Name "list" p) [.Call (.Attribute r "values" f) [] [] g] [] q) (tt1 (Fp a.1)):=by
 unfold glo at c;simp only[Y3,bQ,YS]at c;have l:Gl X "list":=by show X.env.scope.names.lookup ("list":Str)=_;rw[C.hs];exact c.1.1
 refine .one (l7 _ (RK C.calm l (C.bl .list) J3 d.pe (p9 i) j rfl) ?_) (DL d.m) rfl;rintro I H Q ⟨n,o,S,s,t,h⟩;refine⟨n,o,S,s,t,d.m _ _ _ _ (λx J ⟨k,u,w,y,q⟩ z K v A b B=>?_) h⟩;subst w;obtain⟨a,D,rfl⟩:=rl_loc.mp B;obtain⟨E,F,G⟩:=b.obj k _ a y D;exact⟨a,E,rfl,F,Ao b (RlT.vals G) (q.mono A)⟩
def FJ{K:Y2}{as:List A1G}{H:Hp}{v:V}{i j:Int}(r:Rl K as H v (.tup [.int i,.int j])):∃ p,v = .ref p/\H p=aA (.tup [.int i,.int j]):=by
 obtain⟨p,e,rfl,d,a⟩:=rl_tup.mp r;obtain⟨f,g,rfl,b,a⟩:=rla_cons.mp a;obtain⟨h,k,rfl,c,a⟩:=rla_cons.mp a;obtain rfl:=rla_nil.mp a;rw[rl_int]at b c;subst b c;exact⟨p,rfl,d⟩
def KJ{K:Y2}:Bc K OM (λx y H Q=>∃ a b,∃ i j k l:Int,x = .ref a/\y = .ref b/\SqT K H a [.int i,.int j]/\SqT K H b [.int k,.int l]/\Q (.bl (decide (i=k/\j=l))) H):=λm H S x y v u Q c d e h=>by
 obtain⟨i,j,k,l,rfl,rfl,q⟩:=h;obtain⟨a,rfl,f⟩:=FJ d;obtain⟨b,rfl,g⟩:=FJ e;exact⟨a,b,i,j,k,l,rfl,rfl,SqT.of f,SqT.of g,q.here c (rl_bl.mpr rfl)⟩
def Cd:Mono2 OM:=λx y S P g i ⟨a,b,c,d,e,f,q⟩=>⟨a,b,c,d,e,f,i _ _ q⟩
def MG{X:Cx}{g c:Expr}{p:Pos}{a b:WE}(n:X.A.units+1<cLine)(i:PE X g (lift X.K a))(j:PE X c (lift X.K b))(d:Mono a)(f:Mono b)(k:Ap c=aC):Good X (.Compare g [.Eq] [c] p) (tt2 (w2 OM a b)):=by
 have m:Mono (w2 OM a b) := .two Cd d f
 exact{pe:=l7 _ (Jh (KH (by omega)) i j (Bg k)) (BS KJ Cd d f)
       pt:=Dv _ (Ji (KH (by omega)) i j (Bg k)) λl H Q h=>BS KJ Cd d f l H _ (Ix m l H Q h)
       m:=m
       mt := .bl m
       pw:=λ_ _ _ e=>by cases e}
end Rf
namespace Srf
open PySem PyProof.Rows
noncomputable def KF(f:A1E->Int)(xs:Array Keyed)(i:Nat):Int:=match xs[i]? with
 | some p=>f p.1
 | none=>0
variable{f:A1E->Int}
def Sg(f:A1E->Int)(xs:Array Keyed)(a k:Nat):Prop:=∀ i j,i<=j->j<k->KF f xs (a+i)<=KF f xs (a+j)
def Dg(f:A1E->Int)(xs:Array Keyed)(a k:Nat):Prop:=∀ i j,i<=j->j<k->KF f xs (a+j)<=KF f xs (a+i)
structure Sb(a₀ a1:Array Keyed)(lo:Nat)(pd:Array (Nat×Nat×Nat))(st:SortSt):Prop where
 perm:(arrOf st).Perm a₀
 kind:kindOf st=oneType'
 failed:failedOf st=aB
 pend:pendingOf st=pd
 pre:∀ i,i<lo->(arrOf st)[i]?=a1[i]?
section
variable{a₀ a1:Array Keyed}{lo:Nat}{pd:Array (Nat×Nat×Nat)}{st:SortSt}
def Sb.size(h:Sb a₀ a1 lo pd st):(arrOf st).size=a₀.size:=h.perm.size_eq
def Sb.put(h:Sb a₀ a1 lo pd st){xs:Array Keyed}(b:xs.Perm (arrOf st))(c:∀ i,i<lo->xs[i]?=(arrOf st)[i]?):Sb a₀ a1 lo pd (setArr st xs):=
 ⟨b.trans h.perm,h.kind,h.failed,h.pend,λi a=>(c i a).trans (h.pre i a)⟩
end
section
variable{prog:A1L}{w:A1N}{A:A1Q}{E:A1E->A1F->Prop}{s:A1F}{a₀ a1:Array Keyed}{lo:Nat}{pd:Array (Nat×Nat×Nat)}
def Sg.more{xs:Array Keyed}{x:Nat}(h:Sg f xs lo x)(c:1<=x)(b:KF f xs (lo+x - 1)<=KF f xs (lo+x)):Sg f xs lo (x+1):=λi j a d=>by
 by_cases z:j<x
 ·exact h i j a z
 ·rw[show j=x by omega];by_cases y:i=x
  ·rw[y];exact A0R _
  ·refine A1A (h i (x - 1) (by omega) (by omega)) ?_;rw[show lo+(x - 1)=lo+x - 1 by omega];exact b
def Dg.more{xs b:Array Keyed}{x:Nat}(h:Dg f xs lo x)(e:∀ k,KF f b k=KF f xs k)(d:1<=x)(c:KF f xs (lo+x)<=KF f xs (lo+x - 1)):Dg f b lo (x+1):=λi j a g=>by
 rw[e,e];by_cases z:j<x
 ·exact h i j a z
 ·rw[show j=x by omega];by_cases y:i=x
  ·rw[y];exact A0R _
  ·have:=h i (x - 1) (by omega) (by omega);rw[show lo+(x - 1)=lo+x - 1 by omega]at this;exact A1A c this
end
end Srf
namespace Rf
open PySem L2
theorem RlD.keys{K:Y2}{as:List A1G}{H:Hp}:∀{b:List (Int×SV)} {c:List (Key×V)},RlD K as H c b->RlAll K as H (c.map λp=>kV p.1) (b.map λp=>SV.int p.1)
 | [],_,h=>by rw[show _=[] from h];rfl
 | p::r,_,⟨v,t,e,a,h⟩=>by rw[e];exact⟨_,_,rfl,rl_int.mpr rfl,RlD.keys h⟩
end Rf
namespace L2
open PySem PySem.Spec PyProof.Rows
def IterK(k:Bool)(h:Heap)(a l:A1G)(i:Nat):Prop:=match k with
 | true=>h.IsTupleIter a l i
 | false=>h.IsListIter a l i
def IterK.obj{k:Bool}{h:Heap}{a l:A1G}{i:Nat}(x:IterK k h a l i):∃ o,h.get? a=aA o/\∀ v,o.data ≠ .cell v:=by
 cases k<;>(obtain⟨o,e,_,d⟩:=x;exact⟨o,e,λv q=>by rw[d]at q;cases q⟩)
def IterK.at{k:Bool}{h h':Heap}{a l:A1G}{i:Nat}(x:IterK k h a l i)(f:∀ o,h.get? a=aA o->h'.get? a=aA o):IterK k h' a l i:=by
 cases k
 ·exact Heap.IsListIter.at x f
 ·exact Heap.IsTupleIter.at x f
end L2
namespace Rf
open PySem L2
noncomputable def HU(K:Y2)(g:Tg):TG:=λv d H Q=>∃ as c S x,Ok K as H S/\EnvOk K as H d c/\Rl K as H v x/\wTg g x c λb=>∀ a,EnvOk K as H a b->Q a H
noncomputable def V0(K:Y2)(g:Tgs):TGs:=λvs d H Q=>∃ as c S xs,Ok K as H S/\EnvOk K as H d c/\RlAll K as H vs xs/\B1 g xs c λb=>∀ a,EnvOk K as H a b->Q a H
mutual
theorem AM:∀(g:Tg) {x:SV} {a:EnvS} {P b:EnvS->Prop},(∀ r,P r->b r)->wTg g x a P->wTg g x a b
 | .nm i,x,a,P,b,h,q=>by unfold wTg at q ⊢;exact h _ q
 | .tup c,x,a,P,b,h,q=>by
   cases x with
   | tup d=>unfold wTg at q ⊢;exact HV c h q
   | _=>unfold wTg at q;exact q.elim
theorem HV:∀(g:Tgs) {x:List SV} {a:EnvS} {P b:EnvS->Prop},(∀ r,P r->b r)->B1 g x a P->B1 g x a b
 | .nil,x,a,P,b,h,q=>by
   cases x with
   | nil=>unfold B1 at q ⊢;exact h _ q
   | cons _ _=>unfold B1 at q;exact q.elim
 | .cons t c,x,a,P,b,h,q=>by
   cases x with
   | nil=>unfold B1 at q;exact q.elim
   | cons y d=>unfold B1 at q ⊢;exact AM t (λr q=>HV c h q) q
end
theorem Bi{env:Env}:∀{es:List Expr},es.all i4=aC->(A2e es env).length=es.length/\(A2e es env).findIdx? (·.1)=aB/\∀ e r,es=e::r->(A2e (e::r) env).map (·.2)=assign e env::(A2e r env).map (·.2)
 | [],_=>⟨rfl,rfl,λe r h=>by cases h⟩
 | e::es,h=>by
   rw[Z6,Y3]at h;obtain⟨a,b,_⟩:=Bi (env:=env) h.2;have:A2e (e::es) env=(aD,assign e env)::A2e es env:=by cases e<;>first | rfl | (have:=h.1;cases this)
   rw[this];refine⟨by simp[a],by rw[List.findIdx?_cons,b];rfl,λd r z=>?_⟩;injection z with c z2;subst c z2;rw[this];rfl
theorem D8{k:Nat}{N:List Str}{a:A1R}:∀{g:Tgs} {es:List Expr},Aq k N a g es=aC->es.all i4=aC
 | .nil,es,h=>by unfold Aq at h;rw[Ym]at h;subst h;rfl
 | .cons t c,es,h=>by
   rw[Aq]at h;replace h:=c4 h;obtain⟨e,b,h⟩:=h;simp only[Y3]at h;rw[B5 b,Z6,h.1.2,D8 h.2];rfl
section
variable{X:Cx}{T:List Str}{Δ:Nat->Sn}{k:Nat}{N:List Str}{sc:A1R}
mutual
theorem Ce(C:Cok T Δ X k N sc):∀(g:Tg) (r:Expr),CG k N sc g r=aC->PG X r (HU X.K g)
 | .nm i,r,h=>by
   rw[CG]at h;replace h:=c4 h;obtain⟨x,G,h⟩:=h;obtain⟨p,rfl⟩:=AB G
   ·simp only[Y3,dQ]at h;obtain⟨⟨J,o⟩,c⟩:=h;unfold loc at c;simp only[Yj,bQ]at c;have L:Loc X.env.scope x:=by rw[C.hs];exact c
    have M:X.fn x=aC\/X.env.scope.names.lookup x=aA .local:=by
     rw[C.hs];rcases c with c | c
     ·exact .inr c
     ·exact .inl (C.fn i x J o c)
    have b:=QL (X:=X) (pos:=p) (i:=i) (by rw[C.hN];exact C.nd) (by rw[C.hN];exact o) L M;intro d s e H v u Q I f l;obtain⟨t,w,S,y,z,m,n,q⟩:=l;unfold wTg at q;exact b d s e H v u Q I f (q _ (m.set n))
 | .tup A,r,h=>by
   rw[CG]at h;replace h:=c4 h;obtain⟨B,O,h⟩:=h;obtain⟨j,p,rfl⟩:=By O
   ·have D:=Bi (env:=X.env) (D8 h);have b:=Tq (X:=X) (k:=j) (pos:=p) C.calm (FK C A B h) D.1 D.2.1;intro d s e H v u Q I f l;refine b d s e H v u Q I f ?_;obtain⟨t,w,S,y,z,m,n,q⟩:=l;cases y with
    | tup E=>
      obtain⟨a,P,rfl,R,F⟩:=rl_tup.mp n;unfold wTg at q;refine⟨a,P,rfl,SqT.of R,?_,t,w,S,E,z,m,F,q⟩;rw[F.length];exact KK A B E h q
    | _=>unfold wTg at q;exact q.elim
theorem FK(C:Cok T Δ X k N sc):∀(g:Tgs) (es:List Expr),Aq k N sc g es=aC->PGs X es (V0 X.K g)
 | .nil,es,h=>by
   rw[Aq]at h;rw[Ym]at h;subst h;intro a s b H c d Q I f i;refine QM a s b H c d Q I f ?_;obtain⟨j,x,S,l,m,n,o,q⟩:=i;cases l with
   | nil=>unfold B1 at q;exact⟨rla_nil.mp o,q _ n⟩
   | cons _ _=>unfold B1 at q;exact q.elim
 | .cons t z,A,h=>by
   have p:=Bi (env:=X.env) (D8 h);rw[Aq]at h;replace h:=c4 h;obtain⟨e,B,h⟩:=h;simp only[Y3]at h;rw[B5 B]at p ⊢;generalize A.tail=es at h p;intro a s b H c d Q I f i;refine N3 (Ce C t e h.1.1) (FK C z es h.2) (p.2.2 _ _ rfl) a s b H c d Q I f ?_;obtain⟨j,x,S,l,m,n,o,q⟩:=i;cases l with
   | nil=>unfold B1 at q;exact q.elim
   | cons y D=>
     unfold B1 at q;obtain⟨v,r,rfl,E,F⟩:=rla_cons.mp o;exact⟨v,r,rfl,j,x,S,y,m,n,E,AM t (λu q G w=>⟨j,u,S,D,m,w,F,q⟩) q⟩
theorem KK:∀(g:Tgs) (es:List Expr) (xs:List SV) {a:EnvS} {P:EnvS->Prop},Aq k N sc g es=aC->B1 g xs a P->xs.length=es.length
 | .nil,es,xs,a,P,h,q=>by
   rw[Aq]at h;rw[Ym]at h;subst h;cases xs with
   | nil=>rfl
   | cons _ _=>unfold B1 at q;exact q.elim
 | .cons t b,c,xs,a,P,h,q=>by
   rw[Aq]at h;replace h:=c4 h;obtain⟨e,d,h⟩:=h;simp only[Y3]at h;rw[B5 d];generalize c.tail=es at h;cases xs with
   | nil=>unfold B1 at q;exact q.elim
   | cons y f=>
     unfold B1 at q;obtain⟨i,j⟩:=KL t q;simp[KK b es f h.2 j]
theorem KL:∀(g:Tg) {x:SV} {a:EnvS} {P:EnvS->Prop},wTg g x a P->∃ b,P b
 | .nm i,x,a,P,q=>by unfold wTg at q;exact⟨_,q⟩
 | .tup c,x,a,P,q=>by
   cases x with
   | tup d=>unfold wTg at q;exact HW c q
   | _=>unfold wTg at q;exact q.elim
theorem HW:∀(g:Tgs) {xs:List SV} {b:EnvS} {P:EnvS->Prop},B1 g xs b P->∃ a,P a
 | .nil,xs,b,P,q=>by
   cases xs with
   | nil=>unfold B1 at q;exact⟨_,q⟩
   | cons _ _=>unfold B1 at q;exact q.elim
 | .cons t c,xs,b,P,q=>by
   cases xs with
   | nil=>unfold B1 at q;exact q.elim
   | cons y e=>
     unfold B1 at q;obtain⟨a,d⟩:=KL t q;exact HW c d
end
end
structure Gu(as:List A1G)(H:Hp)(as':List A1G)(H':Hp):Prop where
 pre:as <+: as'
 kp:KeepU H H'
def Gu.ku{K:Y2}{as a:List A1G}{H b:Hp}{S:Sto}(g:Gu as H a b)(_:Ok K as H S):KeepU H b:=g.kp
def Go.gu{K:Y2}{as a:List A1G}{H b:Hp}{S:Sto}(g:Go as H a b)(c:Ok K as H S):Gu as H a b:=⟨g.pre,g.ku c⟩
noncomputable def Walks(K:Y2)(c:List A1G)(d:Hp)(J:It)(a:Sto->Prop)(xs:List SV):Prop:=∀ as H S,Gu c d as H->Ok K as H S->a S->
 (∀(i:Nat) (x:SV),xs[i]?=aA x->J.go i H/\∀ v b,J.yld i H v b->Go as H as b/\Ok K as b S/\Rl K as b v x)/\J.stop xs.length H
noncomputable def X0(K:Y2)(as:List A1G)(H:Hp)(R:It->Hp->Prop):(Sto->Prop)->List SV->Sto->Prop:=λb xs d=>∀ a c J,Go as H a c->Ok K a c d->Walks K a c J b xs->R J c
noncomputable def liftI(K:Y2)(w:WI):TI:=λb H R=>∃ as a S,Ok K as H S/\EnvOk K as H b a/\w a S (X0 K as H R)
def MonoI(w:WI):Prop:=∀ a S (P b:(Sto->Prop)->List SV->Sto->Prop),(∀ k x c,P k x c->b k x c)->w a S P->w a S b
structure GoodI(X:Cx)(tg r:Expr)(w:WI):Prop where
 pi:PI X tg r (liftI X.K w)
 m:MonoI w
section
variable{X:Cx}{K:Y2}
def HX{a as:List A1G}{c H:Hp}{b S:Sto}{x:SV}{v:V}{xs:List SV}(d:Ok K a c b)(r:Rl K a c v x)(h:seqS x b=aA xs)(g:Gu a c as H)(e:Ok K as H S)(kp:keepS x b S):Rl K as H v x/\seqS x S=aA xs:=by
 refine⟨Rl.mono g.pre (g.ku d) x v r,?_⟩;cases x with
 | loc k=>
   have kp:S[k]?=b[k]?:=kp;unfold seqS at h ⊢;simp only[kp];exact h
 | _=>exact h
def MH{c:List A1G}{d:Hp}{f:Sto}{x:SV}{a:A1G}{xs:List SV}(j:Ok K c d f)(r:Rl K c d (.ref a) x)(n:x ≠ .tup xs)(h:seqS x f=aA xs):Walks K c d (Itl K a) (keepS x f) xs:=λB H S g k s=>by
 obtain⟨t,w⟩:=HX j r h g k s;obtain⟨b,l,e,m,p⟩:=Af k t n w;cases e;refine⟨λi y z=>?_,l,m,by rw[p.length];exact YF _⟩;obtain⟨v,q,A⟩:=p.get z;refine⟨⟨l,v,m,q⟩,λu C o=>?_⟩;obtain⟨e,o⟩:=o;subst e;have:=o l m;rw[q]at this;cases this;exact⟨Go.refl _ _,k,A⟩
def Om{c:List A1G}{d:Hp}{l:Sto}{a:A1G}{xs:List SV}(f:Ok K c d l)(r:Rl K c d (.ref a) (.tup xs)):Walks K c d (Itt K a) (keepS (.tup xs) l) xs:=λt H S g o w=>by
 have p:=Rl.mono g.pre (g.ku f) _ _ r;obtain⟨b,h,e,j,m⟩:=rl_tup.mp p;cases e;refine⟨λi y q=>?_,h,SqT.of j,by rw[m.length];exact YF _⟩;obtain⟨v,n,s⟩:=m.get q;refine⟨⟨h,v,SqT.of j,n⟩,λu x k=>?_⟩;obtain⟨e,k⟩:=k;subst e;have:=k h (SqT.of j);rw[n]at this;cases this;exact⟨Go.refl _ _,o,s⟩
def HY{f:List A1G}{j:Hp}{a b:Int}:Walks K f j (Itr a (b - a).toNat) (λ_=>True) (DQ a b):=λm H S g k _=>by
 have h:(DQ a b).length=(b - a).toNat:=by unfold DQ;simp
 refine⟨λi y d=>?_,by show(b - a).toNat<=(DQ a b).length;rw[h];exact YF _⟩;have c:i<(b - a).toNat:=by rw[<-h];exact(gM d).1
 refine⟨c,λu n l=>?_⟩;obtain⟨e,rfl⟩:=l;subst e
 have:y = .int (a+i):=by
  unfold DQ at d;rw[YA,Yx c]at d;exact(oj d).symm
 subst this;exact⟨Go.refl _ _,k,rl_int.mpr rfl⟩
def HZ{xs:List SV}{i:Nat}{y:SV}(h:(Be xs)[i]?=aA y):∃ x,xs[i]?=aA x/\y = .tup [.int i,x]:=by
 unfold Be at h;rw[A0K]at h;cases h1:(YJ xs.length)[i]? with
 | none=>rw[h1]at h;cases h
 | some j=>
   cases h2:xs[i]? with
   | none=>rw[h1,h2]at h;cases h
   | some x=>
     rw[h1,h2]at h;have a:=(gM h2).1;rw[Yx a]at h1;cases h1;cases h;exact⟨x,rfl,rfl⟩
def Ha{xs:List SV}:(Be xs).length=xs.length:=by unfold Be;simp
def JA{c:List A1G}{d:Hp}{f:Sto}{x:SV}{a:A1G}{xs:List SV}(j:Ok K c d f)(r:Rl K c d (.ref a) x)(n:x ≠ .tup xs)(h:seqS x f=aA xs):Walks K c d (UC K a) (keepS x f) (Be xs):=λG H S g k A=>by
 obtain⟨B,C⟩:=HX j r h g k A;obtain⟨b,l,e,m,s⟩:=Af k B n C;cases e;refine⟨λi y D=>?_,l,m,by rw[s.length,Ha]⟩;obtain⟨z,E,rfl⟩:=HZ D;obtain⟨v,t,F⟩:=s.get E;refine⟨⟨l,v,m,t⟩,λu I o=>?_⟩;obtain⟨p,w,q,rfl,o,rfl⟩:=o;have:=o l m;rw[t]at this;cases this;exact⟨Go.new q,k.new q,rl_tup.mpr ⟨p,_,rfl,n6,.cons (rl_int.mpr rfl) (.cons (Rl.mono (Yh _) (BL q) z v F) .nil)⟩⟩
def JB{c:List A1G}{d:Hp}{m:Sto}{a:A1G}{xs:List SV}(f:Ok K c d m)(r:Rl K c d (.ref a) (.tup xs)):Walks K c d (UD K a) (keepS (.tup xs) m) (Be xs):=λB H S g q C=>by
 have s:=Rl.mono g.pre (g.ku f) _ _ r;obtain⟨b,h,e,j,n⟩:=rl_tup.mp s;cases e;refine⟨λi y t=>?_,h,SqT.of j,by rw[n.length,Ha]⟩;obtain⟨z,x,rfl⟩:=HZ t;obtain⟨v,o,A⟩:=n.get x;refine⟨⟨h,v,SqT.of j,o⟩,λu D k=>?_⟩;obtain⟨p,w,l,rfl,k,rfl⟩:=k;have:=k h (SqT.of j);rw[o]at this;cases this;exact⟨Go.new l,q.new l,rl_tup.mpr ⟨p,_,rfl,n6,.cons (rl_int.mpr rfl) (.cons (Rl.mono (Yh _) (BL l) z v A) .nil)⟩⟩
def GA{c l:Expr}{w:TI}(d:TI)(h:PI X c l w)(b:∀ a H R,d a H R->w a H R):PI X c l d:=λe s a H R I f=>h e s a H R I (b a H R f)
def Xs(K:Y2)(c:TE):TI:=λd H R=>c d H λx b=>∃ a,x = .ref a/\(((∃ xs,SqL K b a xs)/\R (Itl K a) b)\/((∃ xs,SqT K b a xs)/\R (Itt K a) b))
def V1{u l:Expr}{m:TE}(w:PE X l m):PI X u l (Xs X.K m):=by
 intro i s n H R I h;refine thn (w i s n H _ I h) λv c j=>?_;obtain⟨x,g,d,y,z⟩:=j;obtain⟨a,e,q⟩:=z;subst e;cases y;have r:∀{A:Obj},Inv X i n g {c with heap:=c.heap.push A}:=d.kept (t':=c.toks) λb o e=>Y8 _ e
 have t:∀ b∈[c.heap.objs.size],FpOk X i g b:=λb B=>by
  rw[YK.mp B];exact d.fpOk (YF _) (d.hok.fresh (YF _))
 rcases q with⟨⟨C,k⟩,q⟩ | ⟨⟨C,k⟩,q⟩
 ·obtain⟨f,D,p,j⟩:=d.list k;exact A2d p.isList ⟨c.heap.objs.size,[c.heap.objs.size],_,_,g,rfl,r,LJ a _,⟨_,YI _ rfl,rfl,rfl⟩,t,q⟩
 ·obtain⟨f,D,p,j⟩:=d.tuple k;exact A2o (show c.heap.IsTuple a f.toArray from p) ⟨c.heap.objs.size,[c.heap.objs.size],_,_,g,rfl,r,IS a _,⟨_,YI _ rfl,rfl,rfl⟩,t,q⟩
def MI{s r:Expr}{a:WE×WT}(f:Good X r a):GoodI X s r (Sl a.1) where
 m:=λl S P C i h=>f.m _ _ _ _ (λx t ⟨g,e,q⟩=>⟨g,e,i _ _ _ q⟩) h
 pi:=GA _ (V1 f.pe) (by
  rintro D H R ⟨u,l,S,w,y,h⟩;refine⟨u,l,S,w,y,f.m _ _ _ _ (λx t ⟨g,e,q⟩ c n v o b d=>?_) h⟩;by_cases j:x = .tup g
  ·subst j;obtain⟨p,k,rfl,z,A⟩:=rl_tup.mp d;exact⟨p,rfl,.inr ⟨⟨k,SqT.of z⟩,q c n _ o b (Om b d)⟩⟩
  ·obtain⟨p,k,rfl,B,A⟩:=Af b d j e;exact⟨p,rfl,.inl ⟨⟨k,B⟩,q c n _ o b (MH b d j e)⟩⟩)
def JC{T:List Str}{Δ:Nat->Sn}{k:Nat}{N:List Str}{s:A1R}{c:List Expr}{z:Nat}{A p q:Pos}{r:Expr}{a:WE×WT}(C:Cok T Δ X k N s)(g:glo s "enumerate"=aC)(j:Good X r a)(t:i4 r=aC):GoodI X (.Tuple c z A) (.Call (.Name "enumerate" p) [r] [] q) (OH a.1) where
 m:=λu S P M i h=>j.m _ _ _ _ (λx B ⟨l,e,q⟩=>⟨l,e,i _ _ _ q⟩) h
 pi:=by
  unfold glo at g;simp only[Y3,bQ,YS]at g;have D:Gl X "enumerate":=by show X.env.scope.names.lookup ("enumerate":Str)=_;rw[C.hs];exact g.1.1
  refine GA _ (QX D C.enm (y0 j.pe B8 (j4 t)) (j4 t)) ?_;rintro O H R ⟨E,u,S,F,G,h⟩;refine⟨E,u,S,F,G,j.m _ _ _ _ (λx B ⟨l,e,q⟩ d w v y b f=>?_) h⟩;by_cases n:x = .tup l
  ·subst n;obtain⟨p,o,rfl,I,J⟩:=rl_tup.mp f;exact⟨p,rfl,.inr ⟨⟨o,SqT.of I⟩,q d w _ y b (JB b f)⟩⟩
  ·obtain⟨p,o,rfl,L,J⟩:=Af b f n e;exact⟨p,rfl,.inl ⟨⟨o,L⟩,q d w _ y b (JA b f n e)⟩⟩
def JD{T:List Str}{Δ:Nat->Sn}{k:Nat}{N:List Str}{g:A1R}{o r:Expr}{p q:Pos}{a:WE×WT}(C:Cok T Δ X k N g)(b:glo g "range"=aC)(c:Good X r a)(l:i4 r=aC):GoodI X o (.Call (.Name "range" p) [r] [] q) (OF a.1) where
 m:=λn S P E i h=>c.m _ _ _ _ (λx s ⟨j,e,z,q⟩=>⟨j,e,z,i _ _ _ q⟩) h
 pi:=by
  unfold glo at b;simp only[Y3,bQ,YS]at b;have t:Gl X "range":=by show X.env.scope.names.lookup ("range":Str)=_;rw[C.hs];exact b.1.1
  refine GA _ (LK t C.rng (y0 c.pe B8 (j4 l)) (j4 l)) ?_;rintro F H R ⟨u,n,S,w,y,h⟩;refine⟨u,n,S,w,y,c.m _ _ _ _ (λx s ⟨j,e,z,q⟩ d A v B f D=>?_) h⟩;subst e;refine⟨j,by rw[rl_int.mp D],z.1,z.2,?_⟩;have:=q d A (Itr 0 (j - 0).toNat) B f HY
  rwa [Int.sub_zero]at this
def JE{T:List Str}{Δ:Nat->Sn}{k:Nat}{N:List Str}{E:A1R}{L r d:Expr}{p q:Pos}{a b:WE×WT}(C:Cok T Δ X k N E)(f:glo E "range"=aC)(g:Good X r a)(n:Good X d b)(F:i4 r=aC)(c:i4 d=aC):GoodI X L (.Call (.Name "range" p) [r,d] [] q) (OG a.1 b.1) where
 m:=λo S P Z i h=>g.m _ _ _ _ (λx G h=>n.m _ _ _ _ (λy M ⟨l,j,e,s,z,q⟩=>⟨l,j,e,s,z,i _ _ _ q⟩) h) h
 pi:=by
  unfold glo at f;simp only[Y3,bQ,YS]at f;have O:Gl X "range":=by show X.env.scope.names.lookup ("range":Str)=_;rw[C.hs];exact f.1.1
  refine GA _ (LL O C.rng (y0 g.pe (y0 n.pe B8 (j4 c)) (j4 F)) (by rw[j4 F,j4 c];rfl) (j4 c)) ?_;rintro σ H R ⟨Q,o,S,I,J,h⟩;refine⟨Q,o,S,I,J,g.m _ _ _ _ (λx G h t H1 v w A U=>?_) h⟩;refine⟨t,o,G,A,J.mono w.pre (w.ku I),n.m _ _ _ _ (λy M ⟨l,j,e,s,z,q⟩ B V u W D Y=>?_) h⟩;subst e s;exact⟨l,j,by rw[rl_int.mp U,rl_int.mp Y],z,q B V _ (w.trans W) D HY⟩
end
end Rf
namespace L2
open PySem PySem.Spec PyProof.Rows
noncomputable def SetXO(prog:A1L)(w:A1N)(o:Obj)(L:List Int):Prop:=
 ∃ es ep t,o.ExactSet/\o.data = .set es ep t/\ElemsOf (intKind prog w) es.toList/\es.size<A2s/\t.fits es.size=aC/\Tab w t/\(es.toList.map λe=>numOf e.2).Perm L
def SetXO.at{prog:A1L}{w:A1N}{o:Obj}{L:List Int}{h:Heap}{a:A1G}(x:SetXO prog w o L)(e:h.get? a=aA o):SetX prog w h a L:=let ⟨b,c,t,r⟩:=x;⟨o,b,c,t,e,r⟩
def SetX.obj{prog:A1L}{w:A1N}{L:List Int}{h:Heap}{a:A1G}(x:SetX prog w h a L):∃ o,h.get? a=aA o/\SetXO prog w o L:=let ⟨o,b,c,t,e,r⟩:=x;⟨o,e,b,c,t,r⟩
noncomputable def hoS(o:Obj)(L:List Int):HO := .frz o (.set (λk=>decide (k∈L)) L.length)
noncomputable def PEk{α:Type}(Y:Cx)(b:A1E->Env->Sem Unit)(c:A1G->α->St->Hp->(α->Hp->Prop)->Prop):Prop:=∀ D e s d H a N,Inv Y e d H s->c D a d H N->A1J (A1K Y.prog Y.w) Y.A (b (.ref D) Y.env) (λ_ g=>∃ h f,Inv Y e d f g/\N h f) (λ_ _=>False) s
noncomputable def PEm{α:Type}(Y:Cx)(b:A1E->Env->Sem Unit)(c:A1G->α->St->Hp->(α->Hp->Prop)->Prop):Prop:=∀ D e s f H a N,Inv Y e f H s->c D a f H N->A1J (A1K Y.prog Y.w) Y.A (b (.ref D) Y.env) (λ_ h=>∃ d i g,Inv Y e d g h/\N i g) (λ_ _=>False) s
def PEk.m{α:Type}{Y:Cx}{b:A1E->Env->Sem Unit}{c:A1G->α->St->Hp->(α->Hp->Prop)->Prop}(h:PEk Y b c):PEm Y b c:=λD e s d H a N I q=>thn (h D e s d H a N I q) λ_ _ ⟨f,g,r⟩=>⟨d,f,g,r⟩
section
variable{Y:Cx}{elt kx vx:Expr}{te tv:TE}(hx:Y.xe=λ_ _=>False)
include hx
def V3(l:PE Y elt te):PEk Y (SY elt) (WH te):=by
 intro D d s e H f N I h;have g:=l d s e H _ I h;rw[hx]at g;refine A1D (thn g λy m a=>?_);obtain⟨v,i,n,o,b,c,p⟩:=a;have j:=Cp (X:=Y) d m e i (.ref D) [v] (.ref D) [y] (λ_ k=>k=upd i D (.lst (f++[v]))) n rfl (.cons o .nil) ⟨_,f,v,rfl,rfl,b,c,rfl⟩;rw[hx]at j;refine A1D (thn j λ_ t a=>?_);obtain⟨z,k,q,u,r⟩:=a;subst r;exact A1H ⟨_,_,q,p⟩
end
structure CKind(X:Cx)(E tg iter:Expr)(ifs:List Expr)(scope:A1R)(emit:A1E->Env->Sem Unit)(u0:HO) where
 mkS:Sem A1E
 o0:Obj
 pos0:Pos
 gs:List A34
 F:CForm X.prog X.w X.A E tg iter ifs emit
 cl:clausesOf E=⟨tg,iter,ifs,0⟩::gs
 ev:eval E X.env=A3B E scope X.env pos0 mkS aD (eval iter X.env) aB
 ev2:∀ use,evalThenUse E X.env use=(do let _ <- A3B E scope X.env pos0 mkS aD (eval iter X.env) (aA use))
 hmk:∀{s2:A1F} {Q:A1E->A1F->Prop},Q (.ref s2.heap.objs.size) {s2 with heap:=s2.heap.push o0}->A1J (A1K X.prog X.w) X.A mkS Q X.xe s2
 nf:o0.isFreed=aD
 new:∀{pq:List (A1G×Obj)} {σ:St} {H2:Hp} {s2:A1F},Inv X pq σ H2 s2->∀(H:Hp) (h:Heap),h.get? s2.heap.objs.size=aA o0->ObjOk X.prog X.w H h s2.heap.objs.size u0
noncomputable def tCG{α:Type}(d:HO)(a0:α)(a:A1G->α->St->Hp->(α->Hp->Prop)->Prop)(e:TI)(g:TG)(f:TT)(k:Nat)(js:List Nat)(fin:A1G->Hp->Prop)(b:St)(H:Hp):Prop:=e b H λJ c=>∀ D,c D=aB->
 ∃ W:Nat->Nat->α->Hp->Prop,(∃ m,W 0 m a0 (upd c D d))/\NN J g f (a D) (CJ k js b) (λH=>fin D H) W
noncomputable def InB(X:Cx)(a:A1R)(N:List Str)(P:Cx->Prop):Prop:=∀ b c cs C d,P (y4 X a N b c cs C d)
section
variable{X:Cx}{α:Type}{E tg iter:Expr}{ifs:List Expr}{scope:A1R}{emit:A1E->Env->Sem Unit}{u0:HO}{a0:α}{tem:A1G->α->St->Hp->(α->Hp->Prop)->Prop}{wi:TI}{g:TG}{tt:TT}{own cn:List Str}{js:List Nat}(Kd:CKind X E tg iter ifs scope emit u0)
 (hi:PI X tg iter wi) (hg:InB X scope (own++cn) λY=>PG Y tg g) (ht:InB X scope (own++cn) λY=>Gg Y ifs tt) (hem:InB X scope (own++cn) λY=>PEm Y emit tem) (hc:X.calm=aC) (hok:BB X.env.scope scope own cn X.N js=aC) (hs:∀ x,A2Z iter X.env x=pure x)
include Kd hi hg ht hem hc hok hs
def Hb{fin:A1G->Hp->Prop}{b:Option (A1E->Sem Unit)}{Q':A1E->A1F->Prop}{k:List (A1G×Obj)}{s:A1F}{l:St}{H:Hp}(I:Inv X k l H s)(h:tCG u0 a0 tem wi g tt own.length js fin l H)
 (f:∀ D C i j,Inv X k l i j->FpOk X k i C->(∃ m,j.heap.Ns C m)->fin D i->compPost (A1K X.prog X.w) X.A X.xe b Q' (.ref D) C (.ok .next) j):
 A1J (A1K X.prog X.w) X.A (A3B E scope X.env Kd.pos0 Kd.mkS aD (eval iter X.env) b) Q' X.xe s:=by
 have a:=hok;unfold BB at a;simp only[Y3,dQ,YX,Yj,YS,decide_eq_false_iff_not]at a;obtain⟨⟨⟨⟨⟨⟨B,G⟩,K⟩,V⟩,W⟩,Y⟩,Z⟩:=a
 have d:∀ x∈scope.names,x.2 = .free->∃ c,X.env.cells.lookup x.1=aA c:=λx n L=>I.ok.has x.1 (by
  rcases G x n with(z | z) | z
  ·exact absurd L z
  ·exact .inl z
  ·exact .inr z)
 refine wpAny_comprehension_free Kd.cl hs (Cq d) B (λx n M=>?_) (thn (hi k s l H _ I h) λv s1 N=>thn N λO t ⟨it,u,tn,J,y,e,o,T,p,P,q⟩=>?_)
 ·rw[A0 K (show(x.1,x.2)∈scope.names from n),M]
 ·subst e;exact Gh (RR:=λr C=>compPost (A1K X.prog X.w) X.A X.xe b Q' r C) Kd.F (Kd.hmk) Kd.nf (Kd.new o) hok hc hg ht (λD t y Q C u=>hem t y Q C u D) o T p P (q _ o.fresh) λC i j R S U=>f _ C i j R S U
def Oo:PE X E λc H Q=>tCG u0 a0 tem wi g tt own.length js (λD H=>Q (.ref D) H) c H:=by
 intro v s c H Q I h;rw[Kd.ev];refine Hb Kd hi hg ht hem hc hok hs I h λD C d f i ⟨j,k,l,n,p,q⟩ ⟨m,r⟩ t=>⟨m,r,λw a=>⟨.ref D,d,?_,rfl,t⟩⟩
 exact i.turned (t':=f.toks) (λb o u e=>(a.2 b u).trans e) j k n p q
def Hc{i:Nat}{x:Str}{d c:Pos}(w:X.N.Nodup)(f:X.N[i]?=aA x)(q:X.env.scope.names.lookup x=aA .local)(j:A2l E (aA (.Name x d)) c.line X.env=pure aC):PS X (.Assign [.Name x d] E c) (IR (λr H Q=>tCG u0 a0 tem wi g tt own.length js (λD H=>Q (.ref D) H) r H) (GX i)):=by
 intro y s r H D I h;rw[exec_Assign_Name_used _ _ _ _ j,Kd.ev2];refine A1D (A2I (A1D (A1D (A23 (Hb Kd (Q':=λ_ k=>SP X y D .next k) hi hg ht hem hc hok hs I h λD C B k F ⟨G,t,J,K,u,L⟩ ⟨m,M⟩ O=>?_) (λ_ k P=>A1H (A1H P)) λ_ _ e=>e))));show A1J _ X.A (assign (.Name x d) X.env (.ref D)) _ _ _;refine A3D (Eu F w f (.inl q) (v := .ref D) rfl (λR S ⟨a,l,T⟩=>?_) (.inr q))
 have n:C≠a:=by
  rcases T with z | z
  ·rw[z];exact t
  ·exact λe=>u x a z e.symm
 exact⟨m,M.sameBut l n,λV p=>⟨_,B,S.turned (t':=R.toks) (λb o U e=>(p.2 b U).trans e) G t K u L,O⟩⟩
end
section
variable{X:Cx}{tg iter elt kx vx:Expr}{ifs:List Expr}{gs:List A34}{scope:A1R}{pos:Pos}{emit:A1E->Env->Sem Unit}
noncomputable def ckL(F:CForm X.prog X.w X.A (.ListComp elt (⟨tg,iter,ifs,0⟩::gs) scope pos) tg iter ifs emit):CKind X (.ListComp elt (⟨tg,iter,ifs,0⟩::gs) scope pos) tg iter ifs scope emit (.lst []) where
 mkS:=newList []
 o0:={cls := .type "list",dict:=aB,data := .seq ([]:List A1E).toArray}
 pos0:=_
 gs:=gs
 F:=F
 cl:=rfl
 ev:=eval_ListComp ..
 ev2:=λ_=>rfl
 hmk:=λh=>A1S h
 nf:=rfl
 new:=λ_ _ _ a=>⟨Z3 _,[],0,.nil,a⟩
end
end L2
namespace Rf
open PySem L2
def MJ{α:Type}{o:Option (Option α)}{x:α}(h:o.join=aA x):o=aA (aA x):=by
 cases o with
 | none=>cases h
 | some o=>cases o with
   | none=>cases h
   | some y=>cases h;rfl
def EnvOk.cap{K:Y2}{as:List A1G}{H:Hp}{c:St}{b:EnvS}(h:EnvOk K as H c b)(k:Nat)(js:List Nat):EnvOk K as H (CJ k js c) (HF k js b):=by
 refine⟨by unfold CJ HF;simp,λi x e=>?_⟩;unfold HF at e;unfold CJ;by_cases a:i<k
 ·rw[YM (by simpa using a),ZH,iP a]at e;cases e
 ·rw[Yz (by simpa using a),ZX,YA]at e;rw[Yz (by simpa using a),ZX,YA];cases hj:js[i - k]? with
  | none=>rw[hj]at e;cases e
  | some j=>
    rw[hj]at e;have d:(b[j]?).join=aA x:=oj e;obtain⟨v,f,g⟩:=h.2 j x (MJ d);exact⟨v,by simp only[Zd];rw[f];rfl,g⟩
def Ok.adoptO{K:Y2}{as:List A1G}{H:Hp}{S:Sto}{D:A1G}{x:SO}(h:Ok K as H S)(n:D∉as)(r:RlO K (as++[D]) H D x):Ok K (as++[D]) H (S++[x]):=by
 have d:as <+: as++[D]:=ZU _ _;refine⟨by rw[Y5,Y5,h.len];rfl,?_,λk o a e c=>?_⟩
 ·rw[Zg];refine⟨h.nd,by simp,λa i b j=>?_⟩;rw[YK.mp j];intro z;subst z;exact n i
 ·by_cases g:k<S.length
  ·rw[YM g]at e;rw[YM (by rw[h.len];exact g)]at c;exact(h.obj k o a e c).mono d (KeepU.refl _) λ_ z=>z
  ·have f:k=S.length:=by
    have:=(gM e).1;rw[Y5,Yt]at this;omega
   subst f;rw[YY]at e;rw[<-h.len,YY]at c;cases e;cases c;exact r
def Ok.otherO{K:Y2}{as:List A1G}{H:Hp}{S:Sto}(h:Ok K as H S){b:A1G}{u v:HO}(d:H b=aA u)(f:imm u=aD)(n:b∉as):Ok K as (upd H b v) S:=⟨h.len,h.nd,λk o a e c=>(h.obj k o a e c).mono (Yh as) (Cz d f) λi g=>by
 rw[i9 (λz=>n (by rw[<-z];exact Y7 c))];exact g⟩
def Hd{b:Type}(c:WM b):Prop:=∀ d a S (N e:b->Sto->Prop),(∀ a S,N a S->e a S)->c d a S N->c d a S e
section
variable{β:Type}{keep:Sto->Prop}{g:Tg}{t:WT}{em:WM β}{e f:WE}
def EF(a:Mono e):Hd (emL e):=λb c S N d h=>a _ _ _ _ λy i q=>⟨q.1,h _ _ q.2⟩
theorem GB{d:EnvS}(mt:MonoT t)(c:Hd em){Q Q':β->Sto->Prop}(i:∀ a S,Q a S->Q' a S):∀(xs:List SV) (a:β) (S:Sto),wTG keep g t em d Q xs a S->wTG keep g t em d Q' xs a S
 | [],a,S,h=>⟨h.1,i _ _ h.2⟩
 | x::xs,a,S,h=>⟨h.1,AM g (λj q=>mt _ _ _ _ (λb k q=>v4 (λq=>c _ _ _ _ _ (λy l q=>GB mt c i xs _ _ q) q) (λq=>GB mt c i xs _ _ q) q) q) h.2⟩
def Mono.cG{k:Nat}{js:List Nat}{i:WI}{b0:β}{fin:QE->β->Sto->Prop}(c:MonoI i)(mt:MonoT t)(d:Hd em)(j:∀ P a:QE,(∀ x S,P x S->a x S)->∀ b S,fin P b S->fin a b S):Mono (wCG k js g i t em b0 fin):=λo S P a l h=>c _ _ _ _ (λkeep m n h=>GB mt d (j _ _ l) m _ n h) h
end
structure GoD(D:A1G)(as:List A1G)(H:Hp)(as':List A1G)(H':Hp):Prop where
 pre:as <+: as'
 keep:∀ b o,H b=aA o->b∉as->b≠D->H' b=aA o/\b∉as'
 ku:KeepU H H'
 out:D∉as->D∉as'
section
variable{K:Y2}{as as' as1 as2:List A1G}{H H' H1 H2:Hp}{S:Sto}{D:A1G}{u v:HO}
def GoD.refl:GoD D as H as H:=⟨Yh _,λ_ _ h n _=>⟨h,n⟩,KeepU.refl _,id⟩
def GoD.trans(a:GoD D as H as1 H1)(b:GoD D as1 H1 as2 H2):GoD D as H as2 H2:=⟨a.pre.trans b.pre,λx o h n z=>let ⟨c,d⟩:=a.keep x o h n z;b.keep x o c d z,a.ku.trans b.ku,λh=>b.out (a.out h)⟩
def Go.d(g:Go as H as1 H1)(a:Ok K as H S)(c:H D=aA u):GoD D as H as1 H1:=⟨g.pre,λb o h n _=>g.keep b o h n,g.ku a,λn=>(g.keep D _ c n).2⟩
def GoD.put(a:H D=aA u)(i:imm u=aD):GoD D as H as (upd H D v):=⟨Yh _,λb o h n z=>⟨by rw[i9 z];exact h,n⟩,Cz a i,id⟩
def GoD.go(g:GoD D as (upd H D u) as' H')(a:H D=aB):Go as H as' H':=⟨g.pre,λb o h n=>g.keep b o (by rw[i9 (i8 h a)];exact h) n (i8 h a)⟩
end
structure Knd(α β:Type)(K:Y2) where
 at_:List A1G->Hp->A1G->α->β->Prop
 mono:∀{as as' H H' D a b},as <+: as'->KeepU H H'->H' D=H D->at_ as H D a b->at_ as' H' D a b
 some:∀{as H D a b},at_ as H D a b->∃ u,H D=aA u/\imm u=aD
section
variable{K:Y2}{α β:Type}{k:Knd α β K}
def Knd.go{as c:List A1G}{H f:Hp}{S:Sto}{D:A1G}{a:α}{b:β}(h:k.at_ as H D a b)(j:Ok K as H S)(n:D∉as)(g:Go as H c f):GoD D as H c f/\k.at_ c f D a b/\D∉c:=by
 obtain⟨u,e,i⟩:=k.some h;have z:=g.keep D u e n;exact⟨g.d j e,k.mono g.pre (g.ku j) (z.1.trans e.symm) h,z.2⟩
noncomputable def V4(k:Knd α β K)(m:WM β)(e:A1G->α->St->Hp->(α->Hp->Prop)->Prop):Prop:=
 ∀ D a b f g as H S (N:α->Hp->Prop) (h:β->Sto->Prop),D∉as->Ok K as H S->EnvOk K as H f g->k.at_ as H D a b->m g b S h->
  (∀ c i j l d,GoD D as H c d->Ok K c d i->k.at_ c d D j l->h l i->N j d)->e D a f H N
def V5{R:WM β}{E:A1G->α->St->Hp->(α->Hp->Prop)->Prop}{n:Nat}{js:List Nat}{g:Tg}{i:WI}{t:WT}{a0:α}{b0:β}{F:HO}{fin:QE->β->Sto->Prop}{fin':VK->A1G->Hp->Prop}(h:V4 k R E)(mi:MonoI i)(mt:MonoT t)(u:imm F=aD)(h0:∀ f H D,k.at_ f (upd H D F) D a0 b0)
 (G:∀{f H d s e D a b Q},Go f H d s->Go f H (d++[D]) s->Ok K d s e->D∉d->k.at_ d s D a b->fin (Post K f H Q) b e->fin' Q D s):
 ∀ X H Q,lift K (wCG n js g i t R b0 fin) X H Q->tCG F a0 E (liftI K i) (HU K g) (liftT K t) n js (fin' Q) X H:=by
 rintro X H Q ⟨f,T,S,ok,en,q⟩;refine⟨f,T,S,ok,en,mi _ _ _ _ (λv y S1 q A H1 J U j W D V=>?_) q⟩;have n1:=j.free V
 refine⟨λi m a w=>m=y.length - i/\i<=y.length/\∃ d e b,GoD D A (upd H1 D F) d w/\Ok K d w e/\k.at_ d w D a b/\wTG v g t R (HF n js T) (fin (Post K f H Q)) (y.drop i) b e,
  ⟨_,rfl,Z3 _,A,S1,b0,.refl,j.new V,h0 _ _ _,q⟩,?_⟩
 rintro i m a s ⟨rfl,hi,d,e,b,l,p,I,q⟩;have C:=l.go V;by_cases B:i<y.length
 ·right;rw[Za B]at q;obtain⟨go,yl⟩:=(W d s e (C.gu j) p q.1).1 i y[i] (Y6 B);refine⟨go,λa w=>∃ d e b,GoD D A (upd H1 D F) d w/\Ok K d w e/\k.at_ d w D a b/\wTG v g t R (HF n js T) (fin (Post K f H Q)) (y.drop (i+1)) b e,λa' w z=>⟨_,by omega,rfl,B,z⟩,λx H3 y3=>?_⟩;obtain⟨g3,r,rx⟩:=yl x H3 y3;obtain⟨Y,Z,n3⟩:=k.go I p (l.out n1) g3;have ge:=U.trans (C.trans g3);refine⟨d,HF n js T,e,_,r,(en.mono ge.pre (ge.ku ok)).cap n js,rx,AM g (λL q a1 M=>⟨d,L,e,r,M,mt _ _ _ _ (λc S5 q N H5 g5 O=>?_) q⟩) q.2⟩;obtain⟨a2,P,n5⟩:=k.go Z r n3 g5;have gd:=(l.trans Y).trans a2;exact v4 (λq=>h D a b a1 L N H5 S5 _ _ n5 O (M.mono g5.pre (g5.ku r)) P q λa3 S6 a6 b6 H6 g6 a4 a5 q6=>⟨a3,S6,b6,gd.trans g6,a4,a5,q6⟩) (λq=>⟨N,S5,b,gd,O,P,q⟩) q
 ·left;obtain rfl:i=y.length:=by omega
  rw[A1h]at q;refine⟨(W d s e (C.gu j) p q.1).2,G (U.trans C) ⟨(U.trans C).pre.trans (ZU _ _),λb o hb nb=>?_⟩ p (l.out n1) I q.2⟩;obtain⟨h1,m1⟩:=U.keep b o hb nb;obtain⟨h2,m2⟩:=C.keep b o h1 m1;refine⟨h2,?_⟩;rw[YT,YK];rintro(z | z)
  ·exact m2 z
  ·exact i8 h1 V z
end
section
variable{K:Y2}{e f:WE}
noncomputable def kL:Knd (List V) (List SV) K:=⟨λas H D vs xs=>H D=aA (.lst vs)/\RlAll K as H vs xs,λp a e h=>⟨e.trans h.1,RlAll.mono p a _ _ h.2⟩,λh=>⟨_,h.1,rfl⟩⟩
def RM(k:Mono e):V4 (kL (K:=K)) (emL e) (WH (lift K e)):=λD a b u l as H S N w n i m h q o=>
 ⟨as,l,S,i,m,k _ _ _ _ (λy x q d z v p g r=>by
   obtain⟨s,c,t⟩:=kL.go h i n p;have j:=GoD.put (as:=d) (v := .lst (a++[v])) c.1 rfl;exact⟨c.1,by rw[c.2.length];exact Ff q.1,o _ _ _ _ _ (s.trans j) (g.otherO c.1 rfl t) ⟨n6,RlAll.mono (Yh _) j.ku _ _ (c.2.append (.cons r .nil))⟩ q.2⟩) q⟩
def RN{α c:Type}{k:Knd α c K}{o:c->SO}(i:∀{as H D a b},k.at_ as H D a b->RlO K as H D (o b)){as H as2 H2 S2 D a b Q}(_:Go as H as2 H2)(g:Go as H (as2++[D]) H2)(d:Ok K as2 H2 S2)(n:D∉as2)(h:k.at_ as2 H2 D a b)(q:Ul o (Post K as H Q) b S2):Q (.ref D) H2:=
 q (as2++[D]) H2 (.ref D) g (d.adoptO n (i (k.mono (ZU _ _) (KeepU.refl _) rfl h))) (rl_loc.mpr ⟨D,by rw[<-d.len,YY],rfl⟩)
end
def He{b c:A1R}{x:Str}(h:b.names.lookup x=aA .local):(OP b c).names.lookup x=aA .local:=by
 have f:∀ l:List (Str×A2a),l.lookup x=aA .local->(l.map λ(n,k)=>if (k == .free&&c.kind == .function&&c.names.lookup n == aA .cell) then (n,.cell) else (n,k)).lookup x=aA .local:=by
  intro l
  induction l with
  | nil=>intro h;cases h
  | cons a r g=>
    obtain⟨n,k⟩:=a;intro h;rw[ZI]at h;rw[Yf];cases hb:x == n with
    | true=>
      rw[hb]at h;have:k = .local:=oj h;subst this;show A0N x ((n,NameKind.local)::_)=_;rw[ZI,hb]
    | false=>
      rw[hb]at h
      have e:∀ d,A0N x ((n,d)::(r.map λ(n,k)=>if (k == .free&&c.kind == .function&&c.names.lookup n == aA .cell) then (n,.cell) else (n,k)))=aA .local:=λd=>by
       rw[ZI,hb];exact g h
      show A0N x ((if (k == .free&&c.kind == .function&&c.names.lookup n == aA .cell)=aC then (n,NameKind.cell) else (n,k))::_)=_;split<;>exact e _
 exact f _ h
def Cok.comp{T:List Str}{Δ:Nat->Sn}{X:Cx}{k:Nat}{N:List Str}{c a:A1R}{own d:List Str}{js:List Nat}(C:Cok T Δ X k N c)(b:BB c a own d N js=aC)(g:A1F)(j:Hp)(cs:List (Str×A1G))(A:A1G)(l:List A1G):Cok T Δ (y4 X a (own++d) g j cs A l) own.length (own++d) (OP a c) where
 hN:=rfl
 hs:=by rw[<-C.hs];rfl
 nd:=by
  unfold BB at b;simp only[Y3,dQ]at b;exact b.1.2
 calm:=C.calm
 fn:=λi x m e f=>by
  unfold BB at b;simp only[Y3,dQ,YX,Yj]at b
  have n:x∈own:=by
   rw[YM m]at e;exact Y7 e
  show(a.names.lookup x == aA .cell)=aC;rcases b.1.1.1.2 x n with h | h
  ·rw[He h]at f;cases f
  ·rw[h];rfl
 un:=C.un
 bl:=C.bl
 rng:=C.rng
 enm:=C.enm
 rvs:=C.rvs
 zip:=C.zip
 sm0:=C.sm0
 st0:=C.st0
 dc0:=C.dc0
 ty:=C.ty
 gd:=C.gd
 ns:=C.ns
 me:=C.me
 call:=C.call
 mono:=C.mono
def BF{r:Expr}(h:Ap r=aC){env:Env}:∀ x,A2Z r env x=pure x:=λx=>by cases r<;>first | rfl | cases h
theorem BN{T N:List Str}{b:A1R}:∀{es:Exs} {a:List Expr},B6 T N b es a=aC->a.all i4=aC
 | .nil,a,h=>by unfold B6 at h;rw[Ym]at h;subst h;rfl
 | .cons e es,a,h=>by
   unfold B6 at h;replace h:=c4 h;obtain⟨x,c,h⟩:=h;simp only[Y3]at h;rw[B5 c,Z6,h.1.2,BN h.2];rfl
def V6{X:Cx}{i:Nat}{x:Str}{p:Pos}{N:List Str}{a:A1R}{T:List Str}{Δ:Nat->Sn}{k:Nat}(C:Cok T Δ X k N a)(h:nmB N a i x=aC):PE X (.Name x p) (Mv i):=by
 unfold nmB at h;simp only[Y3,dQ,YS]at h;exact Us C h.1.1.1 h.1.1.2 h.1.2 h.2
def GC{α:Type}{l:List α}(h:(!l.isEmpty)=aC):∃ y a,l=y::a:=by
 cases l with
 | nil=>cases h
 | cons y a=>exact⟨y,a,rfl⟩
def V7{X:Cx}{c:Expr}{a:WE×WT}(h:Good X c a):Gg X [c] (liftT X.K a.2):=NL h.pt
def Op{X:Cx}:Gg X [] (liftT X.K Wn):=λa s b H Q I c=>NK a s b H Q I (let ⟨d,f,S,e,g,h⟩:=c;h d H (Go.refl _ _) e)
def V8{X:Cx}{E A B:Expr}{f:List Expr}{c:A1R}{d:A1E->Env->Sem Unit}{F:HO}{α v:Type}{k:Knd α v X.K}{G:WM v}{j:A1G->α->St->Hp->(α->Hp->Prop)->Prop}{a0:α}{b0:v}{o:v->SO}{T N own l:List Str}{Δ:Nat->Sn}{Z:Nat}{M:A1R}{js:List Nat}{g:Tg}{i:WI}{t:WT}(O:CKind X E A B f c d F)(C:Cok T Δ X Z N M)(J:BB M c own l N js=aC)(w:GoodI X A B i)(R:Ap B=aC)
 (U:InB X c (own++l) λY=>PG Y A (HU X.K g)) (V:InB X c (own++l) λY=>Gg Y f (liftT X.K t)) (mt:MonoT t) (p:InB X c (own++l) λY=>PEm Y d j) (h:V4 k G j) (mm:Hd G) (u:imm F=aD) (h0:∀ y H D,k.at_ y (upd H D F) D a0 b0) (ad:∀{y H D a b},k.at_ y H D a b->RlO X.K y H D (o b)) (hp:Iv E=aC):Good X E (tt1 (wCG own.length js g i t G b0 (Ul o))):=
 have e:BB X.env.scope c own l X.N js=aC:=by rw[C.hs,C.hN];exact J
 have r:=V5 (n:=own.length) (js:=js) (g:=g) h w.m mt u h0 (fin':=λQ D H=>Q (.ref D) H) (RN (k:=k) (o:=o) ad)
 .one (l7 _ (Oo O w.pi U V p C.calm e (BF R)) λz H Q h=>r z H Q h) (.cG w.m mt mm λP P' im b S q=>im _ _ q) hp
  λ_ i x px W hN hx hl L=>λpq s z H D I q=>Hc O w.pi U V p C.calm e (BF R) hN hx hl L pq s z H D I (r z H _ q)
mutual
theorem f8{T:List Str}{Δ:Nat->Sn}:∀(e:Ex) (r:Expr) {X:Cx} {k:Nat} {N:List Str} {w:A1R},Cok T Δ X k N w->m8 T N w e r=aC->Good X r (wEx Δ e)
 | .var i,r,X,k,N,w,C,h=>by
   replace h:=c4 h;obtain⟨x,Q,h⟩:=h;obtain⟨p,rfl⟩:=AB Q;exact .one (l7 _ (V6 C h) Qk) .var rfl
 | .c x,r,X,k,N,w,C,h=>by
   replace h:=c4 h;obtain⟨x,Q,h⟩:=h;obtain⟨j,p,rfl⟩:=Lz Q;exact RJ h
 | .op o a b,r,X,k,N,w,C,h=>by
   replace h:=c4 h;obtain⟨v,l,h⟩:=h;obtain⟨p,rfl⟩:=RC l;simp only[Y3,dQ]at h;have H:=f8 a _ C h.1.2;have I:=f8 b _ C h.2;rw[<-h.1.1];exact .one (OY H.pe I.pe H.m I.m) (.two KB H.m I.m) rfl
 | .neg a,r,X,k,N,w,C,h=>by
   replace h:=c4 h;obtain⟨v,l,h⟩:=h;obtain⟨p,rfl⟩:=OT l;simp only[Y3,dQ]at h;rw[h.1];exact M7 (f8 a _ C h.2)
 | .cmp o a b,r,X,k,N,w,C,h=>by
   replace h:=c4 h;obtain⟨v,l,h⟩:=h;replace h:=c4 h;obtain⟨rb,Z,h⟩:=h;obtain⟨p,rfl⟩:=Fu l;simp only[Y3,dQ]at h;obtain⟨⟨⟨K,s⟩,n⟩,D⟩:=h;rw[K,AJ Z];have H:=f8 a _ C s;have I:=f8 b _ C n;have:=C.un;exact M0 (by omega) H.pe I.pe H.m I.m D
 | .chn o p a b c,r,X,k,N,w,C,h=>by
   replace h:=c4 h;obtain⟨v,l,h⟩:=h;replace h:=c4 h;obtain⟨rs,Z,h⟩:=h;obtain⟨p,rfl⟩:=Fu l;simp only[Y3,dQ]at h;obtain⟨⟨⟨⟨K,s⟩,n⟩,D⟩,E⟩:=h;rw[K,CF Z];have H:=f8 a _ C s;have I:=f8 b _ C n;have gc:=f8 c _ C D;have:=C.un;exact M1 (by omega) H.pe I.pe gc.pe H.m I.m gc.m E
 | .and a b,r,X,k,N,w,C,h=>by
   replace h:=c4 h;obtain⟨v,l,h⟩:=h;have e:=HH l;subst e;rw[Y3,dQ]at h;obtain⟨K,h⟩:=h;replace h:=c4 h;obtain⟨x,Q,h⟩:=h;rw[Y3]at h;have H:=f8 a _ C h.1;rw[K,B5 Q];have n:=h.2;generalize v.2.1.tail=tl at n;cases J:l1 tl with
   | some y=>
     rw[J]at n;rw[AJ J];exact Iy H (f8 b _ C n)
   | none=>
     rw[J]at n;rw[Y3,dQ]at n;have I:=f8 b _ C n.2
     match tl,n,I with
     | y::z::zs,n,I=>exact Iz H I
     | [],n,_=>exact absurd n.1 (by simp)
     | [_],n,_=>exact absurd n.1 (by simp)
 | .or a b,r,X,k,N,w,C,h=>by
   replace h:=c4 h;obtain⟨v,l,h⟩:=h;have e:=HH l;subst e;rw[Y3,dQ]at h;obtain⟨K,h⟩:=h;replace h:=c4 h;obtain⟨x,Q,h⟩:=h;rw[Y3]at h;have H:=f8 a _ C h.1;rw[K,B5 Q];have n:=h.2;generalize v.2.1.tail=tl at n;cases J:l1 tl with
   | some y=>
     rw[J]at n;rw[AJ J];exact M3 H (f8 b _ C n)
   | none=>
     rw[J]at n;rw[Y3,dQ]at n;have I:=f8 b _ C n.2
     match tl,n,I with
     | y::z::zs,n,I=>exact M4 H I
     | [],n,_=>exact absurd n.1 (by simp)
     | [_],n,_=>exact absurd n.1 (by simp)
 | .not a,r,X,k,N,w,C,h=>by
   replace h:=c4 h;obtain⟨v,l,h⟩:=h;obtain⟨p,rfl⟩:=OT l;simp only[Y3,dQ]at h;rw[h.1];exact M5 (f8 a _ C h.2)
 | .ife t a b,r,X,k,N,w,C,h=>by
   replace h:=c4 h;obtain⟨v,l,h⟩:=h;obtain⟨p,rfl⟩:=RD l;simp only[Y3]at h;exact M6 (f8 t _ C h.1.1) (f8 a _ C h.1.2) (f8 b _ C h.2)
 | .tup P,r,X,k,N,w,C,h=>by
   replace h:=c4 h;obtain⟨v,l,h⟩:=h;obtain⟨j,p,rfl⟩:=By l;exact MA (AT P _ C h)
 | .lst P,r,X,k,N,w,C,h=>by
   replace h:=c4 h;obtain⟨v,l,h⟩:=h;obtain⟨p,rfl⟩:=RE l;exact MB (AT P _ C h)
 | .ix a b,r,X,k,N,w,C,h=>by
   replace h:=c4 h;obtain⟨v,l,h⟩:=h;obtain⟨p,rfl⟩:=Cc l;simp only[Y3]at h;exact Ob (f8 a _ C h.1.1) (f8 b _ C h.1.2) h.2
 | .call f P,r,X,k,N,w,C,h=>by
   replace h:=c4 h;obtain⟨v,l,h⟩:=h;obtain⟨p,q,rfl⟩:=AS l;simp only[Y3,dQ]at h;obtain⟨⟨⟨s,n⟩,D⟩,E⟩:=h;obtain⟨y,ys,e⟩:=GC E;have L:=BN D;have g:=AT P _ C D;rw[e]at L g ⊢;rw[Z6,Y3]at L;exact J2 C s n g L.1 L.2
 | .bi b P,r,X,k,N,w,C,h=>by
   replace h:=c4 h;obtain⟨v,l,h⟩:=h;obtain⟨p,q,rfl⟩:=AS l;simp only[Y3,dQ]at h;obtain⟨⟨⟨s,n⟩,D⟩,E⟩:=h;obtain⟨y,ys,e⟩:=GC E;have L:=BN D;have g:=AT P _ C D;rw[e]at L g ⊢;rw[Z6,Y3]at L;rw[<-s]at n ⊢;exact Oh C n g L.1 L.2
 | .mt m a P,r,X,k,N,w,C,h=>by
   replace h:=c4 h;obtain⟨v,l,h⟩:=h;obtain⟨ap,cp,rfl,J⟩:=E8 l;simp only[Y3,dQ]at h;obtain⟨⟨⟨⟨K,s⟩,D⟩,E⟩,G⟩:=h;have L:=BN G;have H:=f8 a _ C E;have gs:=AT P _ C G;rw[K];generalize v.2.2=a0 at D G L gs ⊢;cases a0 with
   | nil=>
     cases P with
     | nil=>exact MC H s J
     | cons _ _=>rw[B6]at G;cases G
   | cons y ys=>
     rw[Z6,Y3]at L;exact Oj H gs s J D L.1 L.2
 | .comp own cn js g it t e,r,X,k,N,w,C,h=>by
   replace h:=c4 h;obtain⟨v,l,h⟩:=h;replace h:=c4 h;obtain⟨c,hc,h⟩:=h;obtain⟨p,rfl⟩:=OV l;simp only[Y3,dQ]at h;obtain⟨⟨⟨⟨⟨⟨K,s⟩,n⟩,D⟩,E⟩,G⟩,O⟩:=h;have hI:=FL it _ _ C D;have hT:=λR S U A V=>Oq t _ (C.comp s R S U A V) G;have hE:=λR S U A V=>f8 e _ (C.comp s R S U A V) O;rw[AJ hc];obtain⟨tg,ri,a1,az⟩:=c;have K:az=0:=K;subst K;exact V8 (o:=SO.lst) (ckL Ia) C s hI E (λR S U A V=>Ce (C.comp s R S U A V) g _ n) (λR S U A V=>(hT R S U A V).1) (hT X.s₀ X.H₀ [] 0 []).2 (λR S U A V=>(V3 rfl (hE R S U A V).pe).m) (RM (hE X.s₀ X.H₀ [] 0 []).m) (EF (hE X.s₀ X.H₀ [] 0 []).m) rfl (λ_ _ _=>⟨n6,.nil⟩) (λh=>⟨_,h⟩) rfl
 | .tyc t,r,X,k,N,w,C,h=>by
   replace h:=c4 h;obtain⟨x,Q,h⟩:=h;obtain⟨p,rfl⟩:=AB Q;simp only[Y3,dQ]at h;obtain⟨⟨rfl,s⟩,n⟩:=h;exact MD C s n
 | .max1 a,r,X,k,N,w,C,h=>by
   replace h:=c4 h;obtain⟨v,l,h⟩:=h;replace h:=c4 h;obtain⟨Y,B,h⟩:=h;obtain⟨p,q,rfl⟩:=AS l;simp only[Y3,dQ]at h;obtain⟨⟨⟨F,s⟩,D⟩,E⟩:=h;rw[F]at s;rw[AJ B,F];exact J4 C s (f8 a _ C D) E
 | .dnewp,r,X,k,N,w,C,h=>by
   replace h:=c4 h;obtain⟨v,l,h⟩:=h;obtain⟨p,rfl⟩:=E6 l;simp only[Y3,Ym]at h;rw[h.1,h.2];exact HP
 | .setd d e v,r,X,k,N,w,C,h=>by
   replace h:=c4 h;obtain⟨u,W,h⟩:=h;replace h:=c4 h;obtain⟨Y,B,h⟩:=h;obtain⟨ap,cp,rfl,J⟩:=E8 W;simp only[Y3,dQ]at h;obtain⟨⟨⟨⟨⟨⟨F,s⟩,n⟩,D⟩,E⟩,G⟩,O⟩:=h;rw[CF B,F];exact J8 (Zl (A0a (by decide) _) C.un) (f8 d _ C n) (f8 e _ C D) (f8 v _ C G) s J E O
 | .dnewl,r,X,k,N,w,C,h=>by
   replace h:=c4 h;obtain⟨v,l,h⟩:=h;obtain⟨p,rfl⟩:=E6 l;simp only[Y3,Ym]at h;rw[h.1,h.2];exact HR
 | .dget2l d e v,r,X,k,N,w,C,h=>by
   replace h:=c4 h;obtain⟨u,W,h⟩:=h;replace h:=c4 h;obtain⟨Y,B,h⟩:=h;obtain⟨ap,cp,rfl,J⟩:=E8 W;simp only[Y3,dQ]at h;obtain⟨⟨⟨⟨⟨⟨F,s⟩,n⟩,D⟩,E⟩,G⟩,O⟩:=h;rw[CF B,F];exact Fy (Zl (A0a (by decide) _) C.un) (f8 d _ C n) (f8 e _ C D) (f8 v _ C G) s J E O
 | .setdi d e v,r,X,k,N,w,C,h=>by
   replace h:=c4 h;obtain⟨u,W,h⟩:=h;replace h:=c4 h;obtain⟨Y,B,h⟩:=h;obtain⟨ap,cp,rfl,J⟩:=E8 W;simp only[Y3,dQ]at h;obtain⟨⟨⟨⟨⟨⟨F,s⟩,n⟩,D⟩,E⟩,G⟩,O⟩:=h;rw[CF B,F];exact HS (f8 d _ C n) (f8 e _ C D) (f8 v _ C G) s J E O
 | .dvalsl a,r,X,k,N,w,C,h=>by
   replace h:=c4 h;obtain⟨v,l,h⟩:=h;replace h:=c4 h;obtain⟨z,hz,h⟩:=h;replace h:=c4 h;obtain⟨u,W,h⟩:=h;obtain⟨p,q,rfl⟩:=AS l;obtain⟨ap,cp,rfl,J⟩:=E8 W;simp only[Y3,dQ,Ym]at h;obtain⟨⟨⟨⟨⟨F,s⟩,M⟩,e3⟩,E⟩,G⟩:=h;rw[F]at s;rw[AJ hz,F,M,e3];exact Fz C s (f8 a _ C G) E J
 | .mind a d,r,X,k,N,w,C,h=>by
   replace h:=c4 h;obtain⟨⟨x,as,kw⟩,l,h⟩:=h;replace h:=c4 h;obtain⟨Y,B,h⟩:=h;obtain⟨p,q,rfl⟩:=K9 l;obtain⟨ka,kv,kp⟩:=kw;simp only[Y3,dQ]at h;obtain⟨⟨⟨⟨⟨F,s⟩,D⟩,G⟩,E⟩,M⟩:=h;subst F;subst M;rw[AJ B];exact J9 (Zl (A0a (by decide) _) C.un) C s (f8 a _ C D) (f8 d _ C G) E
 | .maxd a d,r,X,k,N,w,C,h=>by
   replace h:=c4 h;obtain⟨⟨x,as,kw⟩,l,h⟩:=h;replace h:=c4 h;obtain⟨Y,B,h⟩:=h;obtain⟨p,q,rfl⟩:=K9 l;obtain⟨ka,kv,kp⟩:=kw;simp only[Y3,dQ]at h;obtain⟨⟨⟨⟨⟨F,s⟩,D⟩,G⟩,E⟩,M⟩:=h;subst F;subst M;rw[AJ B];exact J5 C s (f8 a _ C D) (f8 d _ C G) E
 | .isx a x,r,X,k,N,w,C,h=>by
   replace h:=c4 h;obtain⟨v,l,h⟩:=h;replace h:=c4 h;obtain⟨Y,B,h⟩:=h;obtain⟨p,q,rfl⟩:=AS l;simp only[Y3,dQ,bQ]at h;obtain⟨⟨⟨⟨⟨F,s⟩,D⟩,E⟩,G⟩,O⟩:=h;obtain⟨np,M⟩:=AB G;rw[F]at s;rw[CF B,F,M];exact ME C s O (f8 a _ C D) E
 | .isv a,r,X,k,N,w,C,h=>by
   replace h:=c4 h;obtain⟨v,l,h⟩:=h;replace h:=c4 h;obtain⟨Y,B,h⟩:=h;obtain⟨p,q,rfl⟩:=AS l;simp only[Y3,dQ,bQ]at h;obtain⟨⟨⟨⟨⟨F,s⟩,D⟩,E⟩,G⟩,O⟩:=h;obtain⟨np,M⟩:=AB G;rw[F]at s;rw[CF B,F,M];exact MF C s O (f8 a _ C D) E
 | .srtset a,r,X,k,N,w,C,h=>by
   replace h:=c4 h;obtain⟨v,l,h⟩:=h;replace h:=c4 h;obtain⟨z,hz,h⟩:=h;replace h:=c4 h;obtain⟨u,W,h⟩:=h;replace h:=c4 h;obtain⟨Y,B,h⟩:=h;obtain⟨p,q,rfl⟩:=AS l;obtain⟨p2,q2,rfl⟩:=AS W;simp only[Y3,dQ]at h;obtain⟨⟨⟨⟨⟨F,M⟩,s⟩,n⟩,D⟩,E⟩:=h;rw[F]at s;rw[M]at n;rw[AJ hz,AJ B,F,M];exact Fw C s n (f8 a _ C D) E
 | .eqp a b,r,X,k,N,w,C,h=>by
   replace h:=c4 h;obtain⟨v,l,h⟩:=h;replace h:=c4 h;obtain⟨rb,Z,h⟩:=h;obtain⟨p,rfl⟩:=Fu l;simp only[Y3,dQ]at h;obtain⟨⟨⟨K,s⟩,n⟩,D⟩:=h;rw[K,AJ Z];have H:=f8 a _ C s;have I:=f8 b _ C n;have:=C.un;exact MG (by omega) H.pe I.pe H.m I.m D
 | .dnew,r,X,k,N,w,C,h=>by
   replace h:=c4 h;obtain⟨v,l,h⟩:=h;obtain⟨p,rfl⟩:=E6 l;simp only[Y3,Ym]at h;rw[h.1,h.2];exact J6
 | .dget a b,r,X,k,N,w,C,h=>by
   replace h:=c4 h;obtain⟨v,l,h⟩:=h;obtain⟨p,rfl⟩:=Cc l;simp only[Y3]at h;have:=C.un;exact J7 (by omega) (f8 a _ C h.1.1) (f8 b _ C h.1.2) h.2
 | .no,r,X,k,N,w,C,h => .never
theorem AT{T:List Str}{Δ:Nat->Sn}:∀(es:Exs) (a:List Expr) {X:Cx} {k:Nat} {N:List Str} {b:A1R},Cok T Δ X k N b->B6 T N b es a=aC->GoodA X a (Fs Δ es)
 | .nil,a,X,k,N,b,C,h=>by
   rw[B6,Ym]at h;subst h;exact M9
 | .cons e es,a,X,k,N,b,C,h=>by
   rw[B6]at h;replace h:=c4 h;obtain⟨x,c,h⟩:=h;simp only[Y3]at h;rw[B5 c];exact J1 (f8 e _ C h.1.1) (AT es _ C h.2) h.1.2
theorem X4{T:List Str}{Δ:Nat->Sn}:∀(o:Eo) (r:Option Expr) {X:Cx} {k:Nat} {N:List Str} {a:A1R},Cok T Δ X k N a->Uo T N a o r=aC->PO X r (Oc X.K (wEo Δ o).1)/\MonoO (wEo Δ o).1
 | .no,r,X,k,N,a,C,h=>by
   rw[Uo]at h;rw[A0j.mp h];exact⟨Wu,.no⟩
 | .yes e,r,X,k,N,a,C,h=>by
   rw[Uo]at h;replace h:=c4 h;obtain⟨x,b,h⟩:=h;subst b;exact⟨Ut (f8 e _ C h),.yes (f8 e _ C h).m⟩
theorem Oq{T:List Str}{Δ:Nat->Sn}:∀(o:Eo) (a:List Expr) {X:Cx} {k:Nat} {N:List Str} {b:A1R},Cok T Δ X k N b->KA T N b o a=aC->Gg X a (liftT X.K (wEo Δ o).2)/\MonoT (wEo Δ o).2
 | .no,a,X,k,N,b,C,h=>by
   rw[KA,Ym]at h;subst h;exact⟨Op,λ_ _ _ _ i q=>i _ _ q⟩
 | .yes e,a,X,k,N,b,C,h=>by
   rw[KA]at h;replace h:=c4 h;obtain⟨x,c,h⟩:=h;rw[AJ c];exact⟨V7 (f8 e _ C h),(f8 e _ C h).mt⟩
theorem FL{T:List Str}{Δ:Nat->Sn}:∀(o:Itb) (i r:Expr) {X:Cx} {k:Nat} {N:List Str} {d:A1R},Cok T Δ X k N d->Uq T N d o i r=aC->GoodI X i r (RA Δ o)
 | .seq e,i,r,X,k,N,d,C,h=>by
   exact MI (f8 e _ C h)
 | .rng1 a,i,r,X,k,N,d,C,h=>by
   replace h:=c4 h;obtain⟨v,l,h⟩:=h;replace h:=c4 h;obtain⟨s,c,h⟩:=h;obtain⟨p,q,rfl⟩:=AS l;simp only[Y3,dQ]at h;obtain⟨⟨⟨f,g⟩,m⟩,n⟩:=h;rw[f]at g;rw[AJ c,f];exact JD C g (f8 a _ C m) n
 | .rng2 a b,i,r,X,k,N,d,C,h=>by
   replace h:=c4 h;obtain⟨v,l,h⟩:=h;replace h:=c4 h;obtain⟨s,c,h⟩:=h;obtain⟨p,q,rfl⟩:=AS l;simp only[Y3,dQ]at h;obtain⟨⟨⟨⟨⟨f,g⟩,m⟩,n⟩,t⟩,u⟩:=h;rw[f]at g;rw[CF c,f];exact JE C g (f8 a _ C m) (f8 b _ C t) n u
 | .enum e,i,r,X,k,N,d,C,h=>by
   replace h:((Ft i).isSome&&(vFn r).any λv=>(l1 v.2).any λa=>decide (v.1=("enumerate":Str))&&glo d v.1&&m8 T N d e a&&i4 a)=aC:=h;rw[Y3]at h;obtain⟨w,h⟩:=h;obtain⟨y,x⟩:=Zw.mp w;obtain⟨j,z,rfl⟩:=By x;replace h:=c4 h;obtain⟨v,l,h⟩:=h;replace h:=c4 h;obtain⟨s,c,h⟩:=h;obtain⟨p,q,rfl⟩:=AS l;simp only[Y3,dQ]at h;obtain⟨⟨⟨f,g⟩,m⟩,n⟩:=h;rw[f]at g;rw[AJ c,f];exact JC C g (f8 e _ C m) n
end
noncomputable def EG:Expr->Option A1R
 | .ListComp _ _ s _=>aA s
 | .SetComp _ _ s _=>aA s
 | .DictComp _ _ _ s _=>aA s
 | _=>aB
noncomputable def EH(a:A1R)(e:Expr)(x:Str)(b:Pos):Bool:=match EG e with
 | none=>aD
 | some s=>a.names.lookup x == aA .local&&b.line == e.pos.line&&!(s.names.any λ(n,k)=>n == x&&(k == .local||k == .cell))
def KM{env:Env}{e:Expr}{x:Str}{a:Pos}{l:Nat}(b:env.scope.kind = .function):A2l e (aA (.Name x a)) l env=pure (EH env.scope e x a):=by
 have c:env.blockKind = .function:=by unfold Env.blockKind;rw[b];rfl
 unfold A2l EH EG
 cases e<;>first
  | rfl
  | (show(pure _:Sem Bool)=_;rw[c];rfl)
def Os:Expr->Bool
 | .Tuple ..=>aD
 | _=>aC
noncomputable def RO(a:A1R)(x y:Str)(b c:Pos):Bool:=a.names.lookup x == aA .local&&a.names.lookup y == aA .local&&b.line == c.line&&!(x == y)
def D9:Expr->Option (Str×Pos)
 | .Name x p=>aA (x,p)
 | _=>aB
def Bz{r:Expr}{x:Str×Pos}(h:D9 r=aA x):r = .Name x.1 x.2:=by cases r<;>first | (cases h;rfl) | exact y7 h
noncomputable def MK:Stmt->Option (List Expr×Expr)
 | .Assign ts e _=>aA (ts,e)
 | _=>aB
def V9:Stmt->Option Expr
 | .Expr e _=>aA e
 | _=>aB
noncomputable def X5:Stmt->Option (Expr×List Stmt×List Stmt)
 | .If t a b _=>aA (t,a,b)
 | _=>aB
noncomputable def X6:Stmt->Option (Expr×Expr×List Stmt×List Stmt)
 | .For g i b o _=>aA (g,i,b,o)
 | _=>aB
noncomputable def VA:Stmt->Option (List Stmt×List A29×List Stmt×List Stmt)
 | .Try b h o f _=>aA (b,h,o,f)
 | _=>aB
noncomputable def X7:Stmt->Option (Expr×List Stmt×List Stmt)
 | .While t b o _=>aA (t,b,o)
 | _=>aB
def X8:Stmt->Option (Option Expr)
 | .Return e _=>aA e
 | _=>aB
noncomputable def X9:Stmt->Option (Expr×A2q×Expr)
 | .AugAssign t o e _=>aA (t,o,e)
 | _=>aB
def RP{r:Stmt}{x:Expr×A2q×Expr}(h:X9 r=aA x):∃ p,r = .AugAssign x.1 x.2.1 x.2.2 p:=by cases r<;>first | (cases h;exact⟨_,rfl⟩) | exact y7 h
def Su:A2q->Bool
 | .Add=>aC
 | _=>aD
def Ot{o:A2q}(h:Su o=aC):o = .Add:=by cases o<;>first | rfl | (cases h;done)
noncomputable def XA:Stmt->Option (Expr×Option Expr)
 | .Raise (aA e) c _=>aA (e,c)
 | _=>aB
noncomputable def vHd:A29->Option (Expr×Str×List Stmt)
 | .ExceptHandler (aA e) (aA n) b _=>aA (e,n,b)
 | _=>aB
def l1h:List A29->Option A29
 | [h]=>aA h
 | _=>aB
def VB{l:List A29}{x:A29}(h:l1h l=aA x):l=[x]:=by
 match l,h with
 | [_],h=>cases h;rfl
def RQ{r:Stmt}{x:Expr×Option Expr}(h:XA r=aA x):∃ p,r = .Raise (aA x.1) x.2 p:=by
 cases r with
 | Raise a=>cases a with
   | none=>cases h
   | some=>cases h;exact⟨_,rfl⟩
 | _=>cases h
def VC{r:A29}{x:Expr×Str×List Stmt}(h:vHd r=aA x):∃ p,r = .ExceptHandler (aA x.1) (aA x.2.1) x.2.2 p:=by
 obtain⟨a,b,_⟩:=r;cases a with
 | none=>cases h
 | some=>cases b with
   | none=>cases h
   | some=>cases h;exact⟨_,rfl⟩
def l1s:List Stmt->Option Stmt
 | [h]=>aA h
 | _=>aB
def VD{l:List Stmt}{x:Stmt}(h:l1s l=aA x):l=[x]:=by
 match l,h with
 | [_],h=>cases h;rfl
def Cf{r:Stmt}{x:List Expr×Expr}(h:MK r=aA x):∃ p,r = .Assign x.1 x.2 p:=by cases r<;>first | (cases h;exact⟨_,rfl⟩) | exact y7 h
def KN{r:Stmt}{x:Expr}(h:V9 r=aA x):∃ p,r = .Expr x p:=by cases r<;>first | (cases h;exact⟨_,rfl⟩) | exact y7 h
def RS{r:Stmt}{x:Expr×List Stmt×List Stmt}(h:X5 r=aA x):∃ p,r = .If x.1 x.2.1 x.2.2 p:=by cases r<;>first | (cases h;exact⟨_,rfl⟩) | exact y7 h
def RT{r:Stmt}{x:Expr×Expr×List Stmt×List Stmt}(h:X6 r=aA x):∃ p,r = .For x.1 x.2.1 x.2.2.1 x.2.2.2 p:=by cases r<;>first | (cases h;exact⟨_,rfl⟩) | exact y7 h
def KO{r:Stmt}{x:List Stmt×List A29×List Stmt×List Stmt}(h:VA r=aA x):∃ p,r = .Try x.1 x.2.1 x.2.2.1 x.2.2.2 p:=by cases r<;>first | (cases h;exact⟨_,rfl⟩) | exact y7 h
def RU{r:Stmt}{x:Expr×List Stmt×List Stmt}(h:X7 r=aA x):∃ p,r = .While x.1 x.2.1 x.2.2 p:=by cases r<;>first | (cases h;exact⟨_,rfl⟩) | exact y7 h
def RV{r:Stmt}{x:Option Expr}(h:X8 r=aA x):∃ p,r = .Return x p:=by cases r<;>first | (cases h;exact⟨_,rfl⟩) | exact y7 h
noncomputable def Sv(a:A1R)(b:Expr):Bool:=(Ft b).any λts=>(l2 ts).any λc=>(D9 c.1).any λx=>!(a.names.lookup x.1 == aA .local)
noncomputable def VE(c:A1R)(a b:Expr):Bool:=match D9 a with
 | some x=>!EH c b x.1 x.2||isCmp b
 | none=>(Ft a).isSome&&(Os b||Sv c a)
mutual
noncomputable def XC:Stm->Bool
 | .loop ..=>aD
 | .whl ..=>aD
 | .tri _=>aD
 | .rse ..=>aD
 | .tryx ..=>aD
 | .iff _ a b=>EI a&&EI b
 | _=>aC
noncomputable def EI:List Stm->Bool
 | []=>aC
 | s::a=>XC s&&EI a
end
mutual
noncomputable def Sw:Stm->Bool
 | .tri _=>aD
 | .loop _ _ b=>Bj b
 | .whl _ b=>Bj b
 | .iff _ a b=>Bj a&&Bj b
 | _=>aC
noncomputable def Bj:List Stm->Bool
 | []=>aC
 | s::a=>Sw s&&Bj a
end
mutual
noncomputable def XE(q:List (Str×XCls))(T:List Str)(N:List Str)(d:A1R):Stm->Stmt->Bool
 | .asg t e,r=>(MK r).any λv=>(l1 v.1).any λk=>CG N.length N d t k&&m8 T N d e v.2&&i4 k&&VE d k v.2
 | .par i j a b,r=>(MK r).any λv=>(l1 v.1).any λk=>(Ft k).any λts=>(l2 ts).any λA=>(Ft v.2).any λvs=>(l2 vs).any λab=>(D9 A.1).any λx=>(D9 A.2).any λy=>
    decide (N[i]?=aA x.1)&&decide (N[j]?=aA y.1)&&decide (i≠j)&&RO d x.1 y.1 x.2 y.2&&m8 T N d a ab.1&&m8 T N d b ab.2&&i4 ab.1&&i4 ab.2&&!([ab.1,ab.2].all (foldedForSure 8))&&!([ab.1,ab.2].all (A43 8))
 | .put o i e,r=>(MK r).any λv=>(l1 v.1).any λk=>(Ly k).any λl=>m8 T N d o l.1&&m8 T N d i l.2&&m8 T N d e v.2&&AA l.2
 | .augS o i e,r=>(X9 r).any λv=>(Ly v.1).any λl=>Su v.2.1&&m8 T N d o l.1&&m8 T N d i l.2&&m8 T N d e v.2.2&&AA l.2
 | .dputl o i e,r=>(MK r).any λv=>(l1 v.1).any λk=>(Ly k).any λl=>m8 T N d o l.1&&m8 T N d i l.2&&m8 T N d e v.2&&AA l.2
 | .expr e,r=>(V9 r).any λs=>m8 T N d e s&&(EG s).isNone
 | .iff t a b,r=>(X5 r).any λv=>m8 T N d t v.1&&Bk q T N d a v.2.1&&Bk q T N d b v.2.2
 | .loop g C b,r=>(X6 r).any λv=>CG N.length N d g v.1&&Uq T N d C v.1 v.2.1&&Ap v.2.1&&Bk q T N d b v.2.2.1&&v.2.2.2.isEmpty
 | .tri b,r=>(VA r).any λv=>Bk q T N d b v.1&&!v.2.1.isEmpty&&v.2.2.1.isEmpty&&v.2.2.2.isEmpty
 | .whl t b,r=>(X7 r).any λv=>m8 T N d t v.1&&Bk q T N d b v.2.1&&v.2.2.isEmpty
 | .ret e,r=>(X8 r).any λo=>o.any λs=>m8 T N d e s
 | .rse x c e,r=>(XA r).any λv=>v.2.isNone&&(vFn v.1).any λw=>(l1 w.2).any λB=>decide (w.1=x)&&glo d x&&m8 T N d e B&&i4 B&&decide ((x,c)∈q)
 | .exx f es,r=>(V9 r).any λs=>(vFn s).any λv=>decide (f+1<T.length/\T[f]?=aA v.1)&&glo d v.1&&B6 T N d es v.2&&!v.2.isEmpty
 | .tryx n i j z Dc b,r=>(VA r).any λv=>decide (n=N.length)&&v.2.2.1.isEmpty&&v.2.2.2.isEmpty&&EI b&&Bk q T N d b v.1&&(l1h v.2.1).any λh=>(vHd h).any λw=>(B4 w.1 == aA z)&&glo d z&&q.any (λp=>decide (p.1=z)&&decide (p.2.ad=Dc))&&
    (l1s w.2.2).any λst=>(MK st).any λu=>(l1 u.1).any λk=>(B4 k).any λm=>(B4 u.2 == aA w.2.1)&&decide (N[i]?=aA w.2.1)&&decide (N[j]?=aA m)&&decide (i≠j)&&(d.names.lookup w.2.1 == aA .local)&&(d.names.lookup m == aA .local)&&!(w.2.1 == ("__debug__":Str))&&!(w.2.1 == ("__classdict__":Str))
 | .no,_=>aC
noncomputable def Bk(a:List (Str×XCls))(T:List Str)(N:List Str)(b:A1R):List Stm->List Stmt->Bool
 | [],r=>r.isEmpty
 | s::c,r=>(r.head?).any λx=>XE a T N b s x&&Bk a T N b c r.tail
end
noncomputable def EJ(K:Y2)(as:List A1G)(H:Hp)(D:Ends):EndsS where
 nx:=λd e=>∀ a c b,Go as H a c->Ok K a c e->EnvOk K a c b d->D.nx b c
 rt:=Post K as H D.rt
 bk:=λd e=>∀ a c b,Go as H a c->Ok K a c e->EnvOk K a c b d->D.bk b c
 ct:=λd e=>∀ a c b,Go as H a c->Ok K a c e->EnvOk K a c b d->D.ct b c
noncomputable def liftS(K:Y2)(w:WS):TS:=λD b H=>∃ as a S,Ok K as H S/\EnvOk K as H b a/\w (EJ K as H D) a S
structure XB where
 xo:List A1G->Hp->Prop
 up:∀{as as':List A1G} {H H':Hp},Go as H as' H'->xo as H->xo as' H'
noncomputable def liftX(B:XB)(K:Y2)(w:WS):TS:=λD b H=>∃ as a S,Ok K as H S/\EnvOk K as H b a/\B.xo as H/\w (EJ K as H D) a S
structure Le(D D':EndsS):Prop where
 nx:∀ ρ S,D.nx ρ S->D'.nx ρ S
 rt:∀ x S,D.rt x S->D'.rt x S
 bk:∀ ρ S,D.bk ρ S->D'.bk ρ S
 ct:∀ ρ S,D.ct ρ S->D'.ct ρ S
def MonoS(w:WS):Prop:=∀ D a b S,Le D a->w D b S->w a b S
def MonoS.go{w:WS}(m:MonoS w){D a:EndsS}{b:EnvS}{S:Sto}(h:w D b S)(l:Le D a):w a b S:=m D a b S l h
def Le.go{K:Y2}{as c:List A1G}{H f:Hp}{D:Ends}(g:Go as H c f):Le (EJ K as H D) (EJ K c f D) where
 nx:=λi S h a d b e=>h a d b (g.trans e)
 rt:=λx S h=>Post.mono h g
 bk:=λi S h a d b e=>h a d b (g.trans e)
 ct:=λi S h a d b e=>h a d b (g.trans e)
structure GoodS(X:Cx)(r:Stmt)(w:WS):Prop where
 ps:PS X r (liftS X.K w)
 m:MonoS w
structure GoodX(B:XB)(X:Cx)(r:Stmt)(w:WS):Prop where
 ps:PS X r (liftX B X.K w)
 m:MonoS w
structure GoodSs(B:XB)(X:Cx)(r:List Stmt)(w:WS):Prop where
 ps:PSs X r (liftX B X.K w)
 m:MonoS w
def GoodS.x{B:XB}{X:Cx}{r:Stmt}{w:WS}(h:GoodS X r w):GoodX B X r w:=⟨λa s b H D I ⟨c,d,S,e,f,_,q⟩=>h.ps a s b H D I ⟨c,d,S,e,f,q⟩,h.m⟩
def v9{X:Cx}{st:Stmt}{t:TS}(t':TS)(h:PS X st t)(b:∀ D a H,t' D a H->t D a H):PS X st t':=λc s a H D I d=>h c s a H D I (b D a H d)
def Hh{X:Cx}{st:List Stmt}{t:TS}(t':TS)(h:PSs X st t)(b:∀ D a H,t' D a H->t D a H):PSs X st t':=λc s a H D I d=>h c s a H D I (b D a H d)
section
variable{X:Cx}{B:XB}
def JF:GoodSs B X [] (λD a S=>D.nx a S):=⟨Hh _ QJ λD b H ⟨c,a,S,d,e,_,h⟩=>h c H b (Go.refl _ _) d e,λD f a S l h=>l.nx _ _ h⟩
def Hi{s:Stmt}{j:List Stmt}{w u:WS}(c:GoodX B X s w)(d:GoodSs B X j u):GoodSs B X (s::j) (λD b S=>w {D with nx:=u D} b S) where
 ps:=Hh _ (N1 c.ps d.ps) (by
  rintro D v H ⟨o,b,S,p,r,k,h⟩;refine⟨o,b,S,p,r,k,c.m.go h ⟨λa n q e x t g f i=>?_,λ_ _ h=>h,λ_ _ h=>h,λ_ _ h=>h⟩⟩;exact⟨e,a,n,f,i,B.up g k,d.m _ _ _ _ (Le.go g) q⟩)
 m:=λD y b S l h=>c.m.go (D:={D with nx:=u D}) h ⟨λa n q=>d.m _ _ _ _ l q,l.rt,l.bk,l.ct⟩
def RW{K:Y2}{g:Tg}{w:WE}(m:Mono w):∀ D e H,liftS K (λD a S=>w a S λx f=>wTg g x a λb=>D.nx b f) D e H->IR (lift K w) (HU K g) D e H:=by
 rintro D e H ⟨o,a,S,l,n,h⟩;refine⟨o,a,S,l,n,m _ _ _ _ (λx f q c p v i d r=>?_) h⟩;exact⟨c,a,f,x,d,n.mono i.pre (i.ku l),r,AM g (λb q j k=>q c p j i d k) q⟩
def Hj{K:Y2}{i:Nat}{w:WE}(m:Mono w):∀ D b H,liftS K (λD a S=>w a S λx g=>wTg (.nm i) x a λc=>D.nx c g) D b H->IR (lift K w) (GX i) D b H:=by
 rintro D b H ⟨l,a,S,j,k,h⟩;refine⟨l,a,S,j,k,m _ _ _ _ (λx g q d n v e f o=>?_) h⟩;unfold wTg at q;exact q d n _ e f ((k.mono e.pre (e.ku j)).set o)
def Hk{g:Tg}{w:WE}(m:Mono w):MonoS (λD b S=>w b S λx c=>wTg g x b λa=>D.nx a c):=λD d b S l h=>m _ _ _ _ (λx c q=>AM g (λa q=>l.nx _ _ q) q) h
def VF{K:Y2}{t:WT}{a b:WS}(mt:MonoT t)(n:MonoS a)(o:MonoS b):∀ D j H,liftX B K (λD e S=>t e S λc f=>if c=aC then a D e f else b D e f) D j H->Vn (liftT K t) (liftX B K a) (liftX B K b) D j H:=by
 rintro D j H ⟨p,e,S,k,l,m,h⟩;refine⟨p,e,S,k,l,mt _ _ _ _ (λc f q g r d i=>?_) h⟩;refine v4 (λq=>?_) (λq=>?_) q
 ·exact⟨g,e,f,i,l.mono d.pre (d.ku k),B.up d m,n _ _ _ _ (Le.go d) q⟩
 ·exact⟨g,e,f,i,l.mono d.pre (d.ku k),B.up d m,o _ _ _ _ (Le.go d) q⟩
theorem C0{a:Sto->Prop}{g:Tg}{b:WS}(e:MonoS b):∀(xs:List SV) {D c:EndsS},Le D c->∀ d S,y6 a g b D xs d S->y6 a g b c xs d S
 | [],D,c,l,d,S,h=>by unfold y6 at h ⊢;exact⟨h.1,l.nx _ _ h.2⟩
 | x::xs,D,c,l,d,S,h=>by
   unfold y6 at h ⊢;exact⟨h.1,AM g (λf q=>e.go (D:={D with nx:=y6 a g b D xs,ct:=y6 a g b D xs,bk:=D.nx}) q ⟨C0 e xs l,l.rt,l.nx,C0 e xs l⟩) h.2⟩
def RX{K:Y2}{g:Tg}{i:WI}{b:WS}(mi:MonoI i)(mb:MonoS b):∀ D N H,liftX B K (λD C S=>i C S λd f O=>y6 d g b D f C O) D N H->Vv (liftI K i) (HU K g) (liftX B K b) D N H:=by
 rintro D N H ⟨P,C,S,V,Y,xo,h⟩;refine⟨P,C,S,V,Y,mi _ _ _ _ (λd f O h s Z J L t W=>?_) h⟩
 refine⟨λi m u v=>m=f.length - i/\i<=f.length/\∃ a c n,Go s Z a v/\Ok K a v n/\EnvOk K a v u c/\y6 d g b (EJ K P H D) (f.drop i) c n,
  ⟨f.length,by simp,Z3 _,s,C,O,Go.refl _ _,t,Y.mono L.pre (L.ku V),h⟩,?_⟩
 rintro i m u v ⟨rfl,hi,a,c,n,A,o,E,h⟩;by_cases w:i<f.length
 ·right;rw[Za w]at h;unfold y6 at h;obtain⟨Q,h⟩:=h;obtain⟨w1,_⟩:=W a v n (A.gu t) o Q;obtain⟨go,yl⟩:=w1 i f[i] (Y6 w);refine⟨go,λe r=>∃ a c n,Go s Z a r/\Ok K a r n/\EnvOk K a r e c/\y6 d g b (EJ K P H D) (f.drop (i+1)) c n,λe r z=>⟨f.length - (i+1),by omega,rfl,w,z⟩,λx H3 y3=>?_⟩;obtain⟨F,G,rx⟩:=yl x H3 y3;refine⟨a,c,n,_,G,E.mono F.pre (F.ku o),rx,AM g (λR q a0 T=>?_) h⟩;have y:=(L.trans A).trans F;refine⟨a,R,n,G,T,B.up y xo,mb.go q ⟨λp M q j r e I k l=>?_,λx S h=>Post.mono h y,λp M q j r e I k l=>q j r e (y.trans I) k l,λp M q j r e I k l=>?_⟩⟩
  ·exact⟨j,p,M,(A.trans F).trans I,k,l,q⟩
  ·exact⟨j,p,M,(A.trans F).trans I,k,l,q⟩
 ·left;have U:i=f.length:=by omega
  subst U;rw[A1h]at h;unfold y6 at h;obtain⟨Q,h⟩:=h;obtain⟨_,w2⟩:=W a v n (A.gu t) o Q;exact⟨w2,h a v u (L.trans A) o E⟩
def Hl{t:WT}{b:WS}(mt:MonoT t)(g:MonoS b):MonoS (Um t b):=λD j f S l ⟨W,i,h⟩=>⟨W,i,λm f S w=>mt _ _ _ _ (λc k q=>v4 (λq=>g.go (D:={D with nx:=λa e=>∃ d,d<m/\W d a e,ct:=λa e=>∃ d,d<m/\W d a e,bk:=D.nx}) q ⟨λ_ _ h=>h,l.rt,l.nx,λ_ _ h=>h⟩) (λq=>l.nx _ _ q) q) (h m f S w)⟩
def RY{K:Y2}{t:WT}{b:WS}(mt:MonoT t)(J:MonoS b):∀ D E H,liftX B K (Um t b) D E H->N6 (liftT K t) (liftX B K b) D E H:=by
 rintro D E H ⟨F,L,S,M,N,O,W,⟨P,Q⟩,h⟩;refine⟨λm o A=>∃ a d l,Go F H a A/\Ok K a A l/\EnvOk K a A o d/\W m d l,⟨P,F,L,S,Go.refl _ _,M,N,Q⟩,?_⟩;rintro m o A ⟨a,d,l,s,p,r,R⟩;refine⟨a,d,l,p,r,mt _ _ _ _ (λc T q v U j w=>?_) (h m d l R)⟩;refine v4 (λq=>?_) (λq=>q v U o (s.trans j) w (r.mono j.pre (j.ku p))) q;refine⟨λe n=>∃ u,u<m/\∃ a d l,Go F H a n/\Ok K a n l/\EnvOk K a n e d/\W u d l,λe n z=>z,?_⟩;refine⟨v,d,T,w,r.mono j.pre (j.ku p),B.up (s.trans j) O,J.go q ⟨λk C ⟨u,G,I⟩ f n e y g i=>?_,λx S h=>Post.mono h (s.trans j),λk C q f n e y g i=>q f n e ((s.trans j).trans y) g i,λk C ⟨u,G,I⟩ f n e y g i=>?_⟩⟩
 ·exact⟨u,G,f,k,C,(s.trans j).trans y,g,i,I⟩
 ·exact⟨u,G,f,k,C,(s.trans j).trans y,g,i,I⟩
def RZ{K:Y2}{i j:Nat}{a b:WE}(s:Mono a)(t:Mono b):∀ D g H,liftS K (λD d S=>a d S λx k=>b d k λy r=>D.nx ((d.set i (aA x)).set j (aA y)) r) D g H->Vr i j (GZ (lift K a) (GZ (lift K b) U4)) D g H:=by
 rintro D g H ⟨w,d,S,l,m,h⟩;refine⟨w,d,S,l,m,s _ _ _ _ (λx k q n E v e c z=>?_) h⟩;refine⟨n,d,k,c,m.mono e.pre (e.ku l),t _ _ _ _ (λy r q o A u f p C=>?_) q⟩;refine⟨v,u,rfl,q o A _ (e.trans f) p ?_⟩;exact(((m.mono e.pre (e.ku l)).mono f.pre (f.ku c)).set (Rl.mono f.pre (f.ku c) x v z)).set C
def EK{x y v:SV}{S:Sto}{P d:Sto->Prop}(i:∀ S,P S->d S)(h:HG x y v S P):HG x y v S d:=by
 unfold HG at h ⊢;split at h
 ·obtain⟨e,j,a,b,c⟩:=h;exact⟨e,j,a,b,i _ c⟩
 ·exact h.elim
def KP{K:Y2}{as:List A1G}{H:Hp}{S:Sto}{x y z:SV}{o i v:V}{Q:Hp->Prop}(c:Ok K as H S)(ro:Rl K as H o x)(d:Rl K as H i y)(l:Rl K as H v z)(h:HG x y z S λm=>∀ b,Go as H as b->Ok K as b m->Q b):Jp o i v H Q:=by
 cases x with
 | loc k=>
   cases y with
   | int n=>
     obtain⟨t,j,e,p,q⟩:=h;obtain⟨a,r,rfl,f,s,g⟩:=v6 c ro e;rw[rl_int]at d;subst d;refine⟨a,r,n,j,rfl,rfl,s,by rw[g.length];exact p,q _ (Go.write (Y7 f)) (c.write e f (g.set l j)).1⟩
   | _=>exact False.elim h
 | _=>exact False.elim h
def Ra{K:Y2}{o i e:WE}(L:Mono o)(M:Mono i)(N:Mono e):∀ D l H,liftS K (λD a S=>e a S λv m=>o a m λx n=>i a n λy F=>HG x y v F λG=>D.nx a G) D l H->IR (lift K e) (Vq (lift K o) (lift K i) Jp) D l H:=by
 rintro D l H ⟨O,a,S,I,J,h⟩;refine⟨O,a,S,I,J,N _ _ _ _ (λz m q p U v r b P=>?_) h⟩;have f:=J.mono r.pre (r.ku I);refine⟨p,a,m,b,f,L _ _ _ _ (λx n q s V u g c Q=>?_) q⟩;have j:=f.mono g.pre (g.ku b);refine⟨s,a,n,c,j,M _ _ _ _ (λy F q w W t d k R=>?_) q⟩;have A:=j.mono d.pre (d.ku c);refine KP k (Rl.mono d.pre (d.ku c) x u Q) R (Rl.mono (g.trans d).pre ((g.trans d).ku b) z v P) (EK (λG q T C E=>?_) q);exact q w T l (((r.trans g).trans d).trans C) E (A.mono C.pre (C.ku k))
def GD{n j:Nat}(h:j<n):ixN n (j:Int)=aA j:=by
 unfold ixN;rw[iP (by omega),iP (by omega)];simp
def XF(K:Y2):V->V->Hp->VK->Prop:=λx y H Q=>∃ p xs v,∃ i:Nat,x = .ref p/\y = .int i/\SqL K H p xs/\xs[i]?=aA v/\Q v H
def VG{X:Cx}:Vs X (XF X.K):=by
 intro k s l H x y v u Q I c d h;obtain⟨p,m,z,i,rfl,rfl,e,b,q⟩:=h;cases c;obtain⟨t,rfl⟩:=d;obtain⟨f,r,g,n⟩:=I.list e;obtain⟨w,j,a⟩:=r.get b;have o:=r.length;have A:=BW;have C:=(gM b).1;exact wpAny_getItem_list g.isList (A0g _) (by omega) (by rw[ZM];simpa using j) ⟨z,H,I,a,q⟩
def Rb{K:Y2}{o i e:WE}(W:Mono o)(Y:Mono i)(Z:Mono e):∀ D C H,liftS K (λD f S=>o f S λx G=>i f G λy E=>∃(k:Nat) (j:Nat) (xs:List SV) (a:Int),x = .loc k/\y = .int j/\E[k]?=aA (.lst xs)/\xs[j]?=aA (.int a)/\e f E λv F=>∃(b:Int) (l:List SV),v = .int b/\F[k]?=aA (.lst l)/\j<l.length/\D.nx f (F.set k (.lst (l.set j (.int (a+b)))))) D C H->ST (lift K o) (lift K i) (lift K e) (XF K) (ipI λi j=>i+j) Jp D C H:=by
 rintro D C H ⟨as,f,S,Q,R,h⟩;refine⟨as,f,S,Q,R,W _ _ _ _ (λx G q I H1 u J g ru=>?_) h⟩;have m:=R.mono J.pre (J.ku Q);refine⟨I,f,G,g,m,Y _ _ _ _ (λy E q L H2 t n c T=>?_) q⟩;have r:=m.mono n.pre (n.ku g);have s:=Rl.mono n.pre (n.ku g) x u ru;obtain⟨k,j,xs,a,rfl,rfl,h1,h2,q⟩:=q;obtain⟨p,vs,rfl,ea,ha,ra⟩:=v6 c s h1;rw[rl_int]at T;subst T;obtain⟨v0,e0,U⟩:=ra.get h2;rw[rl_int]at U;subst U;refine⟨p,vs,_,j,rfl,rfl,SqL.of ha,e0,L,f,E,c,r,Z _ _ _ _ (λd F ⟨b,l,e2,h4,hj,q⟩ M H4 z w A V=>?_) q⟩;subst e2;rw[rl_int]at V;have N:=r.mono w.pre (w.ku c);refine⟨a,b,rfl,V,KP A (Rl.mono w.pre (w.ku c) (.loc k) (.ref p) s) (rl_int.mpr rfl) (rl_int.mpr rfl) (show HG (.loc k) (.int j) (.int (a+b)) F _ from ⟨l,j,h4,GD hj,λH5 O P=>?_⟩)⟩;exact q M H5 C (((J.trans n).trans w).trans O) P (N.mono O.pre (O.ku A))
def FM{x y v:SV}{S:Sto}{Q Q':Sto->Prop}(i:∀ f,Q f->Q' f)(h:K6 x y v S Q):K6 x y v S Q':=let ⟨k,j,e,a,b,c,d,q⟩:=h;⟨k,j,e,a,b,c,d,i _ q⟩
def ML{K:Y2}{o i e:WE}(V:Mono o)(W:Mono i)(Y:Mono e):∀ D n H,liftS K (λD b S=>e b S λv r=>o b r λx s=>i b s λy P=>K6 x y v P λZ=>D.nx b Z) D n H->Sc (lift K o) (lift K i) (lift K e) D n H:=by
 rintro D n H ⟨as,b,S,Q,R,h⟩;refine⟨as,b,S,Q,R,Y _ _ _ _ (λz r q w H1 v A c rv=>?_) h⟩;have g:=R.mono A.pre (A.ku Q);refine⟨w,b,r,c,g,V _ _ _ _ (λx s q C H2 u j d ru=>?_) q⟩;have l:=g.mono j.pre (j.ku c);refine⟨C,b,s,d,l,W _ _ _ _ (λy P q E H3 t f m rt=>?_) q⟩;have F:=l.mono f.pre (f.ku d);have G:=Rl.mono f.pre (f.ku d) x u ru;have I:=Rl.mono (j.trans f).pre ((j.trans f).ku c) z v rv;obtain⟨k,J,L,rfl,rfl,T,hb,q⟩:=q;obtain⟨a,M,rfl⟩:=rl_loc.mp G;obtain⟨p,rfl,hp⟩:=HQ rt;obtain⟨us,h1,U⟩:=m.obj k _ a T M;obtain⟨N,O⟩:=m.writeO (x := .dtl (FD L J z)) (u := .dT (B0 us (J.map Sum.inl) v)) T M (λO=>⟨_,n6,RlT.mono (Yh _) O _ _ (U.put I J)⟩);refine⟨a,_,rfl,DPut.t h1 hp (by rw[U.length];exact Ff hb),?_⟩;exact q E _ n (((A.trans j).trans f).trans (Go.write (Y7 M))) N (F.mono (Yh _) O)
end
def Ou{env:Env}{es:List Expr}{k:Nat}{p:Pos}{e:Expr}{l:Nat}:A2y [.Tuple es k p] e l env=pure aD:=by
 unfold A2y A2l;cases e<;>rfl
def VH{env:Env}{o i:Expr}{p:Pos}{e:Expr}{l:Nat}:A2y [.Subscript o i p] e l env=pure aD:=by
 unfold A2y A2l;cases e<;>rfl
def VI{env:Env}{es:List Expr}{k:Nat}{p:Pos}{e:Expr}(h:Os e=aC):A21 [.Tuple es k p] e env=pure aB:=by
 unfold A21;cases e<;>first | rfl | cases h
def Rc{env:Env}{x:Str}{a p:Pos}{b:Expr}{k:Nat}{e:Expr}(h:(env.scope.names.lookup x == aA NameKind.local)=aD):A21 [.Tuple [.Name x a,b] k p] e env=pure aB:=by
 have d:(env.kindOf x == aA NameKind.local)=aD:=h;cases e with
 | Tuple vs i j=>
   unfold A21
   have c:∀ f:Expr->Option Str,f (.Name x a)=aB->((List.filterMap f [.Name x a,b]).length != [Expr.Name x a,b].length)=aC:=λf g=>by
    rw[A0r g];have:=List.length_filterMap_le f [b];simp only[Ya,ZS]at this ⊢;rw[bne_iff_ne];omega
   dsimp only;split
   ·rfl
   ·split
    ·rfl
    ·rw[c _ (by show(if (env.kindOf x == aA NameKind.local&&_)=aC then aA x else aB)=aB;rw[d];rfl),A0c];rfl
 | _=>rfl
def VJ{env:Env}{o i:Expr}{p:Pos}{e:Expr}:A21 [.Subscript o i p] e env=pure aB:=by
 unfold A21;cases e<;>rfl
def VL{env:Env}{x y:Str}{d c i e:Pos}{k k2:Nat}{a b:Expr}(j:env.scope.kind = .function)(h:RO env.scope x y d c=aC)(l:i4 a=aC)(m:i4 b=aC)(n:([a,b].all (foldedForSure 8))=aD)(o:([a,b].all (A43 8))=aD):
 A21 [.Tuple [.Name x d,.Name y c] k i] (.Tuple [a,b] k2 e) env=pure (aA [x,y]):=by
 have f:env.blockKind = .function:=by unfold Env.blockKind;rw[j];rfl
 unfold RO at h;simp only[Y3,bQ,YS,beq_eq_false_iff_ne]at h;obtain⟨⟨⟨p,q⟩,r⟩,g⟩:=h;have s:env.kindOf x=aA .local:=p;have t:env.kindOf y=aA .local:=q
 have u:([x,y]:List Str).eraseDups.length=2:=by
  have:(y == x)=aD:=by rw[beq_eq_false_iff_ne];exact λz=>g z.symm
  rw[List.eraseDups_cons,ZK,this];rfl
 unfold A21;simp only[Ya,ZS,f,n,o,List.head?_cons,Zd,A1e,show Expr.pos (.Name x d)=d from rfl,show Expr.pos (.Name y c)=c from rfl,Yu,List.filterMap_nil,s,t,r];refine(iG (by decide)).trans ((iG (λz=>?_)).trans ?_)
 ·simp only[ZL,List.any_nil,A0W,Yj]at z;rcases z with z | z
  ·cases a<;>first | (cases z;done) | cases l
  ·cases b<;>first | (cases z;done) | cases m
 ·rw[show(aA NameKind.local == aA NameKind.local&&c.line == c.line)=aC by simp];simp only[if_true];refine(iG (by rw[u];simp)).trans ?_;refine(iG (by simp)).trans ((iG (by simp)).trans rfl)
def Hm{t:WT}{a b:WS}(mt:MonoT t)(f:MonoS a)(g:MonoS b):MonoS (λD d S=>t d S λc e=>if c=aC then a D d e else b D d e):=λD i d S l h=>mt _ _ _ _ (λc e q=>v4 (λq=>f.go q l) (λq=>g.go q l) q) h
section
variable{T:List Str}{Δ:Nat->Sn}{X:Cx}{N:List Str}{sc:A1R}
def Sy{env:Env}{e:Expr}(h:i4 e=aC):(A2e [e] env).map (·.2)=[assign e env]:=by cases e<;>first | rfl | cases h
def JG{env:Env}{o i:Expr}{p:Pos}(h:AA i=aC):∀ v,assign (.Subscript o i p) env v=(do
 let a <- holding [v] (eval o env)
 let b <- holding [v,a] (eval i env)
 standAt p
 holding [v,a,b] (setItem a b v)
 release [v,a,b] []):=λv=>by cases i<;>first | rfl | cases h
def Re{i:Expr}(h:AA i=aC):∀ b c a,augStore i b c a=(do holding [a,b,c] (setItem b c a);release [a,b,c] [];pure .next):=λ_ _ _=>by cases i<;>first | rfl | cases h
def MM{a:A1R}{b:Expr}{x:Str}{c:Pos}(h:EH a b x c=aC):a.names.lookup x=aA .local:=by
 unfold EH at h;cases hi:EG b with
 | none=>rw[hi]at h;cases h
 | some s=>rw[hi]at h;simp only[Y3,bQ]at h;exact h.1.1
def MN(C:Cok T Δ X N.length N sc)(A:sc.kind = .function){t:Tg}{e:Ex}{h b:Expr}{pos:Pos}(c:CG N.length N sc t h=aC)(B:m8 T N sc e b=aC)(P:i4 h=aC)(a:VE sc h b=aC):PS X (.Assign [h] b pos) (liftS X.K λD v S=>(wEx Δ e).1 v S λx E=>wTg t x v λq=>D.nx q E):=by
 have g:=f8 e b C B;unfold VE at a;cases hv:D9 h with
 | none=>
   rw[hv]at a;rw[Y3]at a;obtain⟨F,f⟩:=Zw.mp a.1;obtain⟨j,p,rfl⟩:=By f
   have G:A21 [.Tuple F j p] b X.env=pure aB:=by
    rcases(Yj _ _).mp a.2 with z | z
    ·exact VI z
    ·unfold Sv at z;replace z:=c4 z;obtain⟨H,r,z⟩:=z;replace z:=c4 z;obtain⟨Q,s,z⟩:=z;replace z:=c4 z;obtain⟨y,I,z⟩:=z;rw[r]at f;cases f;rw[CF s,Bz I];exact Rc (by rw[C.hs];simpa using z)
   exact v9 _ (N4 g.pe (Ce C t _ c) Ou G (Sy rfl)) (RW g.m)
 | some J=>
   rw[hv]at a;have L:=Bz hv;obtain⟨x,u⟩:=J;subst L;cases t with
   | tup H=>rw[CG]at c;cases c
   | nm i=>
     rw[CG]at c;have c:(decide (i<N.length)&&decide (N[i]?=aA x)&&loc sc x)=aC:=c;simp only[Y3,dQ]at c;obtain⟨⟨M,w⟩,d⟩:=c;unfold loc at d;simp only[Yj,bQ]at d;have k:X.N.Nodup:=by rw[C.hN];exact C.nd
     have l:X.N[i]?=aA x:=by rw[C.hN];exact w
     have n:Loc X.env.scope x:=by rw[C.hs];exact d
     have O:X.fn x=aC\/X.env.scope.names.lookup x=aA .local:=by
      rw[C.hs];rcases d with d | d
      ·exact .inr d
      ·exact .inl (C.fn i x M w d)
     have o:X.env.scope.kind = .function:=by rw[C.hs];exact A
     cases hsw:EH sc b x u with
     | false=>exact v9 _ (N5 k l n g.pe (by rw[KM o,C.hs,hsw]) O) (Hj g.m)
     | true=>
       have a:(!EH sc b x u||isCmp b)=aC:=a;rw[hsw,Bool.not_true,A1v]at a;exact v9 _ (g.cg a i x u pos k l (by rw[C.hs];exact MM hsw) (by rw[KM o,C.hs,hsw])) (Hj g.m)
end
noncomputable def XG(K:Y2)(as:List A1G)(H:Hp)(Q:VK)(E:XK):QE
 | .tup (v::_),b=>Post K as H Q v b
 | .exc c,b=>∀ a d,Go as H a d->Ok K a d b->ClsK K c->E (.ref c.ad) aB d
 | _,_=>False
noncomputable def spX(K:Y2)(b:Sn):Sp:=λvs H Q E=>∃ as S xs,Ok K as H S/\RlAll K as H vs xs/\b xs S (XG K as H Q E)
structure XInt(fl nt:Bool)(CT:List (Str×XCls))(B:XB)(T:List Str)(Δ:Nat->Sn)(X:Cx):Prop where
 top:Top X
 tl:T.length<rz
 cls:∀ p∈CT,ClsK X.K p.2/\PySem.W.nsIn X.K A1I p.1=aA (aA (.ref p.2.ad))
 ex:∃ E:XK,CatchT X E/\(∀ c as H S Q,B.xo as H->Ok X.K as H S->ClsK X.K c->Δ rz [.exc c] S Q->E (.ref c.ad) aB H)/\(fl=aC\/(Catch X E/\A44 (A1K X.prog X.w) X.A X.env X.xe))
 nx:fl=aC\/nt=aC\/∀ e s,¬ X.xe e s
 call:∀ f x,f+1<T.length->T[f]?=aA x->∃ k ps,CalleeE X.prog X.w X.K X.mg X.base k x ps (spX X.K (Δ (tz+f)))/\Room k X.A
def AG{Δ:Nat->Sn}{a:XCls->Sto->Prop}{f:Nat}(h:f≠rz):setE Δ a f=Δ f:=by
 unfold setE;cases h':Nat.beq f rz with
 | false=>rfl
 | true=>exact absurd (Nat.eq_of_beq_eq_true h') h
def KQ{Δ:Nat->Sn}{a:XCls->Sto->Prop}{c:XCls}{S:Sto}{Q:QE}(h:setE Δ a rz [.exc c] S Q):a c S:=by
 obtain⟨b,e,q⟩:=h;cases e;exact q
def C1{Δ:Nat->Sn}{b:XCls->Sto->Prop}(a:∀ f,MonoN (Δ f))(f:Nat):MonoN (setE Δ b f):=by
 by_cases h:f=rz
 ·subst h;exact λ_ _ _ _ _ h=>h
 ·rw[AG h];exact a f
def Rg{Δ:Nat->Sn}{P a:QE}(i:∀ x S,P x S->a x S):∀ r S,rX Δ P r S->rX Δ a r S:=λr S h=>by
 cases r with
 | tup b=>
   cases b with
   | nil=>exact h
   | cons v b=>exact i _ _ h
 | _=>exact h
def KR{Δ:Nat->Sn}{f:Nat}(m:MonoN (Δ (tz+f))):MonoN (wCx Δ f):=λa S P b i h=>m _ _ _ _ (Rg i) h
section
variable{fl nt:Bool}{CT:List (Str×XCls)}{B:XB}{T:List Str}{Δ:Nat->Sn}{X:Cx}
def Cok.setE{k:Nat}{N:List Str}{a:A1R}(C:Cok T Δ X k N a)(b:T.length<rz)(c:XCls->Sto->Prop):Cok T (setE Δ c) X k N a:={C with
 call:=λf x h e=>by
  rw[AG (show f≠1000000 by have:T.length<1000000:=b;omega)];exact C.call f x h e
 mono:=C1 C.mono}
def Cok.nox'{k:Nat}{N:List Str}{a:A1R}(C:Cok T Δ X k N a):Cok T Δ X.nox k N a:=⟨C.hN,C.hs,C.nd,C.calm,C.fn,C.un,C.bl,C.rng,C.enm,C.rvs,C.zip,C.sm0,C.st0,C.dc0,C.ty,C.gd,C.ns,C.me,C.call,C.mono⟩
def Cok.inTry{k:Nat}{N:List Str}{a:A1R}(C:Cok T Δ X k N a)(b:List (A1G×Obj))(E:XK):Cok T Δ (X.inTry b E) k N a:=⟨C.hN,C.hs,C.nd,C.calm,C.fn,C.un,C.bl,C.rng,C.enm,C.rvs,C.zip,C.sm0,C.st0,C.dc0,C.ty,C.gd,C.ns,C.me,C.call,C.mono⟩
def VM{f:Nat}{w:WA}{E:XK}{o:St}{H:Hp}{Q:VK}{Qs:QE}{as:List A1G}{e:EnvS}{S:Sto}(i:∀ c as H S Q,B.xo as H->Ok X.K as H S->ClsK X.K c->Δ rz [.exc c] S Q->E (.ref c.ad) aB H)(m:MonoA w)(s:MonoN (Δ (tz+f)))
 (t:Ok X.K as H S) (u:EnvOk X.K as H o e) (x:B.xo as H) (y:∀ v a,Qs v a->Post X.K as H Q v a) (h:wn (wCx Δ f) w e S Qs):NE (spX X.K (Δ (tz+f))) [] E (liftA X.K w) o H Q:=by
 refine⟨as,e,S,t,u,m _ _ _ _ (λz A q j C b p k D=>?_) h⟩;show spX X.K (Δ (tz+f)) (b++[]) C Q E;rw[Z2];refine⟨j,A,z,k,D,s _ _ _ _ (λr a d=>?_) q⟩;cases r with
 | tup b=>
   cases b with
   | nil=>exact d.elim
   | cons v b=>exact(y v a d).mono p
 | exc c=>exact λl F g n G=>i c l F a _ (B.up (p.trans g) x) n G d
 | _=>exact d.elim
def MO{N:List Str}{o:A1R}{f:Nat}{x:Str}{y:Expr}{e:List Expr}{p q pos:Pos}{w:WA}(C:Cok T Δ X N.length N o)(I:XInt fl nt CT B T Δ X)(s:f+1<T.length/\T[f]?=aA x)(b:glo o x=aC)(h:GoodA X (y::e) w)(A:i4 y=aC)(G:e.all i4=aC):GoodX B X (.Expr (.Call (.Name x p) (y::e) [] q) pos) (λD a S=>wn (wCx Δ f) w a S λ_ c=>D.nx a c):=by
 obtain⟨d,Z,J,L⟩:=I.call f x s.1 s.2;obtain⟨fa,fd,F,M,O,P⟩:=J.ex;obtain⟨E,Q,i,_⟩:=I.ex;unfold glo at b;simp only[Y3,bQ,YS]at b;have R:Gl X x:=by show X.env.scope.names.lookup x=_;rw[C.hs];exact b.1.1
 refine⟨v9 _ (Jd (Jk F L R M O P .nil (WY I.top.ex Q) h.pa b.2 (j4 A) (Bf G)) rfl) ?_,λD D' a S l z=>Mono.n (KR (C.mono _)) h.m _ _ _ _ (λx c q=>l.nx _ _ q) z⟩;rintro D U H ⟨V,a,S,t,u,W,z⟩;exact VM (Qs:=λ_ c=>(EJ X.K V H D).nx a c) i h.m (C.mono _) t u W (λv S' q j Y v' g k r=>q j Y U g k (u.mono g.pre (g.ku t))) z
def KS{x:Str}{c:XCls}(n:NsK X.K X.mg)(h:ClsK X.K c/\PySem.W.nsIn X.K A1I x=aA (aA (.ref c.ad))):ExcC X.K X.mg x c.ad:=Qh (n.on _ _ h.2) h.1.x
def MP{N:List Str}{o:A1R}{x:Str}{c:XCls}{g:Expr}{s a pos:Pos}{e:WE×WT}(C:Cok T Δ X N.length N o)(I:XInt aD nt CT B T Δ X)(t:(x,c)∈CT)(d:glo o x=aC)(p:Good X g e)(u:i4 g=aC):GoodX B X (.Raise (aA (.Call (.Name x s) [g] [] a)) aB pos) (λ_ f S=>e.1 f S λ_ i=>Δ rz [.exc c] i λ_ _=>False):=by
 obtain⟨E,L,j,z | ⟨b,_⟩⟩:=I.ex
 ·cases z
 have r:=I.cls _ t;unfold glo at d;simp only[Y3,bQ,YS]at d;have w:Gl X x:=by show X.env.scope.names.lookup x=_;rw[C.hs];exact d.1.1
 refine⟨v9 _ (Nh (KS C.ns r) I.top.ex C.calm b w p.pe d.2 (j4 u) rfl) ?_,λD M f S l h=>h⟩;rintro D O H ⟨y,f,S,A,F,G,h⟩;exact⟨y,f,S,A,F,p.m _ _ _ _ (λv i q k J P K n Q=>j c k J i _ (B.up K G) n r.1 q) h⟩
def XH(K:Y2)(e:XCls->Sto->Prop)(E:XK):XB:=⟨λas H=>∀ c a b d,Go as H a b->Ok K a b d->ClsK K c->e c d->E (.ref c.ad) aB b,λg h c a b d g'=>h c a b d (g.trans g')⟩
end
mutual
theorem Ov{CT:List (Str×XCls)}{T N:List Str}{sc:A1R}(hk:sc.kind = .function):∀(s:Stm) (r:Stmt) {fl nt:Bool} {B:XB} {Δ:Nat->Sn} {X:Cx},Cok T Δ X N.length N sc->XInt fl nt CT B T Δ X->(fl=aC->XC s=aC)->(nt=aC->Sw s=aC)->XE CT T N sc s r=aC->GoodX B X r (wSt Δ s)
 | .asg t e,r,fl,nt,B,Δ,X,C,I,d,n,h=>by
   refine GoodS.x ?_;replace h:=c4 h;obtain⟨v,F,h⟩:=h;replace h:=c4 h;obtain⟨rt,G,h⟩:=h;obtain⟨A,rfl⟩:=Cf F;simp only[Y3]at h;obtain⟨⟨⟨P,M⟩,R⟩,O⟩:=h;rw[AJ G];exact⟨MN C hk P M R O,Hk (f8 e _ C M).m⟩
 | .par i j a b,r,fl,nt,B,Δ,X,C,I,d,n,h=>by
   refine GoodS.x ?_;replace h:=c4 h;obtain⟨v,F,h⟩:=h;replace h:=c4 h;obtain⟨rt,G,h⟩:=h;replace h:=c4 h;obtain⟨ts,a8,h⟩:=h;replace h:=c4 h;obtain⟨nn,a9,h⟩:=h;replace h:=c4 h;obtain⟨vs,b0,h⟩:=h;replace h:=c4 h;obtain⟨ab,b1,h⟩:=h;replace h:=c4 h;obtain⟨x,b2,h⟩:=h;replace h:=c4 h;obtain⟨y,b3,h⟩:=h;obtain⟨A,rfl⟩:=Cf F;simp only[Y3,dQ,YS]at h;obtain⟨⟨⟨⟨⟨⟨⟨⟨⟨hx,hy⟩,b4⟩,a4⟩,P⟩,M⟩,R⟩,O⟩,h5⟩,h6⟩:=h;obtain⟨j1,p1,e1⟩:=By a8;obtain⟨j2,p2,Z⟩:=By b0;rw[AJ G,e1,CF a9,Z,CF b1,Bz b2,Bz b3];have ga:=f8 a _ C P;have J:=f8 b _ C M;have a3:=a4;unfold RO at a3;simp only[Y3,bQ]at a3;have b5:X.env.scope.kind = .function:=by rw[C.hs];exact hk
   refine⟨v9 _ (Tt (i:=i) (j:=j) C.calm (by rw[C.hN];exact C.nd) (by rw[C.hN];exact hx) (by rw[C.hN];exact hy) b4 (by rw[C.hs];exact a3.1.1.1) (by rw[C.hs];exact a3.1.1.2) (y0 ga.pe (y0 J.pe B8 (j4 O)) (j4 R)) (VL b5 (by rw[C.hs];exact a4) R O h5 h6) Ou) (RZ ga.m J.m),?_⟩;exact λD D' W S l h=>ga.m _ _ _ _ (λx S1 q=>J.m _ _ _ _ (λy S2 q=>l.nx _ _ q) q) h
 | .put o i e,r,fl,nt,B,Δ,X,C,I,d,n,h=>by
   refine GoodS.x ?_;replace h:=c4 h;obtain⟨v,F,h⟩:=h;replace h:=c4 h;obtain⟨rt,G,h⟩:=h;replace h:=c4 h;obtain⟨oi,a0,h⟩:=h;obtain⟨A,rfl⟩:=Cf F;obtain⟨p2,Z⟩:=Cc a0;simp only[Y3]at h;rw[AJ G,Z];have go:=f8 o _ C h.1.1.1;have U:=f8 i _ C h.1.1.2;have L:=f8 e _ C h.1.2;refine⟨v9 _ (N4 L.pe (Tr go.pe U.pe Gc (JG h.2)) VH VJ (Sy rfl)) (Ra go.m U.m L.m),?_⟩;exact λD D' W S l h=>L.m _ _ _ _ (λv S1 q=>go.m _ _ _ _ (λx S2 q=>U.m _ _ _ _ (λy S3 q=>EK (λS4 q=>l.nx _ _ q) q) q) q) h
 | .augS o i e,r,fl,nt,B,Δ,X,C,I,d,n,h=>by
   refine GoodS.x ?_;replace h:=c4 h;obtain⟨v,F,h⟩:=h;replace h:=c4 h;obtain⟨oi,a0,h⟩:=h;obtain⟨A,rfl⟩:=RP F;obtain⟨p2,Z⟩:=Cc a0;simp only[Y3]at h;rw[Ot h.1.1.1.1,Z];have go:=f8 o _ C h.1.1.1.2;have U:=f8 i _ C h.1.1.2;have L:=f8 e _ C h.1.2;refine⟨v9 _ (QN go.pe U.pe VG L.pe Tu Gc (Re h.2)) (Rb go.m U.m L.m),?_⟩;exact λD D' W S l h=>go.m _ _ _ _ (λx S1 q=>U.m _ _ _ _ (λy S2 ⟨k,j,xs,a,e1,Z,P,M,q⟩=>⟨k,j,xs,a,e1,Z,P,M,L.m _ _ _ _ (λv S4 ⟨b,ys,e1,O,h5,q⟩=>⟨b,ys,e1,O,h5,l.nx _ _ q⟩) q⟩) q) h
 | .dputl o i e,r,fl,nt,B,Δ,X,C,I,d,n,h=>by
   refine GoodS.x ?_;replace h:=c4 h;obtain⟨v,F,h⟩:=h;replace h:=c4 h;obtain⟨rt,G,h⟩:=h;replace h:=c4 h;obtain⟨oi,a0,h⟩:=h;obtain⟨A,rfl⟩:=Cf F;obtain⟨p2,Z⟩:=Cc a0;simp only[Y3]at h;rw[AJ G,Z];have go:=f8 o _ C h.1.1.1;have U:=f8 i _ C h.1.1.2;have L:=f8 e _ C h.1.2;have:=C.un;refine⟨v9 _ (Qb (by omega) go.pe U.pe L.pe (by unfold A2l;cases v.2<;>rfl)) (ML go.m U.m L.m),?_⟩;exact λD D' W S l h=>L.m _ _ _ _ (λv S1 q=>go.m _ _ _ _ (λx S2 q=>U.m _ _ _ _ (λy S3 q=>FM (λS4 q=>l.nx _ _ q) q) q) q) h
 | .expr e,r,fl,nt,B,Δ,X,C,I,d,n,h=>by
   refine GoodS.x ?_;replace h:=c4 h;obtain⟨re,a1,h⟩:=h;obtain⟨A,rfl⟩:=KN a1;simp only[Y3]at h;have L:=f8 e _ C h.1
   have hs:A2l re aB A.line X.env=pure aD:=by
    have:=h.2;unfold A2l;cases re<;>first | rfl | (unfold EG at this;cases this)
   refine⟨v9 _ (Jd L.pe hs) ?_,λD D' W S l h=>L.m _ _ _ _ (λx S1 q=>l.nx _ _ q) h⟩;rintro D σ H ⟨as,W,S,ok,en,h⟩;exact⟨as,W,S,ok,en,L.m _ _ _ _ (λx S1 q b6 H1 v g1 b7 rv=>q b6 H1 σ g1 b7 (en.mono g1.pre (g1.ku ok))) h⟩
 | .iff t a b,r,fl,nt,B,Δ,X,C,I,d,n,h=>by
   replace h:=c4 h;obtain⟨v,F,h⟩:=h;obtain⟨A,rfl⟩:=RS F;simp only[Y3]at h;have gt:=f8 t _ C h.1.1;have fa:fl=aC->EI a=aC/\EI b=aC:=λz=>(Y3 _ _).mp (d z);have ga:=AN hk a _ C I (λz=>(fa z).1) (λz=>((Y3 _ _).mp (n z)).1) h.1.2;have J:=AN hk b _ C I (λz=>(fa z).2) (λz=>((Y3 _ _).mp (n z)).2) h.2;exact⟨v9 _ (Vo gt.pt ga.ps J.ps) (VF gt.mt ga.m J.m),Hm gt.mt ga.m J.m⟩
 | .loop g it b,r,fl,nt,B,Δ,X,C,I,d,n,h=>by
   replace h:=c4 h;obtain⟨v,F,h⟩:=h;obtain⟨A,rfl⟩:=RT F;simp only[Y3,Ym]at h;obtain⟨⟨⟨⟨P,M⟩,R⟩,O⟩,h5⟩:=h;rw[h5];have U:=FL it _ _ C M;cases fl with
   | true=>exact absurd (d rfl) (by intro z;cases z)
   | false=>
   obtain⟨_,_,_,z | ⟨_,hp⟩⟩:=id I.ex
   ·cases z
   have J:=AN hk b _ C I (λz=>nomatch z) n O;refine⟨v9 _ (Tv hp C.calm U.pi (Ce C g _ P) J.ps (BF R)) (RX U.m J.m),?_⟩;exact λD D' W S l h=>U.m _ _ _ _ (λc3 xs S1 q=>C0 J.m xs l _ _ q) h
 | .tri b,r,fl,nt,B,Δ,X,C,I,d,n,h=>by
   replace h:=c4 h;obtain⟨v,F,h⟩:=h;obtain⟨A,rfl⟩:=KO F;simp only[Y3,Ym,YS]at h;obtain⟨⟨⟨P,M⟩,R⟩,O⟩:=h;cases fl with
   | true=>exact absurd (d rfl) (by intro z;cases z)
   | false=>
   rcases I.nx with z | z | nx
   ·cases z
   ·have:=n z;cases this
   have J:=AN hk b _ (nt:=aD) C (⟨I.top,I.tl,I.cls,I.ex,.inr (.inr nx),I.call⟩:XInt aD aD CT B T Δ X) (λz=>nomatch z) (λz=>nomatch z) P;rw[R,O];cases hh:v.2.1 with
   | nil=>rw[hh]at M;cases M
   | cons h0 hs=>exact⟨Qy nx J.ps,J.m⟩
 | .whl t b,r,fl,nt,B,Δ,X,C,I,d,n,h=>by
   replace h:=c4 h;obtain⟨v,F,h⟩:=h;obtain⟨A,rfl⟩:=RU F;simp only[Y3,Ym]at h;rw[h.2];have gt:=f8 t _ C h.1.1;cases fl with
   | true=>exact absurd (d rfl) (by intro z;cases z)
   | false=>
   obtain⟨_,_,_,z | ⟨_,hp⟩⟩:=id I.ex
   ·cases z
   have J:=AN hk b _ C I (λz=>nomatch z) n h.1.2;exact⟨v9 _ (N7 hp gt.pt J.ps) (RY gt.mt J.m),Hl gt.mt J.m⟩
 | .ret e,r,fl,nt,B,Δ,X,C,I,d,n,h=>by
   refine GoodS.x ?_;replace h:=c4 h;obtain⟨o,ho,h⟩:=h;replace h:=c4 h;obtain⟨re,a1,h⟩:=h;obtain⟨A,rfl⟩:=RV ho;rw[a1];have L:=f8 e _ C h;exact⟨v9 _ (To L.pe) λD σ H ⟨as,W,S,ok,en,h⟩=>⟨as,W,S,ok,en,h⟩,λD D' W S l h=>L.m _ _ _ _ l.rt h⟩
 | .rse x c e,r,fl,nt,B,Δ,X,C,I,d,n,h=>by
   cases fl with
   | true=>exact absurd (d rfl) (by intro z;cases z)
   | false=>
   replace h:=c4 h;obtain⟨v,F,h⟩:=h;rw[Y3]at h;obtain⟨h0,h⟩:=h;replace h:=c4 h;obtain⟨w,hw,h⟩:=h;replace h:=c4 h;obtain⟨ra,b8,h⟩:=h;obtain⟨A,rfl⟩:=RQ F;obtain⟨p,q,e1⟩:=AS hw;simp only[Y3,dQ]at h;obtain⟨⟨⟨⟨P,M⟩,R⟩,O⟩,h5⟩:=h;rw[A0j.mp h0,e1,AJ b8,P];exact MP C I h5 M (f8 e _ C R) O
 | .exx f es,r,fl,nt,B,Δ,X,C,I,d,n,h=>by
   replace h:=c4 h;obtain⟨re,a1,h⟩:=h;replace h:=c4 h;obtain⟨v,F,h⟩:=h;obtain⟨A,rfl⟩:=KN a1;obtain⟨p,q,rfl⟩:=AS F;simp only[Y3,dQ]at h;obtain⟨⟨⟨P,M⟩,R⟩,O⟩:=h;obtain⟨y,ys,e⟩:=GC O;have st:=BN R;have g:=AT es _ C R;rw[e]at st g ⊢;rw[Z6,Y3]at st;exact MO C I P M g st.1 st.2
 | .tryx nl i j dn Dc b,r,fl,nt,B,Δ,X,C,I,d,n,h=>by
   replace h:=c4 h;obtain⟨v,F,h⟩:=h;obtain⟨A,rfl⟩:=KO F;simp only[Y3,Ym]at h;simp only[dQ]at h;obtain⟨⟨⟨⟨⟨h0,P⟩,M⟩,R⟩,O⟩,h⟩:=h;replace h:=c4 h;obtain⟨hd,b9,h⟩:=h;replace h:=c4 h;obtain⟨w,hw,h⟩:=h;simp only[Y3,bQ]at h;obtain⟨⟨⟨h5,h6⟩,h7⟩,h⟩:=h;replace h:=c4 h;obtain⟨st,c0,h⟩:=h;replace h:=c4 h;obtain⟨u,hu,h⟩:=h;replace h:=c4 h;obtain⟨rt,G,h⟩:=h;replace h:=c4 h;obtain⟨m,hm,h⟩:=h;simp only[Y3,bQ,dQ,YS]at h;obtain⟨⟨⟨⟨⟨⟨⟨g1,g2⟩,g3⟩,g4⟩,g5⟩,g6⟩,g7⟩,g8⟩:=h;obtain⟨p8,c1,h7⟩:=Z9.mp h7;simp only[Y3,dQ]at h7;obtain⟨h7,h8⟩:=h7;have hK:=I.cls _ c1;rw[h7]at hK;obtain⟨c6,e1⟩:=AB h5;obtain⟨c5,Z⟩:=VC hw;obtain⟨mp,e3⟩:=AB hm;obtain⟨np,e4⟩:=AB g1;obtain⟨ap,e5⟩:=Cf hu;rw[VB b9,Z,e1,VD c0,e5,AJ G,e3,e4,P,M];unfold glo at h6;simp only[Y3,bQ,YS]at h6;have gl:Gl X dn:=by show X.env.scope.names.lookup dn=_;rw[C.hs];exact h6.1.1
   have a2:∀(V:XCls->Sto->Prop) (pq:List (A1G×Obj)) (E:XK),GoodSs (XH X.K V E) (X.inTry pq E) v.1 (wSs (setE Δ V) b):=λV pq E=>
    AN hk b v.1 (fl:=aC) (nt:=aD) ((C.setE I.tl V).inTry pq E) ⟨I.top.inTry pq E,I.tl,I.cls,⟨E,Gx,λc as H S Q xo ok hc q=>xo c as H S (Go.refl _ _) ok hc (KQ q),.inl rfl⟩,.inl rfl,λf x hf hx=>by
     rw[AG (show 2000000+f≠1000000 by omega)];exact I.call f x hf hx⟩ (λ_=>R) (λz=>nomatch z) O
   refine⟨v9 _ (Qi (i:=i) (j:=j) (Dc:=Dc) (ts:=λE D σ H=>∃ V,liftX (XH X.K V E) X.K (wSs (setE Δ V) b) D σ H) I.top (by rw[<-h8];exact KS C.ns hK) gl (by rw[C.hN];exact C.nd) (by rw[C.hN];exact g2) (by rw[C.hs];exact g5) (by rw[C.hN];exact g3) (by rw[C.hs];exact g6)
    (λpq E c2 s σ H D IN ⟨V,q⟩=>(a2 V pq E).ps c2 s σ H D IN q) h6.2 g7 g8) ?_,λD D' W S l ⟨V,q1,q2⟩=>⟨V,λc S' z=>⟨(q1 c S' z).1,l.nx _ _ (q1 c S' z).2⟩,(a2 V [] (λ_ _ _=>False)).m _ _ _ _ l q2⟩⟩
   rintro D σ H ⟨as,W,S,ok,en,xo,V,q1,q2⟩;refine⟨λCv _ H2=>∃ c Y S',Cv = .ref c.ad/\ClsK X.K c/\Go as H Y H2/\Ok X.K Y H2 S'/\V c S',?_,V,as,W,S,ok,en,λc Y H' S' g a5 hc q=>⟨c,Y,S',rfl,hc,g,a5,q⟩,q2⟩;rintro Cv H2 ⟨c,Y,S',rfl,hc,g,a5,q⟩;obtain⟨un,q⟩:=q1 c S' q;refine⟨c.ad,rfl,Ln hc.x (hc.un _ un),λx hx c7 a6=>?_⟩;have hj:=(gM g3).1;refine q Y _ _ (g.trans (Go.new hx)) (a5.new hx) ⟨by rw[YZ,YZ,YZ,YZ,ZX,a6,C.hN,h0],λk y e=>?_⟩;by_cases a7:j=k
   ·subst a7;rw[YV (by rw[ZX,h0];exact hj)]at e;cases e;exact⟨.ref x,by rw[Yq g4,YV (by rw[YZ,a6,C.hN];exact hj)],rl_exc.mpr ⟨x,rfl,n6,hc⟩⟩
   ·rw[Yq a7,ZH]at e;split at e<;>cases e
 | .no,r,fl,nt,B,Δ,X,C,I,d,n,h=>⟨λ_ _ _ _ _ _ h=>let ⟨_,_,_,_,_,_,z⟩:=h;z.elim,λ_ _ _ _ _ h=>h⟩
theorem AN{d:List (Str×XCls)}{T N:List Str}{c:A1R}(e:c.kind = .function):∀(s:List Stm) (r:List Stmt) {fl nt:Bool} {B:XB} {Δ:Nat->Sn} {X:Cx},Cok T Δ X N.length N c->XInt fl nt d B T Δ X->(fl=aC->EI s=aC)->(nt=aC->Bj s=aC)->Bk d T N c s r=aC->GoodSs B X r (wSs Δ s)
 | [],r,fl,nt,B,Δ,X,C,I,a,b,h=>by
   rw[Bk,Ym]at h;subst h;exact JF
 | s::f,r,fl,nt,B,Δ,X,C,I,a,b,h=>by
   rw[Bk]at h;replace h:=c4 h;obtain⟨x,g,h⟩:=h;rw[Y3]at h;rw[B5 g];have:=Hi (Ov e s x C I (λz=>((Y3 _ _).mp (a z)).1) (λz=>((Y3 _ _).mp (b z)).1) h.1) (AN e f _ C I (λz=>((Y3 _ _).mp (a z)).2) (λz=>((Y3 _ _).mp (b z)).2) h.2);rw[wSs];exact this
end
mutual
theorem c8{Δ:Nat->Sn}(j:∀ f,MonoN (Δ f)):∀(e:Ex),Mono (wEx Δ e).1/\MonoT (wEx Δ e).2
 | .var i=>⟨.var,.tru .var⟩
 | .c x=>⟨.c,.tru .c⟩
 | .op o a b=>have m:Mono _ := .two (s:=sOp o) KB (c8 j a).1 (c8 j b).1;⟨m,.tru m⟩
 | .neg a=>have m:Mono _ := .one EA (c8 j a).1;⟨m,.tru m⟩
 | .cmp o a b=>have m:Mono _ := .two (s:=BE o) AX (c8 j a).1 (c8 j b).1;⟨m,.bl m⟩
 | .chn o p a b c=>have m:=HJ (o:=o) (p:=p) (c8 j a).1 (c8 j b).1 (c8 j c).1;⟨m,.bl m⟩
 | .and a b=>⟨.and (c8 j a).1 (c8 j b).1,.and (c8 j a).2 (c8 j b).2⟩
 | .or a b=>⟨.or (c8 j a).1 (c8 j b).1,.or (c8 j a).2 (c8 j b).2⟩
 | .not a=>⟨.not (c8 j a).1,.not (c8 j a).2⟩
 | .ife t a b=>⟨.ifE (c8 j t).2 (c8 j a).1 (c8 j b).1,λ_ _ _ _ _ h=>h⟩
 | .tup l=>have m:Mono _ := .n .tup (Ar j l);⟨m,.tru m⟩
 | .lst l=>have m:Mono _ := .n .lst (Ar j l);⟨m,.tru m⟩
 | .ix a b=>have m:Mono _ := .two .ix (c8 j a).1 (c8 j b).1;⟨m,.tru m⟩
 | .call f l=>have m:Mono _ := .n (j f) (Ar j l);⟨m,.tru m⟩
 | .bi b l=>have m:Mono _ := .n (s:=sBi b) .bi (Ar j l);⟨m,.tru m⟩
 | .mt q a l=>have m:Mono _:=Mono.mt (m:=q) (c8 j a).1 (Ar j l);⟨m,.tru m⟩
 | .comp own u js g r t e=>have m:Mono _:=Mono.cG (k:=own.length) (js:=js) (g:=g) (Hn j r) (n9 j t).2 (EF (c8 j e).1) (b0:=[]) (fin:=Ul SO.lst) (λ_ _ i _ _=>i _ _);⟨m,.tru m⟩
 | .tyc t=>⟨.c,.tru .c⟩
 | .max1 a=>have m:=FF (c8 j a).1;⟨m,.tru m⟩
 | .dnewp=>⟨CN,.tru CN⟩
 | .setd d e v=>have m:=FI (c8 j d).1 (c8 j e).1 (c8 j v).1;⟨m,.tru m⟩
 | .dnewl=>⟨CO,.tru CO⟩
 | .dget2l d e v=>have m:=DK (c8 j d).1 (c8 j e).1 (c8 j v).1;⟨m,.tru m⟩
 | .dvalsl a=>have m:=DL (c8 j a).1;⟨m,.tru m⟩
 | .setdi d e v=>have m:=ED (c8 j d).1 (c8 j e).1 (c8 j v).1;⟨m,.tru m⟩
 | .mind a d=>have m:=FH (c8 j a).1 (c8 j d).1;⟨m,.tru m⟩
 | .maxd a d=>have m:=FG (c8 j a).1 (c8 j d).1;⟨m,.tru m⟩
 | .isx a x=>have m:=HM (x:=x) (c8 j a).1;⟨m,.tru m⟩
 | .isv a=>have m:=HN (c8 j a).1;⟨m,.tru m⟩
 | .srtset a=>have m:=DH (c8 j a).1;⟨m,.tru m⟩
 | .eqp a b=>have m:Mono _ := .two Cd (c8 j a).1 (c8 j b).1;⟨m,.bl m⟩
 | .dnew=>⟨D7,.tru D7⟩
 | .dget a b=>have m:Mono _ := .two D6 (c8 j a).1 (c8 j b).1;⟨m,.tru m⟩
 | .no=>⟨λ_ _ _ _ _ h=>h,λ_ _ _ _ _ h=>h⟩
theorem Ar{Δ:Nat->Sn}(a:∀ f,MonoN (Δ f)):∀(es:Exs),MonoA (Fs Δ es)
 | .nil => .nil
 | .cons e es => .cons (c8 a e).1 (Ar a es)
theorem n9{Δ:Nat->Sn}(a:∀ f,MonoN (Δ f)):∀(o:Eo),MonoO (wEo Δ o).1/\MonoT (wEo Δ o).2
 | .no=>⟨.no,λ_ _ _ _ i q=>i _ _ q⟩
 | .yes e=>⟨.yes (c8 a e).1,(c8 a e).2⟩
theorem Hn{Δ:Nat->Sn}(c:∀ f,MonoN (Δ f)):∀(n:Itb),MonoI (RA Δ n)
 | .seq e=>λd S P g i h=>(c8 c e).1 _ _ _ _ (λx k ⟨m,e,q⟩=>⟨m,e,i _ _ _ q⟩) h
 | .rng1 a=>λd S P g i h=>(c8 c a).1 _ _ _ _ (λx k ⟨j,e,z,q⟩=>⟨j,e,z,i _ _ _ q⟩) h
 | .rng2 a b=>λd S P g i h=>(c8 c a).1 _ _ _ _ (λx k h=>(c8 c b).1 _ _ _ _ (λy p ⟨l,j,e,o,z,q⟩=>⟨l,j,e,o,z,i _ _ _ q⟩) h) h
 | .enum e=>λd S P g i h=>(c8 c e).1 _ _ _ _ (λx k ⟨m,e,q⟩=>⟨m,e,i _ _ _ q⟩) h
end
mutual
theorem Ow:∀(s:Stm) {Δ:Nat->Sn} (d:∀ f,MonoN (Δ f)),MonoS (wSt Δ s)
 | .asg t e,Δ,d=>by exact Hk (c8 d e).1
 | .par i j a b,Δ,d=>by exact λD m p S l h=>(c8 d a).1 _ _ _ _ (λx r q=>(c8 d b).1 _ _ _ _ (λy u q=>l.nx _ _ q) q) h
 | .put o i e,Δ,d=>by exact λD m p S l h=>(c8 d e).1 _ _ _ _ (λv r q=>(c8 d o).1 _ _ _ _ (λx u q=>(c8 d i).1 _ _ _ _ (λy G q=>EK (λB q=>l.nx _ _ q) q) q) q) h
 | .augS o i e,Δ,d=>by exact λD m p S l h=>(c8 d o).1 _ _ _ _ (λx r q=>(c8 d i).1 _ _ _ _ (λy u ⟨k,j,w,a,A,H,I,J,q⟩=>⟨k,j,w,a,A,H,I,J,(c8 d e).1 _ _ _ _ (λv B ⟨b,K,A,L,M,q⟩=>⟨b,K,A,L,M,l.nx _ _ q⟩) q⟩) q) h
 | .dputl o i e,Δ,d=>by exact λD m p S l h=>(c8 d e).1 _ _ _ _ (λv r q=>(c8 d o).1 _ _ _ _ (λx u q=>(c8 d i).1 _ _ _ _ (λy G q=>FM (λB q=>l.nx _ _ q) q) q) q) h
 | .expr e,Δ,d=>by exact λD m p S l h=>(c8 d e).1 _ _ _ _ (λx r q=>l.nx _ _ q) h
 | .iff t a b,Δ,d=>by exact Hm (c8 d t).2 (AY a d) (AY b d)
 | .loop g N b,Δ,d=>by exact λD m p S l h=>Hn d N _ _ _ _ (λC w r q=>C0 (AY b d) w l _ _ q) h
 | .rse x c e,Δ,d=>by exact λD m p S l h=>h
 | .exx f O,Δ,d=>by exact λD m p S l z=>Mono.n (KR (d _)) (Ar d O) _ _ _ _ (λx r q=>l.nx _ _ q) z
 | .tryx n i j R T b,Δ,d=>by exact λD m p S l ⟨P,E,Q⟩=>⟨P,λc F z=>⟨(E c F z).1,l.nx _ _ (E c F z).2⟩,AY b (C1 d) _ _ _ _ l Q⟩
 | .tri b,Δ,d=>by exact(AY b d)
 | .whl t b,Δ,d=>by exact Hl (c8 d t).2 (AY b d)
 | .ret e,Δ,d=>by exact λD m p S l h=>(c8 d e).1 _ _ _ _ l.rt h
 | .no,Δ,d=>by exact λD m p S l h=>h
theorem AY:∀(s:List Stm) {Δ:Nat->Sn} (a:∀ f,MonoN (Δ f)),MonoS (wSs Δ s)
 | [],Δ,a=>by exact λD c d S l h=>l.nx _ _ h
 | s::b,Δ,a=>by exact λD c d S l h=>(Ow s a).go (D:={D with nx:=wSs Δ b D}) h ⟨λe g q=>(AY b a) _ _ _ _ l q,l.rt,l.bk,l.ct⟩
end
def m9{Δ:Nat->Sn}(a:∀ f,MonoN (Δ f))(s:List Stm):MonoS (wSs Δ s):=AY s a
def Ox{P:List A1E->Prop}{n:Nat}(h:∀ a b,b.length=n->P (a::b)):∀ b:List A1E,b.length=n+1->P b
 | a::b,e=>h a b (Nat.succ.inj e)
def EL{P:List A1E->Prop}(h:∀ a,P [a]):∀ b:List A1E,b.length=1->P b:=Ox λa b e=>A0w.mp e▸h a
def C8{P:List A1E->Prop}(h:∀ a b,P [a,b]):∀ c:List A1E,c.length=2->P c:=Ox λa=>EL (P:=λc=>P (a::c)) (h a)
def Cg{P:List A1E->Prop}(h:∀ a b c,P [a,b,c]):∀ d:List A1E,d.length=3->P d:=Ox λa=>C8 (P:=λd=>P (a::d)) (h a)
def GE{P:List A1E->Prop}(h:∀ a b c d,P [a,b,c,d]):∀ e:List A1E,e.length=4->P e:=Ox λa=>Cg (P:=λe=>P (a::e)) (h a)
def JH{P:List A1E->Prop}(h:∀ a b c d e,P [a,b,c,d,e]):∀ f:List A1E,f.length=5->P f:=Ox λa=>GE (P:=λf=>P (a::f)) (h a)
structure Df where
 name:Str
 st:Stmt
 ps:List Str
 N:List Str
 body:List Stm
def u8(Q:QE):EndsS:=⟨λ_ a=>Q .non a,Q,λ_ _=>False,λ_ _=>False⟩
def Oy(n:Nat)(xs:List SV):EnvS:=xs.map aA++YR (n - xs.length) aB
noncomputable def i5(Δ:Nat->Sn)(D:Df):Sn:=λxs S Q=>xs.length=D.ps.length/\wSs Δ D.body (u8 Q) (Oy D.N.length xs) S
noncomputable def CH(Δ:Nat->Sn)(D:Df):Sn:=λxs S Q=>Bj D.body=aC/\∃(b:XCls->Sto->Prop) (d:QE),(∀ c a,b c a->Q (.exc c) a)/\(∀ v a,d v a->Q (.tup [v]) a)/\i5 (setE Δ b) D xs S d
noncomputable def W(prog:List Df):Nat->Nat->Sn
 | 0,_=>λ_ _ _=>False
 | d+1,f=>match prog[f]? with
   | some D=>i5 (W prog d) D
   | none=>match prog[f - tz]? with
     | some D=>λxs S Q=>tz<=f/\CH (W prog d) D xs S Q
     | none=>λ_ _ _=>False
def Oz{Δ:Nat->Sn}(a:∀ f,MonoN (Δ f))(D:Df):MonoN (i5 Δ D):=λb S P c i h=>⟨h.1,(m9 a D.body).go h.2 ⟨λ_ _ q=>i _ _ q,i,λ_ _ q=>q,λ_ _ q=>q⟩⟩
def MQ{Δ:Nat->Sn}(D:Df):MonoN (CH Δ D):=λj S P k i ⟨b,d,e,f,g,h⟩=>⟨b,d,e,λc a q=>i _ _ (f c a q),λv a q=>i _ _ (g v a q),h⟩
theorem DA{prog:List Df}:∀(d f:Nat),MonoN (W prog d f)
 | 0,f=>λ_ _ _ _ _ h=>h
 | d+1,f=>by
   unfold W;cases prog[f]? with
   | some D=>exact Oz (DA d) _
   | none=>
     cases prog[f - tz]? with
     | some D=>exact λa S P b i h=>⟨h.1,MQ _ a S P b i h.2⟩
     | none=>exact λ_ _ _ _ _ h=>h
def XI{prog:List Df}(a:prog.length<1000000):∀(d:Nat) (c:XCls) (S:Sto) (Q:QE),¬ W prog d rz [.exc c] S Q
 | 0,_,_,_=>λh=>h
 | d+1,c,S,Q=>by
   unfold W;rw[Yd (show prog.length<=rz from Ze a)];intro h;dsimp only at h;cases e:prog[rz - tz]? with
   | some D=>rw[e]at h;exact absurd h.1 (by decide)
   | none=>rw[e]at h;exact h
def XJ{prog:List Df}(c:prog.length<1000000){d f:Nat}{D:Df}(a:prog[f]?=aA D):W prog (d+1) (tz+f)=λb S Q=>tz<=tz+f/\CH (W prog d) D b S Q:=by
 unfold W;rw[Yd (show prog.length<=2000000+f by omega)];dsimp only;rw[Nat.add_sub_cancel_left,a]
noncomputable def fnB(N ps:List Str)(a:A1R):Bool:=decide (a.kind = .function)&&!a.isCoroutine&&!a.isGenerator&&decide N.Nodup&&decide (N.take ps.length=ps)&&ps.all (loc a)&&a.names.all (λy=>!decide (y.2 = .free))
def P1{N ps:List Str}{a:A1R}(h:fnB N ps a=aC):FnScope N ps a:=by
 unfold fnB at h;simp only[Y3,dQ,YS,YX,decide_eq_false_iff_not]at h;obtain⟨⟨⟨⟨⟨⟨b,c⟩,d⟩,e⟩,f⟩,g⟩,i⟩:=h;refine⟨b,c,d,e,f,λx j=>?_,i⟩;have:=g x j;unfold loc at this;simpa using this
noncomputable def FN(a:List (Str×XCls))(T:List Str)(D:Df):Bool:=fnB D.N D.ps (defScope D.st)&&Bk a (T++[D.name]) D.N (defScope D.st) D.body (defBody D.st)
structure Bl(K:Y2)(mg:Str->Option A1E):Prop where
 ns:NsK K mg
 bl:∀ b:BI,mg b.name=aB
 rng:mg "range"=aB
 enm:mg "enumerate"=aB
 rvs:mg "reversed"=aB
 zip:mg "zip"=aB
 sm0:mg "sum"=aB
 st0:mg "set"=aB
 dc0:mg "dict"=aB
 ty:∀ t:TyN,t ≠ .none->mg (Str.ofString t.nm)=aB
section
variable{P:A1L}{w:A1N}{K:Y2}{mg:Str->Option A1E}{base:Heap}
def FO{as:List A1G}{H:Hp}{N:List Str}{vs:List V}{xs:List SV}(r:RlAll K as H vs xs):EnvOk K as H (L2.start N vs) (Oy N.length xs):=by
 unfold L2.start Oy;rw[<-r.length];refine⟨by simp[r.length],λi x e=>?_⟩;by_cases a:i<vs.length
 ·rw[YM (by rw[Y4,<-r.length];exact a),YA]at e;rw[YM (by simpa using a),YA];cases hx:xs[i]? with
  | none=>rw[hx]at e;cases e
  | some y=>
    rw[hx]at e;have:y=x:=by simpa using e
    subst this;obtain⟨v,b,c⟩:=r.get hx;exact⟨v,by rw[b];rfl,c⟩
 ·rw[Yz (by rw[Y4,<-r.length];omega),ZH]at e;split at e<;>cases e
structure XD(P:A1L)(w:A1N)(K:Y2)(mg:Str->Option A1E)(base:Heap)(k:Nat)(CT:List (Str×XCls))(T:List Str)(Δ:Nat->Sn):Prop where
 tl:T.length+1<1000000
 cls:∀ p∈CT,ClsK K p.2/\PySem.W.nsIn K A1I p.1=aA (aA (.ref p.2.ad))
 rz0:∀ c S Q,¬ Δ rz [.exc c] S Q
 call:∀ f x,T[f]?=aA x->∃ ps,CalleeE P w K mg base k x ps (spX K (Δ (tz+f)))
def KU{T:List Str}{Δ:Nat->Sn}{D:Df}{f:A1G}{cdv:A1E}{k:Nat}{A:A1Q}{outer:List Env}{s:A1F}{H:Hp}{E:XK}{CX:CXT}{n:A2g}(d:n.code=cdv)(S:FnScope D.N D.ps (defScope D.st))(b:Room k (A.deeper (PyProof.Rows.envOfC D.name (defScope D.st) s.heap.objs.size f cdv)))
 (i:∀ c P,TabK K D.name c P->n.code = .ref c) (B:Bl K mg) (a:∀ f x,T[f]?=aA x->∃ j,Cal P w K mg base k x j (spS K (Δ f))) (l:∀ f,MonoN (Δ f)):Cok (T++[D.name]) Δ (Eg CX P w K mg base D.N D.name (defScope D.st) f cdv A outer s H E) D.N.length D.N (defScope D.st) where
 hN:=rfl
 hs:=rfl
 nd:=S.nd
 calm:=rfl
 fn:=λ_ _ _ _ _=>rfl
 un:=by have:=b.un;show(A.deeper _).units+102<cLine;omega
 bl:=B.bl
 rng:=B.rng
 enm:=B.enm
 rvs:=B.rvs
 zip:=B.zip
 sm0:=B.sm0
 st0:=B.st0
 dc0:=B.dc0
 ty:=B.ty
 gd:=b.gd
 ns:=B.ns
 me:=λx m=>by
  have e:D.name=x:=by simpa using m
  subst e;exact⟨rfl,λc P h=>d▸i c P h,by have:=b.dp;show(A.deeper _).depth+2<A2T;omega,by have:=b.un;show(A.deeper _).units+110<cLine;omega⟩
 call:=λg x o m=>let ⟨j,c⟩:=a g x (by rwa [YM (by rw[Y5]at o;exact A02 o)]at m);⟨k,j,c,b⟩
 mono:=l
def KW{i:List (Str×XCls)}{T:List Str}{Δ:Nat->Sn}{D:Df}{f:A1G}{j:A2g}{k:Nat}(F:Fun K D.name D.name D.st f j)(l:∀ c P,TabK K D.name c P->j.code = .ref c)(e:FN i T D=aC)(B:Bl K mg)(V:XD P w K mg base k i T Δ)(a:∀ f x,T[f]?=aA x->∃ m,Cal P w K mg base k x m (spS K (Δ f)))(b:∀ f,MonoN (Δ f)):FnOk P w K mg base CX0 (k+1) f j D.ps (spS K (i5 Δ D)):=by
 unfold FN at e;rw[Y3]at e;have S:=P1 e.1;obtain⟨Z,od,kV,y,pm,an,cdv,ct,G,rfl,J,n⟩:=F.ex;refine SX J n S (λL H Q E h=>?_) (λA outer s H L Q E u h=>?_)
 ·obtain⟨o,S,M,v,r,d,_⟩:=h;rw[r.length];exact d
 ·have C:=(KU (CX:=CX0) (outer:=outer) (s:=s) (H:=H) (E:=E) (cdv:=cdv) rfl S u l B a b).nox'
  have I:XInt aD aD i ⟨λ_ _=>True,λ_ _=>trivial⟩ (T++[D.name]) Δ (Eg CX0 P w K mg base D.N D.name (defScope D.st) f cdv A outer s H E).nox:=⟨⟨rfl,rfl,rfl,λ_=>rfl⟩,by rw[Y5];exact V.tl,V.cls,
   ⟨λ_ _ _=>False,λ_ _ _ _ _ _ _ _ _ _ z=>z,λc o H S Q _ _ _ q=>(V.rz0 c S Q q).elim,.inr ⟨λ_ _ _ _ _ _ _ _ z=>z,.never⟩⟩,.inr (.inr λ_ _ z=>z),
   λg x d O=>let ⟨m,c⟩:=V.call g x (by rwa [YM (by rw[Y5]at d;exact A02 d)]at O);⟨k,m,c,u⟩⟩
  refine⟨_,((AN S.kind D.body _ C I (λz=>nomatch z) (λz=>nomatch z) e.2).ps).nox,?_⟩;obtain⟨o,S,M,v,r,d,h⟩:=h;refine⟨o,_,S,v,FO r,trivial,(m9 b D.body).go h ⟨λR U q p W X g t Y=>q p W _ g t (rl_non.mpr rfl),λx U q=>q,λ_ _ q=>q.elim,λ_ _ q=>q.elim⟩⟩
def Rh{m:List (Str×XCls)}{T:List Str}{Δ:Nat->Sn}{D:Df}{f:A1G}{n:A2g}{k:Nat}(F:Fun K D.name D.name D.st f n)(o:∀ c P,TabK K D.name c P->n.code = .ref c)(e:FN m T D=aC)(B:Bl K mg)(V:XD P w K mg base k m T Δ)(b:∀ f x,T[f]?=aA x->∃ p,Cal P w K mg base k x p (spS K (Δ f)))(i:∀ f,MonoN (Δ f)):FnOk P w K mg base (CXE P w) (k+1) f n D.ps (spX K (CH Δ D)):=by
 unfold FN at e;rw[Y3]at e;have S:=P1 e.1;obtain⟨oc,od,kV,U,pm,an,cdv,ct,W,rfl,X,u⟩:=F.ex;refine SX X u S (λY H Q E h=>?_) (λA outer s H Y Q E L h=>?_)
 ·obtain⟨v,S,Z,M,r,_,y,QQ,_,_,j,_⟩:=h;rw[r.length];exact j
 ·obtain⟨v,S0,Z,M,r,G,y,QQ,h1,O,j,h⟩:=h;have R:(T++[D.name]).length<rz:=by rw[Y5];exact V.tl
  have C:=(KU (CX:=CXE P w) (outer:=outer) (s:=s) (H:=H) (E:=E) (cdv:=cdv) rfl S L o B b i).setE R y
  have I:XInt aD aC m ⟨λa l=>Go v H a l,λg h=>h.trans g⟩ (T++[D.name]) (setE Δ y) (Eg (CXE P w) P w K mg base D.N D.name (defScope D.st) f cdv A outer s H E):=⟨⟨rfl,rfl,rfl,λ_=>rfl⟩,R,V.cls,
   ⟨E,catch_fn.t,λc a l J Q' g d e q=>h1 c J (KQ q) a l g d e,.inr ⟨catch_fn,.leaving⟩⟩,.inr (.inl rfl),
   λg x j hx=>let ⟨p,c⟩:=V.call g x (by rwa [YM (by rw[Y5]at j;exact A02 j)]at hx);⟨k,p,by rw[AG (show 2000000+g≠1000000 by omega)];exact c,L⟩⟩
  refine⟨_,(AN S.kind D.body _ C I (λz=>nomatch z) (λ_=>G) e.2).ps,?_⟩;exact⟨v,_,S0,M,FO r,Go.refl _ _,(m9 (C1 i) D.body).go h ⟨λa0 J q a l a1 g d a2=>O _ _ q a l _ g d (rl_non.mpr rfl),λx J q=>O _ _ q,λ_ _ q=>q.elim,λ_ _ q=>q.elim⟩⟩
def KY{x:Str}{f:A1G}{d:Option A1G}{g:Array (Option A1E)}{i:A1E}{b:A2g}(a:PySem.W.nsIn K A1I x=aA (aA (.ref f)))(l:K.lookup f=aA ⟨i,d,.func b,g⟩):∀ c P,TabK K x c P->b.code = .ref c:=by
 rintro c P ⟨h,_⟩;unfold PySem.W.tabIn at h;simp only[a,l]at h;split at h
 ·rename_i j e;split at h
  ·split at h
   ·cases h;exact e
   ·cases h
  ·cases h
 ·cases h
structure PIn(K:Y2)(mg:Str->Option A1E)(D:Df):Prop where
 ex:∃ f fd,Fun K D.name D.name D.st f fd/\(∀ c P,TabK K D.name c P->fd.code = .ref c)/\mg D.name=aA (.ref f)/\PySem.W.keepIn K (.ref f)=aC/\Binds K fd D.ps []
theorem EM{I:List (Str×XCls)}{prog:List Df}(M:prog.all (FN I (prog.map (·.name)))=aC)(B:Bl K mg)(C:prog.length+1<1000000)(l:∀ p∈I,ClsK K p.2/\PySem.W.nsIn K A1I p.1=aA (aA (.ref p.2.ad)))(b:∀ D∈prog,PIn K mg D):∀(d f:Nat) (D:Df),prog[f]?=aA D->Cal P w K mg base d D.name D.ps (spS K (W prog d f))/\CalleeE P w K mg base d D.name D.ps (spX K (W prog d (tz+f)))
 | 0,f,D,j=>by
   obtain⟨m,n,F,c,o,t,u⟩:=(b D (Y7 j)).ex;refine⟨⟨m,n,⟨λG H Q E h=>?_,λA i s H v T G Q E U X J Y h=>?_⟩,o,t,u⟩,⟨m,n,⟨λG H Q E h=>?_,λA i s H v T G Q E U X J Y h=>?_⟩,o,t,u⟩⟩<;>(obtain⟨_,_,_,_,_,z⟩:=h;exact z.elim)
 | d+1,f,D,j=>by
   obtain⟨m,n,F,c,o,t,u⟩:=(b D (Y7 j)).ex;have N:=YX.mp M D (Y7 j);have O:=EM M B C l b d
   have y:∀(g:Nat) (x:Str),(prog.map (·.name))[g]?=aA x->∃ a,prog[g]?=aA a/\a.name=x:=λg x k=>by
    rw[YA]at k;exact Zm.mp k
   have V:XD P w K mg base d I (prog.map (·.name)) (W prog d):=⟨by rw[Y4];exact C,l,XI (A0m C) d,λg x k=>by
    obtain⟨a,L,rfl⟩:=y g x k;exact⟨a.ps,(O g a L).2⟩⟩
   have R:∀(g:Nat) (x:Str),(prog.map (·.name))[g]?=aA x->∃ Z,Cal P w K mg base d x Z (spS K (W prog d g)):=λg x k=>by
    obtain⟨a,L,rfl⟩:=y g x k;exact⟨a.ps,(O g a L).1⟩
   have e:W prog (d+1) f=i5 (W prog d) D:=by rw[W,j]
   rw[e,XJ (A0m C) j];exact⟨⟨m,n,KW F c N B V R (DA d),o,t,u⟩,⟨m,n,(Rh F c N B V R (DA d)).imp λG H Q E ⟨as,S,xs,ok,r,q⟩=>⟨as,S,xs,ok,r,q.2⟩,o,t,u⟩⟩
def VN{prog:List Df}{d f:Nat}{H:Hp}{a:A1G}{ns:List Int}(b:W prog d f [.ro (ns.map SV.int)] [] λx _=>x = .bl aC)(c:QW H)(i:SqL K H a (ns.map V.int)):spS K (W prog d f) [.ref a] H (λv _=>v = .bl aC) λ_ _ _=>False:=by
 have j:FzL K H a (ns.map V.int):=by
  rcases i with(h | ⟨o,h⟩) | h
  ·rcases c a with z | ⟨o,xs,z⟩<;>rw[h]at z<;>cases z
  ·exact .inl ⟨o,h⟩
  ·exact .inr h
 refine⟨[],[],_,⟨rfl,A1q,λk o a e=>by simp at e⟩,.cons (rl_ro.mpr ⟨a,_,rfl,j,RlAll.ints⟩) .nil,DA d f _ _ _ _ (λx m e l n v g p r=>?_) b⟩;subst e;exact rl_bl.mp r
end
def f9{k:Nat}{S:Sto}{xs:List SV}(h:S[k]?=aA (.lst xs)):seqS (.loc k) S=aA xs:=by simp only[seqS,h]
def Bm{k:Nat}{S:Sto}{xs:List SV}(h:S[k]?=aA (.lst xs)):CD (.loc k) S=aB:=by simp only[CD,h]
def KZ{k:Nat}{S:Sto}{xs:List SV}(h:S[k]?=aA (.lst xs)):OB (.loc k) S=aA (!xs.isEmpty):=by delta OB;dsimp only;rw[h]
def P4{k:Nat}{S:Sto}{xs:List SV}(h:S[k]?=aA (.lst xs)):tyS (.loc k) S=aA .list:=by delta tyS;dsimp only;rw[h]
def ifT{b:Bool}{A B:Prop}(h:b=aC)(a:A):if b=aC then A else B:=by rw[iP h];exact a
def ifF{b:Bool}{A B:Prop}(h:b=aD)(a:B):if b=aC then A else B:=by rw[iG (by rw[h];decide)];exact a
def ifD{c A B:Prop}[Decidable c](a:c->A)(b:¬ c->B):if decide c=aC then A else B:=by
 by_cases h:c
 ·rw[iP (decide_eq_true h)];exact a h
 ·rw[iG (by simpa using h)];exact b h
def ifB{b:Bool}{A B:Prop}(a:b=aC->A)(c:b=aD->B):if b=aC then A else B:=by
 cases b with
 | true=>rw[iP rfl];exact a rfl
 | false=>rw[iG (by decide)];exact c rfl
def t9{S:Sto}{k:Nat}{o u:SO}(h:S[k]?=aA o):(S.set k u)[k]?=aA u:=YV ((gM h).1)
def AC{S:Sto}{k j:Nat}{u:SO}(h:k≠j):(S.set k u)[j]?=S[j]?:=Yq h
def g9{S:Sto}{o:SO}:(S++[o])[S.length]?=aA o:=YY
def m4{S:Sto}{o u:SO}{k:Nat}(h:S[k]?=aA u):(S++[o])[k]?=aA u:=by
 rw[YM ((gM h).1)];exact h
def Ka{S:Sto}{o:SO}{k:Nat}(h:S[k]?=aA o):k<S.length:=(gM h).1
structure TapeS(S:Sto)(t:Nat):Prop where
 ex:∃ a b:Int,S[t]?=aA (.lst [.int a,.int b])/\0<=a/\0<=b/\b<2147483647
structure On(t:Nat)(S S':Sto):Prop where
 len:S.length<=S'.length
 keep:∀ k o,k≠t->S[k]?=aA o->S'[k]?=aA o
def On.refl(t:Nat)(S:Sto):On t S S:=⟨YF _,λ_ _ _ h=>h⟩
def On.trans{t:Nat}{S d c:Sto}(a:On t S d)(b:On t d c):On t S c:=⟨Yg a.len b.len,λk o n h=>b.keep k o n (a.keep k o n h)⟩
def On.push{t:Nat}{S b:Sto}{o:SO}(a:On t S b):On t S (b++[o]):=⟨by rw[Y5];have:=a.len;omega,λk u n h=>m4 (a.keep k u n h)⟩
def On.tape{t:Nat}{S b:Sto}{o:SO}(a:On t S b):On t S (b.set t o):=⟨by rw[YZ];exact a.len,λk u n h=>by rw[AC (Ne.symm n)];exact a.keep k u n h⟩
def On.new{t k:Nat}{S b:Sto}{o:SO}(a:On t S b)(h:S.length<=k):On t S (b.set k o):=⟨by rw[YZ];exact a.len,λj u n c=>by
 rw[AC (λz=>by have:=Ka c;omega)];exact a.keep j u n c⟩
def TapeS.push{S:Sto}{t:Nat}{o:SO}(h:TapeS S t):TapeS (S++[o]) t:=let ⟨a,b,e,z⟩:=h.ex;⟨a,b,m4 e,z⟩
def TapeS.other{S:Sto}{t k:Nat}{o:SO}(h:TapeS S t)(n:k≠t):TapeS (S.set k o) t:=let ⟨a,b,e,z⟩:=h.ex;⟨a,b,by rw[AC n];exact e,z⟩
def TapeS.lt{S:Sto}{t:Nat}(h:TapeS S t):t<S.length:=let ⟨_,_,e,_⟩:=h.ex;Ka e
def y8{c:Sto->Prop}{g:Tg}{b:WS}{D:EndsS}(r:MonoS b)(I:Nat->EnvS->Sto->Prop){xs:List SV}{a:EnvS}{S:Sto}(s:I 0 a S)(m:∀ i a S,I i a S->c S)
 (t:∀ i x a S,xs[i]?=aA x->I i a S->wTg g x a λj=>b {D with nx:=I (i+1),ct:=I (i+1),bk:=D.nx} j S) (u:∀ a S,I xs.length a S->D.nx a S):y6 c g b D xs a S:=by
 have v:∀(f:List SV) (i:Nat) (a:EnvS) (S:Sto),xs.drop i=f->i<=xs.length->I i a S->y6 c g b D f a S:=by
  intro f
  induction f with
  | nil=>
    intro i a S e w h
    have:i=xs.length:=by
     have:=congrArg A0M e;rw[A0t,ZS]at this;omega
    subst this;unfold y6;exact⟨m _ _ _ h,u _ _ h⟩
  | cons y f n=>
    intro i a S e w h
    have o:xs[i]?=aA y:=by
     rw[<-A1k,e];rfl
    have k:=(gM o).1;have p:xs.drop (i+1)=f:=by rw[<-A1t,e];rfl
    unfold y6;refine⟨m _ _ _ h,AM g (λj q=>?_) (t i y a S o h)⟩;exact r.go (D:={D with nx:=I (i+1),ct:=I (i+1),bk:=D.nx}) q ⟨λd l z=>n (i+1) d l p k z,λ_ _ z=>z,λ_ _ z=>z,λd l z=>n (i+1) d l p k z⟩
 exact v xs 0 a S rfl (Z3 _) s
def A6{c:Sto->Prop}{g:Tg}{b:WS}{D:EndsS}(e:MonoS b)(I:Nat->EnvS->Sto->Prop){xs:List SV}{a:EnvS}{S:Sto}(f:I 0 a S)(j:∀ i a S,I i a S->c S)
 (k:∀ i x a S (E:EndsS),(∀ a S,I (i+1) a S->E.nx a S)->(∀ y S,D.rt y S->E.rt y S)->xs[i]?=aA x->I i a S->wTg g x a λd=>b E d S) (l:∀ a S,I xs.length a S->D.nx a S):y6 c g b D xs a S:=
 y8 e I f j (λi x a S m n=>k i x a S {D with nx:=I (i+1),ct:=I (i+1),bk:=D.nx} (λ_ _ h=>h) (λ_ _ h=>h) m n) l
def JI{j:Type}{d:Sto->Prop}{g:Tg}{t:WT}{l:WM j}{o:EnvS}{Q:j->Sto->Prop}(mt:MonoT t)(z:Hd l)(I:Nat->j->Sto->Prop){xs:List SV}{a:j}{S:Sto}(A:I 0 a S)(p:∀ i c S,I i c S->d S)
 (B:∀ i x c S,xs[i]?=aA x->I i c S->wTg g x o λe=>t e S λb m=>if b=aC then l e c m (I (i+1)) else I (i+1) c m) (C:∀ c S,I xs.length c S->Q c S):wTG d g t l o Q xs a S:=by
 have D:∀(f:List SV) (i:Nat) (c:j) (S:Sto),xs.drop i=f->i<=xs.length->I i c S->wTG d g t l o Q f c S:=by
  intro f
  induction f with
  | nil=>
    intro i c S n r h;obtain rfl:i=xs.length:=A1l r (List.drop_eq_nil_iff.mp n);exact⟨p _ _ _ h,C _ _ h⟩
  | cons y f s=>
    intro i c S n r h;have u:xs[i]?=aA y:=by rw[<-A1k,n];rfl
    have k:=(gM u).1;have w:xs.drop (i+1)=f:=by rw[<-A1t,n];rfl
    exact⟨p _ _ _ h,AM g (λe q=>mt _ _ _ _ (λb m q=>v4 (λq=>z _ _ _ _ _ (λv E q=>s (i+1) _ E w k q) q) (λq=>s (i+1) _ m w k q) q) q) (B i y c S u h)⟩
 exact D xs 0 a S rfl (Z3 _) A
def m7{c:Sto->Prop}{g:Tg}{t:WT}{e:WE}{f:EnvS}{Q:List SV->Sto->Prop}(mt:MonoT t)(j:Mono e)(I:Nat->List SV->Sto->Prop){xs:List SV}{S:Sto}(k:I 0 [] S)(l:∀ i a S,I i a S->c S)
 (m:∀ i x a S,xs[i]?=aA x->I i a S->wTg g x f λd=>t d S λb h=>if b=aC then e d h λy n=>a.length<big/\I (i+1) (a++[y]) n else I (i+1) a h) (o:∀ a S,I xs.length a S->Q a S):OO c g t e f Q xs [] S:=JI mt (EF j) I k l m o
def u7{a b:Int}{i:Nat}{x:SV}(h:(DQ a b)[i]?=aA x):x = .int (a+i)/\a+i<b:=by
 unfold DQ at h
 have c:i<(b - a).toNat:=by
  have:=(gM h).1;simpa using this
 rw[YA,Yx c]at h;exact⟨(oj h).symm,by omega⟩
def r6{a b:Int}:(DQ a b).length=(b - a).toNat:=by unfold DQ;simp
def pairS(e:Nat×Nat):SV := .tup [.int e.1,.int e.2]
noncomputable def T9:List Stm:=[.asg (.nm 2) vQ,.iff (.cmp .Lt vK (.bi .len (vA vJ))) [.asg (.nm 2) (.ix vJ vK)] [],.asg (.nm 3) kH,.ret kI]
noncomputable def TB:List Stm:=[.iff (.cmp .Gt (.ix vJ vQ) vQ) [.asg (.nm 2) (.op .Mod (.ix vJ vQ) vK),.put vJ vQ (.op .FloorDiv (.ix vJ vQ) vK),.ret vM] [],.put vJ vN (.op .Mod (.op .Add (.op .Mult kE kD) (.c (.int 12345))) kA),.asg (.nm 3) (.op .Mod (.op .Mult kE (.op .Add (.op .Mod kE (.c (.int 1009))) vV)) (.c (.int 2147483629))),.ret (.op .Mod (.op .Mod (.op .Mult vL (.op .Add (.op .Mod vL (.c (.int 997))) kB)) (.c (.int 998244353))) vK)]
def AO(s:Sn):Prop:=∀{t:Nat} {m:Int} {S:Sto} {Q:QE},TapeS S t->0<m->m<1073741824->(∀(r:Int) (a:Sto),0<=r->r<m->TapeS a t->On t S a->a.length=S.length->Q (.int r) a)->s [.loc t,.int m] S Q
def P5(s:Sn):Prop:=∀{ns:List Int} {k:Nat} {S:Sto} {Q:QE},ns.length<=63->k<=1000->(∀ a b:Int,0<=a->0<=b->b<2147483647->Q (.loc S.length) (S++[.lst [.int a,.int b]]))->s [.ro (ns.map SV.int),.int k] S Q
def b01(b:Bool):-(2 ^ 64)<(if b=aC then (1:Int) else 0)/\(if b=aC then (1:Int) else 0)<2 ^ 64:=by cases b<;>decide
def b00(b:Bool):0<=(if b=aC then (1:Int) else 0):=by cases b<;>decide
def Ri{Δ:Nat->Sn}{D:Df}(n:D.body=TB)(o:D.N.length=4)(p:D.ps.length=2):AO (i5 Δ D):=by
 intro t m S Q T d s q;obtain⟨a,b,c,k,i,j⟩:=T.ex;unfold i5;rw[n,o];refine⟨p.symm,?_⟩;have l:∀ r g e:Int,0<=r->r<m->0<=g->0<=e->e<2147483647->Q (.int r) (S.set t (.lst [.int g,.int e])):=λr g e u v w x y=>q r _ u v ⟨g,e,t9 c,w,x,y⟩ (On.refl t S).tape (by rw[YZ]);refine⟨_,rfl,_,_,f9 c,rfl,_,rfl,ifD (λh=>?_) (λh=>?_)⟩
 ·refine⟨_,rfl,_,_,f9 c,rfl,_,rfl,d,?_⟩;refine⟨_,rfl,_,_,f9 c,rfl,_,rfl,⟨d,s⟩,_,rfl,_,_,c,rfl,_,rfl,?_⟩;exact l _ _ _ (Zq _ (by omega)) (ZV _ d) (Int.ediv_nonneg k (by omega)) i j
 ·refine⟨_,rfl,_,_,f9 c,rfl,.inr (by decide),show(0:Int)<2147483647 by decide,_,rfl,_,_,c,rfl,?_⟩;have z:0<=(b * 48271+12345) % 2147483647:=Zq _ (by decide);have A:(b * 48271+12345) % 2147483647<2147483647:=ZV _ (by decide);have f:(S.set t (.lst [.int a,.int ((b * 48271+12345) % 2147483647)]))[t]?=aA (.lst [.int a,.int ((b * 48271+12345) % 2147483647)]):=t9 c;refine⟨_,rfl,_,_,f9 f,rfl,_,rfl,_,_,f9 f,rfl,show(0:Int)<1009 by decide,.inl ⟨by omega,by omega⟩,show(0:Int)<2147483629 by decide,?_⟩;have B:0<=((b * 48271+12345) % 2147483647 * ((b * 48271+12345) % 2147483647 % 1009+3)) % 2147483629:=Zq _ (by decide);have C:((b * 48271+12345) % 2147483647 * ((b * 48271+12345) % 2147483647 % 1009+3)) % 2147483629<2147483629:=ZV _ (by decide);refine⟨_,rfl,_,rfl,show(0:Int)<997 by decide,.inl ⟨by omega,by omega⟩,show(0:Int)<998244353 by decide,_,rfl,d,?_⟩;exact l _ _ _ (Zq _ (by omega)) (ZV _ d) k z A
def Rj{Δ:Nat->Sn}{D:Df}(e:D.body=T9)(f:D.N.length=4)(g:D.ps.length=2):P5 (i5 Δ D):=by
 intro a k S Q i j q;unfold i5;rw[e,f];refine⟨g.symm,?_⟩
 have b:∀ c:Int,wSs Δ [.asg (.nm 3) kH,.ret kI] (u8 Q) [aA (.ro (a.map SV.int)),aA (.int k),aA (.int c),aB] S:=λc=>by
  refine⟨_,rfl,_,rfl,⟨by decide,by decide,by decide⟩,.inr (b01 _),?_⟩;refine⟨_,rfl,_,rfl,_,rfl,.inl ⟨by decide,by decide⟩,show(0:Int)<2147483647 by decide,.inr ⟨by decide,by decide⟩,show(0:Int)<2147483647 by decide,by show 2<=big;decide,?_⟩;refine q _ _ (Int.mul_nonneg (by split<;>omega) (b00 _)) (Zq _ (by decide)) (ZV _ (by decide))
 refine⟨_,rfl,_,rfl,_,rfl,_,rfl,ifD (λh=>?_) (λh=>b 0)⟩
 have d:k<a.length:=by
  have:((a.map SV.int).length:Int)=a.length:=by rw[Y4]
  omega
 refine⟨_,rfl,_,rfl,_,_,rfl,k8 (v := .int a[k]) (by rw[YA,Y6 d];rfl),?_⟩;exact b _
noncomputable def q1(kd:Nat):Stm:=(.asg (.nm 2) (.call kd (vB vJ (.c (.int 8)))))
noncomputable def q2(kd:Nat):Stm:=(.asg (.nm 3) (.ix (.lst (vB (.call kd (vB vJ kC)) (.op .Add kC (.call kd (vB vJ (.c (.int 6))))))) (.bi .int (vA vK))))
noncomputable def q3(kd:Nat):Stm:=(.asg (.nm 4) kG)
noncomputable def q4(kd:Nat):Stm:=(.iff (.and (.cmp .Lt vM vV) (.cmp .Gt vL vN)) [.loop (.nm 5) (.rng1 (.call kd (vB vJ (.op .Add (.op .Mult vY vL) vN)))) [.asg (.nm 6) (.call kd (vB vJ vL)),.expr (.mt .append vO (vA (.tup (vB vS (.op .Mod (.op .Add (.op .Add vS vN) (.call kd (vB vJ (.op .Sub vL vN)))) vL)))))]] [])
noncomputable def q5(kd:Nat):Stm:=(.iff (.and (.cmp .Eq vM vV) (.cmp .Gt vL vY)) [.asg (.nm 4) (.op .Add (.comp ["_law_k"] ["_law_many"] [3] (.nm 0) (.rng1 vL) .no (.tup (vB vJ (.op .Mod (.op .Add vJ vN) vK)))) (.lst (vA (.tup (vB vQ (.op .Add (.call kd (vB vJ (.op .Sub vL vN))) vN))))))] [])
noncomputable def q6(kd:Nat):Stm:=(.iff (.and (.cmp .Eq vM (.c (.int 4))) (.cmp .Gt vL vN)) [.asg (.nm 4) (.comp ["_law_k"] [] [] (.nm 0) (.rng2 vN vL) .no (.tup (vB vQ vJ)))] [])
noncomputable def q7(kd:Nat):Stm:=(.iff (.cmp .Eq vM kB) [.asg (.nm 3) (.bi .min (vB vL (.op .Add kB (.bi .int (vA vK))))),.loop (.nm 7) (.rng1 vL) [.expr kJ]] [])
noncomputable def q8(kd:Nat):Stm:=(.iff (.cmp .Eq vM (.c (.int 6))) [.asg (.nm 8) (.op .Add vN (.op .FloorDiv vL vY)),.loop (.nm 7) (.rng1 vU) [.expr (.mt .extend vO (vA (.comp ["_law_j"] ["_law_tape_here","_law_k"] [0,7] (.nm 0) (.rng2 vU vL) (.yes (.cmp .Gt (.call kd (vB vK vV)) vQ)) (.tup (vB vM vJ)))))]] [])
noncomputable def q9(kd:Nat):Stm:=(.iff (.cmp .Eq vM kC) [.asg (.nm 3) (.op .Add vV (.op .FloorDiv vL vV)),.loop (.nm 7) (.rng1 vV) [.expr (.mt .extend vO (vA (.op .Mult kR (.op .Add vN (.call kd (vB vJ vV))))))]] [])
noncomputable def q10(kd:Nat):Stm:=(.ret (.tup (vB vL vO)))
noncomputable def q7l(kd:Nat):Stm:=(.loop (.nm 7) (.rng1 vL) [.expr kJ])
noncomputable def q8l(kd:Nat):Stm:=(.loop (.nm 7) (.rng1 vU) [.expr (.mt .extend vO (vA (.comp ["_law_j"] ["_law_tape_here","_law_k"] [0,7] (.nm 0) (.rng2 vU vL) (.yes (.cmp .Gt (.call kd (vB vK vV)) vQ)) (.tup (vB vM vJ)))))])
noncomputable def q9l(kd:Nat):Stm:=(.loop (.nm 7) (.rng1 vV) [.expr (.mt .extend vO (vA (.op .Mult kR (.op .Add vN (.call kd (vB vJ vV))))))])
noncomputable def JJ(kd:Nat):List Stm:=[q1 kd,q2 kd,q3 kd,q4 kd,q5 kd,q6 kd,q7 kd,q8 kd,q9 kd,q10 kd]
structure Prs(n:Nat)(es:EE):Prop where
 en:∀ e∈es,e.1<n/\e.2<n/\e.1≠e.2
 len:es.length<=36
 few:n<=12
def PairsSp(s:Sn):Prop:=∀{t:Nat} {g:Bool} {S:Sto} {Q:QE},TapeS S t->(∀(n:Nat) (es:EE) (l:Nat) (a:Sto),Prs n es->a[l]?=aA (.lst (es.map pairS))->S.length<=l->TapeS a t->On t S a->Q (.tup [.int n,.loc l]) a)->s [.loc t,.bl g] S Q
def PairsKSp(c:Bool->Bool)(s:Sn):Prop:=∀{t:Nat} {g:Bool} {S:Sto} {Q:QE},TapeS S t->(∀(n:Nat) (es:EE) (l:Nat) (a:Sto),Prs n es->(c g=aC->n<=6/\es.length<=12)->a[l]?=aA (.lst (es.map pairS))->S.length<=l->TapeS a t->On t S a->Q (.tup [.int n,.loc l]) a)->s [.loc t,.bl g] S Q
def PairsKSp.sp{c:Bool->Bool}{s:Sn}(h:PairsKSp c s):PairsSp s:=λT q=>h T λn d l e P _ a b t o=>q n d l e P a b t o
def PairsSp.k{s:Sn}(h:PairsSp s):PairsKSp (λ_=>aD) s:=λT q=>h T λn c l d P a b t o=>q n c l d P nofun a b t o
structure Ah(t:Nat)(S0 S:Sto)(l:Nat)(es:EE):Prop where
 tape:TapeS S t
 on:On t S0 S
 at':S[l]?=aA (.lst (es.map pairS))
 new:S0.length<=l
 t0:t<S0.length
def Ah.ne{t l:Nat}{a S:Sto}{es:EE}(h:Ah t a S l es):l≠t:=by have:=h.new;have:=h.t0;omega
def Ah.draw{t l:Nat}{b S a:Sto}{es:EE}(h:Ah t b S l es)(T:TapeS a t)(O:On t S a):Ah t b a l es:=⟨T,h.on.trans O,O.keep _ _ h.ne h.at',h.new,h.t0⟩
def Ah.push{t l:Nat}{a S:Sto}{es:EE}{o:SO}(h:Ah t a S l es):Ah t a (S++[o]) l es:=⟨h.tape.push,h.on.push,m4 h.at',h.new,h.t0⟩
def Ah.put{t l:Nat}{a S:Sto}{es fs:EE}(h:Ah t a S l es):Ah t a (S.set l (.lst (fs.map pairS))) l fs:=⟨h.tape.other h.ne,h.on.new h.new,t9 h.at',h.new,h.t0⟩
def Ho(es:EE)(e:Nat×Nat):es.map pairS++[.tup [.int e.1,.int e.2]]=(es++[e]).map pairS:=by rw[YN];rfl
section
variable{Δ:Nat->Sn}{kd:Nat}
def Xu(s:∀ f,MonoN (Δ f))(u:AO (Δ kd)){t l n:Nat}{j:Int}{v S:Sto}{D:EndsS}{g:SV}{k m w y:Option SV}{c:Prop}(G:c->n<=6)(A:Ah t v S l [])(H:n<=12)
 (q:∀(es:EE) (I:Sto) (k m:Option SV),Prs n es->(c->n<=6/\es.length<=12)->Ah t v I l es->D.nx [aA (.loc t),aA g,aA (.int j),aA (.int n),aA (.loc l),k,m,w,y] I):
 wSt Δ (q4 kd) D [aA (.loc t),aA g,aA (.int j),aA (.int n),aA (.loc l),k,m,w,y] S:=by
 have d:=q [] S k m ⟨(λ_ h=>nomatch h),by simp,H⟩ (λz=>⟨G z,by simp⟩) A;refine⟨_,rfl,_,rfl,ifD (λO=>?_) (λO=>ifF rfl d)⟩;refine⟨_,rfl,_,rfl,ifD (λJ=>?_) (λJ=>d)⟩;have J:1<n:=by omega
 refine⟨_,rfl,_,rfl,.inl ⟨by decide,by decide⟩,u A.tape (by omega) (by omega) λr S1 r0 r1 P Q _=>⟨r,rfl,⟨by omega,by omega⟩,?_⟩⟩;have R:=A.draw P Q
 refine y8 (m9 s _) (λi B o=>∃(es:EE) (k m:Option SV),B=[aA (.loc t),aA g,aA (.int j),aA (.int n),aA (.loc l),k,m,w,y]/\Ah t v o l es/\(∀ e∈es,e.1<n/\e.2<n/\e.1≠e.2)/\es.length=i)
  ⟨[],k,m,rfl,R,(λ_ h=>nomatch h),rfl⟩ (λ_ _ _ _=>trivial) ?_ ?_
 ·rintro i x B o T ⟨es,K,L,rfl,p,C,E⟩;obtain⟨rfl,hi⟩:=u7 T;refine⟨_,rfl,_,rfl,u p.tape (by omega) (by omega) λa S3 U a1 V W _=>?_⟩;have F:=p.draw V W;refine⟨_,rfl,⟨l,_,rfl,F.at'⟩,?_⟩;refine⟨_,rfl,_,rfl,_,rfl,_,rfl,u F.tape (by omega) (by omega) λb S4 b0 b1 X Y _=>?_⟩;have M:=F.draw X Y;refine⟨_,rfl,show(0:Int)<n by omega,by show 2<=big;decide,⟨_,M.at',by rw[Y4];show es.length<100000;omega,?_⟩⟩;have Z:((a.toNat:Nat):Int)=a:=Zu U;have m0:0<=(a+1+b) % n:=Zq _ (by omega);have m1:(a+1+b) % n<n:=ZV _ (by omega);have e2:(((a+1+b) % n).toNat:Int)=(a+1+b) % n:=Zu m0
  have a2:a≠(a+1+b) % n:=by
   by_cases hb:a+1+b<n
   ·rw[A1b (by omega) hb];omega
   ·rw[<-Int.sub_emod_right,A1b (by omega) (by omega)];omega
  have N:=Ho es (a.toNat,((a+1+b) % n).toNat);simp only[Z,e2]at N;refine⟨es++[(a.toNat,((a+1+b) % n).toNat)],_,_,rfl,?_,λe h=>?_,by rw[Y5,E];rfl⟩
  ·have:=M.put (fs:=es++[(a.toNat,((a+1+b) % n).toNat)]);rw[<-N]at this;exact this
  ·rcases YT.mp h with h | h
   ·exact C e h
   ·rw[YK.mp h];exact⟨by show a.toNat<n;omega,by show((a+1+b) % n).toNat<n;omega,by show a.toNat≠((a+1+b) % n).toNat;omega⟩
 ·rintro B o ⟨es,K,L,rfl,p,C,E⟩;rw[r6]at E;exact q es o K L ⟨C,by omega,H⟩ (λz=>by have:=G z;omega) p
abbrev PQ(c:Prop)(t:Nat)(g:SV)(a:Int)(d:Sto)(D:EndsS):Prop:=∀(n:Nat) (es:EE) (l:Nat) (b:Sto) (e f h i:Option SV),Prs n es->(c->n<=6/\es.length<=12)->Ah t d b l es->D.nx [aA (.loc t),aA g,aA (.int a),aA (.int n),aA (.loc l),e,f,h,i] b
def GF{n:Nat}(h:n<=12):Prs n []:=⟨(λ_ h=>nomatch h),by simp,h⟩
def Xv(a:∀ f,MonoN (Δ f))(I:AO (Δ kd)){t l n:Nat}{v S:Sto}{D:EndsS}{g:SV}{w y B C:Option SV}{c:Prop}(k:c->n<=6)(A:Ah t v S l [])(E:n<=12)(q:PQ c t g 3 v D):
 wSt Δ (q5 kd) D [aA (.loc t),aA g,aA (.int 3),aA (.int n),aA (.loc l),w,y,B,C] S:=by
 have b:=q n [] l S w y B C (GF E) (λz=>⟨k z,by simp⟩) A;refine⟨_,rfl,_,rfl,ifT rfl ?_⟩;refine⟨_,rfl,_,rfl,ifD (λF=>?_) (λF=>b)⟩;have F:2<n:=by omega
 refine⟨_,rfl,n,rfl,⟨by omega,by omega⟩,?_⟩;refine m7 (n9 a _).2 (c8 a _).1 (λi m d=>d=S/\m=((YJ i).map λj=>(j,(j+1) % n)).map pairS) ⟨rfl,rfl⟩ (λ_ _ _ _=>trivial) ?_ ?_
 ·rintro i x m d J ⟨rfl,rfl⟩;obtain⟨rfl,R⟩:=u7 J;refine⟨_,rfl,_,rfl,_,rfl,show(0:Int)<n by omega,by show 2<=big;decide,by simp;show i<100000;omega,rfl,?_⟩;rw[ZE,YN,YN];simp[pairS]
 ·rintro m d ⟨rfl,rfl⟩;rw[r6];refine⟨_,rfl,_,rfl,I (A.push (o := .lst (((YJ ((n:Int) - 0).toNat).map λj=>(j,(j+1) % n)).map pairS))).tape (by omega) (by omega) λr K L T M G U=>?_⟩;have p:=(A.push (o := .lst (((YJ ((n:Int) - 0).toNat).map λj=>(j,(j+1) % n)).map pairS))).draw M G;refine⟨by show 2<=big;decide,by show 1<=big;decide,?_⟩;have V:=A.t0;have N:=A.on.len;have s:K[d.length]?=aA (.lst (((YJ ((n:Int) - 0).toNat).map λj=>(j,(j+1) % n)).map pairS)):=G.keep _ _ (by omega) g9;refine⟨_,_,m4 s,g9,by simp;show _<=100000;omega,?_⟩;have O:((n:Int) - 0).toNat=n:=by omega
  rw[O];have W:((r.toNat:Nat):Int)=r:=Zu L;have H:=Ho ((YJ n).map λj=>(j,(j+1) % n)) (0,r.toNat+1);have P:((r.toNat+1:Nat):Int)=r+1:=by omega
  simp only[P]at H;refine q n ((YJ n).map (λj=>(j,(j+1) % n))++[(0,r.toNat+1)]) _ _ _ _ _ _ ⟨λe h=>?_,by simp;omega,E⟩ (λz=>⟨k z,by have:=k z;simp;omega⟩) ⟨p.tape.push.push,p.on.push.push,?_,?_,A.t0⟩
  ·rcases YT.mp h with h | h
   ·obtain⟨j,u,rfl⟩:=YO.mp h;have u:=YU.mp u;refine⟨u,A1s _ (by omega),?_⟩;by_cases Q:j+1<n
    ·show j≠(j+1) % n;rw[Nat.mod_eq_of_lt Q];omega
    ·have:j+1=n:=by omega
     show j≠(j+1) % n;rw[this,Nat.mod_self];omega
   ·rw[YK.mp h];exact⟨by show 0<n;omega,by show r.toNat+1<n;omega,by show 0≠r.toNat+1;omega⟩
  ·rw[<-H];exact g9
  ·rw[Y5];have:=p.on.len;omega
def Xw(a:∀ f,MonoN (Δ f)){t l n:Nat}{o S:Sto}{D:EndsS}{g:SV}{p r s u:Option SV}{c:Prop}(d:c->n<=6)(A:Ah t o S l [])(v:n<=12)(q:PQ c t g 4 o D):
 wSt Δ (q6 kd) D [aA (.loc t),aA g,aA (.int 4),aA (.int n),aA (.loc l),p,r,s,u] S:=by
 have b:=q n [] l S p r s u (GF v) (λz=>⟨d z,by simp⟩) A;refine⟨_,rfl,_,rfl,ifT rfl ?_⟩;refine⟨_,rfl,_,rfl,ifD (λw=>?_) (λw=>b)⟩;have w:1<n:=by omega
 refine⟨_,rfl,1,n,rfl,rfl,⟨by decide,by decide,by omega,by omega⟩,?_⟩;refine m7 (n9 a _).2 (c8 a _).1 (λi k m=>m=S/\k=((YJ i).map λj=>(0,j+1)).map pairS) ⟨rfl,rfl⟩ (λ_ _ _ _=>trivial) ?_ ?_
 ·rintro i x k m B ⟨rfl,rfl⟩;obtain⟨rfl,C⟩:=u7 B;refine⟨_,rfl,by show 2<=big;decide,by simp;show i<100000;omega,rfl,?_⟩;rw[ZE,YN,YN];simp[pairS,Int.add_comm]
 ·rintro k m ⟨rfl,rfl⟩;rw[r6];refine q n _ _ _ _ _ _ _ ⟨λe h=>?_,by simp;omega,v⟩ (λz=>⟨d z,by have:=d z;simp;omega⟩) ⟨A.tape.push,A.on.push,g9,A.on.len,A.t0⟩;obtain⟨j,y,rfl⟩:=YO.mp h;have y:=YU.mp y;exact⟨by show 0<n;omega,by show j+1<n;omega,by show 0≠j+1;omega⟩
def Ah.ext{t l j:Nat}{a S:Sto}{es fs:EE}(h:Ah t a S l es)(b:S[j]?=aA (.lst (fs.map pairS))):Ah t a (S.set l (.lst (es.map pairS++fs.map pairS))) l (es++fs):=by
 rw[<-YN];exact h.put
def Xx(a:∀ f,MonoN (Δ f)){t l n:Nat}{b:Bool}{v S:Sto}{D:EndsS}{w y g B:Option SV}{c:Prop}(L:c->n<=6/\b=aD)(A:Ah t v S l [])(Q:n<=12)(q:PQ c t (.bl b) 5 v D):
 wSt Δ (q7 kd) D [aA (.loc t),aA (.bl b),aA (.int 5),aA (.int n),aA (.loc l),w,y,g,B] S:=by
 refine⟨_,rfl,_,rfl,ifT rfl ?_⟩
 obtain⟨m,M,R,C⟩:∃ m:Nat,(if (5+(if b=aC then (1:Int) else 0))<n then (5+(if b=aC then (1:Int) else 0)) else (n:Int))=m/\m<=6/\(b=aD->m<=5):=by
  cases b
  ·by_cases h:(5:Int)<n
   ·exact⟨5,by simp[h],by omega,by omega⟩
   ·exact⟨n,by simp[h],by omega,by omega⟩
  ·by_cases h:(6:Int)<n
   ·exact⟨6,by simp[h],by omega,nofun⟩
   ·exact⟨n,by simp[h],by omega,nofun⟩
 suffices E:∀ z:Int,z=m->wSs Δ [q7l kd] D [aA (.loc t),aA (.bl b),aA (.int 5),aA (.int z),aA (.loc l),w,y,g,B] S from ⟨_,rfl,_,rfl,E _ M⟩
 rintro _ rfl;refine⟨_,rfl,m,rfl,⟨by omega,by omega⟩,?_⟩
 refine y8 (m9 a _) (λi F k=>∃(d:EE) (g:Option SV),F=[aA (.loc t),aA (.bl b),aA (.int 5),aA (.int m),aA (.loc l),w,y,g,B]/\Ah t v k l d/\(∀ e∈d,e.1<e.2/\e.2<i)/\d.length * 2<=i * i)
  ⟨[],g,rfl,A,(λ_ h=>nomatch h),by simp⟩ (λ_ _ _ _=>trivial) ?_ ?_
 ·rintro i x F k G ⟨d,N,rfl,p,r,I⟩;obtain⟨rfl,T⟩:=u7 G;refine⟨_,rfl,⟨l,_,rfl,p.at'⟩,_,rfl,0+(i:Int),rfl,⟨by omega,by omega⟩,?_⟩;refine m7 (n9 a _).2 (c8 a _).1 (λj H s=>s=k/\H=((YJ j).map λj=>(j,i)).map pairS) ⟨rfl,rfl⟩ (λ_ _ _ _=>trivial) ?_ ?_
  ·rintro j x H s G ⟨rfl,rfl⟩;obtain⟨rfl,u⟩:=u7 G;refine⟨_,rfl,_,rfl,by show 2<=big;decide,by simp;show j<100000;omega,rfl,?_⟩;rw[ZE,YN,YN];simp[pairS]
  ·rintro H s ⟨rfl,rfl⟩;rw[r6];have O:(0+(i:Int) - 0).toNat=i:=by omega
   rw[O];have J:=p.push (o := .lst (((YJ i).map λj=>(j,i)).map pairS));have P:i * i<=6 * 6:=ZW (by omega) (by omega);have U:(i+1) * (i+1)=i * i+i+(i+1):=by rw[Zk,Nat.mul_succ]
   refine⟨_,_,J.at',g9,by simp;show _<=100000;omega,?_⟩;refine⟨d++(YJ i).map (λj=>(j,i)),_,rfl,J.ext (j:=s.length) g9,λe h=>?_,by simp;omega⟩;rcases YT.mp h with h | h
   ·have:=r e h;omega
   ·obtain⟨j,u,rfl⟩:=YO.mp h;have u:=YU.mp u;exact⟨u,by show i<i+1;omega⟩
 ·rintro F k ⟨d,N,rfl,p,r,I⟩;rw[r6,show((m:Int) - 0).toNat=m by omega]at r I;have P:m * m<=6 * 6:=ZW (by omega) (by omega);refine q m d l k _ _ _ _ ⟨λe h=>?_,by omega,by omega⟩ (λz=>?_) p
  rotate_left
  ·have K:=C (L z).2;have:m * m<=5 * 5:=ZW K K;omega
  have:=r e h;omega
def Xy(d:∀ f,MonoN (Δ f))(O:AO (Δ kd)){t l n:Nat}{u S:Sto}{D:EndsS}{g:SV}{E F k P:Option SV}{c:Prop}(M:c->n<=6)(A:Ah t u S l [])(Q:n<=12)(q:PQ c t g 6 u D):
 wSt Δ (q8 kd) D [aA (.loc t),aA g,aA (.int 6),aA (.int n),aA (.loc l),E,F,k,P] S:=by
 refine⟨_,rfl,_,rfl,ifT rfl ?_⟩;obtain⟨s,G,Y⟩:∃ s:Nat,1+(n:Int) / 2=s/\s=1+n / 2:=⟨1+n / 2,by omega,rfl⟩
 suffices H:∀ z:Int,z=s->wSs Δ [q8l kd] D [aA (.loc t),aA g,aA (.int 6),aA (.int n),aA (.loc l),E,F,k,aA (.int z)] S from ⟨_,rfl,⟨by decide,by decide⟩,H _ G⟩
 rintro _ rfl;refine⟨_,rfl,s,rfl,⟨by omega,by omega⟩,?_⟩
 refine y8 (m9 d _) (λi I v=>∃(b:EE) (k:Option SV),I=[aA (.loc t),aA g,aA (.int 6),aA (.int n),aA (.loc l),E,F,k,aA (.int s)]/\Ah t u v l b/\(∀ e∈b,e.1<i/\s<=e.2/\e.2<n)/\b.length<=i * (n - s))
  ⟨[],k,rfl,A,(λ_ h=>nomatch h),by simp⟩ (λ_ _ _ _=>trivial) ?_ ?_
 ·rintro i x I v J ⟨b,R,rfl,w,m,K⟩;obtain⟨rfl,Z⟩:=u7 J;refine⟨_,rfl,⟨l,_,rfl,w.at'⟩,_,rfl,_,rfl,s,n,rfl,rfl,⟨by omega,by omega,by omega,by omega⟩,?_⟩;refine m7 (n9 d _).2 (c8 d _).1 (λj L y=>Ah t u y l b/\∃ a:EE,L=a.map pairS/\(∀ e∈a,e.1=i/\s<=e.2/\e.2<n)/\a.length<=j) ⟨w,[],rfl,(λ_ h=>nomatch h),YF _⟩ (λ_ _ _ _=>trivial) ?_ ?_
  ·rintro j x L y J ⟨B,a,rfl,C,N⟩;obtain⟨rfl,hj⟩:=u7 J;refine⟨_,rfl,O B.tape (by decide) (by decide) λr S4 r0 r1 T U _=>⟨_,rfl,?_⟩⟩;have p:=B.draw T U;refine ifD (λ_=>?_) (λ_=>⟨p,a,rfl,C,by omega⟩);refine⟨_,rfl,_,rfl,by show 2<=big;decide,by rw[Y4];show _<100000;omega,p,a++[(i,s+j)],?_,λe h=>?_,by simp;omega⟩
   ·rw[YN];simp[pairS]
   ·rcases YT.mp h with h | h
    ·exact C e h
    ·rw[YK.mp h];exact⟨rfl,by show s<=s+j;omega,by show s+j<n;omega⟩
  ·rintro L y ⟨B,a,rfl,C,N⟩;rw[r6]at N;have p:=B.push (o := .lst (a.map pairS));have V:i * (n - s)<=6 * 12:=ZW (by omega) (by omega);refine⟨_,_,p.at',g9,by simp;show _<=100000;omega,?_⟩;refine⟨b++a,_,rfl,p.ext (j:=y.length) g9,λe h=>?_,?_⟩
   ·rcases YT.mp h with h | h
    ·have:=m e h;exact⟨by omega,this.2⟩
    ·have:=C e h;exact⟨by omega,this.2⟩
   ·rw[Y5,Zk];omega
 ·rintro I v ⟨b,R,rfl,w,m,K⟩;rw[r6]at m K;have W:((s:Int) - 0).toNat=s:=by omega
  rw[W]at m K;have X:s * (n - s)<=7 * 5:=ZW (by omega) (by omega);refine q n b l v _ _ _ _ ⟨λe h=>?_,by omega,Q⟩ (λz=>⟨M z,?_⟩) w
  rotate_left
  ·have:=M z;have:s * (n - s)<=4 * 2:=ZW (by omega) (by omega);omega
  have:=m e h;omega
def Xz(s:∀ f,MonoN (Δ f))(M:AO (Δ kd)){t l n:Nat}{u S:Sto}{D:EndsS}{g:SV}{v w d y:Option SV}{c:Prop}(N:c->n<=6)(A:Ah t u S l [])(W:n<=12)(q:PQ c t g 7 u D):
 wSt Δ (q9 kd) D [aA (.loc t),aA g,aA (.int 7),aA (.int n),aA (.loc l),v,w,d,y] S:=by
 refine⟨_,rfl,_,rfl,ifT rfl ?_⟩;obtain⟨m,O,X⟩:∃ m:Nat,3+(n:Int) / 3=m/\m=3+n / 3:=⟨3+n / 3,by omega,rfl⟩
 suffices B:∀ z:Int,z=m->wSs Δ [q9l kd] D [aA (.loc t),aA g,aA (.int 7),aA (.int z),aA (.loc l),v,w,d,y] S from ⟨_,rfl,⟨by decide,by decide⟩,B _ O⟩
 rintro _ rfl;refine⟨3,rfl,⟨by decide,by decide⟩,?_⟩
 refine y8 (m9 s _) (λi C p=>∃(a:EE) (d:Option SV),C=[aA (.loc t),aA g,aA (.int 7),aA (.int m),aA (.loc l),v,w,d,y]/\Ah t u p l a/\(∀ e∈a,e.1<3/\e.2<3/\e.1≠e.2)/\a.length<=i * 3)
  ⟨[],d,rfl,A,(λ_ h=>nomatch h),by simp⟩ (λ_ _ _ _=>trivial) ?_ ?_
 ·rintro i x C p P ⟨a,Q,rfl,b,E,G⟩;obtain⟨rfl,Y⟩:=u7 P;refine⟨_,rfl,⟨l,_,rfl,b.at'⟩,_,rfl,_,rfl,show(0:Int)<3 by decide,by show 2<=big;decide,by show 1<=big;decide,?_⟩;have H:=b.push (o := .lst [.tup [.int (0+(i:Int)),.int ((0+(i:Int)+1) % 3)]]);refine⟨_,rfl,M H.tape (by decide) (by decide) λr I Z r1 R J L4=>?_⟩;have T:=H.draw R J;have ht:=b.t0;have K:=b.on.len;have F:I[p.length]?=aA (.lst [.tup [.int (0+(i:Int)),.int ((0+(i:Int)+1) % 3)]]):=J.keep _ _ (by omega) g9;refine⟨_,F,⟨by omega,by omega⟩,by simp;show _<=100000;omega,?_⟩
  have U:(YR (1+r).toNat [SV.tup [.int (0+(i:Int)),.int ((0+(i:Int)+1) % 3)]]).flatten=(YR (1+r).toNat (i,(i+1) % 3)).map pairS:=by
   induction (1+r).toNat with
   | zero=>rfl
   | succ k V=>rw[Yv,ZA,V,Yv];simp[pairS]
  rw[U];have L:=T.push (o := .lst ((YR (1+r).toNat (i,(i+1) % 3)).map pairS));refine⟨_,_,L.at',g9,by simp;show _<=100000;omega,?_⟩;refine⟨a++YR (1+r).toNat (i,(i+1) % 3),_,rfl,L.ext (j:=I.length) g9,λe h=>?_,by simp;omega⟩;rcases YT.mp h with h | h
  ·exact E e h
  ·rw[List.eq_of_mem_replicate h];exact⟨by show i<3;omega,by show(i+1) % 3<3;omega,by show i≠(i+1) % 3;omega⟩
 ·rintro C p ⟨a,Q,rfl,b,E,G⟩;rw[r6]at G;refine q m a l p _ _ _ _ ⟨λe h=>?_,by omega,by omega⟩ (λz=>by have:=N z;omega) b;have:=E e h;omega
def XL{t l:Nat}{a n:Int}{S:Sto}{D:EndsS}{g:SV}{b c d e:Option SV}(h:¬ a<3)(q:D.nx [aA (.loc t),aA g,aA (.int a),aA (.int n),aA (.loc l),b,c,d,e] S):wSt Δ (q4 kd) D [aA (.loc t),aA g,aA (.int a),aA (.int n),aA (.loc l),b,c,d,e] S:=⟨_,rfl,_,rfl,ifD (λz=>absurd z h) (λ_=>ifF rfl q)⟩
def Hq{t l:Nat}{a n:Int}{S:Sto}{D:EndsS}{g:SV}{b c d e:Option SV}(h:¬ a=3)(q:D.nx [aA (.loc t),aA g,aA (.int a),aA (.int n),aA (.loc l),b,c,d,e] S):wSt Δ (q5 kd) D [aA (.loc t),aA g,aA (.int a),aA (.int n),aA (.loc l),b,c,d,e] S:=⟨_,rfl,_,rfl,ifD (λz=>absurd z h) (λ_=>ifF rfl q)⟩
def Hr{t l:Nat}{a n:Int}{S:Sto}{D:EndsS}{g:SV}{b c d e:Option SV}(h:¬ a=4)(q:D.nx [aA (.loc t),aA g,aA (.int a),aA (.int n),aA (.loc l),b,c,d,e] S):wSt Δ (q6 kd) D [aA (.loc t),aA g,aA (.int a),aA (.int n),aA (.loc l),b,c,d,e] S:=⟨_,rfl,_,rfl,ifD (λz=>absurd z h) (λ_=>ifF rfl q)⟩
def Hs{t l:Nat}{a n:Int}{S:Sto}{D:EndsS}{g:SV}{b c d e:Option SV}(h:¬ a=5)(q:D.nx [aA (.loc t),aA g,aA (.int a),aA (.int n),aA (.loc l),b,c,d,e] S):wSt Δ (q7 kd) D [aA (.loc t),aA g,aA (.int a),aA (.int n),aA (.loc l),b,c,d,e] S:=⟨_,rfl,_,rfl,ifD (λz=>absurd z h) (λ_=>q)⟩
def Ht{t l:Nat}{a n:Int}{S:Sto}{D:EndsS}{g:SV}{b c d e:Option SV}(h:¬ a=6)(q:D.nx [aA (.loc t),aA g,aA (.int a),aA (.int n),aA (.loc l),b,c,d,e] S):wSt Δ (q8 kd) D [aA (.loc t),aA g,aA (.int a),aA (.int n),aA (.loc l),b,c,d,e] S:=⟨_,rfl,_,rfl,ifD (λz=>absurd z h) (λ_=>q)⟩
def Hu{t l:Nat}{a n:Int}{S:Sto}{D:EndsS}{g:SV}{b c d e:Option SV}(h:¬ a=7)(q:D.nx [aA (.loc t),aA g,aA (.int a),aA (.int n),aA (.loc l),b,c,d,e] S):wSt Δ (q9 kd) D [aA (.loc t),aA g,aA (.int a),aA (.int n),aA (.loc l),b,c,d,e] S:=⟨_,rfl,_,rfl,ifD (λz=>absurd z h) (λ_=>q)⟩
def Rk(c:∀ f,MonoN (Δ f))(p:AO (Δ kd)){t l n:Nat}{b:Bool}{w:Int}{r S:Sto}{Q:QE}(s:0<=w)(u:w<8)(o:b=aD->n<=6)(A:Ah t r S l [])(j:n<=12)
 (q:∀(n:Nat) (es:EE) (l:Nat) (a:Sto),Prs n es->(b=aD->n<=6/\es.length<=12)->Ah t r a l es->Q (.tup [.int n,.loc l]) a):
 wSs Δ [q4 kd,q5 kd,q6 kd,q7 kd,q8 kd,q9 kd,q10 kd] (u8 Q) [aA (.loc t),aA (.bl b),aA (.int w),aA (.int n),aA (.loc l),aB,aB,aB,aB] S:=by
 have d:∀(n:Nat) (es:EE) (l:Nat) (a:Sto) (g i k m:Option SV),Prs n es->(b=aD->n<=6/\es.length<=12)->Ah t r a l es->wSs Δ [q10 kd] (u8 Q) [aA (.loc t),aA (.bl b),aA (.int w),aA (.int n),aA (.loc l),g,i,k,m] a:=λn es l a g i k m P C e=>⟨_,rfl,_,rfl,by show 2<=big;decide,q n es l a P C e⟩
 have nil:=GF j;by_cases h:w<3
 ·exact Xu c p o A j λes a g i P C e=>Hq (by omega) (Hr (kd:=kd) (by omega) (Hs (kd:=kd) (by omega) (Ht (by omega) (Hu (by omega) (d n es l a _ _ _ _ P C e)))))
 refine XL h ?_;have:w=3\/w=4\/w=5\/w=6\/w=7:=by omega
 rcases this with rfl | rfl | rfl | rfl | rfl
 ·exact Xv c p o A j λn es l a g i k m P C e=>Hr (kd:=kd) (by omega) (Hs (kd:=kd) (by omega) (Ht (by omega) (Hu (by omega) (d n es l a _ _ _ _ P C e))))
 ·exact Hq (by omega) (Xw (kd:=kd) c o A j λn es l a g i k m P C e=>Hs (kd:=kd) (by omega) (Ht (by omega) (Hu (by omega) (d n es l a _ _ _ _ P C e))))
 ·exact Hq (by omega) (Hr (kd:=kd) (by omega) (Xx (kd:=kd) c (λz=>⟨o z,z⟩) A j λn es l a g i k m P C e=>Ht (by omega) (Hu (by omega) (d n es l a _ _ _ _ P C e))))
 ·exact Hq (by omega) (Hr (kd:=kd) (by omega) (Hs (kd:=kd) (by omega) (Xy c p o A j λn es l a g i k m P C e=>Hu (by omega) (d n es l a _ _ _ _ P C e))))
 ·exact Hq (by omega) (Hr (kd:=kd) (by omega) (Hs (kd:=kd) (by omega) (Ht (by omega) (Xz c p o A j λn es l a g i k m P C e=>d n es l a _ _ _ _ P C e))))
def MR(h:∀ f,MonoN (Δ f))(e:AO (Δ kd)){D:Df}(j:D.body=JJ kd)(k:D.N.length=9)(m:D.ps.length=2):PairsKSp (!·) (i5 Δ D):=by
 intro t g S Q T q;unfold i5;rw[j,k];refine⟨m.symm,?_⟩;have p:=T.lt;refine⟨_,rfl,e T (by decide) (by decide) λw K s u v x _=>?_⟩;refine⟨_,rfl,e v (by decide) (by decide) λa L M R y B _=>⟨_,rfl,e y (by decide) (by decide) λc i U V E F _=>⟨by show 2<=big;decide,_,rfl,_,(if g=aC then .int (7+c) else .int a),f9 g9,?_⟩⟩⟩;have O:=((x.trans B).trans F).push (o := .lst [.int a,.int (7+c)])
 have d:∀(z:Int) (n:Nat),z=n->n<=12->(g=aD->n<=6)->wSs Δ [q3 kd,q4 kd,q5 kd,q6 kd,q7 kd,q8 kd,q9 kd,q10 kd] (u8 Q) [aA (.loc t),aA (.bl g),aA (.int w),aA (.int z),aB,aB,aB,aB,aB] (i++[SO.lst [.int a,.int (7+c)]]):=by
  rintro _ n rfl G H;refine⟨by show 0<=big;decide,?_⟩;have A:Ah t S ((i++[SO.lst [.int a,.int (7+c)]])++[SO.lst []]) (i++[SO.lst [.int a,.int (7+c)]]).length []:=⟨E.push.push,O.push,g9,O.len,p⟩
  have r:=Rk (b:=g) h e s u H A G (Q:=Q) λn I l J P C A=>q n I l J P (λz=>C (by simpa using z)) A.at' A.new A.tape A.on;exact r
 cases g with
 | false=>exact⟨rfl,d a a.toNat (by omega) (by omega) (λ_=>by omega)⟩
 | true=>exact⟨rfl,d (7+c) (7+c).toNat (by omega) (by omega) nofun⟩
def P6(a:∀ f,MonoN (Δ f))(b:AO (Δ kd)){D:Df}(d:D.body=JJ kd)(e:D.N.length=9)(g:D.ps.length=2):PairsSp (i5 Δ D):=PairsKSp.sp (c:=(!·)) (MR a b d e g)
end
noncomputable def u1(kd kp:Nat):Stm:=(.asg (.tup (.cons (.nm 2) (.cons (.nm 3) .nil))) (.call kp (vB vJ vK)))
noncomputable def u2(kd kp:Nat):Stm:=(.iff (.cmp .Eq vL kG) [.asg (.tup (.cons (.nm 2) (.cons (.nm 3) .nil))) (.call kp (vB vJ vK))] [])
noncomputable def u3(kd kp:Nat):Stm:=(.iff (.and (.cmp .NotEq vL kG) (.cmp .Eq (.call kd (vB vJ (.c (.int 4)))) vQ)) [.asg (.nm 3) (.op .Add vL (.comp ["_law_turn"] ["_law_pairs","_law_tape_here"] [3,0] (.nm 0) (.rng1 (.op .Add vN (.call kd (vB vJ vV)))) .no (.ix vK (.call kd (vB vM (.bi .len (vA vK)))))))] [])
def u4(kd kp:Nat):Stm:=(.asg (.nm 4) kG)
noncomputable def u5(kd kp:Nat):Stm:=(.loop (.tup (.cons (.nm 5) (.cons (.nm 6) .nil))) (.seq vL) [.expr (.mt .insert vO (vB (.call kd (vB vJ (.op .Add (.bi .len (vA vO)) vN))) (.tup (vB (.bi .min (vB vR vS)) (.bi .max (vB vR vS))))))])
noncomputable def u6(kd kp:Nat):Stm:=(.ret (.tup (vB vM (.bi .tuple (vA vO)))))
noncomputable def VO(kd kp:Nat):List Stm:=[u1 kd kp,u2 kd kp,u3 kd kp,u4 kd kp,u5 kd kp,u6 kd kp]
noncomputable def webS(n:Nat)(es:EE):SV := .tup [.int n,.tup (es.map pairS)]
structure Web(n:Nat)(es:EE):Prop where
 en:∀ e∈es,e.1<e.2/\e.2<n
 len:es.length<=39
 few:n<=12
def P7(s:Sn):Prop:=∀{t:Nat} {g:Bool} {S:Sto} {Q:QE},TapeS S t->(∀(n:Nat) (es:EE) (a:Sto),Web n es->TapeS a t->On t S a->Q (webS n es) a)->s [.loc t,.bl g] S Q
def WebKSp(c:Bool->Bool)(s:Sn):Prop:=∀{t:Nat} {g:Bool} {S:Sto} {Q:QE},TapeS S t->(∀(n:Nat) (es:EE) (a:Sto),Web n es->(c g=aC->n<=6/\es.length<=15)->TapeS a t->On t S a->Q (webS n es) a)->s [.loc t,.bl g] S Q
def WebKSp.sp{c:Bool->Bool}{s:Sn}(h:WebKSp c s):P7 s:=λT q=>h T λn a b W _ t o=>q n a b W t o
def Hw{xs:List SV}:En xs []=xs.isEmpty:=by cases xs<;>rfl
section
variable{Δ:Nat->Sn}{kd kp:Nat}
def EN(z:∀ f,MonoN (Δ f))(L:AO (Δ kd)){t n l:Nat}{g:SV}{u S:Sto}{es:EE}{Q:QE}{M k m:Option SV}(N:∀ e∈es,e.1<n/\e.2<n/\e.1≠e.2)(hl:es.length<=39)(O:n<=12)(A:Ah t u S l es)
 (q:∀(fs:EE) (B:Sto),Web n fs->fs.length<=es.length->TapeS B t->On t u B->Q (webS n fs) B):wSs Δ [u4 kd kp,u5 kd kp,u6 kd kp] (u8 Q) [aA (.loc t),aA g,aA (.int n),aA (.loc l),M,k,m] S:=by
 refine⟨by show 0<=big;decide,?_⟩;have P:=Ka A.at';have R:=A.tape.lt;refine⟨_,rfl,_,f9 A.push.at',?_⟩
 refine y8 (m9 z _) (λi v o=>∃(fs:EE) (k m:Option SV),v=[aA (.loc t),aA g,aA (.int n),aA (.loc l),aA (.loc S.length),k,m]/\Ah t u o S.length fs/\o[l]?=aA (.lst (es.map pairS))/\(∀ e∈fs,e.1<e.2/\e.2<n)/\fs.length=i)
  ⟨[],k,m,rfl,⟨A.tape.push,A.on.push,g9,A.on.len,A.t0⟩,A.push.at',(λ_ h=>nomatch h),rfl⟩ (λi v o h=>?_) ?_ ?_
 ·obtain⟨fs,_,_,_,_,w,_⟩:=h;exact w.trans A.push.at'.symm
 ·rintro i x v o d ⟨fs,T,U,rfl,c,w,y,G⟩;rw[YA]at d;cases hei:es[i]? with
  | none=>rw[hei]at d;cases d
  | some e=>
    rw[hei]at d;have d:pairS e=x:=oj d;subst d;have V:=(gM hei).1;have p:=N e (Y7 hei);refine⟨_,rfl,⟨_,_,rfl,c.at'⟩,_,rfl,_,rfl,_,f9 c.at',L c.tape (by omega) (by rw[Y4];omega) λr H W X Y I _=>?_⟩;have J:=c.draw Y I;rw[Y4]at X;refine⟨_,rfl,_,rfl,_,rfl,_,rfl,by show 2<=big;decide,?_⟩;refine⟨_,J.at',⟨W,by rw[Y4];omega⟩,by rw[Y4];show _<100000;omega,?_⟩
    have s:∀(a b:Nat) (C D:Int),C=a->D=b->a<b->b<n->∃(j:EE) (k m:Option SV),([aA (.loc t),aA g,aA (.int n),aA (.loc l),aA (.loc S.length),aA (.int e.1),aA (.int e.2)]:EnvS)=[aA (.loc t),aA g,aA (.int n),aA (.loc l),aA (.loc S.length),k,m]/\Ah t u (H.set S.length (.lst ((fs.map pairS).take r.toNat ++ .tup [.int C,.int D]::(fs.map pairS).drop r.toNat))) S.length j/\(H.set S.length (.lst ((fs.map pairS).take r.toNat ++ .tup [.int C,.int D]::(fs.map pairS).drop r.toNat)))[l]?=aA (.lst (es.map pairS))/\(∀ e∈j,e.1<e.2/\e.2<n)/\j.length=i+1:=by
     rintro a b _ _ rfl rfl E F
     have Z:(fs.map pairS).take r.toNat++SV.tup [.int a,.int b]::(fs.map pairS).drop r.toNat=(fs.take r.toNat++(a,b)::fs.drop r.toNat).map pairS:=by
      rw[YN,Yf,List.map_take,List.map_drop];rfl
     rw[Z];refine⟨_,_,_,rfl,J.put,?_,λK h=>?_,?_⟩
     ·rw[AC (by omega)];exact I.keep _ _ A.ne w
     ·rcases YT.mp h with h | h
      ·exact y K (List.mem_of_mem_take h)
      ·rcases YH.mp h with h | h
       ·rw[h];exact⟨E,F⟩
       ·exact y K (List.mem_of_mem_drop h)
     ·rw[Y5,Ya,Z7,A0t];omega
    by_cases hc:e.1<e.2
    ·exact s e.1 e.2 _ _ (by rw[iG (by omega)]) (by rw[iP (by omega)]) hc p.2.1
    ·exact s e.2 e.1 _ _ (by rw[iP (by omega)]) (by rw[iG (by omega)]) (by omega) p.1
 ·rintro v o ⟨fs,T,U,rfl,c,w,y,G⟩;rw[Y4]at G;exact⟨_,rfl,_,rfl,_,f9 c.at',by show 2<=big;decide,q fs o ⟨y,by omega,O⟩ (by omega) c.tape c.on⟩
def Hy(a:∀ f,MonoN (Δ f))(d:AO (Δ kd)){t n l:Nat}{g:SV}{s S:Sto}{es:EE}{Q:QE}{G H I:Option SV}(P:Prs n es)(A:Ah t s S l es)
 (q:∀(fs:EE) (b:Sto),Web n fs->fs.length<=es.length+3->TapeS b t->On t s b->Q (webS n fs) b):wSs Δ [u3 kd kp,u4 kd kp,u5 kd kp,u6 kd kp] (u8 Q) [aA (.loc t),aA g,aA (.int n),aA (.loc l),G,H,I] S:=by
 refine⟨_,rfl,by show 0<=big;decide,?_⟩;have p:=A.push (o:=SO.lst []);refine⟨_,_,p.at',g9,.inr (.inr rfl),_,rfl,?_⟩;rw[Hw];refine ifB (λD=>?_) (λD=>ifF rfl (EN a d P.en (by have:=P.len;omega) P.few p λfs b W L=>q fs b W (by omega)))
 have E:0<es.length:=by
  cases es with
  | nil=>cases D
  | cons _ _=>simp
 refine⟨_,rfl,d p.tape (by decide) (by decide) λr Z r0 r1 J K _=>⟨_,rfl,?_⟩⟩;have u:=p.draw J K;refine ifD (λ_=>?_) (λ_=>EN a d P.en (by have:=P.len;omega) P.few u λfs b W L=>q fs b W (by omega));refine⟨_,rfl,_,rfl,d u.tape (by decide) (by decide) λr3 S3 a0 a1 M N _=>⟨_,rfl,⟨by omega,by omega⟩,?_⟩⟩;have O:=u.draw M N;refine m7 (n9 a _).2 (c8 a _).1 (λi w y=>Ah t s y l es/\∃ fs:EE,w=fs.map pairS/\(∀ e∈fs,e∈es)/\fs.length=i) ⟨O,[],rfl,(λ_ h=>nomatch h),rfl⟩ (λ_ _ _ _=>trivial) ?_ ?_
 ·rintro i x w y R ⟨k,fs,rfl,z,B⟩;obtain⟨rfl,hi⟩:=u7 R;refine⟨_,rfl,_,rfl,_,rfl,_,f9 k.at',d k.tape (by rw[Y4];omega) (by rw[Y4];have:=P.len;omega) λm S5 T U V X _=>?_⟩;have c:=k.draw V X;rw[Y4]at U;have F:m.toNat<es.length:=by omega
  refine⟨_,pairS es[m.toNat],f9 c.at',?_,by rw[Y4];show _<100000;omega,c,fs++[es[m.toNat]],?_,λe h=>?_,by simp[B]⟩
  ·have:=k8 (xs:=es.map pairS) (j:=m.toNat) (v:=pairS es[m.toNat]) (by rw[YA,Y6 F];rfl)
   rwa [Zu T]at this
  ·rw[YN];rfl
  ·rcases YT.mp h with h | h
   ·exact z e h
   ·rw[YK.mp h];exact Z8 F
 ·rintro w y ⟨k,fs,rfl,z,B⟩;rw[r6]at B;have c:=k.push (o := .lst (fs.map pairS));have Y:=P.len;refine⟨_,_,c.at',g9,by simp;show _<=100000;omega,?_⟩;rw[<-YN];refine EN a d (es:=es++fs) (λe h=>?_) (by rw[Y5];omega) P.few ⟨c.tape.push,c.on.push,g9,?_,A.t0⟩ λC b W L=>q C b W (by rw[Y5]at L;omega)
  ·rcases YT.mp h with h | h
   ·exact P.en e h
   ·exact P.en e (z e h)
  ·have:=c.on.len;exact this
def Rm{c:Bool->Bool}(a:∀ f,MonoN (Δ f))(k:AO (Δ kd))(m:PairsKSp c (Δ kp)){D:Df}(s:D.body=VO kd kp)(u:D.N.length=7)(d:D.ps.length=2):WebKSp c (i5 Δ D):=by
 intro t g S Q T q;unfold i5;rw[s,u];refine⟨d.symm,?_⟩;have p:=T.lt;refine⟨_,rfl,_,rfl,m T λn r l v P C w x y A=>?_⟩;have B:Ah t S v l r:=⟨y,A,w,x,p⟩
 refine⟨_,rfl,by show 0<=big;decide,?_⟩;have b:=B.push (o:=SO.lst []);refine⟨_,_,b.at',g9,.inr (.inr rfl),_,rfl,?_⟩;rw[Hw];refine ifB (λ_=>?_) (λ_=>Hy a k P b λe h W L i j=>q n e h W (λz=>by have:=C z;omega) i j);refine⟨_,rfl,_,rfl,m b.tape λn r l J E C F G H I=>?_⟩;exact Hy a k E ⟨H,b.on.trans I,F,by have:=b.on.len;omega,p⟩ λe h W L i j=>q n e h W (λz=>by have:=C z;omega) i j
def VP(a:∀ f,MonoN (Δ f))(d:AO (Δ kd))(e:PairsSp (Δ kp)){D:Df}(g:D.body=VO kd kp)(h:D.N.length=7)(b:D.ps.length=2):P7 (i5 Δ D):=WebKSp.sp (c:=λ_=>aD) (Rm a d e.k g h b)
end
noncomputable def JK:List Stm:=[.ret (.and (.bi .isi (vB vJ (.tyc .int))) (.not (.bi .isi (vB vJ (.tyc .bool)))))]
noncomputable def FP(k:Nat):List Stm:=[.ret (.and (.call k (vA vK)) (.chn .LtE .Lt vQ vK (.ix vJ vQ)))]
noncomputable def GG(k:Nat):List Stm:=[.ret (.and (.call k (vA vK)) (.chn .LtE .Lt vQ vK kQ))]
noncomputable def P8(k:Nat):List Stm:=[.iff (.not (.call k (vB vJ vK))) [.no] []]
noncomputable def Kb(k:Nat):List Stm:=[.expr (.call k (vB vJ vK)),.ret (.comp ["tie","ends"] ["place"] [1] (.tup (.cons (.nm 0) (.cons (.nm 1) .nil))) (.enum kE) (.yes (.cmp .In vM vK)) vJ)]
noncomputable def Kc(k:Nat):List Stm:=[.expr (.call k (vB vJ vK)),.asg (.tup (.cons (.nm 3) (.cons (.nm 4) .nil))) (.ix kE vK),.iff (.cmp .Eq vM vL) [.ret vO] [],.iff (.cmp .Eq vM vO) [.ret vL] [],.no]
def Ch(s:Sn):Prop:=∀{i:Int} {S:Sto} {Q:QE},Q (.bl aC) S->s [.int i] S Q
def CP(s:Sn):Prop:=∀{n p:Nat} {es:EE} {S:Sto} {Q:QE},p<n->Q (.bl aC) S->s [webS n es,.int p] S Q
def BO(s:Sn):Prop:=∀{n j:Nat} {es:EE} {S:Sto} {Q:QE},j<es.length->Q (.bl aC) S->s [webS n es,.int j] S Q
def Ag(s:Sn):Prop:=∀{n p:Nat} {es:EE} {S:Sto} {Q:QE},p<n->Q .non S->s [webS n es,.int p] S Q
def CQ(s:Sn):Prop:=∀{n j:Nat} {es:EE} {S:Sto} {Q:QE},j<es.length->Q .non S->s [webS n es,.int j] S Q
def j8(es:EE)(p:Nat)(i:Nat):List Nat:=(YJ i).filter λj=>match es[j]? with | some e=>decide (e.1=p)||decide (e.2=p) | none=>aD
def j9(xs:List Nat):List SV:=xs.map λ(i:Nat)=>SV.int i
def Bn(s:Sn):Prop:=∀{n p:Nat} {es:EE} {S:Sto} {Q:QE},es.length<=5000->p<n->Q (.loc S.length) (S++[.lst (j9 (j8 es p es.length))])->s [webS n es,.int p] S Q
def Ab(e:Nat×Nat)(p:Nat):Nat:=if p=e.1 then e.2 else e.1
def As(s:Sn):Prop:=∀{n p j:Nat} {es:EE} {e:Nat×Nat} {S:Sto} {Q:QE},es[j]?=aA e->(p=e.1\/p=e.2)->Q (.int (Ab e p)) S->s [webS n es,.int j,.int p] S Q
section
variable{Δ:Nat->Sn}
def P9{D:Df}(a:D.body=JK)(b:D.N.length=1)(c:D.ps.length=1):Ch (i5 Δ D):=by
 intro i S Q q;unfold i5;rw[a,b];exact⟨c.symm,_,rfl,_,nofun,rfl,_,rfl,ifT rfl ⟨_,rfl,_,nofun,rfl,_,rfl,q⟩⟩
def Hz{k:Nat}(a:Ch (Δ k)){D:Df}(b:D.body=FP k)(c:D.N.length=2)(d:D.ps.length=2):CP (i5 Δ D):=by
 intro n p e S Q h q;unfold i5;rw[b,c];refine⟨d.symm,_,rfl,a ⟨_,rfl,ifT rfl ⟨_,rfl,_,rfl,ifT (decide_eq_true (A0g p)) ⟨_,rfl,_,_,rfl,rfl,?_⟩⟩⟩⟩;show Q (.bl (decide ((p:Int)<n))) S;rw[decide_eq_true (by omega)];exact q
def MS{k:Nat}(a:Ch (Δ k)){D:Df}(b:D.body=GG k)(c:D.N.length=2)(d:D.ps.length=2):BO (i5 Δ D):=by
 intro n p e S Q h q;unfold i5;rw[b,c];refine⟨d.symm,_,rfl,a ⟨_,rfl,ifT rfl ⟨_,rfl,_,rfl,ifT (decide_eq_true (A0g p)) ⟨_,rfl,_,_,rfl,rfl,_,rfl,?_⟩⟩⟩⟩;show Q (.bl (decide ((p:Int)<(e.map pairS).length))) S;rw[decide_eq_true (by rw[Y4];omega)];exact q
def Es{k:Nat}(a:CP (Δ k)){D:Df}(b:D.body=P8 k)(c:D.N.length=2)(d:D.ps.length=2):Ag (i5 Δ D):=by
 intro n p e S Q h q;unfold i5;rw[b,c];exact⟨d.symm,_,rfl,_,rfl,a h ⟨_,rfl,ifF rfl q⟩⟩
def EO{xs:List SV}{i:Nat}{x:SV}(h:(Be xs)[i]?=aA x):∃ y,xs[i]?=aA y/\x = .tup [.int i,y]:=by
 unfold Be at h;rw[A0K]at h;cases hy:xs[i]? with
 | none=>rw[hy]at h;revert h;cases(YJ xs.length)[i]?<;>exact nofun
 | some y=>
   have a:=(gM hy).1;rw[hy,Yx a]at h;exact⟨y,rfl,(oj h).symm⟩
def Ci{xs:List SV}:(Be xs).length=xs.length:=by unfold Be;simp
def At{es:EE}{i:Nat}{x:SV}(h:(es.map pairS)[i]?=aA x):∃ e,es[i]?=aA e/\x=pairS e:=by
 rw[YA]at h;cases he:es[i]? with
 | none=>rw[he]at h;cases h
 | some e=>rw[he]at h;exact⟨e,rfl,(oj h).symm⟩
def C2(p:Nat)(e:Nat×Nat):inS (.int p) [.int e.1,.int e.2]=(decide (e.1=p)||decide (e.2=p)):=by
 have k:∀ a:Nat,((a:Int) == (p:Int))=decide (a=p):=λa=>by
  rw[Yp];simp[Yn]
 show(((e.1:Int) == (p:Int))||(((e.2:Int) == (p:Int))||false))=_;rw[A0W,k,k]
def Bo(es:EE)(p i:Nat){e:Nat×Nat}(h:es[i]?=aA e):j8 es p (i+1)=j8 es p i++if (decide (e.1=p)||decide (e.2=p))=aC then [i] else []:=by
 unfold j8;rw[ZE,Zp]
 congr 1
 rw[ZK,h];rfl
def EQ(es:EE)(p i:Nat):(j8 es p i).length<=i:=by
 have:=ZY (λj=>match es[j]? with | some e=>decide (e.1=p)||decide (e.2=p) | none=>aD) (YJ i);rw[Yl]at this;exact this
def mem_tiesAt{es:EE}{p j:Nat}:j∈j8 es p es.length↔∃ e,es[j]?=aA e/\(e.1=p\/e.2=p):=by
 unfold j8;rw[Z1,YU];constructor
 ·rintro⟨h,a⟩;rw[Y6 h]at a;exact⟨_,Y6 h,by simpa using a⟩
 ·rintro⟨e,h,a⟩;refine⟨(gM h).1,?_⟩;rw[h];simpa using a
def MU{k:Nat}(a:∀ f,MonoN (Δ f))(j:Ag (Δ k)){D:Df}(l:D.body=Kb k)(m:D.N.length=2)(o:D.ps.length=2):Bn (i5 Δ D):=by
 intro n p b S Q t h q;unfold i5;rw[l,m];refine⟨o.symm,_,rfl,_,rfl,j h ⟨_,rfl,_,_,rfl,rfl,_,rfl,?_⟩⟩;refine m7 (n9 a _).2 (c8 a _).1 (λi c d=>d=S/\c=j9 (j8 b p i)) ⟨rfl,rfl⟩ (λ_ _ _ _=>trivial) ?_ ?_
 ·rintro i x c d r ⟨rfl,rfl⟩;obtain⟨y,s,rfl⟩:=EO r;obtain⟨e,g,rfl⟩:=At s;have u:=(gM g).1;have v:=EQ b p i;refine⟨_,rfl,_,rfl,rfl,_,rfl,rfl,_,rfl,?_⟩;show if inS (.int p) [.int e.1,.int e.2]=aC then _ else _
  rw[C2];refine ifB (λh=>?_) (λh=>?_)
  ·refine⟨_,rfl,by show(j9 _).length<100000;unfold j9;rw[Y4];omega,rfl,?_⟩;rw[Bo b p i g,iP h];unfold j9;rw[YN];rfl
  ·refine⟨rfl,?_⟩;rw[Bo b p i g,iG (by rw[h];decide),Z2]
 ·rintro c d ⟨rfl,rfl⟩;rw[Ci,Y4];exact q
def MV{k:Nat}(d:CQ (Δ k)){D:Df}(f:D.body=Kc k)(g:D.N.length=5)(i:D.ps.length=3):As (i5 Δ D):=by
 intro n p j l e S Q b h q;unfold i5;rw[f,g];refine⟨i.symm,_,rfl,_,rfl,d (gM b).1 ⟨_,rfl,_,_,rfl,rfl,_,rfl,_,pairS e,rfl,k8 (by rw[YA,b];rfl),?_⟩⟩;refine⟨_,rfl,_,rfl,_,rfl,?_⟩;refine ifD (λa=>⟨_,rfl,?_⟩) (λa=>⟨_,rfl,_,rfl,_,rfl,ifD (λc=>⟨_,rfl,?_⟩) (λc=>?_)⟩)
 ·have a:p=e.1:=Yn.mp a;unfold Ab at q;rw[iP a]at q;exact q
 ·have a:¬ p=e.1:=λz=>a (congrArg _ z);unfold Ab at q;rw[iG a]at q;exact q
 ·rcases h with h | h
  ·exact absurd (congrArg Nat.cast h) a
  ·exact absurd (congrArg Nat.cast h) c
end
def p0{xs:List Nat}:(j9 xs).length=xs.length:=by unfold j9;rw[Y4]
def PB{xs:List Nat}{i x:Nat}(h:xs[i]?=aA x):(j9 xs)[i]?=aA (.int x):=by unfold j9;rw[YA,h];rfl
def Au{xs a:List Nat}:j9 (xs++a)=j9 xs++j9 a:=by unfold j9;rw[YN]
structure Gw(S S':Sto):Prop where
 len:S.length<=S'.length
 keep:∀(k:Nat) (o:SO),S[k]?=aA o->S'[k]?=aA o
def Gw.refl(S:Sto):Gw S S:=⟨YF _,λ_ _ h=>h⟩
def Gw.push{S a:Sto}{o:SO}(h:Gw S a):Gw S (a++[o]):=⟨by rw[Y5];have:=h.len;omega,λk u z=>m4 (h.keep k u z)⟩
def Gw.put{S a:Sto}{o:SO}{k:Nat}(h:Gw S a)(b:S.length<=k):Gw S (a.set k o):=⟨by rw[YZ];exact h.len,λj u z=>by
 rw[AC (λe=>by have:=Ka z;omega)];exact h.keep j u z⟩
def Gw.trans{S d c:Sto}(a:Gw S d)(b:Gw d c):Gw S c:=⟨Yg a.len b.len,λk o h=>b.keep k o (a.keep k o h)⟩
def DB(xs:List Nat):(j9 xs).all AI=aC:=by
 unfold j9;rw[A0C,YX];exact λ_ _=>rfl
end Rf
namespace L2
open PySem PySem.Spec PyProof.Rows
structure Sz(k b:Nat)(d:PyData):Prop where
 dp:d.depth<=k
 bk:d.bulk<=b
 sh:d.showable=aC
 lf:d.leavesShort 100=aC
end L2
namespace Rf
open PySem L2
def Av(es:EE)(t:Nat):Nat×Nat:=es.getD t (0,0)
def Cj{es:EE}{t:Nat}(h:t<es.length):es[t]?=aA (Av es t):=by
 unfold Av;rw[Y9,Y6 h];rfl
section
variable{Δ:Nat->Sn}
def j6{D:EndsS}{a:EnvS}{S:Sto}(h:D.nx a S):wSs Δ [] D a S:=h
end
end Rf
namespace Hue
theorem len_split{α:Type}(p q:α->Bool):∀ l:List α,(l.filter p).length=(l.filter λa=>p a&&q a).length+(l.filter λa=>p a&&!q a).length
 | []=>rfl
 | a::l=>by
   have b:=len_split p q l;rw[ZK,ZK,ZK];cases p a<;>cases q a<;>simp<;>omega
end Hue
namespace Rf
open PySem L2
def C3{xs:List Nat}{i:Nat}{x:SV}(h:(j9 xs)[i]?=aA x):∃ j,xs[i]?=aA j/\x = .int j:=by
 unfold j9 at h;rw[YA]at h;cases hx:xs[i]? with
 | none=>rw[hx]at h;cases h
 | some j=>rw[hx]at h;exact⟨j,rfl,(oj h).symm⟩
def JL(p:Nat)(xs:List Nat):inS (.int p) (j9 xs)=decide (p∈xs):=by
 rw[Yp,dQ];unfold inS j9;rw[A01,Z9];constructor
 ·rintro⟨a,b,h⟩;have h:((a:Int) == (p:Int))=aC:=h;rw[bQ]at h;have:=Yn.mp h;rw[<-this];exact b
 ·intro h;exact⟨p,h,by show((p:Int) == (p:Int))=aC;simp⟩
end Rf
namespace Hue
end Hue
namespace Rf
open PySem L2
def I0(P:Nat->Bool)(i:Nat):(YJ (i+1)).filter P=(YJ i).filter P++if P i=aC then [i] else []:=by
 rw[ZE,Zp,ZK];cases P i<;>rfl
def C4(P:Nat->Bool)(i:Nat):((YJ i).filter P).length<=i:=by
 have:=ZY P (YJ i)
 rwa [Yl]at this
def Ke{α:Type}{xs:List α}{a b:α}{j:Nat}(h:(xs++[a])[j]?=aA b):(j=xs.length/\b=a)\/xs[j]?=aA b:=by
 rcases A0b j xs.length with z | z
 ·rw[YM z]at h;exact .inr h
 ·have e:j=xs.length:=by
   have:=(gM h).1;rw[Y5,Yt]at this;omega
  subst e;rw[Yz (YF _),Nat.sub_self]at h;cases h;exact .inl ⟨rfl,rfl⟩
section
variable{n:Nat}{es:EE}{sd:Nat->Nat}{P0:List (Option Nat)}{starts:List Nat}{cm:Cm}
def t8(es:EE)(p:Nat):Nat:=(j8 es p es.length).length
end
theorem Kf:∀(xs:List Nat),HE (j9 xs)=aA (xs.map λ(i:Nat)=>(i:Int))
 | []=>rfl
 | x::xs=>by
   show(HE (j9 xs)).map (((x:Nat):Int)::·)=_;rw[Kf xs];rfl
noncomputable def Aw(p:Nat)(e:Nat×Nat):Bool:=decide (e.1=p)||decide (e.2=p)
def endB_iff{p:Nat}{e:Nat×Nat}:Aw p e=aC↔(p=e.1\/p=e.2):=by
 unfold Aw;simp only[Yj,dQ];exact⟨λh=>h.imp Eq.symm Eq.symm,λh=>h.imp Eq.symm Eq.symm⟩
theorem IA(es:EE)(p:Nat):∀ i,i<=es.length->(j8 es p i).length=(es.take i).countP (Aw p)
 | 0,_=>by simp[j8]
 | i+1,h=>by
   have a:es[i]?=aA es[i]:=Y6 (by omega);rw[Bo es p i a,Y5,IA es p i (by omega),Yo,a,A0h];show _+_=_+A1i (Aw p) [es[i]];rw[A03,A0I];unfold Aw;by_cases z:(decide (es[i].1=p)||decide (es[i].2=p))=aC
   ·rw[iP z,iP z];rfl
   ·rw[iG z,iG z];rfl
def PC(es:EE)(p:Nat):t8 es p=es.countP (Aw p):=by
 unfold t8;rw[IA es p _ (YF _),Yk]
noncomputable def mostN(es:EE):Nat->Nat
 | 0=>0
 | n+1=>max (mostN es n) (t8 es n)
theorem Ck(es:EE):∀{n p:Nat},p<n->t8 es p<=mostN es n
 | 0,_,h=>absurd h (Zx _)
 | n+1,p,h=>by
   show _<=max (mostN es n) (t8 es n);by_cases e:p=n
   ·subst e;omega
   ·have:=Ck es (n:=n) (p:=p) (by omega);omega
theorem ER(es:EE):∀ n:Nat,mostN es n=0\/∃ p,p<n/\mostN es n=t8 es p
 | 0 => .inl rfl
 | n+1=>by
   show max (mostN es n) (t8 es n)=0\/∃ p,p<n+1/\max (mostN es n) (t8 es n)=t8 es p;by_cases h:mostN es n<=t8 es n
   ·right;exact⟨n,by omega,by omega⟩
   ·rcases ER es n with z | ⟨p,hp,e⟩
    ·left;omega
    ·right;exact⟨p,by omega,by omega⟩
def FQ{es:EE}{n:Nat}{m:Int}(c:∀ p,p<n->((t8 es p:Nat):Int)<=m)(d:m=0\/∃ p,p<n/\m=(t8 es p:Nat))(e:0<=m):m=(mostN es n:Nat):=by
 have a:m<=(mostN es n:Nat):=by
  rcases d with z | ⟨p,hp,z⟩
  ·omega
  ·have:=Ck es hp;omega
 have b:((mostN es n:Nat):Int)<=m:=by
  rcases ER es n with z | ⟨p,hp,z⟩
  ·omega
  ·have:=c p hp;omega
 omega
def cS(n:Nat)(f:Nat->Nat):List SV:=(YJ n).map λp=>SV.int (f p:Nat)
def ES{n p:Nat}{f:Nat->Nat}(h:p<n):(cS n f)[p]?=aA (.int (f p:Nat)):=by unfold cS;rw[YA,Yx h];rfl
def Bp{n:Nat}{f:Nat->Nat}:(cS n f).length=n:=by unfold cS;rw[Y4,Yl]
def Kg(n:Nat)(f:Nat->Nat):cS n f=((YJ n).map λp=>((f p:Nat):Int)).map SV.int:=by unfold cS;rw[Zo];rfl
def TC{n p:Nat}{f:Nat->Nat}(h:p<n):(cS n f).set p (.int ((f p:Nat)+1))=cS n λq=>f q+if q=p then 1 else 0:=by
 apply ZN;intro i;by_cases a:i<n
 ·rw[ES a];by_cases e:i=p
  ·subst e;rw[YV (by rw[Bp];exact a),iP rfl];rfl
  ·rw[Yq (Ne.symm e),ES a,iG e];rfl
 ·rw[Yd (by rw[YZ,Bp];omega),Yd (by rw[Bp];omega)]
def PD:∀ n:Nat,(YR n [SV.int 0]).flatten=cS n λ_=>0:=by
 intro n
 have e:(YR n [SV.int 0]).flatten=YR n (SV.int 0):=by
  induction n with
  | zero=>rfl
  | succ n b=>rw[Yv,ZA,b];rfl
 rw[e];apply ZN;intro i;rw[ZH];by_cases a:i<n
 ·rw[iP a,ES a];rfl
 ·rw[iG a,Yd (by rw[Bp];omega)]
noncomputable def TD:List Stm:=[.asg (.nm 1) (.op .Mult (.lst (vA vQ)) (.ix vJ vQ)),.loop (.tup (.cons (.nm 2) (.cons (.nm 3) .nil))) (.seq kE) [.augS vK vM vN,.augS vK vL vN],.ret (.maxd vK vQ)]
def JM(s:Sn):Prop:=∀{n:Nat} {es:EE} {S:Sto} {Q:QE},(∀ e∈es,e.1<e.2/\e.2<n)->n<=1000->(∀ a,Gw S a->Q (.int (mostN es n:Nat)) a)->s [webS n es] S Q
def PF{n:Nat}{es:EE}{m:Int}(h:Grt ((YJ n).map λp=>((t8 es p:Nat):Int)) m):m=(mostN es n:Nat):=by
 obtain⟨b,c⟩:=h;obtain⟨p,a,e⟩:=YO.mp b;rw[YU]at a;exact FQ (λq d=>c _ (YO.mpr ⟨q,YU.mpr d,rfl⟩)) (.inr ⟨p,a,e.symm⟩) (by rw[<-e];omega)
section
variable{Δ:Nat->Sn}
def Rn(h:∀ f,MonoN (Δ f)){D:Df}(B:D.body=TD)(C:D.N.length=4)(F:D.ps.length=1):JM (i5 Δ D):=by
 intro n a S Q j u q;unfold i5;rw[B,C];refine⟨F.symm,by show 1<=big;decide,_,rfl,_,_,rfl,rfl,_,g9,⟨by omega,by omega⟩,by show 1 * _<=100000;omega,?_⟩;have G:(YR ((n:Int)).toNat [SV.int 0]).flatten=cS n λ_=>0:=by rw[ZM,PD]
 rw[G];have H:((S++[SO.lst [SV.int 0]])++[SO.lst (cS n λ_=>0)])[(S++[SO.lst [SV.int 0]]).length]?=aA (.lst (cS n λ_=>0)):=g9;have I:Gw S ((S++[SO.lst [SV.int 0]])++[SO.lst (cS n λ_=>0)]):=(Gw.refl S).push.push;have v:S.length<=(S++[SO.lst [SV.int 0]]).length:=by rw[Y5];omega
 generalize (S++[SO.lst [SV.int 0]]).length=k at *;generalize (S++[SO.lst [SV.int 0]])++[SO.lst (cS n λ_=>0)]=O at *;refine⟨_,rfl,_,_,rfl,rfl,_,rfl,?_⟩;refine A6 (m9 h _) (λi l b=>∃ o r,l=[aA (webS n a),aA (.loc k),o,r]/\Gw S b/\b[k]?=aA (.lst (cS n λp=>(a.take i).countP (Aw p)))) ⟨aB,aB,rfl,I,by rw[H];simp⟩ (λ_ _ _ _=>trivial) ?_ ?_
 ·rintro i x l b E u _ J ⟨o,r,rfl,d,c⟩;obtain⟨e,w,rfl⟩:=At J;have K:=j e (Y7 w);refine⟨_,rfl,_,rfl,k,e.1,_,_,rfl,rfl,c,ES (by omega),_,_,rfl,c,by rw[Bp];omega,?_⟩;rw[TC (by omega)];have s:(b.set k (.lst (cS n λq=>(a.take i).countP (Aw q)+if q=e.1 then 1 else 0)))[k]?=aA (.lst (cS n λq=>(a.take i).countP (Aw q)+if q=e.1 then 1 else 0)):=t9 c;have L:Gw S (b.set k (.lst (cS n λq=>(a.take i).countP (Aw q)+if q=e.1 then 1 else 0))):=d.put v;generalize b.set k (.lst (cS n λq=>(a.take i).countP (Aw q)+if q=e.1 then 1 else 0))=P at *;refine⟨_,rfl,_,rfl,k,e.2,_,_,rfl,rfl,s,ES (by omega),_,_,rfl,s,by rw[Bp];omega,?_⟩;rw[TC (by omega)];refine u _ _ ⟨_,_,rfl,L.put v,?_⟩;rw[t9 s]
  congr 3
  funext p
  rw[Yo,w,A0h];show _=_+A1i (Aw p) [e];rw[A03,A0I];by_cases z:Aw p e=aC
  ·rw[iP z];rcases endB_iff.mp z with y | y
   ·rw[iP y,iG (by omega)]
   ·rw[iP y,iG (by omega)]
  ·have A:¬ (p=e.1\/p=e.2):=λy=>z (endB_iff.mpr y);rw[iG z,iG (λy=>A (.inl y)),iG (λy=>A (.inr y))]
 ·rintro l b ⟨o,r,rfl,d,c⟩;rw[Y4,Yk]at c;have M:(cS n λp=>a.countP (Aw p))=cS n (t8 a):=by congr 1;funext p;exact(PC a p).symm
  rw[M,Kg]at c;refine⟨_,rfl,k,_,_,rfl,rfl,c,λz=>?_,λm g=>?_⟩
  ·have t:n=0:=by cases n with
    | zero=>rfl
    | succ n=>simp[ZE]at z
   have:=q b d;rw[t]at this;exact this
  ·rw[PF g];exact q b d
noncomputable def Kh:List Stm:=[.ret (.bi .len (vA (.comp ["_law_pair"] ["_law_place"] [1] (.nm 0) (.seq kE) (.yes (.cmp .In vK vJ)) vJ)))]
def ET(s:Sn):Prop:=∀{n p:Nat} {es:EE} {S:Sto} {Q:QE},es.length<=5000->(∀ a,Gw S a->Q (.int (t8 es p:Nat)) a)->s [webS n es,.int p] S Q
def MW(b:∀ f,MonoN (Δ f)){D:Df}(l:D.body=Kh)(m:D.N.length=2)(o:D.ps.length=2):ET (i5 Δ D):=by
 intro n p c S Q r q;unfold i5;rw[l,m];refine⟨o.symm,_,rfl,_,_,rfl,rfl,_,rfl,?_⟩;refine m7 (n9 b _).2 (c8 b _).1 (λi d g=>g=S/\d.length=(c.take i).countP (Aw p)) ⟨rfl,by simp⟩ (λ_ _ _ _=>trivial) ?_ ?_
 ·rintro i x d g s ⟨rfl,a⟩;obtain⟨e,j,rfl⟩:=At s;have u:=(gM j).1;have t:(c.take i).countP (Aw p)<=i:=Yg (List.countP_le_length ..) (by rw[Z7];omega)
  have k:(c.take (i+1)).countP (Aw p)=(c.take i).countP (Aw p)+if Aw p e=aC then 1 else 0:=by
   rw[Yo,j,A0h];show _+A1i (Aw p) [e]=_;rw[A03,A0I,A16]
  refine⟨_,rfl,_,rfl,rfl,_,rfl,rfl,_,rfl,?_⟩;show if inS (.int p) [.int e.1,.int e.2]=aC then _ else _
  rw[C2];refine ifB (λh=>?_) (λh=>?_)
  ·refine⟨_,rfl,by rw[a];show _<100000;omega,rfl,?_⟩;rw[Y5,a,k,iP (show Aw p e=aC from h)];rfl
  ·refine⟨rfl,?_⟩;rw[a,k,iG (show ¬ Aw p e=aC by unfold Aw;rw[h];decide)];rfl
 ·rintro d g ⟨rfl,a⟩;rw[Y4,Yk,<-PC]at a;refine⟨_,f9 g9,?_⟩;rw[a];exact q _ (Gw.refl _).push
def MX{n:Nat}{es:EE}{m:Int}(h:Grt (0::(YJ n).map λp=>((t8 es p:Nat):Int)) m):m=(mostN es n:Nat):=by
 obtain⟨b,a⟩:=h;have c:=a 0 (YL ..);refine FQ (λq d=>a _ (YC _ (YO.mpr ⟨q,YU.mpr d,rfl⟩))) ?_ c;rcases YH.mp b with z | z
 ·exact .inl z
 ·obtain⟨p,f,e⟩:=YO.mp z;exact .inr ⟨p,YU.mp f,e.symm⟩
def Ki(s:Sn):Prop:=∀{n:Nat} {es:EE} {S:Sto} {Q:QE},es.length<=5000->n<=1000->(∀ a,Gw S a->Q (.int (mostN es n:Nat)) a)->s [webS n es] S Q
def VQ{t:Nat}{S a:Sto}(G:Gw S a):On t S a:=⟨G.len,λk o _ h=>G.keep k o h⟩
end
end Rf
namespace Hue
open L2
def srtO_mem{ns:List Int}{x:Int}:x∈srt (Cw ns)↔x∈ns:=by
 unfold srt;rw[A10];exact Np ns x
end Hue
namespace Rf
def hu(cs:List Nat)(t:Nat):Nat:=cs.getD t 0
def AtP(es:EE)(t y:Nat):Prop:=∃ e,es[t]?=aA e/\(e.1=y\/e.2=y)
def AtP.lt{es:EE}{t y:Nat}(h:AtP es t y):t<es.length:=let ⟨_,e,_⟩:=h;(gM e).1
structure Prp(es:EE)(cs:List Nat):Prop where
 len:cs.length=es.length
 one:∀ t u y,AtP es t y->AtP es u y->hu cs t=hu cs u->t=u
structure RwI(es:EE)(cs:List Nat)(a b p:Nat)(r:List Nat)(x one other:Nat):Prop where
 nd:r.Nodup
 lt:∀ t∈r,t<es.length
 alt:∀ i t:Nat,r[i]?=aA t->hu cs t=if i % 2=0 then a else b
 d1:one=if r.length % 2=0 then a else b
 d2:other=if r.length % 2=0 then b else a
 fin:∀ t∈r,∀ y,AtP es t y->y≠x->∀ u,AtP es u y->(hu cs u=a\/hu cs u=b)->u∈r
 oth:∀ u,AtP es u x->hu cs u=other->u∈r
 non:∀ u∈r,AtP es u x->hu cs u≠one
 lst:∀ t,r.getLast?=aA t->AtP es t x
 beg:r=[]->x=p
 fst:∀ t,r[0]?=aA t->AtP es t p
 all:∀ T:Nat->Prop,(∀ t u y,T t->AtP es t y->AtP es u y->(hu cs u=a\/hu cs u=b)->T u)->(∀ t,r[0]?=aA t->T t)->∀ t∈r,T t
def Clo(es:EE)(cs:List Nat)(a b:Nat)(r:List Nat):Prop:=∀ t∈r,∀ y,AtP es t y->∀ u,AtP es u y->(hu cs u=a\/hu cs u=b)->u∈r
section
variable{es:EE}{cs:List Nat}{a b p x one other:Nat}{r:List Nat}
def RwI.nil(h:∀ u,AtP es u p->hu cs u≠b):RwI es cs a b p [] p a b:=
 ⟨.nil,(λ_ h=>nomatch h),λi t h=>by simp at h,rfl,rfl,(λ_ h=>nomatch h),λu c d=>absurd d (h u c),(λ_ h=>nomatch h),λt h=>by simp at h,λ_=>rfl,λt h=>by simp at h,λ_ _ _ _ h=>nomatch h⟩
def RwI.two(R:RwI es cs a b p r x one other){h:Nat}(z:h=a\/h=b):h=one\/h=other:=by
 rw[R.d1,R.d2];by_cases e:r.length % 2=0
 ·rw[iP e,iP e];exact z
 ·rw[iG e,iG e];exact z.symm
def RwI.ab(R:RwI es cs a b p r x one other):(one=a\/one=b)/\(other=a\/other=b):=by
 rw[R.d1,R.d2];by_cases e:r.length % 2=0
 ·rw[iP e,iP e];exact⟨.inl rfl,.inr rfl⟩
 ·rw[iG e,iG e];exact⟨.inr rfl,.inl rfl⟩
def RwI.ne(R:RwI es cs a b p r x one other)(ab:a≠b):one≠other:=by
 rw[R.d1,R.d2];by_cases e:r.length % 2=0
 ·rw[iP e,iP e];exact ab
 ·rw[iG e,iG e];exact ab.symm
def RwI.step(P:Prp es cs)(ab:a≠b)(R:RwI es cs a b p r x one other){t:Nat}{e:Nat×Nat}(A:es[t]?=aA e)(n:e.1=x\/e.2=x)(U:e.1≠e.2)(m:hu cs t=one):RwI es cs a b p (r++[t]) (Ab e x) other one:=by
 have o:AtP es t x:=⟨e,A,n⟩
 have J:Ab e x≠x:=by unfold Ab;split<;>rcases n with z | z<;>omega
 have B:AtP es t (Ab e x):=⟨e,A,by unfold Ab;split<;>simp⟩
 have v:∀ y,AtP es t y->y=x\/y=Ab e x:=by
  rintro y ⟨V,w,h⟩;rw[A]at w;cases w;unfold Ab;rcases n with n | n<;>rcases h with h | h<;>split<;>omega
 have F:t∉r:=λz=>R.non t z o m;have K:=R.ne ab
 have k:∀ u,AtP es u x->(hu cs u=a\/hu cs u=b)->u∈r++[t]:=λu f g=>by
  rcases R.two g with z | z
  ·rw[P.one u t x f o (z.trans m.symm)];simp
  ·exact ZG _ (R.oth u f z)
 have G:(r++[t]).length=r.length+1:=by simp
 refine⟨?_,λu f=>?_,λi u C=>?_,?_,?_,λs j y h L u f g=>?_,λu f g=>?_,λu f h g=>?_,λu f=>?_,λz=>?_,λu f=>?_,λT D E u f=>?_⟩
 ·rw[Zg];exact⟨R.nd,by simp,λc g d M=>by rw[YK.mp M];exact λz=>F (z▸g)⟩
 ·rcases YT.mp f with z | z
  ·exact R.lt u z
  ·rw[YK.mp z];exact o.lt
 ·rcases Ke C with⟨N,O⟩ | C
  ·rw[O,m,N];exact R.d1
  ·exact R.alt i u C
 ·rw[G,R.d2];by_cases e:r.length % 2=0
  ·rw[iP e,iG (by omega)]
  ·rw[iG e,iP (by omega)]
 ·rw[G,R.d1];by_cases e:r.length % 2=0
  ·rw[iP e,iG (by omega)]
  ·rw[iG e,iP (by omega)]
 ·rcases YT.mp j with z | z
  ·by_cases H:y=x
   ·rw[H]at f;exact k u f g
   ·exact ZG _ (R.fin s z y h H u f g)
  ·rw[YK.mp z]at h;rcases v y h with q | q
   ·rw[q]at f;exact k u f g
   ·exact absurd q L
 ·rw[P.one u t _ f B (g.trans m.symm)];simp
 ·rcases YT.mp f with z | z
  ·exact F (R.fin u z _ h J t B (by rw[m];exact R.ab.1))
  ·rw[YK.mp z,m]at g;exact K g
 ·rw[List.getLast?_concat]at f;cases f;exact B
 ·simp at z
 ·cases hr:r with
  | nil=>
    rw[hr]at f;have:t=u:=by simpa using f
    rw[<-this,<-R.beg hr];exact o
  | cons s I=>
    rw[hr]at f;exact R.fst u (by rw[hr];simpa using f)
 ·rcases YT.mp f with z | z
  ·refine R.all T D (λs j=>E s ?_) u z;cases hr:r with
   | nil=>rw[hr]at j;simp at j
   | cons s' I=>rw[hr]at j;simpa using j
  ·rw[YK.mp z];cases hr:r with
   | nil=>exact E t (by rw[hr];rfl)
   | cons s' I=>
     have Q:r.getLast?=aA (r.getLast (by rw[hr];simp)):=ZR (by rw[hr];simp);have S:=List.getLast_mem (l:=r) (by rw[hr];simp);refine D _ t x (R.all T D (λs j=>E s ?_) _ S) (R.lst _ Q) o (by rw[m];exact R.ab.1);rw[hr]at j ⊢;simpa using j
def RwI.len(R:RwI es cs a b p r x one other):r.length<=es.length:=by
 have:=List.Nodup.length_le_of_subset R.nd (l₂:=YJ es.length) λt c=>YU.mpr (R.lt t c)
 rwa [Yl]at this
def RwI.clo(R:RwI es cs a b p r x one other)(no:∀ u,AtP es u x->hu cs u≠one):Clo es cs a b r:=by
 intro t f y g u c d;by_cases e:y=x
 ·rw[e]at c;rcases R.two d with z | z
  ·exact absurd z (no u c)
  ·exact R.oth u c z
 ·exact R.fin t f y g e u c d
end
def w4(es:EE)(cs:List Nat)(x h:Nat):Option Nat:=(j8 es x es.length).find? λt=>decide (hu cs t=h)
def v7{es:EE}{cs:List Nat}{x h t:Nat}(z:w4 es cs x h=aA t):AtP es t x/\hu cs t=h:=by
 unfold w4 at z;exact⟨mem_tiesAt.mp (Zs z),by simpa using A1m z⟩
def Aj{es:EE}{cs:List Nat}{x h:Nat}(z:w4 es cs x h=aB):∀ u,AtP es u x->hu cs u≠h:=by
 unfold w4 at z;rw[ZF]at z;exact λu a=>by simpa using z u (mem_tiesAt.mpr a)
noncomputable def rwF(es:EE)(cs:List Nat):Nat->Nat->Nat->Nat->List Nat
 | 0,_,_,_=>[]
 | k+1,x,b,a=>match w4 es cs x b with
   | none=>[]
   | some t=>t::rwF es cs k (Ab (es.getD t (0,0)) x) a b
theorem PH{es:EE}{cs:List Nat}{a b p:Nat}(P:Prp es cs)(ab:a≠b)(i:∀ e∈es,e.1≠e.2):∀(k:Nat) (r:List Nat) (x d c:Nat),RwI es cs a b p r x d c->es.length+1<=r.length+k->∃ j g f,RwI es cs a b p (r++rwF es cs k x d c) j g f/\∀ u,AtP es u j->hu cs u≠g
 | 0,r,x,d,c,R,h=>by have:=R.len;omega
 | k+1,r,x,d,c,R,h=>by
   unfold rwF;cases ht:w4 es cs x d with
   | none=>exact⟨x,d,c,by simpa using R,Aj ht⟩
   | some t=>
     obtain⟨⟨e,l,m⟩,n⟩:=v7 ht;have o:es.getD t (0,0)=e:=by rw[Y9,l];rfl
     dsimp only;rw[o];have q:=R.step P ab l m (i e (Y7 l)) n;obtain⟨j,s,v,w,no⟩:=PH P ab i k _ _ _ _ q (by rw[Y5];simp;omega);exact⟨j,s,v,by simpa using w,no⟩
def exL(cs r:List Nat)(a b:Nat):List Nat:=(YJ cs.length).map λt=>if t∈r then (if hu cs t=a then b else a) else hu cs t
def Ai(cs r:List Nat)(a b:Nat):(exL cs r a b).length=cs.length:=by unfold exL;rw[Y4,Yl]
def EU{cs r:List Nat}{a b t:Nat}(h:t<cs.length):hu (exL cs r a b) t=if t∈r then (if hu cs t=a then b else a) else hu cs t:=by
 unfold exL;show ZC _ t 0=_;rw[Y9,YA,Yx h];rfl
def VR{es:EE}{cs r:List Nat}{a b:Nat}(P:Prp es cs)(C:Clo es cs a b r)(k:∀ t∈r,hu cs t=a\/hu cs t=b):Prp es (exL cs r a b):=by
 refine⟨(Ai ..).trans P.len,λt u y i c h=>?_⟩;have l:=i.lt;have m:=c.lt;rw[<-P.len]at l m;rw[EU l,EU m]at h;by_cases e:t∈r
 ·by_cases d:u∈r
  ·rw[iP e,iP d]at h;refine P.one t u y i c ?_;rcases k t e with f | f<;>rcases k u d with g | g
   ·rw[f,g]
   ·rw[iP f]at h;by_cases j:hu cs u=a
    ·rw[f,j]
    ·rw[iG j]at h;rw[f,g,h]
   ·rw[iP g]at h;by_cases j:hu cs t=a
    ·rw[g,j]
    ·rw[iG j]at h;rw[f,g,h]
   ·rw[f,g]
  ·rw[iP e,iG d]at h;exact absurd (C t e y i u c (by split at h;exact .inr h.symm;exact .inl h.symm)) d
 ·by_cases d:u∈r
  ·rw[iG e,iP d]at h;exact absurd (C u d y c t i (by split at h;exact .inr h;exact .inl h)) e
  ·rw[iG e,iG d]at h;exact P.one t u y i c h
def VT(cs:List Nat):(YJ cs.length).map (hu cs)=cs:=by
 apply ZN;intro i;rw[YA];by_cases h:i<cs.length
 ·rw[Yx h,Y6 h];show aA (cs.getD i 0)=_;rw[Y9,Y6 h];rfl
 ·rw[Yd (by rw[Yl];omega),Yd (by omega)];rfl
open PySem L2
inductive Gd(V:Nat->List SV->Prop):Nat->Nat->SV->Prop where
 | non {k b:Nat}:Gd V k b .non
 | bl {k b:Nat} (c:Bool):Gd V k b (.bl c)
 | int {k b:Nat} {i:Int} (h:-1000000000000000000000<=i/\i<=1000000000000000000000):Gd V k b (.int i)
 | str {k b:Nat} {x:Str} (h:Sz 0 10 (.str x)) (hb:10<=b):Gd V k b (.str x)
 | tup {k b c:Nat} {xs:List SV} (h:∀ y∈xs,Gd V k b y) (hl:xs.length<=63) (hc:xs.length * (b+1)<=c):Gd V (k+1) c (.tup xs)
 | lst {k b c l:Nat} {xs:List SV} (hv:V l xs) (h:∀ y∈xs,Gd V k b y) (hl:xs.length<=63) (hc:xs.length * (b+1)<=c):Gd V (k+1) c (.loc l)
def Gd.see{V f:Nat->List SV->Prop}(i:∀ l g,V l g->f l g){k b:Nat}{x:SV}(h:Gd V k b x):Gd f k b x:=by
 induction h with
 | non=>exact .non
 | bl c=>exact .bl c
 | int h=>exact .int h
 | str h j=>exact .str h j
 | tup _ a d e=>exact .tup e a d
 | lst hv _ a d e=>exact .lst (i _ _ hv) e a d
def VS(S:Sto)(l:Nat)(xs:List SV):Prop:=S[l]?=aA (.lst xs)
def isI:SV->Bool
 | .int _=>aC
 | _=>aD
section
variable{Δ:Nat->Sn}
def VU(s:Sn):Prop:=∀{x:SV} {S:Sto} {k b:Nat} {Q:QE},Gd (VS S) k b x->Q (.bl (isI x)) S->s [x] S Q
def Ro{D:Df}(d:D.body=JK)(e:D.N.length=1)(a:D.ps.length=1):VU (i5 Δ D):=by
 intro x S k b Q h q;unfold i5;rw[d,e];cases h with
 | non=>exact⟨a.symm,_,rfl,_,nofun,rfl,_,rfl,ifF rfl q⟩
 | bl c=>exact⟨a.symm,_,rfl,_,nofun,rfl,_,rfl,ifT rfl ⟨_,rfl,_,nofun,rfl,_,rfl,q⟩⟩
 | int h=>exact⟨a.symm,_,rfl,_,nofun,rfl,_,rfl,ifT rfl ⟨_,rfl,_,nofun,rfl,_,rfl,q⟩⟩
 | str h f=>exact⟨a.symm,_,rfl,_,nofun,rfl,_,rfl,ifF rfl q⟩
 | tup h g i=>exact⟨a.symm,_,rfl,_,nofun,rfl,_,rfl,ifF rfl q⟩
 | lst hv h g i=>exact⟨a.symm,_,rfl,_,nofun,P4 hv,_,rfl,ifF rfl q⟩
def Rp(f:Nat->Bool):∀ n:Nat,blS ((YJ n).map λi => .bl (f i))=aA ((YJ n).map f):=by
 have b:∀ l:List Nat,blS (l.map λi => .bl (f i))=aA (l.map f):=λl=>by
  induction l with
  | nil=>rfl
  | cons a l c=>rw[Yf,Yf];simp[blS,c]
 exact λn=>b _
def all_mapF{f:Nat->Bool}{n:Nat}:((YJ n).map f).all id=aC↔∀ i,i<n->f i=aC:=by
 rw[YX];constructor
 ·exact λh i a=>h _ (YO.mpr ⟨i,YU.mpr a,rfl⟩)
 ·rintro h x b;obtain⟨i,a,rfl⟩:=YO.mp b;exact h i (YU.mp a)
def PJ(c:∀ f,MonoN (Δ f)){e:Ex}{b:Sto->Prop}{g:Tg}{k:EnvS}{Q:List SV->Sto->Prop}(f:Nat->Bool){xs:List SV}{S:Sto}(p:xs.length<=1000)(n:∀ a,Gw S a->b a)
 (o:∀(i:Nat) (x:SV) (a:Sto),xs[i]?=aA x->Gw S a->wTg g x k λd=>(wEx Δ e).1 d a λy l=>y = .bl (f i)/\Gw S l)
 (q:∀ a,Gw S a->Q ((YJ xs.length).map λi => .bl (f i)) a):OO b g (wEo Δ .no).2 (wEx Δ e).1 k Q xs [] S:=by
 refine m7 (n9 c _).2 (c8 c _).1 (λi j a=>Gw S a/\j=(YJ i).map λi => .bl (f i)) ⟨Gw.refl S,rfl⟩ (λ_ _ _ h=>n _ h.1) ?_ ?_
 ·rintro i x j a m ⟨G,rfl⟩;have r:=(gM m).1;refine AM g (λd h=>?_) (o i x a m G);refine(c8 c e).1 _ _ _ _ (λy l h=>⟨by rw[Y4,Yl];show _<100000;omega,h.2,?_⟩) h;rw[h.1,ZE,YN];rfl
 ·rintro j a ⟨G,rfl⟩;exact q a G
def Gd.grow{S a:Sto}{k b:Nat}{x:SV}(h:Gd (VS S) k b x)(G:Gw S a):Gd (VS a) k b x:=h.see λl c e=>G.keep l _ e
def XM:List Stm:=[.ret (.bi .isi (vB vJ (.tup (vB (.tyc .list) (.tyc .tuple)))))]
def isL:SV->Bool
 | .tup _=>aC
 | .loc _=>aC
 | _=>aD
def VV(s:Sn):Prop:=∀{x:SV} {S:Sto} {k b:Nat} {Q:QE},Gd (VS S) k b x->Q (.bl (isL x)) S->s [x] S Q
def Rq{D:Df}(e:D.body=XM)(f:D.N.length=1)(a:D.ps.length=1):VV (i5 Δ D):=by
 intro x S k b Q h q;unfold i5;rw[e,f];have d:2<=big:=by decide
 cases h with
 | non=>exact⟨a.symm,_,rfl,d,_,[.list,.tuple],by decide,rfl,rfl,q⟩
 | bl c=>exact⟨a.symm,_,rfl,d,_,[.list,.tuple],by decide,rfl,rfl,q⟩
 | int h=>exact⟨a.symm,_,rfl,d,_,[.list,.tuple],by decide,rfl,rfl,q⟩
 | str h g=>exact⟨a.symm,_,rfl,d,_,[.list,.tuple],by decide,rfl,rfl,q⟩
 | tup h i j=>exact⟨a.symm,_,rfl,d,_,[.list,.tuple],by decide,rfl,rfl,q⟩
 | lst hv h i j=>exact⟨a.symm,_,rfl,d,_,[.list,.tuple],by decide,P4 hv,rfl,q⟩
end
structure SeqV(S:Sto)(x:SV)(xs:List SV):Prop where
 seq:∀ S',Gw S S'->seqS x S'=aA xs
 keep:∀ S1 S',Gw S S1->Gw S S'->keepS x S1 S'
 len:xs.length<=63
 gd:∃ k b,∀ y∈xs,Gd (VS S) k b y
 ls:isL x=aC
def Gd.split{S:Sto}{k b:Nat}{x:SV}(h:Gd (VS S) k b x):(isL x=aD/\∀ a,seqS x S≠aA a)\/∃ a,SeqV S x a:=by
 cases h with
 | non=>exact .inl ⟨rfl,nofun⟩
 | bl c=>exact .inl ⟨rfl,nofun⟩
 | int h=>exact .inl ⟨rfl,nofun⟩
 | str h f=>exact .inl ⟨rfl,nofun⟩
 | tup h d g=>exact .inr ⟨_,λ_ _=>rfl,λ_ _ _ _=>trivial,d,⟨_,_,h⟩,rfl⟩
 | lst hv h d g=>exact .inr ⟨_,λe G=>f9 (G.keep _ _ hv),λi e j G=>by
    show e[_]?=i[_]?;rw[G.keep _ _ hv,j.keep _ _ hv],d,⟨_,_,h⟩,rfl⟩
section
variable{Δ:Nat->Sn}
noncomputable def TF:List Stm:=[.ret (.or (.cmp .In (.ix (.ix kE vK) vQ) (.ix kE vM)) (.cmp .In (.ix (.ix kE vK) vN) (.ix kE vM)))]
def Shr(es:EE)(t u:Nat):Prop:=∃ p,(p=(Av es t).1\/p=(Av es t).2)/\(p=(Av es u).1\/p=(Av es u).2)
def PL(s:Sn):Prop:=∀{n t u:Nat} {es:EE} {S:Sto} {Q:QE},t<es.length->u<es.length->(∀ v:Bool,(v=aC↔Shr es t u)->Q (.bl v) S)->s [webS n es,.int t,.int u] S Q
def PM{D:Df}(d:D.body=TF)(e:D.N.length=3)(f:D.ps.length=3):PL (i5 Δ D):=by
 intro n t u a S Q g i q;unfold i5;rw[d,e];have b:atI (a.map pairS) (t:Int)=aA (pairS (Av a t)):=k8 (by rw[YA,Cj g];rfl);have c:atI (a.map pairS) (u:Int)=aA (pairS (Av a u)):=k8 (by rw[YA,Cj i];rfl);refine⟨f.symm,_,rfl,_,_,rfl,rfl,_,rfl,_,_,rfl,b,_,.int ((Av a t).1:Nat),rfl,rfl,_,rfl,_,_,rfl,rfl,_,rfl,_,_,rfl,c,rfl,_,rfl,rfl,_,rfl,?_⟩;show if inS (.int (Av a t).1) [.int (Av a u).1,.int (Av a u).2]=aC then _ else _
 rw[C2];refine ifB (λz=>q aC ⟨λ_=>?_,λ_=>rfl⟩) (λz=>?_)
 ·refine⟨(Av a t).1,.inl rfl,?_⟩;simp only[Yj,dQ]at z;exact z.imp Eq.symm Eq.symm
 ·refine⟨_,rfl,_,_,rfl,rfl,_,rfl,_,_,rfl,b,_,.int ((Av a t).2:Nat),rfl,rfl,_,rfl,_,_,rfl,rfl,_,rfl,_,_,rfl,c,rfl,_,rfl,rfl,?_⟩;show Q (.bl (inS (.int (Av a t).2) [.int (Av a u).1,.int (Av a u).2])) S;rw[C2];refine q _ ⟨λz=>⟨(Av a t).2,.inr rfl,?_⟩,?_⟩
  ·simp only[Yj,dQ]at z;exact z.imp Eq.symm Eq.symm
  ·rintro⟨p,rfl | rfl,h⟩
   ·simp only[Bool.or_eq_false_iff,decide_eq_false_iff_not]at z;exact absurd (h.imp Eq.symm Eq.symm) (not_or.mpr z)
   ·simp only[Yj,dQ];exact h.imp Eq.symm Eq.symm
def Gw.tape{t:Nat}{S d:Sto}(G:Gw S d)(T:TapeS S t):TapeS d t:=let ⟨a,b,h,c⟩:=T.ex;⟨a,b,G.keep _ _ h,c⟩
end
def Rr:SV->Bool
 | .int i=>decide (0<=i)
 | _=>aD
def PropS(es:EE)(xs:List SV)(m:Nat):Prop:=∀(i j:Nat) (h:Int),i<j->j<m->xs[i]?=aA (.int h)->xs[j]?=aA (.int h)->¬ Shr es i j
def endE(es:EE)(t p:Nat):Prop:=p=(Av es t).1\/p=(Av es t).2
def shr_end{es:EE}{a b:Nat}:Shr es a b↔∃ p,endE es a p/\endE es b p:=Iff.rfl
structure DictI(es:EE)(xs:List SV)(i:Nat)(kvs:List ((Int×Int)×Int)):Prop where
 sound:∀(p:Nat) (h n:Int),dpv kvs (((p:Nat):Int),h)=aA n->∃ t:Nat,n=(t:Nat)/\t<i/\xs[t]?=aA (.int h)/\endE es t p
 full:∀(t p:Nat) (h:Int),t<i->xs[t]?=aA (.int h)->endE es t p->∃ n,dpv kvs (((p:Nat):Int),h)=aA n
def Kj{a:List ((Int×Int)×Int)}{k b:Int×Int}{m:Int}(h:dpv a k=aB):dpv (a++[(k,m)]) b=if b=k then aA m else dpv a b:=by
 unfold dpv at h ⊢;rw[A0n];by_cases e:b=k
 ·subst e;rw[iP rfl];have c:=ZO.mp h;rw[c,A1u,Yb,decide_eq_true rfl];rfl
 ·rw[iG e,Yb,decide_eq_false (λz=>e z.symm),List.find?_nil,Option.or_none]
structure DJ(es:EE)(xs:List SV)(i:Nat)(h:Int)(P:Nat->Prop)(kvs:List ((Int×Int)×Int))(ps:List (Int×Int)):Prop where
 sound:∀(p:Nat) (g n:Int),dpv kvs (((p:Nat):Int),g)=aA n->∃ t:Nat,n=(t:Nat)/\(t<i\/(t=i/\P p))/\xs[t]?=aA (.int g)/\endE es t p
 full:∀(t p:Nat) (g:Int),(t<i\/(t=i/\P p))->xs[t]?=aA (.int g)->endE es t p->∃ n,dpv kvs (((p:Nat):Int),g)=aA n
 cl:ps=[]↔PropS es xs i/\∀ t p:Nat,t<i->xs[t]?=aA (.int h)->P p->¬ endE es t p
def DJ.first{es:EE}{xs:List SV}{i:Nat}{h:Int}{d:List ((Int×Int)×Int)}{ps:List (Int×Int)}(D:DictI es xs i d)(c:ps=[]↔PropS es xs i):DJ es xs i h (λ_=>False) d ps:=
 ⟨λp g n e=>let ⟨t,a,b,c⟩:=D.sound p g n e;⟨t,a,.inl b,c⟩,λt p g f j k=>D.full t p g (f.elim id λz=>z.2.elim) j k,c.trans ⟨λa=>⟨a,λ_ _ _ _ z=>z.elim⟩,λa=>a.1⟩⟩
def DJ.found{es:EE}{xs:List SV}{i p:Nat}{h c:Int}{P:Nat->Prop}{j:List ((Int×Int)×Int)}{ps:List (Int×Int)}(J:DJ es xs i h P j ps)(m:xs[i]?=aA (.int h))(s:¬ P p)(r:dpv j (((p:Nat):Int),h)=aA c):c≠(i:Nat)/\DJ es xs i h (λq=>P q\/q=p) j (ps++[(c,((i:Nat):Int))]):=by
 obtain⟨t,rfl,o,v,w⟩:=J.sound p h c r;have o:t<i:=o.elim id λz=>absurd z.2 s;refine⟨λz=>by omega,λq g n e=>?_,λu q g k f l=>?_,⟨λz=>absurd z (by simp),λz=>absurd w (z.2 t p o v (.inr rfl))⟩⟩
 ·obtain⟨u,a,b,d⟩:=J.sound q g n e;exact⟨u,a,b.imp id λz=>⟨z.1,.inl z.2⟩,d⟩
 ·rcases k with k | ⟨rfl,k | rfl⟩
  ·exact J.full u q g (.inl k) f l
  ·exact J.full u q g (.inr ⟨rfl,k⟩) f l
  ·rw[m]at f;cases f;exact⟨_,r⟩
def DJ.new{es:EE}{xs:List SV}{i p:Nat}{h:Int}{P:Nat->Prop}{f:List ((Int×Int)×Int)}{ps:List (Int×Int)}(J:DJ es xs i h P f ps)(j:xs[i]?=aA (.int h))(w:endE es i p)(v:dpv f (((p:Nat):Int),h)=aB):DJ es xs i h (λq=>P q\/q=p) (f++[((((p:Nat):Int),h),((i:Nat):Int))]) ps:=by
 refine⟨λq g n e=>?_,λu q g k c l=>?_,J.cl.trans ⟨λz=>⟨z.1,λt q o r m s=>?_⟩,λz=>⟨z.1,λt q o r m s=>z.2 t q o r (.inl m) s⟩⟩⟩
 ·rw[Kj v]at e;by_cases z:(((q:Nat):Int),g)=(((p:Nat):Int),h)
  ·rw[iP z]at e;injection z with x z2;cases e;rw[Yn.mp x,z2];exact⟨i,rfl,.inr ⟨rfl,.inr rfl⟩,j,w⟩
  ·rw[iG z]at e;obtain⟨u,a,b,d⟩:=J.sound q g n e;exact⟨u,a,b.imp id λz=>⟨z.1,.inl z.2⟩,d⟩
 ·rw[Kj v];by_cases z:(((q:Nat):Int),g)=(((p:Nat):Int),h)
  ·rw[iP z];exact⟨_,rfl⟩
  ·rw[iG z];rcases k with k | ⟨rfl,k | rfl⟩
   ·exact J.full u q g (.inl k) c l
   ·exact J.full u q g (.inr ⟨rfl,k⟩) c l
   ·rw[j]at c;cases c;exact absurd rfl z
 ·rcases m with m | rfl
  ·exact z.2 t q o r m s
  ·obtain⟨n,e⟩:=J.full t q h (.inl o) r s;rw[v]at e;cases e
def DJ.last{es:EE}{xs:List SV}{i:Nat}{h:Int}{P:Nat->Prop}{j:List ((Int×Int)×Int)}{ps:List (Int×Int)}(J:DJ es xs i h P j ps)(k:xs[i]?=aA (.int h))(m:∀ p,endE es i p↔P p):DictI es xs (i+1) j/\(ps=[]↔PropS es xs (i+1)):=by
 refine⟨⟨λp g n e=>?_,λt p g q o l=>J.full t p g ?_ o l⟩,J.cl.trans ⟨λz a b g c u r f s=>?_,λz=>⟨λa b g c u=>z a b g c (by omega),λt p q o v l=>z t i h q (ZT _) o k ⟨p,l,(m p).mpr v⟩⟩⟩⟩
 ·obtain⟨t,a,b,d⟩:=J.sound p g n e;exact⟨t,a,by omega,d⟩
 ·rcases A0b t i with z | z
  ·exact .inl z
  ·have:t=i:=by omega
   subst this;exact .inr ⟨rfl,(m p).mp l⟩
 ·rcases A0b b i with y | y
  ·exact z.1 a b g c y r f s
  ·have:b=i:=by omega
   subst this;rw[k]at f;cases f;obtain⟨p,w,x⟩:=s;exact z.2 a p c r ((m p).mp x) w
def DictI.skip{es:EE}{xs:List SV}{i:Nat}{h:List ((Int×Int)×Int)}{ps:List (Int×Int)}(D:DictI es xs i h)(c:ps=[]↔PropS es xs i)(l:xs[i]?=aA .non):DictI es xs (i+1) h/\(ps=[]↔PropS es xs (i+1)):=by
 have m:∀(t:Nat) (g:Int),t<i+1->xs[t]?=aA (.int g)->t<i:=λt g o j=>by
  rcases A0b t i with z | z
  ·exact z
  ·have:t=i:=by omega
   subst this;rw[l]at j;cases j
 exact⟨⟨λp g n e=>let ⟨t,a,b,d⟩:=D.sound p g n e;⟨t,a,by omega,d⟩,λt p g o j r=>D.full t p g (m t g o j) j r⟩,c.trans ⟨λz a b g f q s k=>z a b g f (m b g q k) s k,λz a b g f q=>z a b g f (by omega)⟩⟩
section
variable{Δ:Nat->Sn}
noncomputable def kq3:Stm:=(.loop (.nm 7) (.seq vR) [.asg (.nm 8) (.setd vM (.tup (vB vT vS)) vO),.iff (.cmp .NotEq vU vO) [.expr kN] []])
noncomputable def kq2:Stm:=(.loop (.tup (.cons (.nm 4) (.cons (.nm 5) .nil))) (.enum kE) [.asg (.nm 6) (.ix vK vO),.iff (.cmp .IsNot vS vP) [kq3] []])
noncomputable def PN:List Stm:=[.asg (.nm 2) .dnewp,.asg (.nm 3) kG,kq2,.ret (.mind vL vP)]
def psS(ps:List (Int×Int)):List SV:=ps.map λp:Int×Int=>SV.tup [.int p.1,.int p.2]
def FR{n m l i p:Nat}{h:Int}{es:EE}{x:SV}{a:List ((Int×Int)×Int)}{ps:List (Int×Int)}{S:Sto}{D:EndsS}{b j:Option SV}(f:S[m]?=aA (.dtp a))(g:S[l]?=aA (.lst (psS ps)))(s:a.length<1000)(t:ps.length<1000)
 (k:∀ c:Int,dpv a (((p:Nat):Int),h)=aA c->c=(i:Nat)->D.nx [aA (webS n es),aA x,aA (.loc m),aA (.loc l),aA (.int (i:Nat)),b,aA (.int h),aA (.int (p:Nat)),aA (.int c)] S)
 (o:∀ c:Int,dpv a (((p:Nat):Int),h)=aA c->c≠(i:Nat)->D.nx [aA (webS n es),aA x,aA (.loc m),aA (.loc l),aA (.int (i:Nat)),b,aA (.int h),aA (.int (p:Nat)),aA (.int c)] (S.set l (.lst (psS (ps++[(c,((i:Nat):Int))])))))
 (r:dpv a (((p:Nat):Int),h)=aB->D.nx [aA (webS n es),aA x,aA (.loc m),aA (.loc l),aA (.int (i:Nat)),b,aA (.int h),aA (.int (p:Nat)),aA (.int (i:Nat))] (S.set m (.dtp (a++[((((p:Nat):Int),h),((i:Nat):Int))])))):
 wSs Δ [.asg (.nm 8) (.setd vM (.tup (vB vT vS)) vO),.iff (.cmp .NotEq vU vO) [.expr kN] []] D [aA (webS n es),aA x,aA (.loc m),aA (.loc l),aA (.int (i:Nat)),b,aA (.int h),aA (.int (p:Nat)),j] S:=by
 refine⟨_,rfl,m,a,rfl,f,_,rfl,_,rfl,by show 2<=100000;decide,_,rfl,_,_,_,a,rfl,rfl,f,by show _<100000;omega,λc d=>?_,λd=>?_⟩
 ·refine⟨_,rfl,_,rfl,_,rfl,?_⟩;show if (!decide (c=((i:Nat):Int)))=aC then _ else _
  by_cases z:c=(i:Nat)
  ·exact ifF (by rw[decide_eq_true z];rfl) (j6 (k c d z))
  ·refine ifT (by rw[decide_eq_false z];rfl) ?_;have e:(psS ps).length<100000:=by unfold psS;rw[Y4];omega
   refine⟨_,rfl,⟨l,_,rfl,g⟩,_,rfl,_,rfl,by show 2<=100000;decide,_,g,e,?_⟩;have q:=o c d z;unfold psS at q ⊢;rw[YN]at q;exact j6 (Δ:=Δ) q
 ·refine⟨_,rfl,_,rfl,_,rfl,?_⟩;show if (!decide (((i:Nat):Int)=((i:Nat):Int)))=aC then _ else _
  exact ifF (by rw[decide_eq_true rfl];rfl) (j6 (r d))
def JN(s:Sn):Prop:=∀{n:Nat} {es:EE} {x:SV} {xs:List SV} {S:Sto} {Q:QE},(∀ e∈es,e.1<e.2/\e.2<n)->es.length<=60->SeqV S x xs->xs.length=es.length->(∀ y∈xs,y = .non\/∃ h:Int,y = .int h)->(∀(v:SV) (a:Sto),Gw S a->(CZ v=aC↔PropS es xs es.length)->Q v a)->s [webS n es,x] S Q
def MY(M:∀ f,MonoN (Δ f)){D:Df}(hb:D.body=PN)(hN:D.N.length=9)(I:D.ps.length=2):JN (i5 Δ D):=by
 intro n m x s S Q W a2 V a1 O q;unfold i5;rw[hb,hN];refine⟨I.symm,by show 0<=100000;decide,_,rfl,_,_,rfl,rfl,_,rfl,?_⟩;have P:((S++[SO.dtp []])++[SO.lst []])[S.length]?=aA (.dtp []):=m4 g9;have B:((S++[SO.dtp []])++[SO.lst []])[(S++[SO.dtp []]).length]?=aA (.lst []):=g9;have ll:(S++[SO.dtp []]).length=S.length+1:=by simp
 rw[ll]at B;have lw:((S++[SO.dtp []])++[SO.lst []]).length=S.length+2:=by simp
 have G0:Gw S ((S++[SO.dtp []])++[SO.lst []]):=(Gw.refl S).push.push;show y6 _ _ _ _ _ [aA (webS n m),aA x,aA (.loc S.length),aA (.loc (S++[SO.dtp []]).length),aB,aB,aB,aB,aB] _;rw[ll]
 refine A6 (m9 M _) (λi R k=>∃(T U X Y u:Option SV) (a:List ((Int×Int)×Int)) (o:List (Int×Int)),R=[aA (webS n m),aA x,aA (.loc S.length),aA (.loc (S.length+1)),T,U,X,Y,u]/\Gw S k/\k[S.length]?=aA (.dtp a)/\k[S.length+1]?=aA (.lst (psS o))/\DictI m s i a/\(o=[]↔PropS m s i)/\a.length<=2 * i/\o.length<=2 * i)
  ⟨_,_,_,_,_,[],[],rfl,G0,P,B,⟨λp h n e=>(by cases e),λt p h ht=>absurd ht (Zx _)⟩,⟨λ_ i j h _ hj=>absurd hj (Zx _),λ_=>rfl⟩,YF _,YF _⟩ (λ_ _ _ _=>trivial) ?_ ?_
 ·rintro i z R k E Z a3 hz ⟨T,U,X,Y,u,a,o,rfl,r,K,w,DI,A,hk,a0⟩;obtain⟨y,hy,rfl⟩:=EO hz;obtain⟨e,he,rfl⟩:=At hy;have hi:=(gM he).1;have l:=Y6 (show i<s.length by omega);have mv:=Z8 (show i<s.length by omega);generalize s[i]=v at *;have a4:S.length+2<=k.length:=by have:=(gM w).1;omega
  refine⟨_,rfl,_,rfl,_,_,V.seq k r,k8 l,?_⟩
  have te:Av m i=e:=by
   have:=Cj hi;rw[he]at this;exact(oj this).symm
  have L:∀ p,endE m i p↔(False\/p=e.1)\/p=e.2:=λp=>by unfold endE;rw[te,false_or]
  have ne:e.1≠e.2:=YG (W e (Y7 he)).1;rcases O v mv with rfl | ⟨h,rfl⟩
  ·obtain⟨C,F⟩:=DI.skip A l;exact⟨_,rfl,.inl ⟨rfl,_,rfl,ifF rfl (j6 (Z _ _ ⟨_,_,_,_,_,a,o,rfl,r,K,w,C,F,by omega,by omega⟩))⟩⟩
  refine⟨_,rfl,.inl ⟨rfl,_,rfl,ifT rfl ⟨_,rfl,_,rfl,trivial,?_⟩⟩⟩;have J0:=DJ.first (h:=h) DI A
  have G:∀(b:List ((Int×Int)×Int)) (d:List (Int×Int)) (H:Sto) (u:Option SV),Gw S H->H[S.length]?=aA (.dtp b)->H[S.length+1]?=aA (.lst (psS d))->b.length<=2 * i+1->d.length<=2 * i+1->DJ m s i h (λq=>False\/q=e.1) b d->
   y6 (keepS (pairS e) k) (.nm 7) (wSs Δ [.asg (.nm 8) (.setd vM (.tup (vB vT vS)) vO),.iff (.cmp .NotEq vU vO) [.expr kN] []]) {nx:=wSs Δ [] E,rt:=E.rt,bk:=E.bk,ct:=E.ct} [.int (e.2:Nat)] [aA (webS n m),aA x,aA (.loc S.length),aA (.loc (S.length+1)),aA (.int (i:Nat)),aA (pairS e),aA (.int h),aA (.int (e.1:Nat)),u] H:=by
   intro b d H u G3 m3 l3 k3 p3 J;refine⟨trivial,?_⟩;refine FR m3 l3 (by omega) (by omega) (λc g z=>absurd z (J.found l (by rintro(z | z);exact z;exact ne z.symm) g).1) (λc g z=>?_) (λg=>?_)
   ·obtain⟨C,F⟩:=(J.found l (by rintro(z | z);exact z;exact ne z.symm) g).2.last l L;exact⟨trivial,j6 (Δ:=Δ) (Z _ _ ⟨_,_,_,_,_,b,_,rfl,G3.put (by omega),by rw[AC (by omega)];exact m3,YV (by have:=(gM l3).1;omega),C,F,by omega,by rw[Y5,Yt];omega⟩)⟩
   ·obtain⟨C,F⟩:=(J.new l ((L e.2).mpr (.inr rfl)) g).last l L;exact⟨trivial,j6 (Δ:=Δ) (Z _ _ ⟨_,_,_,_,_,_,d,rfl,G3.put (by omega),YV (by have:=(gM m3).1;omega),by rw[AC (by omega)];exact l3,C,F,by rw[Y5,Yt];omega,by omega⟩)⟩
  refine FR K w (by omega) (by omega) (λc g z=>absurd z (J0.found l id g).1) (λc g z=>?_) (λg=>?_)
  ·exact G a _ _ _ (r.put (by omega)) (by rw[AC (by omega)];exact K) (YV (by omega)) (by omega) (by rw[Y5,Yt];omega) (J0.found l id g).2
  ·exact G _ o _ _ (r.put (by omega)) (YV (by omega)) (by rw[AC (by omega)];exact w) (by rw[Y5,Yt];omega) (by omega) (J0.new l ((L e.1).mpr (.inl (.inr rfl))) g)
 ·rintro R k ⟨T,U,X,Y,u,a,o,rfl,r,K,w,DI,A,hk,a0⟩;rw[Ci,Y4]at A;refine⟨_,rfl,S.length+1,o,rfl,rfl,w,λe=>q .non k r ⟨λ_=>A.mp e,λ_=>rfl⟩,λp I=>q _ k r ⟨nofun,λh=>?_⟩⟩;rw[A.mpr h]at I;cases I
end
def okH(y:SV):Bool:=CZ y||Rr y
def XQ{y:SV}(h:okH y=aC):y = .non\/∃ g:Int,y = .int g/\0<=g:=by
 cases y with
 | non=>exact .inl rfl
 | int i=>exact .inr ⟨i,rfl,of_decide_eq_true h⟩
 | _=>cases h
def TH{y:SV}(h:y = .non\/∃ g:Int,y = .int g/\0<=g):okH y=aC:=by
 rcases h with rfl | ⟨g,rfl,h⟩
 ·rfl
 ·exact decide_eq_true h
def HuP(es:EE)(xs:List SV):Prop:=xs.length=es.length/\(∀ y∈xs,okH y=aC)/\PropS es xs es.length
def all_at{f:SV->Bool}{xs:List SV}:(∀ i,i<xs.length->f (xs.getD i .non)=aC)↔∀ y∈xs,f y=aC:=by
 constructor
 ·intro h y b;obtain⟨i,a,rfl⟩:=List.getElem_of_mem b;have:=h i a
  rwa [Y9,Y6 a]at this
 ·intro h i a;rw[Y9,Y6 a];exact h _ (Z8 a)
section
variable{Δ:Nat->Sn}
noncomputable def TJ(a:Nat):List Stm:=[.ret (.and (.call a (vA vJ)) (.cmp .GtE vJ vQ))]
def PP(s:Sn):Prop:=∀{x:SV} {S:Sto} {k b:Nat} {Q:QE},Gd (VS S) k b x->Q (.bl (Rr x)) S->s [x] S Q
def Rs{a:Nat}(c:VU (Δ a)){D:Df}(d:D.body=TJ a)(e:D.N.length=1)(f:D.ps.length=1):PP (i5 Δ D):=by
 intro x S k b Q h q;unfold i5;rw[d,e];refine⟨f.symm,_,rfl,c h ⟨_,rfl,?_⟩⟩;cases x with
 | int i=>exact ifT rfl ⟨_,rfl,q⟩
 | _=>exact ifF rfl q
noncomputable def hg1(a:Nat):Stm:=(.iff (.or (.not (.call a (vA vK))) (.cmp .NotEq (.bi .len (vA vK)) kQ)) [.ret vW] [])
noncomputable def hg2(a:Nat):Stm:=(.iff (.not (.bi .all (vA (.comp ["item"] [] [] (.nm 0) (.seq vK) .no (.or (.cmp .Is vJ vP) (.call a (vA vJ))))))) [.ret vW] [])
noncomputable def hg3(a:Nat):Stm:=(.ret (.cmp .Is (.call a (vB vJ vK)) vP))
noncomputable def Kk(a b c:Nat):List Stm:=[hg1 a,hg2 b,hg3 c]
def Da(s:Sn):Prop:=∀{n k b:Nat} {es:EE} {x:SV} {S:Sto} {Q:QE},(∀ e∈es,e.1<e.2/\e.2<n)->es.length<=60->Gd (VS S) k b x->(∀(r:Bool) (a:Sto),Gw S a->(r=aC↔∃ xs,seqS x S=aA xs/\HuP es xs)->Q (.bl r) a)->s [webS n es,x] S Q
def JO(s:∀ f,MonoN (Δ f)){w A B:Nat}(H:VV (Δ w))(I:PP (Δ A))(J:JN (Δ B)){D:Df}(K:D.body=Kk w A B)(L:D.N.length=2)(M:D.ps.length=2):Da (i5 Δ D):=by
 intro n k b p x S Q W t C q;unfold i5;rw[K,L];refine⟨M.symm,_,rfl,H C ?_⟩;rcases C.split with⟨e,no⟩ | ⟨a,V⟩
 ·rw[e];exact⟨_,rfl,ifT rfl (q aD S (Gw.refl S) ⟨nofun,λ⟨a,z,_⟩=>absurd z (no _)⟩)⟩
 rw[V.ls];have l:=V.seq S (Gw.refl S);have u:=V.len;obtain⟨O,P,E⟩:=V.gd;have no:∀ c,Gw S c->¬ HuP p a->Q (.bl aD) c:=λc G h=>q aD c G ⟨nofun,λ⟨R,e,z⟩=>by rw[l]at e;cases e;exact absurd z h⟩;refine⟨_,rfl,ifF rfl ⟨_,rfl,_,l,_,rfl,_,_,rfl,rfl,_,rfl,_,rfl,?_⟩⟩;show if (!decide ((a.length:Int)=((p.map pairS).length:Nat)))=aC then _ else _
 rw[Y4];by_cases m:a.length=p.length
 case neg=>exact ifT (by rw[decide_eq_false (λy=>m (Yn.mp y))];rfl) (no S (Gw.refl S) λh=>m h.1)
 refine ifF (by rw[decide_eq_true (show((a.length:Nat):Int)=(p.length:Nat) by rw[m])];rfl) (j6 ?_);refine⟨_,rfl,_,l,?_⟩;refine PJ s (λi=>okH (a.getD i .non)) (by omega) (λc G=>V.keep S c (Gw.refl S) G) ?_ ?_
 ·intro i y c d G;have T:a.getD i .non=y:=by rw[Y9,d];rfl
  rw[T];refine⟨_,rfl,.inl ⟨rfl,_,rfl,?_⟩⟩;cases y with
  | non=>exact ifT rfl ⟨rfl,G⟩
  | _=>exact ifF rfl ⟨_,rfl,I ((E _ (Y7 d)).grow G) ⟨rfl,G⟩⟩
 intro U X;have j:=X.push (o:=SO.lst ((YJ a.length).map λi => .bl (okH (a.getD i .non))));refine⟨_,_,nofun,f9 g9,Rp _ _,_,rfl,?_⟩;generalize U++[SO.lst ((YJ a.length).map λi => .bl (okH (a.getD i .non)))]=Y at *;by_cases r:((YJ a.length).map λi=>okH (a.getD i .non)).all id=aC
 case neg=>
  rw[A18.mpr r];exact ifT rfl (no Y j λh=>r (all_mapF.mpr (all_at.mpr h.2.1)))
 rw[r];have F:=all_at.mp (all_mapF.mp r);refine ifF rfl (j6 ?_);refine⟨_,rfl,_,rfl,J W t ⟨λc G=>V.seq c (j.trans G),λZ c G1 G=>V.keep Z c (j.trans G1) (j.trans G),u,⟨O,P,λy d=>(E y d).grow j⟩,V.ls⟩ m (λy d=>(XQ (F y d)).imp id λ⟨g,e,_⟩=>⟨g,e⟩) λv c G ev => .inl ⟨rfl,q _ c (j.trans G) ?_⟩⟩;show CZ v=aC↔_;rw[ev];exact⟨λh=>⟨a,l,m,F,h⟩,λ⟨R,e,h⟩=>by rw[l]at e;cases e;exact h.2.2⟩
end
def IB:Option Nat->SV
 | none => .non
 | some t => .int (t:Nat)
theorem Kl{P:Nat->Bool}:∀{ts:List Nat} {j t:Nat},ts[j]?=aA t->P t=aC->(∀ u∈ts.take j,P u=aD)->ts.find? P=aA t
 | [],_,_,h,_,_=>by simp at h
 | s::ts,0,t,h,a,_=>by simp at h;subst h;rw[Yb,a]
 | s::ts,j+1,t,h,a,c=>by
   rw[Yb,c s (by simp)];exact Kl (by simpa using h) a λu b=>c u (by simp[b])
def Ac{cs:List Nat}{t:Nat}(h:t<cs.length):cs[t]?=aA (hu cs t):=by
 rw[Y6 h];show _=aA (cs.getD t 0);rw[Y9,Y6 h];rfl
section
variable{Δ:Nat->Sn}
noncomputable def TK(a:Nat):List Stm:=[.loop (.nm 4) (.seq (.call a (vB vJ vM))) [.iff (.cmp .Eq (.ix vK vO) vL) [.ret vO] []],.ret vP]
noncomputable def Km:List Stm:=[.iff (.cmp .Eq vJ vK) [.no] []]
def Cl(s:Sn):Prop:=∀{a b:Nat} {S:Sto} {Q:QE},a≠b->Q .non S->s [.int (a:Nat),.int (b:Nat)] S Q
def MZ{D:Df}(c:D.body=Km)(d:D.N.length=2)(e:D.ps.length=2):Cl (i5 Δ D):=by
 intro a b S Q f q;unfold i5;rw[c,d];refine⟨e.symm,_,rfl,_,rfl,_,rfl,?_⟩;exact ifF (decide_eq_false λz=>f (Yn.mp z)) q
noncomputable def rf4(a b:Nat):Stm:=(.whl (.cmp .IsNot vS vP) [.expr (.mt .append vR (vA vS)),.asg (.nm 2) (.call a (vC vJ vS vM)),.par 3 4 vO vL,.asg (.nm 6) (.call b (vD vJ vK vM vL))])
noncomputable def rf1(b c a:Nat):List Stm:=[.expr (.call b (vB vJ vM)),.expr (.call c (vB vL vO)),.iff (.cmp .IsNot (.call a (vD vJ vK vM vO)) vP) [.no] [],.asg (.nm 5) kG,.asg (.nm 6) (.call a (vD vJ vK vM vL))]
noncomputable def TL(b c a d:Nat):List Stm:=rf1 b c a++[rf4 d a,.ret vR]
def Kn{es:EE}{cs:List Nat}{x h:Nat}(z:∀ u,AtP es u x->hu cs u≠h):w4 es cs x h=aB:=by
 unfold w4;rw[ZF];intro u a y;exact z u (mem_tiesAt.mp a) (of_decide_eq_true y)
noncomputable def ec2(a:Nat):Stm:=(.loop (.nm 6) (.seq vM) [.iff (.or (.not (.call a (vB vJ vS))) (.cmp .NotIn (.ix vK vS) (.tup (vB vL vO)))) [.no] [],.put vR vS (.ife (.cmp .Eq (.ix vK vS) vL) vO vL)])
noncomputable def TM(a b c:Nat):List Stm:=[.expr (.call a (vB vL vO)),.asg (.nm 5) (.bi .list (vA vK)),ec2 b,.iff (.not (.call c (vB vJ vR))) [.no] [],.ret vR]
def Rt(cs:List Nat)(a b:Nat):exL cs [] a b=cs:=by
 conv=>rhs;rw[<-VT cs]
 unfold exL;exact Zv λt _=>by simp
def PR{cs r:List Nat}{a b t:Nat}(f:t<cs.length):exL cs (r++[t]) a b=(exL cs r a b).set t (if hu cs t=a then b else a):=by
 apply ZN;intro i;by_cases c:i<cs.length
 ·have d:(exL cs (r++[t]) a b)[i]?=aA (hu (exL cs (r++[t]) a b) i):=Ac (by rw[Ai];exact c);rw[d,EU c];by_cases e:i=t
  ·subst e;rw[YV (by rw[Ai];exact c),iP (by simp)]
  ·rw[Yq (Ne.symm e),Ac (by rw[Ai];exact c),EU c]
   congr 1
   have:i∈r++[t]↔i∈r:=by simp[e]
   by_cases z:i∈r
   ·rw[iP z,iP (this.mpr z)]
   ·rw[iG z,iG (λy=>z (this.mp y))]
 ·rw[Yd (by rw[Ai];omega),Yd (by rw[YZ,Ai];omega)]
def ar1(a:Nat):Stm:=(.iff (.or (.not (.call a (vA vL))) (.not (.call a (vA vO)))) [.ret vP] [])
noncomputable def TN(a kr b:Nat):List Stm:=[ar1 a,.tri [.ret (.call b (vE vJ vK (.call kr (vE vJ vK vM vL vO)) vL vO))]]
noncomputable def as1:Stm:=(.iff (.or (.not (.bi .isi (vB vM (.tyc .tuple)))) (.not vM)) [.ret vP] [])
noncomputable def as2:Stm:=(.asg (.nm 3) (.ix vM vQ))
noncomputable def as3(w:Str)(n:Int)(e:Ex):Stm:=(.iff (.and (.cmp .Eq vL (.c (.str w))) (.cmp .Eq (.bi .len (vA vM)) (.c (.int n)))) [.ret e] [])
noncomputable def JP(a kd b kr:Nat):List Stm:=[as1,as2,as3 "hue" 3 (.call a (vD vJ vK (.ix vM vN) (.ix vM vY))),as3 "drop" 2 (.call kd (vC vJ vK (.ix vM vN))),as3 "move" 3 (.call b (vD vJ vK (.ix vM vN) (.ix vM vY))),as3 "row" 4 (.call kr (vE vJ vK (.ix vM vN) (.ix vM vY) (.ix vM vV))),.ret vP]
noncomputable def TQ(a:Nat):List Stm:=[.asg (.nm 3) (.call a (vC vJ vK vM)),.iff (.cmp .Is vL vP) [.no] [],.ret vL]
end
def Ru{ns:List Int}{x:Int}:x∈srt ns↔x∈ns:=by unfold srt;exact A10
def VW(x:Int)(ns:List Int):inS (.int x) (ns.map SV.int)=decide (x∈ns):=by
 rw[Yp,dQ];unfold inS;rw[A01,Z9];constructor
 ·rintro⟨a,b,h⟩;have h:(a == x)=aC:=h;rw[bQ]at h;rw[<-h];exact b
 ·intro h;exact⟨x,h,by show(x == x)=aC;simp⟩
def PU(ns:List Int):(ns.map SV.int).all AI=aC:=by
 rw[A0C,YX];intro _ _;rfl
section
variable{Δ:Nat->Sn}
noncomputable def Ko(a:Nat):List Stm:=[.ret (.bi .sorted (vA (.comp ["tie"] ["hueing"] [1] (.nm 0) (.seq (.call a (vB vJ vM))) (.yes (.cmp .IsNot (.ix vK vJ) vP)) (.ix vK vJ))))]
end
def EV{cs:List Nat}{c t:Nat}(h:t<cs.length):hu (cs++[c]) t=hu cs t:=by
 show(cs++[c]).getD t 0=cs.getD t 0;rw[Y9,Y9,YM h]
def GH{cs:List Nat}{c:Nat}:hu (cs++[c]) cs.length=c:=by
 show(cs++[c]).getD cs.length 0=c;rw[Y9,YY];rfl
def PV{m:Nat}{g:Nat->Nat}{t:Nat}(h:t<m):hu ((YJ m).map g) t=g t:=by
 show((YJ m).map g).getD t 0=g t;rw[Y9,YA,Yx h];rfl
section
variable{Δ:Nat->Sn}
def PX{α:Type}(x:α)(m:Nat):(YR m [x]).flatten=(YJ m).map λ_=>x:=by
 refine ZN λk=>?_
 induction m generalizing k with
 | zero=>rfl
 | succ m a=>
   rw[Yv,ZA,A0F,Yf,Zo];cases k with
   | zero=>rfl
   | succ k=>exact a k
noncomputable def Kp(a:Nat):List Stm:=[.asg (.nm 3) kG,.asg (.nm 4) vK,.loop (.tup (.cons (.nm 5) (.cons (.nm 6) .nil))) (.enum vM) [.asg (.nm 4) (.call a (vC vJ vO vS)),.iff (.cmp .Is vO vP) [.no] [],.expr (.mt .append vL (vA vO))],.ret vL]
end
def pS(c:Nat):SV:=if c<1000 then .int (c:Nat) else .non
def j7(cs:List Nat):List SV:=cs.map pS
def v8{c:Nat}(h:c<1000):pS c = .int (c:Nat):=iP h
def y9{c:Nat}(h:¬ c<1000):pS c = .non:=iG h
def AD{cs:List Nat}:(j7 cs).length=cs.length:=by unfold j7;rw[Y4]
def AQ{cs:List Nat}{i c:Nat}(h:cs[i]?=aA c):(j7 cs)[i]?=aA (pS c):=by unfold j7;rw[YA,h];rfl
def GI{cs:List Nat}{i:Nat}{x:SV}(h:(j7 cs)[i]?=aA x):∃ c,cs[i]?=aA c/\x=pS c:=by
 unfold j7 at h;rw[YA]at h;cases he:cs[i]? with
 | none=>rw[he]at h;cases h
 | some e=>rw[he]at h;exact⟨e,rfl,(oj h).symm⟩
def XR{c h:Nat}(a:h<1000){S:Sto}{Q:QE}(q:Q (.bl (decide (c=h))) S):BE .Eq (pS c) (.int (h:Nat)) S Q:=by
 by_cases z:c<1000
 ·rw[v8 z];show Q (.bl (decide ((c:Int)=(h:Int)))) S;rw[show decide ((c:Int)=(h:Int))=decide (c=h) by rw[Yp];simp[Yn]];exact q
 ·rw[y9 z];show Q (.bl aD) S;rw[show decide (c=h)=aD from decide_eq_false (by omega)]at q;exact q
def Kq{es:EE}{cs:List Nat}(P:Prp es cs):HuP es (j7 cs):=by
 refine⟨by rw[AD];exact P.len,λy k=>?_,λi j h n o q r s=>?_⟩
 ·unfold j7 at k;obtain⟨c,_,rfl⟩:=YO.mp k;by_cases z:c<1000
  ·rw[v8 z];exact TH (.inr ⟨_,rfl,by omega⟩)
  ·rw[y9 z];exact TH (.inl rfl)
 ·obtain⟨l,u,v⟩:=GI q;obtain⟨m,w,d⟩:=GI r
  have a:∀{c:Nat} {h:Int},SV.int h=pS c->h=(c:Nat):=λ{c h} e=>by
   by_cases z:c<1000
   ·rw[v8 z]at e;injection e
   ·rw[y9 z]at e;cases e
  have d:l=m:=Yn.mp ((a v).symm.trans (a d));obtain⟨p,x,A⟩:=shr_end.mp s
  have b:∀ t,t<es.length->endE es t p->AtP es t p:=λt B z=>by
   refine⟨Av es t,Cj B,?_⟩;exact z.imp Eq.symm Eq.symm
  have f:hu cs i=l:=by show cs.getD i 0=_;rw[Y9,u];rfl
  have g:hu cs j=m:=by show cs.getD j 0=_;rw[Y9,w];rfl
  have:=P.one i j p (b i (by omega) x) (b j o A) (by rw[f,g,d]);omega
def PY{S:Sto}{l:Nat}{cs:List Nat}(h:S[l]?=aA (.lst (j7 cs)))(d:cs.length<=60):Gd (VS S) 1 1000 (.loc l):=by
 refine .lst (k:=0) (b:=10) h (λy a=>?_) (by rw[AD];omega) (by rw[AD];omega);unfold j7 at a;obtain⟨c,e,rfl⟩:=YO.mp a;by_cases z:c<1000
 ·rw[v8 z];exact .int ⟨by omega,by omega⟩
 ·rw[y9 z];exact .non
def GJ{cs:List Nat}{t h u:Nat}(a:t<cs.length):hu (cs.set t h) u=if u=t then h else hu cs u:=by
 show(cs.set t h).getD u 0=_;rw[Y9];by_cases e:u=t
 ·subst e;rw[YV a,iP rfl];rfl
 ·rw[Yq (Ne.symm e),iG e];show _=cs.getD u 0;rw[Y9]
section
variable{n H:Nat}{es:EE}{cs:List Nat}
def Db(P:Prp es cs)(c:∀ e∈es,e.1<e.2/\e.2<n){p a b:Nat}(ab:a≠b)(no:∀ u,AtP es u p->hu cs u≠b):∃ x d f,RwI es cs a b p (rwF es cs (es.length+1) p a b) x d f/\∀ u,AtP es u x->hu cs u≠d:=by
 have:=PH P ab (λe g=>YG (c e g).1) (es.length+1) [] p a b (RwI.nil no) (by simp);simpa using this
def Dd{a b p x c d:Nat}{r:List Nat}(R:RwI es cs a b p r x c d):∀ t∈r,hu cs t=a\/hu cs t=b:=λt e=>by
 obtain⟨i,f⟩:=ZQ e;rw[R.alt i t f];split<;>simp
end
def frL(es:EE)(cs:List Nat)(p H:Nat):List Nat:=(YJ H).filter λh=>(w4 es cs p h).isNone
def mem_frL{es:EE}{cs:List Nat}{p H h:Nat}:h∈frL es cs p H↔h<H/\∀ u,AtP es u p->hu cs u≠h:=by
 unfold frL;rw[Z1,YU];constructor
 ·rintro⟨a,b⟩;refine⟨a,Aj ?_⟩;simpa using b
 ·rintro⟨a,b⟩;refine⟨a,?_⟩;rw[Kn b];rfl
def Rv{es:EE}{cs:List Nat}{p H t:Nat}(o:H<=1000)(d:AtP es t p)(q:¬ hu cs t<1000)(r:t8 es p<=H):frL es cs p H≠[]:=by
 intro e
 have all:∀ h,h<H->∃ u,w4 es cs p h=aA u:=λh c=>by
  cases z:w4 es cs p h with
  | some u=>exact⟨u,rfl⟩
  | none=>
    have:h∈frL es cs p H:=mem_frL.mpr ⟨c,Aj z⟩;rw[e]at this;cases this
 have f:∀ h,h<H->AtP es ((w4 es cs p h).getD 0) p/\hu cs ((w4 es cs p h).getD 0)=h:=λh c=>by
  obtain⟨u,z⟩:=all h c;rw[z];exact v7 z
 have j:(t::(YJ H).map λh=>(w4 es cs p h).getD 0).Nodup:=by
  rw[Yy];refine⟨λz=>?_,?_⟩
  ·obtain⟨h,c,e⟩:=YO.mp z;have k:=YU.mp c;have:=(f h k).2;rw[e]at this;omega
  ·rw[List.Nodup,A0o];refine List.Pairwise.imp_of_mem (λ{a b} l m n e=>n ?_) A0x;rw[<-(f a (YU.mp l)).2,<-(f b (YU.mp m)).2,e]
 have g:=List.Nodup.length_le_of_subset j (l₂:=j8 es p es.length) λu i=>by
  rcases YH.mp i with z | z
  ·rw[z];exact mem_tiesAt.mpr d
  ·obtain⟨h,c,rfl⟩:=YO.mp z;exact mem_tiesAt.mpr (f h (YU.mp c)).1
 rw[Ya,Y4,Yl]at g;have:t8 es p=(j8 es p es.length).length:=rfl;omega
def PZ{l:List Nat}(h:l≠[]):l.headD 0∈l:=by
 cases l with
 | nil=>exact absurd rfl h
 | cons a l=>exact YL ..
def cs0(m:Nat):List Nat:=(YJ m).map λt=>1000+t
def GK{m t:Nat}(h:t<m):hu (cs0 m) t=1000+t:=PV h
def Rw(es:EE):Prp es (cs0 es.length):=by
 refine⟨by unfold cs0;rw[Y4,Yl],λt u y b a e=>?_⟩;rw[GK b.lt,GK a.lt]at e;omega
section
variable{Δ:Nat->Sn}
noncomputable def Pa(a:Nat):List Stm:=[.ret (.and (.call a (vB vJ vM)) (.cmp .Is (.ix vK vM) vP))]
def De(s:Sn):Prop:=∀{n k t:Nat} {es:EE} {cs:List Nat} {S:Sto} {Q:QE},cs.length=es.length->t<es.length->¬ hu cs t<1000->S[k]?=aA (.lst (j7 cs))->Q (.bl aC) S->s [webS n es,.loc k,.int (t:Nat)] S Q
def Pb{b:Nat}(c:BO (Δ b)){D:Df}(d:D.body=Pa b)(e:D.N.length=3)(f:D.ps.length=3):De (i5 Δ D):=by
 intro n k t l cs S Q m g h i q;unfold i5;rw[d,e];have j:=Ac (cs:=cs) (t:=t) (by omega);have a:(j7 cs)[t]?=aA .non:=by rw[AQ j,y9 h]
 exact⟨f.symm,_,rfl,_,rfl,c g ⟨_,rfl,ifT rfl ⟨_,rfl,_,rfl,_,_,f9 i,k8 a,.inl ⟨rfl,q⟩⟩⟩⟩
noncomputable def TR(a:Nat):List Stm:=[.asg (.nm 3) (.bi .list (vA vK)),.loop (.tup (.cons (.nm 4) (.cons (.nm 5) .nil))) (.seq vM) [.put vL vO vR],.ret (.ife (.call a (vB vJ vL)) vL vP)]
noncomputable def TU(a b c:Nat):List Stm:=[.iff (.or (.not (.call a (vC vJ vK vM))) (.not (.call b (vA vL)))) [.ret vP] [],.ret (.call c (vC vJ vK (.lst (vA (.tup (vB vM vL))))))]
def VX(c:Nat):CZ (pS c)=!decide (c<1000):=by
 by_cases z:c<1000
 ·rw[v8 z,decide_eq_true z];rfl
 ·rw[y9 z,decide_eq_false z];rfl
noncomputable def Pc(a:Nat):List Stm:=[.asg (.nm 4) (.call a (vC vJ vK vM)),.ret (.comp ["hue"] ["taken"] [4] (.nm 0) (.rng1 vL) (.yes (.cmp .NotIn vJ vK)) vJ)]
end
def Hv(S:Sto)(x:SV)(cs:List Nat):Prop:=x = .tup (j7 cs)\/∃ k,x = .loc k/\S[k]?=aA (.lst (j7 cs))
def Hv.seq{S:Sto}{x:SV}{cs:List Nat}(h:Hv S x cs):seqS x S=aA (j7 cs):=by
 rcases h with rfl | ⟨k,rfl,h⟩
 ·rfl
 ·exact f9 h
def Hv.gw{S a:Sto}{x:SV}{cs:List Nat}(h:Hv S x cs)(G:Gw S a):Hv a x cs:=h.imp id λ⟨k,e,h⟩=>⟨k,e,G.keep _ _ h⟩
def Hv.loc{S:Sto}{k:Nat}{cs:List Nat}(h:S[k]?=aA (.lst (j7 cs))):Hv S (.loc k) cs := .inr ⟨k,rfl,h⟩
def IC{S a b:Sto}{l:Nat}(G:Gw S a)(O:On l a b)(h:S.length<=l):Gw S b:=⟨Yg G.len O.len,λj o e=>O.keep j o (by have:=(gM e).1;omega) (G.keep j o e)⟩
section
variable{Δ:Nat->Sn}
def Dh(s:Sn):Prop:=∀{n p h:Nat} {w:SV} {es:EE} {cs:List Nat} {S:Sto} {Q:QE},Hv S w cs->cs.length=es.length->es.length<=1000->p<n->h<1000->(∀ a,Gw S a->Q (IB (w4 es cs p h)) a)->s [webS n es,w,.int (p:Nat),.int (h:Nat)] S Q
def Pd(g:∀ f,MonoN (Δ f)){r:Nat}(v:Bn (Δ r)){D:Df}(A:D.body=TK r)(B:D.N.length=5)(C:D.ps.length=4):Dh (i5 Δ D):=by
 intro n p h w b cs S Q F P G i H q;unfold i5;rw[A,B];refine⟨C.symm,_,rfl,_,rfl,v (by omega) i ⟨_,f9 g9,?_⟩⟩;have k:Gw S (S++[SO.lst (j9 (j8 b p b.length))]):=(Gw.refl S).push;have l:=F.gw k;generalize S++[SO.lst (j9 (j8 b p b.length))]=I at *;refine A6 (m9 g _) (λj m d=>d=I/\∃ o:Option SV,m=[aA (webS n b),aA w,aA (.int (p:Nat)),aA (.int (h:Nat)),o]/\∀ u∈(j8 b p b.length).take j,decide (hu cs u=h)=aD) ⟨rfl,aB,rfl,λu a=>by simp at a⟩ (λ_ _ _ z=>by rw[z.1];exact rfl) ?_ ?_
 ·rintro j x m d E J K L ⟨rfl,o,rfl,no⟩;obtain⟨t,c,rfl⟩:=C3 L;have s:=(mem_tiesAt.mp (Y7 c))
  have s:t<b.length:=let ⟨e,M,_⟩:=s;(gM M).1
  have O:=Ac (cs:=cs) (t:=t) (by omega);refine⟨_,rfl,_,rfl,_,_,l.seq,k8 (AQ O),_,rfl,XR H ⟨_,rfl,ifD (λz=>?_) (λz=>?_)⟩⟩
  ·have e:w4 b cs p h=aA t:=Kl c (decide_eq_true z) no;refine⟨_,rfl,K _ _ ?_⟩;have:=q d k;rw[e]at this;exact this
  ·refine J _ _ ⟨rfl,_,rfl,λu a=>?_⟩;rw[Yo,c]at a;rcases YT.mp a with y | y
   ·exact no u y
   ·have:u=t:=by simpa using y
    rw[this];exact decide_eq_false z
 ·rintro m d ⟨rfl,o,rfl,no⟩;rw[p0,Yk]at no
  have e:w4 b cs p h=aB:=by
   unfold w4;rw[ZF];intro u a z;rw[no u a]at z;cases z
  have:=q d k;rw[e]at this;exact this
def JQ(s:Sn):Prop:=∀{n p a b:Nat} {w:SV} {es:EE} {cs:List Nat} {S:Sto} {Q:QE},Hv S w cs->a<1000->b<1000->Prp es cs->(∀ e∈es,e.1<e.2/\e.2<n)->es.length<=1000->p<n->a≠b->(∀ u,AtP es u p->hu cs u≠b)->
 (∀(l:Nat) (c:Sto),Gw S c->S.length<=l->c[l]?=aA (.lst (j9 (rwF es cs (es.length+1) p a b)))->Q (.loc l) c)->s [webS n es,w,.int (p:Nat),.int (a:Nat),.int (b:Nat)] S Q
def Pe(a0:∀ f,MonoN (Δ f)){k A:Nat}(E:Dh (Δ k))(hf:As (Δ A)){n p a b:Nat}{w:SV}{es:EE}{cs:List Nat}{S:Sto}{Q:QE}(X:List Stm)(B:Hv S w cs)(a9:a<1000)(b9:b<1000)(P:Prp es cs)(o:∀ e∈es,e.1<e.2/\e.2<n)(h:es.length<=1000)(i:p<n)(ab:a≠b)(s:∀ u,AtP es u p->hu cs u≠b)
 (q:∀(l:Nat) (g:Sto),Gw S g->S.length<=l->g[l]?=aA (.lst (j9 (rwF es cs (es.length+1) p a b)))->Q (.loc l) g):
 wSs Δ [.iff (.cmp .IsNot (.call k (vD vJ vK vM vO)) vP) X [],.asg (.nm 5) kG,.asg (.nm 6) (.call k (vD vJ vK vM vL)),rf4 A k,.ret vR] (u8 Q) [aA (webS n es),aA w,aA (.int (p:Nat)),aA (.int (a:Nat)),aA (.int (b:Nat)),aB,aB] S:=by
 have F:∀ e∈es,e.1≠e.2:=λe j=>YG (o e j).1;have G:=P.len;refine⟨_,rfl,_,rfl,_,rfl,_,rfl,E B G h i b9 λC H=>?_⟩;rw[Kn s];refine .inl ⟨rfl,_,rfl,ifF rfl (j6 ?_)⟩;refine⟨by show 0<=100000;decide,?_⟩;have I:=B.gw H;refine⟨_,rfl,_,rfl,_,rfl,_,rfl,E (I.gw (Gw.refl C).push) G h i a9 λv N=>?_⟩;have h2:v[C.length]?=aA (.lst []):=N.keep _ _ g9;have T:Gw S v:=H.trans ((Gw.refl C).push.trans N);have J:=H.len;generalize C.length=l at *;show wSs Δ [rf4 A k,.ret vR] (u8 Q) [aA (webS n es),aA w,aA (.int (p:Nat)),aA (.int (a:Nat)),aA (.int (b:Nat)),aA (.loc l),aA (IB (w4 es cs p a))] v;refine⟨λm U g=>∃(r:List Nat) (x d c:Nat),U=[aA (webS n es),aA w,aA (.int (x:Nat)),aA (.int (d:Nat)),aA (.int (c:Nat)),aA (.loc l),aA (IB (w4 es cs x d))]/\RwI es cs a b p r x d c/\x<n/\r++rwF es cs (es.length+1 - r.length) x d c=rwF es cs (es.length+1) p a b/\m+r.length=es.length+1/\On l v g/\g[l]?=aA (.lst (j9 r)),⟨es.length+1,[],p,a,b,rfl,RwI.nil s,i,rfl,rfl,On.refl _ _,h2⟩,?_⟩;rintro m U g ⟨r,x,d,c,rfl,R,xn,K,em,O,D⟩;have rl:=R.len;have y:Gw S g:=IC T O J;have a1:=B.gw y;cases hz:w4 es cs x d with
 | none=>
   refine⟨_,rfl,.inl ⟨rfl,_,rfl,ifF rfl ?_⟩⟩
   have e0:rwF es cs (es.length+1 - r.length) x d c=[]:=by
    rw[show es.length+1 - r.length=(es.length - r.length)+1 by omega];unfold rwF;rw[hz]
   rw[e0,Z2]at K;exact⟨_,rfl,q l g y J (by rw[D,K])⟩
 | some t=>
   obtain⟨⟨e,j,V⟩,L⟩:=v7 hz;have a2:=o e (Y7 j);have ge:es.getD t (0,0)=e:=by rw[Y9,j];rfl
   have W:=R.step P ab j V (F e (Y7 j)) L;have Y:Ab e x<n:=by unfold Ab;split<;>omega
   have e1:rwF es cs (es.length+1 - r.length) x d c=t::rwF es cs (es.length+1 - (r++[t]).length) (Ab e x) c d:=by
    rw[show es.length+1 - r.length=(es.length - r.length)+1 by omega,show es.length+1 - (r++[t]).length=es.length - r.length by rw[Y5];simp]
    conv=>lhs;unfold rwF
    rw[hz];dsimp only;rw[ge]
   refine⟨_,rfl,.inl ⟨rfl,_,rfl,ifT rfl ?_⟩⟩;refine⟨_,rfl,⟨_,_,rfl,D⟩,_,rfl,_,D,by rw[p0];show _<100000;omega,?_⟩;have h3:(g.set l (.lst (j9 r++[.int (t:Nat)])))[l]?=aA (.lst (j9 (r++[t]))):=by rw[t9 D,Au];rfl
   have Z:On l v (g.set l (.lst (j9 r++[.int (t:Nat)]))):=O.tape;have M:=B.gw (IC T Z J);show wSs Δ [.asg (.nm 2) (.call A (vC vJ vS vM)),.par 3 4 vO vL,.asg (.nm 6) (.call k (vD vJ vK vM vL))] _ [aA (webS n es),aA w,aA (.int (x:Nat)),aA (.int (d:Nat)),aA (.int (c:Nat)),aA (.loc l),aA (.int (t:Nat))] (g.set l (.lst (j9 r++[.int (t:Nat)])));generalize g.set l (.lst (j9 r++[.int (t:Nat)]))=S3 at *;refine⟨_,rfl,_,rfl,_,rfl,hf j (V.imp Eq.symm Eq.symm) ?_⟩;refine⟨_,rfl,_,rfl,?_⟩;refine⟨_,rfl,_,rfl,_,rfl,_,rfl,E M G h Y (by rcases R.ab.2 with z | z<;>rw[z]<;>assumption) λS4 G4=>?_⟩;refine⟨es.length+1 - (r++[t]).length,by rw[Y5];simp;omega,r++[t],Ab e x,c,d,rfl,W,Y,?_,?_,Z.trans (VQ G4),G4.keep _ _ h3⟩
   ·rw[<-K,e1];simp
   ·have:=W.len;omega
def Rx(d:∀ f,MonoN (Δ f)){j k l m:Nat}(r:Ag (Δ j))(e:Cl (Δ k))(s:Dh (Δ l))(t:As (Δ m)){D:Df}(u:D.body=TL j k l m)(v:D.N.length=7)(x:D.ps.length=5):JQ (i5 Δ D):=by
 intro n p a b w B C S Q y z A P g h c o i q;unfold i5;rw[u,v];exact⟨x.symm,_,rfl,_,rfl,r c ⟨_,rfl,_,rfl,e o (Pe d s t [.no] y z A P g h c o i q)⟩⟩
def GL(s:Sn):Prop:=∀{n l a b:Nat} {w:SV} {es:EE} {cs r:List Nat} {S:Sto} {Q:QE},Hv S w cs->a<1000->b<1000->S[l]?=aA (.lst (j9 r))->cs.length=es.length->(∀ e∈es,e.1<e.2/\e.2<n)->es.length<=60->a≠b->(∀ t∈r,t<es.length)->(∀ t∈r,hu cs t=a\/hu cs t=b)->r.length<=1000->Prp es (exL cs r a b)->
 (∀(c:Nat) (d:Sto),Gw S d->S.length<=c->d[c]?=aA (.lst (j7 (exL cs r a b)))->Q (.loc c) d)->s [webS n es,w,.loc l,.int (a:Nat),.int (b:Nat)] S Q
def Pf(C:∀ f,MonoN (Δ f)){T E F:Nat}(G:Cl (Δ T))(X:BO (Δ E))(Y:Da (Δ F)){D:Df}(Z:D.body=TM T E F)(hN:D.N.length=7)(hp:D.ps.length=5):GL (i5 Δ D):=by
 intro n l a b w v cs r S Q U a9 b9 A a0 H I ab J g V P q;unfold i5;rw[Z,hN];refine⟨hp.symm,_,rfl,_,rfl,G ab ⟨_,rfl,_,U.seq,?_⟩⟩;show wSs Δ [ec2 E,.iff (.not (.call F (vB vJ vR))) [.no] [],.ret vR] (u8 Q) [aA (webS n v),aA w,aA (.loc l),aA (.int (a:Nat)),aA (.int (b:Nat)),aA (.loc S.length),aB] (S++[.lst (j7 cs)]);have ll:=(gM A).1;refine⟨_,rfl,_,f9 (m4 A),?_⟩;refine y8 (m9 C _) (λi B c=>∃ k:Option SV,B=[aA (webS n v),aA w,aA (.loc l),aA (.int (a:Nat)),aA (.int (b:Nat)),aA (.loc S.length),k]/\On S.length (S++[.lst (j7 cs)]) c/\c[S.length]?=aA (.lst (j7 (exL cs (r.take i) a b)))) ⟨aB,rfl,On.refl _ _,by rw[List.take_zero,Rt];exact g9⟩ (λi B c h=>?_) ?_ ?_
 ·obtain⟨_,_,O,_⟩:=h;show c[l]?=(S++[SO.lst (j7 cs)])[l]?;rw[m4 A];exact O.keep _ _ (by omega) (m4 A)
 ·rintro i x B c hx ⟨k,rfl,O,d⟩;obtain⟨t,m,rfl⟩:=C3 hx;have K:=Y7 m;have tl:=J t K;have p:=U.gw (IC (Gw.refl S).push O (YF _));have hc:=Ac (cs:=cs) (t:=t) (by omega);have L:hu cs t<1000:=by rcases g t K with z | z<;>rw[z]<;>assumption
  have s:(j7 cs)[t]?=aA (.int (hu cs t:Nat)):=by rw[AQ hc,v8 L]
  have e:r.take (i+1)=r.take i++[t]:=by rw[Yo,m];rfl
  refine⟨_,rfl,_,rfl,X tl ⟨_,rfl,ifF rfl ⟨_,rfl,_,rfl,_,_,p.seq,k8 s,_,rfl,_,rfl,by show 2<=100000;decide,rfl,_,rfl,rfl,_,rfl,?_⟩⟩⟩
  have M:(!inS (.int (hu cs t:Nat)) [.int (a:Nat),.int (b:Nat)])=aD:=by
   rcases g t K with z | z<;>rw[z]<;>simp[inS,show ∀ a b:Int,eqF (.int a) (.int b)=(a == b) from λ_ _=>rfl]
  refine ifF M (j6 ?_)
  have u:∀ z:Int,z=((if hu cs t=a then b else a:Nat):Int)->HG (.loc S.length) (.int (t:Nat)) (.int z) c λW=>∃ k:Option SV,[aA (webS n v),aA w,aA (.loc l),aA (.int (a:Nat)),aA (.int (b:Nat)),aA (.loc S.length),aA (.int (t:Nat))]=[aA (webS n v),aA w,aA (.loc l),aA (.int (a:Nat)),aA (.int (b:Nat)),aA (.loc S.length),k]/\On S.length (S++[.lst (j7 cs)]) W/\W[S.length]?=aA (.lst (j7 (exL cs (r.take (i+1)) a b))):=by
   rintro _ rfl;refine⟨_,t,d,GD (by rw[AD,Ai];omega),_,rfl,O.tape,?_⟩;rw[t9 d,e,PR (by omega)];unfold j7;rw[A1B,v8 (by split<;>assumption)]
  refine⟨_,rfl,_,rfl,_,_,p.seq,k8 s,_,rfl,_,rfl,ifD (λz=>⟨_,rfl,_,rfl,_,rfl,u _ ?_⟩) (λz=>⟨_,rfl,_,rfl,_,rfl,u _ ?_⟩)⟩
  ·have z:hu cs t=a:=Yn.mp z;rw[iP z]
  ·have z:¬ hu cs t=a:=λy=>z (congrArg _ y);rw[iG z]
 ·rintro B c ⟨k,rfl,O,d⟩;rw[p0,Yk]at d;refine⟨_,rfl,_,rfl,Y H I (PY d (by rw[Ai];omega)) λrr S2 R e2=>?_⟩;have:rr=aC:=e2.mpr ⟨_,f9 d,Kq P⟩;subst this;refine⟨_,rfl,ifF rfl (j6 ⟨_,rfl,q S.length S2 ?_ (YF _) (R.keep _ _ d)⟩)⟩;refine⟨Yg (Yg (by rw[Y5];omega) O.len) R.len,λj o h=>R.keep _ _ (O.keep j o ?_ (m4 h))⟩;exact YG (gM h).1
def DC(s:Sn):Prop:=∀{n p:Nat} {w:SV} {es:EE} {cs:List Nat} {S:Sto} {Q:QE},Hv S w cs->cs.length=es.length->es.length<=60->p<n->(∀(l:Nat) (ns:List Int) (a:Sto),Gw S a->a[l]?=aA (.lst (ns.map SV.int))->(∀ h:Nat,h<1000->((h:Int)∈ns↔∃ u,AtP es u p/\hu cs u=h))->Q (.loc l) a)->s [webS n es,w,.int (p:Nat)] S Q
def JR(i:∀ f,MonoN (Δ f)){v:Nat}(B:Bn (Δ v)){D:Df}(C:D.body=Ko v)(E:D.N.length=3)(F:D.ps.length=3):DC (i5 Δ D):=by
 intro n p w a cs S Q G O H m q;unfold i5;rw[C,E];refine⟨F.symm,_,rfl,_,rfl,B (by omega) m ⟨_,f9 g9,?_⟩⟩;have y:Gw S (S++[SO.lst (j9 (j8 a p a.length))]):=(Gw.refl S).push;have k:=G.gw y;generalize S++[SO.lst (j9 (j8 a p a.length))]=I at *;have P:(j8 a p a.length).length<=a.length:=C4 _ _
 have A:∀ j,((((j8 a p a.length).take j).map (hu cs)).filter λc=>decide (c<1000)).length<=a.length:=λj=>by
  have:=ZY (λc=>decide (c<1000)) (((j8 a p a.length).take j).map (hu cs));rw[Y4,Z7]at this;omega
 refine m7 (n9 i _).2 (c8 i _).1 (λj o r=>r=I/\o=j9 ((((j8 a p a.length).take j).map (hu cs)).filter λc=>decide (c<1000))) ⟨rfl,rfl⟩ (λ_ _ _ z=>by rw[z.1];exact rfl) ?_ ?_
 ·rintro j x o r J ⟨rfl,rfl⟩;obtain⟨t,d,rfl⟩:=C3 J;obtain⟨e,K,_⟩:=mem_tiesAt.mp (Y7 d);have l:=Ac (cs:=cs) (t:=t) (by have:=(gM K).1;omega);have L:=(gM d).1
  have b:(((j8 a p a.length).take (j+1)).map (hu cs)).filter (λc=>decide (c<1000))=(((j8 a p a.length).take j).map (hu cs)).filter (λc=>decide (c<1000))++if decide (hu cs t<1000)=aC then [hu cs t] else []:=by
   rw[Yo,d,YN,Zp]
   congr 1
   show A1j (λc=>decide (c<1000)) [hu cs t]=_;rw[ZK];rfl
  refine⟨_,rfl,_,rfl,_,_,k.seq,k8 (AQ l),.inl ⟨rfl,_,rfl,?_⟩⟩;show if (if aC=aC then !CZ (pS (hu cs t)) else CZ (pS (hu cs t)))=aC then _ else _
  rw[iP rfl,VX,Bool.not_not];refine ifD (λz=>?_) (λz=>⟨rfl,?_⟩)
  ·rw[iP (decide_eq_true z)]at b;refine⟨_,rfl,_,rfl,_,_,k.seq,k8 (AQ l),by rw[p0];have:=A j;show _<100000;omega,rfl,?_⟩;rw[b,Au,v8 z];rfl
  ·rw[iG (by simpa using z),Z2]at b;rw[b]
 ·rintro o r ⟨rfl,rfl⟩;rw[p0,Yk];have s:=A (j8 a p a.length).length;rw[Yk]at s;refine⟨_,_,nofun,f9 g9,Kf _,by rw[Y4];omega,?_⟩;refine q _ _ _ y.push.push g9 λh M=>?_;rw[Ru];constructor
  ·intro z;obtain⟨c,l,e⟩:=YO.mp z;obtain⟨u,g,rfl⟩:=YO.mp (Z1.mp l).1;exact⟨u,mem_tiesAt.mp g,Yn.mp e⟩
  ·rintro⟨u,g,rfl⟩;exact YO.mpr ⟨_,Z1.mpr ⟨YO.mpr ⟨u,mem_tiesAt.mpr g,rfl⟩,decide_eq_true M⟩,rfl⟩
def C5(s:Sn):Prop:=∀{n H p:Nat} {w:SV} {es:EE} {cs:List Nat} {S:Sto} {Q:QE},Hv S w cs->cs.length=es.length->es.length<=60->p<n->H<=1000->(∀(l:Nat) (a:Sto),Gw S a->S.length<=l->a[l]?=aA (.lst (j9 (frL es cs p H)))->Q (.loc l) a)->s [webS n es,w,.int (p:Nat),.int (H:Nat)] S Q
def Pg(a:∀ f,MonoN (Δ f)){s:Nat}(B:DC (Δ s)){D:Df}(C:D.body=Pc s)(E:D.N.length=5)(F:D.ps.length=4):C5 (i5 Δ D):=by
 intro n H p w b c S Q G I m o O q;unfold i5;rw[C,E];refine⟨F.symm,_,rfl,_,rfl,_,rfl,B G I m o λl g J v y d=>⟨_,rfl,_,rfl,⟨by omega,by omega⟩,?_⟩⟩;refine m7 (n9 a _).2 (c8 a _).1 (λj r i=>i=J/\r=j9 ((YJ j).filter λh=>(w4 b c p h).isNone)) ⟨rfl,rfl⟩ (λ_ _ _ _=>trivial) ?_ ?_
 ·rintro j x r i A ⟨rfl,rfl⟩;have P:j<H:=by have:=(gM A).1;rw[r6]at this;omega
  obtain⟨rfl,K⟩:=u7 A;rw[Zh]at K ⊢;have k:=I0 (λh=>(w4 b c p h).isNone) j;have R:=C4 (λh=>(w4 b c p h).isNone) j;refine⟨_,rfl,_,rfl,?_⟩;show match CD (.loc l) i with | some T=>_ | none=>_
  rw[Bm y];refine⟨rfl,_,f9 y,PU _,_,rfl,?_⟩;show if (!inS (.int (j:Nat)) (g.map SV.int))=aC then _ else _
  rw[VW]
  have e:(!decide ((j:Int)∈g))=(w4 b c p j).isNone:=by
   cases ht:w4 b c p j with
   | none=>
     have:¬ (j:Int)∈g:=λz=>by
      obtain⟨u,L,M⟩:=(d j (by omega)).mp z;exact Aj ht u L M
     rw[decide_eq_false this];rfl
   | some t=>
     have:(j:Int)∈g:=(d j (by omega)).mpr ⟨t,(v7 ht).1,(v7 ht).2⟩;rw[decide_eq_true this];rfl
  rw[e];refine ifB (λz=>?_) (λz=>⟨rfl,?_⟩)
  ·rw[iP z]at k;exact⟨_,rfl,by rw[p0];show _<100000;omega,rfl,by rw[k,Au];rfl⟩
  ·rw[iG (by rw[z];decide),Z2]at k;rw[k]
 ·rintro r i ⟨rfl,rfl⟩;rw[r6,show((H:Int) - 0).toNat=H by omega];exact q _ _ v.push v.len g9
end
inductive Sp3 where
 | hue (t h:Nat)
 | move (t u:Nat)
 | row (p a b:Nat)
noncomputable def st3(es:EE)(cs:List Nat):Sp3->List Nat
 | .hue t h=>cs.set t h
 | .move t u=>(cs.set t (1000+t)).set u (hu cs t)
 | .row p a b=>exL cs (rwF es cs (es.length+1) p a b) a b
def Ok3(n H:Nat)(es:EE)(cs:List Nat):Sp3->Prop
 | .hue t h=>t<es.length/\¬ hu cs t<1000/\h<H/\∀ y,AtP es t y->∀ u,AtP es u y->hu cs u≠h
 | .move t u=>t<es.length/\u<es.length/\hu cs t<H/\¬ hu cs u<1000/\(∃ y,AtP es t y/\AtP es u y)/\∀ y,AtP es u y->∀ v,AtP es v y->hu cs v=hu cs t->v=t
 | .row p a b=>a<H/\b<H/\a≠b/\p<n/\∀ u,AtP es u p->hu cs u≠b
structure Hg(H:Nat)(es:EE)(cs:List Nat):Prop where
 P:Prp es cs
 cod:∀ u,u<es.length->hu cs u<H\/hu cs u=1000+u
section
variable{n H:Nat}{es:EE}{cs:List Nat}
def Hg.bare(h:Hg H es cs){u:Nat}(a:u<es.length)(z:¬ hu cs u<1000)(b:H<=1000):hu cs u=1000+u:=by
 rcases h.cod u a with y | y
 ·omega
 ·exact y
def Kr{t u v:Nat}(a:t<cs.length)(b:u<cs.length):hu (st3 es cs (.move t u)) v=if v=u then hu cs t else if v=t then 1000+t else hu cs v:=by
 show hu ((cs.set t (1000+t)).set u (hu cs t)) v=_;rw[GJ (by rw[YZ];exact b),GJ a]
def Ks(s:Sp3):(st3 es cs s).length=cs.length:=by
 cases s with
 | hue t h=>exact YZ ..
 | move t u=>show((cs.set t (1000+t)).set u (hu cs t)).length=_;rw[YZ,YZ]
 | row p a b=>exact Ai ..
def GM(h:Hg H es cs){r:List Nat}{a b u:Nat}(c:u<es.length):hu (exL cs r a b) u=if u∈r then (if hu cs u=a then b else a) else hu cs u:=EU (by rw[h.P.len];exact c)
def Bq(g:Hg H es cs)(B:∀ e∈es,e.1<e.2/\e.2<n)(N:H<=1000){s:Sp3}(h:Ok3 n H es cs s):Hg H es (st3 es cs s):=by
 have G:=g.P.len;cases s with
 | hue t I=>
   obtain⟨J,O,C,D⟩:=h;have e:∀ v,hu (st3 es cs (.hue t I)) v=if v=t then I else hu cs v:=λv=>GJ (by omega)
   refine⟨⟨(Ks _).trans G,λv u y c f q=>?_⟩,λu l=>?_⟩
   ·rw[e,e]at q;by_cases m:v=t
    ·by_cases i:u=t
     ·rw[m,i]
     ·rw[iP m,iG i]at q;subst m;exact absurd q.symm (D y c u f)
    ·by_cases i:u=t
     ·rw[iG m,iP i]at q;subst i;exact absurd q (D y f v c)
     ·rw[iG m,iG i]at q;exact g.P.one v u y c f q
   ·rw[e];split
    ·exact .inl C
    ·exact g.cod u l
 | move t u=>
   obtain⟨J,l,C,D,_,K⟩:=h;have e:∀ v,hu (st3 es cs (.move t u)) v=if v=u then hu cs t else if v=t then 1000+t else hu cs v:=λv=>Kr (by omega) (by omega)
   have o:∀ v w y,AtP es v y->AtP es w y->hu (st3 es cs (.move t u)) v=hu (st3 es cs (.move t u)) w->v≠w->w≠u->v=w:=by
    intro v w y c j q k A;rw[e,e,iG A]at q;by_cases E:v=u
    ·rw[iP E]at q;by_cases d:w=t
     ·rw[iP d]at q;omega
     ·rw[iG d]at q;subst E;exact absurd (K y c w j q.symm) d
    ·rw[iG E]at q;by_cases F:v=t
     ·rw[iP F]at q;by_cases d:w=t
      ·exact absurd (F.trans d.symm) k
      ·rw[iG d]at q;rcases g.cod w j.lt with z | z<;>omega
     ·rw[iG F]at q;by_cases d:w=t
      ·rw[iP d]at q;rcases g.cod v c.lt with z | z<;>omega
      ·rw[iG d]at q;exact g.P.one v w y c j q
   refine⟨⟨(Ks _).trans G,λv w y c j q=>?_⟩,λv L=>?_⟩
   ·by_cases k:v=w
    ·exact k
    ·by_cases A:w=u
     ·exact(o w v y j c q.symm (Ne.symm k) (λz=>k (z.trans A.symm))).symm
     ·exact o v w y c j q k A
   ·rw[e];split
    ·exact .inl C
    ·split
     ·next z=>exact .inr (by rw[z])
     ·exact g.cod v L
 | row p a b=>
   obtain⟨Q,S,M,T,no⟩:=h;obtain⟨x,U,V,R,r⟩:=Db g.P B M no;refine⟨VR g.P (R.clo r) (Dd R),λu l=>?_⟩;show hu (exL cs _ a b) u<H\/hu (exL cs _ a b) u=_;rw[GM g l];split
   ·split<;>exact .inl (by assumption)
   ·exact g.cod u l
end
noncomputable def AZ(es:EE)(cs:List Nat)(a:List Sp3):List Nat:=a.foldl (λc s=>st3 es c s) cs
noncomputable def OkR3(n H:Nat)(es:EE):List Nat->List Sp3->Prop
 | _,[]=>True
 | cs,s::a=>Ok3 n H es cs s/\OkR3 n H es (st3 es cs s) a
theorem OkR3.hg{n H:Nat}{es:EE}(b:∀ e∈es,e.1<e.2/\e.2<n)(c:H<=1000):∀{a:List Sp3} {cs:List Nat},Hg H es cs->OkR3 n H es cs a->Hg H es (AZ es cs a)
 | [],_,g,_=>g
 | s::a,cs,g,h=>OkR3.hg b c (a:=a) (Bq g b c h.1) h.2
def farT(es:EE)(p t:Nat):Nat:=Ab (es.getD t (0,0)) p
noncomputable def Ax:List Nat->Nat->List Sp3
 | [],_=>[]
 | [w],h=>[.hue w h]
 | a::b::r,h => .move b a::Ax (b::r) h
def Chn(es:EE)(cs:List Nat)(p H:Nat)(c:List Nat):Prop:=∀ k a b:Nat,c[k]?=aA a->c[k+1]?=aA b->hu cs b∈frL es cs (farT es p a) H
def Ph(H:Nat)(es:EE)(cs a:List Nat)(t:Nat):Prop:=hu a t<H/\∀ u,u<es.length->u≠t->(hu a u<H↔hu cs u<H)
def Kt{es:EE}{t p y:Nat}(h:AtP es t p)(a:AtP es t y):y=p\/y=farT es p t:=by
 obtain⟨e,d,c⟩:=h;obtain⟨f,b,a⟩:=a;rw[d]at b;cases b;unfold farT Ab;rw[show es.getD t (0,0)=e by rw[Y9,d];rfl];rcases c with c | c<;>rcases a with a | a<;>split<;>omega
def DD{n:Nat}{es:EE}(a:∀ e∈es,e.1<e.2/\e.2<n){t p:Nat}(h:AtP es t p):farT es p t≠p/\farT es p t<n:=by
 obtain⟨e,b,c⟩:=h;have:=a e (Y7 b);unfold farT Ab;rw[show es.getD t (0,0)=e by rw[Y9,b];rfl];split<;>omega
theorem ID{n H p h:Nat}{es:EE}(j:∀ e∈es,e.1<e.2/\e.2<n)(O:H<=1000):∀(r:List Nat) (a:Nat) (cs:List Nat),Hg H es cs->(a::r).Nodup->(∀ w∈a::r,AtP es w p)->hu cs a=1000+a->Chn es cs p H (a::r)->h∈frL es cs p H->h∈frL es cs (farT es p ((a::r).getLastD 0)) H->OkR3 n H es cs (Ax (a::r) h)/\Ph H es cs (AZ es cs (Ax (a::r) h)) a
 | [],a,cs,g,Q,f,X,_,B,F=>by
   have l:=(f a (YL ..)).lt;obtain⟨R,Y⟩:=mem_frL.mp B;obtain⟨_,Z⟩:=mem_frL.mp F;have e:∀ v,hu (st3 es cs (.hue a h)) v=if v=a then h else hu cs v:=λv=>GJ (by rw[g.P.len];exact l)
   refine⟨⟨⟨l,by omega,R,λy G=>?_⟩,trivial⟩,?_,λu S I=>?_⟩
   ·rcases Kt (f a (YL ..)) G with z | z
    ·rw[z];exact Y
    ·rw[z];exact Z
   ·show hu (st3 es cs (.hue a h)) a<H;rw[e,iP rfl];exact R
   ·show hu (st3 es cs (.hue a h)) u<H↔_;rw[e,iG I]
 | b::r,a,cs,g,Q,f,X,T,B,F=>by
   have pl:=g.P.len;have J:=f a (YL ..);have m:=f b (YC _ (YL ..));have l:=J.lt;have bl:=m.lt;obtain⟨o,s⟩:=Yy.mp Q;have t:a≠b:=λz=>o (z▸YL ..);obtain⟨K,fb⟩:=mem_frL.mp (T 0 a b rfl rfl);have e:∀ v,hu (st3 es cs (.move b a)) v=if v=a then hu cs b else if v=b then 1000+b else hu cs v:=λv=>Kr (by omega) (by omega)
   have U:Ok3 n H es cs (.move b a):=⟨bl,l,K,by omega,⟨p,m,J⟩,λy G v C q=>by
    rcases Kt J G with z | z
    ·rw[z]at C;exact g.P.one v b p C m q
    ·rw[z]at C;exact absurd q (fb v C)⟩
   have g':=Bq g j O U
   have L:∀(x y:Nat),x≠hu cs b->x∈frL es cs y H->x∈frL es (st3 es cs (.move b a)) y H:=λx y nx hx=>by
    obtain⟨x1,x2⟩:=mem_frL.mp hx;refine mem_frL.mpr ⟨x1,λu M=>?_⟩;rw[e];split
    ·exact Ne.symm nx
    ·split
     ·omega
     ·exact x2 u M
   have i:∀ w∈r,w≠a/\w≠b:=λw D=>⟨λz=>o (z▸YC _ D),λz=>(Yy.mp s).1 (z▸D)⟩
   have A:h≠hu cs b:=λz=>(mem_frL.mp B).2 b m z.symm
   have N:Chn es (st3 es cs (.move b a)) p H (b::r):=λk c d h3 V=>by
    have E:d∈r:=Y7 (by simpa using V);have:=T (k+1) c d (by simpa using h3) (by simpa using V);rw[e,iG (i d E).1,iG (i d E).2];refine L _ _ (λz=>(i d E).2 ?_) this;exact g.P.one d b p (f d (YC _ (YC _ E))) m z
   obtain⟨k1,k2,W⟩:=ID j O r b (st3 es cs (.move b a)) g' s (λw D=>f w (YC _ D)) (by rw[e,iG t.symm,iP rfl]) N (L _ _ A B) (L _ _ A F);refine⟨⟨U,k1⟩,?_,λu S I=>?_⟩
   ·show hu (AZ es (st3 es cs (.move b a)) (Ax (b::r) h)) a<H;rw[W a l t,e,iP rfl];exact K
   ·show hu (AZ es (st3 es cs (.move b a)) (Ax (b::r) h)) u<H↔_;by_cases z:u=b
    ·rw[z];exact⟨λ_=>K,λ_=>k2⟩
    ·rw[W u S z,e,iG I,iG z]
abbrev Fan:=List (Nat×Option Nat)
theorem Pi{α c:Type}{f:α->Option c}:∀{xs:List α} {j:Nat} {x:α} {y:c},xs[j]?=aA x->f x=aA y->(∀ u∈xs.take j,f u=aB)->xs.findSome? f=aA y
 | [],_,_,_,h,_,_=>by simp at h
 | a::xs,0,x,y,h,e,_=>by
   simp at h;subst h;rw[A0T,e]
 | a::xs,j+1,x,y,h,e,no=>by
   rw[A0T,no a (by simp)];exact Pi (j:=j) (by simpa using h) e λu b=>no u (by simp[b])
noncomputable def frs(es:EE)(cs:List Nat)(p H:Nat)(F:Fan):List (List Nat):=F.map λx=>frL es cs (farT es p x.1) H
def Ay(cs:List Nat)(t:Nat)(L:List (List Nat)):Option Nat:=L.findIdx? λl=>decide (hu cs t∈l)
noncomputable def BP(es:EE)(cs:List Nat)(p H:Nat)(F:Fan):Option (Nat×Nat):=(j8 es p es.length).findSome? λt=>if t∈F.map (·.1) then aB else (Ay cs t (frs es cs p H F)).map λb=>(t,b)
noncomputable def C9(es:EE)(cs:List Nat)(p H:Nat):Nat->Fan->Fan
 | 0,F=>F
 | k+1,F=>match BP es cs p H F with
   | none=>F
   | some x=>C9 es cs p H k (F++[(x.1,aA x.2)])
structure FanI(es:EE)(cs:List Nat)(p H t0:Nat)(F:Fan):Prop where
 fst:F[0]?=aA (t0,aB)
 nd:(F.map (·.1)).Nodup
 att:∀ x∈F,AtP es x.1 p
 bk:∀(i t:Nat) (o:Option Nat),0<i->F[i]?=aA (t,o)->∃(b u:Nat) (c:Option Nat),o=aA b/\b<i/\F[b]?=aA (u,c)/\hu cs t∈frL es cs (farT es p u) H/\∀(b' u':Nat) (c':Option Nat),b'<b->F[b']?=aA (u',c')->hu cs t∉frL es cs (farT es p u') H
def VY(es:EE)(cs:List Nat)(p H:Nat)(F:Fan):Prop:=∀ t,AtP es t p->t∉F.map (·.1)->∀ x∈F,hu cs t∉frL es cs (farT es p x.1) H
section
variable{n H p t0:Nat}{es:EE}{cs:List Nat}{F:Fan}
def FanI.one(h:AtP es t0 p):FanI es cs p H t0 [(t0,aB)]:=⟨rfl,by simp,λx a=>by rw[YK.mp a];exact h,λi t o h e=>by
 have:=(gM e).1;simp at this;omega⟩
def FanI.len(h:FanI es cs p H t0 F):F.length<=es.length:=by
 have:=List.Nodup.length_le_of_subset h.nd (l₂:=YJ es.length) λt a=>by
  obtain⟨x,b,rfl⟩:=YO.mp a;exact YU.mpr (h.att x b).lt
 rwa [Yl,Y4]at this
def Ma{t b:Nat}(h:Ay cs t (frs es cs p H F)=aA b):∃ u c,F[b]?=aA (u,c)/\hu cs t∈frL es cs (farT es p u) H/\∀(a d:Nat) (f:Option Nat),a<b->F[a]?=aA (d,f)->hu cs t∉frL es cs (farT es p d) H:=by
 unfold Ay at h;obtain⟨g,i,j⟩:=ZZ.mp h;have bl:b<F.length:=by unfold frs at g;rwa [Y4]at g
 refine⟨F[b].1,F[b].2,Y6 bl,?_,λa d f k e z=>?_⟩
 ·have:=of_decide_eq_true i
  rwa [show(frs es cs p H F)[b]=frL es cs (farT es p F[b].1) H by simp[frs]]at this
 ·have:=j a k;apply this;obtain⟨_,e⟩:=gM e;rw[dQ,show(frs es cs p H F)[a]=frL es cs (farT es p F[a].1) H by simp[frs],e];exact z
def Mb{t:Nat}(h:Ay cs t (frs es cs p H F)=aB):∀ x∈F,hu cs t∉frL es cs (farT es p x.1) H:=λx a z=>by
 unfold Ay at h;rw[Zr]at h;have:=h _ (YO.mpr ⟨x,a,rfl⟩);rw[decide_eq_true z]at this;cases this
def Mc{x:Nat×Nat}(h:BP es cs p H F=aA x):AtP es x.1 p/\x.1∉F.map (·.1)/\Ay cs x.1 (frs es cs p H F)=aA x.2:=by
 unfold BP at h;obtain⟨t,a,e⟩:=List.exists_of_findSome?_eq_some h;split at e
 ·cases e
 ·next c=>
  cases hb:Ay cs t (frs es cs p H F) with
  | none=>rw[hb]at e;cases e
  | some b=>
    rw[hb]at e;cases e;exact⟨mem_tiesAt.mp a,c,hb⟩
def Md(h:BP es cs p H F=aB):VY es cs p H F:=by
 intro t a c;unfold BP at h;rw[ZP]at h;have:=h t (mem_tiesAt.mpr a);rw[iG c]at this;cases hb:Ay cs t (frs es cs p H F) with
 | some b=>rw[hb]at this;cases this
 | none=>exact Mb hb
def FanI.snoc(I:FanI es cs p H t0 F){x:Nat×Nat}(h:BP es cs p H F=aA x):FanI es cs p H t0 (F++[(x.1,aA x.2)]):=by
 obtain⟨v,w,A⟩:=Mc h;obtain⟨u,c,r,B,C⟩:=Ma A;have bl:=(gM r).1;have D:=(gM I.fst).1;refine⟨by rw[YM D];exact I.fst,?_,λy E=>?_,λi t o G e=>?_⟩
 ·rw[YN,Zg];refine⟨I.nd,by simp,λa J b K z=>w ?_⟩;have:b=x.1:=by simpa using K
  rw[<-this,<-z];exact J
 ·rcases YT.mp E with z | z
  ·exact I.att y z
  ·rw[YK.mp z];exact v
 ·have d:∀{j:Nat} {y:Nat×Option Nat},F[j]?=aA y->(F++[(x.1,aA x.2)])[j]?=aA y:=λ{j y} e=>by
   rw[YM (gM e).1];exact e
  have f:∀{j:Nat} {y:Nat×Option Nat},j<F.length->(F++[(x.1,aA x.2)])[j]?=aA y->F[j]?=aA y:=λ{j y} L e=>by
   rwa [YM L]at e
  rcases Ke e with⟨R,M⟩ | e
  ·cases M;exact⟨x.2,u,c,rfl,by omega,d r,B,λg k l m q=>C g k l m (f (by omega) q)⟩
  ·obtain⟨b,u,c,N,O,s,P,Q⟩:=I.bk i t o G e;have:=(gM s).1;exact⟨b,u,c,N,O,d s,P,λg k l m q=>Q g k l m (f (by omega) q)⟩
theorem GN:∀(k:Nat) (F:Fan),FanI es cs p H t0 F->es.length<F.length+k->FanI es cs p H t0 (C9 es cs p H k F)/\VY es cs p H (C9 es cs p H k F)
 | 0,F,I,h=>by have:=I.len;omega
 | k+1,F,I,h=>by
   unfold C9;cases hz:BP es cs p H F with
   | none=>exact⟨I,Md hz⟩
   | some x=>exact GN k _ (I.snoc hz) (by rw[Y5];simp;omega)
end
noncomputable def upF(F:Fan):Nat->Option Nat->List Nat
 | _,aB=>[]
 | 0,aA _=>[]
 | k+1,aA i=>match F[i]? with
   | none=>[]
   | some x=>x.1::upF F k x.2
def Lnk(es:EE)(cs:List Nat)(p H:Nat)(F:Fan)(m:Nat):Prop:=∀(i t b u:Nat) (c:Option Nat),i<=m->F[i]?=aA (t,aA b)->F[b]?=aA (u,c)->hu cs t∈frL es cs (farT es p u) H
section
variable{n H p t0 m:Nat}{es:EE}{cs ds:List Nat}{F:Fan}
theorem TV(I:FanI es cs p H t0 F)(L:Lnk es ds p H F m):∀(k i:Nat),i<k->i<=m->i<F.length->(upF F k (aA i)).getLast?=aA t0/\(upF F k (aA i))[0]?=(F[i]?).map (·.1)/\(∀ w∈upF F k (aA i),∃ j x,j<=i/\F[j]?=aA x/\x.1=w)/\(upF F k (aA i)).Nodup/\∀(j a b:Nat),(upF F k (aA i))[j]?=aA b->(upF F k (aA i))[j+1]?=aA a->hu ds b∈frL es ds (farT es p a) H
 | 0,i,h,_,_=>by omega
 | k+1,i,h,E,G=>by
   obtain⟨x,d⟩:∃ x,F[i]?=aA x:=⟨_,Y6 G⟩
   have e:upF F (k+1) (aA i)=x.1::upF F k x.2:=by
    show(match F[i]? with | none=>[] | some x=>x.1::upF F k x.2)=_;rw[d]
   rw[e];by_cases z:i=0
   ·subst z;rw[I.fst]at d;cases d;have l:upF F k aB=[]:=by cases k<;>rfl
    rw[l,I.fst];refine⟨rfl,rfl,λw g=>⟨0,_,YF _,I.fst,(YK.mp g).symm⟩,by simp,λj a b q f=>?_⟩;simp at f
   ·obtain⟨t,o⟩:=x;obtain⟨b,u,c,rfl,bi,r,_,_⟩:=I.bk i t o (by omega) d;have bl:=(gM r).1;obtain⟨s,J,B,K,M⟩:=TV I L k b (by omega) (by omega) bl;refine⟨?_,by rw[d];rfl,λw g=>?_,?_,λj a C q f=>?_⟩
    ·show(t::upF F k (aA b)).getLast?=_;have Q:upF F k (aA b)≠[]:=λz=>by rw[z]at s;cases s
     rw[List.getLast?_cons,s];rfl
    ·rcases YH.mp g with z | z
     ·exact⟨i,_,YF _,d,z.symm⟩
     ·obtain⟨j,y,N,v,A⟩:=B w z;exact⟨j,y,by omega,v,A⟩
    ·refine Yy.mpr ⟨λg=>?_,K⟩;obtain⟨j,y,N,v,A⟩:=B _ g;have D:(F.map (·.1))[j]?=aA t:=by rw[YA,v];exact congrArg aA A
     have O:(F.map (·.1))[i]?=aA t:=by rw[YA,d];rfl
     have:=(A19 ((gM D).1) I.nd).mp (D.trans O.symm);omega
    ·cases j with
     | zero=>
       have P:t=C:=by simpa using q
       have f:(upF F k (aA b))[0]?=aA a:=by simpa using f
       rw[J,r]at f;have l:u=a:=by simpa using f
       rw[<-P,<-l];exact L i t b u c E d r
     | succ j=>exact M j a C (by simpa using q) (by simpa using f)
def FS(o:∀ e∈es,e.1<e.2/\e.2<n)(v:H<=1000)(I:FanI es cs p H t0 F)(g:Hg H es ds)(b0:hu ds t0=1000+t0){i h:Nat}{x:Nat×Option Nat}(t:F[i]?=aA x)(L:Lnk es ds p H F i)(z:h∈frL es ds p H)(A:h∈frL es ds (farT es p x.1) H):OkR3 n H es ds (Ax (upF F (i+1) (aA i)).reverse h)/\Ph H es ds (AZ es ds (Ax (upF F (i+1) (aA i)).reverse h)) t0:=by
 have B:=(gM t).1;obtain⟨C,D,E,G,J⟩:=TV I L (i+1) i (by omega) (YF _) B;generalize upF F (i+1) (aA i)=U at *;have f:U.reverse.head?=aA t0:=by rw[List.head?_reverse];exact C
 obtain⟨r,d⟩:∃ r,U.reverse=t0::r:=by
  cases hc:U.reverse with
  | nil=>rw[hc]at f;cases f
  | cons a r=>rw[hc]at f;cases f;exact⟨r,rfl⟩
 rw[d]
 have q:∀ w∈t0::r,AtP es w p:=λw u=>by
  rw[<-d,List.mem_reverse]at u;obtain⟨j,y,_,K,rfl⟩:=E w u;exact I.att y (Y7 K)
 have c:(t0::r).getLastD 0=x.1:=by
  have e:(t0::r).getLast?=aA x.1:=by
   rw[<-d,List.getLast?_reverse,List.head?_eq_getElem?,D,t];rfl
  rw[A0k,e];rfl
 refine ID o v r t0 ds g (by rw[<-d];exact(List.reverse_perm U).nodup_iff.mpr G) q b0 (λk a b s l=>?_) z (by rw[c];exact A);rw[<-d]at s l;have M:k+1<U.length:=by have:=(gM l).1;rwa [Zt]at this
 rw[List.getElem?_reverse (by omega)]at s l;refine J (U.length - 1 - (k+1)) a b l ?_;rw[show U.length - 1 - (k+1)+1=U.length - 1 - k by omega];exact s
end
def RwB(es:EE)(cs:List Nat)(a b p:Nat)(r:List Nat)(x:Nat):Prop:=∀ t∈r,∀ y,AtP es t y->y=p\/y=x\/((∃ u,AtP es u y/\hu cs u=a)/\∃ u,AtP es u y/\hu cs u=b)
section
variable{n H:Nat}{es:EE}{cs:List Nat}{a b p:Nat}
def RwB.step{r:List Nat}{x i d t:Nat}{e:Nat×Nat}(R:RwI es cs a b p r x i d)(I:RwB es cs a b p r x)(s:es[t]?=aA e)(k:e.1=x\/e.2=x)(v:hu cs t=i):RwB es cs a b p (r++[t]) (Ab e x):=by
 have w:AtP es t x:=⟨e,s,k⟩
 have c:r≠[]->(∃ u,AtP es u x/\hu cs u=a)/\∃ u,AtP es u x/\hu cs u=b:=λg=>by
  have A:r.getLast?=aA (r.getLast g):=ZR g;have C:r[r.length - 1]?=aA (r.getLast g):=by rw[<-Zb];exact A
  have B:=R.lst _ A;have l:=R.alt _ _ C;have D:0<r.length:=List.length_pos_iff.mpr g;have m:=R.d1;by_cases z:r.length % 2=0
  ·rw[iP z]at m;rw[iG (by omega)]at l;exact⟨⟨t,w,v.trans m⟩,_,B,l⟩
  ·rw[iG z]at m;rw[iP (by omega)]at l;exact⟨⟨_,B,l⟩,t,w,v.trans m⟩
 intro u o y h;rcases YT.mp o with z | z
 ·rcases I u z y h with q | q | q
  ·exact .inl q
  ·rw[q];exact .inr (.inr (c (List.ne_nil_of_mem z)))
  ·exact .inr (.inr q)
 ·rw[YK.mp z]at h
  have f:y=x\/y=Ab e x:=by
   obtain⟨E,j,h⟩:=h;rw[s]at j;cases j;unfold Ab;rcases k with k | k<;>rcases h with h | h<;>split<;>omega
  rcases f with f | f
  ·by_cases g:r=[]
   ·exact .inl (f.trans (R.beg g))
   ·rw[f];exact .inr (.inr (c g))
  ·exact .inr (.inl f)
theorem TW(P:Prp es cs)(f:∀ e∈es,e.1<e.2/\e.2<n)(ab:a≠b):∀(k:Nat) (r:List Nat) (x d c:Nat),RwI es cs a b p r x d c->RwB es cs a b p r x->∃ h,RwB es cs a b p (r++rwF es cs k x d c) h
 | 0,r,x,d,c,R,I=>⟨x,by unfold rwF;rw[Z2];exact I⟩
 | k+1,r,x,d,c,R,I=>by
   unfold rwF;cases ht:w4 es cs x d with
   | none=>exact⟨x,by simpa using I⟩
   | some t=>
     obtain⟨⟨e,g,i⟩,j⟩:=v7 ht;have l:es.getD t (0,0)=e:=by rw[Y9,g];rfl
     dsimp only;rw[l];have m:=R.step P ab g i (YG (f e (Y7 g)).1) j;obtain⟨h,o⟩:=TW P f ab k _ _ _ _ m (I.step R g i j);exact⟨h,by simpa using o⟩
end
def VZ(es:EE)(cs:List Nat)(p H:Nat)(F:Fan):Prop:=∀ x∈F,∀ h∈frL es cs p H,h∉frL es cs (farT es p x.1) H
section
variable{n H p t0 own c k0 u0:Nat}{o0:Option Nat}{es:EE}{cs:List Nat}{F:Fan}
def Ry(s:∀ e∈es,e.1<e.2/\e.2<n)(hH:H<=1000)(g:Hg H es cs)(I:FanI es cs p H t0 F)(no:VZ es cs p H F)(X:own∈frL es cs p H)
 (D:F[k0]?=aA (u0,o0)) (Y:c∈frL es cs (farT es p u0) H) (min:∀(k u:Nat) (o:Option Nat),k<k0->F[k]?=aA (u,o)->c∉frL es cs (farT es p u) H)
 {z:Nat×Option Nat} (hz:z∈F) (N:c∈frL es cs (farT es p z.1) H) (zf:farT es p z.1≠farT es p u0):
 Ok3 n H es cs (.row (farT es p u0) own c)/\(∃(i:Nat) (x:Nat×Option Nat) (h:Nat),F[i]?=aA x/\h∈frL es (st3 es cs (.row (farT es p u0) own c)) p H/\h∈frL es (st3 es cs (.row (farT es p u0) own c)) (farT es p x.1) H)/\
 ∀(i:Nat) (x:Nat×Option Nat) (h:Nat),F[i]?=aA x->h∈frL es (st3 es cs (.row (farT es p u0) own c)) p H->h∈frL es (st3 es cs (.row (farT es p u0) own c)) (farT es p x.1) H->(∀(E:Nat) (Z:Nat×Option Nat),E<i->F[E]?=aA Z->∀ h'∈frL es (st3 es cs (.row (farT es p u0) own c)) p H,h'∉frL es (st3 es cs (.row (farT es p u0) own c)) (farT es p Z.1) H)->Lnk es (st3 es cs (.row (farT es p u0) own c)) p H F i:=by
 have a0:=I.att _ (Y7 D);have az:=I.att _ hz;have fn:=DD s a0;have zn:=DD s az;obtain⟨cH,S⟩:=mem_frL.mp Y;obtain⟨oH,G⟩:=mem_frL.mp X;have J:own≠c:=λe=>no _ (Y7 D) own X (e▸Y);have ok:Ok3 n H es cs (.row (farT es p u0) own c):=⟨oH,cH,J,fn.2,S⟩
 refine⟨ok,?_⟩;generalize T:farT es p u0=f at *;obtain⟨Z,o1,o2,R,a5⟩:=Db g.P s J S;obtain⟨xe,B⟩:=TW (p:=f) g.P s J (es.length+1) [] f own c (RwI.nil S) (λ_ h=>nomatch h);rw[A0H]at B;have C:=Dd R;have K:∀ u,u<es.length->hu (st3 es cs (.row f own c)) u=if u∈rwF es cs (es.length+1) f own c then (if hu cs u=own then c else own) else hu cs u:=λu ul=>GM g ul
 have ff:own∈frL es (st3 es cs (.row f own c)) f H:=mem_frL.mpr ⟨oH,λu a q=>by
  rw[K u a.lt]at q;by_cases m:u∈rwF es cs (es.length+1) f own c
  ·rw[iP m]at q;rcases C u m with y | y
   ·rw[iP y]at q;exact J q.symm
   ·exact S u a y
  ·rw[iG m]at q;cases ht:w4 es cs f own with
   | none=>exact Aj ht u a q
   | some t1=>
     obtain⟨r,a1⟩:=v7 ht;have:=g.P.one u t1 f a r (q.trans a1.symm);subst this;apply m;unfold rwF;rw[ht];exact YL ..⟩
 have fr:∀ h y,h≠own->h≠c->h∈frL es cs y H->h∈frL es (st3 es cs (.row f own c)) y H:=λh y n1 n2 hh=>by
  obtain⟨q1,U⟩:=mem_frL.mp hh;refine mem_frL.mpr ⟨q1,λu a q=>?_⟩;rw[K u a.lt]at q;split at q
  ·split at q
   ·exact n2 q.symm
   ·exact n1 q.symm
  ·exact U u a q
 have un:∀ h y,(∀ u,u∈rwF es cs (es.length+1) f own c->¬ AtP es u y)->h∈frL es cs y H->h∈frL es (st3 es cs (.row f own c)) y H:=λh y V hh=>by
  obtain⟨q1,U⟩:=mem_frL.mp hh;refine mem_frL.mpr ⟨q1,λu a q=>?_⟩;rw[K u a.lt,iG (λm=>V u m a)]at q;exact U u a q
 have d:∀{i t:Nat} {o:Option Nat},F[i]?=aA (t,o)->AtP es t p:=λ{i t o} e=>I.att _ (Y7 e)
 have bk:∀(i t b u:Nat) (q:Option Nat),F[i]?=aA (t,aA b)->F[b]?=aA (u,q)->b<i/\hu cs t∈frL es cs (farT es p u) H/\∀(b' u':Nat) (c':Option Nat),b'<b->F[b']?=aA (u',c')->hu cs t∉frL es cs (farT es p u') H:=λi t b u q l w=>by
  have i0:0<i:=Zn λz=>by rw[z,I.fst]at l;cases l
  obtain⟨b2,u2,U,e3,A,L,k3,k4⟩:=I.bk i t _ i0 l;cases e3;rw[w]at L;cases L;exact⟨A,k3,k4⟩
 by_cases O:∃ u,u∈rwF es cs (es.length+1) f own c/\AtP es u p
 ·obtain⟨M,W,r⟩:=O;have Q:hu cs M=c:=(C M W).resolve_left (G M r)
  have px:p=xe:=by
   rcases B M W p r with q | q | q
   ·exact absurd q.symm fn.1
   ·exact q
   ·obtain⟨⟨v,v1,v2⟩,_⟩:=q;exact absurd v2 (G v v1)
  have cp:c∈frL es (st3 es cs (.row f own c)) p H:=mem_frL.mpr ⟨cH,λu a q=>by
   rw[K u a.lt]at q;by_cases m:u∈rwF es cs (es.length+1) f own c
   ·rw[iP m,iG (G u a)]at q;exact J q
   ·rw[iG m]at q;exact m (g.P.one u M p a r (q.trans Q.symm)▸W)⟩
  obtain⟨j,hj⟩:=ZQ hz;refine⟨⟨j,z,c,hj,cp,un c _ (λu a a2=>?_) N⟩,λi x h hi _ _ _ E t b u q a3 l w=>?_⟩
  ·rcases B u a _ a2 with q | q | q
   ·exact zf q
   ·exact zn.1 (q.trans px.symm)
   ·obtain⟨_,v,v1,v2⟩:=q;exact(mem_frL.mp N).2 v v1 v2
  ·obtain⟨bi,A,L⟩:=bk E t b u q l w;rw[K t (d l).lt];by_cases m:t∈rwF es cs (es.length+1) f own c
   ·have tc:hu cs t=c:=(C t m).resolve_left (G t (d l));rw[iP m,iG (by rw[tc];exact J.symm)];rw[tc]at A L
    have a4:b=k0:=by
     rcases A0l b k0 with y | y | y
     ·exact absurd A (min b u q y w)
     ·exact y
     ·exact absurd Y (T▸L k0 u0 o0 y D)
    rw[a4,D]at w;cases w;rw[T];exact ff
   ·rw[iG m];refine fr _ _ (G t (d l)) (λy=>m ?_) A;exact g.P.one t M p (d l) r (y.trans Q.symm)▸W
 ·have V:∀ u,u∈rwF es cs (es.length+1) f own c->¬ AtP es u p:=λu m q=>O ⟨u,m,q⟩;have op:=un own p V X;refine⟨⟨k0,_,own,D,op,by rw[T];exact ff⟩,λi x h hi _ _ mn E t b u q a3 l w=>?_⟩;have ik:i<=k0:=A1d λy=>mn k0 _ y D own op (by rw[T];exact ff);obtain⟨bi,A,L⟩:=bk E t b u q l w;rw[K t (d l).lt,iG (λm=>V t m (d l))];exact fr _ _ (G t (d l)) (λy=>min b u q (by omega) w (y▸A)) A
end
theorem Ku{f:Nat->Nat}{k:Nat}:∀(Y ts:List Nat),(∀ t∈ts,f t∈Y)->(∀ y∈Y,(ts.filter λt=>decide (f t=y)).length<=k)->ts.length<=Y.length * k
 | [],ts,h,_=>by
   cases ts with
   | nil=>simp
   | cons t ts=>exact absurd (h t (YL ..)) (by simp)
 | y::Y,ts,h,c=>by
   have j:=Ku Y (ts.filter λt=>!decide (f t=y)) (λt g=>by
    obtain⟨i,d⟩:=Z1.mp g;rcases YH.mp (h t i) with z | z
    ·rw[z]at d;simp at d
    ·exact z) (λa b=>by
    refine Yg ?_ (c a (YC _ b));rw[A11];refine List.Sublist.length_le ?_
    have:(ts.filter λt=>decide (f t=a)&&!decide (f t=y))=(ts.filter λt=>decide (f t=a)).filter λt=>!decide (f t=y):=by
     rw[A11];exact A0p λt _=>Bool.and_comm ..
    rw[this];exact List.filter_sublist)
   have e:=c y (YL ..);have s:=Hue.len_split (λ_=>aC) (λt=>decide (f t=y)) ts;simp only[A06]at s;have l:(ts.filter λ_=>aC).length=ts.length:=by rw[A0U.mpr (λ_ _=>rfl)]
   rw[Ya,Zk];omega
def Rz{es:EE}{cs:List Nat}(p H:Nat):H<=(frL es cs p H).length+t8 es p:=by
 have s:=Hue.len_split (λ_=>aC) (λh=>(w4 es cs p h).isNone) (YJ H);simp only[A06]at s;have m:((YJ H).filter λ_=>aC).length=H:=by rw[A0U.mpr (λ_ _=>rfl),Yl]
 have f:∀ h∈(YJ H).filter λh=>!(w4 es cs p h).isNone,AtP es ((w4 es cs p h).getD 0) p/\hu cs ((w4 es cs p h).getD 0)=h:=λh c=>by
  have:=(Z1.mp c).2;cases ht:w4 es cs p h with
  | none=>rw[ht]at this;cases this
  | some u=>exact v7 ht
 have i:(((YJ H).filter λh=>!(w4 es cs p h).isNone).map λh=>(w4 es cs p h).getD 0).Nodup:=by
  rw[List.Nodup,A0o];refine List.Pairwise.imp_of_mem (λ{a b} j k l e=>l ?_) (A0x.filter _);rw[<-(f a j).2,<-(f b k).2,e]
 have d:=List.Nodup.length_le_of_subset i (l₂:=j8 es p es.length) λu g=>by
  obtain⟨h,c,rfl⟩:=YO.mp g;exact mem_tiesAt.mpr (f h c).1
 rw[Y4]at d;have:t8 es p=(j8 es p es.length).length:=rfl;show H<=((YJ H).filter λh=>(w4 es cs p h).isNone).length+_;omega
def Mf{n p y l:Nat}{es:EE}(c:∀ e∈es,e.1<e.2/\e.2<n)(d:∀ e,es.count e<=l){ts:List Nat}(m:ts.Nodup)(f:∀ t∈ts,AtP es t p):(ts.filter λt=>decide (farT es p t=y)).length<=l:=by
 refine Yg ?_ (d (if p<y then (p,y) else (y,p)))
 have g:∀ t∈ts.filter λt=>decide (farT es p t=y),es[t]?=aA (if p<y then (p,y) else (y,p)):=λt a=>by
  obtain⟨o,b⟩:=Z1.mp a;have b:=of_decide_eq_true b;obtain⟨e,j,r⟩:=f t o;have:=c e (Y7 j);rw[j];unfold farT Ab at b;rw[show es.getD t (0,0)=e by rw[Y9,j];rfl]at b
  congr 1
  obtain⟨g,s⟩:=e;dsimp only at *;split at b<;>split<;>(first | (congr 1<;>omega) | (exfalso;omega))
 generalize (if p<y then (p,y) else (y,p))=e at *
 have k:es.count e=((YJ es.length).filter λt=>decide (es[t]?=aA e)).length:=by
  have:(YJ es.length).map (λt=>es.getD t (0,0))=es:=by
   apply ZN;intro i;rw[YA];by_cases h:i<es.length
   ·rw[Yx h,Y6 h];show aA (es.getD i (0,0))=_;rw[Y9,Y6 h];rfl
   ·rw[Yd (by rw[Yl];omega),Yd (by omega)];rfl
  conv=>lhs;rw[<-this]
  rw[List.count,List.countP_map,A08]
  congr 1
  refine A0p λt a=>?_;have q:=YU.mp a;show(es.getD t (0,0) == e)=_;rw[Y9,Y6 q];show(es[t] == e)=_;rw[Yp];simp
 rw[k];exact List.Nodup.length_le_of_subset (m.filter _) λt a=>Z1.mpr ⟨YU.mpr (gM (g t a)).1,decide_eq_true (g t a)⟩
theorem Kv{α:Type}{f:Nat->List α}{k:Nat}:∀(Y:List Nat),(∀ y∈Y,k<=(f y).length)->Y.length * k<=(Y.flatMap f).length
 | [],_=>by simp
 | y::Y,h=>by
   rw[A0q,Y5,Ya,Zk];have:=h y (YL ..);have:=Kv Y λb a=>h b (YC _ a);omega
theorem Kw{f:Nat->List Nat}:∀(Y:List Nat),Y.Nodup->(∀ y∈Y,(f y).Nodup)->(∀ y∈Y,∀ z∈Y,∀ c,c∈f y->c∈f z->y=z)->(Y.flatMap f).Nodup
 | [],_,_,_=>by simp
 | y::Y,k,i,j=>by
   obtain⟨l,m⟩:=Yy.mp k;rw[A0q,Zg];refine⟨i y (YL ..),Kw Y m (λz g=>i z (YC _ g)) (λa h b d=>j a (YC _ h) b (YC _ d)),λa h b d e=>?_⟩;obtain⟨z,g,d⟩:=A0y.mp d;subst e;exact l (j y (YL ..) z (YC _ g) a h d▸g)
theorem TX:∀ L:List Nat,∃ Y:List Nat,Y.Nodup/\∀ y,y∈Y↔y∈L
 | []=>⟨[],.nil,λ_=>Iff.rfl⟩
 | a::L=>by
   obtain⟨Y,c,b⟩:=TX L;by_cases m:a∈Y
   ·refine⟨Y,c,λy=>?_⟩;rw[YH,b];exact⟨.inr,λz=>z.elim (λe=>e▸(b a).mp m) id⟩
   ·refine⟨a::Y,Yy.mpr ⟨m,c⟩,λy=>?_⟩;rw[YH,YH,b]
def viz{n H p t0 s:Nat}{es:EE}{cs:List Nat}{F:Fan}(w:∀ e∈es,e.1<e.2/\e.2<n)(hH:H<=1000)(I:FanI es cs p H t0 F)(M:VY es cs p H F)(no:VZ es cs p H F)(b0:¬ hu cs t0<1000)(Q:∀ y,y<n->t8 es y+s<=H)(A:∀ e,es.count e<=s)
 (R:∀ x∈F,∀ y∈F,∀ c,c∈frL es cs (farT es p x.1) H->c∈frL es cs (farT es p y.1) H->farT es p x.1=farT es p y.1):False:=by
 obtain⟨Y,B,j⟩:=TX (F.map λx=>farT es p x.1);have d:∀ y,y∈Y↔∃ x∈F,farT es p x.1=y:=λy=>by rw[j,YO]
 have L:F.length<=Y.length * s:=by
  have:=Ku (f:=farT es p) (k:=s) Y (F.map (·.1)) (λt o=>by
   obtain⟨x,h,rfl⟩:=YO.mp o;exact(d _).mpr ⟨x,h,rfl⟩) (λy q=>Mf w A I.nd λt o=>by
   obtain⟨x,h,rfl⟩:=YO.mp o;exact I.att x h)
  rwa [Y4]at this
 have N:=Kv (f:=λy=>frL es cs y H) (k:=s) Y λy q=>by
  obtain⟨x,h,rfl⟩:=(d y).mp q;have:=Rz (es:=es) (cs:=cs) (farT es p x.1) H;have:=Q _ (DD w (I.att x h)).2;omega
 have C:=Kw (f:=λy=>frL es cs y H) Y B (λy _=>A0x.filter _) λa D b E c S T=>by
  obtain⟨x,h,rfl⟩:=(d a).mp D;obtain⟨y,q,rfl⟩:=(d b).mp E;exact R x h y q c S T
 have i:∀ c∈Y.flatMap λy=>frL es cs y H,∃ u,w4 es cs p c=aA u/\u∈F.map (·.1)/\u≠t0:=λc g=>by
  obtain⟨y,q,l⟩:=A0y.mp g;obtain⟨x,h,rfl⟩:=(d y).mp q;have U:=(mem_frL.mp l).1;cases o:w4 es cs p c with
  | none=>exact absurd l (no x h c (mem_frL.mpr ⟨U,Aj o⟩))
  | some u=>
    obtain⟨V,O⟩:=v7 o;refine⟨u,rfl,?_,λz=>by rw[z]at O;omega⟩;by_cases m:u∈F.map (·.1)
    ·exact m
    ·exact absurd (O▸l) (M u V m x h)
 have G:(t0::(Y.flatMap λy=>frL es cs y H).map λc=>(w4 es cs p c).getD 0).Nodup:=by
  rw[Yy];refine⟨λz=>?_,?_⟩
  ·obtain⟨c,g,e⟩:=YO.mp z;obtain⟨u,r,_,W⟩:=i c g;rw[r]at e;exact W e
  ·rw[List.Nodup,A0o];refine List.Pairwise.imp_of_mem (λ{a b} D E X e=>X ?_) C;obtain⟨u,r,_,_⟩:=i a D;obtain⟨v,P,_,_⟩:=i b E;rw[r,P]at e;have e:u=v:=e;rw[<-(v7 r).2,<-(v7 P).2,e]
 have J:=List.Nodup.length_le_of_subset G (l₂:=F.map (·.1)) λu K=>by
  rcases YH.mp K with z | z
  ·rw[z];exact YO.mpr ⟨_,Y7 I.fst,rfl⟩
  ·obtain⟨c,g,rfl⟩:=YO.mp z;obtain⟨u,r,Z,_⟩:=i c g;rw[r];exact Z
 rw[Ya,Y4,Y4]at J;omega
def w5(L:EE)(h:Nat):Option Nat:=(L.find? λq=>decide (q.2=h)).map (·.1)
noncomputable def shL(es:EE)(cs:List Nat)(p H:Nat)(F:Fan):EE:=F.flatMap λx=>(frL es cs (farT es p x.1) H).map λh=>(farT es p x.1,h)
noncomputable def A7(es:EE)(cs:List Nat)(p H:Nat)(F:Fan):Option (Nat×Nat):=((shL es cs p H F).find? λq=>!decide (w5 (shL es cs p H F) q.2=aA q.1)).bind λq=>(w5 (shL es cs p H F) q.2).map λf=>(q.2,f)
def EW(es:EE)(cs:List Nat)(p H:Nat)(F:Fan)(i:Nat):List Nat:=(frL es cs p H).filter λh=>decide (h∈frL es cs (farT es p (F.getD i (0,aB)).1) H)
noncomputable def v5(es:EE)(cs:List Nat)(p H:Nat)(F:Fan):Option (List Sp3):=(YJ F.length).findSome? λi=>(EW es cs p H F i).head?.map λh=>Ax (upF F (i+1) (aA i)).reverse h
noncomputable def w6(es:EE)(cs:List Nat)(t H:Nat):List Sp3:=
 match v5 es cs (es.getD t (0,0)).1 H (C9 es cs (es.getD t (0,0)).1 H (es.length+1) [(t,aB)]) with
 | some s=>s
 | none=>match A7 es cs (es.getD t (0,0)).1 H (C9 es cs (es.getD t (0,0)).1 H (es.length+1) [(t,aB)]) with
   | none=>[]
   | some x => .row x.2 ((frL es cs (es.getD t (0,0)).1 H).headD 0) x.1::(v5 es (st3 es cs (.row x.2 ((frL es cs (es.getD t (0,0)).1 H).headD 0) x.1)) (es.getD t (0,0)).1 H (C9 es cs (es.getD t (0,0)).1 H (es.length+1) [(t,aB)])).getD []
section
variable{n H p t0:Nat}{es:EE}{cs ds:List Nat}{F:Fan}
def Az(L M:EE)(h:Nat):w5 (L++M) h=(w5 L h).or (w5 M h):=by
 unfold w5;rw[A0n];cases L.find? λq=>decide (q.2=h)<;>simp
def Pj{f h:Nat}(l:List Nat):w5 (l.map λh=>(f,h)) h=if h∈l then aA f else aB:=by
 unfold w5;rw[List.find?_map];by_cases m:h∈l
 ·rw[iP m];cases hf:l.find? ((λq:Nat×Nat=>decide (q.2=h))∘λh=>(f,h)) with
  | none=>
    rw[ZF]at hf;exact absurd (decide_eq_true rfl) (hf h m)
  | some x=>rfl
 ·rw[iG m]
  have:l.find? ((λq:Nat×Nat=>decide (q.2=h))∘λh=>(f,h))=aB:=by
   rw[ZF];intro x a z;exact m (of_decide_eq_true (show decide (x=h)=aC from z)▸a)
  rw[this];rfl
theorem Pk(h:Nat):∀ F:Fan,w5 (shL es cs p H F) h=(F.find? λx=>decide (h∈frL es cs (farT es p x.1) H)).map λx=>farT es p x.1
 | []=>rfl
 | x::F=>by
   show w5 ((frL es cs (farT es p x.1) H).map (λh=>(farT es p x.1,h))++shL es cs p H F) h=_;rw[Az,Pj,Pk h F,Yb];by_cases m:h∈frL es cs (farT es p x.1) H
   ·rw[iP m,decide_eq_true m];rfl
   ·rw[iG m,decide_eq_false m];rfl
def mem_sh{q:Nat×Nat}:q∈shL es cs p H F↔∃ x∈F,farT es p x.1=q.1/\q.2∈frL es cs (farT es p x.1) H:=by
 unfold shL;rw[A0y];constructor
 ·rintro⟨x,a,c⟩;obtain⟨h,b,rfl⟩:=YO.mp c;exact⟨x,a,rfl,b⟩
 ·rintro⟨x,a,e,b⟩;exact⟨x,a,YO.mpr ⟨_,b,by rw[e]⟩⟩
def IE{x:Nat×Nat}(h:A7 es cs p H F=aA x):∃(k0 a:Nat) (g:Option Nat),F[k0]?=aA (a,g)/\x.1∈frL es cs (farT es p a) H/\farT es p a=x.2/\(∀(k u:Nat) (o:Option Nat),k<k0->F[k]?=aA (u,o)->x.1∉frL es cs (farT es p u) H)/\∃ z∈F,x.1∈frL es cs (farT es p z.1) H/\farT es p z.1≠farT es p a:=by
 unfold A7 at h;cases hq:(shL es cs p H F).find? λq=>!decide (w5 (shL es cs p H F) q.2=aA q.1) with
 | none=>rw[hq]at h;cases h
 | some q=>
   rw[hq]at h;replace h:(w5 (shL es cs p H F) q.2).map (λf=>(q.2,f))=aA x:=h;cases ho:w5 (shL es cs p H F) q.2 with
   | none=>rw[ho]at h;cases h
   | some f=>
     rw[ho]at h;cases h;have b:=A1m hq;rw[ho]at b;have b:f≠q.1:=by simpa using b
     obtain⟨z,j,l,m⟩:=mem_sh.mp (Zs hq);rw[Pk]at ho;cases hx:F.find? λx=>decide (q.2∈frL es cs (farT es p x.1) H) with
     | none=>rw[hx]at ho;cases ho
     | some c=>
       rw[hx]at ho;have d:farT es p c.1=f:=oj ho;obtain⟨r,i,s,t,v⟩:=List.find?_eq_some_iff_getElem.mp hx;refine⟨i,c.1,c.2,by rw[Y6 s,t],of_decide_eq_true r,d,λk u o w e=>?_,z,j,m,?_⟩
       ·have:=v k w;obtain⟨y,e⟩:=gM e;rw[e]at this;simpa using this
       ·rw[l,d];exact b.symm
def IF(h:A7 es cs p H F=aB):∀ x∈F,∀ y∈F,∀ c,c∈frL es cs (farT es p x.1) H->c∈frL es cs (farT es p y.1) H->farT es p x.1=farT es p y.1:=by
 have all:∀ q∈shL es cs p H F,w5 (shL es cs p H F) q.2=aA q.1:=λq b=>by
  unfold A7 at h;cases hf:(shL es cs p H F).find? λq=>!decide (w5 (shL es cs p H F) q.2=aA q.1) with
  | none=>
    rw[ZF]at hf;simpa using hf q b
  | some a=>
    rw[hf]at h;replace h:(w5 (shL es cs p H F) a.2).map (λf=>(a.2,f))=aB:=h;have m:=Zs hf
    have d:w5 (shL es cs p H F) a.2≠aB:=λz=>by
     unfold w5 at z;rw[ZO,ZF]at z;exact z a m (decide_eq_true rfl)
    cases ho:w5 (shL es cs p H F) a.2 with
    | none=>exact absurd ho d
    | some f=>rw[ho]at h;cases h
 intro x e y g c i j;have k:=all (farT es p x.1,c) (mem_sh.mpr ⟨x,e,rfl,i⟩);have l:=all (farT es p y.1,c) (mem_sh.mpr ⟨y,g,rfl,j⟩);exact oj (k.symm.trans l)
theorem IG{a:Type}{f:Nat->Option a}{y:a}:∀{m:Nat},(YJ m).findSome? f=aA y->∃ i,i<m/\f i=aA y/\∀ j,j<i->f j=aB
 | 0,h=>by cases h
 | m+1,h=>by
   rw[ZE,List.findSome?_append]at h;cases hm:(YJ m).findSome? f with
   | some z=>
     rw[hm]at h;cases h;obtain⟨i,e,b,c⟩:=IG hm;exact⟨i,by omega,b,c⟩
   | none=>
     rw[hm]at h
     have h:f m=aA y:=by
      cases hf:f m with
      | none=>simp[hf]at h
      | some z=>simpa[hf] using h
     rw[ZP]at hm;exact⟨m,by omega,h,λj d=>hm j (YU.mpr d)⟩
def EX{i h:Nat}{x:Nat×Option Nat}(e:F[i]?=aA x):h∈EW es cs p H F i↔h∈frL es cs p H/\h∈frL es cs (farT es p x.1) H:=by
 unfold EW;rw[Z1,dQ,show F.getD i (0,aB)=x by rw[Y9,e];rfl]
def Br{s:List Sp3}(h:v5 es ds p H F=aA s):∃(i:Nat) (x:Nat×Option Nat) (h:Nat),F[i]?=aA x/\h∈frL es ds p H/\h∈frL es ds (farT es p x.1) H/\s=Ax (upF F (i+1) (aA i)).reverse h/\∀(a:Nat) (d:Nat×Option Nat),a<i->F[a]?=aA d->∀ b∈frL es ds p H,b∉frL es ds (farT es p d.1) H:=by
 obtain⟨i,g,c,j⟩:=IG h;have f:=Y6 g;cases hs:(EW es ds p H F i).head? with
 | none=>rw[hs]at c;cases c
 | some b=>
   rw[hs]at c;have m:b∈EW es ds p H F i:=List.mem_of_head? hs;obtain⟨k,l⟩:=(EX f).mp m;refine⟨i,_,b,f,k,l,(oj c).symm,λa d e o u r t=>?_⟩;have:=j a e;rw[ZO,A0G]at this;have q:=(EX o).mpr ⟨r,t⟩;rw[this]at q;cases q
def DM(h:v5 es ds p H F=aB):VZ es ds p H F:=by
 unfold v5 at h;rw[ZP]at h;intro x b e c d;obtain⟨i,a⟩:=ZQ b;have:=h i (YU.mpr (gM a).1);rw[ZO,A0G]at this;have q:=(EX a).mpr ⟨c,d⟩;rw[this]at q;cases q
def EY{G t:Nat}(a:∀ e∈es,e.1<e.2/\e.2<n)(f:H<=1000)(g:Hg H es cs)(w:t<es.length)(b0:¬ hu cs t<1000)(J:∀ y,y<n->t8 es y+G<=H)(A:∀ e,es.count e<=G)(K:p=(es.getD t (0,0)).1)(V:F=C9 es cs p H (es.length+1) [(t,aB)]):
 FanI es cs p H t F/\((∃ s,v5 es cs p H F=aA s/\OkR3 n H es cs s/\Ph H es cs (AZ es cs s) t)\/
 (v5 es cs p H F=aB/\frL es cs p H≠[]/\∃ x s,A7 es cs p H F=aA x/\Ok3 n H es cs (.row x.2 ((frL es cs p H).headD 0) x.1)/\v5 es (st3 es cs (.row x.2 ((frL es cs p H).headD 0) x.1)) p H F=aA s/\OkR3 n H es (st3 es cs (.row x.2 ((frL es cs p H).headD 0) x.1)) s/\Ph H es cs (AZ es (st3 es cs (.row x.2 ((frL es cs p H).headD 0) x.1)) s) t)):=by
 obtain⟨e,B⟩:∃ e,es[t]?=aA e:=⟨_,Y6 w⟩
 have N:es.getD t (0,0)=e:=by rw[Y9,B];rfl
 have k:AtP es t p:=⟨e,B,.inl (by rw[K,N])⟩
 have en:=a e (Y7 B);have W:p<n:=by rw[K,N];omega
 obtain⟨I,M⟩:=GN (es:=es) (cs:=cs) (p:=p) (H:=H) (t0:=t) (es.length+1) [(t,aB)] (FanI.one k) (by show es.length<1+(es.length+1);omega);rw[<-V]at I M;have c:=g.bare w b0 f;refine⟨I,?_⟩
 have C:∀ m,Lnk es cs p H F m:=λm i X b u q hi d Y=>by
  have Z:0<i:=Zn λz=>by rw[z,I.fst]at d;cases d
  obtain⟨b2,u2,D,e3,k1,O,k3,k4⟩:=I.bk i X _ Z d;cases e3;rw[Y]at O;cases O;exact k3
 cases ht:v5 es cs p H F with
 | some s=>
   obtain⟨i,x,h,d,l,o,rfl,_⟩:=Br ht;exact .inl ⟨_,rfl,FS a f I g c d (C i) l o⟩
 | none=>
   have no:=DM ht;have Q:=Rv (p:=p) f k b0 (by have:=J p W;omega);refine .inr ⟨rfl,Q,?_⟩;cases hs:A7 es cs p H F with
   | none=>exact(viz a f I M no b0 J A (IF hs)).elim
   | some x=>
     obtain⟨k0,u0,o0,h0,c0,ef,mn,z,hz,cz,zf⟩:=IE hs;obtain⟨r,⟨i,y,h,q1,D,S⟩,L⟩:=Ry a f g I no (PZ Q) h0 c0 mn hz cz zf;rw[ef]at r D S L;have g1:=Bq g a f r
     have T:∀ u,u<es.length->(hu (st3 es cs (.row x.2 ((frL es cs p H).headD 0) x.1)) u<H↔hu cs u<H)/\(¬ hu cs u<1000->hu (st3 es cs (.row x.2 ((frL es cs p H).headD 0) x.1)) u=hu cs u):=λu v=>by
      obtain⟨aH,bH,ab,_,fb⟩:=r;obtain⟨x',o1,o2,R,U⟩:=Db g.P a ab fb;show(hu (exL cs _ _ _) u<H↔_)/\(_->hu (exL cs _ _ _) u=_);rw[GM g v];by_cases m:u∈rwF es cs (es.length+1) x.2 ((frL es cs p H).headD 0) x.1
      ·rw[iP m];have tw:=Dd R u m;have lt:hu cs u<H:=by rcases tw with y | y<;>rw[y]<;>assumption
       refine⟨⟨λ_=>lt,λ_=>by split<;>assumption⟩,λz=>by omega⟩
      ·rw[iG m];exact⟨Iff.rfl,λ_=>rfl⟩
     have j:hu (st3 es cs (.row x.2 ((frL es cs p H).headD 0) x.1)) t=1000+t:=((T t w).2 b0).trans c;cases ht1:v5 es (st3 es cs (.row x.2 ((frL es cs p H).headD 0) x.1)) p H F with
     | none=>exact absurd S (DM ht1 y (Y7 q1) h D)
     | some s=>
       obtain⟨i2,x2,h2,d,l,o,rfl,E⟩:=Br ht1;obtain⟨r1,r2,r3⟩:=FS a f I g1 j d (L i2 x2 h2 d l o E) l o;refine⟨x,_,rfl,r,ht1,r1,r2,λu v ne=>?_⟩;rw[r3 u v ne];exact(T u v).1
def DE{c t:Nat}(a:∀ e∈es,e.1<e.2/\e.2<n)(d:H<=1000)(g:Hg H es cs)(f:t<es.length)(b0:¬ hu cs t<1000)(h:∀ y,y<n->t8 es y+c<=H)(b:∀ e,es.count e<=c):OkR3 n H es cs (w6 es cs t H)/\Ph H es cs (AZ es cs (w6 es cs t H)) t:=by
 obtain⟨_,k⟩:=EY a d g f b0 h b rfl rfl;unfold w6;rcases k with⟨s,e,r⟩ | ⟨e,_,x,s,i,j,l,m,o⟩
 ·rw[e];exact r
 ·rw[e];dsimp only;rw[i];dsimp only;rw[l];exact⟨⟨j,m⟩,o⟩
end
noncomputable def Ad:Sp3->SV
 | .hue t h => .tup [.str "hue",.int (t:Nat),.int (h:Nat)]
 | .move t u => .tup [.str "move",.int (t:Nat),.int (u:Nat)]
 | .row p a b => .tup [.str "row",.int (p:Nat),.int (a:Nat),.int (b:Nat)]
def IsTh(es:EE)(m:Nat):Prop:=(∀ e,es.count e<=m)/\(m=0\/∃ e,e∈es/\es.count e=m)
def IsTh.uniq{es:EE}{m k:Nat}(a:IsTh es m)(b:IsTh es k):m=k:=by
 have c:∀{m k:Nat},IsTh es m->IsTh es k->m<=k:=λ{m k} a b=>by
  rcases a.2 with z | ⟨e,_,z⟩
  ·omega
  ·rw[<-z];exact b.1 e
 exact A1l (c a b) (c b a)
def SA{es:EE}{m:Nat}(h:IsTh es m):m<=es.length:=by
 rcases h.2 with z | ⟨e,_,z⟩
 ·omega
 ·rw[<-z];exact List.count_le_length
def SB{es c:EE}{m:Nat}(a:∀ e,e∈c↔e∈es)(h:Grt (c.map λe=>((es.count e:Nat):Int)) (m:Int)):IsTh es m:=by
 obtain⟨d,f⟩:=h;obtain⟨e,g,i⟩:=YO.mp d;refine⟨λb=>?_,.inr ⟨e,(a e).mp g,by omega⟩⟩;by_cases z:b∈es
 ·have:=f _ (YO.mpr ⟨b,(a b).mpr z,rfl⟩);omega
 ·rw[A0i.mpr z];omega
def Pl:IsTh [] 0:=⟨λe=>by simp,.inl rfl⟩
section
variable{Δ:Nat->Sn}
def AW(s:Sn)(c:Nat->Nat->Nat->List SV):Prop:=∀{n H p a b:Nat} {w:SV} {es:EE} {cs:List Nat} {S:Sto} {Q:QE},Hg H es cs->(∀ e∈es,e.1<e.2/\e.2<n)->es.length<=60->H<=1000->Ok3 n H es cs (.row p a b)->Hv S w cs->(∀(l:Nat) (d:Sto),Gw S d->S.length<=l->d[l]?=aA (.lst (j7 (st3 es cs (.row p a b))))->Q (.loc l) d)->s (webS n es::w::c p a b) S Q
def Pm{i kr j:Nat}(k:PP (Δ i))(u:JQ (Δ kr))(v:GL (Δ j)){D:Df}(y:D.body=TN i kr j)(z:D.N.length=5)(A:D.ps.length=5):AW (i5 Δ D) λp a b=>[.int (p:Nat),.int (a:Nat),.int (b:Nat)]:=by
 intro n H p a b w T U S Q g d B C m o q;have e:=m;obtain⟨E,F,f,G,no⟩:=m;obtain⟨x,V,W,R,r⟩:=Db g.P d f no;have X:=R.len;unfold i5;rw[y,z];have s:∀ c:Nat,c<H->Gd (VS S) 0 10 (.int (c:Nat)):=λc Y => .int ⟨by omega,by omega⟩;have t:∀ c:Nat,Rr (.int (c:Nat))=aC:=λc=>(show decide ((0:Int)<=((c:Nat):Int))=aC from decide_eq_true (by omega))
 refine⟨A.symm,_,rfl,k (s _ E) ⟨_,rfl,?_⟩⟩;rw[t];refine ifF rfl ⟨_,rfl,k (s _ F) ⟨_,rfl,?_⟩⟩;rw[t];refine ifF rfl (j6 ?_);refine⟨_,rfl,_,rfl,_,rfl,_,rfl,_,rfl,_,rfl,_,rfl,u o (by omega) (by omega) g.P d (by omega) G f no λl Z h l1 I=>⟨_,rfl,_,rfl,?_⟩⟩;exact v (o.gw h) (by omega) (by omega) I g.P.len d B f R.lt (Dd R) (by omega) (Bq g d C e).P λJ K L M O=>q J K (h.trans L) (Yg h.len M) O
def FT{d kd e kr:Nat}(f:AW (Δ kr) λp a b=>[.int (p:Nat),.int (a:Nat),.int (b:Nat)]){D:Df}(i:D.body=JP d kd e kr)(j:D.N.length=4)(k:D.ps.length=3):AW (i5 Δ D) λp a b=>[Ad (.row p a b)]:=by
 intro n H p a b w s t S Q g c l m o r q;unfold i5;rw[i,j];have no:∀ w:Str,w≠"row"->decide (("row":Str)=w)=aD:=λw h=>decide_eq_false λz=>h z.symm;refine⟨k.symm,_,rfl,_,nofun,rfl,_,rfl,ifF rfl ⟨_,rfl,aC,rfl,ifF rfl (j6 ?_)⟩⟩;refine⟨_,rfl,_,_,rfl,rfl,?_⟩;refine⟨_,rfl,_,rfl,ifF (no "hue" (by decide)) (ifF rfl (j6 ?_))⟩;refine⟨_,rfl,_,rfl,ifF (no "drop" (by decide)) (ifF rfl (j6 ?_))⟩;refine⟨_,rfl,_,rfl,ifF (no "move" (by decide)) (ifF rfl (j6 ?_))⟩;refine⟨_,rfl,_,rfl,ifT (decide_eq_true rfl) ⟨_,rfl,_,rfl,_,rfl,ifT rfl ?_⟩⟩;exact⟨_,rfl,_,rfl,_,rfl,_,_,rfl,rfl,_,rfl,_,_,rfl,rfl,_,rfl,_,_,rfl,rfl,f g c l m o r q⟩
def Pn{d:Nat}(e:AW (Δ d) λp a b=>[Ad (.row p a b)]){D:Df}(f:D.body=TQ d)(h:D.N.length=4)(i:D.ps.length=3):AW (i5 Δ D) λp a b=>[Ad (.row p a b)]:=by
 intro n H p a b w v x S Q g c j k m o q;unfold i5;rw[f,h];refine⟨i.symm,_,rfl,_,rfl,_,rfl,e g c j k m o λl r s t u=>?_⟩;exact⟨_,rfl,.inl ⟨rfl,_,rfl,ifF rfl (j6 ⟨_,rfl,q l r s t u⟩)⟩⟩
noncomputable def Po:List Stm:=[.asg (.nm 1) .dnewl,.loop (.nm 2) (.seq kE) [.dputl vK vM (.op .Add (.dget2l vK vM vQ) vN)],.ret (.maxd (.dvalsl vK) vQ)]
def Cn(s:Sn):Prop:=∀{n:Nat} {es:EE} {S:Sto} {Q:QE},es.length<=1000->(∀(m:Nat) (a:Sto),IsTh es m->Gw S a->Q (.int (m:Nat)) a)->s [webS n es] S Q
def CA(e:Nat×Nat):List Int:=[(e.1:Int),(e.2:Int)]
def EZ{a b:Nat×Nat}(h:CA a=CA b):a=b:=by
 unfold CA at h;injection h with d c;injection c with c _;exact Prod.ext (Yn.mp d) (Yn.mp c)
def CS(es a:EE):List (List Int×SV):=a.map λe=>(CA e,SV.int ((es.count e:Nat):Int))
theorem IH{es:EE}(e:Nat×Nat):∀ a:EE,E4 (CS es a) (CA e)=if e∈a then aA (SV.int ((es.count e:Nat):Int)) else aB
 | []=>rfl
 | k::a=>by
   unfold CS E4;rw[Yf,Yb];by_cases z:k=e
   ·subst z;rw[decide_eq_true rfl,iP (YL ..)];rfl
   ·rw[decide_eq_false (λy=>z (EZ y))];have:=IH (es:=es) e a;unfold CS E4 at this;dsimp only;rw[this];by_cases m:e∈a
    ·rw[iP m,iP (YC _ m)]
    ·rw[iG m,iG (λy=>(YH.mp y).elim (λq=>z q.symm) m)]
def SC{es:EE}(e:Nat×Nat)(a:EE):(CS es a).any (λp=>decide (p.1=CA e))=decide (e∈a):=by
 unfold CS;rw[A01,Yp,Z9,dQ];constructor
 ·rintro⟨x,b,z⟩;exact EZ (of_decide_eq_true z)▸b
 ·exact λh=>⟨e,h,decide_eq_true rfl⟩
def SD{es:EE}{e:Nat×Nat}{a:EE}(c:∀ e,e∈a↔e∈es):FD (CS es a) (CA e) (.int (((es.count e:Nat):Int)+1))=CS (es++[e]) (if e∈a then a else a++[e]):=by
 have b:∀ k,(es++[e]).count k=es.count k+if k=e then 1 else 0:=λk=>by
  rw[List.count_append,List.count_singleton];by_cases z:k=e
  ·subst z;simp
  ·rw[iG z,iG (by simpa using λy=>z y.symm)]
 unfold FD;rw[SC];by_cases m:e∈a
 ·rw[iP (decide_eq_true m),iP m];unfold CS;rw[Zo];refine Zv λk _=>?_;show(if CA k=CA e then (CA k,_) else (CA k,_))=_;rw[b];by_cases z:k=e
  ·subst z;rw[iP rfl,iP rfl];rfl
  ·rw[iG (λy=>z (EZ y)),iG z];rfl
 ·rw[iG (by simpa using m),iG m];unfold CS;rw[YN]
  congr 1
  ·refine Zv λk d=>?_;rw[b,iG (show ¬ k=e from λz=>m (z▸d))];rfl
  ·show[(CA e,SV.int (((es.count e:Nat):Int)+1))]=[(CA e,SV.int (((es++[e]).count e:Nat):Int))]
   rw[b,iP rfl];rfl
def Pp(j:∀ f,MonoN (Δ f)){D:Df}(s:D.body=Po)(t:D.N.length=3)(u:D.ps.length=1):Cn (i5 Δ D):=by
 intro n c S Q H q;unfold i5;rw[s,t];have v:Gw S (S++[SO.dtl []]):=(Gw.refl S).push;refine⟨u.symm,_,rfl,_,_,rfl,rfl,_,rfl,?_⟩;refine y8 (m9 j _) (λi k d=>∃(b:EE) (l:Option SV),k=[aA (webS n c),aA (.loc S.length),l]/\Gw S d/\d[S.length]?=aA (.dtl (CS (c.take i) b))/\b.length<=i/\∀ e,e∈b↔e∈c.take i) ⟨[],aB,rfl,v,g9,YF _,λe=>by simp⟩ (λ_ _ _ _=>trivial) ?_ ?_
 ·rintro i x k d w ⟨b,l,rfl,G,h,A,a⟩;obtain⟨e,o,rfl⟩:=At w;have I:=(gM o).1;have r:c.take (i+1)=c.take i++[e]:=by rw[Yo,o];rfl
  refine⟨_,rfl,_,_,rfl,h,_,rfl,CA e,_,rfl,h,?_⟩
  rw[show(E4 (CS (c.take i) b) (CA e)).getD (SV.int 0)=SV.int (((c.take i).count e:Nat):Int) by
   rw[IH];by_cases m:e∈b
   ·rw[iP m];rfl
   ·rw[iG m,A0i.mpr (λz=>m ((a e).mpr z))];rfl]
  refine⟨_,rfl,_,rfl,S.length,CA e,_,rfl,rfl,h,by unfold CS;rw[Y4];show _<100000;omega,if e∈b then b else b++[e],_,rfl,G.put (YF _),?_,?_,λJ=>?_⟩
  ·rw[t9 h,r,<-SD a]
  ·split
   ·omega
   ·rw[Y5];simp;omega
  ·rw[r,YT,YK,<-a];split
   ·next m=>exact⟨.inl,λz=>z.elim id λy=>y▸m⟩
   ·rw[YT,YK]
 ·rintro k d ⟨b,l,rfl,G,h,A,a⟩;rw[Y4,Yk]at h a
  have B:(d++[SO.lst ((CS c b).map (·.2))])[d.length]?=aA (SO.lst ((b.map λe=>((c.count e:Nat):Int)).map SV.int)):=by
   rw[g9];unfold CS;rw[Zo,Zo];rfl
  refine⟨_,rfl,_,_,rfl,h,d.length,_,0,rfl,rfl,B,λz=>?_,λm g=>?_⟩
  ·have C:b=[]:=by simpa using z
   have E:c=[]:=by
    cases c with
    | nil=>rfl
    | cons e c=>
      have:=(a e).mpr (YL ..);rw[C]at this;cases this
   exact q 0 _ (by rw[E];exact Pl) G.push
  ·obtain⟨e,o,F⟩:=YO.mp g.1
   have p:∀ z:Nat,m=(z:Int)->Q (.int m) (d++[SO.lst ((CS c b).map (·.2))]):=λz e=>by
    rw[e]at g ⊢;exact q z _ (SB a g) G.push
   exact p _ F.symm
noncomputable def Kx(a b:Nat):List Stm:=[.ret (.op .Add (.call a (vA vJ)) (.call b (vA vJ)))]
def Ea(s:Sn):Prop:=∀{n:Nat} {es:EE} {S:Sto} {Q:QE},(∀ e∈es,e.1<e.2/\e.2<n)->n<=1000->es.length<=1000->(∀(m:Nat) (a:Sto),IsTh es m->Gw S a->Q (.int ((mostN es n+m:Nat):Int)) a)->s [webS n es] S Q
def Mg{b c:Nat}(d:JM (Δ b))(e:Cn (Δ c)){D:Df}(f:D.body=Kx b c)(g:D.N.length=1)(h:D.ps.length=1):Ea (i5 Δ D):=by
 intro n r S Q a i j q;unfold i5;rw[f,g];refine⟨h.symm,_,rfl,d a i λs k=>⟨_,rfl,e j λm l o p=>?_⟩⟩;have:=q m l o (k.trans p);rw[Int.natCast_add]at this;exact this
end
def A8(x:Nat×Option Nat):SV := .tup [.int (x.1:Nat),IB x.2]
def Pq:Option (Nat×Option Nat)->SV
 | none => .non
 | some x=>A8 x
noncomputable def pnd(r:Option (Nat×Nat)):Option (Nat×Option Nat):=r.map λx=>(x.1,aA x.2)
def GO{F:Fan}{i:Nat}{x:SV}(h:(F.map A8)[i]?=aA x):∃ y,F[i]?=aA y/\x=A8 y:=by
 rw[YA]at h;cases he:F[i]? with
 | none=>rw[he]at h;cases h
 | some e=>rw[he]at h;exact⟨e,rfl,(oj h).symm⟩
def Di{F:Fan}{i:Nat}{y:Nat×Option Nat}(h:F[i]?=aA y):(F.map A8)[i]?=aA (A8 y):=by rw[YA,h];rfl
def XS{c:Nat}{L:List Nat}(h:∀ x∈L,x<1000):inS (pS c) (j9 L)=decide (c∈L):=by
 by_cases z:c<1000
 ·rw[v8 z];exact JL c L
 ·rw[y9 z,decide_eq_false (λm=>z (h c m))];unfold inS j9;rw[A01,A13];intro x _ q;cases q
def TY(c:Nat):AI (pS c)=aC:=by
 by_cases z:c<1000
 ·rw[v8 z];rfl
 ·rw[y9 z];rfl
def Va{es:EE}{cs:List Nat}{p H:Nat}(b:H<=1000):∀ x∈frL es cs p H,x<1000:=λx a=>by have:=(mem_frL.mp a).1;omega
section
variable{Δ:Nat->Sn}
noncomputable def nf1:Stm:=(.asg (.nm 4) (.comp ["tie","back"] [] [] (.tup (.cons (.nm 0) (.cons (.nm 1) .nil))) (.seq vK) .no vJ))
noncomputable def nfI:List Stm:=[.iff (.cmp .In (.ix vJ vR) vT) [.ret (.tup (vB vR vS))] []]
noncomputable def nfO:List Stm:=[.iff (.cmp .NotIn vR vO) [.loop (.tup (.cons (.nm 6) (.cons (.nm 7) .nil))) (.enum vL) nfI] []]
noncomputable def TZ:List Stm:=[nf1,.loop (.nm 5) (.seq vM) nfO,.ret vP]
def FrA(S:Sto)(es:EE)(cs:List Nat)(p H:Nat)(F:Fan)(a:List Nat):Prop:=a.length=F.length/\∀(i l:Nat) (x:Nat×Option Nat),a[i]?=aA l->F[i]?=aA x->S[l]?=aA (.lst (j9 (frL es cs (farT es p x.1) H)))
def FrA.gw{S c:Sto}{es:EE}{cs:List Nat}{p H:Nat}{F:Fan}{d:List Nat}(h:FrA S es cs p H F d)(G:Gw S c):FrA c es cs p H F d:=⟨h.1,λi l x a b=>G.keep _ _ (h.2 i l x a b)⟩
def JS(s:Sn):Prop:=∀{p H a b kr:Nat} {w:SV} {es:EE} {cs c:List Nat} {F:Fan} {S:Sto} {Q:QE},Hv S w cs->cs.length=es.length->es.length<=60->H<=1000->S[a]?=aA (.lst (F.map A8))->F.length<=60->S[b]?=aA (.lst (j9 (j8 es p es.length)))->S[kr]?=aA (.lst (c.map SV.loc))->FrA S es cs p H F c->(∀ d,Gw S d->Q (Pq (pnd (BP es cs p H F))) d)->s [w,.loc a,.loc b,.loc kr] S Q
def SE(n:∀ f,MonoN (Δ f)){D:Df}(hb:D.body=TZ)(hN:D.N.length=8)(hp:D.ps.length=4):JS (i5 Δ D):=by
 intro p H P R T w a cs ls F S Q hw cl el hH hF fl ha hr A q;unfold i5;rw[hb,hN];refine⟨hp.symm,_,rfl,_,f9 hF,?_⟩;refine m7 (n9 n _).2 (c8 n _).1 (λj U d=>d=S/\U=j9 ((F.map (·.1)).take j)) ⟨rfl,rfl⟩ (λ_ _ _ z=>by rw[z.1];exact rfl) ?_ ?_
 ·rintro j x U d V ⟨rfl,rfl⟩;obtain⟨y,hy,rfl⟩:=GO V;have G:=(gM hy).1;refine⟨_,rfl,by rw[p0,Z7,Y4];show _<100000;omega,rfl,?_⟩;rw[Yo,YA,hy,Au];rfl
 rintro U d ⟨rfl,rfl⟩;rw[Y4,show(F.map (·.1)).take F.length=F.map (·.1) by rw[<-Y4 (f:=(·.1)),Yk]];have v:Gw d (d++[SO.lst (j9 (F.map (·.1)))]):=(Gw.refl d).push;have h4:(d++[SO.lst (j9 (F.map (·.1)))])[d.length]?=aA (SO.lst (j9 (F.map (·.1)))):=g9;have W:=hw.gw v;have X:=v.keep _ _ ha;have Y:=v.keep _ _ hr;have B:=A.gw v;show wSs Δ [.loop (.nm 5) (.seq vM) nfO,.ret vP] (u8 Q) [aA w,aA (.loc P),aA (.loc R),aA (.loc T),aA (.loc d.length),aB,aB,aB] (d++[SO.lst (j9 (F.map (·.1)))]);generalize d++[SO.lst (j9 (F.map (·.1)))]=S1 at *;generalize d.length=Z at *;refine⟨_,rfl,_,f9 X,?_⟩;refine A6 (m9 n _) (λj I C=>C=S1/\(∃ o5 o r:Option SV,I=[aA w,aA (.loc P),aA (.loc R),aA (.loc T),aA (.loc Z),o5,o,r])/\∀ u∈(j8 a p a.length).take j,(if u∈F.map (·.1) then aB else (Ay cs u (frs a cs p H F)).map λb=>(u,b))=aB) ⟨rfl,⟨aB,aB,aB,rfl⟩,λu c=>by simp at c⟩ (λ_ _ _ z=>by rw[z.1];exact rfl) ?_ ?_
 ·rintro j x I C E hE hR V ⟨rfl,⟨o5,o,r,rfl⟩,no⟩;obtain⟨t,s,rfl⟩:=C3 V;have tl:t<a.length:=let ⟨e,he,_⟩:=mem_tiesAt.mp (Y7 s);(gM he).1
  have hc:=Ac (cs:=cs) (t:=t) (by omega)
  have nx:(if t∈F.map (·.1) then aB else (Ay cs t (frs a cs p H F)).map λb=>(t,b))=aB->∀ u∈(j8 a p a.length).take (j+1),(if u∈F.map (·.1) then aB else (Ay cs u (frs a cs p H F)).map λb=>(u,b))=aB:=λz u c=>by
   rw[Yo,s]at c;rcases YT.mp c with y | y
   ·exact no u y
   ·have:u=t:=by simpa using y
    rw[this];exact z
  refine⟨_,rfl,_,rfl,?_⟩;show match CD (.loc Z) C with | some ms=>_ | none=>_
  rw[Bm h4];refine⟨rfl,_,f9 h4,DB _,_,rfl,?_⟩;show if (!inS (.int (t:Nat)) (j9 (F.map (·.1))))=aC then _ else _
  rw[JL];by_cases m:t∈F.map (·.1)
  ·rw[decide_eq_true m];exact ifF rfl (j6 (hE _ _ ⟨rfl,⟨_,_,_,rfl⟩,nx (iP m)⟩))
  ·rw[decide_eq_false m];refine ifT rfl ⟨_,rfl,_,f9 Y,?_⟩;rw[iG m]at nx;refine A6 (m9 n _) (λg I J=>J=C/\(∃ o r:Option SV,I=[aA w,aA (.loc P),aA (.loc R),aA (.loc T),aA (.loc Z),aA (.int (t:Nat)),o,r])/\∀ l∈(frs a cs p H F).take g,decide (hu cs t∈l)=aD) ⟨rfl,⟨_,_,rfl⟩,λu c=>by simp at c⟩ (λ_ _ _ z=>by rw[z.1];exact rfl) ?_ ?_
   ·rintro g x2 a0 J E2 a1 a2 a3 ⟨rfl,⟨o,r,rfl⟩,h⟩;obtain⟨y2,i,rfl⟩:=EO a3;rw[YA]at i;cases hl:ls[g]? with
    | none=>rw[hl]at i;cases i
    | some l=>
      rw[hl]at i;cases i;have G:=(gM hl).1;have K:=Y6 (show g<F.length by rw[<-B.1];exact G);have L:=B.2 g l _ hl K;refine⟨_,rfl,_,rfl,_,_,W.seq,k8 (AQ hc),_,rfl,?_⟩;show match CD (.loc l) J with | some ms=>_ | none=>_
      rw[Bm L];refine⟨TY _,_,f9 L,DB _,_,rfl,?_⟩;show if inS (pS (hu cs t)) (j9 (frL a cs (farT a p (F[g]'(by rw[<-B.1];exact G)).1) H))=aC then _ else _
      rw[XS (Va hH)];have O:(frs a cs p H F)[g]?=aA (frL a cs (farT a p (F[g]'(by rw[<-B.1];exact G)).1) H):=by unfold frs;rw[YA,K];rfl
      refine ifD (λz=>?_) (λz=>j6 (a1 _ _ ⟨rfl,⟨_,_,rfl⟩,λl' M=>?_⟩))
      ·refine⟨_,rfl,_,rfl,by show 2<=100000;decide,a2 _ _ (hR _ _ ?_)⟩
       have e1:Ay cs t (frs a cs p H F)=aA g:=by
        unfold Ay;refine ZZ.mpr ⟨(gM O).1,?_,λk hk z2=>?_⟩
        ·rw[(gM O).2];exact decide_eq_true z
        ·have kl:k<(frs a cs p H F).length:=by have:=(gM O).1;omega
         have:=h (frs a cs p H F)[k] (List.mem_take_iff_getElem.mpr ⟨k,by omega,rfl⟩);rw[this]at z2;cases z2
       have e2:BP a cs p H F=aA (t,g):=Pi s (by rw[iG m,e1];rfl) no;have:=q J v;rw[e2]at this;exact this
      ·rw[Yo,O]at M;rcases YT.mp M with y | y
       ·exact h l' y
       ·have:l'=frL a cs (farT a p (F[g]'(by rw[<-B.1];exact G)).1) H:=by simpa using y
        rw[this];exact decide_eq_false z
   ·rintro a0 J ⟨rfl,⟨o,r,rfl⟩,h⟩;refine hE _ _ ⟨rfl,⟨_,_,_,rfl⟩,nx ?_⟩;rw[Ci,Y4,B.1,show(frs a cs p H F).take F.length=frs a cs p H F by rw[<-Y4 (f:=λx:Nat×Option Nat=>frL a cs (farT a p x.1) H) (as:=F)];exact Yk]at h
    have:Ay cs t (frs a cs p H F)=aB:=by
     unfold Ay;rw[Zr];exact h
    rw[this];rfl
 ·rintro I C ⟨rfl,⟨o5,o,r,rfl⟩,no⟩;rw[p0,Yk]at no
  have e:BP a cs p H F=aB:=by
   unfold BP;rw[ZP];exact no
  have:=q C v;rw[e]at this;exact this
noncomputable def fo1(a:Nat):List Stm:=[.expr (.call a (vC vJ vM vL)),.iff kT [.no] []]
noncomputable def fo2(a:Nat):List Stm:=[.asg (.nm 5) (.call a (vB vJ vL)),.asg (.nm 6) kG,.asg (.nm 7) kG,.asg (.nm 8) (.tup (vB vM vP))]
noncomputable def foW(a kr b:Nat):List Stm:=[.expr (.mt .append vS (vA vU)),.asg (.nm 9) (.call a (vC vJ (.ix vU vQ) vL)),.expr (.mt .append vT (vA (.call kr (vD vJ vK vX vO)))),.asg (.nm 8) (.call b (vD vK vS vR vT))]
noncomputable def Pr(a b kr c:Nat):List Stm:=fo1 a++(fo2 b++[.whl (.cmp .IsNot vU vP) (foW a kr c),.ret vS])
def Ps(s:Sn):Prop:=∀{n H p t:Nat} {w:SV} {es:EE} {cs:List Nat} {S:Sto} {Q:QE},Hv S w cs->cs.length=es.length->(∀ e∈es,e.1<e.2/\e.2<n)->es.length<=60->H<=1000->AtP es t p->¬ hu cs t<1000->(∀(l:Nat) (a:Sto),Gw S a->a[l]?=aA (.lst ((C9 es cs p H (es.length+1) [(t,aB)]).map A8))->Q (.loc l) a)->s [webS n es,w,.int (t:Nat),.int (p:Nat),.int (H:Nat)] S Q
def Vb(a6:∀ f,MonoN (Δ f)){W kt kr E:Nat}(hf:As (Δ W))(ht:Bn (Δ kt))(hr:C5 (Δ kr))(hn:JS (Δ E)){D:Df}(hb:D.body=Pr W kt kr E)(hN:D.N.length=10)(hp:D.ps.length=5):Ps (i5 Δ D):=by
 intro n H p t w c cs S Q Y cl F el hH s b0 q;obtain⟨e,Z,J⟩:=s;have s:AtP c t p:=⟨e,Z,J⟩
 have tl:=s.lt;have pn:p<n:=by have:=F e (Y7 Z);omega
 have hc:=Ac (cs:=cs) (t:=t) (by omega);have a0:(j7 cs)[t]?=aA .non:=by rw[AQ hc,y9 b0]
 unfold i5;rw[hb,hN];refine⟨hp.symm,_,rfl,_,rfl,_,rfl,hf Z (J.imp Eq.symm Eq.symm) ?_⟩;refine⟨_,rfl,_,rfl,_,_,Y.seq,k8 a0,.inl ⟨rfl,_,rfl,ifF rfl (j6 ?_)⟩⟩;refine⟨_,rfl,_,rfl,ht (by omega) pn ?_⟩;refine⟨by show 0<=100000;decide,by show 0<=100000;decide,_,rfl,by show 2<=100000;decide,?_⟩;have G0:Gw S (S++[SO.lst (j9 (j8 c p c.length))]++[SO.lst []]++[SO.lst []]):=(Gw.refl S).push.push.push;have c5:(S++[SO.lst (j9 (j8 c p c.length))]++[SO.lst []]++[SO.lst []])[S.length]?=aA (SO.lst (j9 (j8 c p c.length))):=m4 (m4 g9);have e6:(S++[SO.lst (j9 (j8 c p c.length))]).length=S.length+1:=by simp
 have e7:(S++[SO.lst (j9 (j8 c p c.length))]++[SO.lst []]).length=S.length+2:=by simp
 have c6:(S++[SO.lst (j9 (j8 c p c.length))]++[SO.lst []]++[SO.lst []])[S.length+1]?=aA (SO.lst []):=by rw[<-e6];exact m4 g9
 have c7:(S++[SO.lst (j9 (j8 c p c.length))]++[SO.lst []]++[SO.lst []])[S.length+2]?=aA (SO.lst []):=by rw[<-e7];exact g9
 show wSs Δ [.whl (.cmp .IsNot vU vP) (foW W kr E),.ret vS] (u8 Q) [aA (webS n c),aA w,aA (.int (t:Nat)),aA (.int (p:Nat)),aA (.int (H:Nat)),aA (.loc S.length),aA (.loc (S++[SO.lst (j9 (j8 c p c.length))]).length),aA (.loc (S++[SO.lst (j9 (j8 c p c.length))]++[SO.lst []]).length),aA (Pq (aA (t,aB))),aB] (S++[SO.lst (j9 (j8 c p c.length))]++[SO.lst []]++[SO.lst []]);rw[e6,e7];generalize S++[SO.lst (j9 (j8 c p c.length))]++[SO.lst []]++[SO.lst []]=S0 at *;generalize hl:S.length=d at *;refine⟨λm ρ j=>∃(G:Fan) (o:Option (Nat×Option Nat)) (g:List Nat) (o9:Option SV),ρ=[aA (webS n c),aA w,aA (.int (t:Nat)),aA (.int (p:Nat)),aA (.int (H:Nat)),aA (.loc d),aA (.loc (d+1)),aA (.loc (d+2)),aA (Pq o),o9]/\Gw S j/\j[d]?=aA (.lst (j9 (j8 c p c.length)))/\j[d+1]?=aA (.lst (G.map A8))/\j[d+2]?=aA (.lst (g.map SV.loc))/\FrA j c cs p H G g/\(∀ l∈g,d+2<l)/\m+G.length=c.length+1/\match o with | none=>G=C9 c cs p H (c.length+1) [(t,aB)] | some x=>FanI c cs p H t (G++[x])/\∃ k,c.length<(G++[x]).length+k/\C9 c cs p H k (G++[x])=C9 c cs p H (c.length+1) [(t,aB)],⟨c.length+1,[],aA (t,aB),[],aB,rfl,G0,c5,c6,c7,⟨rfl,λi l x z=>by simp at z⟩,(λ_ h=>nomatch h),rfl,FanI.one s,c.length+1,by show c.length<1+(c.length+1);omega,rfl⟩,?_⟩;rintro m ρ j ⟨G,o,g,o9,rfl,GS,h5,X,h7,A,lm,em,hm⟩;cases o with
 | none=>
   refine⟨_,rfl,.inl ⟨rfl,_,rfl,ifF rfl ⟨_,rfl,q _ j GS ?_⟩⟩⟩;rw[X,hm]
 | some x=>
   obtain⟨I,k,hk,K⟩:=hm;have gl:=I.len;rw[Y5]at gl hk;simp only[Ya,ZS]at gl hk;obtain⟨ex,v,L⟩:=I.att x (by simp);have fn:=DD F ⟨ex,v,L⟩;have fe:Ab ex p=farT c p x.1:=by unfold farT;rw[show c.getD x.1 (0,0)=ex by rw[Y9,v];rfl]
   refine⟨_,rfl,.inl ⟨rfl,_,rfl,ifT rfl ?_⟩⟩;refine⟨_,rfl,⟨_,_,rfl,X⟩,_,rfl,_,X,by rw[Y4];show _<100000;omega,?_⟩;have a3:(j.set (d+1) (.lst (G.map A8++[A8 x])))[d+1]?=aA (.lst ((G++[x]).map A8)):=by rw[t9 X,YN];rfl
   have a4:(j.set (d+1) (.lst (G.map A8++[A8 x])))[d]?=aA (.lst (j9 (j8 c p c.length))):=by rw[AC (by omega)];exact h5
   have u:(j.set (d+1) (.lst (G.map A8++[A8 x])))[d+2]?=aA (.lst (g.map SV.loc)):=by rw[AC (by omega)];exact h7
   have M:Gw S (j.set (d+1) (.lst (G.map A8++[A8 x]))):=GS.put (by omega);have A1:FrA (j.set (d+1) (.lst (G.map A8++[A8 x]))) c cs p H G g:=⟨A.1,λi l y a b=>by rw[AC (by have:=lm l (Y7 a);omega)];exact A.2 i l y a b⟩
   show wSs Δ [.asg (.nm 9) (.call W (vC vJ (.ix vU vQ) vL)),.expr (.mt .append vT (vA (.call kr (vD vJ vK vX vO)))),.asg (.nm 8) (.call E (vD vK vS vR vT))] _ [aA (webS n c),aA w,aA (.int (t:Nat)),aA (.int (p:Nat)),aA (.int (H:Nat)),aA (.loc d),aA (.loc (d+1)),aA (.loc (d+2)),aA (A8 x),o9] (j.set (d+1) (.lst (G.map A8++[A8 x])));have a7:d+2<(j.set (d+1) (.lst (G.map A8++[A8 x]))).length:=(gM u).1;generalize j.set (d+1) (.lst (G.map A8++[A8 x]))=S1 at *;refine⟨_,rfl,_,rfl,_,_,rfl,rfl,_,rfl,hf v (L.imp Eq.symm Eq.symm) ?_⟩;rw[fe];refine⟨_,rfl,⟨_,_,rfl,u⟩,_,rfl,_,rfl,_,rfl,_,rfl,hr (Y.gw M) cl el fn.2 hH λr B C a8 h2=>?_⟩;refine⟨_,C.keep _ _ u,by rw[Y4,A.1];show _<100000;omega,?_⟩;have a5:d+2<r:=by omega
   have O:(B.set (d+2) (.lst (g.map SV.loc++[.loc r])))[d+2]?=aA (.lst ((g++[r]).map SV.loc)):=by rw[t9 (C.keep _ _ u),YN];rfl
   have P:(B.set (d+2) (.lst (g.map SV.loc++[.loc r])))[d+1]?=aA (.lst ((G++[x]).map A8)):=by rw[AC (by omega)];exact C.keep _ _ a3
   have R:(B.set (d+2) (.lst (g.map SV.loc++[.loc r])))[d]?=aA (.lst (j9 (j8 c p c.length))):=by rw[AC (by omega)];exact C.keep _ _ a4
   have T:Gw S (B.set (d+2) (.lst (g.map SV.loc++[.loc r]))):=(M.trans C).put (by omega)
   have U:∀ l∈g++[r],d+2<l:=λl hl=>by
    rcases YT.mp hl with z | z
    ·exact lm l z
    ·rw[YK.mp z];exact a5
   have A2:FrA (B.set (d+2) (.lst (g.map SV.loc++[.loc r]))) c cs p H (G++[x]) (g++[r]):=⟨by rw[Y5,Y5,A.1];rfl,λi l y a b=>by
    rw[AC (by have:=U l (Y7 a);omega)];rcases Ke a with⟨a1,a2⟩ | a
    ·rw[a1,A.1,YY]at b;cases b;rw[a2];exact h2
    ·have il:=(gM a).1;rw[YM (by rw[<-A.1];exact il)]at b;exact C.keep _ _ (A1.2 i l y a b)⟩
   show wSs Δ [.asg (.nm 8) (.call E (vD vK vS vR vT))] _ [aA (webS n c),aA w,aA (.int (t:Nat)),aA (.int (p:Nat)),aA (.int (H:Nat)),aA (.loc d),aA (.loc (d+1)),aA (.loc (d+2)),aA (A8 x),aA (.int (farT c p x.1:Nat))] (B.set (d+2) (.lst (g.map SV.loc++[.loc r])));generalize B.set (d+2) (.lst (g.map SV.loc++[.loc r]))=S3 at *;refine⟨_,rfl,_,rfl,_,rfl,_,rfl,hn (Y.gw T) cl el hH P (by rw[Y5];simp;omega) R O A2 λS4 V=>?_⟩;refine⟨c.length+1 - (G++[x]).length,by rw[Y5];simp;omega,G++[x],pnd (BP c cs p H (G++[x])),g++[r],_,rfl,T.trans V,V.keep _ _ R,V.keep _ _ P,V.keep _ _ O,A2.gw V,U,by rw[Y5];simp;omega,?_⟩;obtain⟨k',rfl⟩:∃ k',k=k'+1:=⟨k - 1,by omega⟩
   unfold C9 at K;cases hz:BP c cs p H (G++[x]) with
   | none=>rw[hz]at K;exact K
   | some y=>
     rw[hz]at K;exact⟨I.snoc hz,k',by rw[Y5,Y5];simp;omega,K⟩
def SF{l:List Nat}(h:l≠[]):(j9 l)[0]?=aA (.int (l.headD 0:Nat)):=by
 cases l with
 | nil=>exact absurd rfl h
 | cons a l=>rfl
end
theorem II(h:Nat):∀(r:List Nat) (a:Nat),Ax (a::r) h=(YJ r.length).map (λk=>Sp3.move ((a::r).getD (k+1) 0) ((a::r).getD k 0))++[.hue ((a::r).getLastD 0) h]
 | [],a=>rfl
 | b::r,a=>by
   show Sp3.move b a::Ax (b::r) h=_;rw[II h r b,Ya,A0F,Yf,Zo];rfl
def Mh{xs:List SV}{x:SV}(h:xs[xs.length - 1]?=aA x):atI xs (-1)=aA x:=by
 have a:xs≠[]:=λz=>by rw[z]at h;cases h
 have e:xs=xs.dropLast++[x]:=by
  have l:=ZR a;rw[Zb,h]at l;rw[oj l];exact(A09 a).symm
 rw[e];exact Gb _ _
def Pt{xs:List SV}{i:Nat}{x:SV}(h:xs[i+1]?=aA x):atI xs ((i:Int)+1)=aA x:=by
 rw[show((i:Int)+1)=((i+1:Nat):Int) from rfl];exact k8 h
section
variable{Δ:Nat->Sn}
noncomputable def tw1:List Stm:=[.asg (.nm 3) (.lst (vA (.ix (.ix vJ vK) vQ))),.asg (.nm 4) (.ix (.ix vJ vK) vN)]
noncomputable def twW:List Stm:=[.expr (.mt .append vL (vA (.ix (.ix vJ vO) vQ))),.asg (.nm 4) (.ix (.ix vJ vO) vN)]
noncomputable def tw2:List Stm:=[.expr (.mt .reverse vL .nil),.asg (.nm 5) (.comp ["k"] ["way"] [3] (.nm 0) (.rng1 (.op .Sub (.bi .len (vA vL)) vN)) .no (.tup (vC (.c (.str "move")) (.ix vK (.op .Add vJ vN)) (.ix vK vJ)))),.expr (.mt .append vR (vA (.tup (vC (.c (.str "hue")) (.ix vL (.neg vN)) vM)))),.ret vR]
noncomputable def IJ:List Stm:=tw1++((.whl (.cmp .IsNot vO vP) twW)::tw2)
def DF(s:Sn):Prop:=∀{p H b i h t0:Nat} {es:EE} {cs:List Nat} {F:Fan} {S:Sto} {Q:QE},FanI es cs p H t0 F->es.length<=60->S[b]?=aA (.lst (F.map A8))->i<F.length->(∀(l:Nat) (a:Sto),Gw S a->S.length<=l->a[l]?=aA (.lst ((Ax (upF F (i+1) (aA i)).reverse h).map Ad))->Q (.loc l) a)->s [.loc b,.int (i:Nat),.int (h:Nat)] S Q
def JT(A:∀ f,MonoN (Δ f)){D:Df}(hb:D.body=IJ)(hN:D.N.length=6)(hp:D.ps.length=3):DF (i5 Δ D):=by
 intro p H kf i h t0 es cs F S Q I el B il q;have fl:=I.len;obtain⟨x,n⟩:∃ x,F[i]?=aA x:=⟨_,Y6 il⟩
 have C:∀{j b:Nat} {y:Nat×Option Nat},F[j]?=aA y->y.2=aA b->b<j/\b<F.length:=λ{j b y} R M=>by
  obtain⟨t,o⟩:=y;have j0:0<j:=Zn λz=>by rw[z,I.fst]at R;cases R;cases M
  obtain⟨b',u,c,k1,k2,g,_⟩:=I.bk j t o j0 R;rw[show o=aA b from M]at k1;cases k1;exact⟨k2,(gM g).1⟩
 unfold i5;rw[hb,hN];have T:=m4 (o:=SO.lst [SV.int (x.1:Nat)]) B;refine⟨hp.symm,_,rfl,_,rfl,_,_,f9 B,k8 (Di n),_,_,rfl,rfl,by show 1<=100000;decide,?_⟩;refine⟨_,rfl,_,rfl,_,_,f9 T,k8 (Di n),_,_,rfl,rfl,?_⟩;have G0:Gw S (S++[SO.lst [SV.int (x.1:Nat)]]):=(Gw.refl S).push;have U:(S++[SO.lst [SV.int (x.1:Nat)]])[S.length]?=aA (SO.lst (j9 [x.1])):=g9;show wSs Δ ((.whl (.cmp .IsNot vO vP) twW)::tw2) (u8 Q) [aA (.loc kf),aA (.int (i:Nat)),aA (.int (h:Nat)),aA (.loc S.length),aA (IB x.2),aB] (S++[SO.lst [SV.int (x.1:Nat)]]);generalize S++[SO.lst [SV.int (x.1:Nat)]]=S0 at *;have a1:=(gM B).1;generalize hl:S.length=g at *
 have ul:∀ m,(upF F m (aA i)).length<=m:=λm=>by
  have go:∀(m:Nat) (o:Option Nat),(upF F m o).length<=m:=by
   intro m
   induction m with
   | zero=>intro o;cases o<;>exact YF _
   | succ m ih=>
     intro o;cases o with
     | none=>exact Z3 _
     | some j=>
       show(match F[j]? with | none=>[] | some x=>x.1::upF F m x.2).length<=_;cases F[j]? with
       | none=>exact Z3 _
       | some y=>exact A0z (ih y.2)
  exact go m _
 refine⟨λm ρ s=>∃(d:List Nat) (E:Option Nat),ρ=[aA (.loc kf),aA (.int (i:Nat)),aA (.int (h:Nat)),aA (.loc g),aA (IB E),aB]/\d++upF F m E=upF F (i+1) (aA i)/\(∀ b,E=aA b->b<m/\b<F.length)/\Gw S s/\s[g]?=aA (.lst (j9 d))/\d.length+m=i+1,⟨i,[x.1],x.2,rfl,?_,λb e=>C n e,G0,U,by show 1+i=i+1;omega⟩,?_⟩
 ·show _=match F[i]? with | none=>[] | some x=>x.1::upF F i x.2
  rw[n];rfl
 rintro m ρ s ⟨d,E,rfl,G,V,X,v,al⟩;have Y:=X.keep _ _ B;cases E with
 | some b=>
   obtain⟨bm,bl⟩:=V b rfl;obtain⟨w,rfl⟩:∃ w,m=w+1:=⟨m - 1,by omega⟩
   obtain⟨y,O⟩:∃ y,F[b]?=aA y:=⟨_,Y6 bl⟩
   have eu:upF F (w+1) (aA b)=y.1::upF F w y.2:=by
    show(match F[b]? with | none=>[] | some x=>x.1::upF F w x.2)=_;rw[O]
   rw[eu]at G;refine⟨_,rfl,.inl ⟨rfl,_,rfl,ifT rfl ?_⟩⟩;refine⟨_,rfl,⟨_,_,rfl,v⟩,_,rfl,_,rfl,_,_,f9 Y,k8 (Di O),_,_,rfl,rfl,_,v,by rw[p0];show _<100000;omega,?_⟩;have Z:(s.set g (.lst (j9 d++[.int (y.1:Nat)])))[g]?=aA (.lst (j9 (d++[y.1]))):=by rw[t9 v,Au];rfl
   have J:Gw S (s.set g (.lst (j9 d++[.int (y.1:Nat)]))):=X.put (by omega);have K:=J.keep _ _ B;refine⟨_,rfl,_,rfl,_,_,f9 K,k8 (Di O),_,_,rfl,rfl,?_⟩;exact⟨w,by omega,d++[y.1],y.2,rfl,by rw[<-G];simp,λb2 M=>by have:=C O M;omega,J,Z,by rw[Y5];simp;omega⟩
 | none=>
   have e0:upF F m aB=[]:=by cases m<;>rfl
   rw[e0,Z2]at G;refine⟨_,rfl,.inl ⟨rfl,_,rfl,ifF rfl ?_⟩⟩;refine⟨_,rfl,⟨_,_,rfl,v⟩,_,v,?_⟩;rw[G]at v al
   have l:(s.set g (.lst (j9 d).reverse))[g]?=aA (.lst (j9 (upF F (i+1) (aA i)).reverse)):=by
    rw[t9 v,G];unfold j9;rw[List.map_reverse]
   have a0:Gw S (s.set g (.lst (j9 d).reverse)):=X.put (by omega);have a2:=(gM l).1
   have ne:(upF F (i+1) (aA i)).reverse≠[]:=by
    rw[Ne,List.reverse_eq_nil_iff];show(match F[i]? with | none=>[] | some x=>x.1::upF F i x.2)≠[];rw[n];simp
   have wl:=ul (i+1);rw[<-Zt]at wl;generalize s.set g (.lst (j9 d).reverse)=S2 at *;generalize (upF F (i+1) (aA i)).reverse=W at *
   obtain⟨a,r,rfl⟩:∃ a r,W=a::r:=by
    cases W with
    | nil=>exact absurd rfl ne
    | cons a r=>exact⟨a,r,rfl⟩
   rw[Ya]at wl;have P:(j9 (a::r)).length=r.length+1:=by rw[p0];rfl
   have gt:∀ j,j<r.length+1->(j9 (a::r))[j]?=aA (.int ((a::r).getD j 0:Nat)):=λj hj=>by
    unfold j9;rw[YA,Y9,Y6 (show j<(a::r).length by rw[Ya];exact hj)];rfl
   refine⟨_,rfl,_,f9 l,_,rfl,⟨by rw[P];omega,by rw[P];omega⟩,?_⟩;rw[P,show(((r.length+1:Nat):Int) - 1)=(r.length:Int) by omega];refine m7 (n9 A _).2 (c8 A _).1 (λj ys L=>L=S2/\ys=((YJ j).map λk=>Sp3.move ((a::r).getD (k+1) 0) ((a::r).getD k 0)).map Ad) ⟨rfl,rfl⟩ (λ_ _ _ _=>trivial) ?_ ?_
   ·rintro j x ys L n ⟨rfl,rfl⟩;have jl:j<r.length:=by have:=(gM n).1;rw[r6]at this;omega
    obtain⟨rfl,hj⟩:=u7 n;rw[Zh]at hj ⊢;refine⟨_,rfl,_,rfl,_,_,f9 l,Pt (gt (j+1) (by omega)),_,rfl,_,rfl,_,_,f9 l,k8 (gt j (by omega)),by show 3<=100000;decide,by rw[Y4,Y4,Yl];show _<100000;omega,rfl,?_⟩;rw[ZE,YN,YN];rfl
   ·rintro ys L ⟨rfl,rfl⟩;rw[r6,show((r.length:Int) - 0).toNat=r.length by omega];have h5:(L++[SO.lst (((YJ r.length).map λk=>Sp3.move ((a::r).getD (k+1) 0) ((a::r).getD k 0)).map Ad)])[L.length]?=_:=g9
    have lst:(j9 (a::r))[(j9 (a::r)).length - 1]?=aA (.int ((a::r).getLastD 0:Nat)):=by
     rw[P,show r.length+1 - 1=r.length by omega,gt r.length (by omega)]
     congr 3
     rw[A0k,Zb,Y9];rfl
    refine⟨_,rfl,⟨_,_,rfl,h5⟩,_,rfl,_,_,f9 (m4 l),Mh lst,_,rfl,by show 3<=100000;decide,_,h5,by rw[Y4,Y4,Yl];show _<100000;omega,?_⟩;refine⟨_,rfl,q _ _ (a0.push.put (Yg (A1y hl) (by omega))) (by omega) ?_⟩;rw[t9 h5,II,YN];rfl
noncomputable def td1(kr:Nat):Stm:=(.asg (.nm 5) (.call kr (vD vJ vK vL vO)))
noncomputable def td2(kr a:Nat):Stm:=(.asg (.nm 9) (.call kr (vD vJ vK (.call a (vC vJ vT vL)) vO)))
noncomputable def td3:Stm:=(.asg (.nm 10) (.comp ["hue"] ["free"] [9] (.nm 0) (.seq vR) (.yes (.cmp .In vJ vK)) vJ))
noncomputable def td4(a:Nat):Stm:=(.iff vZ [.ret (.call a (vC vM vS (.ix vZ vQ)))] [])
noncomputable def Ky(kr a b:Nat):List Stm:=[td1 kr,.loop (.tup (.cons (.nm 6) (.cons (.tup (.cons (.nm 7) (.cons (.nm 8) .nil))) .nil))) (.enum vM) [td2 kr a,td3,td4 b],.ret vP]
def Eb(s:Sn):Prop:=∀{n H p c t0:Nat} {w:SV} {es:EE} {cs b:List Nat} {F:Fan} {S:Sto} {Q:QE},Hv S w b->b.length=es.length->(∀ e∈es,e.1<e.2/\e.2<n)->es.length<=60->H<=1000->FanI es cs p H t0 F->S[c]?=aA (.lst (F.map A8))->(v5 es b p H F=aB->∀ a,Gw S a->Q .non a)->(∀ s,v5 es b p H F=aA s->∀(l:Nat) (a:Sto),Gw S a->S.length<=l->a[l]?=aA (.lst (s.map Ad))->Q (.loc l) a)->s [webS n es,w,.loc c,.int (p:Nat),.int (H:Nat)] S Q
def Mi(k:∀ f,MonoN (Δ f)){kr kf G:Nat}(hr:C5 (Δ kr))(hf:As (Δ kf))(ht:DF (Δ G)){D:Df}(hb:D.body=Ky kr kf G)(hN:D.N.length=11)(hp:D.ps.length=5):Eb (i5 Δ D):=by
 intro n H p B t0 w a cs b F S Q hw cl t J hH I C q0 q1;have fl:=I.len;obtain⟨e0,K,a3⟩:=I.att _ (Y7 I.fst);have pn:p<n:=by have:=t e0 (Y7 K);omega
 unfold i5;rw[hb,hN];refine⟨hp.symm,_,rfl,_,rfl,_,rfl,_,rfl,hr hw cl J pn hH λl5 S1 q _ h5=>?_⟩;refine⟨_,rfl,_,f9 (q.keep _ _ C),?_⟩;refine A6 (m9 k _) (λj L r=>Gw S1 r/\(∃ M O P R e:Option SV,L=[aA (webS n a),aA w,aA (.loc B),aA (.int (p:Nat)),aA (.int (H:Nat)),aA (.loc l5),M,O,P,R,e])/\∀ u∈(YJ F.length).take j,((EW a b p H F u).head?.map λh=>Ax (upF F (u+1) (aA u)).reverse h)=aB) ⟨Gw.refl _,⟨aB,aB,aB,aB,aB,rfl⟩,λu c=>by simp at c⟩ (λ_ _ r z=>by show r[B]?=S1[B]?;rw[q.keep _ _ C];exact z.1.keep _ _ (q.keep _ _ C)) ?_ ?_
 ·rintro j x L r E hE hR T ⟨s,⟨M,O,P,R,e,rfl⟩,no⟩;obtain⟨y,hy,rfl⟩:=EO T;obtain⟨z,U,rfl⟩:=GO hy;have jl:=(gM U).1;obtain⟨V,m,v⟩:=I.att z (Y7 U);have fn:=DD t ⟨V,m,v⟩;have fe:Ab V p=farT a p z.1:=by unfold farT;rw[show a.getD z.1 (0,0)=V by rw[Y9,m];rfl]
  refine⟨_,rfl,_,rfl,_,rfl,_,rfl,_,rfl,hf m (v.imp Eq.symm Eq.symm) ?_⟩;rw[fe];refine⟨_,rfl,hr (hw.gw (q.trans s)) cl J fn.2 hH λl9 S3 W _ h9=>?_⟩;have X:=(s.trans W).keep _ _ h5;show wSs Δ [td3,td4 G] E [aA (webS n a),aA w,aA (.loc B),aA (.int (p:Nat)),aA (.int (H:Nat)),aA (.loc l5),aA (.int (j:Nat)),aA (.int (z.1:Nat)),aA (IB z.2),aA (.loc l9),e] S3;refine⟨_,rfl,_,f9 X,?_⟩;have Y:∀ y,(frL a b y H).length<=H:=λy=>C4 _ _;have f1:=Y p;refine m7 (n9 k _).2 (c8 k _).1 (λi Z o=>o=S3/\Z=j9 (((frL a b p H).take i).filter λh=>decide (h∈frL a b (farT a p z.1) H))) ⟨rfl,rfl⟩ (λ_ _ _ z=>by rw[z.1];exact rfl) ?_ ?_
  ·rintro i x Z o T ⟨rfl,rfl⟩;obtain⟨h,hi,rfl⟩:=C3 T;have il:=(gM hi).1
   have g:((frL a b p H).take (i+1)).filter (λh=>decide (h∈frL a b (farT a p z.1) H))=((frL a b p H).take i).filter (λh=>decide (h∈frL a b (farT a p z.1) H))++if decide (h∈frL a b (farT a p z.1) H)=aC then [h] else []:=by
    rw[Yo,hi,Zp]
    congr 1
    show A1j _ [h]=_;rw[ZK];rfl
   have ll:(((frL a b p H).take i).filter λh=>decide (h∈frL a b (farT a p z.1) H)).length<=H:=by
    have:=ZY (λh=>decide (h∈frL a b (farT a p z.1) H)) ((frL a b p H).take i);rw[Z7]at this;omega
   refine⟨_,rfl,_,rfl,?_⟩;show match CD (.loc l9) o with | some ms=>_ | none=>_
   rw[Bm h9];refine⟨rfl,_,f9 h9,DB _,_,rfl,?_⟩;show if inS (.int (h:Nat)) (j9 (frL a b (farT a p z.1) H))=aC then _ else _
   rw[JL];refine ifD (λz=>?_) (λz=>⟨rfl,?_⟩)
   ·rw[iP (decide_eq_true z)]at g;exact⟨_,rfl,by rw[p0];show _<100000;omega,rfl,by rw[g,Au];rfl⟩
   ·rw[iG (by simpa using z),Z2]at g;rw[g]
  ·rintro Z o ⟨rfl,rfl⟩;rw[p0,Yk]
   have a0:(frL a b p H).filter (λh=>decide (h∈frL a b (farT a p z.1) H))=EW a b p H F j:=by
    unfold EW;rw[show F.getD j (0,aB)=z by rw[Y9,U];rfl]
   rw[a0];have A:Gw S (o++[SO.lst (j9 (EW a b p H F j))]):=((q.trans s).trans W).push;have d:(o++[SO.lst (j9 (EW a b p H F j))])[o.length]?=_:=g9;have hj:(YJ F.length)[j]?=aA j:=Yx jl;cases hs:EW a b p H F j with
   | nil=>
     rw[hs]at d A;refine⟨_,rfl,_,KZ d,ifF rfl (j6 (hE _ _ ⟨(s.trans W).push,⟨_,_,_,_,_,rfl⟩,λu c=>?_⟩))⟩;rw[Yo,hj]at c;rcases YT.mp c with y | y
     ·exact no u y
     ·have:u=j:=by simpa using y
      rw[this,hs];rfl
   | cons h l=>
     rw[hs]at d A;refine⟨_,rfl,_,KZ d,ifT rfl ?_⟩;refine⟨_,rfl,_,rfl,_,rfl,_,_,f9 d,(show atI (j9 (h::l)) (0:Int)=aA (SV.int (h:Nat)) from k8 (j:=0) rfl),ht I J (A.keep _ _ C) jl λl' S5 G5 a1 a2=>hR _ _ (q1 _ ?_ l' S5 (A.trans G5) (Yg A.len a1) a2)⟩;exact Pi hj (by rw[hs];rfl) no
 ·rintro L r ⟨s,⟨M,O,P,R,e,rfl⟩,no⟩;rw[Ci,Y4]at no;refine q0 ?_ r (q.trans s);unfold v5;rw[ZP];intro u c;exact no u (by rw[A0A (by rw[Yl];exact YF _)];exact c)
noncomputable def shI:List Stm:=[.iff (.cmp .NotEq (.setdi vR vX vU) vU) [.ret (.tup (vB vX (.dget vR vX)))] []]
noncomputable def shO(a kr:Nat):List Stm:=[.asg (.nm 8) (.call a (vC vJ vS vL)),.loop (.nm 9) (.seq (.call kr (vD vJ vK vU vO))) shI]
noncomputable def Kz(a kr:Nat):List Stm:=[.asg (.nm 5) .dnew,.loop (.tup (.cons (.nm 6) (.cons (.nm 7) .nil))) (.seq vM) (shO a kr),.ret vP]
def OwnD(L:EE)(a:List (Int×SV)):Prop:=a.length<=L.length/\∀ h:Nat,D4 a (h:Nat)=(w5 L h).map λf=>SV.int (f:Nat)
def Ec(s:Sn):Prop:=∀{n H p a t0:Nat} {w:SV} {es:EE} {cs:List Nat} {F:Fan} {x:Nat×Nat} {S:Sto} {Q:QE},Hv S w cs->cs.length=es.length->(∀ e∈es,e.1<e.2/\e.2<n)->es.length<=60->H<=1000->FanI es cs p H t0 F->S[a]?=aA (.lst (F.map A8))->A7 es cs p H F=aA x->(∀ b,Gw S b->Q (.tup [.int (x.1:Nat),.int (x.2:Nat)]) b)->s [webS n es,w,.loc a,.int (p:Nat),.int (H:Nat)] S Q
theorem IK{α:Type}{P:α->Bool}{q:α}:∀{A B:List α},(∀ a∈A,P a=aD)->P q=aC->(A++q::B).find? P=aA q
 | [],B,_,h=>by rw[A0H,Yb,h]
 | a::A,B,no,h=>by
   rw[List.cons_append,Yb,no a (YL ..)];exact IK (λb c=>no b (YC _ c)) h
def OwnD.put{L:EE}{a:List (Int×SV)}(O:OwnD L a){f h:Nat}(no:w5 L h=aB):OwnD (L++[(f,h)]) (a++[((h:Int),SV.int (f:Nat))]):=by
 refine⟨by rw[Y5,Y5];have:=O.1;simp;omega,λg=>?_⟩
 have b:D4 (a++[((h:Int),SV.int (f:Nat))]) (g:Nat)=(D4 a (g:Nat)).or (if h=g then aA (SV.int (f:Nat)) else aB):=by
  unfold D4;rw[A0n];cases a.find? λp=>decide (p.1=(g:Int)) with
  | some y=>rfl
  | none=>
    rw[A1u,Yb];by_cases z:h=g
    ·rw[iP z,decide_eq_true (show((h:Int),SV.int (f:Nat)).1=(g:Int) by rw[z])];rfl
    ·rw[iG z,decide_eq_false (show ¬ ((h:Int),SV.int (f:Nat)).1=(g:Int) from λy=>z (Yn.mp y))];rfl
 have c:w5 (L++[(f,h)]) g=(w5 L g).or (if h=g then aA f else aB):=by
  rw[Az]
  congr 1
  unfold w5;rw[Yb];by_cases z:h=g
  ·rw[iP z,decide_eq_true (show((f,h):Nat×Nat).2=g from z)];rfl
  ·rw[iG z,decide_eq_false (show ¬ ((f,h):Nat×Nat).2=g from z)];rfl
 rw[b,c,O.2];cases w5 L g with
 | some y=>rfl
 | none=>
   by_cases z:h=g
   ·rw[iP z,iP z];rfl
   ·rw[iG z,iG z];rfl
def OwnD.same{L:EE}{a:List (Int×SV)}(O:OwnD L a){f h:Nat}(yes:w5 L h=aA f)(g:Nat):OwnD (L++[(g,h)]) a:=by
 refine⟨by rw[Y5];have:=O.1;omega,λk=>?_⟩;rw[O.2,Az];cases hk:w5 L k with
 | some y=>rfl
 | none=>
   have:w5 [(g,h)] k=aB:=by
    unfold w5;rw[Yb];by_cases z:h=k
    ·rw[<-z,yes]at hk;cases hk
    ·rw[decide_eq_false (show ¬ ((g,h):Nat×Nat).2=k from z)];rfl
   rw[this];rfl
def IL{es:EE}{cs:List Nat}{p H j:Nat}{F:Fan}{x:Nat×Option Nat}(h:F[j]?=aA x):shL es cs p H (F.take (j+1))=shL es cs p H (F.take j)++(frL es cs (farT es p x.1) H).map λh=>(farT es p x.1,h):=by
 unfold shL;rw[Yo,h,A0V];simp
def SG{es:EE}{cs:List Nat}{p H j i c:Nat}{F:Fan}{x:Nat×Option Nat}(h:F[j]?=aA x)(a:(frL es cs (farT es p x.1) H)[i]?=aA c):∃ B,shL es cs p H F=(shL es cs p H (F.take j)++((frL es cs (farT es p x.1) H).take i).map λh=>(farT es p x.1,h))++(farT es p x.1,c)::B:=by
 have b:F=F.take j++x::F.drop (j+1):=by
  conv=>lhs;rw[<-A0L j F,Za (gM h).1,(gM h).2]
 have d:frL es cs (farT es p x.1) H=(frL es cs (farT es p x.1) H).take i++c::(frL es cs (farT es p x.1) H).drop (i+1):=by
  conv=>lhs;rw[<-A0L i (frL es cs (farT es p x.1) H),Za (gM a).1,(gM a).2]
 refine⟨((frL es cs (farT es p x.1) H).drop (i+1)).map (λh=>(farT es p x.1,h))++shL es cs p H (F.drop (j+1)),?_⟩
 conv=>lhs;rw[b]
 unfold shL;rw[A0V,A0q]
 conv=>lhs;rw[d]
 simp[A00]
def Mj(P:∀ f,MonoN (Δ f)){kf kr:Nat}(hf:As (Δ kf))(hr:C5 (Δ kr)){D:Df}(hb:D.body=Kz kf kr)(hN:D.N.length=10)(hp:D.ps.length=5):Ec (i5 Δ D):=by
 intro n H p X t0 w b d F x S Q hw cl a0 el hH I hF Y q;have fl:=I.len;have R:∀ y,(frL b d y H).length<=H:=λy=>C4 _ _
 have a3:∀ j,(shL b d p H (F.take j)).length<=j * H:=λj=>by
  induction j with
  | zero=>simp[shL]
  | succ j ih=>
    cases hx:F[j]? with
    | none=>
      have:F.take (j+1)=F.take j:=by rw[Yo,hx];simp
      rw[this,Zk];omega
    | some y=>
      rw[IL hx,Y5,Y4,Zk];have:=R (farT b p y.1);omega
 have C:∀{j i:Nat} {y:Nat},j<F.length->(shL b d p H (F.take j)++((frL b d y H).take i).map λh=>(y,h)).length<100000:=λ{j i y} hj=>by
  rw[Y5,Y4,Z7];have a1:=a3 j;have a2:=R y;have:j * H<=60 * 1000:=ZW (by omega) hH;omega
 unfold i5;rw[hb,hN];have G0:Gw S (S++[SO.dct []]):=(Gw.refl S).push;refine⟨hp.symm,_,rfl,_,f9 (m4 hF),?_⟩;refine A6 (m9 P _) (λj G M=>Gw S M/\(∃(e:List (Int×SV)) (o6 o7 o8 J:Option SV),G=[aA (webS n b),aA w,aA (.loc X),aA (.int (p:Nat)),aA (.int (H:Nat)),aA (.loc S.length),o6,o7,o8,J]/\M[S.length]?=aA (.dct e)/\OwnD (shL b d p H (F.take j)) e)/\∀ q∈shL b d p H (F.take j),w5 (shL b d p H (F.take j)) q.2=aA q.1) ⟨G0,⟨[],aB,aB,aB,aB,rfl,g9,Z3 _,λh=>rfl⟩,(λ_ h=>nomatch h)⟩ (λ_ _ M z=>by show M[X]?=(S++[SO.dct []])[X]?;rw[m4 hF];exact z.1.keep _ _ hF) ?_ ?_
 ·rintro j y G M E hE hR hy ⟨GS,⟨e,o6,o7,o8,J,rfl,h5,O⟩,Z⟩;obtain⟨z,hz,rfl⟩:=GO hy;have jl:=(gM hz).1;obtain⟨ez,K,T⟩:=I.att z (Y7 hz);have fn:=DD a0 ⟨ez,K,T⟩;have fe:Ab ez p=farT b p z.1:=by unfold farT;rw[show b.getD z.1 (0,0)=ez by rw[Y9,K];rfl]
  refine⟨_,rfl,_,rfl,_,rfl,hf K (T.imp Eq.symm Eq.symm) ?_⟩;rw[fe];refine⟨_,rfl,_,rfl,_,rfl,_,rfl,hr (hw.gw GS) cl el fn.2 hH λl S1 G1 l1 h1=>⟨_,f9 h1,?_⟩⟩;have s5:=(gM h5).1;refine A6 (m9 P _) (λi G u=>Gw S u/\u[l]?=aA (.lst (j9 (frL b d (farT b p z.1) H)))/\(∃(e:List (Int×SV)) (J:Option SV),G=[aA (webS n b),aA w,aA (.loc X),aA (.int (p:Nat)),aA (.int (H:Nat)),aA (.loc S.length),aA (.int (z.1:Nat)),aA (IB z.2),aA (.int (farT b p z.1:Nat)),J]/\u[S.length]?=aA (.dct e)/\OwnD (shL b d p H (F.take j)++((frL b d (farT b p z.1) H).take i).map λh=>(farT b p z.1,h)) e)/\∀ q∈shL b d p H (F.take j)++((frL b d (farT b p z.1) H).take i).map λh=>(farT b p z.1,h),w5 (shL b d p H (F.take j)++((frL b d (farT b p z.1) H).take i).map λh=>(farT b p z.1,h)) q.2=aA q.1) ⟨GS.trans G1,h1,⟨e,_,rfl,G1.keep _ _ h5,by simpa using O⟩,by simpa using Z⟩ (λ_ _ u z=>by show u[l]?=S1[l]?;rw[h1];exact z.2.1) ?_ ?_
  ·rintro i y G u E2 U a4 a5 ⟨m,o,⟨r,J,rfl,g,s⟩,k⟩;obtain⟨c,V,rfl⟩:=C3 a5
   have tk:shL b d p H (F.take j)++((frL b d (farT b p z.1) H).take (i+1)).map (λh=>(farT b p z.1,h))=(shL b d p H (F.take j)++((frL b d (farT b p z.1) H).take i).map λh=>(farT b p z.1,h))++[(farT b p z.1,c)]:=by
    rw[Yo,V,YN,A00];rfl
   obtain⟨B,W⟩:=SG hz V;have bd:=C (j:=j) (i:=i) (y:=farT b p z.1) jl;have ol:=s.1;generalize hA:shL b d p H (F.take j)++((frL b d (farT b p z.1) H).take i).map (λh=>(farT b p z.1,h))=A at *;refine⟨_,rfl,_,_,rfl,g,_,rfl,_,rfl,(c:Int),r,rfl,g,by show _<100000;omega,λv t=>?_,λt=>?_⟩
   ·rw[s.2]at t;cases ho:w5 A c with
    | none=>rw[ho]at t;cases t
    | some f=>
      rw[ho]at t;cases t;refine⟨_,rfl,_,rfl,?_⟩;show if (!decide (((f:Nat):Int)=((farT b p z.1:Nat):Int)))=aC then _ else _
      by_cases ef:f=farT b p z.1
      ·rw[decide_eq_true (show((f:Nat):Int)=((farT b p z.1:Nat):Int) by rw[ef])];refine ifF rfl (j6 (U _ _ ⟨m,o,⟨r,_,rfl,g,by rw[tk];exact s.same ho _⟩,λq L=>?_⟩));rw[tk]at L ⊢;rw[Az];rcases YT.mp L with y | y
       ·rw[k q y];rfl
       ·rw[YK.mp y,ho,ef];rfl
      ·rw[decide_eq_false (show ¬ ((f:Nat):Int)=((farT b p z.1:Nat):Int) from λy=>ef (Yn.mp y))];refine ifT rfl ?_;have ow:w5 (shL b d p H F) c=aA f:=by rw[W,Az,ho];rfl
       have fs:(shL b d p H F).find? (λq=>!decide (w5 (shL b d p H F) q.2=aA q.1))=aA (farT b p z.1,c):=by
        conv=>lhs;rw[W]
        refine IK (λa ha=>?_) ?_
        ·have:w5 (shL b d p H F) a.2=aA a.1:=by rw[W,Az,k a ha];rfl
         rw[<-W,this];simp
        ·rw[<-W];show(!decide (w5 (shL b d p H F) c=aA (farT b p z.1)))=aC;rw[ow];simpa using ef
       have:A7 b d p H F=aA (c,f):=by
        unfold A7;rw[fs];show(w5 (shL b d p H F) c).map _=_;rw[ow];rfl
       rw[Y]at this;cases this;refine⟨_,rfl,_,rfl,_,rfl,r,(c:Int),_,by simp only[R9,g],rfl,by rw[s.2,ho];rfl,by show 2<=100000;decide,a4 _ _ (hR _ _ (q u m))⟩
   ·rw[s.2,ZO]at t;refine⟨_,rfl,_,rfl,?_⟩;show if (!decide (((farT b p z.1:Nat):Int)=((farT b p z.1:Nat):Int)))=aC then _ else _
    rw[decide_eq_true rfl];have ne:l≠S.length:=λy=>by rw[y,g]at o;cases o
    refine ifF rfl (j6 (U _ _ ⟨m.put (YF _),by rw[AC ne.symm];exact o,⟨_,_,rfl,t9 g,by rw[tk];exact s.put t⟩,λq L=>?_⟩));rw[tk]at L ⊢;rw[Az];rcases YT.mp L with y | y
    ·rw[k q y];rfl
    ·rw[YK.mp y,t];unfold w5;rw[Yb,decide_eq_true rfl];rfl
  ·rintro G u ⟨m,o,⟨r,J,rfl,g,s⟩,k⟩;rw[p0,Yk,<-IL hz]at s k;exact hE _ _ ⟨m,⟨r,_,_,_,_,rfl,g,s⟩,k⟩
 ·rintro G M ⟨GS,⟨e,o6,o7,o8,J,rfl,h5,O⟩,Z⟩;rw[Y4,Yk]at Z;exfalso;unfold A7 at Y
  have:(shL b d p H F).find? (λq=>!decide (w5 (shL b d p H F) q.2=aA q.1))=aB:=by
   rw[ZF];intro q L;rw[Z q L];simp
  rw[this]at Y;cases Y
noncomputable def IM(a kr:Nat):List Stm:=[.asg (.tup (.cons (.nm 5) (.cons (.nm 6) .nil))) (.call a (vE vJ vK vM vL vO)),.asg (.nm 7) (.ix (.call kr (vD vJ vK vL vO)) vQ),.ret (.tup (vD (.c (.str "row")) vS vT vR))]
def DG(s:Sn):Prop:=∀{n H p a t0:Nat} {w:SV} {es:EE} {cs:List Nat} {F:Fan} {x:Nat×Nat} {S:Sto} {Q:QE},Hv S w cs->cs.length=es.length->(∀ e∈es,e.1<e.2/\e.2<n)->es.length<=60->H<=1000->FanI es cs p H t0 F->S[a]?=aA (.lst (F.map A8))->A7 es cs p H F=aA x->frL es cs p H≠[]->(∀ b,Gw S b->Q (Ad (.row x.2 ((frL es cs p H).headD 0) x.1)) b)->s [webS n es,w,.loc a,.int (p:Nat),.int (H:Nat)] S Q
def JU{c kr:Nat}(i:Ec (Δ c))(j:C5 (Δ kr)){D:Df}(k:D.body=IM c kr)(m:D.N.length=8)(o:D.ps.length=5):DG (i5 Δ D):=by
 intro n H p C E w G J F x S Q d e a f g I r s t q;obtain⟨u,b,v⟩:=I.att _ (Y7 I.fst);have y:p<n:=by have:=a u (Y7 b);omega
 unfold i5;rw[k,m];refine⟨o.symm,_,rfl,_,rfl,_,rfl,_,rfl,_,rfl,i d e a f g I r s λK h=>?_⟩;refine⟨_,rfl,_,rfl,_,rfl,_,rfl,j (d.gw h) e f y g λl z A _ B=>⟨_,_,f9 B,k8 (SF t),?_⟩⟩;exact⟨_,rfl,_,rfl,_,rfl,by show 4<=100000;decide,q z (h.trans A)⟩
end
noncomputable def L5(es:EE)(cs:List Nat)(t H:Nat):List Sp3:=if hu cs t<1000 then [] else w6 es cs t H
section
variable{Δ:Nat->Sn}
noncomputable def sv1:Stm:=(.asg (.nm 4) (.ix (.ix kE vM) vQ))
noncomputable def sv2(a kd:Nat):List Stm:=[.asg (.nm 5) (.call a (vE vJ vK vM vO vL)),.asg (.nm 6) (.call kd (vE vJ vK vR vO vL)),.iff (.cmp .IsNot vS vP) [.ret vS] []]
noncomputable def sv3(a b kd:Nat):List Stm:=[.asg (.nm 7) (.call a (vE vJ vK vR vO vL)),.ret (.op .Add (.lst (vA vT)) (.call kd (vE vJ (.call b (vC vJ vK vT)) vR vO vL)))]
noncomputable def L6(a kd b c:Nat):List Stm:=sv1::(sv2 a kd++sv3 b c kd)
noncomputable def Bs(s:Sn):Prop:=∀{n H t m:Nat} {w:SV} {es:EE} {cs:List Nat} {S:Sto} {Q:QE},Hv S w cs->Hg H es cs->(∀ e∈es,e.1<e.2/\e.2<n)->es.length<=60->H<=1000->t<es.length->¬ hu cs t<1000->IsTh es m->mostN es n+m<=H->(∀(l:Nat) (a:Sto),Gw S a->S.length<=l->a[l]?=aA (.lst ((w6 es cs t H).map Ad))->Q (.loc l) a)->s [webS n es,w,.int (t:Nat),.int (H:Nat)] S Q
theorem FU:∀(c:List Nat) (h:Nat),(Ax c h).length=c.length
 | [],_=>rfl
 | [_],_=>rfl
 | a::b::r,h=>by
   show(Ax (b::r) h).length+1=_;rw[FU];rfl
def Bt{n H p t0:Nat}{es:EE}{cs a:List Nat}{F:Fan}(fl:F.length<=es.length){s:List Sp3}(h:v5 es a p H F=aA s):s.length<=es.length:=by
 obtain⟨i,x,h,e,_,_,rfl,_⟩:=Br h;have d:=(gM e).1;rw[FU,Zt]
 have b:∀(m:Nat) (o:Option Nat),(upF F m o).length<=m:=by
  intro m
  induction m with
  | zero=>intro o;cases o<;>exact YF _
  | succ m c=>
    intro o;cases o with
    | none=>exact Z3 _
    | some j=>
      show(match F[j]? with | none=>[] | some x=>x.1::upF F m x.2).length<=_;cases F[j]? with
      | none=>exact Z3 _
      | some y=>exact A0z (c y.2)
 have:=b (i+1) (aA i);omega
def Mk{Z kd kz ko:Nat}(hf:Ps (Δ Z))(hd:Eb (Δ kd))(hz:DG (Δ kz))(ho:AW (Δ ko) λp a b=>[Ad (.row p a b)]){D:Df}(hb:D.body=L6 Z kd kz ko)(hN:D.N.length=8)(hp:D.ps.length=4):Bs (i5 Δ D):=by
 intro n H t m w d cs S Q G g f o i tl b0 hm a0 q;obtain⟨e,M⟩:∃ e,d[t]?=aA e:=⟨_,Y6 tl⟩
 have ge:d.getD t (0,0)=e:=by rw[Y9,M];rfl
 have O:(d.map pairS)[t]?=aA (pairS e):=by rw[YA,M];rfl
 have hc:∀ y,y<n->t8 d y+m<=H:=λy hy=>by have:=Ck d hy;omega
 have R:=g.P.len;have h:∀ z,z=w6 d cs t H->∀(l:Nat) (r:Sto),Gw S r->S.length<=l->r[l]?=aA (.lst (z.map Ad))->Q (.loc l) r:=λz ez l r a b c=>q l r a b (ez▸c);unfold w6 at h;rw[ge]at h;have j:=EY (p:=e.1) (F:=C9 d cs e.1 H (d.length+1) [(t,aB)]) f i g tl b0 hc hm.1 (by rw[ge]) rfl;have T:AtP d t e.1:=⟨e,M,.inl rfl⟩
 generalize hF:C9 d cs e.1 H (d.length+1) [(t,aB)]=F at *;obtain⟨I,j⟩:=j;have fl:=I.len;unfold i5;rw[hb,hN];refine⟨hp.symm,_,rfl,_,_,rfl,rfl,_,rfl,_,_,rfl,k8 O,_,_,rfl,rfl,?_⟩;refine⟨_,rfl,_,rfl,_,rfl,_,rfl,_,rfl,hf G R f o i T b0 λl5 S1 J K=>?_⟩;rw[hF]at K;refine⟨_,rfl,_,rfl,_,rfl,_,rfl,_,rfl,hd (G.gw J) R f o i I K (λhn S2 u=>?_) (λs hs l S2 u l2 h2=>?_)⟩
 ·refine⟨_,rfl,.inl ⟨rfl,_,rfl,ifF rfl (j6 ?_)⟩⟩;rcases j with⟨s,v,_⟩ | ⟨_,nn,x,s,v,ok,A,r1,r2⟩
  ·rw[hn]at v;cases v
  ·rw[hn]at h;dsimp only at h;rw[v]at h;dsimp only at h;rw[A]at h;have B:=J.trans u;refine⟨_,rfl,_,rfl,_,rfl,_,rfl,_,rfl,hz (G.gw B) R f o i I (u.keep _ _ K) v nn λC G3=>?_⟩;have U:=B.trans G3;refine⟨_,rfl,by show 1<=100000;decide,?_⟩;have k:Gw S (C++[SO.lst [Ad (.row x.2 ((frL d cs e.1 H).headD 0) x.1)]]):=U.push;have h7:(C++[SO.lst [Ad (.row x.2 ((frL d cs e.1 H).headD 0) x.1)]])[C.length]?=aA (SO.lst [Ad (.row x.2 ((frL d cs e.1 H).headD 0) x.1)]):=g9;have V:(C++[SO.lst [Ad (.row x.2 ((frL d cs e.1 H).headD 0) x.1)]])[l5]?=aA (SO.lst (F.map A8)):=m4 (G3.keep _ _ (u.keep _ _ K));generalize C++[SO.lst [Ad (.row x.2 ((frL d cs e.1 H).headD 0) x.1)]]=S4 at *;refine⟨_,rfl,_,rfl,_,rfl,_,rfl,ho g f o i ok (G.gw k) λl6 S5 L a1 h6=>?_⟩;have W:=(Bq g f i ok).P.len;refine⟨_,rfl,_,rfl,_,rfl,hd (Hv.loc h6) W f o i I (L.keep _ _ V) (λX=>by rw[X]at A;cases A) λs2 E l8 S6 Y a2 h8=>?_⟩;rw[A]at E;cases E;have ls:=Bt (n:=n) (t0:=t) (cs:=cs) fl A;refine⟨_,_,(L.trans Y).keep _ _ h7,h8,by rw[Y4];show 1+_<=100000;omega,?_⟩;refine h _ rfl _ _ ((k.trans L).trans Y).push ((k.trans L).trans Y).len ?_;rw[g9];rfl
 ·refine⟨_,rfl,.inl ⟨rfl,_,rfl,ifT rfl ⟨_,rfl,?_⟩⟩⟩;rw[hs]at h;exact h _ rfl l S2 (J.trans u) (Yg J.len l2) h2
end
def Pu(m:Nat):(YR m [SV.non]).flatten=j7 (cs0 m):=by
 rw[PX];unfold j7 cs0;rw[Zo];refine Zv λt _=>?_;show SV.non=pS (1000+t);rw[y9 (by omega)]
def Ml{xs:List SV}{x:SV}(h:xs[xs.length - 1]?=aA x):atI xs (-1)=aA x:=by
 have a:xs≠[]:=λz=>by rw[z]at h;cases h
 have e:xs=xs.dropLast++[x]:=by
  have l:=ZR a;rw[Zb,h]at l;rw[oj l];exact(A09 a).symm
 rw[e];exact Gb _ _
section
variable{Δ:Nat->Sn}
noncomputable def by3:Stm:=(.asg (.nm 2) (.op .Mult (.lst (vA vP)) kQ))
noncomputable def byL(kr kp:Nat):List Stm:=[.asg (.nm 5) (.call kr (vD vJ vM vO vK)),.asg (.nm 2) (.ix (.call kp (vC vJ vM vR)) (.neg vN)),.expr (.mt .extend vL (vA vR))]
noncomputable def L8(v:Str)(a:Nat):List Stm:=[.ret (.max1 (.op .Add (.lst (vA vQ)) (.comp ["_law_place"] [v] [0] (.nm 0) (.rng1 (.ix vJ vQ)) .no (.call a (vB vK vJ)))))]
def Mm(b:∀ f,MonoN (Δ f)){v:Str}{j:Nat}(o:ET (Δ j)){D:Df}(r:D.body=L8 v j)(s:D.N.length=1)(t:D.ps.length=1):Ki (i5 Δ D):=by
 intro n d S Q e B q;unfold i5;rw[r,s];refine⟨t.symm,by show 1<=big;decide,_,rfl,_,_,rfl,rfl,_,rfl,⟨by omega,by omega⟩,?_⟩;have u:(S++[SO.lst [SV.int 0]])[S.length]?=aA (.lst [SV.int 0]):=g9;have w:Gw S (S++[SO.lst [SV.int 0]]):=(Gw.refl S).push;generalize C:S.length=k at *;generalize S++[SO.lst [SV.int 0]]=l at *;refine m7 (n9 b _).2 (c8 b _).1 (λi h a=>Gw l a/\h=cS i (t8 d)) ⟨Gw.refl l,rfl⟩ (λ_ _ _ _=>trivial) ?_ ?_
 ·rintro i x h a y ⟨c,rfl⟩;obtain⟨rfl,z⟩:=u7 y;rw[Zh]at z ⊢;refine⟨_,rfl,_,rfl,o e λE A=>⟨by rw[Bp];show _<100000;omega,c.trans A,?_⟩⟩;unfold cS;rw[ZE,YN];rfl
 ·rintro h a ⟨c,rfl⟩;rw[r6,show((n:Int) - 0).toNat=n by omega];refine⟨_,_,m4 (c.keep _ _ u),g9,by rw[Bp];show 1+n<=100000;omega,a.length+1,(0::(YJ n).map λp=>((t8 d p:Nat):Int)),?_,?_,A1C _,λm g=>?_⟩
  ·rw[Y5];rfl
  ·rw[Kg,show a.length+1=(a++[SO.lst (((YJ n).map λp=>((t8 d p:Nat):Int)).map SV.int)]).length by rw[Y5];rfl,g9];rfl
  ·rw[MX g];exact q _ (w.trans c).push.push
def Pv{es:EE}{m:Int}(h:Grt (0::es.map λe=>((es.count e:Nat):Int)) m):∃ k:Nat,m=(k:Int)/\IsTh es k:=by
 obtain⟨c,d⟩:=h
 have a:∀ k:Nat,m=(k:Int)->∀ e,es.count e<=k:=λk g e=>by
  by_cases z:e∈es
  ·have:=d _ (YC _ (YO.mpr ⟨e,z,rfl⟩));omega
  ·rw[A0i.mpr z];omega
 rcases YH.mp c with z | z
 ·exact⟨0,z,a 0 z,.inl rfl⟩
 ·obtain⟨e,f,b⟩:=YO.mp z;exact⟨es.count e,b.symm,a _ b.symm,.inr ⟨e,f,rfl⟩⟩
noncomputable def thI:Ex:=(.comp ["_law_other"] ["_law_pair"] [0] (.nm 0) (.seq (.ix vK vN)) (.yes (.eqp vJ vK)) vJ)
noncomputable def LA(v:Str):List Stm:=[.ret (.max1 (.op .Add (.lst (vA vQ)) (.comp ["_law_pair"] [v] [0] (.nm 0) (.seq kE) .no (.bi .len (.cons thI .nil)))))]
def Mn(b:∀ f,MonoN (Δ f)){v:Str}{D:Df}(u:D.body=LA v)(w:D.N.length=1)(y:D.ps.length=1):Cn (i5 Δ D):=by
 intro n a S Q F q;unfold i5;rw[u,w];refine⟨y.symm,by show 1<=big;decide,_,rfl,_,_,rfl,rfl,_,rfl,?_⟩;have A:(S++[SO.lst [SV.int 0]])[S.length]?=aA (.lst [SV.int 0]):=g9;have B:Gw S (S++[SO.lst [SV.int 0]]):=(Gw.refl S).push;generalize G:S.length=k at *;generalize S++[SO.lst [SV.int 0]]=r at *;refine m7 (n9 b _).2 (c8 b _).1 (λi d h=>Gw r h/\d=((a.take i).map λe=>((a.count e:Nat):Int)).map SV.int) ⟨Gw.refl r,rfl⟩ (λ_ _ _ _=>trivial) ?_ ?_
 ·rintro i x d h o ⟨l,rfl⟩;obtain⟨e,s,rfl⟩:=At o;have H:=(gM s).1;refine⟨_,rfl,_,_,rfl,rfl,_,rfl,?_⟩;refine m7 (n9 b _).2 (c8 b _).1 (λj d p=>p=h/\d=((a.take j).filter λf=>decide (f=e)).map pairS) ⟨rfl,rfl⟩ (λ_ _ _ _=>trivial) ?_ ?_
  ·rintro j x d p o ⟨rfl,rfl⟩;obtain⟨f,t,rfl⟩:=At o;have I:=(gM t).1
   have c:(a.take (j+1)).filter (λf=>decide (f=e))=(a.take j).filter (λf=>decide (f=e))++if decide (f=e)=aC then [f] else []:=by
    rw[Yo,t,Zp]
    congr 1
    show A1j _ [f]=_;rw[ZK];rfl
   have J:((a.take j).filter λf=>decide (f=e)).length<=j:=by
    have:=ZY (λf=>decide (f=e)) (a.take j);rw[Z7]at this;omega
   refine⟨_,rfl,_,rfl,(f.1:Int),(f.2:Int),(e.1:Int),(e.2:Int),rfl,rfl,_,rfl,?_⟩
   rw[show decide ((f.1:Int)=(e.1:Int)/\(f.2:Int)=(e.2:Int))=decide (f=e) by
    rw[decide_eq_decide];exact⟨λz=>Prod.ext (Yn.mp z.1) (Yn.mp z.2),λz=>by rw[z];exact⟨rfl,rfl⟩⟩]
   refine ifD (λz=>?_) (λz=>⟨rfl,?_⟩)
   ·rw[iP (decide_eq_true z)]at c;exact⟨_,rfl,by rw[Y4];show _<100000;omega,rfl,by rw[c,YN];rfl⟩
   ·rw[iG (by simpa using z),Z2]at c;rw[c]
  ·rintro d p ⟨rfl,rfl⟩;rw[Y4,Yk];refine⟨_,f9 g9,by rw[Y4,Y4,Z7];show _<100000;omega,l.push,?_⟩;rw[Yo,s,YN,YN,Y4]
   congr 1
   show[SV.int ((((a.filter λf=>decide (f=e)).length:Nat):Int))]=[SV.int (((a.count e:Nat):Int))]
   rw[show a.count e=(a.filter λf=>decide (f=e)).length by
    show a.countP (· == e)=_;rw[A08]
    congr 1
    exact A0p λf _=>by rw[Yp];simp]
 ·rintro d h ⟨l,rfl⟩;rw[Y4,Yk];refine⟨_,_,m4 (l.keep _ _ A),g9,by rw[Y4,Y4];show 1+_<=100000;omega,h.length+1,(0::a.map λe=>((a.count e:Nat):Int)),?_,?_,A1C _,λm g=>?_⟩
  ·rw[Y5];rfl
  ·rw[show h.length+1=(h++[SO.lst ((a.map λe=>((a.count e:Nat):Int)).map SV.int)]).length by rw[Y5];rfl,g9];rfl
  ·obtain⟨C,e,E⟩:=Pv g;rw[e];exact q C _ E (B.trans l).push.push
end
def Dj{prog:List Df}(a:prog.length<1000000){d f:Nat}{D:Df}(b:prog[f]?=aA D){xs:List SV}{S:Sto}{Q:QE}(h:CH (W prog d) D xs S Q):W prog (d+1) (tz+f) xs S Q:=by
 rw[XJ a b];exact⟨A0u _ _,h⟩
section
variable{Δ:Nat->Sn}
def Dk{D:Df}(nt:Bj D.body=aC){xs:List SV}{S:Sto}{Q:QE}(h:i5 (setE Δ λc a=>Q (.exc c) a) D xs S λv a=>Q (.tup [v]) a):CH Δ D xs S Q:=⟨nt,_,_,λ_ _ q=>q,λ_ _ q=>q,h⟩
def Pw(k:Nat)(x m:Str)(c:XCls):List Stm:=[.iff (.not (.call k (vB vJ vK))) [.rse x c (.c (.str m))] []]
end
noncomputable def clNm:List Str:=["NoPlace","NoTie","NoRow","NoFan","TooFew","NoStep","NotTwoSides","ShortList","BadRow"]
def Px(c:XCls)(k:Nat):Prop:=∃ a0 a b d e f g h i:A1G,c.tb=([("NoPlace",a0,decide (0=k)),("NoTie",a,decide (1=k)),("NoRow",b,decide (2=k)),("NoFan",d,decide (3=k)),("TooFew",e,decide (4=k)),("NoStep",f,decide (5=k)),("NotTwoSides",g,decide (6=k)),("ShortList",h,decide (7=k)),("BadRow",i,decide (8=k))]:List (Str×A1G×Bool))
noncomputable def IO(k:Nat):List Bool:=[decide (0=k),decide (1=k),decide (2=k),decide (3=k),decide (4=k),decide (5=k),decide (6=k),decide (7=k),decide (8=k)]
def Vc:∀ k,k<9->(IO k).count aC=1/\(IO k)[k]?=aA aC/\∀ m,m<k->(IO k)[m]?≠aA aC:=by decide
noncomputable def Py:List Stm:=[.iff (.cmp .Is vJ vP) [.ret (.c (.str ""))] [],.asg (.nm 1) (.lst (vC (.isx vJ "NoPlace") (.isx vJ "NoTie") (.isx vJ "NoRow"))),.asg (.nm 1) (.op .Add vK (.lst (vC (.isx vJ "NoFan") (.isx vJ "TooFew") (.isx vJ "NoStep")))),.asg (.nm 1) (.op .Add vK (.lst (vC (.isx vJ "NotTwoSides") (.isx vJ "ShortList") (.isx vJ "BadRow")))),.iff (.or (.cmp .NotEq (.mt .countB vK (vA (.c (.bl aC)))) vN) (.not (.isv vJ))) [.ret (.c (.str "other"))] [],.asg (.nm 2) (.lst (vF (.c (.str "NoPlace")) (.c (.str "NoTie")) (.c (.str "NoRow")) (.c (.str "NoFan")) (.c (.str "TooFew")) (.c (.str "NoStep")) (.c (.str "NotTwoSides")) (.c (.str "ShortList")) (.c (.str "BadRow")))),.ret (.ix vM (.mt .indexB vK (vA (.c (.bl aC)))))]
section
variable{Δ:Nat->Sn}
def GP(s:Sn):Prop:=(∀{S:Sto} {Q:QE},Q (.str "") S->s [.non] S Q)/\∀{c:XCls} {k:Nat} {S:Sto} {Q:QE},Px c k->k<9->(∀ a,Gw S a->Q (.str (clNm.getD k "")) a)->s [.exc c] S Q
def Pz{D:Df}(h:D.body=Py)(i:D.N.length=3)(j:D.ps.length=1):GP (i5 Δ D):=by
 refine⟨λ{S Q} q=>?_,λ{c k S Q} n l q=>?_⟩
 ·unfold i5;rw[h,i];exact⟨j.symm,_,rfl,.inl ⟨rfl,_,rfl,ifT rfl q⟩⟩
 ·unfold i5;rw[h,i];obtain⟨p,r,s,t,u,v,w,x,y,a⟩:=n;have f:3<=big:=by show 3<=100000;omega
  refine⟨j.symm,_,rfl,.inl ⟨rfl,_,rfl,ifF rfl (j6 ?_)⟩⟩;refine⟨_,rfl,c,p,decide (0=k),rfl,by rw[a];simp,_,rfl,c,r,decide (1=k),rfl,by rw[a];simp,_,rfl,c,s,decide (2=k),rfl,by rw[a];simp,f,?_⟩;show wSs Δ (_::_) (u8 Q) [aA (.exc c),aA (.loc S.length),aB] (S++[.lst [.bl (decide (0=k)),.bl (decide (1=k)),.bl (decide (2=k))]]);have z:(S++[SO.lst [.bl (decide (0=k)),.bl (decide (1=k)),.bl (decide (2=k))]])[S.length]?=aA (.lst [.bl (decide (0=k)),.bl (decide (1=k)),.bl (decide (2=k))]):=g9;have A:Gw S (S++[SO.lst [.bl (decide (0=k)),.bl (decide (1=k)),.bl (decide (2=k))]]):=(Gw.refl S).push;generalize S.length=L at *;generalize S++[SO.lst [.bl (decide (0=k)),.bl (decide (1=k)),.bl (decide (2=k))]]=d at *;refine⟨_,rfl,_,rfl,c,t,decide (3=k),rfl,by rw[a];simp,_,rfl,c,u,decide (4=k),rfl,by rw[a];simp,_,rfl,c,v,decide (5=k),rfl,by rw[a];simp,f,_,_,m4 z,g9,by show 6<=100000;omega,?_⟩;have B:((d++[SO.lst [.bl (decide (3=k)),.bl (decide (4=k)),.bl (decide (5=k))]])++[SO.lst ([.bl (decide (0=k)),.bl (decide (1=k)),.bl (decide (2=k))]++[.bl (decide (3=k)),.bl (decide (4=k)),.bl (decide (5=k))])])[(d++[SO.lst [.bl (decide (3=k)),.bl (decide (4=k)),.bl (decide (5=k))]]).length]?=aA (SO.lst ([.bl (decide (0=k)),.bl (decide (1=k)),.bl (decide (2=k))]++[.bl (decide (3=k)),.bl (decide (4=k)),.bl (decide (5=k))])):=g9;have C:=(A.push (o:=SO.lst [.bl (decide (3=k)),.bl (decide (4=k)),.bl (decide (5=k))])).push (o:=SO.lst ([.bl (decide (0=k)),.bl (decide (1=k)),.bl (decide (2=k))]++[.bl (decide (3=k)),.bl (decide (4=k)),.bl (decide (5=k))]));show wSs Δ (_::_) (u8 Q) [aA (.exc c),aA (.loc (d++[SO.lst [.bl (decide (3=k)),.bl (decide (4=k)),.bl (decide (5=k))]]).length),aB] _;generalize (d++[SO.lst [.bl (decide (3=k)),.bl (decide (4=k)),.bl (decide (5=k))]]).length=M at *;generalize (d++[SO.lst [.bl (decide (3=k)),.bl (decide (4=k)),.bl (decide (5=k))]])++[SO.lst ([.bl (decide (0=k)),.bl (decide (1=k)),.bl (decide (2=k))]++[.bl (decide (3=k)),.bl (decide (4=k)),.bl (decide (5=k))])]=E at *;refine⟨_,rfl,_,rfl,c,w,decide (6=k),rfl,by rw[a];simp,_,rfl,c,x,decide (7=k),rfl,by rw[a];simp,_,rfl,c,y,decide (8=k),rfl,by rw[a];simp,f,_,_,m4 B,g9,by show 9<=100000;omega,?_⟩;generalize g:E++[SO.lst [.bl (decide (6=k)),.bl (decide (7=k)),.bl (decide (8=k))]]=b at *;have F:Gw S b:=by rw[<-g];exact C.push
  show wSs Δ (_::_) (u8 Q) [aA (.exc c),aA (.loc b.length),aB] (b++[.lst ((IO k).map SV.bl)]);have e:(b++[SO.lst ((IO k).map SV.bl)])[b.length]?=aA (SO.lst ((IO k).map SV.bl)):=g9;have G:=F.push (o:=SO.lst ((IO k).map SV.bl));generalize b.length=H at *;generalize b++[SO.lst ((IO k).map SV.bl)]=m at *;obtain⟨I,J,K⟩:=Vc k l;refine⟨_,rfl,⟨_,_,rfl,e⟩,_,aC,rfl,e,_,rfl,?_⟩;rw[I];refine ifF rfl ⟨_,rfl,c,rfl,_,rfl,ifF rfl (j6 ⟨by show 9<=100000;omega,?_⟩)⟩;show wSs Δ [_] (u8 Q) [aA (.exc c),aA (.loc H),aA (.loc m.length)] (m++[.lst (clNm.map SV.str)]);refine⟨_,rfl,_,rfl,⟨_,_,rfl,m4 e⟩,_,aC,k,rfl,m4 e,J,K,clNm.map SV.str,_,f9 g9,?_,q _ G.push⟩;refine k8 ?_;rw[YA,Y9,Y6 (show k<clNm.length from l)];rfl
def Q0(s:Sn):Prop:=∀{n H k:Nat} {es:EE} {cs:List Nat} {st:Sp3} {S:Sto} {Q:QE},Hg H es cs->(∀ e∈es,e.1<e.2/\e.2<n)->es.length<=60->H<=1000->Ok3 n H es cs st->S[k]?=aA (.lst (j7 cs))->(∀(l:Nat) (a:Sto),Gw S a->S.length<=l->a[l]?=aA (.lst (j7 (st3 es cs st)))->Q (.loc l) a)->s [webS n es,.loc k,Ad st] S Q
def Q1{es:EE}{t u:Nat}(h:∃ y,AtP es t y/\AtP es u y):Shr es t u:=by
 obtain⟨y,d,a⟩:=h
 have b:∀ t,AtP es t y->endE es t y:=λt ⟨e,c,z⟩=>by
  have:Av es t=e:=by have:=Cj (gM c).1;rw[c]at this;exact(oj this).symm
  unfold endE;rw[this];exact z.imp Eq.symm Eq.symm
 exact shr_end.mpr ⟨y,b t d,b u a⟩
end
def SH{a:List Sp3}{i:Nat}{x:SV}(h:(a.map Ad)[i]?=aA x):∃ s,a[i]?=aA s/\x=Ad s:=by
 rw[YA]at h;cases he:a[i]? with
 | none=>rw[he]at h;cases h
 | some e=>rw[he]at h;exact⟨e,rfl,(oj h).symm⟩
theorem OkR3.at{n H:Nat}{es:EE}:∀{a:List Sp3} {cs:List Nat} {i:Nat} {s:Sp3},OkR3 n H es cs a->a[i]?=aA s->Ok3 n H es (AZ es cs (a.take i)) s
 | [],_,_,_,_,h=>by simp at h
 | s::a,cs,0,b,h,e=>by simp at e;subst e;exact h.1
 | s::a,cs,i+1,b,h,e=>OkR3.at (a:=a) h.2 (by simpa using e)
def Mo{es:EE}{cs:List Nat}{a:List Sp3}{i:Nat}{s:Sp3}(h:a[i]?=aA s):AZ es cs (a.take (i+1))=st3 es (AZ es cs (a.take i)) s:=by
 unfold AZ;rw[Yo,h];simp
theorem OkR3.hgAt{n H:Nat}{es:EE}(b:∀ e∈es,e.1<e.2/\e.2<n)(c:H<=1000):∀{a:List Sp3} {cs:List Nat} (i:Nat),Hg H es cs->OkR3 n H es cs a->Hg H es (AZ es cs (a.take i))
 | [],_,_,g,_=>by rw[List.take_nil];exact g
 | s::a,cs,0,g,h=>g
 | s::a,cs,i+1,g,h=>OkR3.hgAt b c (a:=a) i (Bq g b c h.1) h.2
section
variable{Δ:Nat->Sn}
structure Pre3(H:Nat)(es:EE)(cs:List Nat):Prop where
 ne:∀ t u,t<u->u<cs.length->Shr es t u->hu cs t≠hu cs u
 cd:∀ u,u<cs.length->hu cs u<H\/hu cs u=1000+u
def Pre3.hg{H:Nat}{es:EE}{cs:List Nat}(P:Pre3 H es cs)(h:cs.length=es.length):Hg H es cs:=by
 refine⟨⟨h,λt u y b a e=>?_⟩,λu c=>P.cd u (by omega)⟩;rcases A0l t u with z | z | z
 ·exact absurd e (P.ne t u z (by have:=a.lt;omega) (Q1 ⟨y,b,a⟩))
 ·exact z
 ·exact absurd e.symm (P.ne u t z (by have:=b.lt;omega) (Q1 ⟨y,a,b⟩))
def Pre3.snoc{H:Nat}{es:EE}{cs:List Nat}{c:Nat}(P:Pre3 H es cs)(f:c<H\/c=1000+cs.length)(no:∀ t,t<cs.length->Shr es t cs.length->hu cs t≠c):Pre3 H es (cs++[c]):=by
 refine⟨λt u a b d=>?_,λu b=>?_⟩
 ·rw[Y5,Yt]at b;by_cases e:u=cs.length
  ·subst e;rw[EV a,GH];exact no t a d
  ·rw[EV (by omega),EV (by omega)];exact P.ne t u a (by omega) d
 ·rw[Y5,Yt]at b;by_cases e:u=cs.length
  ·subst e;rw[GH];exact f
  ·rw[EV (by omega)];exact P.cd u (by omega)
def Vd{j:Nat}{T:List Nat}(a:j<1000):inS (.int (j:Nat)) (j7 T)=decide (j∈T):=by
 unfold inS j7;rw[A01,Yp,Z9,dQ];constructor
 ·rintro⟨c,b,z⟩;replace z:eqF (pS c) (.int (j:Nat))=aC:=z;by_cases y:c<1000
  ·rw[v8 y]at z;have:((c:Nat):Int)=((j:Nat):Int):=of_decide_eq_true (p:=_=_) z;exact Yn.mp this▸b
  ·rw[y9 y]at z;cases z
 ·intro h;refine⟨j,h,?_⟩;show eqF (pS j) (.int (j:Nat))=aC;rw[v8 a];exact beq_self_eq_true _
def Ed(T:List Nat):(j7 T).all AI=aC:=by
 unfold j7;rw[A0C,YX];exact λc _=>TY c
noncomputable def wi1(v:Str)(a:Nat):Stm:=(.asg (.nm 5) (.comp ["_law_k"] [v,"_law_tie","_law_found"] [1,4,3] (.nm 0) (.rng1 vO) (.yes (.call a (vC vK vJ vM))) (.ix vL vJ)))
noncomputable def wi2:Stm:=(.asg (.nm 6) (.comp ["_law_hue"] ["_law_taken"] [5] (.nm 0) (.rng1 vM) (.yes (.cmp .NotIn vJ vK)) vJ))
noncomputable def wi3(kd:Nat):Stm:=(.iff (.or (.cmp .Eq vS kG) (.cmp .Eq (.call kd (vB vJ (.c (.int 6)))) vQ)) [.expr (.mt .append vL (vA vP))] [.expr (.mt .append vL (vA (.ix vS (.call kd (vB vJ (.bi .len (vA vS)))))))])
noncomputable def IP(v:Str)(kd a:Nat):List Stm:=[.asg (.nm 3) kG,.loop (.nm 4) (.rng1 (.bi .len (vA (.ix vK vN)))) [wi1 v a,wi2,wi3 kd],.ret vL]
def FV(s:Sn):Prop:=∀{t n H:Nat} {es:EE} {S:Sto} {Q:QE},TapeS S t->es.length<=60->H<=1000->(∀(l:Nat) (cs:List Nat) (a:Sto),TapeS a t->On t S a->S.length<=l->a[l]?=aA (.lst (j7 cs))->Hg H es cs->Q (.loc l) a)->s [.loc t,webS n es,.int (H:Nat)] S Q
def JV(g:∀ f,MonoN (Δ f)){v:Str}{kd km:Nat}(hd:AO (Δ kd))(V:PL (Δ km)){D:Df}(hb:D.body=IP v kd km)(hN:D.N.length=7)(hp:D.ps.length=3):FV (i5 Δ D):=by
 intro t n H l S Q T a6 hH q;have tl:=T.lt;unfold i5;rw[hb,hN];refine⟨hp.symm,by show 0<=100000;decide,?_⟩;have h1:(S++[SO.lst []])[S.length]?=aA (.lst (j7 [])):=g9;refine⟨_,rfl,_,_,rfl,rfl,_,rfl,_,rfl,⟨by rw[Y4];omega,by rw[Y4];omega⟩,?_⟩;have e:(DQ 0 ((l.map pairS).length:Int)).length=l.length:=by rw[r6,Y4];omega
 refine A6 (m9 g _) (λi ρ p=>∃(o4 o5 W:Option SV) (cs:List Nat),ρ=[aA (.loc t),aA (webS n l),aA (.int (H:Nat)),aA (.loc S.length),o4,o5,W]/\TapeS p t/\S.length+1<=p.length/\(∀(k:Nat) (o:SO),k<S.length->k≠t->S[k]?=aA o->p[k]?=aA o)/\p[S.length]?=aA (.lst (j7 cs))/\cs.length=i/\Pre3 H l cs) ⟨aB,aB,aB,[],rfl,T.push,by rw[Y5];simp,λk o _ ne h=>m4 h,h1,rfl,⟨λt u tu ul=>by simp at ul,λu ul=>by simp at ul⟩⟩ (λ_ _ _ _=>trivial) ?_ ?_
 ·rintro i x ρ p E hE hR C ⟨o4,o5,W,cs,rfl,T2,l2,K2,h2,X,P⟩;have hi:i<l.length:=by have:=(gM C).1;rwa [e]at this
  obtain⟨rfl,_⟩:=u7 C;rw[Zh];refine⟨_,rfl,_,rfl,⟨by omega,by omega⟩,?_⟩;refine m7 (n9 g _).2 (c8 g _).1 (λj F I=>Gw p I/\∃ a:List Nat,F=j7 a/\a.length<=j/\∀ t,t<j->Shr l t i->hu cs t∈a) ⟨Gw.refl p,[],rfl,YF _,λt Y=>by omega⟩ (λ_ _ _ _=>trivial) ?_ ?_
  ·rintro j x F I C ⟨G,a,rfl,J,tm⟩;obtain⟨rfl,K⟩:=u7 C;rw[Zh]at K ⊢;have K:j<i:=by omega
   have Z:=Ac (cs:=cs) (t:=j) (by omega);refine⟨_,rfl,_,rfl,_,rfl,V (by omega) hi λr er=>⟨_,rfl,?_⟩⟩;cases r with
   | true=>
     refine ifT rfl ⟨_,rfl,_,rfl,_,_,f9 (G.keep _ _ h2),k8 (AQ Z),by rw[AD];show _<100000;omega,G,a++[hu cs j],by unfold j7;rw[YN];rfl,by rw[Y5];simp;exact J,λt Y s=>?_⟩;by_cases e:t=j
     ·rw[e];simp
     ·exact ZG _ (tm t (by omega) s)
   | false=>
     refine ifF rfl ⟨G,a,rfl,by omega,λt Y s=>?_⟩;by_cases e:t=j
     ·rw[e]at s;have:=er.mpr s;cases this
     ·exact tm t (by omega) s
  rintro F I ⟨G3,a,rfl,J,tm⟩;rw[r6,show((i:Int) - 0).toNat=i by omega]at J tm;have h5:(I++[SO.lst (j7 a)])[I.length]?=aA (SO.lst (j7 a)):=g9;have G4:=G3.push (o:=SO.lst (j7 a));generalize I++[SO.lst (j7 a)]=S4 at *;generalize I.length=l5 at *;refine⟨_,rfl,_,rfl,⟨by omega,by omega⟩,?_⟩;refine m7 (n9 g _).2 (c8 g _).1 (λj F d=>d=S4/\F=j9 ((YJ j).filter λh=>!decide (h∈a))) ⟨rfl,rfl⟩ (λ_ _ _ _=>trivial) ?_ ?_
  ·rintro j x F d C ⟨rfl,rfl⟩;have jl:j<H:=by have:=(gM C).1;rw[r6]at this;omega
   obtain⟨rfl,K⟩:=u7 C;rw[Zh]at K ⊢;have L:=I0 (λh=>!decide (h∈a)) j;have fl:=C4 (λh=>!decide (h∈a)) j;refine⟨_,rfl,_,rfl,?_⟩;show match CD (.loc l5) d with | some ms=>_ | none=>_
   rw[Bm h5];refine⟨rfl,_,f9 h5,Ed _,_,rfl,?_⟩;show if (!inS (.int (j:Nat)) (j7 a))=aC then _ else _
   rw[Vd (by omega)];by_cases V:j∈a
   ·rw[iG (by simpa using V),Z2]at L;exact ifF (by simpa using V) ⟨rfl,by rw[L]⟩
   ·rw[iP (by simpa using V)]at L;exact ifT (by simpa using V) ⟨_,rfl,by rw[p0];show _<100000;omega,rfl,by rw[L,Au];rfl⟩
  rintro F d ⟨rfl,rfl⟩;rw[r6,show((H:Int) - 0).toNat=H by omega];have fL:=C4 (λh=>!decide (h∈a)) H
  have B:∀ c∈(YJ H).filter (λh=>!decide (h∈a)),c<H/\c∉a:=λc Z=>by
   rw[Z1,YU,YS,decide_eq_false_iff_not]at Z;exact Z
  generalize (YJ H).filter (λh=>!decide (h∈a))=M at *;have h6:(d++[SO.lst (j9 M)])[d.length]?=aA (SO.lst (j9 M)):=g9;have G6:=G4.push (o:=SO.lst (j9 M));have s6:d.length<(d++[SO.lst (j9 M)]).length:=by rw[Y5];simp
  show wSs Δ [wi3 kd] E [aA (.loc t),aA (webS n l),aA (.int (H:Nat)),aA (.loc S.length),aA (.int (i:Nat)),aA (.loc l5),aA (.loc d.length)] (d++[SO.lst (j9 M)]);have a7:=G4.len;generalize d++[SO.lst (j9 M)]=O at *;generalize d.length=l6 at *;have w:S.length≠t:=by omega
  have a0:l6≠t:=by have:=T2.lt;omega
  have put:∀(c:Nat) (b:Sto) (W:Option SV),TapeS b t->On t O b->O.length<=b.length->b[S.length]?=aA (.lst (j7 cs))->(c<H\/c=1000+i)->(∀ t,t<i->Shr l t i->hu cs t≠c)->E.nx [aA (.loc t),aA (webS n l),aA (.int (H:Nat)),aA (.loc S.length),aA (.int (i:Nat)),aA (.loc l5),W] (b.set S.length (.lst (j7 cs++[pS c]))):=by
   intro c b W T7 O7 L7 h7 Z no;refine hE _ _ ⟨_,_,_,cs++[c],rfl,T7.other w,by rw[YZ];have:=G6.len;omega,λk o kl ne h=>?_,by rw[t9 h7];unfold j7;rw[YN];rfl,by rw[Y5,X];rfl,P.snoc (by rw[X];exact Z) λt' Y s=>no t' (by omega) (X▸s)⟩;rw[AC (by omega)];exact O7.keep _ _ ne (G6.keep _ _ (K2 k o kl ne h))
  have a1:∀ t,t<i->Shr l t i->hu cs t≠1000+i:=λt Y _ z=>by
   rcases P.cd t (by omega) with y | y<;>omega
  have non:pS (1000+i) = .non:=y9 (by omega);have R:=G6.keep _ _ h2
  have a2:∀(b:Sto),TapeS b t->On t O b->O.length<=b.length->wSs Δ [.expr (.mt .append vL (vA vP))] {E with nx:=wSs Δ [] E} [aA (.loc t),aA (webS n l),aA (.int (H:Nat)),aA (.loc S.length),aA (.int (i:Nat)),aA (.loc l5),aA (.loc l6)] b:=λb T7 O7 L7=>by
   have U:=O7.keep _ _ w R;refine⟨_,rfl,⟨_,_,rfl,U⟩,_,U,by rw[AD];show _<100000;omega,?_⟩;have:=put (1000+i) b (aA (.loc l6)) T7 O7 L7 U (.inr rfl) a1;rw[non]at this;exact this
  have T6:=G6.tape T2;refine⟨_,rfl,by show 0<=100000;decide,_,_,m4 h6,g9,.inr (.inr rfl),_,rfl,?_⟩;cases hF:M with
  | nil=>
    exact ifT rfl (a2 _ T6.push (On.refl _ _).push (by rw[Y5];omega))
  | cons f L=>
    rw[hF]at h6 fL B;refine ifF rfl ⟨_,rfl,hd T6.push (by decide) (by decide) λr b r0 r1 T7 O7 a8=>⟨_,rfl,?_⟩⟩;have m:On t O b:=(On.refl t O).push.trans O7;have a4:O.length<=b.length:=m.len;refine ifD (λz=>a2 b T7 m a4) (λz=>?_);have a5:=m.keep _ _ a0 h6;refine⟨_,rfl,⟨_,_,rfl,m.keep _ _ w R⟩,_,rfl,_,rfl,_,rfl,_,f9 a5,hd T7 (by rw[p0,Ya];omega) (by rw[p0];omega) λr S8 r0 r1 T8 O8 a9=>?_⟩;rw[p0]at r1;obtain⟨j,rfl⟩:=Zj r0;have jl:j<(f::L).length:=by omega
    have K:=Y6 jl;have cm:=B _ (Z8 jl);generalize (f::L)[j]=c at K cm;have A:=m.trans O8;have a3:=A.keep _ _ w R;refine⟨_,_,f9 (A.keep _ _ a0 h6),k8 (PB K),_,a3,by rw[AD];show _<100000;omega,?_⟩;have:=put c S8 (aA (.loc l6)) T8 A A.len a3 (.inl cm.1) λt' Y s z=>cm.2 (z▸tm t' Y s);rw[v8 (by omega)]at this;exact this
 ·rintro ρ p ⟨o4,o5,W,cs,rfl,T2,l2,K2,h2,X,P⟩;rw[e]at X;exact⟨_,rfl,q S.length cs p T2 ⟨by omega,λk o ne h=>K2 k o (gM h).1 ne h⟩ (YF _) h2 (P.hg X)⟩
end
def Ee{n H t:Nat}{es:EE}{cs:List Nat}(c:t<es.length):(L5 es cs t H).length<=es.length+1:=by
 unfold L5;split
 ·exact Z3 _
 obtain⟨e,a⟩:∃ e,es[t]?=aA e:=⟨_,Y6 c⟩
 have d:es.getD t (0,0)=e:=by rw[Y9,a];rfl
 obtain⟨I,M⟩:=GN (es:=es) (cs:=cs) (p:=e.1) (H:=H) (t0:=t) (es.length+1) [(t,aB)] (FanI.one ⟨e,a,.inl rfl⟩) (by show es.length<1+(es.length+1);omega);have b:=I.len;unfold w6;rw[d];generalize C9 es cs e.1 H (es.length+1) [(t,aB)]=F at *;cases h1:v5 es cs e.1 H F with
 | some s=>exact A1a (Bt (n:=n) (t0:=t) (cs:=cs) b h1)
 | none=>
   dsimp only;cases h2:A7 es cs e.1 H F with
   | none=>exact Z3 _
   | some x=>
     dsimp only;cases h3:v5 es (st3 es cs (.row x.2 ((frL es cs e.1 H).headD 0) x.1)) e.1 H F with
     | none=>show 1<=es.length+1;omega
     | some s=>exact A0z (Bt (n:=n) (t0:=t) (cs:=cs) b h3)
section
variable{Δ:Nat->Sn}
def C6(s:Sn):Prop:=∀{n H k k2:Nat} {es:EE} {cs:List Nat} {a:List Sp3} {S:Sto} {Q:QE},S[k]?=aA (.lst (j7 cs))->S[k2]?=aA (.lst (a.map Ad))->a.length<=2000->Hg H es cs->(∀ e∈es,e.1<e.2/\e.2<n)->es.length<=60->H<=1000->OkR3 n H es cs a->(∀(l:Nat) (c:List Nat) (b:Sto),Gw S b->b[l]?=aA (.lst (c.map SV.loc))->c.length=a.length->(∀ i k:Nat,c[i]?=aA k->S.length<=k/\b[k]?=aA (.lst (j7 (AZ es cs (a.take (i+1))))))->Q (.loc l) b)->s [webS n es,.loc k,.loc k2] S Q
def JW(w:∀ f,MonoN (Δ f)){K:Nat}(Y:Q0 (Δ K)){D:Df}(Z:D.body=Kp K)(hN:D.N.length=7)(hp:D.ps.length=3):C6 (i5 Δ D):=by
 intro n H k A B L r S Q M C hs P t el R T q;have kl:=(gM M).1;have a0:=(gM C).1;unfold i5;rw[Z,hN];refine⟨hp.symm,by show 0<=100000;decide,_,rfl,_,rfl,_,f9 (m4 C),?_⟩;have hl:(S++[SO.lst []])[S.length]?=aA (SO.lst []):=g9;have E:=m4 (o:=SO.lst []) M;have u:=m4 (o:=SO.lst []) C;have U:Gw S (S++[SO.lst []]):=(Gw.refl S).push;have l1:(S++[SO.lst []]).length=S.length+1:=by simp
 generalize S++[SO.lst []]=V at *;refine y8 (m9 w _) (λj F b=>On S.length V b/\∃(c:Nat) (g:List Nat) (G I:Option SV),F=[aA (webS n B),aA (.loc k),aA (.loc A),aA (.loc S.length),aA (.loc c),G,I]/\b[c]?=aA (.lst (j7 (AZ B L (r.take j))))/\b[S.length]?=aA (.lst (g.map SV.loc))/\g.length=j/\∀ i k:Nat,g[i]?=aA k->S.length<k/\b[k]?=aA (.lst (j7 (AZ B L (r.take (i+1)))))) ⟨On.refl _ _,k,[],aB,aB,rfl,E,hl,rfl,λi k h=>by simp at h⟩ (λ_ _ b z=>?_) ?_ ?_
 ·show b[A]?=V[A]?;rw[z.1.keep _ _ (by omega) u,u]
 ·rintro j x F b hx ⟨O,c,g,G,I,rfl,W,d,v,a⟩;obtain⟨y,hy,rfl⟩:=EO hx;obtain⟨s,l,rfl⟩:=SH hy;have jl:=(gM l).1;refine⟨_,rfl,_,rfl,_,rfl,Y (T.hgAt t R j P) t el R (T.at l) W λX S3 J a1 m=>?_⟩;rw[<-Mo l]at m;have sl:=(gM d).1;refine⟨_,rfl,.inl ⟨rfl,_,rfl,ifF rfl (j6 ?_)⟩⟩;have p:=J.keep _ _ d;refine⟨_,rfl,⟨_,_,rfl,p⟩,_,rfl,_,p,by rw[Y4];show _<100000;omega,?_⟩;refine⟨(O.trans (VQ J)).tape,X,g++[X],_,_,rfl,by rw[AC (by omega)];exact m,by rw[t9 p,YN];rfl,by rw[Y5,v];rfl,λi k e=>?_⟩;rcases Ke e with⟨e1,e2⟩ | e
  ·rw[e2,e1,v];exact⟨by omega,by rw[AC (by omega)];exact m⟩
  ·obtain⟨r1,r2⟩:=a i k e;exact⟨r1,by rw[AC (by omega)];exact J.keep _ _ r2⟩
 ·rintro F b ⟨O,c,g,G,I,rfl,W,d,v,a⟩;rw[Ci,Y4]at v;refine⟨_,rfl,q _ g b ⟨Yg U.len O.len,λj o h=>O.keep j o (λz=>?_) (U.keep j o h)⟩ d v λi k e=>⟨by have:=(a i k e).1;omega,(a i k e).2⟩⟩;have:=(gM h).1;omega
def Ta(a:Nat):List Stm:=[.ret (.and (.call a (vB vJ vM)) kT)]
def JX(s:Sn):Prop:=∀{n k t:Nat} {es:EE} {cs:List Nat} {S:Sto} {Q:QE},cs.length=es.length->t<es.length->hu cs t<1000->S[k]?=aA (.lst (j7 cs))->Q (.bl aC) S->s [webS n es,.loc k,.int (t:Nat)] S Q
def SJ{b:Nat}(c:BO (Δ b)){D:Df}(d:D.body=Ta b)(e:D.N.length=3)(f:D.ps.length=3):JX (i5 Δ D):=by
 intro n k t l cs S Q m g h i q;unfold i5;rw[d,e];have j:=Ac (cs:=cs) (t:=t) (by omega);have a:(j7 cs)[t]?=aA (.int (hu cs t:Nat)):=by rw[AQ j,v8 h]
 exact⟨f.symm,_,rfl,_,rfl,c g ⟨_,rfl,ifT rfl ⟨_,rfl,_,rfl,_,_,f9 i,k8 a,.inl ⟨rfl,q⟩⟩⟩⟩
noncomputable def Q2:List Stm:=[.ret (.and (.cmp .NotEq vK vM) (.bi .any (vA (.comp ["place"] ["web","other"] [0,2] (.nm 0) (.seq (.ix kE vK)) .no (.cmp .In vJ (.ix (.ix vK vN) vM))))))]
def GQ(s:Sn):Prop:=∀{n t u:Nat} {es:EE} {S:Sto} {Q:QE},t≠u->(∃ y,AtP es t y/\AtP es u y)->(∀ a,Gw S a->Q (.bl aC) a)->s [webS n es,.int (t:Nat),.int (u:Nat)] S Q
def Q3(a:∀ f,MonoN (Δ f)){D:Df}(i:D.body=Q2)(k:D.N.length=3)(l:D.ps.length=3):GQ (i5 Δ D):=by
 intro n t u d S Q m o q;obtain⟨y,⟨e,r,s⟩,f,v,w⟩:=o;have A:(d.map pairS)[t]?=aA (pairS e):=by rw[YA,r];rfl
 have g:(d.map pairS)[u]?=aA (pairS f):=by rw[YA,v];rfl
 unfold i5;rw[i,k];refine⟨l.symm,_,rfl,_,rfl,_,rfl,ifT ?_ ?_⟩
 ·show(!decide (((t:Nat):Int)=((u:Nat):Int)))=aC;rw[decide_eq_false (λz=>m (Yn.mp z))];rfl
 refine⟨_,rfl,_,_,rfl,rfl,_,rfl,_,_,rfl,k8 A,_,rfl,?_⟩;refine m7 (n9 a _).2 (c8 a _).1 (λj b c=>c=S/\b=([e.1,e.2].take j).map λp=>SV.bl (decide (f.1=p)||decide (f.2=p))) ⟨rfl,rfl⟩ (λ_ _ _ _=>trivial) ?_ ?_
 ·rintro j x b c h ⟨rfl,rfl⟩;have B:j=0\/j=1:=by have:=(gM h).1;simp at this;omega
  rcases B with rfl | rfl<;>cases h
  ·refine⟨_,rfl,_,rfl,_,_,rfl,rfl,_,rfl,_,_,rfl,k8 g,rfl,_,rfl,rfl,by show 0<100000;decide,rfl,?_⟩;show[]++[SV.bl (inS (.int (e.1:Nat)) [.int (f.1:Nat),.int (f.2:Nat)])]=_;rw[C2];rfl
  ·refine⟨_,rfl,_,rfl,_,_,rfl,rfl,_,rfl,_,_,rfl,k8 g,rfl,_,rfl,rfl,by show 1<100000;decide,rfl,?_⟩;show _++[SV.bl (inS (.int (e.2:Nat)) [.int (f.1:Nat),.int (f.2:Nat)])]=_;rw[C2];rfl
 ·rintro b c ⟨rfl,rfl⟩;refine⟨_,[decide (f.1=e.1)||decide (f.2=e.1),decide (f.1=e.2)||decide (f.2=e.2)],nofun,f9 g9,rfl,?_⟩
  rw[show[decide (f.1=e.1)||decide (f.2=e.1),decide (f.1=e.2)||decide (f.2=e.2)].any id=aC by
   rcases s with rfl | rfl<;>rcases w with z | z<;>simp[z]]
  exact q _ (Gw.refl _).push
def Bu(cs:List Nat)(ps:EE):List Nat:=ps.foldl (λc p=>c.set p.1 p.2) cs
noncomputable def gvS(p:Nat×Nat):SV := .tup [.int (p.1:Nat),pS p.2]
def Dl(s:Sn):Prop:=∀{n k l:Nat} {es:EE} {cs:List Nat} {ps:EE} {S:Sto} {Q:QE},(∀ e∈es,e.1<e.2/\e.2<n)->es.length<=60->cs.length=es.length->(∀ p∈ps,p.1<es.length)->Prp es (Bu cs ps)->S[k]?=aA (.lst (j7 cs))->S[l]?=aA (.lst (ps.map gvS))->(∀(l:Nat) (a:Sto),Gw S a->S.length<=l->a[l]?=aA (.lst (j7 (Bu cs ps)))->Q (.loc l) a)->s [webS n es,.loc k,.loc l] S Q
def Q4(m:∀ f,MonoN (Δ f)){u:Nat}(y:Da (Δ u)){D:Df}(A:D.body=TR u)(B:D.N.length=6)(C:D.ps.length=3):Dl (i5 Δ D):=by
 intro n k l E a b S Q o F L G P H h q;have M:=(gM h).1
 have v:∀(b:EE) (a:List Nat),(Bu a b).length=a.length:=by
  intro b
  induction b with
  | nil=>intro a;rfl
  | cons p b I=>intro a;show(Bu (a.set p.1 p.2) b).length=_;rw[I,YZ]
 unfold i5;rw[A,B];refine⟨C.symm,_,rfl,_,f9 H,_,rfl,_,f9 (m4 h),?_⟩;refine y8 (m9 m _) (λi j d=>∃(s t:Option SV),j=[aA (webS n E),aA (.loc k),aA (.loc l),aA (.loc S.length),s,t]/\On S.length (S++[.lst (j7 a)]) d/\d[S.length]?=aA (.lst (j7 (Bu a (b.take i))))) ⟨aB,aB,rfl,On.refl _ _,g9⟩ (λi j d z=>?_) ?_ ?_
 ·obtain⟨_,_,_,O,_⟩:=z;show d[l]?=(S++[SO.lst (j7 a)])[l]?;rw[m4 h];exact O.keep _ _ (by omega) (m4 h)
 ·rintro i x j d g ⟨s,t,rfl,O,c⟩;rw[YA]at g;cases hpi:b[i]? with
  | none=>rw[hpi]at g;cases g
  | some p=>
    rw[hpi]at g;cases g
    have e:Bu a (b.take (i+1))=(Bu a (b.take i)).set p.1 p.2:=by
     unfold Bu;rw[Yo,hpi,A1c];rfl
    refine⟨_,rfl,_,rfl,_,rfl,_,p.1,c,GD (by rw[AD,v];have:=G p (Y7 hpi);omega),_,_,rfl,O.tape,?_⟩;rw[t9 c,e];unfold j7;rw[A1B]
 ·rintro j d ⟨s,t,rfl,O,c⟩;rw[Y4,Yk]at c;refine⟨_,rfl,_,rfl,y o F (PY c (by rw[v];omega)) λr J w K=>?_⟩;have:r=aC:=K.mpr ⟨_,f9 c,Kq P⟩;subst this;exact⟨_,rfl,ifT rfl ⟨_,rfl,q S.length J ((IC (Gw.refl S).push O (YF _)).trans w) (YF _) (w.keep _ _ c)⟩⟩
def StW(s:Sn)(c:Sp3->Prop)(a:Sp3->List SV):Prop:=∀{n H k:Nat} {es:EE} {cs:List Nat} {st:Sp3} {S:Sto} {Q:QE},c st->Hg H es cs->(∀ e∈es,e.1<e.2/\e.2<n)->es.length<=60->H<=1000->Ok3 n H es cs st->S[k]?=aA (.lst (j7 cs))->(∀(l:Nat) (b:Sto),Gw S b->S.length<=l->b[l]?=aA (.lst (j7 (st3 es cs st)))->Q (.loc l) b)->s (webS n es :: .loc k::a st) S Q
def JY:Sp3->Prop | .hue _ _=>True | _=>False
def GR:Sp3->Prop | .move _ _=>True | _=>False
noncomputable def Mp:Sp3->List SV
 | .hue t h=>[.int (t:Nat),.int (h:Nat)]
 | .move t u=>[.int (t:Nat),.int (u:Nat)]
 | .row p a b=>[.int (p:Nat),.int (a:Nat),.int (b:Nat)]
def Q5{e f i:Nat}(v:De (Δ e))(w:PP (Δ f))(x:Dl (Δ i)){D:Df}(y:D.body=TU e f i)(A:D.N.length=4)(B:D.ps.length=4):StW (i5 Δ D) JY Mp:=by
 intro n H k U V C S Q j g c E F m o q;have G:=Bq g c F m;cases C with
 | row p a b=>exact j.elim
 | move t u=>exact j.elim
 | hue t h=>
   obtain⟨r,I,W,X⟩:=m;unfold i5;rw[y,A];have J:Gd (VS S) 0 10 (.int (h:Nat)) := .int ⟨by omega,by omega⟩;have K:Rr (.int (h:Nat))=aC:=(show decide ((0:Int)<=((h:Nat):Int))=aC from decide_eq_true (by omega))
   refine⟨B.symm,_,rfl,_,rfl,_,rfl,v g.P.len r I o ⟨_,rfl,ifF rfl ⟨_,rfl,w J ⟨_,rfl,?_⟩⟩⟩⟩;rw[K];refine ifF rfl (j6 ?_);refine⟨_,rfl,_,rfl,_,rfl,_,rfl,by show 2<=100000;decide,by show 1<=100000;decide,?_⟩;have s:Gw S (S++[SO.lst [.tup [.int (t:Nat),.int (h:Nat)]]]):=(Gw.refl S).push;have L:[gvS (t,h)]=[SV.tup [.int (t:Nat),.int (h:Nat)]]:=by unfold gvS;rw[v8 (by omega)]
   exact x (ps:=[(t,h)]) c E g.P.len (λp d=>by rw[YK.mp d];exact r) G.P (m4 o) (by rw[g9];exact congrArg (λz=>aA (SO.lst z)) L.symm) λl M O R T=>q l M (s.trans O) (Yg s.len R) T
noncomputable def Q6(a b c d:Nat):List Stm:=[.iff (.or (.not (.call a (vC vJ vK vM))) (.not (.call b (vC vJ vK vL)))) [.ret vP] [],.iff (.not (.call c (vC vJ vM vL))) [.ret vP] [],.ret (.call d (vC vJ vK (.lst (vB (.tup (vB vM vP)) (.tup (vB vL (.ix vK vM)))))))]
def Mq{o r s v:Nat}(B:JX (Δ o))(C:De (Δ r))(E:GQ (Δ s))(F:Dl (Δ v)){D:Df}(G:D.body=Q6 o r s v)(I:D.N.length=4)(J:D.ps.length=4):StW (i5 Δ D) GR Mp:=by
 intro n H k es d K S Q w g e L M x h q;have O:=Bq g e M x;have i:=g.P.len;cases K with
 | row p a b=>exact w.elim
 | hue t u=>exact w.elim
 | move t u=>
   obtain⟨y,A,R,T,U,h4⟩:=x;have V:t≠u:=λz=>by rw[z]at R;omega
   have j:(j7 d)[t]?=aA (.int (hu d t:Nat)):=by rw[AQ (Ac (by omega)),v8 (by omega)]
   unfold i5;rw[G,I];refine⟨J.symm,_,rfl,_,rfl,_,rfl,B i y (by omega) h ⟨_,rfl,ifF rfl ⟨_,rfl,_,rfl,_,rfl,C i A T h ⟨_,rfl,ifF rfl (j6 ?_)⟩⟩⟩⟩;refine⟨_,rfl,_,rfl,_,rfl,E V U λS1 m=>⟨_,rfl,ifF rfl (j6 ?_)⟩⟩;have f:=m.keep _ _ h;refine⟨_,rfl,_,rfl,_,rfl,by show 2<=100000;decide,_,rfl,_,rfl,_,rfl,_,_,f9 f,k8 j,by show 2<=100000;decide,by show 2<=100000;decide,?_⟩;have W:[gvS (t,1000+t),gvS (u,hu d t)]=[SV.tup [.int (t:Nat),.non],SV.tup [.int (u:Nat),.int (hu d t:Nat)]]:=by unfold gvS;rw[v8 (show hu d t<1000 by omega),y9 (show ¬ 1000+t<1000 by omega)]
   exact F (ps:=[(t,1000+t),(u,hu d t)]) e L i (λp c=>by
    rcases YH.mp c with rfl | c
    ·exact y
    ·rw[YK.mp c];exact A) O.P (m4 f) (by rw[g9];exact congrArg (λz=>aA (SO.lst z)) W.symm) λl X Y Z h'=>q l X (m.push.trans Y) (Yg m.push.len Z) h'
def Mr{o kd r kr:Nat}(s:StW (Δ o) JY Mp)(v:StW (Δ r) GR Mp)(x:AW (Δ kr) λp a b=>[.int (p:Nat),.int (a:Nat),.int (b:Nat)]){D:Df}(d:D.body=JP o kd r kr)(e:D.N.length=4)(f:D.ps.length=3):Q0 (i5 Δ D):=by
 intro n H k y A st S Q g c i j l m q;cases st with
 | row p a b=>exact FT x d e f g c i j l (Hv.loc m) q
 | hue t h=>
   unfold i5;rw[d,e];refine⟨f.symm,_,rfl,_,nofun,rfl,_,rfl,ifF rfl ⟨_,rfl,aC,rfl,ifF rfl (j6 ?_)⟩⟩;refine⟨_,rfl,_,_,rfl,rfl,?_⟩;refine⟨_,rfl,_,rfl,ifT (decide_eq_true rfl) ⟨_,rfl,_,rfl,_,rfl,ifT rfl ?_⟩⟩;exact⟨_,rfl,_,rfl,_,rfl,_,_,rfl,rfl,_,rfl,_,_,rfl,rfl,s (st := .hue t h) trivial g c i j l m q⟩
 | move t u=>
   unfold i5;rw[d,e];have no:∀ w:Str,w≠"move"->decide (("move":Str)=w)=aD:=λw h=>decide_eq_false λz=>h z.symm;refine⟨f.symm,_,rfl,_,nofun,rfl,_,rfl,ifF rfl ⟨_,rfl,aC,rfl,ifF rfl (j6 ?_)⟩⟩;refine⟨_,rfl,_,_,rfl,rfl,?_⟩;refine⟨_,rfl,_,rfl,ifF (no "hue" (by decide)) (ifF rfl (j6 ?_))⟩;refine⟨_,rfl,_,rfl,ifF (no "drop" (by decide)) (ifF rfl (j6 ?_))⟩;refine⟨_,rfl,_,rfl,ifT (decide_eq_true rfl) ⟨_,rfl,_,rfl,_,rfl,ifT rfl ?_⟩⟩;exact⟨_,rfl,_,rfl,_,rfl,_,_,rfl,rfl,_,rfl,_,_,rfl,rfl,v (st := .move t u) trivial g c i j l m q⟩
end
noncomputable def AK(es:EE)(H:Nat):Nat->List Nat×List Sp3
 | 0=>(cs0 es.length,[])
 | i+1=>(AZ es (AK es H i).1 (w6 es (AK es H i).1 i H),(AK es H i).2++w6 es (AK es H i).1 i H)
def Q7(es:EE)(cs:List Nat)(a b:List Sp3):AZ es cs (a++b)=AZ es (AZ es cs a) b:=by unfold AZ;rw[A1c]
theorem OkR3.app{n H:Nat}{es:EE}:∀{a:List Sp3} {cs:List Nat} {b:List Sp3},OkR3 n H es cs a->OkR3 n H es (AZ es cs a) b->OkR3 n H es cs (a++b)
 | [],_,_,_,h=>h
 | s::a,cs,b,h,c=>⟨h.1,OkR3.app (a:=a) h.2 c⟩
def hg0{H:Nat}(es:EE):Hg H es (cs0 es.length):=⟨Rw es,λu a => .inr (GK a)⟩
theorem LB{n H m:Nat}{es:EE}(a:∀ e∈es,e.1<e.2/\e.2<n)(c:H<=1000)(j:∀ y,y<n->t8 es y+m<=H)(k:IsTh es m):∀ i,i<=es.length->OkR3 n H es (cs0 es.length) (AK es H i).2/\(AK es H i).1=AZ es (cs0 es.length) (AK es H i).2/\Hg H es (AK es H i).1/\(∀ u,u<i->hu (AK es H i).1 u<H)/\(∀ u,i<=u->u<es.length->¬ hu (AK es H i).1 u<1000)/\(AK es H i).2.length<=i * (es.length+1)
 | 0,_=>⟨trivial,rfl,hg0 es,λu h=>by omega,λu _ h=>by show ¬ hu (cs0 es.length) u<1000;rw[GK h];omega,Z3 _⟩
 | i+1,z=>by
   obtain⟨v,l,d,w,o,A⟩:=LB a c j k i (by omega);have f:i<es.length:=by omega
   have p:=o i (YF _) f;obtain⟨q,x,r⟩:=DE a c d f p j k.1;have s:=Ee (n:=n) (H:=H) (cs:=(AK es H i).1) f;unfold L5 at s;rw[iG p]at s;have t:=OkR3.hg a c d q;refine⟨v.app (by rw[<-l];exact q),?_,t,λu g=>?_,λu g b=>?_,?_⟩
   ·show AZ es (AK es H i).1 (w6 es (AK es H i).1 i H)=AZ es (cs0 es.length) ((AK es H i).2++w6 es (AK es H i).1 i H);rw[Q7,<-l]
   ·by_cases e:u=i
    ·rw[e];exact x
    ·exact(r u (by omega) e).mpr (w u (by omega))
   ·have:=o u (by omega) b;show ¬ hu (AZ es (AK es H i).1 (w6 es (AK es H i).1 i H)) u<1000;have B:=d.cod u b;have C:=t.cod u b;have D:=r u b (by omega);omega
   ·show((AK es H i).2++w6 es (AK es H i).1 i H).length<=_;rw[Y5,Zk];omega
section
variable{Δ:Nat->Sn}
def Ms{n H t m:Nat}{es:EE}{cs:List Nat}(a:∀ e∈es,e.1<e.2/\e.2<n)(c:H<=1000)(g:Hg H es cs)(d:t<es.length)(b0:¬ hu cs t<1000)(f:∀ y,y<n->t8 es y+m<=H)(h:IsTh es m):0<(w6 es cs t H).length:=by
 obtain⟨_,b⟩:=DE a c g d b0 f h.1;refine Zn λz=>?_;rw[A0w.mp z]at b;have:hu cs t<H:=b.1;omega
noncomputable def XT(kr kp:Nat):List Stm:=[by3,.asg (.nm 3) kG,.loop (.nm 4) (.rng1 kQ) (byL kr kp),.ret (.tup (vB vM vL))]
def SK(z:∀ f,MonoN (Δ f)){kr kp:Nat}(Y:Bs (Δ kr))(A:C6 (Δ kp)){n H m:Nat}{es:EE}{S:Sto}{Q:QE}(a:∀ e∈es,e.1<e.2/\e.2<n)(K:es.length<=60)(k:H<=1000)(t:IsTh es m)(B:mostN es n+m<=H)(q:∀(k1 k2:Nat) (b:Sto),Gw S b->S.length<=k1->S.length<=k2->k1≠k2->b[k1]?=aA (.lst (j7 (AK es H es.length).1))->b[k2]?=aA (.lst ((AK es H es.length).2.map Ad))->Q (.tup [.loc k1,.loc k2]) b):wSs Δ (XT kr kp) (u8 Q) [aA (webS n es),aA (.int (H:Nat)),aB,aB,aB,aB] S:=by
 have C:∀ y,y<n->t8 es y+m<=H:=λy Z=>by have:=Ck es Z;omega
 have ok:=LB a k C t;refine⟨by show 1<=100000;decide,_,rfl,_,_,rfl,rfl,_,rfl,_,g9,⟨by rw[Y4];omega,by rw[Y4];omega⟩,by rw[Y4];show 1 * _<=100000;omega,by show 0<=100000;decide,?_⟩;rw[show(YR (((es.map pairS).length:Nat):Int).toNat [SV.non]).flatten=j7 (cs0 es.length) by rw[Y4,ZM];exact Pu _];have G3:Gw S (S++[SO.lst [SV.non]]++[SO.lst (j7 (cs0 es.length))]++[SO.lst []]):=((Gw.refl S).push.push).push;have L:(S++[SO.lst [SV.non]]++[SO.lst (j7 (cs0 es.length))]++[SO.lst []])[(S++[SO.lst [SV.non]]).length]?=aA (SO.lst (j7 (cs0 es.length))):=m4 g9;have M:(S++[SO.lst [SV.non]]++[SO.lst (j7 (cs0 es.length))]++[SO.lst []])[(S++[SO.lst [SV.non]]++[SO.lst (j7 (cs0 es.length))]).length]?=aA (SO.lst []):=g9;have N:(S++[SO.lst [SV.non]]).length=S.length+1:=by simp
 have P:(S++[SO.lst [SV.non]]++[SO.lst (j7 (cs0 es.length))]).length=S.length+2:=by simp
 rw[N]at L;rw[P]at M;show wSs Δ [.loop (.nm 4) (.rng1 kQ) (byL kr kp),.ret (.tup (vB vM vL))] (u8 Q) [aA (webS n es),aA (.int (H:Nat)),aA (.loc (S++[SO.lst [SV.non]]).length),aA (.loc (S++[SO.lst [SV.non]]++[SO.lst (j7 (cs0 es.length))]).length),aB,aB] (S++[SO.lst [SV.non]]++[SO.lst (j7 (cs0 es.length))]++[SO.lst []]);rw[N,P];generalize S++[SO.lst [SV.non]]++[SO.lst (j7 (cs0 es.length))]++[SO.lst []]=S3 at *;generalize a0:S.length=h at *;refine⟨_,rfl,_,_,rfl,rfl,_,rfl,_,rfl,⟨by rw[Y4];omega,by rw[Y4];omega⟩,?_⟩;refine y8 (m9 z _) (λi D b=>∃(c:Nat) (E F:Option SV),D=[aA (webS n es),aA (.int (H:Nat)),aA (.loc c),aA (.loc (h+2)),E,F]/\On (h+2) S3 b/\c≠h+2/\h<=c/\b[c]?=aA (.lst (j7 (AK es H i).1))/\b[h+2]?=aA (.lst ((AK es H i).2.map Ad))) ⟨h+1,aB,aB,rfl,On.refl _ _,by omega,by omega,L,M⟩ (λ_ _ _ _=>trivial) ?_ ?_
 ·rintro i x D b R ⟨c,E,F,rfl,O,T,cm,d,g⟩;have o:i<es.length:=by have:=(gM R).1;rw[r6,Y4]at this;omega
  obtain⟨rfl,hi⟩:=u7 R;rw[Zh]at hi ⊢;obtain⟨k1,k2,u,k4,k5,k6⟩:=ok i (by omega);have v:=k5 i (YF _) o;obtain⟨s1,s2,s3⟩:=DE a k u o v C t.1;have l1:=Ms a k u o v C t;have U:=Ee (n:=n) (H:=H) (cs:=(AK es H i).1) o;unfold L5 at U;rw[iG v]at U;have bl:i * (es.length+1)<=60 * 61:=ZW (by omega) (by omega);refine⟨_,rfl,_,rfl,_,rfl,_,rfl,Y (Hv.loc d) u a K k o v t B λl S4 w ll V=>?_⟩;refine⟨_,rfl,_,rfl,_,rfl,A (w.keep _ _ d) V (by omega) u a K k s1 λlp W S5 G h5 I p=>?_⟩;obtain⟨r,s⟩:∃ r,W[(w6 es (AK es H i).1 i H).length - 1]?=aA r:=⟨_,Y6 (by omega)⟩
  obtain⟨r1,X⟩:=p _ r s;rw[show(w6 es (AK es H i).1 i H).length - 1+1=(w6 es (AK es H i).1 i H).length by omega,Yk]at X;have la:atI (W.map SV.loc) (-1)=aA (.loc r):=Ml (by rw[Y4,I,YA,s];rfl);refine⟨_,_,f9 h5,la,?_⟩;have s4:=(gM g).1;have g4:=w.len;have j:=G.keep _ _ (w.keep _ _ g);have J:=G.keep _ _ V;refine⟨_,rfl,⟨_,_,rfl,j⟩,_,rfl,_,_,j,J,by rw[Y4,Y4];show _<=100000;omega,?_⟩;refine⟨r,_,_,rfl,(O.trans (VQ (w.trans G))).tape,by omega,by omega,by rw[AC (by omega)];exact X,?_⟩;rw[t9 j];show _=aA (SO.lst (((AK es H i).2++w6 es (AK es H i).1 i H).map Ad));rw[YN]
 ·rintro D b ⟨c,E,F,rfl,O,T,cm,d,g⟩;rw[r6,Y4,show((es.length:Int) - 0).toNat=es.length by omega]at d g;exact⟨_,rfl,_,rfl,by show 2<=100000;decide,q c (h+2) b (IC G3 O (by omega)) (by omega) (by omega) T d g⟩
end
def Hg.cut{L H:Nat}{es:EE}{cs b:List Nat}(g:Hg L es cs)(j:H<=1000)(h:b.length=es.length)(c:∀ u,u<es.length->hu b u=if hu cs u<H then hu cs u else 1000+u):Hg H es b:=by
 refine⟨⟨h,λt u y f a e=>?_⟩,λu d=>?_⟩
 ·have i:=f.lt;have d:=a.lt;rw[c t i,c u d]at e;by_cases z:hu cs t<H
  ·rw[iP z]at e;by_cases w:hu cs u<H
   ·rw[iP w]at e;exact g.P.one t u y f a e
   ·rw[iG w]at e;omega
  ·rw[iG z]at e;by_cases w:hu cs u<H
   ·rw[iP w]at e;omega
   ·rw[iG w]at e;omega
 ·rw[c u d];by_cases z:hu cs u<H
  ·rw[iP z];exact .inl z
  ·rw[iG z];exact .inr rfl
section
variable{Δ:Nat->Sn}
def GT(s:Sn):Prop:=∀{n:Nat} {t:Int} {es:EE} {S:Sto} {Q:QE},Q (.bl (decide (0<=t)&&decide (t<es.length))) S->s [webS n es,.int t] S Q
def JZ{k:Nat}(a:Ch (Δ k)){D:Df}(b:D.body=GG k)(c:D.N.length=2)(d:D.ps.length=2):GT (i5 Δ D):=by
 intro n t e S Q q;unfold i5;rw[b,c];refine⟨d.symm,_,rfl,a ⟨_,rfl,ifT rfl ⟨_,rfl,_,rfl,?_⟩⟩⟩;refine ifD (λz=>⟨_,rfl,_,_,rfl,rfl,_,rfl,?_⟩) (λz=>?_)
 ·rw[decide_eq_true z,A06]at q;show Q (.bl (decide (t<(e.map pairS).length))) S;rw[Y4];exact q
 ·rw[decide_eq_false z,A1n]at q;exact q
def GU{k:Nat}{x m:Str}{c:XCls}(a:BO (Δ k)){D:Df}(b:D.body=Pw k x m c)(d:D.N.length=2)(e:D.ps.length=2):CQ (i5 Δ D):=by
 intro n p f S Q h q;unfold i5;rw[b,d];exact⟨e.symm,_,rfl,_,rfl,a h ⟨_,rfl,ifF rfl q⟩⟩
def Ja(c:XCls)(s:Sn):Prop:=∀{n:Nat} {t:Int} {es:EE} {S:Sto} {Q:QE},(¬ (0<=t/\t<es.length)->Q (.exc c) S)->(0<=t->t<es.length->Q (.tup [.non]) S)->s [webS n es,.int t] S Q
def Ve{k:Nat}{x m:Str}{c:XCls}(b:GT (Δ k))(d:k<1000000){D:Df}(a:D.body=Pw k x m c)(e:D.N.length=2)(f:D.ps.length=2):Ja c (CH Δ D):=by
 intro n t g S Q h i;refine Dk (by rw[a];rfl) ?_;unfold i5;rw[a,e];refine⟨f.symm,_,rfl,_,rfl,?_⟩;rw[AG (YG d)];refine b ⟨_,rfl,?_⟩;refine ifB (λz=>⟨c,rfl,h λy=>?_⟩) (λz=>i ?_ ?_)
 ·rw[decide_eq_true y.1,decide_eq_true y.2]at z;cases z
 ·by_cases y:(0:Int)<=t
  ·exact y
  ·rw[decide_eq_false y]at z;cases z
 ·by_cases y:t<(g.length:Int)
  ·exact y
  ·rw[decide_eq_false y,A1p]at z;cases z
noncomputable def Q8(a:Nat)(x m:Str)(c:XCls):List Stm:=[.iff (.cmp .Lt vK (.call a (vA vJ))) [.rse x c (.c (.str m))] []]
def LC(c:XCls)(s:Sn):Prop:=∀{n H m:Nat} {es:EE} {S:Sto} {Q:QE},(∀ e∈es,e.1<e.2/\e.2<n)->n<=1000->es.length<=1000->IsTh es m->(H<mostN es n+m->∀ a,Gw S a->Q (.exc c) a)->(mostN es n+m<=H->∀ a,Gw S a->Q (.tup [.non]) a)->s [webS n es,.int (H:Nat)] S Q
def XU{a:Nat}{x m:Str}{c:XCls}(i:Ea (Δ a))(j:a<1000000){D:Df}(f:D.body=Q8 a x m c)(k:D.N.length=2)(l:D.ps.length=2):LC c (CH Δ D):=by
 intro n H m t S Q b o p q r s;refine Dk (by rw[f];rfl) ?_;unfold i5;rw[f,k];refine⟨l.symm,_,rfl,_,rfl,?_⟩;rw[AG (YG j)];refine i b o p λu g d h=>⟨_,rfl,?_⟩
 have e:=d.uniq q;subst e;exact ifD (λz=>⟨c,rfl,r (by omega) g h⟩) (λz=>s (by omega) g h)
noncomputable def Q9(a b c:Nat):List Stm:=[.exx a (vB vJ vM),.exx b (vB vJ vL),.iff kT [.ret kG] [],.ret (.call c (vD vJ vK vM vL))]
def QA(b c:XCls)(s:Sn):Prop:=∀{n H m:Nat} {t:Int} {w:SV} {es:EE} {cs:List Nat} {S:Sto} {Q:QE},Hv S w cs->Hg H es cs->(∀ e∈es,e.1<e.2/\e.2<n)->n<=1000->es.length<=60->H<=1000->IsTh es m->(¬ (0<=t/\t<es.length)->Q (.exc b) S)->(0<=t->t<es.length->H<mostN es n+m->∀ a,Gw S a->Q (.exc c) a)->(0<=t->t<es.length->mostN es n+m<=H->∀ v a,Gw S a->Q (.tup [v]) a)->s [webS n es,w,.int t,.int (H:Nat)] S Q
def XV{r f c:Nat}{h i:XCls}(E:Ja h (Δ (tz+r)))(F:LC i (Δ (tz+f)))(G:Bs (Δ c))(I:c<1000000){D:Df}(s:D.body=Q9 r f c)(J:D.N.length=4)(K:D.ps.length=4):QA h i (CH Δ D):=by
 intro n H m t w L cs S Q o g b M O R u T U v;refine Dk (by rw[s];rfl) ?_;have x:∀ k A,setE Δ A (tz+k)=Δ (tz+k):=λk A=>AG (show 2000000+k≠1000000 by omega);unfold i5;rw[s,J];refine⟨K.symm,_,rfl,_,rfl,?_⟩;unfold wCx;rw[x];refine E (λz=>⟨h,rfl,T z⟩) λd p=>?_;obtain⟨j,rfl⟩:=Zj d;have B:j<L.length:=by omega
 refine⟨_,rfl,_,rfl,?_⟩;show setE Δ _ (tz+f) _ _ _;rw[x];refine F b M (by omega) u (λz C a=>⟨i,rfl,U d p z C a⟩) λz C a=>?_;have q:=Ac (cs:=cs) (t:=j) (by rw[g.P.len];exact B);have e:=AQ q;by_cases y:hu cs j<1000
 ·rw[v8 y]at e;exact⟨_,rfl,_,rfl,_,_,(o.gw a).seq,k8 e,.inl ⟨rfl,_,rfl,ifT rfl ⟨by show 0<=100000;decide,v d p z _ _ a.push⟩⟩⟩
 ·rw[y9 y]at e;refine⟨_,rfl,_,rfl,_,_,(o.gw a).seq,k8 e,.inl ⟨rfl,_,rfl,ifF rfl (j6 ?_)⟩⟩;refine⟨_,rfl,_,rfl,_,rfl,_,rfl,?_⟩;show setE Δ _ c _ _ _;rw[AG (YG I)];exact G (o.gw a) g b O R B y u z λl V W X Y=>v d p z _ V (a.trans W)
noncomputable def Tb(a kr kp:Nat):List Stm:=(.exx a (vB vJ vK))::XT kr kp
def Vf(b:XCls)(s:Sn):Prop:=∀{n H m:Nat} {es:EE} {S:Sto} {Q:QE},(∀ e∈es,e.1<e.2/\e.2<n)->n<=1000->es.length<=60->H<=1000->IsTh es m->(H<mostN es n+m->∀ a,Gw S a->Q (.exc b) a)->(mostN es n+m<=H->∀ v a,Gw S a->Q (.tup [v]) a)->s [webS n es,.int (H:Nat)] S Q
def Y0(b:∀ f,MonoN (Δ f)){c kr kp:Nat}{d:XCls}(k:LC d (Δ (tz+c)))(l:Bs (Δ kr))(e:C6 (Δ kp))(o:kr<1000000)(p:kp<1000000){D:Df}(h:D.body=Tb c kr kp)(q:D.N.length=6)(r:D.ps.length=2):Vf d (CH Δ D):=by
 intro n H m y S Q a s t u i v w;refine Dk (by rw[h];rfl) ?_;unfold i5;rw[h,q];refine⟨r.symm,_,rfl,_,rfl,?_⟩;unfold wCx;rw[AG (show 2000000+c≠1000000 by omega)];refine k a s (by omega) i (λz j g=>⟨d,rfl,v z j g⟩) λz j g=>?_;exact SK (C1 b) (kr:=kr) (kp:=kp) (by rw[AG (YG o)];exact l) (by rw[AG (YG p)];exact e) a t u i z λA B C x _ _ _ _ _=>w z _ _ (g.trans x)
noncomputable def QB(a b c:Nat)(d:Str)(Dc:A1G):List Stm:=[.asg (.nm 4) vP,.tryx 6 5 4 d Dc [.iff (.cmp .Is vM vP) [.exx a (vB vJ vL)] [.exx b (vD vJ vK vM vL)]],.ret (.call c (vA vO))]
noncomputable def fewS(z:Prop)[Decidable z]:Str:=if z then "TooFew" else ""
structure ToldXSp(s:Sn):Prop where
 all:∀{n H m:Nat} {w:SV} {es:EE} {S:Sto} {Q:QE},(∀ e∈es,e.1<e.2/\e.2<n)->n<=1000->es.length<=60->H<=1000->IsTh es m->(∀ S',Gw S S'->Q (.str (fewS (H<mostN es n+m))) S')->s [webS n es,w,.non,.int (H:Nat)] S Q
 one:∀{n H m:Nat} {t:Int} {w:SV} {es:EE} {cs:List Nat} {S:Sto} {Q:QE},Hv S w cs->Hg H es cs->(∀ e∈es,e.1<e.2/\e.2<n)->n<=1000->es.length<=60->H<=1000->IsTh es m->(∀ S',Gw S S'->Q (.str (if 0<=t/\t<es.length then fewS (H<mostN es n+m) else "NoTie")) S')->s [webS n es,w,.int t,.int (H:Nat)] S Q
def QC{B C f:Nat}{O:Str}{Dc:A1G}{i d:XCls}(P:Vf d (Δ (tz+B)))(R:QA i d (Δ (tz+C)))(j:GP (Δ f))(T:Dc∈i.un)(E:Dc∈d.un)(U:Px i 1)(F:Px d 4){D:Df}(I:D.body=QB B C f O Dc)(J:D.N.length=6)(K:D.ps.length=4):ToldXSp (i5 Δ D):=by
 have L:∀ k M,setE Δ M (tz+k)=Δ (tz+k):=λk M=>AG (show 2000000+k≠1000000 by omega);have a:∀{Q:QE} {S:Sto} (v:SV) {p:EnvS},p[4]?=aA (aA v)->Δ f [v] S Q->wSs Δ [.ret (.call f (vA vO))] (u8 Q) p S:=λv p h q=>⟨v,h,q⟩
 refine⟨?_,?_⟩
 ·intro n H m w V S Q e r s u x q;unfold i5;rw[I,J];refine⟨K.symm,?_⟩;refine⟨λc b=>Dc∈c.un/\wSs Δ [.ret (.call f (vA vO))] (u8 Q) ((YR 6 aB).set 4 (aA (.exc c))) b,λc b h=>h,?_⟩;refine⟨_,rfl,.inl ⟨rfl,_,rfl,ifT rfl ⟨_,rfl,_,rfl,?_⟩⟩⟩;unfold wCx;rw[L];refine P e r s u x (λz b G=>?_) (λz v b G=>?_)
  ·refine⟨d,rfl,E,a (.exc d) rfl (j.2 F (by decide) λl o=>?_)⟩;have:=q l (G.trans o);unfold fewS at this;rw[iP z]at this;exact this
  ·refine j6 (Δ:=Δ) (j6 (Δ:=Δ) (j6 (Δ:=Δ) (a .non rfl (j.1 ?_))));have:=q b G;unfold fewS at this;rw[iG (by omega)]at this;exact this
 ·intro n H m t w V X S Q W g e r s u x q;unfold i5;rw[I,J];refine⟨K.symm,?_⟩;refine⟨λc b=>Dc∈c.un/\wSs Δ [.ret (.call f (vA vO))] (u8 Q) ((YR 6 aB).set 4 (aA (.exc c))) b,λc b h=>h,?_⟩;refine⟨_,rfl,.inl ⟨rfl,_,rfl,ifF rfl ⟨_,rfl,_,rfl,_,rfl,_,rfl,?_⟩⟩⟩;unfold wCx;rw[L];refine R W g e r s u x (λz=>?_) (λy A z b G=>?_) (λy A z v b G=>?_)
  ·refine⟨i,rfl,T,a (.exc i) rfl (j.2 U (by decide) λl o=>?_)⟩;have:=q l o;rw[iG z]at this;exact this
  ·refine⟨d,rfl,E,a (.exc d) rfl (j.2 F (by decide) λl o=>?_)⟩;have:=q l (G.trans o);rw[iP ⟨y,A⟩]at this;unfold fewS at this;rw[iP z]at this;exact this
  ·refine j6 (Δ:=Δ) (j6 (Δ:=Δ) (j6 (Δ:=Δ) (a .non rfl (j.1 ?_))));have:=q b G;rw[iP ⟨y,A⟩]at this;unfold fewS at this;rw[iG (by omega)]at this;exact this
end
end Rf
namespace Hue
open PySem L2 Rf
noncomputable def top(i:Nat):Stmt:=PySem.Challenge.pw_huedties_k24_too_few_hues.main.body.getD i (.Pass ⟨0,0,0,0⟩)
def DN:XCls:=⟨24,[],[]⟩
noncomputable def Bv:XCls:=⟨49,[24],[("NoPlace",37,aD),("NoTie",49,aC),("NoRow",61,aD),("NoFan",73,aD),("TooFew",85,aD),("NoStep",104,aD),("NotTwoSides",123,aD),("ShortList",142,aD),("BadRow",161,aD)]⟩
noncomputable def Ak:XCls:=⟨85,[24],[("NoPlace",37,aD),("NoTie",49,aD),("NoRow",61,aD),("NoFan",73,aD),("TooFew",85,aC),("NoStep",104,aD),("NotTwoSides",123,aD),("ShortList",142,aD),("BadRow",161,aD)]⟩
noncomputable def cts:List (Str×XCls):=[("HueError",DN),("NoTie",Bv),("TooFew",Ak)]
noncomputable def b0:List Stm:=JK
noncomputable def d0:Df:=⟨"is_number",top 12,["thing"],["thing"],b0⟩
def b1:List Stm:=XM
noncomputable def d1:Df:=⟨"is_listed",top 13,["thing"],["thing"],b1⟩
noncomputable def b2:List Stm:=FP 0
noncomputable def d2:Df:=⟨"has_place",top 15,["web","place"],["web","place"],b2⟩
noncomputable def b3:List Stm:=GG 0
noncomputable def d3:Df:=⟨"has_tie",top 16,["web","tie"],["web","tie"],b3⟩
noncomputable def b4:List Stm:=P8 2
noncomputable def d4:Df:=⟨"check_place",top 17,["web","place"],["web","place"],b4⟩
noncomputable def b5:List Stm:=Pw 3 "NoTie" "the web has no such tie" Bv
noncomputable def d5:Df:=⟨"check_tie",top 18,["web","tie"],["web","tie"],b5⟩
noncomputable def b6:List Stm:=Kb 4
noncomputable def d6:Df:=⟨"ties_at",top 19,["web","place"],["web","place"],b6⟩
noncomputable def b7:List Stm:=TD
noncomputable def d7:Df:=⟨"most_at",top 20,["web"],["web","counts","one","other"],b7⟩
noncomputable def b8:List Stm:=Po
noncomputable def d8:Df:=⟨"thickest",top 21,["web"],["web","counts","ends"],b8⟩
noncomputable def b9:List Stm:=Kx 7 8
noncomputable def d9:Df:=⟨"enough",top 22,["web"],["web"],b9⟩
noncomputable def b10:List Stm:=Kc 5
noncomputable def d10:Df:=⟨"far_end",top 23,["web","tie","place"],["web","tie","place","one","other"],b10⟩
noncomputable def b11:List Stm:=Q2
noncomputable def d11:Df:=⟨"meets",top 24,["web","one","other"],["web","one","other"],b11⟩
noncomputable def b12:List Stm:=TJ 0
noncomputable def d12:Df:=⟨"is_hue",top 26,["thing"],["thing"],b12⟩
noncomputable def b13:List Stm:=Kk 1 12 14
noncomputable def d13:Df:=⟨"is_hueing",top 27,["web","thing"],["web","thing"],b13⟩
noncomputable def b14:List Stm:=PN
noncomputable def d14:Df:=⟨"clash_of",top 28,["web","row"],["web","row","first","clashes","tie","ends","hue","place","earlier"],b14⟩
noncomputable def b15:List Stm:=Ko 6
noncomputable def d15:Df:=⟨"hues_at",top 29,["web","hueing","place"],["web","hueing","place"],b15⟩
noncomputable def b16:List Stm:=Pc 15
noncomputable def d16:Df:=⟨"free_at",top 30,["web","hueing","place","hues"],["web","hueing","place","hues","taken"],b16⟩
noncomputable def b17:List Stm:=TK 6
noncomputable def d17:Df:=⟨"tie_of_hue",top 32,["web","hueing","place","hue"],["web","hueing","place","hue","tie"],b17⟩
noncomputable def b18:List Stm:=Km
noncomputable def d18:Df:=⟨"check_unlike",top 33,["one","other"],["one","other"],b18⟩
noncomputable def b19:List Stm:=TL 4 18 17 10
noncomputable def d19:Df:=⟨"row_from",top 34,["web","hueing","place","one","other"],["web","hueing","place","one","other","row","tie"],b19⟩
noncomputable def b20:List Stm:=TM 18 3 13
noncomputable def d20:Df:=⟨"exchanged",top 35,["web","hueing","ties","one","other"],["web","hueing","ties","one","other","changed","tie"],b20⟩
def b21:List Stm:=Ta 3
noncomputable def d21:Df:=⟨"tie_has_hue",top 37,["web","hueing","tie"],["web","hueing","tie"],b21⟩
noncomputable def b22:List Stm:=Pa 3
noncomputable def d22:Df:=⟨"tie_lacks_hue",top 38,["web","hueing","tie"],["web","hueing","tie"],b22⟩
noncomputable def b23:List Stm:=TR 13
noncomputable def d23:Df:=⟨"with_hues",top 39,["web","hueing","given"],["web","hueing","given","changed","tie","hue"],b23⟩
noncomputable def b24:List Stm:=TU 22 12 23
noncomputable def d24:Df:=⟨"after_hue",top 40,["web","hueing","tie","hue"],["web","hueing","tie","hue"],b24⟩
noncomputable def b25:List Stm:=[.iff (.not (.call 21 (vC vJ vK vM))) [.ret vP] [],.ret (.call 23 (vC vJ vK (.lst (vA (.tup (vB vM vP))))))]
noncomputable def d25:Df:=⟨"after_drop",top 41,["web","hueing","tie"],["web","hueing","tie"],b25⟩
noncomputable def b26:List Stm:=Q6 21 22 11 23
noncomputable def d26:Df:=⟨"after_move",top 42,["web","hueing","tie","other"],["web","hueing","tie","other"],b26⟩
noncomputable def b27:List Stm:=TN 12 19 20
noncomputable def d27:Df:=⟨"after_row",top 43,["web","hueing","place","one","other"],["web","hueing","place","one","other"],b27⟩
noncomputable def b28:List Stm:=JP 24 25 26 27
noncomputable def d28:Df:=⟨"after_step",top 44,["web","hueing","step"],["web","hueing","step","word"],b28⟩
noncomputable def b29:List Stm:=TQ 28
noncomputable def d29:Df:=⟨"done_step",top 45,["web","hueing","step"],["web","hueing","step","changed"],b29⟩
noncomputable def b30:List Stm:=Kp 28
noncomputable def d30:Df:=⟨"played",top 46,["web","hueing","steps"],["web","hueing","steps","told","now","at","step"],b30⟩
noncomputable def b31:List Stm:=TZ
noncomputable def d31:Df:=⟨"next_of_fan",top 48,["hueing","fan","around","free"],["hueing","fan","around","free","there","tie","back","hues"],b31⟩
noncomputable def b32:List Stm:=Pr 10 6 16 31
noncomputable def d32:Df:=⟨"fan_of",top 49,["web","hueing","tie","place","hues"],["web","hueing","tie","place","hues","around","fan","free","pair","far"],b32⟩
noncomputable def b33:List Stm:=IJ
noncomputable def d33:Df:=⟨"turning",top 50,["fan","at","hue"],["fan","at","hue","way","back","steps"],b33⟩
noncomputable def b34:List Stm:=Ky 16 10 33
noncomputable def d34:Df:=⟨"turned",top 51,["web","hueing","fan","place","hues"],["web","hueing","fan","place","hues","own","at","tie","back","free","shared"],b34⟩
noncomputable def b35:List Stm:=Kz 10 16
noncomputable def d35:Df:=⟨"shared_hue",top 52,["web","hueing","fan","place","hues"],["web","hueing","fan","place","hues","owner","tie","back","far","hue"],b35⟩
noncomputable def b36:List Stm:=IM 35 16
noncomputable def d36:Df:=⟨"freeing_row",top 53,["web","hueing","fan","place","hues"],["web","hueing","fan","place","hues","hue","first","own"],b36⟩
noncomputable def b37:List Stm:=L6 32 34 36 29
noncomputable def d37:Df:=⟨"steps_to_hue",top 54,["web","hueing","tie","hues"],["web","hueing","tie","hues","place","fan","steps","row"],b37⟩
noncomputable def b38:List Stm:=Q8 9 "TooFew" "fewer hues than most_at and thickest together" Ak
noncomputable def d38:Df:=⟨"check_enough",top 55,["web","hues"],["web","hues"],b38⟩
noncomputable def b39:List Stm:=Q9 5 38 37
noncomputable def d39:Df:=⟨"hued_in",top 56,["web","hueing","tie","hues"],["web","hueing","tie","hues"],b39⟩
noncomputable def b40:List Stm:=Tb 38 37 30
noncomputable def d40:Df:=⟨"all_hued",top 57,["web","hues"],["web","hues","hueing","steps","tie","added"],b40⟩
noncomputable def b41:List Stm:=T9
noncomputable def d41:Df:=⟨"_law_tape",top 59,["_law_script","_law_k"],["_law_script","_law_k","_law_cell","_law_digits"],b41⟩
noncomputable def b42:List Stm:=TB
noncomputable def d42:Df:=⟨"_law_draw",top 60,["_law_tape_here","_law_many"],["_law_tape_here","_law_many","_law_found","_law_once"],b42⟩
noncomputable def b43:List Stm:=JJ 42
noncomputable def d43:Df:=⟨"_law_pairs_by",top 61,["_law_tape_here","_law_great"],["_law_tape_here","_law_great","_law_way","_law_many","_law_found","_law_turn","_law_one","_law_k","_law_sides"],b43⟩
noncomputable def b44:List Stm:=VO 42 43
noncomputable def d44:Df:=⟨"_law_web",top 62,["_law_tape_here","_law_great"],["_law_tape_here","_law_great","_law_many","_law_pairs","_law_ties","_law_one","_law_other"],b44⟩
noncomputable def b45:List Stm:=TF
noncomputable def d45:Df:=⟨"_law_meet",top 63,["_law_web_here","_law_one","_law_other"],["_law_web_here","_law_one","_law_other"],b45⟩
noncomputable def b46:List Stm:=Kh
noncomputable def d46:Df:=⟨"_law_count",top 64,["_law_web_here","_law_place"],["_law_web_here","_law_place"],b46⟩
noncomputable def b47:List Stm:=L8 "_law_web_here" 46
noncomputable def d47:Df:=⟨"_law_most",top 65,["_law_web_here"],["_law_web_here"],b47⟩
noncomputable def b48:List Stm:=LA "_law_web_here"
noncomputable def d48:Df:=⟨"_law_thickest",top 66,["_law_web_here"],["_law_web_here"],b48⟩
noncomputable def b49:List Stm:=IP "_law_web_here" 42 45
noncomputable def d49:Df:=⟨"_law_within",top 67,["_law_tape_here","_law_web_here","_law_hues"],["_law_tape_here","_law_web_here","_law_hues","_law_found","_law_tie","_law_taken","_law_free"],b49⟩
noncomputable def b50:List Stm:=Py
noncomputable def d50:Df:=⟨"_law_class",top 68,["_law_caught"],["_law_caught","_law_fits","_law_names"],b50⟩
noncomputable def b51:List Stm:=QB 40 39 50 "HueError" 24
noncomputable def d51:Df:=⟨"_law_told",top 69,["_law_web_here","_law_hueing","_law_tie","_law_hues"],["_law_web_here","_law_hueing","_law_tie","_law_hues","_law_caught","error"],b51⟩
noncomputable def b52:List Stm:=[.loop (.nm 1) (.rng1 (.op .Add vN (.bi .min (vB kC (.bi .len (vA vJ)))))) [.asg (.nm 2) (.call 41 (vB vJ vK)),.asg (.nm 3) (.call 44 (vB vM (.cmp .Eq (.call 42 (vB vM (.c (.int 8)))) vQ))),.asg (.nm 4) (.op .Add (.call 47 (vA vL)) (.call 48 (vA vL))),.asg (.nm 5) (.call 49 (vC vM vL vO)),.asg (.nm 6) (.bi .list (vA vR)),.loop (.nm 7) (.seq (.srtset (.lst (vG vQ vN (.op .Sub vO vY) (.op .Sub vO vN) vO (.op .Add vO vN) (.c (.int 100)))))) [.asg (.nm 8) kK,.iff kO [.ret vW] [],.asg (.nm 9) (.comp ["_law_hue"] ["_law_hues"] [7] (.nm 0) (.seq vR) .no kS),.loop (.nm 10) (.seq (.lst (vC (.neg vN) kF (.op .Add kF kB)))) [.iff kM [.ret vW] []],.loop (.nm 10) (.rng1 kF) [.iff kP [.ret vW] []]],.iff (.cmp .NotEq vR vS) [.ret vW] []],.ret (.c (.bl aC))]
noncomputable def d52:Df:=⟨"law",top 70,["_law_script"],["_law_script","_law_k","_law_tape_here","_law_web_here","_law_least","_law_hueing","_law_kept","_law_hues","_law_due","_law_some","_law_tie"],b52⟩
noncomputable def prog:List Df:=[d0,d1,d2,d3,d4,d5,d6,d7,d8,d9,d10,d11,d12,d13,d14,d15,d16,d17,d18,d19,d20,d21,d22,d23,d24,d25,d26,d27,d28,d29,d30,d31,d32,d33,d34,d35,d36,d37,d38,d39,d40,d41,d42,d43,d44,d45,d46,d47,d48,d49,d50,d51,d52]
def Ef:prog.all (FN cts (prog.map (·.name)))=aC:=by decide +kernel
noncomputable abbrev Wp:=W prog
def hW(d:Nat):∀ f,MonoN (Wp d f):=DA d
def hl:prog.length<1000000:=by decide
def s0(d:Nat):Ch (Wp (d+1) 0):=P9 (Δ:=Wp d) (D:=d0) rfl rfl rfl
def g0(d:Nat):VU (Wp (d+1) 0):=Ro (Δ:=Wp d) (D:=d0) rfl rfl rfl
def s1(d:Nat):VV (Wp (d+1) 1):=Rq (Δ:=Wp d) (D:=d1) rfl rfl rfl
def s2(d:Nat):CP (Wp (d+2) 2):=Hz (Δ:=Wp (d+1)) (D:=d2) (s0 d) rfl rfl rfl
def s3(d:Nat):BO (Wp (d+2) 3):=MS (Δ:=Wp (d+1)) (D:=d3) (s0 d) rfl rfl rfl
def s4(d:Nat):Ag (Wp (d+3) 4):=Es (Δ:=Wp (d+2)) (D:=d4) (s2 d) rfl rfl rfl
def s5(d:Nat):CQ (Wp (d+3) 5):=GU (Δ:=Wp (d+2)) (D:=d5) (s3 d) rfl rfl rfl
def s6(d:Nat):Bn (Wp (d+4) 6):=MU (Δ:=Wp (d+3)) (D:=d6) (hW _) (s4 d) rfl rfl rfl
def s7(d:Nat):JM (Wp (d+1) 7):=Rn (Δ:=Wp d) (D:=d7) (hW _) rfl rfl rfl
def s8(d:Nat):Cn (Wp (d+1) 8):=Pp (Δ:=Wp d) (D:=d8) (hW _) rfl rfl rfl
def s9(d:Nat):Ea (Wp (d+2) 9):=Mg (Δ:=Wp (d+1)) (D:=d9) (s7 d) (s8 d) rfl rfl rfl
def s10(d:Nat):As (Wp (d+4) 10):=MV (Δ:=Wp (d+3)) (D:=d10) (s5 d) rfl rfl rfl
def s12(d:Nat):PP (Wp (d+2) 12):=Rs (Δ:=Wp (d+1)) (D:=d12) (g0 d) rfl rfl rfl
def s14(d:Nat):JN (Wp (d+1) 14):=MY (Δ:=Wp d) (D:=d14) (hW _) rfl rfl rfl
def s13(d:Nat):Da (Wp (d+3) 13):=JO (Δ:=Wp (d+2)) (D:=d13) (hW _) (s1 (d+1)) (s12 d) (s14 (d+1)) rfl rfl rfl
def s15(d:Nat):DC (Wp (d+5) 15):=JR (Δ:=Wp (d+4)) (D:=d15) (hW _) (s6 d) rfl rfl rfl
def s16(d:Nat):C5 (Wp (d+6) 16):=Pg (Δ:=Wp (d+5)) (D:=d16) (hW _) (s15 d) rfl rfl rfl
def s17(d:Nat):Dh (Wp (d+5) 17):=Pd (Δ:=Wp (d+4)) (D:=d17) (hW _) (s6 d) rfl rfl rfl
def s18(d:Nat):Cl (Wp (d+1) 18):=MZ (Δ:=Wp d) (D:=d18) rfl rfl rfl
def s19(d:Nat):JQ (Wp (d+6) 19):=Rx (Δ:=Wp (d+5)) (D:=d19) (hW _) (s4 (d+2)) (s18 (d+4)) (s17 d) (s10 (d+1)) rfl rfl rfl
def s20(d:Nat):GL (Wp (d+4) 20):=Pf (Δ:=Wp (d+3)) (D:=d20) (hW _) (s18 (d+2)) (s3 (d+1)) (s13 d) rfl rfl rfl
def s27(d:Nat):AW (Wp (d+7) 27) λp a b=>[.int (p:Nat),.int (a:Nat),.int (b:Nat)]:=Pm (Δ:=Wp (d+6)) (D:=d27) (s12 (d+4)) (s19 d) (s20 (d+2)) rfl rfl rfl
def s28(d:Nat):AW (Wp (d+8) 28) λp a b=>[Ad (.row p a b)]:=FT (Δ:=Wp (d+7)) (D:=d28) (s27 d) rfl rfl rfl
def s29(d:Nat):AW (Wp (d+9) 29) λp a b=>[Ad (.row p a b)]:=Pn (Δ:=Wp (d+8)) (D:=d29) (s28 d) rfl rfl rfl
def s11(d:Nat):GQ (Wp (d+1) 11):=Q3 (Δ:=Wp d) (D:=d11) (hW _) rfl rfl rfl
def s21(d:Nat):JX (Wp (d+3) 21):=SJ (Δ:=Wp (d+2)) (D:=d21) (s3 d) rfl rfl rfl
def s22(d:Nat):De (Wp (d+3) 22):=Pb (Δ:=Wp (d+2)) (D:=d22) (s3 d) rfl rfl rfl
def s23(d:Nat):Dl (Wp (d+4) 23):=Q4 (Δ:=Wp (d+3)) (D:=d23) (hW _) (s13 d) rfl rfl rfl
def s24(d:Nat):StW (Wp (d+5) 24) JY Mp:=Q5 (Δ:=Wp (d+4)) (D:=d24) (s22 (d+1)) (s12 (d+2)) (s23 d) rfl rfl rfl
def s26(d:Nat):StW (Wp (d+5) 26) GR Mp:=Mq (Δ:=Wp (d+4)) (D:=d26) (s21 (d+1)) (s22 (d+1)) (s11 (d+3)) (s23 d) rfl rfl rfl
def a28(d:Nat):Q0 (Wp (d+8) 28):=Mr (Δ:=Wp (d+7)) (D:=d28) (s24 (d+2)) (s26 (d+2)) (s27 d) rfl rfl rfl
def s30(d:Nat):C6 (Wp (d+9) 30):=JW (Δ:=Wp (d+8)) (D:=d30) (hW _) (a28 d) rfl rfl rfl
def s31(d:Nat):JS (Wp (d+1) 31):=SE (Δ:=Wp d) (D:=d31) (hW _) rfl rfl rfl
def s32(d:Nat):Ps (Wp (d+7) 32):=Vb (Δ:=Wp (d+6)) (D:=d32) (hW _) (s10 (d+2)) (s6 (d+2)) (s16 d) (s31 (d+5)) rfl rfl rfl
def s33(d:Nat):DF (Wp (d+1) 33):=JT (Δ:=Wp d) (D:=d33) (hW _) rfl rfl rfl
def s34(d:Nat):Eb (Wp (d+7) 34):=Mi (Δ:=Wp (d+6)) (D:=d34) (hW _) (s16 d) (s10 (d+2)) (s33 (d+5)) rfl rfl rfl
def s35(d:Nat):Ec (Wp (d+7) 35):=Mj (Δ:=Wp (d+6)) (D:=d35) (hW _) (s10 (d+2)) (s16 d) rfl rfl rfl
def s36(d:Nat):DG (Wp (d+8) 36):=JU (Δ:=Wp (d+7)) (D:=d36) (s35 d) (s16 (d+1)) rfl rfl rfl
def s37(d:Nat):Bs (Wp (d+10) 37):=Mk (Δ:=Wp (d+9)) (D:=d37) (s32 (d+2)) (s34 (d+2)) (s36 (d+1)) (s29 d) rfl rfl rfl
def s41(d:Nat):P5 (Wp (d+1) 41):=Rj (Δ:=Wp d) (D:=d41) rfl rfl rfl
def s42(d:Nat):AO (Wp (d+1) 42):=Ri (Δ:=Wp d) (D:=d42) rfl rfl rfl
def s43(d:Nat):PairsSp (Wp (d+2) 43):=P6 (Δ:=Wp (d+1)) (D:=d43) (hW _) (s42 d) rfl rfl rfl
def s44(d:Nat):P7 (Wp (d+3) 44):=VP (Δ:=Wp (d+2)) (D:=d44) (hW _) (s42 (d+1)) (s43 d) rfl rfl rfl
def s45(d:Nat):PL (Wp (d+1) 45):=PM (Δ:=Wp d) (D:=d45) rfl rfl rfl
def s46(d:Nat):ET (Wp (d+1) 46):=MW (Δ:=Wp d) (D:=d46) (hW _) rfl rfl rfl
def s47(d:Nat):Ki (Wp (d+2) 47):=Mm (Δ:=Wp (d+1)) (D:=d47) (hW _) (s46 d) rfl rfl rfl
def s48(d:Nat):Cn (Wp (d+1) 48):=Mn (Δ:=Wp d) (D:=d48) (hW _) rfl rfl rfl
def z3(d:Nat):GT (Wp (d+2) 3):=JZ (Δ:=Wp (d+1)) (D:=d3) (s0 d) rfl rfl rfl
def x5(d:Nat):Ja Bv (Wp (d+3) (tz+5)):=λa b=>Dj hl (D:=d5) rfl (Ve (Δ:=Wp (d+2)) (D:=d5) (z3 d) (by decide) rfl rfl rfl a b)
def x38(d:Nat):LC Ak (Wp (d+3) (tz+38)):=λa b c e f g=>Dj hl (D:=d38) rfl (XU (Δ:=Wp (d+2)) (D:=d38) (s9 d) (by decide) rfl rfl rfl a b c e f g)
def x39(d:Nat):QA Bv Ak (Wp (d+11) (tz+39)):=λb c e f g h i j k a=>Dj hl (D:=d39) rfl (XV (Δ:=Wp (d+10)) (D:=d39) (x5 (d+7)) (x38 (d+7)) (s37 d) (by decide) rfl rfl rfl b c e f g h i j k a)
def x40(d:Nat):Vf Ak (Wp (d+11) (tz+40)):=λa b c e f g h=>Dj hl (D:=d40) rfl (Y0 (Δ:=Wp (d+10)) (D:=d40) (hW _) (x38 (d+7)) (s37 d) (s30 (d+1)) (by decide) (by decide) rfl rfl rfl a b c e f g h)
def s49(d:Nat):FV (Wp (d+2) 49):=JV (Δ:=Wp (d+1)) (D:=d49) (hW _) (s42 d) (s45 d) rfl rfl rfl
def s50(d:Nat):GP (Wp (d+1) 50):=Pz (Δ:=Wp d) (D:=d50) rfl rfl rfl
def s51(d:Nat):ToldXSp (Wp (d+12) 51):=QC (Δ:=Wp (d+11)) (D:=d51) (x40 d) (x39 d) (s50 (d+10)) (by decide) (by decide) ⟨_,_,_,_,_,_,_,_,_,rfl⟩ ⟨_,_,_,_,_,_,_,_,_,rfl⟩ rfl rfl rfl
def IQ{n:Nat}{es:EE}(h:es.length<=60):mostN es n<=es.length:=by
 rcases ER es n with z | ⟨p,_,z⟩
 ·omega
 ·have:t8 es p=(j8 es p es.length).length:=rfl;have:=EQ es p es.length;omega
def Y1:Stm:=(.asg (.nm 8) kK)
def XW:Stm:=(.iff kO [.ret vW] [])
noncomputable def QD:Stm:=(.asg (.nm 9) (.comp ["_law_hue"] ["_law_hues"] [7] (.nm 0) (.seq vR) .no kS))
noncomputable def SL:Stm:=(.loop (.nm 10) (.seq (.lst (vC (.neg vN) kF (.op .Add kF kB)))) [.iff kM [.ret vW] []])
noncomputable def rIn:Stm:=(.loop (.nm 10) (.rng1 kF) [.iff kP [.ret vW] []])
def Vg(a:Str):scS (.str a) (.str a)=aA aC:=by
 show aA (decide (a=a))=_;rw[decide_eq_true rfl]
def hs7(L:Nat):List Int:=[0,1,(L:Int) - 2,(L:Int) - 1,L,(L:Int)+1,100]
def QF(cs:List Nat):En (j7 cs) (j7 cs)=aC:=by
 unfold En j7;simp only[beq_self_eq_true,A06];rw[YX];intro p a;rw[List.zip_map']at a;obtain⟨c,_,rfl⟩:=YO.mp a;show eqF (pS c) (pS c)=aC;unfold pS;split
 ·exact decide_eq_true (rfl:((c:Nat):Int)=(c:Int))
 ·rfl
def LD{a:Str}{S:Sto}{Q:QE}(q:Q (.bl aD) S):BE .NotEq (.str a) (.str a) S Q:=by
 show sNe (.str a) (.str a) S Q;unfold sNe;rw[Vg];exact q
def SM{E:EndsS}{n L th m:Nat}{h:Int}{es:EE}{cs:List Nat}{S:Sto}{p r s v o8 G a:Option SV}(I:∀ e∈es,e.1<e.2/\e.2<n)(nn:n<=12)(el:es.length<=39)(J:IsTh es th)(hL:mostN es n+th=L)(L9:L<=200)(h9:h<=300)(g:Hg L es cs)(h5:S[m]?=aA (.lst (j7 cs)))
 (q:∀(b:Sto) (o8 G a:Option SV),Gw S b->E.nx [p,r,s,aA (webS n es),aA (.int (L:Nat)),aA (.loc m),v,aA (.int h),o8,G,a] b):wSs (Wp 12) [Y1,XW,QD,SL,rIn] E [p,r,s,aA (webS n es),aA (.int (L:Nat)),aA (.loc m),v,aA (.int h),o8,G,a] S:=by
 have cl:=g.P.len;have sl:∀ j:Nat,j<cs.length->hu cs j<L\/hu cs j=1000+j:=λj jl=>g.cod j (by omega);refine⟨by show 2<=100000;decide,_,rfl,_,rfl,?_⟩;have h8:(S++[SO.lst [SV.str "",SV.str "TooFew"]])[S.length]?=aA (.lst [SV.str "",SV.str "TooFew"]):=g9;have G1:Gw S (S++[SO.lst [SV.str "",SV.str "TooFew"]]):=(Gw.refl S).push;have K:=G1.keep _ _ h5;generalize a4:S.length=l8 at *;generalize S++[SO.lst [SV.str "",SV.str "TooFew"]]=S1 at *;refine⟨_,.str (fewS (h<(L:Int))),f9 h8,?_,?_⟩
 ·unfold fewS;by_cases z:h<(L:Int)
  ·rw[iP z,decide_eq_true z];rfl
  ·rw[iG z,decide_eq_false z];rfl
 have M:∀ H:Nat,h=(H:Int)->fewS (H<mostN es n+th)=fewS (h<(L:Int)):=λH e=>by
  unfold fewS;by_cases z:h<(L:Int)
  ·rw[iP z,iP (by omega)]
  ·rw[iG z,iG (by omega)]
 generalize hf:fewS (h<(L:Int))=w at *;show wSs (Wp 12) [XW,QD,SL,rIn] E [p,r,s,aA (webS n es),aA (.int (L:Nat)),aA (.loc m),v,aA (.int h),aA (.str w),G,a] S1
 have d:∀{D:Sto},Gw S D->D[m]?=aA (.lst (j7 cs))->wSs (Wp 12) [QD,SL,rIn] E [p,r,s,aA (webS n es),aA (.int (L:Nat)),aA (.loc m),v,aA (.int h),aA (.str w),G,a] D:=by
  intro D T a0;refine⟨_,rfl,_,f9 a0,?_⟩;refine m7 (n9 (hW _) _).2 (c8 (hW _) _).1 (λj ys f=>f=D/\∃ P:List Nat,ys=j7 P/\P.length=j/\∀ u,u<j->hu P u=if hu cs u<h.toNat then hu cs u else 1000+u) ⟨rfl,[],rfl,rfl,λu a1=>by omega⟩ (λ_ _ f z=>by rw[z.1];exact rfl) ?_ ?_
  ·rintro j x ys f k ⟨rfl,P,rfl,N,U⟩;obtain⟨c,o,rfl⟩:=GI k;have jl:=(gM o).1;have F:hu cs j=c:=by show cs.getD j 0=_;rw[Y9,o];rfl
   have ln:(j7 P).length<big:=by rw[AD];show _<100000;omega
   have y:∀ V,(V=if hu cs j<h.toNat then hu cs j else 1000+j)->∃ P':List Nat,j7 P++[pS V]=j7 P'/\P'.length=j+1/\∀ u,u<j+1->hu P' u=if hu cs u<h.toNat then hu cs u else 1000+u:=λV o=>by
    refine⟨P++[V],by unfold j7;rw[YN];rfl,by rw[Y5,N];rfl,λu a1=>?_⟩;by_cases e:u=j
    ·rw[e,<-N,GH,N];exact o
    ·rw[EV (by omega)];exact U u (by omega)
   by_cases c9:c<1000
   ·rw[v8 c9];refine⟨_,rfl,.inl ⟨rfl,_,rfl,ifT rfl ⟨_,rfl,_,rfl,_,rfl,?_⟩⟩⟩;by_cases z:(c:Int)<h
    ·have:=y c (by rw[F,iP (by omega)]);rw[v8 c9]at this;exact ifT (decide_eq_true z) ⟨_,rfl,ln,rfl,this⟩
    ·have:=y (1000+j) (by rw[F,iG (by omega)]);rw[y9 (by omega)]at this;exact ifF (decide_eq_false z) ⟨ln,rfl,this⟩
   ·rw[y9 c9];have:=y (1000+j) (by rw[F,iG (by omega)]);rw[y9 (by omega)]at this;exact⟨_,rfl,.inl ⟨rfl,_,rfl,ifF rfl (ifF rfl ⟨ln,rfl,this⟩)⟩⟩
  rintro ys f ⟨rfl,P,rfl,N,U⟩;rw[AD]at N U;have g0:Hg h.toNat es P:=g.cut (by omega) (by omega) λu ul=>U u (by omega);have h3:(f++[SO.lst (j7 P)])[f.length]?=aA (SO.lst (j7 P)):=g9;have G3:Gw S (f++[SO.lst (j7 P)]):=T.push;show wSs (Wp 12) [SL,rIn] E [p,r,s,aA (webS n es),aA (.int (L:Nat)),aA (.loc m),v,aA (.int h),aA (.str w),aA (.loc f.length),a] (f++[SO.lst (j7 P)]);generalize f.length=l9 at *;generalize f++[SO.lst (j7 P)]=A at *
  have O:∀{t:Int} {W:Sto} {Q:QE},0<=h->Gw A W->(∀ b,Gw W b->Q (.str (if 0<=t/\t<es.length then w else "NoTie")) b)->Wp 12 51 [webS n es,.loc l9,.int t,.int h] W Q:=by
   intro t W Q z X qq;obtain⟨H,e⟩:=Zj z;have g1:Hg H es P:=by rw[e]at g0;exact g0
   have:=(s51 0).one (t:=t) (Q:=Q) (Hv.loc (X.keep _ _ h3)) g1 I (by omega) (by omega) (by omega) J λb G'=>by
    rw[M H e];exact qq b G'
   rw[e];exact this
  refine⟨_,rfl,_,_,rfl,rfl,_,rfl,_,rfl,_,_,rfl,rfl,_,rfl,by show 3<=100000;decide,_,f9 g9,?_⟩;have X:Gw A (A++[SO.lst [SV.int (-1),SV.int ((es.map pairS).length:Int),SV.int (((es.map pairS).length:Int)+5)]]):=(Gw.refl A).push;show y6 _ _ _ _ [SV.int (-1),SV.int ((es.map pairS).length:Int),SV.int (((es.map pairS).length:Int)+5)] _ (A++[SO.lst [SV.int (-1),SV.int ((es.map pairS).length:Int),SV.int (((es.map pairS).length:Int)+5)]])
  refine A6 (m9 (hW _) _) (λj B S6=>(∃ a,B=[p,r,s,aA (webS n es),aA (.int (L:Nat)),aA (.loc m),v,aA (.int h),aA (.str w),aA (.loc l9),a])/\Gw (A++[SO.lst [SV.int (-1),SV.int ((es.map pairS).length:Int),SV.int (((es.map pairS).length:Int)+5)]]) S6) ⟨⟨_,rfl⟩,Gw.refl _⟩ (λ_ _ _ z=>by
   show _=_;rw[z.2.keep _ _ g9,g9]) ?_ ?_
  ·rintro j x B S6 E' l _ k ⟨⟨a,rfl⟩,R⟩
   obtain⟨t,rfl,ht⟩:∃ t:Int,x = .int t/\¬ (0<=t/\t<es.length):=by
    have Y:(es.map pairS).length=es.length:=Y4 ..;rcases YH.mp (Y7 k) with e | k
    ·exact⟨_,e,by omega⟩
    rcases YH.mp k with e | k
    ·exact⟨_,e,by omega⟩
    rcases YH.mp k with e | k
    ·exact⟨_,e,by omega⟩
    cases k
   refine⟨_,rfl,_,rfl,ifD (λz=>?_) (λz=>ifF rfl (j6 (l _ _ ⟨⟨_,rfl⟩,R⟩)))⟩;refine⟨_,rfl,_,rfl,_,rfl,_,rfl,O z (X.trans R) λZ C=>?_⟩;rw[iG ht];exact⟨_,rfl,ifF rfl (j6 (l _ _ ⟨⟨_,rfl⟩,R.trans C⟩))⟩
  ·rintro B S6 ⟨⟨a,rfl⟩,R⟩;have Y:(es.map pairS).length=es.length:=Y4 ..;have a2:=X.trans R;refine⟨_,rfl,_,_,rfl,rfl,_,rfl,_,rfl,⟨by rw[Y];omega,by rw[Y];omega⟩,?_⟩;refine A6 (m9 (hW _) _) (λj B Z=>(∃ a,B=[p,r,s,aA (webS n es),aA (.int (L:Nat)),aA (.loc m),v,aA (.int h),aA (.str w),aA (.loc l9),a])/\Gw A Z) ⟨⟨_,rfl⟩,a2⟩ (λ_ _ _ _=>trivial) ?_ ?_
   ·rintro j x B Z E' l _ k ⟨⟨a,rfl⟩,C⟩;obtain⟨rfl,F⟩:=u7 k;rw[Zh]at F ⊢;rw[Y]at F;refine⟨_,rfl,_,rfl,ifD (λz=>?_) (λz=>ifF rfl (j6 (l _ _ ⟨⟨_,rfl⟩,C⟩)))⟩;refine⟨_,rfl,_,rfl,_,rfl,_,rfl,O z C λS8 G8=>?_⟩;rw[iP ⟨by omega,by omega⟩];exact⟨_,rfl,LD ⟨_,rfl,ifF rfl (j6 (l _ _ ⟨⟨_,rfl⟩,C.trans G8⟩))⟩⟩
   ·rintro B Z ⟨⟨a,rfl⟩,C⟩;exact q _ _ _ _ (G3.trans C)
 refine⟨_,rfl,_,rfl,ifD (λz=>?_) (λz=>ifF rfl (j6 (d G1 K)))⟩;refine⟨_,rfl,_,rfl,_,rfl,?_⟩;obtain⟨H,e⟩:=Zj z
 have a3:∀(i:Int) {Q:QE},i=(H:Int)->(∀ b,Gw S1 b->Q (.str w) b)->Wp 12 51 [webS n es,.loc m,.non,.int i] S1 Q:=by
  rintro _ Q rfl qq
  exact(s51 0).all I (by omega) (by omega) (by omega) J λb G'=>by
   rw[M H e];exact qq b G'
 exact a3 h e λD T=>⟨_,rfl,LD ⟨_,rfl,ifF rfl (j6 (d (G1.trans T) (T.keep _ _ K)))⟩⟩
def law_main(ns:List Int)(h:ns.length<=63):W prog 13 52 [.ro (ns.map SV.int)] [] λx _=>x = .bl aC:=by
 show i5 (Wp 12) d52 _ _ _
 have X:∃ m:Nat,1+(if ((ns.map SV.int).length:Int)<(7:Int) then ((ns.map SV.int).length:Int) else 7)=(m:Int)/\m<=10:=by
  rw[Y4];generalize ns.length=k;refine⟨1+min k 7,?_,by omega⟩;split<;>omega
 obtain⟨m,Y,Z⟩:=X;refine⟨rfl,_,rfl,_,rfl,m,congrArg SV.int Y,⟨by omega,by omega⟩,?_⟩;refine A6 (m9 (hW _) _) (λi l S'=>∃ B C D F w y f d e c,l=[aA (.ro (ns.map SV.int)),B,C,D,F,w,y,f,d,e,c]) ⟨aB,aB,aB,aB,aB,aB,aB,aB,aB,aB,rfl⟩ (λ_ _ _ _=>trivial) ?_ ?_
 ·rintro i x l S E hE hR H ⟨B,C,D,F,w,y,f,d,e,c,rfl⟩;obtain⟨rfl,hi⟩:=u7 H;rw[Zh]at hi ⊢;refine⟨_,rfl,_,rfl,s41 11 h (by omega) λa b ha hb I=>?_⟩;have T1:TapeS (S++[SO.lst [.int a,.int b]]) S.length:=⟨a,b,g9,ha,hb,I⟩
  refine⟨_,rfl,_,rfl,s42 11 T1 (by decide) (by decide) λr S2 r0 r1 T2 O2 _=>?_⟩;refine s44 9 T2 λn o S3 J T3 O3=>?_;have el:=J.len;have nn:=J.few;have K:=J.en;refine⟨_,rfl,s47 10 (by omega) (by omega) λS4 G4=>⟨_,rfl,s48 11 (by omega) λM S5 u G5=>?_⟩⟩;have T5:=(G4.trans G5).tape T3;have ml:=IQ (n:=n) (show o.length<=60 by omega);have a0:=SA u;obtain⟨L,hL⟩:∃ L,mostN o n+M=L:=⟨_,rfl⟩
  have e4:(mostN o n:Int)+(M:Int)=((L:Nat):Int):=by omega
  show wSs (Wp 12) (_::_) E [aA (.ro (ns.map SV.int)),aA (.int (i:Nat)),aA (.loc S.length),aA (webS n o),aA (.int ((mostN o n:Int)+(M:Int))),w,y,f,d,e,c] S5;rw[e4];refine⟨_,rfl,_,rfl,_,rfl,s49 10 T5 (by omega) (by omega) λN t p T6 O6 a1 T g=>?_⟩;refine⟨_,rfl,_,f9 T,?_⟩;have v:(p++[SO.lst (j7 t)])[N]?=aA (.lst (j7 t)):=m4 T;have O:(p++[SO.lst (j7 t)])[p.length]?=aA (.lst (j7 t)):=g9;show wSs (Wp 12) (_::_) E [aA (.ro (ns.map SV.int)),aA (.int (i:Nat)),aA (.loc S.length),aA (webS n o),aA (.int (L:Nat)),aA (.loc N),aA (.loc p.length),f,d,e,c] (p++[SO.lst (j7 t)]);generalize p.length=l6 at *;generalize p++[SO.lst (j7 t)]=q at *;refine⟨_,rfl,_,rfl,_,rfl,_,rfl,by show 7<=100000;decide,_,(hs7 L),f9 g9,rfl,by simp[hs7],_,f9 g9,?_⟩;have U:Gw q (q++[SO.lst ((hs7 L).map SV.int)]++[SO.lst ((srt (Cw (hs7 L))).map SV.int)]):=(Gw.refl q).push.push;show y6 _ _ _ _ ((srt (Cw (hs7 L))).map SV.int) _ (q++[SO.lst ((hs7 L).map SV.int)]++[SO.lst ((srt (Cw (hs7 L))).map SV.int)]);have V:(q++[SO.lst ((hs7 L).map SV.int)]++[SO.lst ((srt (Cw (hs7 L))).map SV.int)])[(q++[SO.lst ((hs7 L).map SV.int)]).length]?=aA (SO.lst ((srt (Cw (hs7 L))).map SV.int)):=g9
  have s:∀ z∈srt (Cw (hs7 L)),z<=300:=λz P=>by
   have:=srtO_mem.mp P;simp only[hs7,YH,Zi,or_false]at this;omega
  generalize srt (Cw (hs7 L))=zs at *;refine A6 (m9 (hW _) _) (λj l Q=>(∃ f d e c,l=[aA (.ro (ns.map SV.int)),aA (.int (i:Nat)),aA (.loc S.length),aA (webS n o),aA (.int (L:Nat)),aA (.loc N),aA (.loc l6),f,d,e,c])/\Gw (q++[SO.lst ((hs7 L).map SV.int)]++[SO.lst (zs.map SV.int)]) Q) ⟨⟨_,_,_,_,rfl⟩,Gw.refl _⟩ (λ_ _ _ z=>(z.2.keep _ _ V).trans V.symm) ?_ ?_
  ·rintro j x l Q E' R _ H ⟨⟨f,d,e,c,rfl⟩,A⟩;obtain⟨z,P,rfl⟩:=YO.mp (Y7 H);exact SM K nn el u hL (by omega) (s z P) g ((U.trans A).keep _ _ v) λS' d e c G'=>R _ _ ⟨⟨_,_,_,_,rfl⟩,A.trans G'⟩
  ·rintro l Q ⟨⟨f,d,e,c,rfl⟩,A⟩;have G:=U.trans A;exact⟨_,rfl,_,rfl,_,_,G.keep _ _ v,G.keep _ _ O,.inl ⟨Ed _,Ed _⟩,_,rfl,ifF (by rw[QF];rfl) (j6 (Δ:=Wp 12) (j6 (Δ:=Wp 12) (hE _ _ ⟨_,_,_,_,_,_,_,_,_,_,rfl⟩)))⟩
 ·rintro l S ⟨B,C,D,F,w,y,f,d,e,c,rfl⟩;exact rfl
end Hue
namespace PySem.W.Fast
theorem tw14861691327670961510:True:=⟨⟩
theorem tw1585387240113148107:True:=⟨⟩
theorem tw17410534290007921199:True:=⟨⟩
theorem tw17327047977147006040:True:=⟨⟩
theorem tw3956088721257935750:True:=⟨⟩
theorem tw15373499244047188831:True:=⟨⟩
theorem tw10663265328841969450:True:=⟨⟩
theorem tw10067690104671457305:True:=⟨⟩
theorem tw12544379277218395721:True:=⟨⟩
theorem tw13221762749492819897:True:=⟨⟩
theorem tw10889854301459631859:True:=⟨⟩
theorem tw15646289801325657182:True:=⟨⟩
theorem tw2155850540247773469:True:=⟨⟩
theorem tw257580910100943158:True:=⟨⟩
theorem tw16270035186476803471:True:=⟨⟩
theorem tw9031357759867786263:True:=⟨⟩
theorem tw6613237408137912210:True:=⟨⟩
theorem tw14807940151991091750:True:=⟨⟩
theorem tw6696372935850101744:True:=⟨⟩
theorem tw6264418837827477085:True:=⟨⟩
theorem tw2351867668525588640:True:=⟨⟩
theorem tw18322028549817139851:True:=⟨⟩
theorem tw7099984864491845177:True:=⟨⟩
theorem tw16710482165202277279:True:=⟨⟩
theorem tw16223651219046207425:True:=⟨⟩
theorem tw17267444580972648522:True:=⟨⟩
theorem tw7404487737221997526:True:=⟨⟩
theorem tw14635380658157176257:True:=⟨⟩
theorem tw7754776992457645777:True:=⟨⟩
theorem tw7973980691303692883:True:=⟨⟩
theorem tw14812678554129731505:True:=⟨⟩
theorem tw16215719287608401664:True:=⟨⟩
theorem tw17638509634765449518:True:=⟨⟩
theorem tw13388986310196935497:True:=⟨⟩
theorem tw17701137829388522838:True:=⟨⟩
theorem tw9462322443990499600:True:=⟨⟩
theorem tw10789354408514467878:True:=⟨⟩
theorem tw14936986600248646233:True:=⟨⟩
theorem tw3146959298642598767:True:=⟨⟩
theorem tw17957358955313793160:True:=⟨⟩
theorem tw7798841857971392841:True:=⟨⟩
theorem tw15762827336095933432:True:=⟨⟩
theorem tw3422860002296361163:True:=⟨⟩
theorem tw1655516125571325118:True:=⟨⟩
theorem tw4781804037218929707:True:=⟨⟩
theorem tw11964940350703210166:True:=⟨⟩
theorem tw12665643972312060967:True:=⟨⟩
theorem tw10287587511892299535:True:=⟨⟩
theorem tw685015407264900459:True:=⟨⟩
theorem tw3201110765157255085:True:=⟨⟩
theorem tw4780853314065254197:True:=⟨⟩
theorem tw13228254277333826678:True:=⟨⟩
theorem tw13296003660548046417:True:=⟨⟩
theorem tw9195862710091745068:True:=⟨⟩
theorem tw16976315016943971885:True:=⟨⟩
theorem tw8950778019235624524:True:=⟨⟩
theorem tw6435340022456846643:True:=⟨⟩
theorem tw143978049433257367:True:=⟨⟩
theorem tw8869200951879192090:True:=⟨⟩
theorem tw12017326271706935414:True:=⟨⟩
theorem tw8437135357043988549:True:=⟨⟩
theorem tw14120657733865304428:True:=⟨⟩
theorem tw8794153947533794410:True:=⟨⟩
theorem tw2746648490812330613:True:=⟨⟩
theorem tw16989237613824532898:True:=⟨⟩
theorem tw9559465850135266987:True:=⟨⟩
theorem tw15879243964927410719:True:=⟨⟩
theorem tw8154927121761895606:True:=⟨⟩
theorem tw11224284865969258658:True:=⟨⟩
theorem tw14038440451425964082:True:=⟨⟩
theorem tw8269852161898406974:True:=⟨⟩
theorem tw3661313984993220793:True:=⟨⟩
theorem tw3753308461266088019:True:=⟨⟩
theorem tw13616663112256408248:True:=⟨⟩
theorem tw1509751264417402357:True:=⟨⟩
theorem tw11767515943237392274:True:=⟨⟩
theorem tw11801834044210638763:True:=⟨⟩
theorem tw14869792651617186916:True:=⟨⟩
theorem tw1687917755376025177:True:=⟨⟩
theorem tw15396822826815887597:True:=⟨⟩
theorem tw18339634523498455595:True:=⟨⟩
theorem tw18062745098498434639:True:=⟨⟩
theorem tw3000039789363359537:True:=⟨⟩
theorem tw10264570983356711087:True:=⟨⟩
theorem tw16595265078232158858:True:=⟨⟩
theorem tw2869090713042031534:True:=⟨⟩
theorem tw13134353764675005506:True:=⟨⟩
theorem tw15067746554218077246:True:=⟨⟩
theorem tw501173656916926740:True:=⟨⟩
theorem tw6088921155750263714:True:=⟨⟩
theorem tw801465602539476245:True:=⟨⟩
theorem tw7173778345871412975:True:=⟨⟩
theorem tw9242584385528411287:True:=⟨⟩
theorem tw6115777424335526990:True:=⟨⟩
theorem tw15514286921607335970:True:=⟨⟩
theorem tw7558410237289615630:True:=⟨⟩
theorem tw7464740781377306263:True:=⟨⟩
theorem tw11511502163951182235:True:=⟨⟩
theorem tw7392545045241612091:True:=⟨⟩
theorem tw6666870794092924181:True:=⟨⟩
theorem tw4806508744466746292:True:=⟨⟩
theorem tw1618584949261161500:True:=⟨⟩
theorem tw6679707713484435058:True:=⟨⟩
theorem tw12036588709759257058:True:=⟨⟩
theorem tw12824009620948349224:True:=⟨⟩
theorem tw10502384034299526430:True:=⟨⟩
theorem tw17714204806506877633:True:=⟨⟩
theorem tw16446636934761456948:True:=⟨⟩
theorem tw7745996529900201467:True:=⟨⟩
theorem tw4069487511369763277:True:=⟨⟩
theorem tw8557735878350684584:True:=⟨⟩
theorem tw6321000997865520162:True:=⟨⟩
theorem tw3443173506428811971:True:=⟨⟩
theorem tw10959516091435115596:True:=⟨⟩
theorem tw7438792387112482791:True:=⟨⟩
theorem tw8440395172111883965:True:=⟨⟩
theorem tw18383289531885746393:True:=⟨⟩
theorem tw11965143597020335928:True:=⟨⟩
theorem tw1893445384312577959:True:=⟨⟩
theorem tw11261106022976405864:True:=⟨⟩
theorem tw3581582219091207961:True:=⟨⟩
theorem tw2630489201251424920:True:=⟨⟩
theorem tw11795341585675916619:True:=⟨⟩
theorem tw6562769686413447190:True:=⟨⟩
theorem tw13974724139299347587:True:=⟨⟩
theorem tw14945767120980116875:True:=⟨⟩
theorem tw12376208318020450303:True:=⟨⟩
theorem tw7239394641784066855:True:=⟨⟩
theorem tw12977100588538416712:True:=⟨⟩
theorem tw4230205750615357454:True:=⟨⟩
theorem tw10588784788567163560:True:=⟨⟩
theorem tw8893462775147022239:True:=⟨⟩
theorem tw10977527089234101239:True:=⟨⟩
theorem tw1987748598273974129:True:=⟨⟩
theorem tw17692322483547776224:True:=⟨⟩
theorem tw6468240127441766727:True:=⟨⟩
theorem tw10753144987829019848:True:=⟨⟩
theorem tw13553180220613587139:True:=⟨⟩
theorem tw16975034293688174422:True:=⟨⟩
theorem tw15988111781075190737:True:=⟨⟩
theorem tw6110075688086428364:True:=⟨⟩
theorem tw898952706103027245:True:=⟨⟩
theorem tw14663631322910735356:True:=⟨⟩
theorem tw14568476306568676814:True:=⟨⟩
theorem tw10212117298815297258:True:=⟨⟩
theorem tw13262809359225241020:True:=⟨⟩
theorem tw16422275566994368329:True:=⟨⟩
theorem tw18328332041686161976:True:=⟨⟩
theorem tw17743583719574373715:True:=⟨⟩
theorem tw17058896606546685555:True:=⟨⟩
theorem tw7875729101666589404:True:=⟨⟩
theorem tw10672448030401370453:True:=⟨⟩
theorem tw5467706202560507035:True:=⟨⟩
theorem tw11815328420685837742:True:=⟨⟩
theorem tw17027264933779885:True:=⟨⟩
theorem tw14559065245503756470:True:=⟨⟩
theorem tw12420077647083971087:True:=⟨⟩
theorem tw14767951641656880500:True:=⟨⟩
theorem tw5889904154103571081:True:=⟨⟩
theorem tw4874670019050457192:True:=⟨⟩
theorem tw5728154190540077254:True:=⟨⟩
theorem tw17059697273370603535:True:=⟨⟩
theorem tw6428448656220424850:True:=⟨⟩
theorem tw9564809446565258815:True:=⟨⟩
theorem tw10966902398476403670:True:=⟨⟩
theorem tw10377943436333676027:True:=⟨⟩
theorem tw189048188087144898:True:=⟨⟩
theorem tw13266337417651305366:True:=⟨⟩
theorem tw10215245647195758423:True:=⟨⟩
theorem tw8167435184512217725:True:=⟨⟩
theorem tw14979349659481809251:True:=⟨⟩
theorem tw11789810157308846217:True:=⟨⟩
theorem tw10833071974796456529:True:=⟨⟩
theorem tw17620400943049008730:True:=⟨⟩
theorem tw5568269526990162582:True:=⟨⟩
theorem tw8609695579609155183:True:=⟨⟩
theorem tw17229589108276360174:True:=⟨⟩
theorem tw9197688908764775483:True:=⟨⟩
theorem tw6729363664787702359:True:=⟨⟩
theorem tw14702542985765482886:True:=⟨⟩
theorem tw14600239257519633459:True:=⟨⟩
theorem tw14008398402534595319:True:=⟨⟩
theorem tw12363720547493059902:True:=⟨⟩
theorem tw17558694584134911253:True:=⟨⟩
theorem tw17172315564390625165:True:=⟨⟩
theorem tw538932162594207182:True:=⟨⟩
theorem tw4410565958457803906:True:=⟨⟩
theorem tw3681979136238307783:True:=⟨⟩
theorem tw15289938574321832411:True:=⟨⟩
theorem tw12759018832566554938:True:=⟨⟩
theorem tw17604035618793127772:True:=⟨⟩
theorem tw15700274500727885039:True:=⟨⟩
theorem tw2269649763236697197:True:=⟨⟩
theorem tw7684564674149996831:True:=⟨⟩
theorem tw8938971298434311485:True:=⟨⟩
theorem tw14355149071496191808:True:=⟨⟩
theorem tw182530983904561960:True:=⟨⟩
theorem tw18341518701286461805:True:=⟨⟩
theorem tw15968097128721167802:True:=⟨⟩
theorem tw18286515903256215014:True:=⟨⟩
theorem tw13645895688219341994:True:=⟨⟩
theorem tw11594811613373194949:True:=⟨⟩
theorem tw5912543044636728184:True:=⟨⟩
theorem tw11291759017301561115:True:=⟨⟩
theorem tw4670919368089389096:True:=⟨⟩
theorem tw449578779157967183:True:=⟨⟩
theorem tw4264138102939362536:True:=⟨⟩
theorem tw8656520260821031412:True:=⟨⟩
theorem tw10906260187833434951:True:=⟨⟩
theorem tw1581532777468997239:True:=⟨⟩
theorem tw13925844517737263572:True:=⟨⟩
theorem tw17702936303736489607:True:=⟨⟩
theorem tw13638855407337326032:True:=⟨⟩
theorem tw9131049173568015450:True:=⟨⟩
theorem tw3562538346017537031:True:=⟨⟩
theorem tw17194017911363570141:True:=⟨⟩
theorem tw4379637318618658627:True:=⟨⟩
theorem tw7345927126267764898:True:=⟨⟩
theorem tw17226600962390604386:True:=⟨⟩
theorem tw11667926207487317556:True:=⟨⟩
theorem tw14657616138018223766:True:=⟨⟩
theorem tw12384039349139510892:True:=⟨⟩
theorem tw5159347291899299261:True:=⟨⟩
theorem tw9518202697402301694:True:=⟨⟩
theorem tw5552780882910157738:True:=⟨⟩
theorem tw2448123290880655305:True:=⟨⟩
theorem tw12027494322341796911:True:=⟨⟩
theorem tw11460893759294034623:True:=⟨⟩
theorem tw14796914241679552048:True:=⟨⟩
theorem tw14498709229952926656:True:=⟨⟩
theorem tw13484157126558627721:True:=⟨⟩
theorem tw10700496030559102481:True:=⟨⟩
theorem tw4639872254206339888:True:=⟨⟩
theorem tw2471449392716224134:True:=⟨⟩
theorem tw18011042077414046664:True:=⟨⟩
theorem tw8852228952854995188:True:=⟨⟩
theorem tw7600706356396540468:True:=⟨⟩
theorem tw5180792911760465046:True:=⟨⟩
theorem tw17604705713884286562:True:=⟨⟩
theorem tw9231654754224541178:True:=⟨⟩
theorem tw18389309906384937790:True:=⟨⟩
theorem tw15082273728219928952:True:=⟨⟩
theorem tw10877760353934630899:True:=⟨⟩
theorem tw7207897503941557455:True:=⟨⟩
theorem tw4372564100406587832:True:=⟨⟩
theorem tw18088567479685557591:True:=⟨⟩
theorem tw14110598688829758355:True:=⟨⟩
theorem tw12538037282154680083:True:=⟨⟩
theorem tw6440958624532255385:True:=⟨⟩
theorem tw8217825752420370064:True:=⟨⟩
theorem tw8063987708892530316:True:=⟨⟩
theorem tw14447578878252159407:True:=⟨⟩
theorem tw13745619688331451460:True:=⟨⟩
theorem tw3158187580881687387:True:=⟨⟩
theorem tw13345871909953181764:True:=⟨⟩
theorem tw13800110730881728159:True:=⟨⟩
theorem tw13736266024091122055:True:=⟨⟩
theorem tw613223844696293704:True:=⟨⟩
theorem tw1427970336612634578:True:=⟨⟩
theorem tw6408012664524213491:True:=⟨⟩
theorem tw7590628833292370701:True:=⟨⟩
theorem tw14776286131460640244:True:=⟨⟩
theorem tw10491876134423987168:True:=⟨⟩
theorem tw6764287050624499111:True:=⟨⟩
theorem tw511364936662407605:True:=⟨⟩
theorem tw4577242606022933003:True:=⟨⟩
theorem tw16514271126142052383:True:=⟨⟩
theorem tw4383093054414635412:True:=⟨⟩
theorem tw9191086853168904530:True:=⟨⟩
theorem tw1985803299869814457:True:=⟨⟩
theorem tw18303704162144468603:True:=⟨⟩
theorem tw13040305400477024738:True:=⟨⟩
theorem tw197111622663993989:True:=⟨⟩
theorem tw17313911476452679774:True:=⟨⟩
theorem tw16180776098134873348:True:=⟨⟩
theorem tw15376633752301115356:True:=⟨⟩
theorem tw5045393611746657775:True:=⟨⟩
theorem tw417892928434232122:True:=⟨⟩
theorem tw3906233357458826369:True:=⟨⟩
theorem tw15602165816831885431:True:=⟨⟩
theorem tw1187885596224304126:True:=⟨⟩
theorem tw8973820989573658964:True:=⟨⟩
theorem tw83766782072674314:True:=⟨⟩
theorem tw7719508200210092554:True:=⟨⟩
theorem tw6727714491297357474:True:=⟨⟩
theorem tw5926847917597845951:True:=⟨⟩
theorem tw517778303449209333:True:=⟨⟩
theorem tw17974651792802362765:True:=⟨⟩
theorem tw16786095497118547238:True:=⟨⟩
theorem tw16221760605067090720:True:=⟨⟩
theorem tw16048342436134353365:True:=⟨⟩
theorem tw15701157433123888361:True:=⟨⟩
theorem tw1516776822534990062:True:=⟨⟩
theorem tw14532011226219674389:True:=⟨⟩
theorem tw14491415978024087038:True:=⟨⟩
theorem tw12143062581074092283:True:=⟨⟩
theorem tw7353713274046340165:True:=⟨⟩
theorem tw1978110662260101050:True:=⟨⟩
theorem tw13700602128885640409:True:=⟨⟩
theorem tw9653866094089899910:True:=⟨⟩
theorem tw16157105445405839973:True:=⟨⟩
theorem tw14613923771542300886:True:=⟨⟩
theorem tw10886291930488156405:True:=⟨⟩
theorem tw9165285072215944589:True:=⟨⟩
end PySem.W.Fast
namespace Hue
open PySem L2 Rf
noncomputable def n8(K:Y2)(nm:Str)(i:Nat):Prop:=∃(f:A1G) (b c:Option A1G) (d:Array (Option A1E)) (e g h j a k:A1E),PySem.W.nsIn K A1I nm=aA (aA (.ref f))/\K.lookup f=aA ⟨e,b,.func (PySem.W.fnOf nm nm (defArgs (top i)) (defBody (top i)) (defScope (top i)) .none g h j c a k),d⟩/\PySem.W.codeIn K a nm=aC/\PySem.W.keepIn K (.ref f)=aC
def lnkK_mk{K:Y2}{nm:Str}{i:Nat}{f:A1G}{d e:Option A1G}{g:Array (Option A1E)}{h j m n b o:A1E}(a:PySem.W.nsIn K A1I nm=aA (aA (.ref f)))(l:K.lookup f=aA ⟨h,d,.func (PySem.W.fnOf nm nm (defArgs (top i)) (defBody (top i)) (defScope (top i)) .none j m n e b o),g⟩)(c:PySem.W.codeIn K b nm=aC)(k:PySem.W.keepIn K (.ref f)=aC):n8 K nm i:=⟨f,d,e,g,h,j,m,n,b,o,a,l,c,k⟩
def j5{K:Y2}{h:Heap}{g:Str->Option A1E}(X:K.In h)(G:h.Ns A1I g)(D:Df){i:Nat}(x:n8 K D.name i)(e:D.st=top i)(b:∀(j d m:A1E) (n:Option A1G) (cdv o:A1E) (f:List A1E),f.length=D.ps.length->bindArgs (PySem.W.fnOf D.name D.name (defArgs (top i)) (defBody (top i)) (defScope (top i)) .none j d m n cdv o) ⟨f,[]⟩=pure (D.ps.zip f)):PIn K g D:=by
 obtain⟨_,_,_,_,_,_,_,_,_,_,a,l,c,k⟩:=x;exact⟨_,_,e▸IZ (st:=top i) l c k,KY a l,PySem.W.mg_of X G a,k,(IZ (st:=top i) l c k).binds (ps:=D.ps) b⟩
def Jb{P:Str×XCls->Prop}{D:Str×XCls}{l:List (Str×XCls)}(a:P D)(b:∀ x∈l,P x):∀ x∈D::l,P x:=A0S.mpr ⟨a,b⟩
def k9{P:Df->Prop}{D:Df}{l:List Df}(a:P D)(b:∀ x∈l,P x):∀ x∈D::l,P x:=A0S.mpr ⟨a,b⟩
def all_mk{l:PySem.W.OpenLaw}{w:A1N}{K:Y2}{h:Heap}{d:Str->Option A1E}{fa:A1G}(X:K.In h)(G:h.Ns A1I d)(H:d "law"=aA (.ref fa))
 (x0:n8 K "is_number" 12)
 (x1:n8 K "is_listed" 13)
 (x2:n8 K "has_place" 15)
 (x3:n8 K "has_tie" 16)
 (x4:n8 K "check_place" 17)
 (x5:n8 K "check_tie" 18)
 (x6:n8 K "ties_at" 19)
 (x7:n8 K "most_at" 20)
 (x8:n8 K "thickest" 21)
 (x9:n8 K "enough" 22)
 (I:n8 K "far_end" 23)
 (J:n8 K "meets" 24)
 (L:n8 K "is_hue" 26)
 (M:n8 K "is_hueing" 27)
 (N:n8 K "clash_of" 28)
 (O:n8 K "hues_at" 29)
 (Q:n8 K "free_at" 30)
 (R:n8 K "tie_of_hue" 32)
 (S:n8 K "check_unlike" 33)
 (T:n8 K "row_from" 34)
 (U:n8 K "exchanged" 35)
 (V:n8 K "tie_has_hue" 37)
 (Y:n8 K "tie_lacks_hue" 38)
 (Z:n8 K "with_hues" 39)
 (a0:n8 K "after_hue" 40)
 (a1:n8 K "after_drop" 41)
 (a2:n8 K "after_move" 42)
 (a3:n8 K "after_row" 43)
 (a4:n8 K "after_step" 44)
 (a5:n8 K "done_step" 45)
 (a6:n8 K "played" 46)
 (a7:n8 K "next_of_fan" 48)
 (a8:n8 K "fan_of" 49)
 (a9:n8 K "turning" 50)
 (b0:n8 K "turned" 51)
 (b1:n8 K "shared_hue" 52)
 (b2:n8 K "freeing_row" 53)
 (b3:n8 K "steps_to_hue" 54)
 (b4:n8 K "check_enough" 55)
 (b5:n8 K "hued_in" 56)
 (b6:n8 K "all_hued" 57)
 (b7:n8 K "_law_tape" 59)
 (b8:n8 K "_law_draw" 60)
 (b9:n8 K "_law_pairs_by" 61)
 (c0:n8 K "_law_web" 62)
 (c1:n8 K "_law_meet" 63)
 (c2:n8 K "_law_count" 64)
 (c3:n8 K "_law_most" 65)
 (c4:n8 K "_law_thickest" 66)
 (c5:n8 K "_law_within" 67)
 (c6:n8 K "_law_class" 68)
 (c7:n8 K "_law_told" 69)
 (i:n8 K "law" 70)
 (z0:PySem.W.nsIn K A1I "len"=aA aB)
 (z1:PySem.W.nsIn K A1I "abs"=aA aB)
 (z2:PySem.W.nsIn K A1I "min"=aA aB)
 (z3:PySem.W.nsIn K A1I "max"=aA aB)
 (z4:PySem.W.nsIn K A1I "int"=aA aB)
 (z5:PySem.W.nsIn K A1I "list"=aA aB)
 (z6:PySem.W.nsIn K A1I "tuple"=aA aB)
 (z7:PySem.W.nsIn K A1I "all"=aA aB)
 (z8:PySem.W.nsIn K A1I "any"=aA aB)
 (z9:PySem.W.nsIn K A1I "sorted"=aA aB)
 (c8:PySem.W.nsIn K A1I "isinstance"=aA aB)
 (j:PySem.W.nsIn K A1I "str"=aA aB)
 (c9:PySem.W.nsIn K A1I "range"=aA aB)
 (e0:PySem.W.nsIn K A1I "enumerate"=aA aB)
 (e1:PySem.W.nsIn K A1I "zip"=aA aB)
 (e2:PySem.W.nsIn K A1I "set"=aA aB)
 (e3:PySem.W.nsIn K A1I "bool"=aA aB)
 (e4:PySem.W.nsIn K A1I "dict"=aA aB)
 (e5:PySem.W.nsIn K A1I "reversed"=aA aB)
 (e6:PySem.W.nsIn K A1I "repr"=aA aB)
 (e7:PySem.W.nsIn K A1I "sum"=aA aB)
 (e8:ClsK K DN) (e9:PySem.W.nsIn K A1I "HueError"=aA (aA (.ref 24)))
 (f0:ClsK K Bv) (f1:PySem.W.nsIn K A1I "NoTie"=aA (aA (.ref 49)))
 (f2:ClsK K Ak) (f3:PySem.W.nsIn K A1I "TooFew"=aA (aA (.ref 85)))
 : ∃ fd:A2g,(∀(s:A1F) (v:A1E),BindsTo s fd ⟨[v],[]⟩ [("_law_script",v)])/\∀ base:Heap,K.In base->base.Ns A1I d->FnOk l.prog w K d base CX0 13 fa fd ["_law_script"] (spS K (W prog 13 52)):=by
 have y:=i;obtain⟨f9,f6,m,f7,f8,n,o,q,r,u,z,A,f4,f5⟩:=i;have e:=H.symm.trans (PySem.W.mg_of X G z);cases e
 have B:Bl K d:=by
  refine⟨⟨λ_ _=>PySem.W.mg_of X G,λ_=>YQ X G⟩,λb=>?_,YQ X G c9,YQ X G e0,YQ X G e5,YQ X G e1,YQ X G e7,YQ X G e2,YQ X G e4,λt ht=>?_⟩
  ·cases b with
   | len=>exact YQ X G z0
   | abs=>exact YQ X G z1
   | min=>exact YQ X G z2
   | max=>exact YQ X G z3
   | int=>exact YQ X G z4
   | list=>exact YQ X G z5
   | tuple=>exact YQ X G z6
   | all=>exact YQ X G z7
   | any=>exact YQ X G z8
   | sorted=>exact YQ X G z9
   | isi=>exact YQ X G c8
   | str=>exact YQ X G j
   | repr=>exact YQ X G e6
  ·cases t with
   | int=>exact YQ X G z4
   | bool=>exact YQ X G e3
   | str=>exact YQ X G j
   | list=>exact YQ X G z5
   | tuple=>exact YQ X G z6
   | none=>exact absurd rfl ht
 have C:∀ D∈prog,PIn K d D:=k9 (j5 X G d0 x0 rfl λ_ _ _ _ _ _=>EL λ_=>rfl) (k9 (j5 X G d1 x1 rfl λ_ _ _ _ _ _=>EL λ_=>rfl) (k9 (j5 X G d2 x2 rfl λ_ _ _ _ _ _=>C8 λ_ _=>rfl) (k9 (j5 X G d3 x3 rfl λ_ _ _ _ _ _=>C8 λ_ _=>rfl) (k9 (j5 X G d4 x4 rfl λ_ _ _ _ _ _=>C8 λ_ _=>rfl) (k9 (j5 X G d5 x5 rfl λ_ _ _ _ _ _=>C8 λ_ _=>rfl) (k9 (j5 X G d6 x6 rfl λ_ _ _ _ _ _=>C8 λ_ _=>rfl) (k9 (j5 X G d7 x7 rfl λ_ _ _ _ _ _=>EL λ_=>rfl) (k9 (j5 X G d8 x8 rfl λ_ _ _ _ _ _=>EL λ_=>rfl) (k9 (j5 X G d9 x9 rfl λ_ _ _ _ _ _=>EL λ_=>rfl) (k9 (j5 X G d10 I rfl λ_ _ _ _ _ _=>Cg λ_ _ _=>rfl) (k9 (j5 X G d11 J rfl λ_ _ _ _ _ _=>Cg λ_ _ _=>rfl) (k9 (j5 X G d12 L rfl λ_ _ _ _ _ _=>EL λ_=>rfl) (k9 (j5 X G d13 M rfl λ_ _ _ _ _ _=>C8 λ_ _=>rfl) (k9 (j5 X G d14 N rfl λ_ _ _ _ _ _=>C8 λ_ _=>rfl) (k9 (j5 X G d15 O rfl λ_ _ _ _ _ _=>Cg λ_ _ _=>rfl) (k9 (j5 X G d16 Q rfl λ_ _ _ _ _ _=>GE λ_ _ _ _=>rfl) (k9 (j5 X G d17 R rfl λ_ _ _ _ _ _=>GE λ_ _ _ _=>rfl) (k9 (j5 X G d18 S rfl λ_ _ _ _ _ _=>C8 λ_ _=>rfl) (k9 (j5 X G d19 T rfl λ_ _ _ _ _ _=>JH λ_ _ _ _ _=>rfl) (k9 (j5 X G d20 U rfl λ_ _ _ _ _ _=>JH λ_ _ _ _ _=>rfl) (k9 (j5 X G d21 V rfl λ_ _ _ _ _ _=>Cg λ_ _ _=>rfl) (k9 (j5 X G d22 Y rfl λ_ _ _ _ _ _=>Cg λ_ _ _=>rfl) (k9 (j5 X G d23 Z rfl λ_ _ _ _ _ _=>Cg λ_ _ _=>rfl) (k9 (j5 X G d24 a0 rfl λ_ _ _ _ _ _=>GE λ_ _ _ _=>rfl) (k9 (j5 X G d25 a1 rfl λ_ _ _ _ _ _=>Cg λ_ _ _=>rfl) (k9 (j5 X G d26 a2 rfl λ_ _ _ _ _ _=>GE λ_ _ _ _=>rfl) (k9 (j5 X G d27 a3 rfl λ_ _ _ _ _ _=>JH λ_ _ _ _ _=>rfl) (k9 (j5 X G d28 a4 rfl λ_ _ _ _ _ _=>Cg λ_ _ _=>rfl) (k9 (j5 X G d29 a5 rfl λ_ _ _ _ _ _=>Cg λ_ _ _=>rfl) (k9 (j5 X G d30 a6 rfl λ_ _ _ _ _ _=>Cg λ_ _ _=>rfl) (k9 (j5 X G d31 a7 rfl λ_ _ _ _ _ _=>GE λ_ _ _ _=>rfl) (k9 (j5 X G d32 a8 rfl λ_ _ _ _ _ _=>JH λ_ _ _ _ _=>rfl) (k9 (j5 X G d33 a9 rfl λ_ _ _ _ _ _=>Cg λ_ _ _=>rfl) (k9 (j5 X G d34 b0 rfl λ_ _ _ _ _ _=>JH λ_ _ _ _ _=>rfl) (k9 (j5 X G d35 b1 rfl λ_ _ _ _ _ _=>JH λ_ _ _ _ _=>rfl) (k9 (j5 X G d36 b2 rfl λ_ _ _ _ _ _=>JH λ_ _ _ _ _=>rfl) (k9 (j5 X G d37 b3 rfl λ_ _ _ _ _ _=>GE λ_ _ _ _=>rfl) (k9 (j5 X G d38 b4 rfl λ_ _ _ _ _ _=>C8 λ_ _=>rfl) (k9 (j5 X G d39 b5 rfl λ_ _ _ _ _ _=>GE λ_ _ _ _=>rfl) (k9 (j5 X G d40 b6 rfl λ_ _ _ _ _ _=>C8 λ_ _=>rfl) (k9 (j5 X G d41 b7 rfl λ_ _ _ _ _ _=>C8 λ_ _=>rfl) (k9 (j5 X G d42 b8 rfl λ_ _ _ _ _ _=>C8 λ_ _=>rfl) (k9 (j5 X G d43 b9 rfl λ_ _ _ _ _ _=>C8 λ_ _=>rfl) (k9 (j5 X G d44 c0 rfl λ_ _ _ _ _ _=>C8 λ_ _=>rfl) (k9 (j5 X G d45 c1 rfl λ_ _ _ _ _ _=>Cg λ_ _ _=>rfl) (k9 (j5 X G d46 c2 rfl λ_ _ _ _ _ _=>C8 λ_ _=>rfl) (k9 (j5 X G d47 c3 rfl λ_ _ _ _ _ _=>EL λ_=>rfl) (k9 (j5 X G d48 c4 rfl λ_ _ _ _ _ _=>EL λ_=>rfl) (k9 (j5 X G d49 c5 rfl λ_ _ _ _ _ _=>Cg λ_ _ _=>rfl) (k9 (j5 X G d50 c6 rfl λ_ _ _ _ _ _=>EL λ_=>rfl) (k9 (j5 X G d51 c7 rfl λ_ _ _ _ _ _=>GE λ_ _ _ _=>rfl) (k9 (j5 X G d52 y rfl λ_ _ _ _ _ _=>EL λ_=>rfl) (λ_ h=>nomatch h)))))))))))))))))))))))))))))))))))))))))))))))))))));refine⟨PySem.W.fnOf "law" "law" (defArgs (top 70)) (defBody (top 70)) (defScope (top 70)) .none n o q m r u,λs v => .of_eq rfl,λbase _ _=>?_⟩;have c:∀ p∈cts,ClsK K p.2/\PySem.W.nsIn K A1I p.1=aA (aA (.ref p.2.ad)):=Jb (P:=λp=>ClsK K p.2/\PySem.W.nsIn K A1I p.1=aA (aA (.ref p.2.ad))) ⟨e8,e9⟩ (Jb (P:=λp=>ClsK K p.2/\PySem.W.nsIn K A1I p.1=aA (aA (.ref p.2.ad))) ⟨f0,f1⟩ (Jb (P:=λp=>ClsK K p.2/\PySem.W.nsIn K A1I p.1=aA (aA (.ref p.2.ad))) ⟨f2,f3⟩ (λ_ h=>nomatch h)));have F:prog.length+1<1000000:=by decide
 have E:∀(g:Nat) (x:Str),(prog.map (·.name))[g]?=aA x->∃ a,prog[g]?=aA a/\a.name=x:=λg x f=>by
  rw[YA]at f;exact Zm.mp f
 exact KW (P:=l.prog) (w:=w) (base:=base) (k:=12) (Δ:=W prog 12) (D:=d52) (IZ (st:=top 70) A f4 f5) (KY z A) (YX.mp Ef d52 (Y7 (show prog[52]?=aA d52 from rfl))) B
  ⟨by rw[Y4];exact F,c,XI (A0m F) 12,λg x f=>by
    obtain⟨a,hg,rfl⟩:=E g x f;exact⟨a.ps,(EM Ef B F c C 12 g a hg).2⟩⟩ (λg x f=>by
    obtain⟨a,hg,rfl⟩:=E g x f;exact⟨a.ps,(EM Ef B F c C 12 g a hg).1⟩) (DA 12)
def clsK_mk{K:Y2}{a:A1G}{b:List A1G}{c:List (Str×A1G×Bool)}(d:(PySem.W.clsIn K a).isSome=aC)(e:PySem.W.mroIn K a (.type "object")=aA aC)(f:PySem.W.mroIn K a (.type "BaseException")=aA aC)(g:PySem.W.findIn K (.ref a) "__class__"=aA (aA (.builtin "object.__class__")))(h:PySem.W.findIn K (.ref a) "__getattribute__"=aA (aA (.builtin "BaseException.__getattribute__")))(i:PySem.W.findIn K (.ref a) "__getattr__"=aA aB)
 (x:PySem.W.excIn K a bmVE "ValueError.__new__"=aC) (j:PySem.W.nsIn K A1I "ValueError"=aA aB) (k:PySem.W.kitOne K (.ref a) (.type "ValueError")=aA aC) (l:∀ D∈b,PySem.W.mroIn K a (.ref D)=aA aC) (m:∀ p∈c,PySem.W.nsIn K A1I p.1=aA (aA (.ref p.2.1))/\PySem.W.kitOne K (.ref a) (.ref p.2.1)=aA p.2.2):ClsK K ⟨a,b,c⟩:=⟨⟨d,e,f,g,h,i⟩,x,l,j,k,m⟩
def un_nil{K:Y2}{a:A1G}:∀ D∈([]:List A1G),PySem.W.mroIn K a (.ref D)=aA aC:=λ_ h=>nomatch h
def un_one{K:Y2}{a b:A1G}(h:PySem.W.mroIn K a (.ref b)=aA aC):∀ D∈[b],PySem.W.mroIn K a (.ref D)=aA aC:=λ_ m=>by rw[YK.mp m];exact h
def tb_nil{K:Y2}{a:A1G}:∀ p∈([]:List (Str×A1G×Bool)),PySem.W.nsIn K A1I p.1=aA (aA (.ref p.2.1))/\PySem.W.kitOne K (.ref a) (.ref p.2.1)=aA p.2.2:=λ_ h=>nomatch h
def tb_cons{K:Y2}{a c:A1G}{x:Str}{b:Bool}{l:List (Str×A1G×Bool)}(d:PySem.W.nsIn K A1I x=aA (aA (.ref c)))(f:PySem.W.kitOne K (.ref a) (.ref c)=aA b)(t:∀ p∈l,PySem.W.nsIn K A1I p.1=aA (aA (.ref p.2.1))/\PySem.W.kitOne K (.ref a) (.ref p.2.1)=aA p.2.2):∀ p∈(x,c,b)::l,PySem.W.nsIn K A1I p.1=aA (aA (.ref p.2.1))/\PySem.W.kitOne K (.ref a) (.ref p.2.1)=aA p.2.2:=λp m=>(YH.mp m).elim (λe=>by subst e;exact⟨d,f⟩) (t p)
def walkL{l:PySem.W.OpenLaw}{q:A1L}{c:List Str}{o:(Str->Option A1E)->Heap->Prop}{i:A1N->Heap->Prop}{d:DefRec}{K:Params->Y2}(p:l.most=aA 63)(g:d.params.defaults=[])
 (r:∀(w:A1N) (h:Heap),i w h->(K w.params).In h)
 (F:∀(w:A1N) (e:Str->Option A1E) (j:A1G) (h:Heap),(K w.params).In h->h.Ns A1I e->e d.name=aA (.ref j)->
   ∃ m:A2g,(∀(s:A1F) (u:A1E),BindsTo s m ⟨[u],[]⟩ [("_law_script",u)])/\∀ b:Heap,(K w.params).In b->b.Ns A1I e->FnOk l.prog w (K w.params) e b CX0 13 j m ["_law_script"] (spS (K w.params) (W prog 13 52))):
 PySem.W.WalkO q c o i l.row.toRowW d [] (λf t=>PySem.call f t):=
 L2.walk_of (n:=63) (k:=13) (x:="_law_script") (CX:=λ_=>CX0) (sp:=λw=>spS (K w.params) (W prog 13 52)) p (by decide) g ⟨rfl,by decide,by decide,rfl⟩ r F (λ_ _ a v y A B=>VN (law_main v y) A B) λ_ _ _ _ _ z=>z
end Hue
open PySem PySem.W PyProof.Rows
set_option maxRecDepth 100000 in
set_option maxHeartbeats 0 in
theorem PySem.Challenge.cw_huedties_k24_too_few_hues_holds : PySem.Challenge.rw_huedties_k24_too_few_hues.Holds := by
 w_on;o_law;k_head;(case hw=>w_witness2)
 k_fill
 refine Hue.walkL (l:=PySem.Challenge.rw_huedties_k24_too_few_hues) rfl rfl (λw h Y=>PySem.W.kIn_of Y) ?F
 case F=>
  intro w mg fa h KX G hmg;refine' Hue.all_mk KX G hmg ?_ ?_ ?_ ?_ ?_ ?_ ?_ ?_ ?_ ?_ ?_ ?_ ?_ ?_ ?_ ?_ ?_ ?_ ?_ ?_ ?_ ?_ ?_ ?_ ?_ ?_ ?_ ?_ ?_ ?_ ?_ ?_ ?_ ?_ ?_ ?_ ?_ ?_ ?_ ?_ ?_ ?_ ?_ ?_ ?_ ?_ ?_ ?_ ?_ ?_ ?_ ?_ ?_ ?_ ?_ ?_ ?_ ?_ ?_ ?_ ?_ ?_ ?_ ?_ ?_ ?_ ?_ ?_ ?_ ?_ ?_ ?_ ?_ ?_ ?kc0 ?_ ?kc1 ?_ ?kc2 ?_
  (case kc0=>exact Hue.clsK_mk (by kernel_rfl) (by k_is) (by k_is) (by k_is) (by k_is) (by k_is) (by k_exc) (by k_is) (by kernel_rfl) Hue.un_nil Hue.tb_nil)
  (case kc1=>exact Hue.clsK_mk (by kernel_rfl) (by k_is) (by k_is) (by k_is) (by k_is) (by k_is) (by k_exc) (by k_is) (by kernel_rfl) (Hue.un_one (by k_is)) (by repeat first | exact Hue.tb_nil | refine Hue.tb_cons (by k_is) (by kernel_rfl) ?_))
  (case kc2=>exact Hue.clsK_mk (by kernel_rfl) (by k_is) (by k_is) (by k_is) (by k_is) (by k_is) (by k_exc) (by k_is) (by kernel_rfl) (Hue.un_one (by k_is)) (by repeat first | exact Hue.tb_nil | refine Hue.tb_cons (by k_is) (by kernel_rfl) ?_))
  all_goals first | exact Hue.lnkK_mk (by k_is) (by k_is) (by k_is) (by k_is) | k_is
