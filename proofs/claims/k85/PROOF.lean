import PyProof.Rows.All
import Wide.All
import OpenK.AllK
import PySem.Challenge.RW_huedties_k85_whole_webs_that_grow
set_option Elab.async false
set_option linter.all false
set_option maxRecDepth 100000
open PySem.W renaming Frag->V8,mg_none_of->VX
open Bool renaming and_eq_true->V9,false_ne_true->VJ,not_eq_true'->Vi,eq_iff_iff->Vv,or_eq_true->Vx,false_eq_true->WH,true_and->XZ,true_or->YA,not_not->YE,noConfusion->YM,false_and->YU,false_or->Yb,or_false->Yc
open List renaming length_map->VA,length_append->VB,mem_of_getElem?->VC,getD_eq_getElem?_getD->VD,getElem?_eq_getElem->VE,size_toArray->VF,getElem?_map->VI,mem_cons_of_mem->VL,replicate->VM,range->VN,getElem?_append_left->VP,mem_cons_self->VQ,map_append->VR,mem_singleton->VU,mem_cons->VW,mem_append->VY,mem_map->VZ,mem_range->Va,length_cons->Vb,getElem?_concat_length->Vd,all_eq_true->Ve,take_length->Vf,find?_cons->Vh,getElem?_set_self->Vj,map_cons->Vk,take_succ->Vl,replicate_succ->Vn,prefix_refl->Vo,isEmpty_iff->Vp,getElem?_append_right->Vq,length_take->Vr,length_range->Vs,mem_append_right->Vt,getElem?_eq_none->Vu,length_set->Vw,append_nil->Vy,nodup_cons->Vz,mem_filter->W1,getElem?_range->W2,length_singleton->W4,getElem?_set_ne->W5,length_nil->W6,getD->W9,all_cons->WB,any_cons->WC,range_succ->WG,find?_eq_none->WJ,getElem?_replicate->WK,length_drop->WL,lookup_cons->WM,filter_cons->WN,flatten_cons->WQ,findSome?_eq_none_iff->WU,length_replicate->WW,getElem_mem->WX,getElem?_of_mem->WY,any_eq_true->Wc,length_filter_le->We,drop_eq_getElem_cons->Wf,of_mem_zip->Wg,mem_append_left->Wh,reverse_cons->Wi,nodup_append->Wk,ext_getElem?->Wm,getLast?_eq_some_getLast->Wr,take_of_length_le->Ws,prefix_append->Wt,filter_append->Wu,mem_iff_getElem->Wx,replicate_succ'->Wy,length_eraseIdx_of_lt->Wz,nodup_range->X1,mem_of_find?_eq_some->X2,getLast?_eq_getElem?->X3,filterMap_cons->X4,length_reverse->X5,filter_filter->X7,length_eq_zero_iff->X8,findIdx?_eq_some_iff_getElem->X9,pairwise_map->XA,countP_eq_length_filter->XB,map_congr_left->XD,any_map->XE,map_map->XF,map_set->XG,countP_append->XM,count_eq_zero->XO,findIdx?_eq_none_iff->XR,getLastD_eq_getLast?->XS,length->XT,append_assoc->XU,find?_append->XW,filter_congr->XX,flatMap_cons->XY,filterMap_cons_none->Xa,length_filterMap_le->Xb,cons_ne_nil->Xd,drop_length->Xe,countP_cons->Xf,mem_flatMap->Xg,find?_cons_of_pos->Xk,find?_cons_of_neg->Xl,head?_eq_none_iff->Xm,nil_append->Xn,countP_nil->Xo,dropLast_eq_take->Xp,getElem?_zipWith->Xr,take_append_drop->Xs,lookup->Xt,mem_of_mem_take->Xx,getElem_of_mem->Xy,findSome?_cons->Xz,filter_eq_self->Y0,flatMap_append->Y1,map_take->Y2,mem_filterMap->Y3,zip_cons_cons->Y4,pairwise_cons->Y5,any_eq_false->Y7,getElem?_inj->Y9,all_map->YB,count_append->YF,not_mem_nil->YJ,countP->YO,filter->YQ,head?_drop->YR,find?_some->YS,foldl->YV,nodup_nil->YW,filterMap->YX,tail_drop->YY,take_zero->Ya,map_drop->Yd,take_nil->Ye,map_nil->Yg,any_nil->Yh
open PySem.Heap renaming get?_push_of_some->VG,lt_size->VO,get?_push_size->VV,get?_update_other->W0,get?_update_self->W3,SameBut->W7,size_push->WD,update->Xv,ExtBut->Yk
open Nat renaming le_refl->VH,ne_of_lt->VT,le_trans->Vc,lt_of_lt_of_le->Vg,zero_le->W8,lt_succ_of_lt->Wa,lt_or_ge->Wj,lt_irrefl->Wn,lt_succ_self->Wq,not_lt_zero->Ww,succ_mul->X0,add_le_add_left->XC,lt_of_le_of_lt->XI,pos_of_ne_zero->XN,succ_le_succ->Xh,le_of_lt->Xi,le_succ->Xu,mul_le_mul->Xw,le_of_eq->Y8,le_succ_of_le->YC,le_of_not_lt->YH,succ_ne_self->YK,not_lt_of_gt->YL,min_eq_right->YN,min_eq_left->YT,le_total->Yi,succ_pos->Yj
open Int renaming natCast_inj->Vm,toNat_natCast->WZ,emod_lt_of_pos->Wd,zero_add->Wl,emod_nonneg->Wv,toNat_of_nonneg->X6,natCast_nonneg->XJ,emod_eq_of_lt->YD,le_refl->Yl
open Option renaming map_eq_none_iff->WR,map_some->WV,isSome_iff_exists->Wo,isNone_iff_eq_none->XQ,bind_some->Xc,map_eq_some_iff->Xj,isSome_some->Y6,getD_none->YG,getD_some->YI,none_or->YZ
open Array renaming length_toList->Wp,getElem?_eq_some_iff->XH,getElem?_toList->Xq,toList->Yf
open PySem renaming wpAny_bind->Ym,Value->Yn,Shared->Yo,Addr->Yp,wpAny_pure->Yq,sizeLine->Yr,wpAny->Ys,model->Yt,Program->Yu,mainGlobals->Yv,World->Yw,bootBuiltins->Yx,starEach->Yy,wpAny_newObj_type->Yz,Around->Z0,Scope->Z1,compareOp->Z2,wpAny_truthy_bool->Z3,swappedStores->Z4,wpAny_callSpecial?_slot->Z5,wpAny_holding->Z6,sysModules->Z7,wpAny_tryCatch->Z8,NameKind->ZA,wpAny_typeNameOfWhole_valiter->ZC,cellsFrom->ZD,wpAny_mono->ZE,assignEach->ZF,binaryOp->ZG,wpAny_call_entry->ZH,wpAny_seqItems->ZI,wpAny_passesOwn->ZJ,wpAny_pyIter_list->ZK,plainId_quiet->ZL,wpAny_typeNameOf_valiter->ZM,swapsWith->ZN,richCompare->ZO,wpAny_letGo->ZP,wpAny_Call_Name_kw->ZQ,wpAny_pyIter_tuple->ZR,Operator->ZS,FuncData->ZT,codeAny_builtin->ZU,wpAny_updateSeq->ZV,DictEntry->ZW,keywordEach->ZX,wpAny_field->ZY,swapsWithSole->ZZ,attributeBase->Za,letOwnedTupleGo->Zb,tupleKind_room_in1->Zc,sliceBounds->Zd,foldedSetIterable->Ze,wpAny_pyIter_enum->Zf,wpAny_dictEntries->Zg,wpAny_isOneOf_valiter->Zh,wpAny_rule->Zi,seqItems?->Zj,wpAny_standAt->Zk,wpAny_execs_nil->Zl,call_meetsIn->Zm,tupleKind->Zn,backToKw->Zp,call_meets->Zq,newFunctionEnv->Zr,wpAny_setField->Zs,firstArgMember->Zt,wpAny_letOwnedTupleGo_enum->Zu,wpAny_Call_method->Zv,wpAny_comprehension_free->Zw,ExceptHandler->Zx,noFill_tuple_add->Zy,wpAny_Call_method0_late->Zz,compEnvC->A00,wpAny_pyNext_enum_itemD->A01,SetTable->A02,typeIs_int->A04,wpAny_pyNext_enum_endD->A05,pushCells_keeps->A06,wpAny_dictEpoch->A07,wpAny_notOrdered_dict->A08,subscripted->A09,wpAny_of_eq->A0a,dictSetDefault->A0b,assignInOrder->A0d,behindInMarks->A0e,seq_tuple_add->A0f,builtinsNs->A0h,wpAny_assign_Name->A0j,codeAny_mono->A0l,concat_meets->A0m,wpAny_sequenceKey->A0n,wpAny_typeOf->A0o,seqIndex_neg->A0p,PassesOwn->A0q,pushCells->A0r,wpAny_Dict_empty->A0s,updateSeq->A0t,seqIndex_of->A0u,entryOfKey->A0v,GenState->A0w,wpAny_Name->A0x,bindName->A0y,wpAny_bindName->A0z,recursionLimit->A0A,fitsIndex_both->A0D,wpAny_fieldsOf->A0E,constantsAlone->A0F,lastMarks->A0G
open PyProof.Rows renaming assignInOrder_cons->Zo,subscriptTail_builtinR->A03,entry_tuple_getitem->A0c,subscriptTail->A0g,args_tuple_getitem->A0i,assignInOrder_nil->A0k,slicePart_none->A0B,Subscript_->A0C
abbrev EE:=List (Nat×Nat)
theorem gM{α:Type}{l:List α}{i:Nat}{a:α}(h:l[i]?=some a):∃h:i<l.length,l[i]=a:=List.getElem?_eq_some_iff.mp h
theorem oj{α:Type}{a b:α}(h:some a=some b):a=b:=Option.some.inj h
theorem dQ{p:Prop}[Decidable p]:(decide p=true)=p:=decide_eq_true_eq
theorem iG{c:Prop}{h:Decidable c}(k:¬c){α:Sort u}{t e:α}:ite c t e=e:=if_neg k
theorem iP{c:Prop}{h:Decidable c}(k:c){α:Sort u}{t e:α}:ite c t e=t:=if_pos k
namespace L2
open PySem PySem.Spec PyProof.Rows
abbrev Key:=Sum Int Str
def EG:Key->Yn->Bool
 | .inl k,v=>Value.isInt k v
 | .inr x,v=>Value.isStrOf x v
def Uk(w:Yw):Key->Int
 | .inl k=>hashInt k
 | .inr x=>hashStr w x
theorem p4:∀{k:Key} {v:Yn},EG k v=true->(∃ i t,k=Sum.inl i/\v=Value.int i t)\/(∃ x t,k=Sum.inr x/\v=Value.str x t)
 | .inl i,v,h=>by
   obtain⟨t,e⟩:=Value.isInt_shape (k:=i) (v:=v) h;exact .inl ⟨i,t,rfl,e⟩
 | .inr x,v,h=>by
   obtain⟨t,e⟩:=Value.isStrOf_shape (x:=x) (v:=v) h;exact .inr ⟨x,t,rfl,e⟩
theorem K8(i:Int)(t:Tok):EG (.inl i) (.int i t)=true:=by simp[EG,Value.isInt]
theorem K9(x:Str)(t:Tok):EG (.inr x) (.str x t)=true:=by simp[EG,Value.isStrOf]
theorem R8(a b:Int):decide ((Sum.inl a:Key)=Sum.inl b)=(a == b):=by
 by_cases e:a=b
 ·subst e;simp
 ·have h:¬ (Sum.inl a:Key)=Sum.inl b:=λq=>e (Sum.inl.inj q);rw[decide_eq_false h];exact(beq_eq_false_iff_ne.mpr e).symm
theorem R9(a b:Str):decide ((Sum.inr a:Key)=Sum.inr b)=decide (a=b):=by
 by_cases e:a=b
 ·subst e;simp
 ·have h:¬ (Sum.inr a:Key)=Sum.inr b:=λq=>e (Sum.inr.inj q);rw[decide_eq_false h,decide_eq_false e]
theorem RA(a:Int)(b:Str):decide ((Sum.inl a:Key)=Sum.inr b)=false:=decide_eq_false (λq=>nomatch q)
theorem RB(a:Str)(b:Int):decide ((Sum.inr a:Key)=Sum.inl b)=false:=decide_eq_false (λq=>nomatch q)
noncomputable def n0(prog:Yu)(w:Yw):PySem.KeyKind prog w Key where
 is:=EG
 hash:=Uk w
 inj:=λv a b ha hb=>by
  rcases p4 ha with⟨i,t,rfl,rfl⟩ | ⟨x,t,rfl,rfl⟩
  ·rcases p4 hb with⟨j,u,rfl,e⟩ | ⟨y,u,rfl,e⟩
   ·injection e with e1 _;rw[e1]
   ·exact nomatch e
  ·rcases p4 hb with⟨j,u,rfl,e⟩ | ⟨y,u,rfl,e⟩
   ·exact nomatch e
   ·injection e with e1 _;rw[e1]
 byValue:=λk v h=>by
   rcases p4 h with⟨i,t,rfl,rfl⟩ | ⟨x,t,rfl,rfl⟩<;>rfl
 pyHash:=λhv h=>by
  rcases p4 hv with⟨i,t,rfl,rfl⟩ | ⟨x,t,rfl,rfl⟩
  ·exact wpAny_pyHash_int h
  ·exact wpAny_pyHash_str h
 eqBool:=λhu hv h=>by
  rcases p4 hu with⟨i,t,rfl,rfl⟩ | ⟨x,t,rfl,rfl⟩
  ·rcases p4 hv with⟨j,u,rfl,rfl⟩ | ⟨y,u,rfl,rfl⟩
   ·rw[R8]at h;exact wpAny_eqBool_int h
   ·rw[RA]at h;exact SeqAt.EqAt.int_str i t y u _ _ _ _ h
  ·rcases p4 hv with⟨j,u,rfl,rfl⟩ | ⟨y,u,rfl,rfl⟩
   ·rw[RB]at h;exact SeqAt.EqAt.str_int x t j u _ _ _ _ h
   ·rw[R9]at h;exact wpAny_eqBool_str h
 «strs»:=λk x t v h=>by
  rcases p4 h with⟨i,u,rfl,e⟩ | ⟨y,u,rfl,e⟩
  ·exact nomatch e
  ·injection e with e1 _;subst e1;cases v<;>rfl
theorem Fe(prog:Yu)(w:Yw)(i:Int)(t:Tok):(n0 prog w).is (.inl i) (.int i t)=true:=K8 i t
theorem Ff(prog:Yu)(w:Yw)(x:Str)(t:Tok):(n0 prog w).is (.inr x) (.str x t)=true:=K9 x t
inductive V where
 | non | bl (b:Bool) | int (i:Int) | str (x:Str) | byt (b:Array UInt8) | flt (b:UInt64) | ref (a:Yp) | ty (n:String)
 deriving DecidableEq
def RelV:V->Yn->Prop
 | .non,u=>u=Value.none
 | .bl b,u=>u=Value.bool b
 | .int i,u=>∃ t,u=Value.int i t
 | .str x,u=>∃ t,u=Value.str x t
 | .byt b,u=>∃ t,u=Value.bytes b t
 | .flt b,u=>∃ t,u=Value.float b t
 | .ref a,u=>u=Value.ref a
 | .ty n,u=>u=Value.type n
abbrev Vals:List V->List Yn->Prop:=Paired RelV
theorem Vals.length{xs:List V}{us:List Yn}(r:Vals xs us):xs.length=us.length:=Paired.length r
theorem Vals.get:∀{xs:List V} {us:List Yn} {i:Nat} {x:V},Vals xs us->xs[i]?=some x->∃ u,us[i]?=some u/\RelV x u
 | _,_,_,_,.nil,e=>by simp at e
 | _,_,0,_,.cons r _,e=>by simp at e;subst e;exact⟨_,rfl,r⟩
 | _,_,i+1,x,.cons _ t,e=>by
   obtain⟨u,h1,h2⟩:=Vals.get (i:=i) (x:=x) t (by simpa using e);exact⟨u,by simpa using h1,h2⟩
theorem Vals.set{x:V}{u:Yn}(r:RelV x u):∀{xs:List V} {us:List Yn} (i:Nat),Vals xs us->Vals (xs.set i x) (us.set i u)
 | _,_,_,.nil => .nil
 | _,_,0,.cons _ t => .cons r t
 | _,_,i+1,.cons q t => .cons q (Vals.set r i t)
theorem Vals.append:∀{xs ys:List V} {us ws:List Yn},Vals xs us->Vals ys ws->Vals (xs++ys) (us++ws)
 | _,_,_,_,.nil,s=>s
 | _,_,_,_,.cons r t,s => .cons r (Vals.append t s)
theorem Vals.take:∀{xs:List V} {us:List Yn} (n:Nat),Vals xs us->Vals (xs.take n) (us.take n)
 | _,_,0,_ => .nil
 | _,_,_+1,.nil => .nil
 | _,_,n+1,.cons r t => .cons r (Vals.take n t)
theorem Vals.drop:∀{xs:List V} {us:List Yn} (n:Nat),Vals xs us->Vals (xs.drop n) (us.drop n)
 | _,_,0,r=>r
 | _,_,_+1,.nil => .nil
 | _,_,n+1,.cons _ t=>Vals.drop n t
def RelO:Option V->Option Yn->Prop
 | some v,some u=>RelV v u
 | none,none=>True
 | _,_=>False
def KV{κ:Type}:List (κ×V)->List (κ×Yn)->Prop:=Paired λ(p:κ×V) (q:κ×Yn)=>p.1=q.1/\RelV p.2 q.2
def kV:Key->V
 | .inl i => .int i
 | .inr x => .str x
inductive HO where
 | lst (xs:List V)
 | tup (xs:List V)
 | dK (kvs:List (Key×V)) | dT (kvs:List (List Key×V))
 | set (S:Int->Bool) (n:Nat)
 | ins (C dx:Yp) (fs:List (Str×V))
 | own (x:Yp)
 | xd (fs:List (Str×V))
 | met (f x:Yp)
 | rng (lo hi:Int)
 | frz (o:Obj) (u:HO)
 | tbl (ps:Array Yn)
 | ext (φ:Heap->Prop)
abbrev Hp:=Yp->Option HO
def upd(H:Hp)(a:Yp)(o:HO):Hp:=λb=>if b=a then some o else H b
theorem m9{H:Hp}{a:Yp}{o:HO}:upd H a o a=some o:=by unfold upd;rw[iP rfl]
theorem i7{H:Hp}{a b:Yp}{o:HO}(h:b≠a):upd H a o b=H b:=by unfold upd;rw[iG h]
theorem LZ{H:Hp}{a b:Yp}{o u:HO}(h:H a=some o)(h':H b=some u)(d:o≠u):a≠b:=by
 intro e;subst e;rw[h]at h';exact d (oj h')
theorem j5{H:Hp}{a b:Yp}{o:HO}(h:H a=some o)(h':H b=none):a≠b:=by
 intro e;subst e;rw[h]at h';cases h'
section
variable(P:Yu)(w:Yw)
noncomputable def ObjOk(H:Hp)(h:Heap)(a:Yp):HO->Prop
 | .lst xs=>xs.length<=Yr/\∃(its:List Yn) (n:Nat),Vals xs its/\h.get? a=some {cls := .type "list",data := .seq its.toArray n}
 | .tup xs=>xs.length<=Yr/\∃ its:List Yn,Vals xs its/\IsTup h a its.toArray
 | .dK kvs=>kvs.length<=Yr/\(a == Z7)=false/\∃ vs,KV kvs vs/\h.DictOf (n0 P w) a vs
 | .dT kvs=>kvs.length<=Yr/\(a == Z7)=false/\∃ xs:List (List Key×Yp×Yn),
    Paired (λ(p:List Key×V) (q:List Key×Yp×Yn)=>p.1=q.1/\H q.2.1=some (.tup (p.1.map kV))/\RelV p.2 q.2.2) kvs xs/\
    ∃ o es ep,h.get? a=some o/\o.ExactDict/\o.data = .dict es ep/\es.toList=xs.map (A0v (Zn (n0 P w)))/\(xs.map (·.1)).Nodup
 | .set S n=>h.SetOf (intKind P w) a S n
 | .ins C dx fs=>H dx=some (.own a)/\fs.length<=1000/\dx≠a/\h.get? a=some (PySem.W.instObj C dx)/\
    ∃ mA,h.Ns1 dx mA/\(∀ f,RelO (fs.lookup f) (mA f))/\PySem.Within mA (fs.map (·.1))
 | .own _=>∃ o,h.get? a=some o
 | .xd fs=>∃ mA,h.Ns1 a mA/\∀ f,RelO (fs.lookup f) (mA f)
 | .rng lo hi=>∃ t u v,h.get? a=some {cls := .type "range",data := .fields #[.int lo t,.int hi u,.int 1 v]}
 | .frz o u=>h.get? a=some o/\ObjOk H h a u
 | .tbl ps=>h.get? a=some {cls := .none,data := .fields ps}
 | .met f x=>h.get? a=some (PySem.W.methodObj (.ref f) (.ref x))
 | .ext φ=>φ h/\(∃ o,h.get? a=some o)/\∀ h1 h2:Heap,φ h1->(∀ o,h1.get? a=some o->h2.get? a=some o)->φ h2
noncomputable def HOk(H:Hp)(h:Heap):Prop:=∀ a o,H a=some o->ObjOk P w H h a o
end
section
variable{P:Yu}{w:Yw}{H H':Hp}{h h':Heap}{a:Yp}{o:HO}
theorem ObjOk.lt(x:ObjOk P w H h a o):a<h.objs.size:=by
 cases o with
 | lst xs=>obtain⟨_,_,_,_,e⟩:=x;exact VO e
 | tup xs=>obtain⟨_,_,_,p⟩:=x;exact p.lt
 | dK kvs=>obtain⟨_,_,_,_,o,_,_,e,_⟩:=x;exact VO e
 | dT kvs=>obtain⟨_,_,_,_,o,_,_,e,_⟩:=x;exact VO e
 | set S n=>obtain⟨o,_,_,_,e,_⟩:=x;exact VO e
 | ins C dx fs=>obtain⟨_,_,_,e,_⟩:=x;exact VO e
 | own y=>obtain⟨_,e⟩:=x;exact VO e
 | xd fs=>obtain⟨_,⟨_,_,_,e,_⟩,_⟩:=x;exact VO e
 | rng lo hi=>obtain⟨_,_,_,e⟩:=x;exact VO e
 | frz ob u=>obtain⟨e,_⟩:=x;exact VO e
 | tbl ps=>exact VO (show h.get? a=some _ from x)
 | met f y=>exact VO (show h.get? a=some _ from x)
 | ext φ=>obtain⟨_,⟨_,e⟩,_⟩:=x;exact VO e
theorem Paired.mapP{α β:Type}{F G:α->β->Prop}:∀{l₁:List α} {l₂:List β},Paired F l₁ l₂->(∀ a b,F a b->G a b)->Paired G l₁ l₂
 | _,_,.nil,_ => .nil
 | _,_,.cons r t,f => .cons (f _ _ r) (Paired.mapP t f)
theorem ObjOk.stay(x:ObjOk P w H h a o)(k:∀ b u,(b=a\/H b=some (.own a))->h.get? b=some u->h'.get? b=some u)
 (ho:∀ b,H b=some (.own a)->H' b=some (.own a)) (ht:∀ b xs,H b=some (.tup xs)->H' b=some (.tup xs)):ObjOk P w H' h' a o:=by
 induction o with
 | lst xs=>obtain⟨z,its,n,r,e⟩:=x;exact⟨z,its,n,r,k _ _ (.inl rfl) e⟩
 | tup xs=>obtain⟨z,its,r,ob,e,c⟩:=x;exact⟨z,its,r,ob,k _ _ (.inl rfl) e,c⟩
 | dK kvs=>obtain⟨z,y,vs,r,ob,es,ep,e,c⟩:=x;exact⟨z,y,vs,r,ob,es,ep,k _ _ (.inl rfl) e,c⟩
 | dT kvs=>
   obtain⟨z,y,xs,r,ob,es,ep,e,c⟩:=x;exact⟨z,y,xs,Paired.mapP r λp q z=>⟨z.1,ht _ _ z.2.1,z.2.2⟩,ob,es,ep,k _ _ (.inl rfl) e,c⟩
 | set S n=>obtain⟨ob,es,ep,t,e,c⟩:=x;exact⟨ob,es,ep,t,k _ _ (.inl rfl) e,c⟩
 | ins C dx fs=>
   obtain⟨d,z,ne,e,mA,⟨od,es,ep,e2,c⟩,r⟩:=x;exact⟨ho _ d,z,ne,k _ _ (.inl rfl) e,mA,⟨od,es,ep,k _ _ (.inr d) e2,c⟩,r⟩
 | own y=>obtain⟨ob,e⟩:=x;exact⟨ob,k _ _ (.inl rfl) e⟩
 | xd fs=>obtain⟨mA,⟨od,es,ep,e,c⟩,r⟩:=x;exact⟨mA,⟨od,es,ep,k _ _ (.inl rfl) e,c⟩,r⟩
 | rng lo hi=>obtain⟨t,u,v,e⟩:=x;exact⟨t,u,v,k _ _ (.inl rfl) e⟩
 | frz ob u ih=>obtain⟨e,q⟩:=x;exact⟨k _ _ (.inl rfl) e,ih q⟩
 | tbl ps=>
   have e:h.get? a=some {cls := .none,data := .fields ps}:=x;show h'.get? a=some {cls := .none,data := .fields ps};exact k a _ (.inl rfl) e
 | met f y=>
   have e:h.get? a=some (PySem.W.methodObj (.ref f) (.ref y)):=x;show h'.get? a=some (PySem.W.methodObj (.ref f) (.ref y));exact k a _ (.inl rfl) e
 | ext φ=>obtain⟨p,⟨o,e⟩,st⟩:=x;exact⟨st _ _ p λo q=>k _ _ (.inl rfl) q,⟨o,k _ _ (.inl rfl) e⟩,st⟩
theorem HOk.lt(x:HOk P w H h)(e:H a=some o):a<h.objs.size:=(x a o e).lt
theorem HOk.fresh(x:HOk P w H h)(e:h.objs.size<=a):H a=none:=by
 cases q:H a with
 | none=>rfl
 | some u=>exact absurd (Vg (x.lt q) e) (Wn _)
theorem HOk.kept(x:HOk P w H h)(k:∀ b u,h.get? b=some u->h'.get? b=some u):HOk P w H h':=λa o e=>
 (x a o e).stay (λb u _ q=>k b u q) (λ_ q=>q) λ_ _ q=>q
theorem HOk.laid(x:HOk P w H h)(k:∀ b u,h.get? b=some u->h'.get? b=some u)(hp:h.objs.size<=a)(new:ObjOk P w (upd H a o) h' a o):HOk P w (upd H a o) h':=λb u e=>by
 have hn:=x.fresh hp;by_cases hb:b=a
 ·subst hb;rw[m9]at e;cases e;exact new
 ·rw[i7 hb]at e;exact(x b u e).stay (λc v _ q=>k c v q) (λc q=>by rw[i7 (j5 q hn)];exact q) λc xs q=>by rw[i7 (j5 q hn)];exact q
end
def Rd(H:Hp)(a:Yp)(u:HO):Prop:=H a=some u\/∃ o,H a=some (.frz o u)
theorem Rd.ok{P:Yu}{w:Yw}{H:Hp}{h:Heap}{a:Yp}{u:HO}(r:Rd H a u)(x:HOk P w H h):ObjOk P w H h a u:=by
 rcases r with r | ⟨o,r⟩
 ·exact x a u r
 ·obtain⟨_,q⟩:=x a _ r;exact q
def Mut:Option HO->Prop
 | some (.lst _)=>True
 | some (.dK _)=>True
 | some (.dT _)=>True
 | some (.set _ _)=>True
 | some (.ins _ _ _)=>True
 | some (.ext _)=>True
 | _=>False
section
variable{P:Yu}{w:Yw}{H:Hp}{h h':Heap}{x e:Yp}{o':HO}
theorem HOk.write(ok:HOk P w H h)(mu:Mut (H x))(he:e=x\/H e=some (.own x))(k:∀ b u,b≠e->h.get? b=some u->h'.get? b=some u)(heo:∃ u,h'.get? e=some u)
 (new:ObjOk P w (upd H x o') h' x o'):HOk P w (upd H x o') h':=λb u q=>by
 have nown:∀ c y,H c=some (.own y)->c≠x:=λc y r z=>by subst z;rw[r]at mu;exact mu
 have ntup:∀ c xs,H c=some (.tup xs)->c≠x:=λc xs r z=>by subst z;rw[r]at mu;exact mu
 by_cases hb:b=x
 ·subst hb;rw[m9]at q;cases q;exact new
 ·rw[i7 hb]at q;by_cases hbe:b=e
  ·have q':H b=some (.own x):=by
    rcases he with z | z
    ·exact absurd (hbe.trans z) hb
    ·rw[hbe];exact z
   rw[q]at q';cases q';obtain⟨v,hv⟩:=heo;exact⟨v,by rw[hbe];exact hv⟩
  ·refine(ok b u q).stay (λc v hc r=>k c v ?_ r) (λc r=>by rw[i7 (nown c b r)];exact r) λc xs r=>by rw[i7 (ntup c xs r)];exact r
   rcases hc with rfl | hc
   ·exact hbe
   ·rintro rfl;rcases he with z | z
    ·exact nown c b hc z
    ·rw[hc]at z;cases z;exact hb rfl
end
structure Un(fs ex:List Yp)(H H':Hp)(h h':Heap):Prop where
 keep:∀ b o,h.get? b=some o->H b=none->b∉fs->b∉ex->h'.get? b=some o
 slot:∀ b o,h.get? b=some o->H b=none->b∈fs->b∉ex->∃ sl,h'.get? b=some {o with slots:=sl}
 free:∀ b o,h.get? b=some o->H b=none->b∉ex->H' b=none
 there:∀ b o,h.get? b=some o->b∉ex->∃ o',h'.get? b=some o'
 tups:∀ b xs,H b=some (.tup xs)->H' b=some (.tup xs)
 frzs:∀ b o u,H b=some (.frz o (.lst u))->H' b=some (.frz o (.lst u))
 tbls:∀ b ps,H b=some (.tbl ps)->∃ more,H' b=some (.tbl (ps++more))
section
variable{fs fs' ex ex':List Yp}{H H1 H2:Hp}{h h1 h2 h':Heap}{a x e:Yp}{o:HO}
theorem Un.any(u:Un fs ex H H1 h h1){b:Yp}{ob:Obj}(q:h.get? b=some ob)(n:H b=none)(hx:b∉ex):∃ sl,h1.get? b=some {ob with slots:=sl}:=by
 by_cases hb:b∈fs
 ·exact u.slot b ob q n hb hx
 ·exact⟨ob.slots,u.keep b ob q n hb hx⟩
theorem Un.kept(k:∀ b u,h.get? b=some u->h'.get? b=some u):Un fs ex H H h h':=
 ⟨λb ob q _ _ _=>k b ob q,λb ob q _ _ _=>⟨ob.slots,k b ob q⟩,λ_ _ _ n _=>n,λb ob q _=>⟨ob,k b ob q⟩,λ_ _ q=>q,λ_ _ _ q=>q,λ_ ps q=>⟨#[],by rw[q];simp⟩⟩
theorem Un.refl:Un fs ex H H h h:=Un.kept λ_ _ q=>q
theorem Un.laid(k:∀ b u,h.get? b=some u->h'.get? b=some u)(hp:h.objs.size<=a)(hn:H a=none):Un fs ex H (upd H a o) h h' where
 keep:=λb u q _ _ _=>k b u q
 slot:=λb u q _ _ _=>⟨u.slots,k b u q⟩
 free:=λb u q n _=>by rw[i7 (VT (Vg (VO q) hp))];exact n
 there:=λb u q _=>⟨u,k b u q⟩
 tups:=λb xs q=>by rw[i7 (j5 q hn)];exact q
 frzs:=λb u xs q=>by rw[i7 (j5 q hn)];exact q
 tbls:=λb ps q=>⟨#[],by rw[i7 (j5 q hn),q];simp⟩
theorem Un.write(mu:Mut (H x))(he:e=x\/H e=some (.own x))(k:∀ b u,b≠e->h.get? b=some u->h'.get? b=some u)(heo:∃ u,h'.get? e=some u):Un fs ex H (upd H x o) h h':=by
 have hx:∀ b,H b=none->b≠x:=λb n z=>by subst z;rw[n]at mu;exact mu
 have hb:∀ b,H b=none->b≠e:=λb n z=>by
  subst z;rcases he with r | r
  ·exact hx b n r
  ·rw[n]at r;cases r
 have hm:∀ b u,H b=some u->¬ Mut (some u)->b≠x:=λb u q nm z=>by subst z;rw[q]at mu;exact nm mu
 refine⟨λb u q n _ _=>k b u (hb b n) q,λb u q n _ _=>⟨u.slots,k b u (hb b n) q⟩,λb u q n _=>by rw[i7 (hx b n)];exact n,λb u q _=>?_,
  λb xs q=>by rw[i7 (hm b _ q λz=>z)];exact q,λb u xs q=>by rw[i7 (hm b _ q λz=>z)];exact q,λb ps q=>⟨#[],by rw[i7 (hm b _ q λz=>z),q];simp⟩⟩
 by_cases hbe:b=e
 ·subst hbe;exact heo
 ·exact⟨u,k b u hbe q⟩
end
def trk(h:Heap)(H:Hp):List Yp:=(VN h.objs.size).filter λa=>(H a).isSome
noncomputable def Et(h:Heap)(H:Hp):Heap:=PySem.W.hideAll h (trk h H)
theorem KA(h:Heap)(H:Hp):(Et h H).objs.size=h.objs.size:=PySem.W.hideAll_size _ _
theorem La{h:Heap}{H:Hp}{b:Yp}{o:Obj}(e:h.get? b=some o)(n:H b=none):(Et h H).get? b=some o:=
 PySem.W.hideAll_get _ e λhm=>by
  have q:(H b).isSome=true:=(W1.mp hm).2;rw[n]at q;simp at q
theorem OI{h:Heap}{H:Hp}{b:Yp}{o:Obj}(e:(Et h H).get? b=some o):h.get? b=some o/\H b=none:=by
 have e':h.get? b=some o:=PySem.W.of_hideAll (trk h H) e;refine⟨e',?_⟩;cases q:H b with
 | none=>rfl
 | some x=>
   have hm:b∈trk h H:=W1.mpr ⟨Va.mpr (VO e'),by simp[q]⟩;have z:(Et h H).get? b=none:=PySem.W.hideAll_none (trk h H) hm;rw[z]at e;cases e
structure Mod(K:V8)(mg:Str->Option Yn)(base:Heap):Prop where
 kin:K.In base
 glob:base.Ns Yv mg
 blt:∃ mb,base.Ns A0h mb/\∀ x:Str,x≠"__name__"->mb x=Yx x
 nolimit:base.NoLimit
structure Cx where
 prog:Yu
 w:Yw
 K:V8
 mg:Str->Option Yn
 base:Heap
 A:Z0
 N:List Str
 s₀:Yo
 H₀:Hp
 env:Env
 outer:List Env
 stack:List Env
 ex:List Yp
 fn:Str->Bool
 calm:Bool
 pn:List (Yp×Obj)
 xe:Yn->Yo->Prop
def frs(l:List Env):List Yp:=l.filterMap (·.frame)
abbrev Cx.fs(X:Cx):List Yp:=frs X.outer
def Vis(sc:Z1)(x:Str):Prop:=sc.names.lookup x=some .local\/sc.names.lookup x=some .cell\/sc.names.lookup x=some .free
def Loc(sc:Z1)(x:Str):Prop:=sc.names.lookup x=some .local\/sc.names.lookup x=some .cell
def Look(env:Env)(h:Heap)(m:Str->Option Yn)(x:Str)(u:Yn):Prop:=
 (env.kindOf x=some .local/\m x=some u)\/((env.kindOf x=some .cell\/env.kindOf x=some .free)/\∃ c,env.cells.lookup x=some c/\h.IsCell c (some u))
structure Cx.Ok(X:Cx):Prop where
 mod:Mod X.K X.mg X.base
 kind:X.env.scope.kind = .function
 glob:X.env.globals=Yv
 blt:X.env.builtins=A0h
 above:X.s₀.heap.objs.size<=X.env.locals
 inj:∀ x y c,X.env.cells.lookup x=some c->X.env.cells.lookup y=some c->x=y
 has:∀ x,(X.env.kindOf x=some .cell\/X.env.kindOf x=some .free)->∃ c,X.env.cells.lookup x=some c
 cab:∀ x c,X.fn x=true->X.env.cells.lookup x=some c->X.s₀.heap.objs.size<=c
 hd:X.calm=true->X.A.handled=none
 frames:X.A.frames=some X.stack
 stk:X.stack=X.outer\/(X.stack=X.env::X.outer/\X.env.frame=some X.env.locals)
 exf:∀ b∈X.ex,b≠X.env.locals/\∀ x c,X.env.cells.lookup x=some c->c≠b
 bs:∀ b o,X.base.get? b=some o->X.s₀.heap.get? b=some o/\X.H₀ b=none
 bsz:X.base.objs.size<=X.s₀.heap.objs.size
 noex:∀ b o,X.base.get? b=some o->b∉X.ex
 exfs:∀ b∈X.ex,b∉X.fs
 funs:X.s₀.heap.FunFrames X.base X.outer
 frf:∀ b∈X.fs,X.H₀ b=none
structure Inv(X:Cx)(pq:List (Yp×Obj))(σ:List (Option V))(H:Hp)(s:Yo):Prop where
 ok:X.Ok
 os:s.os=X.s₀.os
 bare:AllBare s.gens
 base:Un X.fs X.ex X.H₀ H X.s₀.heap s.heap
 loc:∃ m,s.heap.Ns X.env.locals m/\∀(i:Nat) (x:Str) (v:V),X.N[i]?=some x->σ[i]?=some (some v)->Vis X.env.scope x->∃ u,RelV v u/\Look X.env s.heap m x u
 cell:∀ x c,X.env.cells.lookup x=some c->∃ v,s.heap.IsCell c v
 free:H X.env.locals=none
 freeC:∀ x c,X.env.cells.lookup x=some c->H c=none
 pin:∀ p∈X.pn++pq,s.heap.get? p.1=some p.2/\H p.1=none/\p.1≠X.env.locals/\p.1∉X.fs/\∀ v,p.2.data ≠ .cell v
 hok:HOk X.prog X.w H s.heap
 len:σ.length=X.N.length
section
variable{X:Cx}{pq:List (Yp×Obj)}{σ:List (Option V)}{H H':Hp}{s:Yo}{h':Heap}
theorem Cx.Ok.nofr(ok:X.Ok){b:Yp}{o:Obj}(e:X.base.get? b=some o):b∉X.fs:=λhb=>by
 have:=(ok.funs.mem hb).1;rw[e]at this;cases this
theorem Inv.bs(I:Inv X pq σ H s):∀ b o,X.base.get? b=some o->s.heap.get? b=some o/\H b=none:=λb o e=>
 ⟨I.base.keep b o (I.ok.bs b o e).1 (I.ok.bs b o e).2 (I.ok.nofr e) (I.ok.noex b o e),I.base.free b o (I.ok.bs b o e).1 (I.ok.bs b o e).2 (I.ok.noex b o e)⟩
theorem Inv.bk(I:Inv X pq σ H s):∀ b o,X.base.get? b=some o->s.heap.get? b=some o:=λb o e=>(I.bs b o e).1
theorem Inv.mod(I:Inv X pq σ H s):Mod X.K X.mg X.base:=I.ok.mod
theorem Inv.kIn(I:Inv X pq σ H s):X.K.In s.heap:=I.ok.mod.kin.keeps I.bk
theorem Inv.fr(I:Inv X pq σ H s):∃ m,Fr X.base X.env.locals s.heap m:=
 let ⟨m,hn,_⟩:=I.loc
 ⟨m,hn,I.bk,Vc I.ok.bsz I.ok.above⟩
theorem Inv.lt(I:Inv X pq σ H s):X.env.locals<s.heap.objs.size:=let ⟨_,hn,_⟩:=I.loc;hn.lt
theorem Inv.sz(I:Inv X pq σ H s):X.s₀.heap.objs.size<=s.heap.objs.size:=Vc I.ok.above (Xi I.lt)
theorem Inv.nofs(I:Inv X pq σ H s){a:Yp}(h:s.heap.objs.size<=a):a∉X.fs:=λhb=>by
 obtain⟨_,o,ho,_⟩:=I.ok.funs.mem hb;exact absurd (Vg (VO ho) (Vc I.sz h)) (Wn _)
theorem Inv.cne(I:Inv X pq σ H s):∀ x c,X.env.cells.lookup x=some c->c≠X.env.locals:=λx c e z=>by
 obtain⟨v,o,ho,hd⟩:=I.cell x c e;obtain⟨m,⟨o',es,ep,ho',hd',_⟩,_⟩:=I.loc;rw[z,ho']at ho;cases ho;rw[hd']at hd;cases hd
theorem Inv.funs(I:Inv X pq σ H s):s.heap.FunFrames X.base X.outer:=by
 have all:∀(l:List Env),(∀ b∈frs l,b∈X.fs)->X.s₀.heap.FunFrames X.base l->s.heap.FunFrames X.base l:=by
  intro l
  induction l with
  | nil=>intro _ _;trivial
  | cons env r ih=>
    intro hs hl;obtain⟨hk,⟨L,o,hf,hn,ho,hd⟩,hr⟩:=hl;have hL:L∈X.fs:=hs L (by unfold frs;rw[X4,hf];exact VQ);obtain⟨sl,e⟩:=I.base.slot L o ho (I.ok.frf L hL) hL λz=>I.ok.exfs L z hL;exact⟨hk,⟨L,_,hf,hn,e,hd⟩,ih (λb hb=>hs b (by unfold frs;rw[X4,hf];exact VL _ hb)) hr⟩
 exact all X.outer (λ_ hb=>hb) I.ok.funs
theorem Inv.stack(I:Inv X pq σ H s):s.heap.FunFrames X.base X.stack:=by
 rcases I.ok.stk with e | ⟨e,hf⟩
 ·rw[e];exact I.funs
 ·rw[e];obtain⟨m,hn,_⟩:=I.loc;refine .cons (by rw[I.ok.kind];decide) hf hn ?_ I.funs;exact Heap.get?_none_of_le (Vc I.ok.bsz I.ok.above)
theorem Inv.stkSub(I:Inv X pq σ H s):∀ b∈frs X.stack,b∈X.env.locals::X.fs:=λb hb=>by
 rcases I.ok.stk with e | ⟨e,hf⟩
 ·rw[e]at hb;exact VL _ hb
 ·rw[e]at hb;unfold frs at hb;rw[X4,hf]at hb;exact hb
theorem Inv.stkFree(I:Inv X pq σ H s):∀ b∈frs X.stack,H b=none:=λb hb=>by
 rcases VW.mp (I.stkSub b hb) with e | hb
 ·rw[e];exact I.free
 ·obtain⟨_,o,ho,_⟩:=I.ok.funs.mem hb;exact I.base.free b o ho (I.ok.frf b hb) λz=>I.ok.exfs b z hb
theorem Inv.step{g':Array A0w}{t':Nat}{d':Drawn}{ch:List Yp}(I:Inv X pq σ H s)
 (hch:∀ b∈ch,(b∈X.ex\/X.s₀.heap.objs.size<=b)/\b≠X.env.locals/\(∀ x c,X.env.cells.lookup x=some c->c≠b)/\∀ p∈X.pn++pq,p.1≠b)
 (keep:∀ b o,b≠X.env.locals->b∉X.fs->b∉ch->s.heap.get? b=some o->H b=none->h'.get? b=some o)
 (slot:∀ b o,b≠X.env.locals->b∈X.fs->b∉ch->s.heap.get? b=some o->H b=none->∃ sl,h'.get? b=some {o with slots:=sl}) (free:∀ b o,b∉ch->s.heap.get? b=some o->H b=none->H' b=none)
 (there:∀ b o,b∉ch->s.heap.get? b=some o->∃ o',h'.get? b=some o')
 (tups:∀ b xs,H b=some (.tup xs)->H' b=some (.tup xs)) (frzs:∀ b o u,H b=some (.frz o (.lst u))->H' b=some (.frz o (.lst u))) (tbls:∀ b ps,H b=some (.tbl ps)->∃ more,H' b=some (.tbl (ps++more)))
 (ns:∀ m,s.heap.Ns X.env.locals m->h'.Ns X.env.locals m) (hok:HOk X.prog X.w H' h') (hg:AllBare g'):
 Inv X pq σ H' {s with heap:=h',gens:=g',drawn:=d',toks:=t'}:=by
 have neL:∀ b o,X.s₀.heap.get? b=some o->b≠X.env.locals:=λb o e=>VT (Vg (VO e) I.ok.above)
 have neC:∀ b o,X.s₀.heap.get? b=some o->b∉X.ex->b∉ch:=λb o e hx hb=>by
  rcases(hch b hb).1 with z | z
  ·exact hx z
  ·exact absurd (Vg (VO e) z) (Wn _)
 have cellK:∀ x c,X.env.cells.lookup x=some c->∀ v,s.heap.IsCell c v->h'.IsCell c v:=λx c e v ⟨o,ho,hd⟩=>by
  have nch:c∉ch:=λz=>(hch c z).2.2.1 x c e rfl;by_cases hc:c∈X.fs
  ·obtain⟨sl,q⟩:=slot c o (I.cne x c e) hc nch ho (I.freeC x c e);exact⟨_,q,hd⟩
  ·exact⟨o,keep c o (I.cne x c e) hc nch ho (I.freeC x c e),hd⟩
 refine⟨I.ok,I.os,hg,⟨λb o e n hb hx=>?_,λb o e n hb hx=>?_,λb o e n hx=>?_,λb o e hx=>?_,λb xs e=>tups b xs (I.base.tups b xs e),λb o xs e=>frzs b o xs (I.base.frzs b o xs e),λb ps e=>?_⟩,?_,λx c e=>?_,?_,λx c e=>?_,λp hp=>?_,hok,I.len⟩
 ·exact keep b o (neL b o e) hb (neC b o e hx) (I.base.keep b o e n hb hx) (I.base.free b o e n hx)
 ·obtain⟨sl,e1⟩:=I.base.slot b o e n hb hx;obtain⟨sl',e2⟩:=slot b _ (neL b o e) hb (neC b o e hx) e1 (I.base.free b o e n hx);exact⟨sl',e2⟩
 ·obtain⟨o',e1⟩:=I.base.there b o e hx;exact free b o' (neC b o e hx) e1 (I.base.free b o e n hx)
 ·obtain⟨o',e1⟩:=I.base.there b o e hx;exact there b o' (neC b o e hx) e1
 ·obtain⟨m1,e1⟩:=I.base.tbls b ps e;obtain⟨m2,e2⟩:=tbls b _ e1;exact⟨m1++m2,by rw[e2,Array.append_assoc]⟩
 ·obtain⟨m,hn,hl⟩:=I.loc;refine⟨m,ns m hn,λi x v e1 e2 e3=>?_⟩;obtain⟨u,r,l⟩:=hl i x v e1 e2 e3;refine⟨u,r,?_⟩;rcases l with l | ⟨k,c,e,z⟩
  ·exact .inl l
  ·exact .inr ⟨k,c,e,cellK x c e _ z⟩
 ·obtain⟨v,z⟩:=I.cell x c e;exact⟨v,cellK x c e v z⟩
 ·obtain⟨m,⟨o,_,_,ho,_⟩,_⟩:=I.loc;exact free _ o (λz=>(hch _ z).2.1 rfl) ho I.free
 ·obtain⟨v,o,ho,hd⟩:=I.cell x c e;exact free c o (λz=>(hch c z).2.2.1 x c e rfl) ho (I.freeC x c e)
 ·obtain⟨e,n,ne,nf,d⟩:=I.pin p hp;have nch:p.1∉ch:=λz=>(hch p.1 z).2.2.2 p hp rfl;exact⟨keep p.1 p.2 ne nf nch e n,free p.1 p.2 nch e n,ne,nf,d⟩
theorem Inv.un{t':Nat}(I:Inv X pq σ H s)(u:Un X.fs [] H H' s.heap h')(hok:HOk X.prog X.w H' h'):Inv X pq σ H' {s with heap:=h',toks:=t'}:=by
 obtain⟨m,⟨o,es,ep,ho,r⟩,_⟩:=id I.loc;obtain⟨sl,hL⟩:=u.any ho I.free (by simp)
 exact I.step (g':=s.gens) (d':=s.drawn) (ch:=[]) (λ_ z=>nomatch z) (λb o _ hb _ e n=>u.keep b o e n hb (by simp)) (λb o _ hb _ e n=>u.slot b o e n hb (by simp)) (λb o _ e n=>u.free b o e n (by simp)) (λb o _ e=>u.there b o e (by simp)) u.tups u.frzs u.tbls (λm' hm=>by
  obtain⟨o',es',ep',ho',r'⟩:=hm;rw[ho]at ho';cases ho';exact⟨_,es',ep',hL,r'⟩) hok I.bare
theorem Inv.call{g':Array A0w}{t':Nat}{d':Drawn}{ch:List Yp}(I:Inv X pq σ H s)(u:Un (frs X.stack) ch H H' s.heap h')(hok:HOk X.prog X.w H' h')(hg:AllBare g')
 (hch:∀ b∈ch,(b∈X.ex\/X.s₀.heap.objs.size<=b)/\b≠X.env.locals/\(∀ x c,X.env.cells.lookup x=some c->c≠b)/\∀ p∈X.pn++pq,p.1≠b):
 Inv X pq σ H' {s with heap:=h',gens:=g',drawn:=d',toks:=t'}:=by
 obtain⟨m,⟨o,es,ep,ho,r⟩,_⟩:=id I.loc;obtain⟨sl,hL⟩:=u.any ho I.free λz=>(hch _ z).2.1 rfl
 exact I.step (ch:=ch) hch (λb o hL hb hc e n=>u.keep b o e n (λz=>(VW.mp (I.stkSub b z)).elim hL hb) hc) (λb o _ _ hc e n=>u.any e n hc) (λb o hc e n=>u.free b o e n hc) (λb o hc e=>u.there b o e hc) u.tups u.frzs u.tbls (λm' hm=>by
  obtain⟨o',es',ep',ho',r'⟩:=hm;rw[ho]at ho';cases ho';exact⟨_,es',ep',hL,r'⟩) hok hg
theorem Inv.turned{t':Nat}{it:Yp}(I:Inv X pq σ H s)(k:∀ b o,b≠it->s.heap.get? b=some o->h'.get? b=some o)(hn:H it=none)(hL:it≠X.env.locals)
 (h1:it∈X.ex\/X.s₀.heap.objs.size<=it) (h2:∀ x c,X.env.cells.lookup x=some c->c≠it) (h3:∀ p∈X.pn++pq,p.1≠it):Inv X pq σ H {s with heap:=h',toks:=t'}:=by
 have nit:∀ b u,H b=some u->b≠it:=λb u e z=>by rw[z,hn]at e;cases e
 refine I.step (g':=s.gens) (d':=s.drawn) (ch:=[it]) (λb hb=>?_) (λb o _ _ hc e _=>k b o (λz=>hc (by simp[z])) e) (λb o _ _ hc e _=>⟨o.slots,k b o (λz=>hc (by simp[z])) e⟩) (λ_ _ _ _ n=>n)
  (λb o hc e=>⟨o,k b o (λz=>hc (by simp[z])) e⟩) (λ_ _ e=>e) (λ_ _ _ e=>e) (λb ps e=>⟨#[],by rw[e];simp⟩) (λm hm=>?_) (λb u e=>?_) I.bare
 ·have e:b=it:=by simpa using hb
  subst e;exact⟨h1,hL,h2,h3⟩
 ·obtain⟨o,es,ep,ho,r⟩:=hm;exact⟨o,es,ep,k _ o (Ne.symm hL) ho,r⟩
 ·refine(I.hok b u e).stay (λc v hc q=>k c v ?_ q) (λ_ q=>q) λ_ _ q=>q;rcases hc with z | z
  ·rw[z];exact nit b u e
  ·exact nit c _ z
theorem Inv.tok(I:Inv X pq σ H s)(t:Nat):Inv X pq σ H {s with toks:=t}:=I.un (h':=s.heap) (t':=t) Un.refl I.hok
theorem Inv.kept{t':Nat}(I:Inv X pq σ H s)(k:∀ b u,s.heap.get? b=some u->h'.get? b=some u):Inv X pq σ H {s with heap:=h',toks:=t'}:=I.un (Un.kept k) (I.hok.kept k)
theorem Inv.laid{a:Yp}{o:HO}{t':Nat}(I:Inv X pq σ H s)(k:∀ b u,s.heap.get? b=some u->h'.get? b=some u)(hp:s.heap.objs.size<=a)(new:ObjOk X.prog X.w (upd H a o) h' a o):
 Inv X pq σ (upd H a o) {s with heap:=h',toks:=t'}:=I.un (Un.laid k hp (I.hok.fresh hp)) (I.hok.laid k hp new)
theorem Inv.write{x e:Yp}{o:HO}{t':Nat}(I:Inv X pq σ H s)(mu:Mut (H x))(he:e=x\/H e=some (.own x))(k:∀ b u,b≠e->s.heap.get? b=some u->h'.get? b=some u)(heo:∃ u,h'.get? e=some u)
 (new:ObjOk X.prog X.w (upd H x o) h' x o):Inv X pq σ (upd H x o) {s with heap:=h',toks:=t'}:=I.un (Un.write mu he k heo) (I.hok.write mu he k heo new)
theorem Inv.weak{σ':List (Option V)}(I:Inv X pq σ H s)(hl:σ'.length=σ.length)(w:∀(i:Nat) v,σ'[i]?=some (some v)->σ[i]?=some (some v)):Inv X pq σ' H s:=
 ⟨I.ok,I.os,I.bare,I.base,let ⟨m,hn,hl'⟩:=I.loc;⟨m,hn,λi x v e1 e2 e3=>hl' i x v e1 (w i v e2) e3⟩,I.cell,I.free,I.freeC,I.pin,I.hok,hl.trans I.len⟩
theorem Inv.pins_of{pq':List (Yp×Obj)}(I:Inv X pq σ H s)(h:∀ p∈pq',s.heap.get? p.1=some p.2/\H p.1=none/\p.1≠X.env.locals/\p.1∉X.fs/\∀ v,p.2.data ≠ .cell v):Inv X pq' σ H s:=
 ⟨I.ok,I.os,I.bare,I.base,I.loc,I.cell,I.free,I.freeC,λp hp=>(VY.mp hp).elim (λz=>I.pin p (Wh _ z)) (h p),I.hok,I.len⟩
theorem Fg{N:List Str}(hN:N.Nodup){i j:Nat}{x:Str}(a:N[i]?=some x)(b:N[j]?=some x):i=j:=by
 obtain⟨h1,e1⟩:=gM a;obtain⟨h2,e2⟩:=gM b;exact(List.getElem_inj hN).mp (e1.trans e2.symm)
theorem EH{M:Model}{A:Z0}{E:Yn->Yo->Prop}{i:Nat}{x:Str}{v:V}{u:Yn}{Q:Unit->Yo->Prop}(I:Inv X pq σ H s)(hN:X.N.Nodup)(hi:X.N[i]?=some x)(hx:Loc X.env.scope x)(r:RelV v u)
 (h:∀ s',Inv X pq (σ.set i (some v)) H s'->(∃ a,W7 a s.heap s'.heap/\(a=X.env.locals\/X.env.cells.lookup x=some a))->Q () s') (hf:X.fn x=true\/X.env.scope.names.lookup x=some .local:=by first | exact .inl rfl | exact .inr rfl | assumption):Ys M A (storeName X.env x u) Q E s:=by
 obtain⟨m,hn,hl⟩:=id I.loc;have hcls:(X.env.scope.kind == .class||(X.env.scope.kind == .module&&X.env.locals != X.env.globals))=false:=by rw[I.ok.kind];rfl
 have hiσ:i<σ.length:=by rw[I.len];exact(gM hi).1
 have cne:=I.cne
 have tracked:∀{a:Yp} {h':Heap},(∃ o,s.heap.get? a=some o/\H a=none)->W7 a s.heap h'->HOk X.prog X.w H h':=λ{a h'} ha hs b ob e=>by
  obtain⟨_,_,hfree⟩:=ha;refine(I.hok b ob e).stay (λc w' hc q=>(hs.2 c ?_).trans q) (λ_ q=>q) λ_ _ q=>q;rintro rfl;rcases hc with rfl | hc
  ·rw[hfree]at e;cases e
  ·rw[hfree]at hc;cases hc
 rcases hx with hk | hk
 ·refine wpAny_storeName_local hk hn (λh' hn' hs=>?_) hcls;obtain⟨oL,_,_,hoL,_⟩:=id hn;refine h _ ⟨I.ok,I.os,I.bare,⟨λb o e n hb hx=>?_,λb o e n hb hx=>?_,I.base.free,λb o e hx=>?_,I.base.tups,I.base.frzs,I.base.tbls⟩,⟨_,hn',λj y v' e1 e2 e3=>?_⟩,λy c e=>?_,I.free,I.freeC,λp hp=>?_,tracked ⟨oL,hoL,I.free⟩ hs,by simpa using I.len⟩ ⟨_,hs,.inl rfl⟩
  ·exact(hs.2 b (VT (Vg (VO e) I.ok.above))).trans (I.base.keep b o e n hb hx)
  ·obtain⟨sl,e1⟩:=I.base.slot b o e n hb hx;exact⟨sl,(hs.2 b (VT (Vg (VO e) I.ok.above))).trans e1⟩
  ·obtain⟨o',e1⟩:=I.base.there b o e hx;exact⟨o',(hs.2 b (VT (Vg (VO e) I.ok.above))).trans e1⟩
  ·by_cases hj:j=i
   ·subst hj;rw[hi]at e1;cases e1;rw[Vj hiσ]at e2;cases e2;exact⟨u,r,.inl ⟨hk,by simp⟩⟩
   ·rw[W5 (Ne.symm hj)]at e2;obtain⟨u',r',q⟩:=hl j y v' e1 e2 e3;refine⟨u',r',?_⟩;rcases q with⟨k,e⟩ | ⟨k,c,e,z⟩
    ·refine .inl ⟨k,?_⟩;have:y≠x:=λe=>hj (Fg hN e1 (e▸hi));simp[this,e]
    ·exact .inr ⟨k,c,e,z.sameBut hs (cne y c e)⟩
  ·obtain⟨w',z⟩:=I.cell y c e;exact⟨w',z.sameBut hs (cne y c e)⟩
  ·obtain⟨e,n,ne,nf,d⟩:=I.pin p hp;exact⟨(hs.2 p.1 ne).trans e,n,ne,nf,d⟩
 ·have hfn:X.fn x=true:=by
   rcases hf with z | z
   ·exact z
   ·rw[z]at hk;cases hk
  obtain⟨c,hc⟩:=I.ok.has x (.inl hk);obtain⟨w',z⟩:=I.cell x c hc;refine wpAny_storeName_cell I.ok.kind hk hc z (λh' hc' hs=>?_);obtain⟨oc,hoc,hocd⟩:=id z;refine h {s with heap:=h'} ⟨I.ok,I.os,I.bare,⟨λb o e n hb hx=>?_,λb o e n hb hx=>?_,I.base.free,λb o e hx=>?_,I.base.tups,I.base.frzs,I.base.tbls⟩,⟨m,hn.sameBut hs (Ne.symm (cne x c hc)),λj y v' e1 e2 e3=>?_⟩,λy c' e=>?_,I.free,I.freeC,λp hp=>?_,tracked ⟨oc,hoc,I.freeC x c hc⟩ hs,by simpa using I.len⟩ ⟨c,hs,.inr hc⟩
  ·exact(hs.2 b (VT (Vg (VO e) (I.ok.cab x c hfn hc)))).trans (I.base.keep b o e n hb hx)
  ·obtain⟨sl,e1⟩:=I.base.slot b o e n hb hx;exact⟨sl,(hs.2 b (VT (Vg (VO e) (I.ok.cab x c hfn hc)))).trans e1⟩
  ·obtain⟨o',e1⟩:=I.base.there b o e hx;exact⟨o',(hs.2 b (VT (Vg (VO e) (I.ok.cab x c hfn hc)))).trans e1⟩
  ·by_cases hj:j=i
   ·subst hj;rw[hi]at e1;cases e1;rw[Vj hiσ]at e2;cases e2;exact⟨u,r,.inr ⟨.inl hk,c,hc,hc'⟩⟩
   ·rw[W5 (Ne.symm hj)]at e2;obtain⟨u',r',q⟩:=hl j y v' e1 e2 e3;refine⟨u',r',?_⟩;rcases q with q | ⟨k,c',e,z'⟩
    ·exact .inl q
    ·refine .inr ⟨k,c',e,z'.sameBut hs ?_⟩;rintro rfl;exact hj (Fg hN e1 (I.ok.inj _ _ _ e hc▸hi))
  ·by_cases hcc:c'=c
   ·subst hcc;exact⟨_,hc'⟩
   ·obtain⟨w2,z2⟩:=I.cell y c' e;exact⟨w2,z2.sameBut hs hcc⟩
  ·obtain⟨e,n,ne,nf,d⟩:=I.pin p hp;refine⟨(hs.2 p.1 ?_).trans e,n,ne,nf,d⟩;intro q;rw[q,hoc]at e;have q':oc=p.2:=oj e;exact d w' (by rw[<-q'];exact hocd)
theorem C8{M:Model}{A:Z0}{E:Yn->Yo->Prop}{i:Nat}{x:Str}{v:V}{u:Yn}{Q:Unit->Yo->Prop}(I:Inv X pq σ H s)(hN:X.N.Nodup)(hi:X.N[i]?=some x)(hx:Loc X.env.scope x)(r:RelV v u)
 (h:∀ s',Inv X pq (σ.set i (some v)) H s'->Q () s') (hf:X.fn x=true\/X.env.scope.names.lookup x=some .local:=by first | exact .inl rfl | exact .inr rfl | assumption):Ys M A (storeName X.env x u) Q E s:=
 EH I hN hi hx r (λs' I' _=>h s' I') hf
theorem Inv.call'{s':Yo}{ch:List Yp}(I:Inv X pq σ H s)(ho:s'.os=s.os)(u:Un (frs X.stack) ch H H' s.heap s'.heap)(hok:HOk X.prog X.w H' s'.heap)(hg:AllBare s'.gens)
 (hch:∀ b∈ch,(b∈X.ex\/X.s₀.heap.objs.size<=b)/\b≠X.env.locals/\(∀ x c,X.env.cells.lookup x=some c->c≠b)/\∀ p∈X.pn++pq,p.1≠b):Inv X pq σ H' s':=by
 obtain⟨h',g',d',t',o'⟩:=s';have e:o'=s.os:=ho;subst e;exact I.call (g':=g') (t':=t') (d':=d') u hok hg hch
end
abbrev XK:=Yn->Option Yp->Hp->Prop
abbrev St:=List (Option V)
abbrev VK:=V->Hp->Prop
abbrev TE:=St->Hp->VK->Prop
abbrev TT:=St->Hp->(Bool->Hp->Prop)->Prop
abbrev TA:=St->Hp->(List V->Hp->Prop)->Prop
structure Ends where
 nx:St->Hp->Prop
 rt:VK
 bk:St->Hp->Prop:=λ_ _=>False
 ct:St->Hp->Prop:=λ_ _=>False
abbrev TS:=Ends->St->Hp->Prop
def EP(X:Cx)(pq:List (Yp×Obj))(σ:St)(Q:VK)(u:Yn)(s':Yo):Prop:=∃ v H',Inv X pq σ H' s'/\RelV v u/\Q v H'
def TP(X:Cx)(pq:List (Yp×Obj))(σ:St)(Q:Bool->Hp->Prop)(b:Bool)(s':Yo):Prop:=∃ H',Inv X pq σ H' s'/\Q b H'
def AP(X:Cx)(pq:List (Yp×Obj))(σ:St)(Q:List V->Hp->Prop)(us:List Yn)(s':Yo):Prop:=∃ vs H',Inv X pq σ H' s'/\Vals vs us/\Q vs H'
def SP(X:Cx)(pq:List (Yp×Obj))(D:Ends)(f:Flow)(s':Yo):Prop:=
 match f with
 | .next=>∃ σ' H',Inv X pq σ' H' s'/\D.nx σ' H'
 | .brk=>∃ σ' H',Inv X pq σ' H' s'/\D.bk σ' H'
 | .cont=>∃ σ' H',Inv X pq σ' H' s'/\D.ct σ' H'
 | .ret u=>∃ v σ' H',Inv X pq σ' H' s'/\RelV v u/\D.rt v H'
noncomputable def PE(X:Cx)(e:Expr)(t:TE):Prop:=
 ∀(pq:List (Yp×Obj)) (s:Yo) (σ:St) (H:Hp) (Q:VK),Inv X pq σ H s->t σ H Q->Ys (Yt X.prog X.w) X.A (eval e X.env) (EP X pq σ Q) X.xe s
noncomputable def PT(X:Cx)(e:Expr)(t:TT):Prop:=
 ∀(pq:List (Yp×Obj)) (s:Yo) (σ:St) (H:Hp) (Q:Bool->Hp->Prop),Inv X pq σ H s->t σ H Q->Ys (Yt X.prog X.w) X.A (isTrue e X.env (eval e X.env)) (TP X pq σ Q) X.xe s
noncomputable def PW(X:Cx)(e:Expr)(t:TT):Prop:=
 ∀(whole:Sem Yn) (pq:List (Yp×Obj)) (s:Yo) (σ:St) (H:Hp) (Q:Bool->Hp->Prop),Inv X pq σ H s->t σ H Q->Ys (Yt X.prog X.w) X.A (isTrue e X.env whole) (TP X pq σ Q) X.xe s
theorem PW.pt{X:Cx}{e:Expr}{t:TT}(h:PW X e t):PT X e t:=h _
noncomputable def PA(X:Cx)(es:List Expr)(t:TA):Prop:=
 ∀(pos:Pos) (pq:List (Yp×Obj)) (s:Yo) (σ:St) (H:Hp) (Q:List V->Hp->Prop),Inv X pq σ H s->t σ H Q->Ys (Yt X.prog X.w) X.A (spliced (backTo pos (Yy es X.env))) (AP X pq σ Q) X.xe s
noncomputable def PS(X:Cx)(st:Stmt)(t:TS):Prop:=
 ∀(pq:List (Yp×Obj)) (s:Yo) (σ:St) (H:Hp) (D:Ends),Inv X pq σ H s->t D σ H->Ys (Yt X.prog X.w) X.A (exec st X.env) (SP X pq D) X.xe s
noncomputable def PSs(X:Cx)(st:List Stmt)(t:TS):Prop:=
 ∀(pq:List (Yp×Obj)) (s:Yo) (σ:St) (H:Hp) (D:Ends),Inv X pq σ H s->t D σ H->Ys (Yt X.prog X.w) X.A (execs st X.env) (SP X pq D) X.xe s
theorem thn{α:Type}{t:Sem α}{Q Q':α->Yo->Prop}{M:Model}{A:Z0}{E:Yn->Yo->Prop}{s:Yo}(h:Ys M A t Q E s)(hQ:∀ a s,Q a s->Q' a s):Ys M A t Q' E s:=ZE h hQ λ_ _ x=>x
section
variable{X:Cx}
def OJ(i:Nat):TE:=λσ H Q=>∃ v,σ[i]?=some (some v)/\Q v H
def tC(v:V):TE:=λ_ H Q=>Q v H
theorem RC{i:Nat}{x:Str}{pos:Pos}(hN:X.N[i]?=some x)(hv:Vis X.env.scope x)(hd:(x == ("__debug__":Str))=false:=by decide)(hcd:(x == ("__classdict__":Str))=false:=by decide):PE X (.Name x pos) (OJ i):=by
 intro pq s σ H Q I h;obtain⟨v,e,h⟩:=h;obtain⟨m,hn,hl⟩:=I.loc;obtain⟨u,r,l⟩:=hl i x v hN e hv;have fin:EP X pq σ Q u s:=⟨v,H,I,r,h⟩
 rcases l with⟨hk,hm⟩ | ⟨hk,c,hc,hcell⟩
 ·exact A0x (wpAny_loadName_local I.ok.kind hk hn hm fin) hd
 ·rcases hk with hk | hk
  ·exact A0x (wpAny_loadName_cell I.ok.kind hk hc hcell fin) hd
  ·exact A0x (wpAny_loadName_free I.ok.kind hk hc hcell fin hcd) hd
theorem RD{i j pos}:PE X (.Constant (.int i) j pos) (tC (.int i)):=λ_ _ _ H _ I h=>wpAny_Constant_int ⟨.int i,H,I.tok _,⟨_,rfl⟩,h⟩
theorem TC{b j pos}:PE X (.Constant (.bool b) j pos) (tC (.bl b)):=λ_ _ _ H _ I h=>Constant_bool ⟨.bl b,H,I,rfl,h⟩
theorem RE{j pos}:PE X (.Constant .none j pos) (tC .non):=λ_ _ _ H _ I h=>Constant_none ⟨.non,H,I,rfl,h⟩
theorem RF{x j pos}:PE X (.Constant (.str x) j pos) (tC (.str x)):=λ_ _ _ H _ I h=>Calls.Constant_str ⟨.str x,H,I.tok _,⟨_,rfl⟩,h⟩
def Gl(X:Cx)(x:Str):Prop:=X.env.kindOf x=some .globalImplicit
theorem OK{E:Yn->Yo->Prop}{pq:List (Yp×Obj)}{s:Yo}{σ:St}{H:Hp}{x:Str}{u:Yn}{pos:Pos}{Q:Yn->Yo->Prop}(I:Inv X pq σ H s)(hg:Gl X x)(hm:X.mg x=some u)(h:Q u s)
 (hd:(x == ("__debug__":Str))=false:=by decide):Ys (Yt X.prog X.w) X.A (eval (.Name x pos) X.env) Q E s:=
 Calls.Name_function_global I.ok.kind hg (Calls.loadGlobal_global (by rw[I.ok.glob];exact I.mod.glob.keeps I.bk) hm h) hd
theorem BE{E:Yn->Yo->Prop}{pq:List (Yp×Obj)}{s:Yo}{σ:St}{H:Hp}{x:Str}{u:Yn}{pos:Pos}{Q:Yn->Yo->Prop}(I:Inv X pq σ H s)(hg:Gl X x)(hm:X.mg x=none)(hv:Yx x=some u)(h:Q u s)
 (hn:x≠"__name__":=by decide) (hd:(x == ("__debug__":Str))=false:=by decide):Ys (Yt X.prog X.w) X.A (eval (.Name x pos) X.env) Q E s:=by
 obtain⟨mb,h1,h2⟩:=I.mod.blt;exact Calls.Name_function_global I.ok.kind hg (Calls.loadGlobal_builtin (by rw[I.ok.glob];exact I.mod.glob.keeps I.bk) hm (by rw[I.ok.blt];exact h1.keeps I.bk) ((h2 x hn).trans hv) h) hd
theorem OL{x:Str}{v:V}{u:Yn}{pos:Pos}(hg:Gl X x)(hm:X.mg x=none)(hv:Yx x=some u)(r:RelV v u)(hn:x≠"__name__":=by decide)(hd:(x == ("__debug__":Str))=false:=by decide):PE X (.Name x pos) (tC v):=
 λ_ _ _ H _ I h=>BE I hg hm hv ⟨v,H,I,r,h⟩ hn hd
variable{a b:Expr}{ta tb:TE}{pos:Pos}
variable{tA tB':TT}{rest:List Expr}
def TD(t u:TT):TT:=λσ H Q=>t σ H λc H1=>if c=true then u σ H1 Q else Q false H1
def tOr(t u:TT):TT:=λσ H Q=>t σ H λc H1=>if c=true then Q true H1 else u σ H1 Q
def TF(t:TT):TT:=λσ H Q=>t σ H λc H1=>Q (!c) H1
theorem OM(ha:PT X a tA):PW X (.BoolOp .And [a] pos) tA:=by
 intro wh pq s σ H Q I h;refine isTrue_and (thn (ha pq s σ H Q I h) λc s1 e=>?_);cases c with
 | true=>exact isTrue_and_nil e
 | false=>exact e
theorem RG(ha:PT X a tA):PW X (.BoolOp .Or [a] pos) tA:=by
 intro wh pq s σ H Q I h;refine isTrue_or (thn (ha pq s σ H Q I h) λc s1 e=>?_);cases c with
 | false=>exact isTrue_or_nil e
 | true=>exact e
theorem Lb(ha:PT X a tA)(hb:PW X (.BoolOp .And (b::rest) pos) tB'):PW X (.BoolOp .And (a::b::rest) pos) (TD tA tB'):=by
 intro wh pq s σ H Q I h;refine isTrue_and (thn (ha pq s σ H _ I h) λc s1 ⟨H1,I1,q1⟩=>?_);cases c with
 | true=>exact hb wh pq s1 σ H1 Q I1 q1
 | false=>exact⟨H1,I1,q1⟩
theorem QO(ha:PT X a tA)(hb:PW X (.BoolOp .Or (b::rest) pos) tB'):PW X (.BoolOp .Or (a::b::rest) pos) (tOr tA tB'):=by
 intro wh pq s σ H Q I h;refine isTrue_or (thn (ha pq s σ H _ I h) λc s1 ⟨H1,I1,q1⟩=>?_);cases c with
 | true=>exact⟨H1,I1,q1⟩
 | false=>exact hb wh pq s1 σ H1 Q I1 q1
theorem RH(ha:PT X a tA):PT X (.UnaryOp .Not a pos) (TF tA):=by
 intro pq s σ H Q I h;exact isTrue_not (ha pq s σ H (λc H1=>Q (!c) H1) I h)
def QP(ta tb:TE):TE:=λσ H Q=>ta σ H λx H1=>∃ c,x = .bl c/\if c=true then tb σ H1 Q else Q (.bl false) H1
def TH(ta tb:TE):TE:=λσ H Q=>ta σ H λx H1=>∃ c,x = .bl c/\if c=true then Q (.bl true) H1 else tb σ H1 Q
def QQ(ta:TE):TE:=λσ H Q=>ta σ H λx H1=>∃ c,x = .bl c/\Q (.bl (!c)) H1
theorem Lc{op}{t:TE}(h:PE X a t):PE X (.BoolOp op [a] pos) t:=λpq s σ H Q I hw=>BoolOp_one (h pq s σ H Q I hw)
theorem Ld(ha:PE X a ta)(hb:PE X (.BoolOp .And (b::rest) pos) tb):PE X (.BoolOp .And (a::b::rest) pos) (QP ta tb):=by
 intro pq s σ H Q I h;refine BoolOp_and (thn (ha pq s σ H _ I h) λv s1 ⟨x,H1,I1,r1,q1⟩=>?_);obtain⟨c,rfl,q1⟩:=q1;cases r1;refine Z3 ?_;cases c with
 | true=>exact hb pq s1 σ H1 Q I1 q1
 | false=>exact⟨.bl false,H1,I1,rfl,q1⟩
theorem QR(ha:PE X a ta)(hb:PE X (.BoolOp .Or (b::rest) pos) tb):PE X (.BoolOp .Or (a::b::rest) pos) (TH ta tb):=by
 intro pq s σ H Q I h;refine BoolOp_or (thn (ha pq s σ H _ I h) λv s1 ⟨x,H1,I1,r1,q1⟩=>?_);obtain⟨c,rfl,q1⟩:=q1;cases r1;refine Z3 ?_;cases c with
 | false=>exact hb pq s1 σ H1 Q I1 q1
 | true=>exact⟨.bl true,H1,I1,rfl,q1⟩
theorem RI(ha:PE X a ta):PE X (.UnaryOp .Not a pos) (QQ ta):=by
 intro pq s σ H Q I h;refine UnaryOp_ (thn (ha pq s σ H _ I h) λv s1 ⟨x,H1,I1,r1,q1⟩=>?_);obtain⟨c,rfl,q1⟩:=q1;cases r1;exact not_of (Z3 ⟨.bl (!c),H1,I1,rfl,q1⟩)
def tIf(t:TT)(ta tb:TE):TE:=λσ H Q=>t σ H λc H1=>if c=true then ta σ H1 Q else tb σ H1 Q
theorem Lf{c:Expr}(hc:PT X c tA)(ha:PE X a ta)(hb:PE X b tb):PE X (.IfExp c a b pos) (tIf tA ta tb):=by
 intro pq s σ H Q I h;refine wpAny_IfExp (thn (hc pq s σ H _ I h) λd s1 ⟨H1,I1,q1⟩=>?_);cases d with
 | true=>exact ha pq s1 σ H1 Q I1 q1
 | false=>exact hb pq s1 σ H1 Q I1 q1
end
def SqL(K:V8)(H:Hp)(a:Yp)(xs:List V):Prop:=
 Rd H a (.lst xs)\/
  ∃(o:Obj) (its:Array Yn) (n:Nat),K.lookup a=some o/\o.cls = .type "list"/\o.dict=none/\o.data = .seq its n/\its.size<=Yr/\Vals xs its.toList
def SqT(K:V8)(H:Hp)(a:Yp)(xs:List V):Prop:=
 Rd H a (.tup xs)\/
  ∃(o:Obj) (its:Array Yn) (n:Nat),K.lookup a=some o/\o.cls = .type "tuple"/\o.data = .seq its n/\its.size<=Yr/\Vals xs its.toList
def Ul:Yn->Option V
 | .none=>some .non
 | .bool b=>some (.bl b)
 | .int i _=>some (.int i)
 | .str x _=>some (.str x)
 | .bytes b _=>some (.byt b)
 | .float b _=>some (.flt b)
 | .ref a=>some (.ref a)
 | .type n=>some (.ty n)
 | _=>none
theorem RelV.abs{x:V}{u:Yn}(r:RelV x u):Ul u=some x:=by
 cases x with
 | non=>cases r;rfl
 | bl _=>cases r;rfl
 | int _=>obtain⟨t,rfl⟩:=r;rfl
 | str _=>obtain⟨t,rfl⟩:=r;rfl
 | byt _=>obtain⟨t,rfl⟩:=r;rfl
 | flt _=>obtain⟨t,rfl⟩:=r;rfl
 | ref _=>cases r;rfl
 | ty _=>cases r;rfl
theorem RelV.inj{x y:V}{u:Yn}(r:RelV x u)(q:RelV y u):x=y:=oj (r.abs.symm.trans q.abs)
theorem Vals.inj:∀{xs ys:List V} {us:List Yn},Vals xs us->Vals ys us->xs=ys
 | _,_,_,.nil,.nil=>rfl
 | _,_,_,.cons r t,.cons r' t'=>by rw[r.inj r',Vals.inj t t']
section
variable{X:Cx}{pq:List (Yp×Obj)}{σ:St}{H:Hp}{s:Yo}{a:Yp}{xs ys:List V}
theorem SqL.of{K:V8}(h:H a=some (.lst xs)):SqL K H a xs := .inl (.inl h)
theorem SqT.of{K:V8}(h:H a=some (.tup xs)):SqT K H a xs := .inl (.inl h)
theorem Inv.list(I:Inv X pq σ H s)(h:SqL X.K H a xs):∃ its:List Yn,Vals xs its/\PlainL s.heap a its.toArray/\xs.length<=Yr:=by
 rcases h with h | ⟨o,its,n,hk,hc,hd,hs,hz,r⟩
 ·obtain⟨z,its,n,r,e⟩:=h.ok I.hok;exact⟨its,r,⟨_,n,e,rfl,rfl,rfl⟩,z⟩
 ·refine⟨its.toList,r,⟨o,n,I.kIn a o hk,hc,hd,by simpa using hs⟩,?_⟩;have e:=r.length;simp only[Wp]at e;omega
theorem Inv.tuple(I:Inv X pq σ H s)(h:SqT X.K H a xs):∃ its:List Yn,Vals xs its/\IsTup s.heap a its.toArray/\xs.length<=Yr:=by
 rcases h with h | ⟨o,its,n,hk,hc,hs,hz,r⟩
 ·obtain⟨z,its,r,p⟩:=h.ok I.hok;exact⟨its,r,p,z⟩
 ·refine⟨its.toList,r,⟨o,I.kIn a o hk,hc,n,by simpa using hs⟩,?_⟩;have e:=r.length;simp only[Wp]at e;omega
theorem Inv.list_inj(I:Inv X pq σ H s)(h:SqL X.K H a xs)(h':SqL X.K H a ys):xs=ys:=by
 obtain⟨its,r,⟨o,n,e,_,_,d⟩,_⟩:=I.list h;obtain⟨its',r',⟨o',n',e',_,_,d'⟩,_⟩:=I.list h';rw[e]at e';cases e';rw[d]at d';injection d' with d1 _;have:its=its':=by simpa using congrArg Yf d1
 subst this;exact r.inj r'
theorem Inv.tuple_inj(I:Inv X pq σ H s)(h:SqT X.K H a xs)(h':SqT X.K H a ys):xs=ys:=by
 obtain⟨its,r,⟨o,e,_,n,d⟩,_⟩:=I.tuple h;obtain⟨its',r',⟨o',e',_,n',d'⟩,_⟩:=I.tuple h';rw[e]at e';cases e';rw[d]at d';injection d' with d1 _;have:its=its':=by simpa using congrArg Yf d1
 subst this;exact r.inj r'
end
abbrev Cx.wish(X:Cx)(E:Yn->Yo->Prop):Cx:={X with xe:=E}
abbrev Cx.nox(X:Cx):Cx:=X.wish λ_ _=>False
theorem Cx.Ok.wish{X:Cx}(ok:X.Ok)(E:Yn->Yo->Prop):(X.wish E).Ok:=
 ⟨ok.mod,ok.kind,ok.glob,ok.blt,ok.above,ok.inj,ok.has,ok.cab,ok.hd,ok.frames,ok.stk,ok.exf,ok.bs,ok.bsz,ok.noex,ok.exfs,ok.funs,ok.frf⟩
theorem Cx.Ok.unwish{X:Cx}{E:Yn->Yo->Prop}(ok:(X.wish E).Ok):X.Ok:=
 ⟨ok.mod,ok.kind,ok.glob,ok.blt,ok.above,ok.inj,ok.has,ok.cab,ok.hd,ok.frames,ok.stk,ok.exf,ok.bs,ok.bsz,ok.noex,ok.exfs,ok.funs,ok.frf⟩
section
variable{X:Cx}{pq:List (Yp×Obj)}{σ:St}{H:Hp}{s:Yo}{E:Yn->Yo->Prop}
theorem Inv.wish(I:Inv X pq σ H s)(E:Yn->Yo->Prop):Inv (X.wish E) pq σ H s:=⟨I.ok.wish E,I.os,I.bare,I.base,I.loc,I.cell,I.free,I.freeC,I.pin,I.hok,I.len⟩
theorem Inv.unwish(I:Inv (X.wish E) pq σ H s):Inv X pq σ H s:=⟨I.ok.unwish,I.os,I.bare,I.base,I.loc,I.cell,I.free,I.freeC,I.pin,I.hok,I.len⟩
theorem SP.unwish{D:Ends}{f:Flow}{s':Yo}(h:SP (X.wish E) pq D f s'):SP X pq D f s':=by
 cases f with
 | next=>obtain⟨σ',H',I,q⟩:=h;exact⟨σ',H',I.unwish,q⟩
 | brk=>obtain⟨σ',H',I,q⟩:=h;exact⟨σ',H',I.unwish,q⟩
 | cont=>obtain⟨σ',H',I,q⟩:=h;exact⟨σ',H',I.unwish,q⟩
 | ret u=>obtain⟨v,σ',H',I,r,q⟩:=h;exact⟨v,σ',H',I.unwish,r,q⟩
theorem PSs.nox{st:List Stmt}{t:TS}(h:PSs X.nox st t):PSs X st t:=λpq s σ H D I hw=>
 ZE (h pq s σ H D (I.wish _) hw) (λ_ _ q=>q.unwish) λ_ _ z=>False.elim z
end
section
variable{X:Cx}{st:Stmt}{rest:List Stmt}{t u:TS}{e:Expr}{te:TE}{pos:Pos}
def TJ:TS:=λD σ H=>D.nx σ H
def Um(t u:TS):TS:=λD σ H=>t {D with nx:=u D} σ H
theorem ON:PSs X [] TJ:=λ_ _ σ H _ I h=>Zl ⟨σ,H,I,h⟩
theorem Lg(h1:PS X st t)(h2:PSs X rest u):PSs X (st::rest) (Um t u):=by
 intro pq s σ H D I h;refine wpAny_execs_cons (thn (h1 pq s σ H {D with nx:=u D} I h) λf s1 q=>?_);cases f with
 | next=>
   obtain⟨σ',H',I',q⟩:=q;exact h2 pq s1 σ' H' D I' q
 | ret v=>exact q
 | brk=>exact q
 | cont=>exact q
theorem Inv.quiet{pq:List (Yp×Obj)}{σ:St}{H:Hp}{s:Yo}(I:Inv X pq σ H s):interactive X.env=false:=by simp[interactive,I.ok.kind]
def TK(te:TE):TS:=λD σ H=>te σ H λ_ H1=>D.nx σ H1
theorem OO(he:PE X e te)(hs:ZN e none pos.line X.env=pure false:=by rfl):PS X (.Expr e pos) (TK te):=by
 intro pq s σ H D I h;exact wpAny_Expr_any (thn (he pq s σ H _ I h) λv s1 ⟨x,H1,I1,r1,q1⟩=>⟨σ,H1,I1,q1⟩) I.quiet hs
def Uo(te:TE):TS:=λD σ H=>te σ H D.rt
theorem RJ(he:PE X e te):PS X (.Return (some e) pos) (Uo te):=by
 intro pq s σ H D I h;exact wpAny_Return_some (thn (he pq s σ H _ I h) λv s1 ⟨x,H1,I1,r1,q1⟩=>⟨x,σ,H1,I1,r1,q1⟩)
def TL(c:TT)(t u:TS):TS:=λD σ H=>c σ H λb H1=>if b=true then t D σ H1 else u D σ H1
theorem TM{c:Expr}{a b:List Stmt}{tc:TT}(hc:PT X c tc)(ha:PSs X a t)(hb:PSs X b u):PS X (.If c a b pos) (TL tc t u):=by
 intro pq s σ H D I h;refine wpAny_If (thn (hc pq s σ H _ I h) λd s1 ⟨H1,I1,q1⟩=>?_);cases d with
 | true=>exact ha pq s1 σ H1 D I1 q1
 | false=>exact hb pq s1 σ H1 D I1 q1
end
abbrev TG:=V->St->Hp->(St->Hp->Prop)->Prop
abbrev TGs:=List V->St->Hp->(St->Hp->Prop)->Prop
noncomputable def PG(X:Cx)(target:Expr)(t:TG):Prop:=
 ∀(pq:List (Yp×Obj)) (s:Yo) (σ:St) (H:Hp) (v:V) (u:Yn) (Q:St->Hp->Prop),Inv X pq σ H s->RelV v u->t v σ H Q->
  Ys (Yt X.prog X.w) X.A (assign target X.env u) (λ_ s'=>∃ σ' H',Inv X pq σ' H' s'/\Q σ' H') X.xe s
noncomputable def PGs(X:Cx)(ts:List Expr)(t:TGs):Prop:=
 ∀(pq:List (Yp×Obj)) (s:Yo) (σ:St) (H:Hp) (vs:List V) (us:List Yn) (Q:St->Hp->Prop),Inv X pq σ H s->Vals vs us->t vs σ H Q->
  Ys (Yt X.prog X.w) X.A (A0d ((ZF ts X.env).map (·.2)) us) (λ_ s'=>∃ σ' H',Inv X pq σ' H' s'/\Q σ' H') X.xe s
abbrev Lh:=V->V->V->Hp->(Hp->Prop)->Prop
noncomputable def RK(X:Cx)(t:Lh):Prop:=
 ∀(pq:List (Yp×Obj)) (s:Yo) (σ:St) (H:Hp) (o i v:V) (ov iv u:Yn) (Q:Hp->Prop),Inv X pq σ H s->RelV o ov->RelV i iv->RelV v u->t o i v H Q->
  Ys (Yt X.prog X.w) X.A (setItem ov iv u) (λ_ s'=>∃ H',Inv X pq σ H' s'/\Q H') X.xe s
abbrev TIp:=V->V->Hp->VK->Prop
noncomputable def PIp(X:Cx)(op:ZS)(t:TIp):Prop:=
 ∀(pq:List (Yp×Obj)) (s:Yo) (σ:St) (H:Hp) (x y:V) (v u:Yn) (Q:VK),Inv X pq σ H s->RelV x v->RelV y u->t x y H Q->
  Ys (Yt X.prog X.w) X.A (inplaceOp op v u) (EP X pq σ Q) X.xe s
section
variable{X:Cx}{pos:Pos}
def Ip(i:Nat):TG:=λv σ H Q=>Q (σ.set i (some v)) H
theorem OP{i:Nat}{x:Str}(hN:X.N.Nodup)(hi:X.N[i]?=some x)(hx:Loc X.env.scope x)(hf:X.fn x=true\/X.env.scope.names.lookup x=some .local:=by first | exact .inl rfl | exact .inr rfl | assumption):PG X (.Name x pos) (Ip i):=by
 intro pq s σ H v u Q I r h;exact A0j (C8 I hN hi hx r (λs' I'=>⟨_,H,I',h⟩) hf)
def TN:TGs:=λvs σ H Q=>vs=[]/\Q σ H
def Li(t:TG)(u:TGs):TGs:=λvs σ H Q=>∃ v r,vs=v::r/\t v σ H λσ' H'=>u r σ' H' Q
theorem Iq:PGs X [] TN:=by
 intro pq s σ H vs us Q I r h;obtain⟨e,h⟩:=h;subst e;cases r;exact A0k ⟨σ,H,I,h⟩
theorem D7{e:Expr}{es:List Expr}{t:TG}{u:TGs}(h1:PG X e t)(h2:PGs X es u)
 (hs:(ZF (e::es) X.env).map (·.2)=assign e X.env::(ZF es X.env).map (·.2):=by rfl):PGs X (e::es) (Li t u):=by
 intro pq s σ H vs us Q I r h;obtain⟨v,vr,e1,h⟩:=h;subst e1;cases r with
 | cons r rr=>
   rw[hs];refine Zo (thn (h1 pq s σ H _ _ _ I r h) λ_ s1 ⟨σ1,H1,I1,q1⟩=>?_);exact h2 pq s1 σ1 H1 _ _ Q I1 rr q1
def TQ(K:V8)(n:Nat)(t:TGs):TG:=λv σ H Q=>∃ a xs,v = .ref a/\SqT K H a xs/\xs.length=n/\t xs σ H Q
theorem Lj{es:List Expr}{k:Nat}{t:TGs}{n:Nat}(hc:X.calm=true)(h:PGs X es t)
 (hn:(ZF es X.env).length=n:=by rfl) (hst:(ZF es X.env).findIdx? (·.1)=none:=by rfl):PG X (.Tuple es k pos) (TQ X.K n t):=by
 intro pq s σ H v u Q I r hw;obtain⟨a,xs,e1,hq,hl,hw⟩:=hw;subst e1;cases r;obtain⟨its,rv,ht,hz⟩:=I.tuple hq;refine assign_Tuple_tuple (I.ok.hd hc) ht (by simp[hn,<-hl,rv.length]) hst λh' hx=>?_;have I1:Inv X pq σ H {s with heap:=h'}:=I.kept (t':=s.toks) λb o e=>hx b o (VT (VO e)) e;exact h pq _ σ H xs _ Q I1 (by simpa using rv) hw
def OQ(to ti:TE)(t:Lh):TG:=λv σ H Q=>to σ H λo H1=>ti σ H1 λi H2=>t o i v H2 λH3=>Q σ H3
theorem HW{o i:Expr}{to ti:TE}{t:Lh}(ho:PE X o to)(hi:PE X i ti)(hs:RK X t)
 (ha:∀ v,assign (.Subscript o i pos) X.env v=(do
   let ov <- holding [v] (eval o X.env)
   let iv <- holding [v,ov] (eval i X.env)
   standAt pos
   holding [v,ov,iv] (setItem ov iv v)
   release [v,ov,iv] []):=by intro _;rfl):PG X (.Subscript o i pos) (OQ to ti t):=by
 intro pq s σ H v u Q I r h;rw[ha];refine Ym (Z6 (thn (ho pq s σ H _ I h) λov s1 ⟨x,H1,I1,r1,q1⟩=>?_));refine Ym (Z6 (thn (hi pq s1 σ H1 _ I1 q1) λiv s2 ⟨y,H2,I2,r2,q2⟩=>?_));refine Ym (Zk (Ym (Z6 (thn (hs pq s2 σ H2 x y v ov iv u _ I2 r1 r2 r q2) λ_ s3 ⟨H3,I3,q3⟩=>?_))));exact wpAny_release ⟨σ,H3,I3,q3⟩
def HX(te:TE)(g:TG):TS:=λD σ H=>te σ H λx H1=>g x σ H1 D.nx
theorem HY{tg e:Expr}{te:TE}{g:TG}(he:PE X e te)(hg:PG X tg g)(hs:ZZ [tg] e pos.line X.env=pure false:=by rfl)(hw:Z4 [tg] e X.env=pure none:=by rfl)
 (h1:(ZF [tg] X.env).map (·.2)=[assign tg X.env]:=by rfl):PS X (.Assign [tg] e pos) (HX te g):=by
 intro pq s σ H D I h;refine wpAny_Assign_stores (thn (he pq s σ H _ I h) λv s1 ⟨x,H1,I1,r1,q1⟩=>?_) hs hw;rw[h1];exact thn (hg pq s1 σ H1 x v _ I1 r1 q1) λ_ s2 q=>q
theorem RL{i:Nat}{x:Str}{e:Expr}{te:TE}{pos':Pos}(hN:X.N.Nodup)(hi:X.N[i]?=some x)(hx:Loc X.env.scope x)(he:PE X e te)(hs:ZN e (some (.Name x pos')) pos.line X.env=pure false:=by rfl)(hf:X.fn x=true\/X.env.scope.names.lookup x=some .local:=by first | exact .inl rfl | exact .inr rfl | assumption):
 PS X (.Assign [.Name x pos'] e pos) (HX te (Ip i)):=by
 intro pq s σ H D I h;refine wpAny_Assign_Name (thn (he pq s σ H _ I h) λv s1 ⟨y,H1,I1,r1,q1⟩=>?_) hs;exact C8 I1 hN hi hx r1 (λs2 I2=>⟨_,H1,I2,q1⟩) hf
def TR(i j:Nat)(ta:TA):TS:=λD σ H=>ta σ H λvs H1=>∃ v w,vs=[v,w]/\D.nx ((σ.set i (some v)).set j (some w)) H1
theorem RM{i j:Nat}{x y:Str}{a b:Expr}{ta:TA}{px py pt:Pos}{kt k2 pt2}(hc:X.calm=true)(hN:X.N.Nodup)(hi:X.N[i]?=some x)(hj:X.N[j]?=some y)(hij:i≠j)
 (hx:X.env.scope.names.lookup x=some .local) (hy:X.env.scope.names.lookup y=some .local) (ha:PA X [a,b] ta)
 (hw:Z4 [.Tuple [.Name x px,.Name y py] kt pt] (.Tuple [a,b] k2 pt2) X.env=pure (some [x,y]))
 (hs:ZZ [.Tuple [.Name x px,.Name y py] kt pt] (.Tuple [a,b] k2 pt2) pos.line X.env=pure false:=by rfl):
 PS X (.Assign [.Tuple [.Name x px,.Name y py] kt pt] (.Tuple [a,b] k2 pt2) pos) (TR i j ta):=by
 intro pq s σ H D I h;rw[exec_Assign_arm];refine Ym (Zk ?_);rw[hs];refine Ym (Yq ?_);rw[iG (by decide)];refine Ym (Tuple_ (thn (ha _ pq s σ H _ I h) λus s1 ⟨vs,H1,I1,r1,q1⟩=>?_));obtain⟨v,w,e1,q1⟩:=q1;subst e1
 obtain⟨u1,u2,rfl,rv,rw'⟩:∃ u1 u2,us=[u1,u2]/\RelV v u1/\RelV w u2:=by
  cases r1 with
  | cons p q=>
    cases q with
    | cons p' q'=>
      cases q';exact⟨_,_,rfl,p,p'⟩
 refine Yz ?_ (by show 2<=Yr;decide);have I2:Inv X pq σ H1 {s1 with heap:=s1.heap.push {cls := .type "tuple",data := .seq [u1,u2].toArray}}:=I1.kept (t':=s1.toks) λb o e=>VG _ e;rw[hw];refine Ym (Yq ?_);show Ys (Yt X.prog X.w) X.A (do rule "assign.swapped-stores";let items <- unpackItems (.ref s1.heap.objs.size) 2 none;A0d [λv=>A0y X.env y v,λv=>A0y X.env x v] items.reverse;pure Flow.next) _ _ _;refine Ym (Zi (Ym (unpackItems_tuple (items:=#[u1,u2]) (I.ok.hd hc) (IsTup.new s1.heap _) λh' hx'=>?_)));have I3:=I2.kept (h':=h') (t':=s1.toks) λb o e=>hx' b o (VT (VO e)) e;show Ys _ _ (A0d [λv=>A0y X.env y v,λv=>A0y X.env x v] [u2,u1] >>= λ_=>pure Flow.next) _ _ _;refine Ym (Zo (A0z (C8 I3 hN hj (.inl hy) rw' (λs2 I4=>?_) (.inr hy))));refine Zo (A0z (C8 I4 hN hi (.inl hx) rv (λs3 I5=>A0k (Yq ?_)) (.inr hx)));rw[List.set_comm _ _ (Ne.symm hij)]at I5;exact⟨_,H1,I5,q1⟩
def QS(to ti te:TE)(tget:V->V->Hp->VK->Prop)(tip:TIp)(tset:Lh):TS:=λD σ H=>to σ H λo H1=>ti σ H1 λi H2=>tget o i H2 λx H3=>te σ H3 λy H4=>tip x y H4 λz H5=>tset o i z H5 λH6=>D.nx σ H6
noncomputable def TU(X:Cx)(t:V->V->Hp->VK->Prop):Prop:=
 ∀(pq:List (Yp×Obj)) (s:Yo) (σ:St) (H:Hp) (o i:V) (ov iv:Yn) (Q:VK),Inv X pq σ H s->RelV o ov->RelV i iv->t o i H Q->
  Ys (Yt X.prog X.w) X.A (getItem ov iv) (EP X pq σ Q) X.xe s
theorem OR{o i e:Expr}{to ti te:TE}{tget:V->V->Hp->VK->Prop}{tip:TIp}{tset:Lh}{op:ZS}{tpos:Pos}(ho:PE X o to)(hi:PE X i ti)(hg:TU X tget)(he:PE X e te)(hp:PIp X op tip)(hs:RK X tset)
 (ha:∀ ov iv new,augStore i ov iv new=(do holding [new,ov,iv] (setItem ov iv new);release [new,ov,iv] [];pure .next):=by intros;rfl):PS X (.AugAssign (.Subscript o i tpos) op e pos) (QS to ti te tget tip tset):=by
 intro pq s σ H D I h;refine wpAny_AugAssign_SubscriptAny (thn (ho pq s σ H _ I h) λov s1 ⟨x1,H1,I1,r1,q1⟩=>?_) ha;refine thn (hi pq s1 σ H1 _ I1 q1) λiv s2 ⟨x2,H2,I2,r2,q2⟩=>?_;refine thn (hg pq s2 σ H2 x1 x2 ov iv _ I2 r1 r2 q2) λold s3 ⟨x3,H3,I3,r3,q3⟩=>?_;refine thn (he pq s3 σ H3 _ I3 q3) λv s4 ⟨x4,H4,I4,r4,q4⟩=>?_;refine thn (hp pq s4 σ H4 x3 x4 old v _ I4 r3 r4 q4) λnew s5 ⟨x5,H5,I5,r5,q5⟩=>?_;exact thn (hs pq s5 σ H5 x1 x2 x5 ov iv new _ I5 r1 r2 r5 q5) λ_ s6 ⟨H6,I6,q6⟩=>⟨σ,H6,I6,q6⟩
def ipI(f:Int->Int->Int):TIp:=λx y H Q=>∃ i j,x = .int i/\y = .int j/\Q (.int (f i j)) H
theorem RN:PIp X .Add (ipI λi j=>i+j):=by
 intro pq s σ H x y v u Q I r1 r2 h;obtain⟨i,j,e1,e2,q⟩:=h;subst e1;subst e2;obtain⟨t,rfl⟩:=r1;obtain⟨t',rfl⟩:=r2;exact iadd_int ⟨.int _,H,I.tok _,⟨_,rfl⟩,q⟩
noncomputable def Lk(c:TT)(tb:TS):TS:=λD σ H=>∃ W:Nat->St->Hp->Prop,(∃ m,W m σ H)/\∀ m σ H,W m σ H->
 c σ H λb H1=>if b=true then ∃ N:St->Hp->Prop,(∀ σ' H',N σ' H'->∃ m',m'<m/\W m' σ' H')/\tb {D with nx:=N,ct:=N,bk:=D.nx} σ H1 else D.nx σ H1
theorem Ll{c:Expr}{body:List Stmt}{tc:TT}{tb:TS}(hp:A0q (Yt X.prog X.w) X.A X.env X.xe)(hc:PT X c tc)(hb:PSs X body tb):PS X (.While c body [] pos) (Lk tc tb):=by
 intro pq s σ H D I h;obtain⟨W,⟨m0,w0⟩,turn⟩:=h;refine wpAny_While (codeAny_whileLoop (λn s'=>∃ σ' H',Inv X pq σ' H' s'/\W n σ' H') ?_ m0 ⟨σ,H,I,w0⟩);rintro n s1 ⟨σ1,H1,I1,w1⟩;refine ZJ hp (thn (hc pq s1 σ1 H1 _ I1 (turn n σ1 H1 w1)) λb s2 ⟨H2,I2,q2⟩=>?_);cases b with
 | true=>
   obtain⟨N,hN,q2⟩:=q2;rw[iP rfl];refine ZJ hp (thn (hb pq s2 σ1 H2 _ I2 q2) λf s3 q3=>?_);cases f with
   | next=>
     obtain⟨σ3,H3,I3,n3⟩:=q3;obtain⟨m',hm,w3⟩:=hN σ3 H3 n3;exact⟨m',hm,σ3,H3,I3,w3⟩
   | cont=>
     obtain⟨σ3,H3,I3,n3⟩:=q3;obtain⟨m',hm,w3⟩:=hN σ3 H3 n3;exact⟨m',hm,σ3,H3,I3,w3⟩
   | brk=>exact q3
   | ret v=>exact q3
 | false=>
   rw[iG VJ];exact Zl ⟨σ1,H2,I2,q2⟩
end
structure It where
 go:Nat->Hp->Prop
 yld:Nat->Hp->V->Hp->Prop
 stop:Nat->Hp->Prop
def FpOk(X:Cx)(pq:List (Yp×Obj))(H:Hp)(b:Yp):Prop:=
 H b=none/\b≠X.env.locals/\b∉X.fs/\(b∈X.ex\/X.s₀.heap.objs.size<=b)/\(∀ x c,X.env.cells.lookup x=some c->c≠b)/\∀ p∈X.pn++pq,p.1≠b
theorem Inv.fpOk{X:Cx}{pq:List (Yp×Obj)}{σ:St}{H H':Hp}{s:Yo}{b:Yp}(I:Inv X pq σ H s)(hb:s.heap.objs.size<=b)(hn:H' b=none):FpOk X pq H' b:=by
 refine⟨hn,Nat.ne_of_gt (Vg I.lt hb),I.nofs hb,.inr (Vc I.sz hb),λx c e z=>?_,λp hp z=>?_⟩
 ·obtain⟨v,q⟩:=I.cell x c e;exact absurd (Vg q.lt (by rw[z];exact hb)) (Wn _)
 ·exact absurd (Vg (VO (I.pin p hp).1) (by rw[z];exact hb)) (Wn _)
structure Turn(P:Yu)(w:Yw)(K:V8)(tg:Expr)(J:It)(fp:List Yp)(it:Yp)(tn:Nat->Heap->Prop):Prop where
 mem:it∈fp
 obj:∀ i h,tn i h->∀ b∈fp,∃ o,h.get? b=some o/\∀ v,o.data ≠ .cell v
 keep:∀ i h h',tn i h->(∀ b∈fp,∀ o,h.get? b=some o->h'.get? b=some o)->tn i h'
 item:∀(X:Cx),X.prog=P->X.w=w->X.K=K->X.calm=true->∀(i:Nat) (pq:List (Yp×Obj)) (s:Yo) (σ:St) (H:Hp) (E:Yn->Yo->Prop),Inv X pq σ H s->(∀ b∈fp,FpOk X pq H b)->tn i s.heap->J.go i H->
  Ys (Yt P w) X.A (pyNext (.ref it)) (λr s1=>∃ u,r=some u/\
   Ys (Yt P w) X.A (Zb tg (.ref it) u) (λ_ s2=>∃ x H',Inv X pq σ H' s2/\RelV x u/\J.yld i H x H'/\tn (i+1) s2.heap/\∀ b∈fp,H' b=none) E s1) E s
 done:∀(X:Cx),X.prog=P->X.w=w->X.K=K->X.calm=true->∀(i:Nat) (pq:List (Yp×Obj)) (s:Yo) (σ:St) (H:Hp) (E:Yn->Yo->Prop),Inv X pq σ H s->(∀ b∈fp,FpOk X pq H b)->tn i s.heap->J.stop i H->
   Ys (Yt P w) X.A (pyNext (.ref it)) (λr s1=>r=none/\Inv X pq σ H s1) E s
 self:∀(A:Z0) (i:Nat) (s:Yo) (Q:Yn->Yo->Prop) (E:Yn->Yo->Prop),tn i s.heap->Q (.ref it) s->Ys (Yt P w) A (pyIter (.ref it)) Q E s
abbrev TI:=St->Hp->(It->Hp->Prop)->Prop
noncomputable def PIE(X:Cx)(pq:List (Yp×Obj))(σ:St)(tg:Expr)(R:It->Hp->Prop)(itv:Yn)(s2:Yo):Prop:=
 ∃(it:Yp) (fp:List Yp) (tn:Nat->Heap->Prop) (J:It) (H':Hp),itv = .ref it/\Inv X pq σ H' s2/\Turn X.prog X.w X.K tg J fp it tn/\tn 0 s2.heap/\(∀ b∈fp,FpOk X pq H' b)/\R J H'
noncomputable def PI(X:Cx)(tg iter:Expr)(wi:TI):Prop:=
 ∀(pq:List (Yp×Obj)) (s:Yo) (σ:St) (H:Hp) (R:It->Hp->Prop),Inv X pq σ H s->wi σ H R->
  Ys (Yt X.prog X.w) X.A (eval iter X.env) (λv s1=>Ys (Yt X.prog X.w) X.A (pyIter v) (PIE X pq σ tg R) X.xe s1) X.xe s
theorem Lm{M:Model}{A:Z0}{E:Yn->Yo->Prop}{s:Yo}{tg:Expr}{it:Yp}{u:Yn}{o:Obj}{n:String}{vs:Array Yn}{Q:Unit->Yo->Prop}(ho:s.heap.get? it=some o)(hc:o.cls = .type n)(hd:o.data = .fields vs)
 (hn:["enumerate","zip","dict_itemiterator","dict_reverseitemiterator","odict_iterator","itertools.zip_longest","itertools.pairwise"].contains n=false) (hQ:Q () s):Ys M A (Zb tg (.ref it) u) Q E s:=by
 unfold Zb
 cases tg<;>first
  | exact Yq hQ
  | (cases u<;>first
      | exact Yq hQ
      | (refine Ym (wpAny_load ho ?_)
         rw[hc,hd];show Ys M A (if (["enumerate","zip","dict_itemiterator","dict_reverseitemiterator","odict_iterator","itertools.zip_longest","itertools.pairwise"].contains n&&vs[0]? == some (rawInt _))=true then _ else _) Q E s;rw[iG (by intro h;rw[hn,YU]at h;cases h)];exact Yq hQ))
def Itl(K:V8)(a:Yp):It:=
 ⟨λi H=>∃ xs x,SqL K H a xs/\xs[i]?=some x,λi H x H'=>H'=H/\∀ xs,SqL K H a xs->xs[i]?=some x,λi H=>∃ xs,SqL K H a xs/\xs.length<=i⟩
def Itt(K:V8)(a:Yp):It:=
 ⟨λi H=>∃ xs x,SqT K H a xs/\xs[i]?=some x,λi H x H'=>H'=H/\∀ xs,SqT K H a xs->xs[i]?=some x,λi H=>∃ xs,SqT K H a xs/\xs.length<=i⟩
def Itr(lo:Int)(n:Nat):It:=⟨λi _=>i<n,λi H x H'=>H'=H/\x = .int (lo+i),λi _=>n<=i⟩
theorem KB{P:Yu}{w:Yw}{K:V8}{tg:Expr}(a it:Yp):Turn P w K tg (Itl K a) [it] it (λi h=>h.IsListIter it a i) where
 mem:=by simp
 obj:=λi h st b hb=>by
  have e:b=it:=by simpa using hb
  subst e;obtain⟨o,e,c,d⟩:=st;exact⟨o,e,λv z=>by rw[d]at z;cases z⟩
 keep:=λi h h' st k=>st.at λo e=>k it (by simp) o e
 item:=by
  intro X hP hw hK hc i pq s σ H E I hf st hg;subst hP hw hK;obtain⟨xs,x,hq,hx⟩:=hg;obtain⟨its,rv,p,hz⟩:=I.list hq;obtain⟨u,hu,ru⟩:=rv.get hx;obtain⟨f0,f1,f2,f3,f4,f5⟩:=hf it (by simp);refine wpAny_pyNext_list_item st p.isList (x:=u) (by simpa using hu) λh' st' sb=>?_;have I1:Inv X pq σ H {s with heap:=h'}:=I.turned (t':=s.toks) (λb o hb e=>(sb.2 b hb).trans e) f0 f1 f3 f4 f5;obtain⟨o,e,c,d⟩:=id st';exact⟨u,rfl,Lm (s:={s with heap:=h'}) e c d (by decide) ⟨x,H,I1,ru,⟨rfl,λys hy=>by rw[I.list_inj hy hq];exact hx⟩,st',λb hb=>(hf b hb).1⟩⟩
 done:=by
   intro X hP hw hK hc i pq s σ H E I hf st hg;subst hP hw hK;obtain⟨xs,hq,hx⟩:=hg;obtain⟨its,rv,p,hz⟩:=I.list hq;obtain⟨f0,f1,f2,f3,f4,f5⟩:=hf it (by simp);have hl:=rv.length;exact wpAny_pyNext_list_end (I.ok.hd hc) st p.isList (by simp;omega) λh' eb=>⟨rfl,I.turned (t':=s.toks) (λb o hb e=>eb b o hb e) f0 f1 f3 f4 f5⟩
 self:=λ_ _ _ _ _ st h=>wpAny_pyIter_listiter st h
theorem HZ{P:Yu}{w:Yw}{K:V8}{tg:Expr}(a it:Yp):Turn P w K tg (Itt K a) [it] it (λi h=>h.IsTupleIter it a i) where
 mem:=by simp
 obj:=λi h st b hb=>by
  have e:b=it:=by simpa using hb
  subst e;obtain⟨o,e,c,d⟩:=st;exact⟨o,e,λv z=>by rw[d]at z;cases z⟩
 keep:=λi h h' st k=>st.at λo e=>k it (by simp) o e
 item:=by
  intro X hP hw hK hc i pq s σ H E I hf st hg;subst hP hw hK;obtain⟨xs,x,hq,hx⟩:=hg;obtain⟨its,rv,p,hz⟩:=I.tuple hq;obtain⟨u,hu,ru⟩:=rv.get hx;obtain⟨f0,f1,f2,f3,f4,f5⟩:=hf it (by simp);refine wpAny_pyNext_tuple_item st (show s.heap.IsTuple a its.toArray from p) (x:=u) (by simpa using hu) λh' st' sb=>?_;have I1:Inv X pq σ H {s with heap:=h'}:=I.turned (t':=s.toks) (λb o hb e=>(sb.2 b hb).trans e) f0 f1 f3 f4 f5;obtain⟨o,e,c,d⟩:=id st';exact⟨u,rfl,Lm (s:={s with heap:=h'}) e c d (by decide) ⟨x,H,I1,ru,⟨rfl,λys hy=>by rw[I.tuple_inj hy hq];exact hx⟩,st',λb hb=>(hf b hb).1⟩⟩
 done:=by
   intro X hP hw hK hc i pq s σ H E I hf st hg;subst hP hw hK;obtain⟨xs,hq,hx⟩:=hg;obtain⟨its,rv,p,hz⟩:=I.tuple hq;obtain⟨f0,f1,f2,f3,f4,f5⟩:=hf it (by simp);have hl:=rv.length;exact wpAny_pyNext_tuple_end (I.ok.hd hc) st (show s.heap.IsTuple a its.toArray from p) (by simp;omega) λh' eb=>⟨rfl,I.turned (t':=s.toks) (λb o hb e=>eb b o hb e) f0 f1 f3 f4 f5⟩
 self:=λ_ _ _ _ _ st h=>wpAny_pyIter_tupleiter st h
theorem Ha{P:Yu}{w:Yw}{K:V8}{tg:Expr}(it:Yp)(lo:Int)(n:Nat):Turn P w K tg (Itr lo n) [it] it (λi h=>IsRangeIter h it (lo+(i:Nat) * 1) ((n:Int) - (i:Nat)) 1) where
 mem:=by simp
 obj:=λi h st b hb=>by
  have e:b=it:=by simpa using hb
  subst e
  exact⟨_,st,λv z=>by
   have z':Data.fields _=Data.cell v:=z;cases z'⟩
 keep:=λi h h' st k=>k it (by simp) _ st
 item:=by
  intro X hP hw hK hc i pq s σ H E I hf st hg;subst hP hw hK;obtain⟨f0,f1,f2,f3,f4,f5⟩:=hf it (by simp);have W:=Walks.range (prog:=X.prog) (w:=X.w) (I.ok.hd hc) it lo 1 n;refine W.item i s _ _ hg st λv h' tk hv st' kk=>?_;obtain⟨t,rfl⟩:=hv;have I1:Inv X pq σ H {s with heap:=h',toks:=tk}:=I.turned (λb o hb e=>kk b o (by simpa using hb) e) f0 f1 f3 f4 f5;refine⟨_,rfl,Lm (s:={s with heap:=h',toks:=tk}) (n:="range_iterator") st' rfl rfl (by decide) ⟨.int (lo+i),H,I1,⟨t,?_⟩,⟨rfl,rfl⟩,st',λb hb=>(hf b hb).1⟩⟩;rw[Int.mul_one]
 done:=by
   intro X hP hw hK hc i pq s σ H E I hf st hg;subst hP hw hK;obtain⟨f0,f1,f2,f3,f4,f5⟩:=hf it (by simp);exact wpAny_pyNext_range_end (I.ok.hd hc) st (by have:n<=i:=hg;omega) λh' eb=>⟨rfl,I.turned (t':=s.toks) (λb o hb e=>eb b o hb e) f0 f1 f3 f4 f5⟩
 self:=λ_ _ _ _ _ st h=>wpAny_pyIter_rangeiter st h
section
variable{X:Cx}{tg:Expr}
theorem Fh{pq:List (Yp×Obj)}{σ:St}{H:Hp}{s:Yo}{R:It->Hp->Prop}{E:Yn->Yo->Prop}{lo hi:Int}{t u v:Tok}{tk:Nat}(I:Inv X pq σ H s)(h1:-(2 ^ 62)<=lo)(h2:lo<2 ^ 62)(h3:-(2 ^ 62)<=hi)(h4:hi<2 ^ 62)
 (q:R (Itr lo (hi - lo).toNat) H):Ys (Yt X.prog X.w) X.A (pyIter (.ref s.heap.objs.size)) (PIE X pq σ tg R) E {s with heap:=s.heap.push {cls := .type "range",data := .fields #[.int lo t,.int hi u,.int 1 v]},toks:=tk}:=by
 refine wpAny_pyIter_range (IsRange.new ..) (small_one h1 h2 h3 h4) ?_;have I1:Inv X pq σ H {s with heap:=s.heap.push {cls := .type "range",data := .fields #[.int lo t,.int hi u,.int 1 v]},toks:=tk}:=I.kept λb o e=>VG _ e
 refine⟨(s.heap.push {cls := .type "range",data := .fields #[.int lo t,.int hi u,.int 1 v]}).objs.size,[(s.heap.push {cls := .type "range",data := .fields #[.int lo t,.int hi u,.int 1 v]}).objs.size],_,_,H,rfl,
  I1.kept (t':=tk) λb o e=>VG _ e,Ha _ lo (hi - lo).toNat,?_,λb hb=>?_,q⟩
 ·have e1:lo+((0:Nat):Int) * 1=lo:=by simp
  have e2:(((hi - lo).toNat:Nat):Int) - ((0:Nat):Int)=Builtin.Range.rangeSize lo hi 1:=by rw[rangeSize_one];split<;>omega
  show IsRangeIter _ _ (lo+((0:Nat):Int) * 1) ((((hi - lo).toNat:Nat):Int) - ((0:Nat):Int)) 1;rw[e1,e2];exact VV _ rfl
 ·have e:b=(s.heap.push {cls := .type "range",data := .fields #[.int lo t,.int hi u,.int 1 v]}).objs.size:=by simpa using hb
  subst e;exact I1.fpOk (VH _) (I1.hok.fresh (VH _))
def TV(ta:TA):TI:=λσ H R=>ta σ H λvs H1=>∃ j:Int,vs=[.int j] /\ -(2 ^ 62)<=j/\j<2 ^ 62/\R (Itr 0 j.toNat) H1
def TW(ta:TA):TI:=λσ H R=>ta σ H λvs H1=>∃ i j:Int,vs=[.int i,.int j]/\(-(2 ^ 62)<=i/\i<2 ^ 62 /\ -(2 ^ 62)<=j/\j<2 ^ 62)/\R (Itr i (j - i).toNat) H1
theorem KC{a:Expr}{ta:TA}{p pos:Pos}(hg:Gl X "range")(hm:X.mg "range"=none)(ha:PA X [a] ta)(hs:Yy [a] X.env=[(false,eval a X.env)]:=by rfl):PI X tg (.Call (.Name "range" p) [a] [] pos) (TV ta):=by
 intro pq s σ H R I h;refine Call_ (BE I hg hm boot_range (PyProof.Rows.callWith_type1 (thn (ha pos pq s σ H _ I h) λus s1 ⟨vs,H1,I1,r1,q1⟩=>?_) hs rfl));obtain⟨j,e,q1,q2,q⟩:=q1;subst e;cases r1 with
 | cons r rr=>
   cases rr;obtain⟨t,rfl⟩:=r;exact call_range_1 (Fh I1 (by omega) (by omega) q1 q2 (by simpa using q))
theorem KD{a b:Expr}{ta:TA}{p pos:Pos}(hg:Gl X "range")(hm:X.mg "range"=none)(ha:PA X [a,b] ta)(hs:Yy [a,b] X.env=[(false,eval a X.env),(false,eval b X.env)]:=by rfl)(hs2:Yy [b] X.env=[(false,eval b X.env)]:=by rfl):
 PI X tg (.Call (.Name "range" p) [a,b] [] pos) (TW ta):=by
 intro pq s σ H R I h;refine Call_ (BE I hg hm boot_range (PyProof.Rows.callWith_type1 (thn (ha pos pq s σ H _ I h) λus s1 ⟨vs,H1,I1,r1,q1⟩=>?_) (by rw[hs,hs2]) (by rw[hs2];rfl)));obtain⟨i,j,e,⟨q1,q2,q3,q4⟩,q⟩:=q1;subst e;cases r1 with
 | cons r rr=>
   cases rr with
   | cons r' rr=>
     cases rr;obtain⟨t,rfl⟩:=r;obtain⟨t',rfl⟩:=r';exact call_range_2 (Fh I1 q1 q2 q3 q4 q)
noncomputable def TX(wi:TI)(g:TG)(tb:TS):TS:=λD σ H=>wi σ H λJ H1=>∃ W:Nat->Nat->St->Hp->Prop,(∃ m,W 0 m σ H1)/\∀ i m σ H,W i m σ H->
 (J.stop i H/\D.nx σ H)\/(J.go i H/\∃ N:St->Hp->Prop,(∀ σ' H',N σ' H'->∃ m',m'<m/\W (i+1) m' σ' H')/\∀ x H',J.yld i H x H'->g x σ H' λσ2 H2=>tb {D with nx:=N,ct:=N,bk:=D.nx} σ2 H2)
def Bw(fp:List Yp)(h:Heap):List (Yp×Obj):=fp.filterMap λb=>(h.get? b).map λo=>(b,o)
theorem Ay{fp:List Yp}{h:Heap}{b:Yp}{o:Obj}(hb:b∈fp)(e:h.get? b=some o):(b,o)∈Bw fp h:=Y3.mpr ⟨b,hb,by rw[e];rfl⟩
theorem KF{fp:List Yp}{h:Heap}{p:Yp×Obj}(hp:p∈Bw fp h):p.1∈fp/\h.get? p.1=some p.2:=by
 obtain⟨b,hb,e⟩:=Y3.mp hp;cases q:h.get? b with
 | none=>rw[q]at e;cases e
 | some o=>
   rw[q]at e;have e':(b,o)=p:=oj e;subst e';exact⟨hb,q⟩
theorem Inv.pinned{pq:List (Yp×Obj)}{σ:St}{H:Hp}{s:Yo}{fp:List Yp}(I:Inv X pq σ H s)(hf:∀ b∈fp,FpOk X pq H b)(ho:∀ b∈fp,∃ o,s.heap.get? b=some o/\∀ v,o.data ≠ .cell v):Inv X (pq++Bw fp s.heap) σ H s:=
 I.pins_of λp hp=>(VY.mp hp).elim (λz=>I.pin p (Vt _ z)) λz=>by
  obtain⟨hb,e⟩:=KF z;obtain⟨f0,f1,f2,_⟩:=hf p.1 hb;obtain⟨o,e',d⟩:=ho p.1 hb;rw[e]at e';cases e';exact⟨e,f0,f1,f2,d⟩
theorem Inv.unpinned{pq pl:List (Yp×Obj)}{σ:St}{H:Hp}{s:Yo}(I:Inv X (pq++pl) σ H s):Inv X pq σ H s:=I.pins_of λp hp=>I.pin p (Vt _ (Wh _ hp))
theorem RO{iter:Expr}{body:List Stmt}{wi:TI}{g:TG}{tb:TS}{pos:Pos}(hp:A0q (Yt X.prog X.w) X.A X.env X.xe)(hc:X.calm=true)(hi:PI X tg iter wi)(hg:PG X tg g)(hb:PSs X body tb)
 (hs:∀ x,Ze iter X.env x=pure x:=by intro _;rfl):PS X (.For tg iter body [] pos) (TX wi g tb):=by
 intro pq s σ H D I h;refine wpAny_For (thn (hi pq s σ H _ I h) λv s1 h1=>thn h1 λitv s2 h2=>?_) hs;obtain⟨it,fp,tn,J,H2,e,I2,T,st2,f2,W,⟨m0,w0⟩,turn⟩:=h2;subst e;have stat:∀{H':Hp},(∀ b∈fp,H' b=none)->∀ b∈fp,FpOk X pq H' b:=λhn b hb=>⟨hn b hb,(f2 b hb).2⟩
 refine codeAny_forLoop_any (λn s'=>∃ i σ' H',Inv X pq σ' H' s'/\tn i s'.heap/\(∀ b∈fp,H' b=none)/\W i n σ' H') ?_ m0 ⟨0,σ,H2,I2,st2,λb hb=>(f2 b hb).1,w0⟩;rintro n s3 ⟨i,σ3,H3,I3,st3,fr3,w3⟩;rcases turn i n σ3 H3 w3 with⟨stop,qn⟩ | ⟨go,N,hN,step⟩
 ·refine ZJ hp (thn (T.done X rfl rfl rfl hc i pq s3 σ3 H3 X.xe I3 (stat fr3) st3 stop) λr s4 ⟨hr,I4⟩=>?_);subst hr;exact Zl ⟨σ3,H3,I4,qn⟩
 ·refine ZJ hp (thn (T.item X rfl rfl rfl hc i pq s3 σ3 H3 X.xe I3 (stat fr3) st3 go) λr s4 ⟨u,hr,h4⟩=>?_);subst hr;refine ZJ hp (thn h4 λ_ s5 ⟨x,H5,I5,r5,y5,st5,fr5⟩=>?_);have I5':=I5.pinned (stat fr5) (T.obj _ _ st5);refine ZJ hp (thn (hg _ s5 σ3 H5 x u _ I5' r5 (step x H5 y5)) λ_ s6 ⟨σ6,H6,I6,q6⟩=>?_);refine ZJ hp (thn (hb _ s6 σ6 H6 _ I6 q6) λf s7 q7=>?_)
  have again:∀{σ7:St} {H7:Hp},Inv X (pq++Bw fp s5.heap) σ7 H7 s7->N σ7 H7->∃ m,m<n/\∃ i σ' H',Inv X pq σ' H' s7/\tn i s7.heap/\(∀ b∈fp,H' b=none)/\W i m σ' H':=λ{σ7 H7} I7 n7=>by
   obtain⟨m',hm,w7⟩:=hN σ7 H7 n7;refine⟨m',hm,i+1,σ7,H7,I7.unpinned,T.keep _ _ _ st5 λb hb o e=>(I7.pin (b,o) (Vt _ (Vt _ (Ay hb e)))).1,λb hb=>?_,w7⟩;obtain⟨o,e,d⟩:=T.obj _ _ st5 b hb;exact(I7.pin (b,o) (Vt _ (Vt _ (Ay hb e)))).2.1
  cases f with
  | next=>obtain⟨σ7,H7,I7,n7⟩:=q7;exact again I7 n7
  | cont=>obtain⟨σ7,H7,I7,n7⟩:=q7;exact again I7 n7
  | brk=>obtain⟨σ7,H7,I7,q7⟩:=q7;exact⟨σ7,H7,I7.unpinned,q7⟩
  | ret v=>obtain⟨x7,σ7,H7,I7,r7,q7⟩:=q7;exact⟨x7,σ7,H7,I7.unpinned,r7,q7⟩
end
abbrev R2:=V->V->Hp->VK->Prop
noncomputable def OpR(X:Cx)(f:Yn->Yn->Sem Yn)(r:R2):Prop:=
 ∀(pq:List (Yp×Obj)) (s:Yo) (σ:St) (H:Hp) (x y:V) (v u:Yn) (Q:VK),Inv X pq σ H s->RelV x v->RelV y u->r x y H Q->
  Ys (Yt X.prog X.w) X.A (f v u) (EP X pq σ Q) X.xe s
noncomputable def UnR(X:Cx)(f:Yn->Sem Yn)(r:V->Hp->VK->Prop):Prop:=
 ∀(pq:List (Yp×Obj)) (s:Yo) (σ:St) (H:Hp) (x:V) (v:Yn) (Q:VK),Inv X pq σ H s->RelV x v->r x H Q->
  Ys (Yt X.prog X.w) X.A (f v) (EP X pq σ Q) X.xe s
noncomputable def CallR(X:Cx)(f:Yn)(r:List V->Hp->VK->Prop):Prop:=
 ∀(pq:List (Yp×Obj)) (s:Yo) (σ:St) (H:Hp) (xs:List V) (us:List Yn) (Q:VK),Inv X pq σ H s->Vals xs us->r xs H Q->
  Ys (Yt X.prog X.w) X.A (call f us) (EP X pq σ Q) X.xe s
noncomputable def Uq(X:Cx)(r:V->Hp->(Bool->Hp->Prop)->Prop):Prop:=
 ∀(pq:List (Yp×Obj)) (s:Yo) (σ:St) (H:Hp) (x:V) (v:Yn) (Q:Bool->Hp->Prop),Inv X pq σ H s->RelV x v->r x H Q->
  Ys (Yt X.prog X.w) X.A (truthy v) (TP X pq σ Q) X.xe s
def tOp(r:R2)(ta tb:TE):TE:=λσ H Q=>ta σ H λx H1=>tb σ H1 λy H2=>r x y H2 Q
def tUn(r:V->Hp->VK->Prop)(ta:TE):TE:=λσ H Q=>ta σ H λx H1=>r x H1 Q
def rI(C:Int->Int->Prop)(g:Int->Int->V):R2:=λx y H Q=>∃ i j,x = .int i/\y = .int j/\C i j/\Q (g i j) H
def rI0(g:Int->Int->V):R2:=λx y H Q=>∃ i j,x = .int i/\y = .int j/\Q (g i j) H
def rU(g:Int->V):V->Hp->VK->Prop:=λx H Q=>∃ i,x = .int i/\Q (g i) H
section
variable{X:Cx}{a b c:Expr}{ta tb tc:TE}{pos:Pos}
theorem RP(ha:PE X a ta)(hb:PE X b tb){pq:List (Yp×Obj)}{s:Yo}{σ:St}{H:Hp}{R:V->V->Hp->Prop}(I:Inv X pq σ H s)
 (h:ta σ H λx H1=>tb σ H1 λy H2=>R x y H2) {Q:Yn->Yo->Prop} {f:Yn->Yn->Sem Yn}
 (hf:∀ v u s2 x y H2,Inv X pq σ H2 s2->RelV x v->RelV y u->R x y H2->Ys (Yt X.prog X.w) X.A (f v u) Q X.xe s2):
 Ys (Yt X.prog X.w) X.A (eval a X.env) (λv s₁=>Ys (Yt X.prog X.w) X.A (eval b X.env) (λu s₂=>Ys (Yt X.prog X.w) X.A (f v u) Q X.xe s₂) X.xe s₁) X.xe s:=by
 refine thn (ha pq s σ H _ I h) λv s1 ⟨x,H1,I1,r1,q1⟩=>?_;refine thn (hb pq s1 σ H1 _ I1 q1) λu s2 ⟨y,H2,I2,r2,q2⟩=>?_;exact hf v u s2 x y H2 I2 r1 r2 q2
theorem TY{op:ZS}{r:R2}(ho:OpR X (ZG op) r)(ha:PE X a ta)(hb:PE X b tb):PE X (.BinOp a op b pos) (tOp r ta tb):=by
 intro pq s σ H Q I h;exact wpAny_BinOp (RP ha hb I h λv u s2 x y H2 I2 rx ry q=>ho pq s2 σ H2 x y v u Q I2 rx ry q)
theorem TZ{op:UnaryOp}{r:V->Hp->VK->Prop}(ho:UnR X (unaryOp op) r)(ha:PE X a ta):PE X (.UnaryOp op a pos) (tUn r ta):=by
 intro pq s σ H Q I h;exact UnaryOp_ (thn (ha pq s σ H _ I h) λv s1 ⟨x,H1,I1,r1,q1⟩=>ho pq s1 σ H1 x v Q I1 r1 q1)
theorem opI{f:Yn->Yn->Sem Yn}{C:Int->Int->Prop}{g:Int->Int->Int}
 (rule:∀(i j:Int) (t u:Tok) (s:Yo) (Q:Yn->Yo->Prop) (E:Yn->Yo->Prop),C i j->Q (.int (g i j) s.toks) {s with toks:=s.toks+1}->Ys (Yt X.prog X.w) X.A (f (.int i t) (.int j u)) Q E s):
 OpR X f (rI C λi j => .int (g i j)):=by
 intro pq s σ H x y v u Q I rx ry h;obtain⟨i,j,rfl,rfl,hc,q⟩:=h;obtain⟨t,rfl⟩:=rx;obtain⟨t',rfl⟩:=ry;exact rule i j t t' s _ _ hc ⟨.int (g i j),H,I.tok _,⟨_,rfl⟩,q⟩
theorem Ta{f:Yn->Yn->Sem Yn}{g:Int->Int->Int}
 (rule:∀(i j:Int) (t u:Tok) (s:Yo) (Q:Yn->Yo->Prop) (E:Yn->Yo->Prop),Q (.int (g i j) s.toks) {s with toks:=s.toks+1}->Ys (Yt X.prog X.w) X.A (f (.int i t) (.int j u)) Q E s):
 OpR X f (rI0 λi j => .int (g i j)):=by
 intro pq s σ H x y v u Q I rx ry h;obtain⟨i,j,rfl,rfl,q⟩:=h;obtain⟨t,rfl⟩:=rx;obtain⟨t',rfl⟩:=ry;exact rule i j t t' s _ _ ⟨.int (g i j),H,I.tok _,⟨_,rfl⟩,q⟩
theorem OS{f:Yn->Yn->Sem Yn}{g:Int->Int->Bool}
 (rule:∀(i j:Int) (t u:Tok) (s:Yo) (Q:Yn->Yo->Prop) (E:Yn->Yo->Prop),Q (.bool (g i j)) s->Ys (Yt X.prog X.w) X.A (f (.int i t) (.int j u)) Q E s):
 OpR X f (rI0 λi j => .bl (g i j)):=by
 intro pq s σ H x y v u Q I rx ry h;obtain⟨i,j,rfl,rfl,q⟩:=h;obtain⟨t,rfl⟩:=rx;obtain⟨t',rfl⟩:=ry;exact rule i j t t' s _ _ ⟨.bl (g i j),H,I,rfl,q⟩
def Tb(i j:Int):Prop:=0<j/\j<1073741824
def Tc(i j:Int):Prop:=0<=j/\j<=1000000/\i.natAbs<2 ^ 64
def CMul(i j:Int):Prop:=(-(2 ^ 64)<i/\i<2 ^ 64)\/(-(2 ^ 64)<j/\j<2 ^ 64)
theorem CMul.ok{i j:Int}(h:CMul i j):IntMulOk i j:=by
 rcases h with⟨h1,h2⟩ | ⟨h1,h2⟩
 ·exact .of_left (intBits_le_64 h1 h2)
 ·exact .of_right (intBits_le_64 h1 h2)
theorem op_add:OpR X (ZG .Add) (rI0 λi j => .int (i+j)):=Ta λ_ _ _ _ _ _ _ q=>add_int q
theorem RQ:OpR X (ZG .Sub) (rI0 λi j => .int (i - j)):=Ta λ_ _ _ _ _ _ _ q=>sub_int q
theorem op_mul:OpR X (ZG .Mult) (rI CMul λi j => .int (i * j)):=opI λ_ _ _ _ _ _ _ hc q=>mul_int q hc.ok
theorem OT:OpR X (ZG .FloorDiv) (rI Tb λi j => .int (i / j)):=opI λi j _ _ _ _ _ hc q=>by
 have h1:(0:Int)<j:=hc.1;have h2:j<1073741824:=hc.2;exact floordiv_int (by omega) (by rw[Int.fdiv_eq_ediv_of_nonneg i (by omega)];exact q) (.inl (PyProof.noPylong_small (by omega)))
theorem RS:OpR X (ZG .Mod) (rI (λ_ j=>0<j) λi j => .int (i % j)):=opI λi j _ _ _ _ _ hc q=>by
 have h1:(0:Int)<j:=hc;exact mod_int' (by omega) (by rw[Int.fmod_eq_emod_of_nonneg i (by omega)];exact q)
theorem RT:OpR X (ZG .Pow) (rI Tc λi j => .int (i ^ j.toNat)):=opI λ_ _ _ _ _ _ _ hc q=>pow_int_small hc.1 hc.2.1 hc.2.2 q
theorem unI{f:Yn->Sem Yn}{g:Int->Int}
 (rule:∀(i:Int) (t:Tok) (s:Yo) (Q:Yn->Yo->Prop) (E:Yn->Yo->Prop),Q (.int (g i) s.toks) {s with toks:=s.toks+1}->Ys (Yt X.prog X.w) X.A (f (.int i t)) Q E s):
 UnR X f (rU λi => .int (g i)):=by
 intro pq s σ H x v Q I rx h;obtain⟨i,rfl,q⟩:=h;obtain⟨t,rfl⟩:=rx;exact rule i t s _ _ ⟨.int (g i),H,I.tok _,⟨_,rfl⟩,q⟩
theorem RU:UnR X (unaryOp .USub) (rU λi => .int (-i)):=unI λ_ _ _ _ _ q=>neg_int q
end
def RV:V->V->Bool
 | .non,.non=>true | .non,.int _=>true | .int _,.non=>true | .non,.bl _=>true | .bl _,.non=>true | .non,.str _=>true | .str _,.non=>true
 | .int _,.int _=>true | .bl _,.bl _=>true | .str _,.str _=>true | .byt _,.byt _=>true
 | .int _,.str _=>true | .str _,.int _=>true | .bl _,.str _=>true | .str _,.bl _=>true
 | _,_=>false
def rEq:R2:=λx y H Q=>RV x y=true/\Q (.bl (decide (x=y))) H
def rNe:R2:=λx y H Q=>RV x y=true/\Q (.bl (!decide (x=y))) H
theorem Ir{i j:Int}:decide (V.int i=V.int j)=(i == j):=by
 rw[Vv];simp
theorem Ln{i j:Bool}:decide (V.bl i=V.bl j)=(i == j):=by
 rw[Vv];simp
theorem Iu{i j:Str}:decide (V.str i=V.str j)=(i == j):=by
 rw[Vv];simp
theorem Iv{i j:Array UInt8}:decide (V.byt i=V.byt j)=(i.toList == j.toList):=by
 rw[Vv];cases i;cases j;simp
section
variable{X:Cx}{a b c:Expr}{ta tb tc:TE}{pos:Pos}
theorem j7{pq:List (Yp×Obj)}{σ:St}{H:Hp}{s:Yo}{Q:VK}{k k':Bool}(I:Inv X pq σ H s)(q:Q (.bl k) H)(e:k=k'):EP X pq σ Q (.bool k') s:=by
 subst e;exact⟨.bl k,H,I,rfl,q⟩
theorem op_eq:OpR X (Z2 .Eq) rEq:=by
 intro pq s σ H x y v u Q I rx ry h;obtain⟨hs,q⟩:=h;cases x with
 | non=>
   cases rx;cases y with
   | non=>cases ry;exact PySem.EqNone.eq_none_none (j7 I q (by simp))
   | bl j=>cases ry;exact PySem.EqNone.eq_none_bool (j7 I q (by simp))
   | int j=>obtain⟨t',rfl⟩:=ry;exact PySem.EqNone.eq_none_int (j7 I q (by simp))
   | str j=>obtain⟨t',rfl⟩:=ry;exact PySem.EqNone.eq_none_str (j7 I q (by simp))
   | _=>exact absurd (show false=true from hs) VJ
 | bl i=>
   cases rx;cases y with
   | non=>cases ry;exact PySem.EqNone.eq_bool_none (j7 I q (by simp))
   | bl j=>cases ry;exact eq_bool (j7 I q Ln)
   | str j=>obtain⟨t',rfl⟩:=ry;exact PySem.EqMixed.eq_bool_str (j7 I q (by simp))
   | _=>exact absurd (show false=true from hs) VJ
 | int i=>
   obtain⟨t,rfl⟩:=rx;cases y with
   | non=>cases ry;exact PySem.EqNone.eq_int_none (j7 I q (by simp))
   | int j=>obtain⟨t',rfl⟩:=ry;exact eq_int (j7 I q Ir)
   | str j=>obtain⟨t',rfl⟩:=ry;exact PySem.EqMixed.eq_int_str (j7 I q (by simp))
   | _=>exact absurd (show false=true from hs) VJ
 | str i=>
   obtain⟨t,rfl⟩:=rx;cases y with
   | non=>cases ry;exact PySem.EqNone.eq_str_none (j7 I q (by simp))
   | bl j=>cases ry;exact PySem.EqMixed.eq_str_bool (j7 I q (by simp))
   | int j=>obtain⟨t',rfl⟩:=ry;exact PySem.EqMixed.eq_str_int (j7 I q (by simp))
   | str j=>obtain⟨t',rfl⟩:=ry;exact eq_str (j7 I q Iu)
   | _=>exact absurd (show false=true from hs) VJ
 | byt i=>
   obtain⟨t,rfl⟩:=rx;cases y with
   | byt j=>obtain⟨t',rfl⟩:=ry;exact PySem.W.eq_bytes (j7 I q Iv)
   | _=>exact absurd (show false=true from hs) VJ
 | _=>cases y<;>exact absurd (show false=true from hs) VJ
theorem op_ne:OpR X (Z2 .NotEq) rNe:=by
 intro pq s σ H x y v u Q I rx ry h;obtain⟨hs,q⟩:=h;cases x with
 | non=>
   cases rx;cases y with
   | non=>cases ry;exact PySem.EqNone.ne_none_none (j7 I q (by simp))
   | bl j=>cases ry;exact PySem.EqNone.ne_none_bool (j7 I q (by simp))
   | int j=>obtain⟨t',rfl⟩:=ry;exact PySem.EqNone.ne_none_int (j7 I q (by simp))
   | str j=>obtain⟨t',rfl⟩:=ry;exact PySem.EqNone.ne_none_str (j7 I q (by simp))
   | _=>exact absurd (show false=true from hs) VJ
 | bl i=>
   cases rx;cases y with
   | non=>cases ry;exact PySem.EqNone.ne_bool_none (j7 I q (by simp))
   | bl j=>cases ry;exact ne_bool (j7 I q (congrArg not Ln))
   | str j=>obtain⟨t',rfl⟩:=ry;exact PySem.EqMixed.ne_bool_str (j7 I q (by simp))
   | _=>exact absurd (show false=true from hs) VJ
 | int i=>
   obtain⟨t,rfl⟩:=rx;cases y with
   | non=>cases ry;exact PySem.EqNone.ne_int_none (j7 I q (by simp))
   | int j=>obtain⟨t',rfl⟩:=ry;exact ne_int (j7 I q (congrArg not Ir))
   | str j=>obtain⟨t',rfl⟩:=ry;exact PySem.EqMixed.ne_int_str (j7 I q (by simp))
   | _=>exact absurd (show false=true from hs) VJ
 | str i=>
   obtain⟨t,rfl⟩:=rx;cases y with
   | non=>cases ry;exact PySem.EqNone.ne_str_none (j7 I q (by simp))
   | bl j=>cases ry;exact PySem.EqMixed.ne_str_bool (j7 I q (by simp))
   | int j=>obtain⟨t',rfl⟩:=ry;exact PySem.EqMixed.ne_str_int (j7 I q (by simp))
   | str j=>obtain⟨t',rfl⟩:=ry;exact ne_str (j7 I q (congrArg not Iu))
   | _=>exact absurd (show false=true from hs) VJ
 | byt i=>
   obtain⟨t,rfl⟩:=rx;cases y with
   | byt j=>obtain⟨t',rfl⟩:=ry;exact PySem.W.ne_bytes (j7 I q (congrArg not Iv))
   | _=>exact absurd (show false=true from hs) VJ
 | _=>cases y<;>exact absurd (show false=true from hs) VJ
theorem Td:OpR X (Z2 .Lt) (rI0 λi j => .bl (decide (i<j))):=OS λ_ _ _ _ _ _ _ q=>lt_int q
theorem Te:OpR X (Z2 .LtE) (rI0 λi j => .bl (decide (i<=j))):=OS λ_ _ _ _ _ _ _ q=>le_int q
theorem Tf:OpR X (Z2 .Gt) (rI0 λi j => .bl (decide (j<i))):=OS λ_ _ _ _ _ _ _ q=>gt_int q
theorem Th:OpR X (Z2 .GtE) (rI0 λi j => .bl (decide (j<=i))):=OS λ_ _ _ _ _ _ _ q=>ge_int q
theorem RW:OpR X (Z2 .Is) (λx y H Q=>y = .non/\Q (.bl (decide (x = .non))) H):=by
 intro pq s σ H x y v u Q I rx ry h;obtain⟨rfl,q⟩:=h;cases ry;refine is_none_gen (j7 I q ?_)
 cases x<;>first
  | (cases rx;rfl)
  | (obtain⟨t,rfl⟩:=rx;rfl)
theorem op_notN:OpR X (Z2 .IsNot) (λx y H Q=>y = .non/\Q (.bl (!decide (x = .non))) H):=by
 intro pq s σ H x y v u Q I rx ry h;obtain⟨rfl,q⟩:=h;cases ry;refine isnot_none_gen (j7 I q ?_)
 cases x<;>first
  | (cases rx;rfl)
  | (obtain⟨t,rfl⟩:=rx;rfl)
theorem OpR.or{f:Yn->Yn->Sem Yn}{r r':R2}(h:OpR X f r)(h':OpR X f r'):OpR X f (λx y H Q=>r x y H Q\/r' x y H Q):=by
 intro pq s σ H x y v u Q I rx ry q;rcases q with q | q
 ·exact h pq s σ H x y v u Q I rx ry q
 ·exact h' pq s σ H x y v u Q I rx ry q
theorem Iw{op:CmpOp}{r:R2}(ho:OpR X (Z2 op) r)(ha:PE X a ta)(hb:PE X b tb)(hm:A0e op b=false):PE X (.Compare a [op] [b] pos) (tOp r ta tb):=by
 intro pq s σ H Q I h;exact wpAny_Compare1 (RP ha hb I h λv u s2 x y H2 I2 rx ry q=>ho pq s2 σ H2 x y v u Q I2 rx ry q) hm
def QT(t:TE):TT:=λσ H Q=>t σ H λx H'=>∃ k,x = .bl k/\Q k H'
theorem Ix{op:CmpOp}{r:R2}(ho:OpR X (Z2 op) r)(ha:PE X a ta)(hb:PE X b tb)(hm:A0e op b=false):PT X (.Compare a [op] [b] pos) (QT (tOp r ta tb)):=by
 intro pq s σ H Q I h
 refine wpAny_isTrue_Compare1 (thn (ha pq s σ H _ I h) λv s1 ⟨x,H1,I1,r1,q1⟩=>thn (hb pq s1 σ H1 _ I1 q1) λu s2 ⟨y,H2,I2,r2,q2⟩=>
  thn (ho pq s2 σ H2 x y v u _ I2 r1 r2 q2) λc s3 ⟨z,H3,I3,r3,k,e,q3⟩=>?_) hm
 subst e;cases r3;exact Z3 ⟨H3,I3,q3⟩
def Hb(r r':R2)(ta tb tc:TE):TE:=λσ H Q=>ta σ H λx H1=>tb σ H1 λy H2=>r x y H2 λz H3=>∃ k,z = .bl k/\
 (if k=true then tc σ H3 λw' H4=>r' y w' H4 Q else Q (.bl false) H3)
theorem Lo{op op':CmpOp}{r r':R2}(ho:OpR X (Z2 op) r)(ho':OpR X (Z2 op') r')(ha:PE X a ta)(hb:PE X b tb)(hc:PE X c tc)
 (hm:A0G [op,op'] [b,c]=false:=by with_unfolding_all rfl):PE X (.Compare a [op,op'] [b,c] pos) (Hb r r' ta tb tc):=by
 intro pq s σ H Q I h
 refine Compare_chain (thn (ha pq s σ H _ I h) λv s1 ⟨x,H1,I1,r1,q1⟩=>chain_link (thn (hb pq s1 σ H1 _ I1 q1) λu s2 ⟨y,H2,I2,r2,q2⟩=>
  thn (ho pq s2 σ H2 x y v u _ I2 r1 r2 q2) λd s3 ⟨z,H3,I3,r3,k,e,q3⟩=>?_)) hm
 subst e;cases r3;refine Z3 ?_;cases k with
 | false=>exact ite_ff ⟨.bl false,H3,I3,rfl,q3⟩
 | true=>exact ite_tt (chain_last (thn (hc pq s3 σ H3 _ I3 q3) λw' s4 ⟨z',H4,I4,r4,q4⟩=>ho' pq s4 σ H4 y z' u w' Q I4 r2 r4 q4))
theorem Lp{op op':CmpOp}{r r':R2}(ho:OpR X (Z2 op) r)(ho':OpR X (Z2 op') r')(ha:PE X a ta)(hb:PE X b tb)(hc:PE X c tc)
 (hm:A0G [op,op'] [b,c]=false:=by with_unfolding_all rfl):PT X (.Compare a [op,op'] [b,c] pos) (QT (Hb r r' ta tb tc)):=by
 intro pq s σ H Q I h
 refine isTrue_chain (thn (ha pq s σ H _ I h) λv s1 ⟨x,H1,I1,r1,q1⟩=>test_link (thn (hb pq s1 σ H1 _ I1 q1) λu s2 ⟨y,H2,I2,r2,q2⟩=>
  thn (ho pq s2 σ H2 x y v u _ I2 r1 r2 q2) λd s3 ⟨z,H3,I3,r3,k,e,q3⟩=>?_)) hm
 subst e;cases r3;refine Z3 ?_;cases k with
 | false=>
   obtain⟨k',e',q'⟩:=q3;cases e';exact ite_ff ⟨H3,I3,q'⟩
 | true=>
   refine ite_tt (test_last (thn (hc pq s3 σ H3 _ I3 q3) λw' s4 ⟨z',H4,I4,r4,q4⟩=>thn (ho' pq s4 σ H4 y z' u w' _ I4 r2 r4 q4) λd' s5 ⟨z2,H5,I5,r5,k2,e2,q5⟩=>?_));subst e2;cases r5;exact Z3 ⟨H5,I5,q5⟩
def OU(K:V8)(x:V)(H:Hp)(k:Bool):Prop:=
 match x with
 | .non=>k=false
 | .bl b=>k=b
 | .int i=>k=(i != 0)
 | .str y=>y.length<=Yr/\k=((y.length:Int) != 0)
 | .byt y=>y.size<=Yr/\k=((y.size:Int) != 0)
 | .ref p=>(∃ xs,SqL K H p xs/\k=!xs.isEmpty)\/(∃ xs,SqT K H p xs/\k=!xs.isEmpty)\/∃ kvs,H p=some (.dK kvs)/\k=!kvs.isEmpty
 | _=>False
theorem Hc{κ:Type}{kvs:List (κ×V)}{vs:List (κ×Yn)}(r:KV kvs vs):(!vs.isEmpty)=!kvs.isEmpty:=by
 cases r<;>rfl
theorem D8{xs:List V}{its:List Yn}(r:Vals xs its):(!its.toArray.isEmpty)=!xs.isEmpty:=by
 cases r<;>simp
theorem Bx:(Yr:Nat)<2 ^ 63:=by rw[sizeLine_eq];decide
theorem RX:Uq X (λx H Q=>∃ k,OU X.K x H k/\Q k H):=by
 intro pq s σ H x v Q I rx h;obtain⟨k,e,q⟩:=h;have hl:=Bx;have hs:Yr=16777216:=sizeLine_eq;cases x with
 | non=>
   cases rx;have e':k=false:=e;subst e';exact truthy_none ⟨H,I,q⟩
 | bl b=>
   cases rx;have e':k=b:=e;subst e';exact Z3 ⟨H,I,q⟩
 | int i=>
   obtain⟨t,rfl⟩:=rx;have e':k=(i != 0):=e;subst e';exact PySem.P.truthy_int ⟨H,I,q⟩
 | str y=>
   obtain⟨t,rfl⟩:=rx;obtain⟨hy,e'⟩:y.length<=Yr/\k=((y.length:Int) != 0):=e;subst e';exact PySem.P.truthy_str (by omega) ⟨H,I.tok _,q⟩
 | byt y=>
   obtain⟨t,rfl⟩:=rx;obtain⟨hy,e'⟩:y.size<=Yr/\k=((y.size:Int) != 0):=e;subst e';exact PySem.W.truthy_bytes (by omega) ⟨H,I.tok _,q⟩
 | ref p=>
   cases rx;have e':(∃ xs,SqL X.K H p xs/\k=!xs.isEmpty)\/(∃ xs,SqT X.K H p xs/\k=!xs.isEmpty)\/∃ kvs,H p=some (.dK kvs)/\k=!kvs.isEmpty:=e;rcases e' with⟨xs,hx,e'⟩ | ⟨xs,hx,e'⟩ | ⟨kvs,hx,e'⟩
   ·subst e';obtain⟨its,r,pl,hz⟩:=I.list hx;have hlen:=r.length;exact wpAny_truthy_list pl.isList (by simp only[VF];omega) ⟨H,I.tok _,by rw[D8 r];exact q⟩
   ·subst e';obtain⟨its,r,pl,hz⟩:=I.tuple hx;have hlen:=r.length;exact truthy_tuple pl (by simp only[VF];omega) ⟨H,I.tok _,by rw[D8 r];exact q⟩
   ·subst e';obtain⟨hz,hS,vs,r,m⟩:kvs.length<=Yr/\(p == Z7)=false/\∃ vs,KV kvs vs/\s.heap.DictOf (n0 X.prog X.w) p vs:=I.hok p _ hx;have hlen:kvs.length=vs.length:=Paired.length r;exact wpAny_truthy_dict hS m (by omega) ⟨H,I.tok _,by rw[Hc r];exact q⟩
 | _=>exact(show False from e).elim
theorem Lq(ha:PE X a ta)(he:∀ whole,isTrue a X.env whole=(do let v <- whole;standAt a.pos;holding [v] (truthy v))):
 PT X a (λσ H Q=>ta σ H λx H'=>∃ k,OU X.K x H' k/\Q k H'):=by
 intro pq s σ H Q I h;exact isTrue_plain (thn (ha pq s σ H _ I h) λv s1 ⟨x,H1,I1,r1,q1⟩=>RX pq s1 σ H1 x v Q I1 r1 q1) (he _)
theorem Hd:OpR X (ZG .Add) (λx y H Q=>∃ i j,x = .str i/\y = .str j/\i.length+j.length<=Yr/\Q (.str (i++j)) H):=by
 intro pq s σ H x y v u Q I rx ry h;obtain⟨i,j,rfl,rfl,hz,q⟩:=h;obtain⟨t,rfl⟩:=rx;obtain⟨t',rfl⟩:=ry;exact add_str (λt' tk=>⟨.str (i++j),H,I.tok _,⟨_,rfl⟩,q⟩) hz
theorem AQ{x:V}{us:List Yn}(r:Vals [x] us):∃ u,us=[u]/\RelV x u:=by
 cases r with
 | cons r1 r2=>cases r2;exact⟨_,rfl,r1⟩
theorem QU{x y:V}{us:List Yn}(r:Vals [x,y] us):∃ u w',us=[u,w']/\RelV x u/\RelV y w':=by
 cases r with
 | cons r1 r2=>
   cases r2 with
   | cons r3 r4=>cases r4;exact⟨_,_,rfl,r1,r3⟩
theorem Lr:CallR X (.builtin "abs") (λxs H Q=>∃ i,xs=[.int i]/\Q (.int (if i<0 then -i else i)) H):=by
 intro pq s σ H xs us Q I r h;obtain⟨i,rfl,q⟩:=h;obtain⟨u,rfl,t,rfl⟩:=AQ r;exact call_abs_int λu tk=>⟨.int (if i<0 then -i else i),H,I.tok _,⟨_,rfl⟩,q⟩
theorem KG(hc:X.calm=true):CallR X (.builtin "max") (λxs H Q=>∃ i j,xs=[.int i,.int j]/\Q (.int (if j>i then j else i)) H):=by
 intro pq s σ H xs us Q I r h;obtain⟨i,j,rfl,q⟩:=h;obtain⟨u,w',rfl,⟨t,rfl⟩,⟨t',rfl⟩⟩:=QU r;refine max_two_ints (I.ok.hd hc) λh' tk k=>⟨_,H,I.kept k,?_,q⟩
 by_cases hj:j>i
 ·rw[iP hj,iP hj];exact⟨_,rfl⟩
 ·rw[iG hj,iG hj];exact⟨_,rfl⟩
theorem KH(hc:X.calm=true):CallR X (.builtin "min") (λxs H Q=>∃ i j,xs=[.int i,.int j]/\Q (.int (if j<i then j else i)) H):=by
 intro pq s σ H xs us Q I r h;obtain⟨i,j,rfl,q⟩:=h;obtain⟨u,w',rfl,⟨t,rfl⟩,⟨t',rfl⟩⟩:=QU r;refine min_two_ints (I.ok.hd hc) λh' tk k=>⟨_,H,I.kept k,?_,q⟩
 by_cases hj:j<i
 ·rw[iP hj,iP hj];exact⟨_,rfl⟩
 ·rw[iG hj,iG hj];exact⟨_,rfl⟩
theorem KI:CallR X (.type "int") (λxs H Q=>(∃ i,xs=[.int i]/\Q (.int i) H)\/∃ k,xs=[.bl k]/\Q (.int (if k then 1 else 0)) H):=by
 intro pq s σ H xs us Q I r h;rcases h with⟨i,rfl,q⟩ | ⟨k,rfl,q⟩
 ·obtain⟨u,rfl,t,rfl⟩:=AQ r;exact call_int_int ⟨.int i,H,I,⟨_,rfl⟩,q⟩
 ·obtain⟨u,rfl,r1⟩:=AQ r;cases r1;exact call_int_bool ⟨.int (if k then 1 else 0),H,I.tok _,⟨_,rfl⟩,q⟩
end
structure ObjM(h:Heap)(x dx C:Yp)(mA:Str->Option Yn):Prop where
 obj:h.get? x=some (PySem.W.instObj C dx)
 ns:h.Ns1 dx mA
 ne:dx≠x
theorem KJ{h:Heap}{dx:Yp}{mA:Str->Option Yn}(n:h.Ns1 dx mA):∃ od,h.get? dx=some od/\∀ name,PySem.W.lookIn name od=some (mA name):=by
 obtain⟨o,es,ep,ho,hd,hk,_,hm⟩:=n;refine⟨o,ho,λname=>?_⟩;have e:=hm name;unfold nsFind findBy at e;rw[<-Array.find?_toList]at e;unfold PySem.W.lookIn;rw[hd];dsimp only;split
 ·rename_i y q;rw[q]at e;exact congrArg some e
 ·rename_i q;rw[q]at e
  have a:es.toList.any (·.refKey)=false:=by
   rw[Y7];intro y hy;obtain⟨z,t,hkey⟩:=hk y (Array.mem_toList_iff.mp hy);simp[DictEntry.refKey,hkey]
  have a':¬ es.toList.any (·.refKey)=true:=by rw[a];exact VJ
  rw[iG a'];exact congrArg some e
theorem ObjM.look{h:Heap}{x dx C:Yp}{mA:Str->Option Yn}(I:ObjM h x dx C mA):∃ od,PySem.W.InstAt h x (PySem.W.instObj C dx) C (some od)/\∀ name,PySem.W.lookIn name od=some (mA name):=
 let ⟨od,ho,hl⟩:=KJ I.ns
 ⟨od,⟨I.obj,rfl,rfl,ho⟩,hl⟩
theorem RelO.some_of{v:V}{o:Option Yn}(r:RelO (some v) o):∃ u,o=some u/\RelV v u:=by
 cases o with
 | none=>exact(show False from r).elim
 | some u=>exact⟨u,rfl,r⟩
section
variable{P:Yu}{w:Yw}{H H':Hp}{h h':Heap}{a C dx:Yp}{fs fs':List (Str×V)}
theorem Iy(hok:HOk P w H h)(e:H a=some (.ins C dx fs)):∃ mA,ObjM h a dx C mA/\(∀ f,RelO (fs.lookup f) (mA f))/\PySem.Within mA (fs.map (·.1))/\fs.length<=1000/\H dx=some (.own a):=by
 obtain⟨d,z,ne,ob,mA,n,r,q⟩:=(show ObjOk P w H h a (.ins C dx fs) from hok a _ e)
 exact⟨mA,⟨ob,n,ne⟩,r,q,z,d⟩
end
structure Cls(K:V8)(C:Yp):Prop where
 pg:PySem.W.plainGet K C Str.empty=true
 hd:PySem.W.hasDictIn K C=true
 po:PySem.W.plainOver K C=true
 sa:PySem.W.findIn K (.ref C) "__setattr__"=some (some (.builtin "object.__setattr__"))
theorem Cls.get{K:V8}{C:Yp}(c:Cls K C)(f:Str):PySem.W.plainGet K C f=true:=c.pg
section
variable{X:Cx}{pq:List (Yp×Obj)}{σ:St}{H:Hp}{s:Yo}{A:Z0}{E:Yn->Yo->Prop}{Q:Yn->Yo->Prop}{c:Yn}{b:Bool}
inductive TyOf(K:V8)(H:Hp):V->Yn->Prop where
 | non:TyOf K H .non (.type "NoneType")
 | bl (x:Bool):TyOf K H (.bl x) (.type "bool")
 | int (i:Int):TyOf K H (.int i) (.type "int")
 | str (x:Str):TyOf K H (.str x) (.type "str")
 | flt (x:UInt64):TyOf K H (.flt x) (.type "float")
 | lst {a:Yp} {xs:List V} (e:H a=some (.lst xs)):TyOf K H (.ref a) (.type "list")
 | frz {a:Yp} {o:Obj} {xs:List V} (e:H a=some (.frz o (.lst xs))):TyOf K H (.ref a) (.type "list")
 | tup {a:Yp} {xs:List V} (e:H a=some (.tup xs)):TyOf K H (.ref a) (.type "tuple")
 | dK {a:Yp} {kvs:List (Key×V)} (e:H a=some (.dK kvs)):TyOf K H (.ref a) (.type "dict")
 | dT {a:Yp} {kvs:List (List Key×V)} (e:H a=some (.dT kvs)):TyOf K H (.ref a) (.type "dict")
 | ins {a C dx:Yp} {fs:List (Str×V)} (e:H a=some (.ins C dx fs)) (cl:Cls K C) (ha:PySem.W.findIn K (.ref C) "__class__"=some (some (.builtin "object.__class__")))
    (hn:PySem.W.specialIn K (.builtin "object.__class__") "__get__"=some (some (.builtin "getset_descriptor.__get__"))) (htk:PySem.W.takesIn K (.builtin "object.__class__")=some true)
    (hm:PySem.W.mroIn K C (.type "object")=some true):TyOf K H (.ref a) (.ref C)
theorem KK{x:V}{u t:Yn}(I:Inv X pq σ H s)(rx:RelV x u)(ty:TyOf X.K H x t)(e:PySem.W.kitOne X.K t c=some b)(h:∀ tk,Q (.bool b) {s with toks:=tk}):
 Ys (Yt X.prog X.w) A (call (.builtin "isinstance") [u,c]) Q E s:=by
 cases ty with
 | non=>cases(show u=Value.none from rx);exact PySem.W.kia_one PySem.W.kitx_none I.kIn True.intro e (λz=>nomatch z) h
 | bl y=>cases(show u=Value.bool y from rx);exact PySem.W.kia_one PySem.W.kitx_bool I.kIn True.intro e (λz=>nomatch z) h
 | int i=>obtain⟨t,q⟩:=(show ∃ t,u=Value.int i t from rx);cases q;exact PySem.W.kia_one PySem.W.kitx_int I.kIn True.intro e (λz=>nomatch z) h
 | str y=>obtain⟨t,q⟩:=(show ∃ t,u=Value.str y t from rx);cases q;exact PySem.W.kia_one PySem.W.kitx_str I.kIn True.intro e (λz=>nomatch z) h
 | flt y=>obtain⟨t,q⟩:=(show ∃ t,u=Value.float y t from rx);cases q;exact PySem.W.kia_one PySem.W.kitx_float I.kIn True.intro e (λz=>nomatch z) h
 | @lst a xs ea=>
   cases(show u=Value.ref a from rx);obtain⟨_,_,n,_,h1⟩:=(show ObjOk X.prog X.w H s.heap a (.lst xs) from I.hok a _ ea)
   exact PySem.W.kia_one PySem.W.kitx_list I.kIn ⟨_,h1,rfl⟩ e (λz=>nomatch z) h
 | @frz a ob xs ea=>
   cases(show u=Value.ref a from rx);obtain⟨_,_,_,n,_,h1⟩:=(show ObjOk X.prog X.w H s.heap a (.frz ob (.lst xs)) from I.hok a _ ea)
   exact PySem.W.kia_one PySem.W.kitx_list I.kIn ⟨_,h1,rfl⟩ e (λz=>nomatch z) h
 | @tup a xs ea=>
   cases(show u=Value.ref a from rx);obtain⟨_,_,_,p⟩:=(show ObjOk X.prog X.w H s.heap a (.tup xs) from I.hok a _ ea)
   obtain⟨o,h1,h2,_⟩:=p;exact PySem.W.kia_one PySem.W.kitx_tuple I.kIn ⟨o,h1,h2⟩ e (λz=>nomatch z) h
 | @dK a kvs ea=>
   cases(show u=Value.ref a from rx);obtain⟨_,_,vs,_,p⟩:=(show ObjOk X.prog X.w H s.heap a (.dK kvs) from I.hok a _ ea)
   obtain⟨o,es,ep,h1,h2,_⟩:=p;exact PySem.W.kia_one PySem.W.kitx_dict I.kIn ⟨o,h1,h2.1⟩ e (λz=>nomatch z) h
 | @dT a kvs ea=>
   cases(show u=Value.ref a from rx);obtain⟨_,_,xs,_,o,es,ep,h1,h2,_⟩:=(show ObjOk X.prog X.w H s.heap a (.dT kvs) from I.hok a _ ea)
   exact PySem.W.kia_one PySem.W.kitx_dict I.kIn ⟨o,h1,h2.1⟩ e (λz=>nomatch z) h
 | @ins a C dx fs ea cl ha hn htk hm=>
   cases(show u=Value.ref a from rx);obtain⟨mA,O,_⟩:=Iy I.hok ea;obtain⟨od,J,_⟩:=O.look;exact PySem.W.kia_one (PySem.W.kitx_own (cl.get _) cl.hd ha hn htk hm) I.kIn J e (λz=>nomatch z) h
end
structure Room(k:Nat)(A:Z0):Prop where
 hd:A.handled=none
 dp:A.depth+3 * k+5<A0A
 un:A.units+16 * k+200<cLine
 gd:A.guards=some []
theorem Room.deeper{k:Nat}{A:Z0}(r:Room (k+1) A)(env:Env):Room k (A.deeper env):=
 ⟨r.hd,by have:=r.dp;show A.depth+1+3 * k+5<_;omega,by have:=r.un;show A.units+3+16 * k+200<_;omega,r.gd⟩
theorem Room.depth{k:Nat}{A:Z0}(r:Room k A):A.depth<A0A:=by have:=r.dp;omega
def RY:TA:=λ_ H Q=>Q [] H
def Fi(ta:TE)(tr:TA):TA:=λσ H Q=>ta σ H λx H1=>tr σ H1 λxs H2=>Q (x::xs) H2
section
variable{X:Cx}{e:Expr}{es:List Expr}{te:TE}{t:TA}{pos:Pos}
theorem Az:PA X [] RY:=λ_ _ _ _ H Q I h=>Calls.spliced_nil ⟨[],H,I,.nil,h⟩
theorem y1(ha:PE X e te)(hr:PA X es t)(hs:Yy (e::es) X.env=(false,eval e X.env)::Yy es X.env:=by rfl):PA X (e::es) (Fi te t):=by
 intro pos pq s σ H Q I h;rw[hs];show Ys _ _ (spliced ((false,eval e X.env)::backTo pos (Yy es X.env))) _ _ s;refine Calls.spliced_cons (thn (ha pq s σ H _ I h) λu s1 ⟨x,H1,I1,r1,q1⟩=>?_);exact thn (hr pos pq s1 σ H1 _ I1 q1) λus s2 ⟨xs,H2,I2,r2,q2⟩=>⟨x::xs,H2,I2,.cons r1 r2,q2⟩
def Ti(t:TA):TE:=λσ H Q=>t σ H λxs H1=>xs.length<=Yr/\∀ p,H1 p=none->Q (.ref p) (upd H1 p (.tup xs))
def Tj(t:TA):TE:=λσ H Q=>t σ H λxs H1=>xs.length<=Yr/\∀ p,H1 p=none->Q (.ref p) (upd H1 p (.lst xs))
theorem RZ{x1}(h:PA X es t):PE X (.Tuple es x1 pos) (Ti t):=by
 intro pq s σ H Q I hq;refine wpAny_Tuple_spliced (thn (h pos pq s σ H _ I hq) λus s1 ⟨xs,H1,I1,r,z,q⟩=>⟨by rw[<-r.length];exact z,?_⟩);have hf:H1 s1.heap.objs.size=none:=I1.hok.fresh (VH _);refine⟨.ref s1.heap.objs.size,upd H1 s1.heap.objs.size (.tup xs),I1.laid (t':=s1.toks) (λb u e=>VG _ e) (VH _) ?_,rfl,q _ hf⟩;exact⟨z,us,r,⟨_,VV _ rfl,rfl,_,rfl⟩⟩
theorem Ra(h:PA X es t):PE X (.List es pos) (Tj t):=by
 intro pq s σ H Q I hq;refine wpAny_List_spliced (thn (h pos pq s σ H _ I hq) λus s1 ⟨xs,H1,I1,r,z,q⟩=>⟨by rw[<-r.length];exact z,?_⟩);have hf:H1 s1.heap.objs.size=none:=I1.hok.fresh (VH _);refine⟨.ref s1.heap.objs.size,upd H1 s1.heap.objs.size (.lst xs),I1.laid (t':=s1.toks) (λb u e=>VG _ e) (VH _) ?_,rfl,q _ hf⟩;exact⟨z,us,0,r,VV _ rfl⟩
end
abbrev Sp:=List V->Hp->VK->XK->Prop
abbrev CXT:=List Env->Hp->Yo->XK->Yn->Yo->Prop
structure Env0(P:Yu)(w:Yw)(K:V8)(mg:Str->Option Yn)(base:Heap)(A:Z0)(outer:List Env)(s:Yo)(H:Hp):Prop where
 frames:A.frames=some outer
 mod:Mod K mg base
 bs:∀ b o,base.get? b=some o->s.heap.get? b=some o/\H b=none
 bsz:base.objs.size<=s.heap.objs.size
 funs:s.heap.FunFrames base outer
 frf:∀ b∈frs outer,H b=none
 hok:HOk P w H s.heap
 bare:AllBare s.gens
noncomputable def CE(outer:List Env)(P:Yu)(w:Yw)(H:Hp)(s:Yo)(Q:VK)(u:Yn)(s':Yo):Prop:=
 ∃ v H',s'.os=s.os/\AllBare s'.gens/\Un (frs outer) [] H H' s.heap s'.heap/\HOk P w H' s'.heap/\RelV v u/\Q v H'
noncomputable def CR(CX:CXT)(outer:List Env)(P:Yu)(w:Yw)(H:Hp)(s:Yo)(Q:VK)(E:XK)(r:Result)(s':Yo):Prop:=
 match r with
 | .ok (.ret u)=>CE outer P w H s Q u s'
 | .ok _=>False
 | .error e=>CX outer H s E e s'
structure FnOk(P:Yu)(w:Yw)(K:V8)(mg:Str->Option Yn)(base:Heap)(CX:CXT)(k:Nat)(f:Yp)(fd:ZT)(ps:List Str)(sp:Sp):Prop where
 len:∀ vs H Q E,sp vs H Q E->vs.length=ps.length
 run:∀(A:Z0) (outer:List Env) (s:Yo) (H:Hp) (args:Args) (us:List Yn) (vs:List V) (Q:VK) (E:XK),Room k A->Env0 P w K mg base A outer s H->BindsTo s fd args (ps.zip us)->Vals vs us->sp vs H Q E->
  codeAny (Yt P w) A (.call (.ref f) args) (CR CX outer P w H s Q E) s
section
variable{X:Cx}{pq:List (Yp×Obj)}{σ:St}{H:Hp}{s s':Yo}
theorem Inv.env0(I:Inv X pq σ H s):Env0 X.prog X.w X.K X.mg X.base X.A X.stack s H:=
 ⟨I.ok.frames,I.ok.mod,I.bs,Vc I.ok.bsz I.sz,I.stack,I.stkFree,I.hok,I.bare⟩
theorem Inv.after{Q:VK}{u:Yn}(I:Inv X pq σ H s)(h:CE X.stack X.prog X.w H s Q u s'):EP X pq σ Q u s':=by
 obtain⟨v,H',os,bare,un,hok,r,q⟩:=h;obtain⟨hh,g,d,t,os'⟩:=s';obtain rfl:os'=s.os:=os;exact⟨v,H',I.call (h':=hh) (g':=g) (d':=d) (t':=t) (ch:=[]) un hok bare (λb z=>absurd z (by simp)),r,q⟩
end
def QV(sp:Sp)(dvs:List V)(E:XK)(t:TA):TE:=λσ H Q=>t σ H λvs H1=>sp (vs++dvs) H1 Q E
def Binds(K:V8)(fd:ZT)(ps:List Str)(ds:List Yn):Prop:=
 ∀(s:Yo) (us:List Yn),K.In s.heap->(us++ds).length=ps.length->BindsTo s fd ⟨us,[]⟩ (ps.zip (us++ds))
theorem Binds.all{K:V8}{fd:ZT}{ps:List Str}(h:∀ us:List Yn,us.length=ps.length->bindArgs fd ⟨us,[]⟩=pure (ps.zip us)):Binds K fd ps []:=λs us _ hl=>by
 rw[Vy]at hl ⊢;exact .of_eq (h us hl)
def He(CX:CXT)(X:Cx)(E:XK):Prop:=∀(pq:List (Yp×Obj)) (σ:St) (H:Hp) (s:Yo) (e:Yn) (s':Yo),Inv X pq σ H s->CX X.stack H s E e s'->X.xe e s'
section
variable{X:Cx}{CX:CXT}{k:Nat}{f C:Yp}{fd:ZT}{ps:List Str}{sp:Sp}{dvs:List V}{ds:List Yn}{E:XK}{x m:Str}{p pos apos:Pos}{e o:Expr}{es:List Expr}{ta:TE}{t:TA}
theorem Rb{pq:List (Yp×Obj)}{σ:St}{H:Hp}{s:Yo}{Q:VK}{us:List Yn}{vs:List V}(F:FnOk X.prog X.w X.K X.mg X.base CX k f fd ps sp)(hr:Room k X.A)(hb:Binds X.K fd ps ds)(hd:Vals dvs ds)(hx:He CX X E)
 (I:Inv X pq σ H s) (r:Vals vs us) (h:sp (vs++dvs) H Q E):Ys (Yt X.prog X.w) X.A (call (.ref f) us) (EP X pq σ Q) X.xe s:=by
 have r2:Vals (vs++dvs) (us++ds):=r.append hd;have hl:(us++ds).length=ps.length:=by rw[<-r2.length];exact F.len _ _ _ _ h
 refine wpAny_call (A0l (F.run X.A X.stack s H ⟨us,[]⟩ (us++ds) (vs++dvs) Q E hr I.env0 (hb s us I.kIn hl) r2 h) λr s' hq=>?_);cases r with
 | error e=>exact hx pq σ H s e s' I hq
 | ok fl=>
   cases fl with
   | ret u=>exact I.after hq
   | next=>exact False.elim hq
   | brk=>exact False.elim hq
   | cont=>exact False.elim hq
theorem OV(F:FnOk X.prog X.w X.K X.mg X.base CX k f fd ps sp)(hr:Room k X.A)(hg:Gl X x)(hm:X.mg x=some (.ref f))(hk:PySem.W.keepIn X.K (.ref f)=true)(hb:Binds X.K fd ps ds)(hd:Vals dvs ds)(hx:He CX X E)
 (ha:PA X (e::es) t) (hdb:(x == ("__debug__":Str))=false:=by decide) (he:Yy (e::es) X.env=(false,eval e X.env)::Yy es X.env:=by rfl) (hpl:(backTo pos (Yy es X.env)).any (·.1)=false:=by rfl):
 PE X (.Call (.Name x p) (e::es) [] pos) (QV sp dvs E t):=by
 intro pq s σ H Q I h;refine ZQ (OK I hg hm ?_ hdb);refine PySem.W.callWith_K (h₀:=X.base) I.ok.mod.kin hk (thn (ha pos pq s σ H _ I h) λus s1 ⟨vs,H1,I1,r,q⟩=>⟨I1.kIn,?_⟩) he hpl;exact Rb F hr hb hd hx I1 r q
end
noncomputable def PK(X:Cx)(kws:List Keyword)(t:TA):Prop:=
 ∀(pos:Pos) (pq:List (Yp×Obj)) (s:Yo) (σ:St) (H:Hp) (Q:List V->Hp->Prop),Inv X pq σ H s->t σ H Q->Ys (Yt X.prog X.w) X.A (evalAll ((Zp pos (ZX kws X.env)).map (·.2))) (AP X pq σ Q) X.xe s
section
variable{X:Cx}{CX:CXT}{k:Nat}{f C:Yp}{fd:ZT}{ps ks:List Str}{sp:Sp}{E:XK}{x m:Str}{p pos apos kpos:Pos}{e o:Expr}{es:List Expr}{kws:List Keyword}{te ta:TE}{t tk:TA}{nm:Option Str}
theorem Ls:PK X [] RY:=λ_ _ _ _ H Q I h=>wpAny_evalAll_nil ⟨[],H,I,.nil,h⟩
theorem Iz(ha:PE X e te)(hr:PK X kws t):PK X (⟨nm,e,kpos⟩::kws) (Fi te t):=by
 intro pos pq s σ H Q I h;show Ys _ _ (evalAll ((do let v <- eval e X.env;standAt pos;pure v)::(Zp pos (ZX kws X.env)).map (·.2))) _ _ s;refine wpAny_evalAll_cons (Ym (thn (ha pq s σ H _ I h) λu s1 ⟨x,H1,I1,r1,q1⟩=>Ym (Zk (Yq ?_))));exact thn (hr pos pq s1 σ H1 _ I1 q1) λus s2 ⟨xs,H2,I2,r2,q2⟩=>⟨x::xs,H2,I2,.cons r1 r2,q2⟩
variable{g:List Yn->List Yn->List Yn}{gV:List V->List V->List V}
end
structure FnScope(N P:List Str)(sc:Z1):Prop where
 kind:sc.kind = .function
 co:sc.isCoroutine=false
 gen:sc.isGenerator=false
 nd:N.Nodup
 pre:N.take P.length=P
 par:∀ x∈P,sc.names.lookup x=some .local\/sc.names.lookup x=some .cell
 nofree:∀ y∈sc.names,y.2 ≠ .free
theorem EI{kindOf:Str->Option ZA}{x:Str}:∀{binds:List (Str×Yn)} {m:Str->Option Yn},(∀ v,(x,v)∉binds)->bindL kindOf binds m x=m x
 | [],_,_=>rfl
 | (n,v)::r,m,h=>by
   unfold bindL;rw[EI λw hw=>h w (VL _ hw)];split
   ·have:x≠n:=by rintro rfl;exact h v VQ
    simp[this]
   ·rfl
theorem EJ{kindOf:Str->Option ZA}{x:Str}:∀{binds:List (Str×Yn)} {m:Str->Option Yn},(∀ v,(x,v)∉binds)->bindC kindOf binds m x=m x
 | [],_,_=>rfl
 | (n,v)::r,m,h=>by
   unfold bindC;rw[EJ λw hw=>h w (VL _ hw)];split
   ·rfl
   ·have:x≠n:=by rintro rfl;exact h v VQ
    simp[this]
theorem EK{kindOf:Str->Option ZA}{x:Str}{v:Yn}:∀{P:List Str} {vs:List Yn} {i:Nat} {m:Str->Option Yn},P.Nodup->P[i]?=some x->vs[i]?=some v->kindOf x=some .local->
 bindL kindOf (P.zip vs) m x=some v
 | [],_,_,_,_,h,_,_=>by simp at h
 | _::_,[],_,_,_,_,h,_=>by simp at h
 | p::P,w::vs,0,m,nd,h1,h2,hk=>by
   simp at h1 h2;subst h1;subst h2;show bindL kindOf ((p,w)::P.zip vs) m p=_;unfold bindL;rw[EI λv hv=>(Vz.mp nd).1 (Wg hv).1,iP hk];simp
 | p::P,w::vs,i+1,m,nd,h1,h2,hk=>by
   show bindL kindOf ((p,w)::P.zip vs) m x=_;unfold bindL;exact EK (i:=i) (Vz.mp nd).2 (by simpa using h1) (by simpa using h2) hk
theorem EL{kindOf:Str->Option ZA}{x:Str}{v:Yn}:∀{P:List Str} {vs:List Yn} {i:Nat} {m:Str->Option Yn},P.Nodup->P[i]?=some x->vs[i]?=some v->kindOf x≠some .local->
 bindC kindOf (P.zip vs) m x=some v
 | [],_,_,_,_,h,_,_=>by simp at h
 | _::_,[],_,_,_,_,h,_=>by simp at h
 | p::P,w::vs,0,m,nd,h1,h2,hk=>by
   simp at h1 h2;subst h1;subst h2;show bindC kindOf ((p,w)::P.zip vs) m p=_;unfold bindC;rw[EJ λv hv=>(Vz.mp nd).1 (Wg hv).1,iG hk];simp
 | p::P,w::vs,i+1,m,nd,h1,h2,hk=>by
   show bindC kindOf ((p,w)::P.zip vs) m x=_;unfold bindC;exact EL (i:=i) (Vz.mp nd).2 (by simpa using h1) (by simpa using h2) hk
def start(N:List Str)(vs:List V):St:=vs.map some++VM (N.length - vs.length) none
noncomputable def Hf(CX:CXT)(P:Yu)(w:Yw)(K:V8)(mg:Str->Option Yn)(base:Heap)(N:List Str)(qual:Str)(scope:Z1)(f:Yp)(cd:Yn)(A:Z0)(outer:List Env)(s:Yo)(H:Hp)(E:XK):Cx where
 prog:=P
 w:=w
 K:=K
 mg:=mg
 base:=base
 A:=A.deeper (envOfC qual scope s.heap.objs.size f cd)
 N:=N
 s₀:=s
 H₀:=H
 env:=envOfC qual scope s.heap.objs.size f cd
 outer:=outer
 stack:=envOfC qual scope s.heap.objs.size f cd::outer
 ex:=[]
 calm:=true
 fn:=λ_=>true
 pn:=[]
 xe:=λe s'=>Ys (Yt P w) (A.deeper (envOfC qual scope s.heap.objs.size f cd)) (leaving (envOfC qual scope s.heap.objs.size f cd) e) (λ_ s''=>CX outer H s E e s'') (λe' s''=>CX outer H s E e' s'') s'
theorem Fj{sc:Z1}{n:Nat}{x:Str}(h:sc.names.lookup x=some .cell):∃ c,(ZD n sc.names []).lookup x=some c:=by
 have q:=PySem.W.cellsFrom_some sc.names n [] (.inl h);exact Wo.mp q
theorem KL{CX:CXT}{P:Yu}{w:Yw}{K:V8}{mg:Str->Option Yn}{base:Heap}{N ps:List Str}{qual:Str}{scope:Z1}{f:Yp}{cd:Yn}{A:Z0}{outer:List Env}{s s1:Yo}{H:Hp}{E:XK}{us:List Yn}{vs:List V}
 (S:FnScope N ps scope) (hd:A.handled=none) (e0:Env0 P w K mg base A outer s H) (hl:vs.length=ps.length) (r:Vals vs us)
 (x:InCallC s s.heap.objs.size (bindL (envOfC qual scope s.heap.objs.size f cd).kindOf (ps.zip us) λ_=>none) (ZD (s.heap.objs.size+1) scope.names []) (bindC (envOfC qual scope s.heap.objs.size f cd).kindOf (ps.zip us) λ_=>none) s1):
 Inv (Hf CX P w K mg base N qual scope f cd A outer s H E) [] (start N vs) H s1:=by
 have hpl:ps.length<=N.length:=by have:=congrArg XT S.pre;rw[Vr]at this;omega
 obtain⟨h1,tk,rfl,hk⟩:=x.done;have noA:∀ b:Yp,b∉(Hf CX P w K mg base N qual scope f cd A outer s H E).ex:=λb z=>absurd (show b∈([]:List Yp) from z) (by simp)
 refine⟨⟨e0.mod,S.kind,rfl,rfl,VH _,λy z c h1 h2=>?_,λy hy=>?_,λy c _ h=>?_,λ_=>hd,Around.frames_deeper e0.frames,.inr ⟨rfl,rfl⟩,λb z=>absurd z (noA b),e0.bs,e0.bsz,λb _ _=>noA b,λb z=>absurd z (noA b),e0.funs,e0.frf⟩,
  rfl,e0.bare,Un.kept hk,⟨_,x.toInCall.ns,λi y v h1 h2 h3=>?_⟩,λy c h=>⟨_,x.cell y c h⟩,e0.hok.fresh (VH _),λy c h=>?_,λp hp=>absurd (show p∈([]:List (Yp×Obj)) from hp) (by simp),e0.hok.kept hk,?_⟩
 ·exact name_of_addr x.apart (PySem.mem_of_lookup h1) (PySem.mem_of_lookup h2)
 ·have hy:scope.names.lookup y=some .cell\/scope.names.lookup y=some .free:=hy;rcases hy with hy | hy
  ·exact Fj hy
  ·exact absurd rfl (S.nofree _ (PySem.mem_of_lookup hy))
 ·exact Xi (x.above y c (PySem.mem_of_lookup h))
 ·have hi:i<vs.length:=by
   unfold start at h2;by_cases hi:i<vs.length
   ·exact hi
   ·rw[Vq (by simpa using hi)]at h2;rw[WK]at h2;split at h2<;>cases h2
  have ha:vs[i]?=some v:=by
   unfold start at h2;rw[VP (by simpa using hi),VI]at h2;cases e:vs[i]? with
   | none=>rw[e]at h2;cases h2
   | some a=>rw[e]at h2;cases h2;rfl
  obtain⟨u,hu,rv⟩:=r.get ha
  have hp:ps[i]?=some y:=by
   rw[<-S.pre,List.getElem?_take_of_lt (by omega)];exact h1
  have ndP:ps.Nodup:=by rw[<-S.pre];exact S.nd.sublist (List.take_sublist _ _)
  refine⟨u,rv,?_⟩;rcases S.par y (VC hp) with k | k
  ·exact .inl ⟨k,EK ndP hp hu k⟩
  ·obtain⟨c,e⟩:=Fj (n:=s.heap.objs.size+1) k;refine .inr ⟨.inl k,c,e,?_⟩;have q:=x.cell y c e;rw[EL ndP hp hu (by show scope.names.lookup y≠_;rw[k];decide)]at q;exact q
 ·exact e0.hok.fresh (Xi (x.above y c (PySem.mem_of_lookup h)))
 ·unfold start;show _=N.length;rw[VB,VA,WW];omega
theorem Tk{CX:CXT}{P:Yu}{w:Yw}{K:V8}{mg:Str->Option Yn}{base:Heap}{k:Nat}{f:Yp}{name qual:Str}{params:Arguments}{body:List Stmt}{scope:Z1}{dV kV doc pm cdv ct oc:Yn}{an od:Option Yp}
 {osl:Array (Option Yn)} {N ps:List Str} {sp:Sp} (lk:K.lookup f=some ⟨oc,od,.func (PySem.W.fnOf name qual params body scope dV kV doc pm an cdv ct),osl⟩) (hcd:PySem.W.codeIn K cdv qual=true) (S:FnScope N ps scope)
 (len:∀ vs H Q E,sp vs H Q E->vs.length=ps.length)
 (hbody:∀(A:Z0) (outer:List Env) (s:Yo) (H:Hp) (vs:List V) (Q:VK) (E:XK),Room k (A.deeper (envOfC qual scope s.heap.objs.size f cdv))->sp vs H Q E->
   ∃ t,PSs (Hf CX P w K mg base N qual scope f cdv A outer s H E) body t/\t {nx:=λ_ H'=>Q .non H',rt:=Q} (start N vs) H):
 FnOk P w K mg base CX (k+1) f (PySem.W.fnOf name qual params body scope dV kV doc pm an cdv ct) ps sp:=by
 refine⟨len,λA outer s H args us vs Q E hr e0 hb r hsp=>?_⟩;have hl:=len _ _ _ _ hsp;have KX:K.In s.heap:=e0.mod.kin.keeps λb o e=>(e0.bs b o e).1;have lim:s.heap.NoLimit:=e0.mod.nolimit.keeps λb o e=>(e0.bs b o e).1
 have hkind:∀ y∈ps.zip us,scope.names.lookup y.1=some .local\/(scope.names.lookup y.1=some .cell/\((ZD (s.heap.objs.size+1) scope.names []).lookup y.1).isSome=true):=λ⟨n,v⟩ hy=>by
  rcases S.par n (Wg hy).1 with q | q
  ·exact .inl q
  ·exact .inr ⟨q,PySem.W.cellsFrom_some _ _ _ (.inl q)⟩
 refine codeAny_call_function hr.depth (KX _ _ lk) rfl S.co S.gen rfl (PySem.W.codeRec_of KX hcd) (hb _ _ _ _ ?_);refine wpAny_newFunctionEnv_cells S.kind hkind λenv he s1 x=>?_;subst he;refine⟨lim.keeps x.toInCall.keep,codeAny_func ?_⟩;obtain⟨t,ht,hq⟩:=hbody A outer s H vs Q E (hr.deeper _) hsp;have I:Inv (Hf CX P w K mg base N qual scope f cdv A outer s H E) [] (start N vs) H s1:=KL S hr.hd e0 hl r x;refine ZE (ht [] s1 (start N vs) H _ I hq) (λfl s' hs=>?_) λe s' hs=>hs
 have fin:∀{σ':St} {H':Hp} {v:V} {u:Yn},Inv (Hf CX P w K mg base N qual scope f cdv A outer s H E) [] σ' H' s'->RelV v u->Q v H'->CE outer P w H s Q u s':=
  λ{σ' H' v u} J rv q=>⟨v,H',J.os,J.bare,J.base,J.hok,rv,q⟩
 cases fl with
 | ret u=>
   obtain⟨v,σ',H',J,rv,q⟩:=hs;exact fin J rv q
 | next=>
   obtain⟨σ',H',J,q⟩:=hs;exact fin (v:=V.non) (u:=Value.none) J rfl q
 | brk=>
   obtain⟨_,_,_,q⟩:=hs;exact False.elim q
 | cont=>
   obtain⟨_,_,_,q⟩:=hs;exact False.elim q
section
variable{X:Cx}{x:Str}{p pos:Pos}{e:Expr}{es:List Expr}{t:TA}{id T:String}{r:List V->Hp->VK->Prop}
def tCB(r:List V->Hp->VK->Prop)(t:TA):TE:=λσ H Q=>t σ H λvs H1=>r vs H1 Q
theorem v3(hc:CallR X (.builtin id) r)(hg:Gl X x)(hm:X.mg x=none)(hv:Yx x=some (.builtin id))(ha:PA X (e::es) t)(hn:x≠"__name__":=by decide)(hdb:(x == ("__debug__":Str))=false:=by decide)
 (he:Yy (e::es) X.env=(false,eval e X.env)::Yy es X.env:=by rfl) (hpl:(backTo pos (Yy es X.env)).any (·.1)=false:=by rfl):PE X (.Call (.Name x p) (e::es) [] pos) (tCB r t):=by
 intro pq s σ H Q I h;refine ZQ (BE I hg hm hv ?_ hn hdb);exact PyProof.Rows.callWith_builtin1 (thn (ha pos pq s σ H _ I h) λus s1 ⟨vs,H1,I1,r1,q1⟩=>hc pq s1 σ H1 vs us Q I1 r1 q1) he hpl
theorem Bg(hc:CallR X (.type T) r)(hg:Gl X x)(hm:X.mg x=none)(hv:Yx x=some (.type T))(ha:PA X (e::es) t)(hn:x≠"__name__":=by decide)(hdb:(x == ("__debug__":Str))=false:=by decide)
 (he:Yy (e::es) X.env=(false,eval e X.env)::Yy es X.env:=by rfl) (hpl:(backTo pos (Yy es X.env)).any (·.1)=false:=by rfl):PE X (.Call (.Name x p) (e::es) [] pos) (tCB r t):=by
 intro pq s σ H Q I h;refine ZQ (BE I hg hm hv ?_ hn hdb);exact PyProof.Rows.callWith_type1 (thn (ha pos pq s σ H _ I h) λus s1 ⟨vs,H1,I1,r1,q1⟩=>hc pq s1 σ H1 vs us Q I1 r1 q1) he hpl
end
end L2
namespace HT
open PySem PyProof.Rows
def lexLt:List Int->List Int->Bool
 | [],[]=>false
 | [],_::_=>true
 | _::_,[]=>false
 | x::xs,y::ys=>if x=y then lexLt xs ys else decide (x<y)
theorem Hh(x y:Int)(xs ys:List Int):lexLt (x::xs) (y::ys)=if x=y then lexLt xs ys else decide (x<y):=rfl
theorem Dx:lexLt [] []=false:=rfl
theorem D9(y:Int)(ys:List Int):lexLt [] (y::ys)=true:=rfl
theorem DA(x:Int)(xs:List Int):lexLt (x::xs) []=false:=rfl
theorem Lu(A:Z0)(s:Yo)(a:Int)(t:Tok)(c:Int)(u:Tok):∃ e,SeqAt.EqAt A s (.int a t) (.int c u) e/\(e=true↔a=c):=
 ⟨(a == c),SeqAt.EqAt.int_int a t c u,by simp⟩
theorem rcLt_int(A:Z0)(s:Yo)(a:Int)(t:Tok)(c:Int)(u:Tok)(prog:Yu)(w:Yw)(E:Yn->Yo->Prop)(Q:Yn->Yo->Prop)(h:Q (.bool (decide (a<c))) s):
 Ys (Yt prog w) A (ZO .Lt (.int a t) (.int c u)) Q E s:=
 (PyProof.Rows.lt_int h:Ys (Yt prog w) A (Z2 .Lt (.int a t) (.int c u)) Q E s)
section
open PySem.SeqAt
open PySem.AutoSeq1 (wpAny_loadPart')
open PySem.MeetsSeq PySem.MeetsSeq2 PySem.MeetsSeq3
theorem Dy(l b:Yp)(items items2:Array Yn)(n n2:Nat)(dd dd2:Option Yp)(sl sl2:Array (Option Yn))(ns ms:List Int)(hi:IntsAre items.toList ns)(hj:IntsAre items2.toList ms):
 Meets (Builtin.«tuple.__lt__» ⟨[.ref l,.ref b],[]⟩)
  (λ_ R s=>s.heap.get? l=some {cls := .type "tuple",dict:=dd,data := .seq items n,slots:=sl}/\s.heap.get? b=some {cls := .type "tuple",dict:=dd2,data := .seq items2 n2,slots:=sl2}/\
    R (.ok (.ret (.bool (lexLt ns ms)))) s):=
 .of_wp λprog w A R s h=>by
  obtain⟨hp,g,d,tk,os⟩:=s;obtain⟨hl,hb,h⟩:=h;have f2:=AutoSeq1.sub_tuple_tuple;have z1:items.size=ns.length:=by rw[<-hi.length];simp
  have z2:items2.size=ms.length:=by rw[<-hj.length];simp
  wp_walk using wpAny_loadPart' hl,wpAny_loadPart' hb,wpAny_forIn_list _ (λrest b s'=>b.1=none/\s'=⟨hp,g,d,tk,os⟩/\∃(vs ws:List Yn) (ns' ms':List Int),rest=vs.zip ws/\
   IntsAre vs ns'/\IntsAre ws ms'/\ns'.length+items2.size=ms'.length+items.size/\R (.ok (.ret (.bool (lexLt ns' ms')))) ⟨hp,g,d,tk,os⟩) _
  case turn=>
   rintro⟨y,x⟩ rest b s' ⟨hb',rfl,vs,ws,ns',ms',hz,hvi,hwi,hlen,hR⟩;cases hvi with
   | nil=>rw[List.zip_nil_left]at hz;cases hz
   | cons a t hvi'=>
     cases hwi with
     | nil=>rw[List.zip_nil_right]at hz;cases hz
     | cons c u hwi'=>
       rw[Y4]at hz;injection hz with hyx hrest;injection hyx with hy hx;subst hy hx;rw[Hh]at hR;simp only[Vb]at hlen;obtain⟨e,he,hiff⟩:=Lu A.in1 ⟨hp,g,d,tk,os⟩ a t c u;refine Ym (he prog w _ _ ?_);cases e with
       | true=>
         rw[iP (hiff.mp rfl)]at hR
         wp_walk
         exact⟨rfl,rfl,_,_,_,_,hrest,hvi',hwi',by omega,hR⟩
       | false=>
         rw[iG (λq=>absurd (hiff.mpr q) VJ)]at hR;have hri:=rcLt_int A.in1 ⟨hp,g,d,tk,os⟩ a t c u prog w
         wp_walk using hri
         exact⟨_,rfl,by simpa using hR⟩
  case fin=>
   rintro⟨b1,b2⟩ s' ⟨hb',rfl,vs,ws,ns',ms',hz,hvi,hwi,hlen,hR⟩;simp only at hb';subst hb'
   have hv:lexLt ns' ms'=decide (items.size<items2.size):=by
    cases hvi with
    | nil=>
      cases hwi with
      | nil=>
        simp only[W6]at hlen;rw[Dx];exact(decide_eq_false (by omega)).symm
      | cons c u hw=>
        simp only[W6,Vb]at hlen;rw[D9];exact(decide_eq_true (by omega)).symm
    | cons a t hv=>
      cases hwi with
      | nil=>
        simp only[W6,Vb]at hlen;rw[DA];exact(decide_eq_false (by omega)).symm
      | cons c u hw=>
        rw[Y4]at hz;cases hz
   rw[hv]at hR
   wp_walk
   exact⟨_,rfl,by simpa[Builtin.Tuple.tupleCompareSizes] using hR⟩
  case h=>
   exact⟨rfl,rfl,items.toList,items2.toList,ns,ms,rfl,hi,hj,by omega,h⟩
end
section
variable{prog:Yu}{w:Yw}{A:Z0}{E:Yn->Yo->Prop}{s:Yo}
theorem lt_tupInts{l b:Yp}{items items2:Array Yn}{ns ms:List Int}{Q:Yn->Yo->Prop}(hl:IsTup s.heap l items)(hb:IsTup s.heap b items2)(hi:IntsAre items.toList ns)(hj:IntsAre items2.toList ms)
 (hu:A.units<cLine) (h:Q (.bool (lexLt ns ms)) s):Ys (Yt prog w) A (Z2 .Lt (.ref l) (.ref b)) Q E s:=by
 obtain⟨⟨cls,dd,data,sl⟩,ho,hc,n,hd⟩:=id hl;obtain⟨⟨cls2,dd2,data2,sl2⟩,ho2,hc2,n2,hd2⟩:=id hb;simp only at hc hd hc2 hd2;subst hc hd hc2 hd2
 exact richCompare_meets_room (op := .Lt) ⟨_,ho,rfl⟩ ⟨_,ho2,rfl⟩ PySem.F.slot_tuple_lt PySem.F.entry_tuple_lt (PySem.F.args_tuple_lt_2 _ _) (Dy l b items items2 n n2 dd dd2 sl sl2 ns ms hi hj)
  ⟨ho,ho2,show Value.bool (lexLt ns ms)≠Value.notImplemented/\Q (.bool (lexLt ns ms)) s from ⟨(λx=>nomatch x),h⟩⟩ hu
theorem cat_tup{t b:Yp}{vs ws:List Yn}{Q:Yn->Yo->Prop}(ht:IsTup s.heap t vs.toArray)(hb:IsTup s.heap b ws.toArray)(hv:vs≠[])
 (h1:ws=[]->Q (.ref t) s) (h2:ws≠[]->Q (.ref s.heap.objs.size) {s with heap:=s.heap.push {cls := .type "tuple",data := .seq (vs++ws).toArray}})
 (hsz:vs.length+ws.length<=Yr):Ys (Yt prog w) A (ZG .Add (.ref t) (.ref b)) Q E s:=by
 obtain⟨⟨cls,dd,data,sl⟩,ho,hc,n,hd⟩:=id ht;obtain⟨⟨cls2,dd2,data2,sl2⟩,ho2,hc2,n2,hd2⟩:=id hb;simp only at hc hd hc2 hd2;subst hc hd hc2 hd2;have e:vs.toArray++ws.toArray=(vs++ws).toArray:=by simp
 by_cases hw:ws=[]
 ·exact A0m ⟨_,ho,rfl⟩ ⟨_,ho2,rfl⟩ Zy A0f PySem.F.slot_tuple_add PySem.F.entry_tuple_add (PySem.F.args_tuple_add_2 _ _)
   (tuple_addW1 t b vs.toArray ws.toArray n n2 dd dd2 sl sl2 (by simpa using hv) (by simp[hw])) ⟨ho,ho2,h1 hw⟩
 ·refine A0m ⟨_,ho,rfl⟩ ⟨_,ho2,rfl⟩ Zy A0f PySem.F.slot_tuple_add PySem.F.entry_tuple_add (PySem.F.args_tuple_add_2 _ _)
   (tuple_addW2 t b vs.toArray ws.toArray n n2 dd dd2 sl sl2 (by simpa using hv) (by simpa using hw) (by rw[VF,VF];exact hsz)) ⟨ho,ho2,?_⟩
  rw[e];exact h2 hw
def sIx(n d:Nat):Option Int->Nat
 | none=>d
 | some v=>if v<0 then (v+(n:Int)).toNat else min v.toNat n
theorem sIx_none(n d:Nat):sIx n d none=d:=rfl
theorem sIx_nat(n d k:Nat):sIx n d (some (k:Int))=min k n:=by
 show(if (k:Int)<0 then ((k:Int)+(n:Int)).toNat else min (k:Int).toNat n)=min k n;rw[iG (by omega),WZ]
theorem Rc(n d:Nat)(hd:d<=n)(o:Option Int):sIx n d o<=n:=by
 cases o with
 | none=>exact hd
 | some v=>
   show(if v<0 then (v+(n:Int)).toNat else min v.toNat n)<=n;by_cases hv:v<0
   ·rw[iP hv];omega
   ·rw[iG hv];exact Nat.min_le_right _ _
theorem J1(v:Int)(n d:Nat):(if v<0 then max (v+(n:Int)) 0 else min v (n:Int))=((sIx n d (some v):Nat):Int):=by
 show(if v<0 then max (v+(n:Int)) 0 else min v (n:Int))=(((if v<0 then (v+(n:Int)).toNat else min v.toNat n):Nat):Int)
 by_cases hv:v<0
 ·simp only[iP hv];omega
 ·simp only[iG hv];omega
theorem Hi(lo hi:Option Int)(n:Nat):Builtin.Slice.sliceAdjust lo hi 1 (n:Int)=(((sIx n 0 lo:Nat):Int),((sIx n n hi:Nat):Int)):=by
 have h1:¬ ((1:Int)<0):=by omega
 unfold Builtin.Slice.sliceAdjust;simp only[h1,if_false];refine Prod.ext ?_ ?_
 ·cases lo with
  | none=>rfl
  | some v=>exact J1 v n 0
 ·cases hi with
  | none=>rfl
  | some v=>exact J1 v n n
theorem Hj(i j:Nat):Builtin.Slice.slicePlaces (i:Int) (j:Int) 1=j - i:=by
 unfold Builtin.Slice.slicePlaces;have h1:(1:Int)>0:=by omega
 simp only[h1,if_true,Int.ediv_one];split<;>omega
theorem DB{v:Yn}{o:Option Int}{Q:Option Int->Yo->Prop}(p:IsPart v o)(h:Q o s):Ys (Yt prog w) A (Builtin.Slice.slicePartIndex v) Q E s:=by
 cases p with
 | none=>exact A0B h
 | int i t=>exact slicePart_int h
theorem An{sl:Yp}{vl vu:Yn}{lo hi:Option Int}{n:Nat}{Q:Int×Int×Nat->Yo->Prop}(hs:s.heap.IsSliceOf sl vl vu .none)(pl:IsPart vl lo)(pu:IsPart vu hi)
 (h:Q (((sIx n 0 lo:Nat):Int),1,sIx n n hi - sIx n 0 lo) s):Ys (Yt prog w) A (Builtin.Slice.sliceApplied (.ref sl) (pure (n:Int))) Q E s:=by
 obtain⟨os,hos,hcs,hds⟩:=id hs;unfold Builtin.Slice.sliceApplied Builtin.Slice.sliceFields;refine Ym (Ym (ZY hos hds (x:=vl) rfl (Ym (ZY hos hds (x:=vu) rfl (Ym (ZY hos hds (x := .none) rfl (Yq ?_)))))));refine Ym (A0B ?_);show Ys _ _ (if ((1:Int) == 0)=true then _ else _) _ _ s;rw[iG (by decide)];refine Ym (DB pl (Ym (DB pu (Ym (Yq ?_)))));show Ys _ _ (match Builtin.Slice.sliceAdjust lo hi 1 (n:Int) with | (lo,hi)=>pure (lo,(1:Int),Builtin.Slice.slicePlaces lo hi 1)) _ _ s;rw[Hi lo hi n];show Ys _ _ (pure (((sIx n 0 lo:Nat):Int),(1:Int),Builtin.Slice.slicePlaces ((sIx n 0 lo:Nat):Int) ((sIx n n hi:Nat):Int) 1)) _ _ s;rw[Hj];exact Yq h
theorem Lv(xs:Array Yn)(i k:Nat):((VN k).filterMap λ(m:Nat)=>xs[((i:Int)+(m:Int) * 1).toNat]?).toArray=((xs.toList.drop i).take k).toArray:=by
 have e:(λ(m:Nat)=>xs[((i:Int)+(m:Int) * 1).toNat]?)=λm=>xs[i+m]?:=by
  funext m
  have:((i:Int)+(m:Int) * 1).toNat=i+m:=by omega
  rw[this]
 rw[e];have:=pick_run xs i k;rw[List.filterMap_map]at this;have e2:((λx=>xs[x]?)∘λx=>i+x)=λm=>xs[i+m]?:=rfl;rw[e2]at this;rw[this]
theorem getItem_tuple_cut{t sl:Yp}{items:Array Yn}{vl vu:Yn}{lo hi:Option Int}{Q:Yn->Yo->Prop}(ht:IsTup s.heap t items)(hs:s.heap.IsSliceOf sl vl vu .none)(pl:IsPart vl lo)(pu:IsPart vu hi)
 (hw:¬ (sIx items.size 0 lo=0/\sIx items.size items.size hi=items.size))
 (h:Q (.ref s.heap.objs.size) {s with heap:=s.heap.push {cls := .type "tuple",data := .seq ((items.toList.drop (sIx items.size 0 lo)).take (sIx items.size items.size hi - sIx items.size 0 lo)).toArray}})
 (hsz:items.size<=Yr):Ys (Yt prog w) A (getItem (.ref t) (.ref sl)) Q E s:=by
 have htake:sizeOk (.seq ((items.toList.drop (sIx items.size 0 lo)).take (sIx items.size items.size hi - sIx items.size 0 lo)).toArray):=by
  show((items.toList.drop (sIx items.size 0 lo)).take (sIx items.size items.size hi - sIx items.size 0 lo)).toArray.size<=Yr;rw[VF,Vr,WL,Wp];omega
 have hj:sIx items.size items.size hi<=items.size:=Rc _ _ (VH _) hi;obtain⟨os,hos,hcs,hds⟩:=id hs;have hTs:s.TypeIs (.ref sl) "slice":=⟨os,hos,hcs⟩
 unfold getItem
 try with_reducible refine Z6 ?_
 first | refine Ym (Yq ?_) | skip
 refine Ym (A0n ht.typeIs (by decide) ?_)
 refine Ym (Z5 (name:=Str.ofString "__getitem__") ht.typeIs PyProof.Rows.slot_tuple_getitem
  (ZH PyProof.Rows.slot_tuple_getitem ht.typeIs A0c ?_ (A0i _ _)))
 show Ys _ _ (Builtin.Tuple.tupleItemsOf (.ref t) >>= _) _ _ s;refine Ym (tupleItemsOf_ ht ?_);refine Ym (A0o hTs ?_);rw[iP (by decide)];refine Ym (An hs pl pu ?_)
 have hno:¬ ((((sIx items.size 0 lo:Nat):Int) == 0&&(1:Int) == 1&&(sIx items.size items.size hi - sIx items.size 0 lo) == items.size)=true):=by
  intro q;rw[V9,V9]at q;have q1:((sIx items.size 0 lo:Nat):Int)=0:=eq_of_beq q.1.1;have q2:sIx items.size items.size hi - sIx items.size 0 lo=items.size:=eq_of_beq q.2;exact hw ⟨by omega,by omega⟩
 show Ys _ _ (if (((sIx items.size 0 lo:Nat):Int) == 0&&(1:Int) == 1&&(sIx items.size items.size hi - sIx items.size 0 lo) == items.size)=true then _ else _) _ _ s;rw[iG hno,Lv]
 first
  | exact Ym (m:=Builtin.Tuple.tupleExact _) (Yz (Yq ⟨_,rfl,Yq h⟩) htake)
  | exact Ym (m:=Builtin.Tuple.tupleExact _) (Yz (Ym (Yq (Yq ⟨_,rfl,Yq h⟩))) htake)
  | exact Ym (Ym (m:=Builtin.Tuple.tupleExact _) (Yz (Yq (Yq ⟨_,rfl,Yq h⟩)) htake))
  | exact Ym (Ym (m:=Builtin.Tuple.tupleExact _) (Yz (Yq ⟨_,rfl,Yq h⟩) htake))
end
end HT
namespace L2
open PySem PySem.Spec PyProof.Rows
abbrev TO:=St->Hp->(Option Int->Hp->Prop)->Prop
noncomputable def PO(X:Cx)(e:Option Expr)(t:TO):Prop:=
 ∀(pq:List (Yp×Obj)) (s:Yo) (σ:St) (H:Hp) (Q:Option Int->Hp->Prop),Inv X pq σ H s->t σ H Q->
  Ys (Yt X.prog X.w) X.A (evalPart e X.env) (λu s'=>∃ o H',Inv X pq σ H' s'/\IsPart u o/\Q o H') X.xe s
def OW:TO:=λ_ H Q=>Q none H
def Tl(t:TE):TO:=λσ H Q=>t σ H λx H1=>∃ i,x = .int i/\Q (some i) H1
section
variable{X:Cx}{e:Expr}{te:TE}{lo hi:Option Expr}{tl th:TO}{pos p2:Pos}
theorem OX:PO X none OW:=by
 intro pq s σ H Q I h;rw[evalPart_none];exact Yq ⟨none,H,I,.none,h⟩
theorem OY(h:PE X e te):PO X (some e) (Tl te):=by
 intro pq s σ H Q I hw;rw[evalPart_some];refine thn (h pq s σ H _ I hw) λu s1 ⟨x,H1,I1,r1,q1⟩=>?_;obtain⟨i,rfl,q⟩:=q1;obtain⟨t,rfl⟩:=r1;exact⟨some i,H1,I1,.int i t,q⟩
noncomputable def SlR(X:Cx)(r:V->Option Int->Option Int->Hp->VK->Prop):Prop:=
 ∀(pq:List (Yp×Obj)) (s:Yo) (σ:St) (H:Hp) (x:V) (v vl vu:Yn) (lo hi:Option Int) (sl:Yp) (Q:VK),Inv X pq σ H s->RelV x v->s.heap.IsSliceOf sl vl vu .none->IsPart vl lo->IsPart vu hi->r x lo hi H Q->
  ∃ T id,typeLookup (.type T) "__getitem__"=pure (some (.builtin id))/\s.TypeIs v T/\Ys (Yt X.prog X.w) X.A (getItem v (.ref sl)) (EP X pq σ Q) X.xe s
theorem SlR.or{r r':V->Option Int->Option Int->Hp->VK->Prop}(h:SlR X r)(h':SlR X r'):SlR X (λx lo hi H Q=>r x lo hi H Q\/r' x lo hi H Q):=by
 intro pq s σ H x v vl vu lo hi sl Q I rx hs pl pu q;rcases q with q | q
 ·exact h pq s σ H x v vl vu lo hi sl Q I rx hs pl pu q
 ·exact h' pq s σ H x v vl vu lo hi sl Q I rx hs pl pu q
def tSl(r:V->Option Int->Option Int->Hp->VK->Prop)(te:TE)(tl th:TO):TE:=λσ H Q=>te σ H λx H1=>tl σ H1 λl H2=>th σ H2 λu H3=>r x l u H3 Q
theorem Lw{r:V->Option Int->Option Int->Hp->VK->Prop}(hr:SlR X r)(he:PE X e te)(hl:PO X lo tl)(hu:PO X hi th):PE X (.Subscript e (.Slice lo hi none p2) pos) (tSl r te tl th):=by
 intro pq s σ H Q I h;refine A0C (thn (he pq s σ H _ I h) λv s1 ⟨x,H1,I1,r1,q1⟩=>?_);refine wpAny_Slice (thn (hl pq s1 σ H1 _ I1 q1) λvl s2 ⟨l,H2,I2,pl,q2⟩=>thn (hu pq s2 σ H2 _ I2 q2) λvu s3 ⟨u,H3,I3,pu,q3⟩=>?_);rw[evalPart_none];refine Yq ?_;have I4:Inv X pq σ H3 {s3 with heap:=s3.heap.push {cls := .type "slice",data := .fields #[vl,vu,.none]}}:=I3.kept (t':=s3.toks) λb ob q=>VG _ q;obtain⟨T,id,hT,ht,hg⟩:=hr pq {s3 with heap:=s3.heap.push {cls := .type "slice",data := .fields #[vl,vu,.none]}} σ H3 x v vl vu l u s3.heap.objs.size Q I4 r1 (Heap.IsSliceOf.new ..) pl pu q3;show Ys (Yt X.prog X.w) X.A (A0g e (.Slice lo hi none p2) v (.ref s3.heap.objs.size)) (EP X pq σ Q) X.xe {s3 with heap:=s3.heap.push {cls := .type "slice",data := .fields #[vl,vu,.none]}};exact tail_any (ops:=[.ref s3.heap.objs.size,v]) ht hT hg (by with_unfolding_all rfl)
def Fk(xs:List V)(lo hi:Option Int):List V:=(xs.drop (HT.sIx xs.length 0 lo)).take (HT.sIx xs.length xs.length hi - HT.sIx xs.length 0 lo)
theorem Cl(xs:List V)(lo hi:Option Int):(Fk xs lo hi).length<=xs.length:=by
 unfold Fk;rw[Vr,WL];omega
def Tm(K:V8):V->Option Int->Option Int->Hp->VK->Prop:=λx lo hi H Q=>∃ a xs,x = .ref a/\SqT K H a xs/\
 ¬ (HT.sIx xs.length 0 lo=0/\HT.sIx xs.length xs.length hi=xs.length)/\∀ p,H p=none->Q (.ref p) (upd H p (.tup (Fk xs lo hi)))
theorem sl_tup:SlR X (Tm X.K):=by
 intro pq s σ H x v vl vu lo hi sl Q I rx hs pl pu h;obtain⟨a,xs,rfl,hx,hw,q⟩:=h;cases rx;obtain⟨its,r,ht,hz⟩:=I.tuple hx;have hlen:its.toArray.size=xs.length:=by rw[VF];exact r.length.symm
 refine⟨"tuple",_,PyProof.Rows.slot_tuple_getitem.lookup,ht.typeIs,?_⟩;refine HT.getItem_tuple_cut ht hs pl pu (by rw[hlen];exact hw) ?_ (by rw[hlen];exact hz);rw[hlen];refine⟨.ref s.heap.objs.size,_,I.laid (t':=s.toks) (o := .tup (Fk xs lo hi)) (λb ob q=>VG _ q) (VH _) ?_,rfl,q _ (I.hok.fresh (VH _))⟩;exact⟨Vc (Cl xs lo hi) hz,_,(r.drop (HT.sIx xs.length 0 lo)).take (HT.sIx xs.length xs.length hi - HT.sIx xs.length 0 lo),IsTup.new _ _⟩
def Lx(K:V8):R2:=λx y H Q=>∃ a b xs ys,x = .ref a/\y = .ref b/\SqT K H a xs/\SqT K H b ys/\xs≠[]/\xs.length+ys.length<=Yr/\
 (ys=[]->Q (.ref a) H)/\(ys≠[]->∀ p,H p=none->Q (.ref p) (upd H p (.tup (xs++ys))))
theorem Vals.nil_iff{xs:List V}{us:List Yn}(r:Vals xs us):us=[]↔xs=[]:=by
 cases r with
 | nil=>simp
 | cons _ _=>simp
theorem op_catT:OpR X (ZG .Add) (Lx X.K):=by
 intro pq s σ H x y v u Q I rx ry h;obtain⟨a,b,xs,ys,rfl,rfl,ha,hb,hx,hz,q1,q2⟩:=h;cases rx;cases ry;obtain⟨its,r1,p1,_⟩:=I.tuple ha;obtain⟨its2,r2,p2,_⟩:=I.tuple hb;refine HT.cat_tup p1 p2 (λz=>hx (r1.nil_iff.mp z)) (λz=>⟨.ref a,H,I,rfl,q1 (r2.nil_iff.mp z)⟩) (λz=>?_) (by rw[<-r1.length,<-r2.length];exact hz);refine⟨.ref s.heap.objs.size,_,I.laid (t':=s.toks) (o := .tup (xs++ys)) (λb ob q=>VG _ q) (VH _) ?_,rfl,q2 (λw=>z (r2.nil_iff.mpr w)) _ (I.hok.fresh (VH _))⟩;exact⟨by rw[VB];exact hz,_,r1.append r2,IsTup.new _ _⟩
end
def ixN(n:Nat)(i:Int):Option Nat:=if 0<=i then (if i<n then some i.toNat else none) else if -(n:Int)<=i then some (i+n).toNat else none
def atI{α:Type}(xs:List α)(i:Int):Option α:=(ixN xs.length i).bind λj=>xs[j]?
theorem J2{n:Nat}{i:Int}{j:Nat}(h:ixN n i=some j):seqIndex? i n=some j/\j<n /\ -(n:Int)<=i/\i<n:=by
 unfold ixN at h;by_cases h0:0<=i
 ·rw[iP h0]at h;by_cases h1:i<n
  ·rw[iP h1]at h;have e:i.toNat=j:=oj h;exact⟨by rw[A0u h0 h1,e],by omega,by omega,h1⟩
  ·rw[iG h1]at h;cases h
 ·rw[iG h0]at h;by_cases h1:-(n:Int)<=i
  ·rw[iP h1]at h;have e:(i+n).toNat=j:=oj h;exact⟨by rw[A0p (by omega) h1,e],by omega,h1,by omega⟩
  ·rw[iG h1]at h;cases h
theorem J3{α:Type}{xs:List α}{i:Int}{v:α}(h:atI xs i=some v):∃ j,seqIndex? i xs.length=some j/\xs[j]?=some v/\j<xs.length /\ -(xs.length:Int)<=i/\i<xs.length:=by
 unfold atI at h;cases e:ixN xs.length i with
 | none=>rw[e]at h;cases h
 | some j=>
   rw[e]at h;obtain⟨h1,h2,h3,h4⟩:=J2 e;exact⟨j,h1,h,h2,h3,h4⟩
theorem f8{α:Type}{xs:List α}{j:Nat}{v:α}(h:xs[j]?=some v):atI xs (j:Int)=some v:=by
 have hj:j<xs.length:=(gM h).1
 have e:ixN xs.length (j:Int)=some j:=by
  unfold ixN;rw[iP (by omega),iP (by omega)];simp
 unfold atI;rw[e];exact h
theorem Ly{α:Type}(xs:List α)(v:α):atI (xs++[v]) (-1)=some v:=by
 have hl:(xs++[v]).length=xs.length+1:=by simp
 have e:ixN (xs++[v]).length (-1)=some xs.length:=by
  unfold ixN;rw[hl,iG (by decide),iP (by omega)]
  congr 1
  omega
 unfold atI;rw[e];show(xs++[v])[xs.length]?=some v;simp
def J4(b:Expr):Prop:=∀ o i,A09 b false o i=operate [o,i] (getItem o i)
noncomputable def IxR(X:Cx)(r:R2):Prop:=
 ∀(value slice:Expr) (pq:List (Yp×Obj)) (s:Yo) (σ:St) (H:Hp) (x y:V) (v u:Yn) (Q:VK),Inv X pq σ H s->RelV x v->RelV y u->r x y H Q->
  A09 slice false v u=operate [v,u] (getItem v u)->Ys (Yt X.prog X.w) X.A (A0g value slice v u) (EP X pq σ Q) X.xe s
noncomputable def MtR(X:Cx)(id:String)(r:V->List V->Hp->VK->Prop):Prop:=
 ∀(pq:List (Yp×Obj)) (s:Yo) (σ:St) (H:Hp) (x:V) (xs:List V) (v:Yn) (us:List Yn) (Q:VK),Inv X pq σ H s->RelV x v->Vals xs us->r x xs H Q->
  Ys (Yt X.prog X.w) X.A (call (.builtin id) (v::us)) (EP X pq σ Q) X.xe s
section
variable{X:Cx}{a b:Expr}{ta tb:TE}{pos:Pos}
theorem IxR.or{r r':R2}(h:IxR X r)(h':IxR X r'):IxR X (λx y H Q=>r x y H Q\/r' x y H Q):=by
 intro value slice pq s σ H x y v u Q I rx ry q hs;rcases q with q | q
 ·exact h value slice pq s σ H x y v u Q I rx ry q hs
 ·exact h' value slice pq s σ H x y v u Q I rx ry q hs
theorem Tn{r:R2}(hr:IxR X r)(ha:PE X a ta)(hb:PE X b tb)(hs:J4 b):PE X (.Subscript a b pos) (tOp r ta tb):=by
 intro pq s σ H Q I h;exact A0C (RP ha hb I h λv u s2 x y H2 I2 rx ry q=>hr a b pq s2 σ H2 x y v u Q I2 rx ry q (hs _ _))
def To(K:V8):R2:=λx y H Q=>∃ p xs i v,x = .ref p/\y = .int i/\SqL K H p xs/\atI xs i=some v/\Q v H
def Tp(K:V8):R2:=λx y H Q=>∃ p xs i v,x = .ref p/\y = .int i/\SqT K H p xs/\atI xs i=some v/\Q v H
theorem ix_list:IxR X (To X.K):=by
 intro value slice pq s σ H x y v u Q I rx ry h hs;obtain⟨p,xs,i,z,rfl,rfl,hq,he,q⟩:=h;cases rx;obtain⟨t,rfl⟩:=ry;obtain⟨its,r,pl,hz⟩:=I.list hq;obtain⟨j,h1,h2,h3,h4,h5⟩:=J3 he;obtain⟨w,ew,rw'⟩:=r.get h2;have hl:=r.length;have hn:=Bx;have fin:EP X pq σ Q w s:=⟨z,H,I,rw',q⟩
 by_cases h0:0<=i
 ·have hj:i.toNat=j:=by
   rw[A0u h0 h5]at h1;exact oj h1
  exact item_listR pl.isList h0 (by omega) (by rw[hj];simpa using ew) fin hs
 ·have hj:(i+(its.toArray.size:Int)).toNat=j:=by
   rw[A0p (by omega) h4]at h1;rw[VF,<-hl];exact oj h1
  exact A03 (x:=w) pl.isList.typeIs slot_list_getitem.lookup
   (wpAny_getItem_list_neg (Q:=λr s'=>r=w/\EP X pq σ Q r s') pl.isList (by omega) (by rw[VF]<;>omega) (by omega) (by rw[hj];simpa using ew) ⟨rfl,fin⟩) hs
theorem Re:IxR X (Tp X.K):=by
 intro value slice pq s σ H x y v u Q I rx ry h hs;obtain⟨p,xs,i,z,rfl,rfl,hq,he,q⟩:=h;cases rx;obtain⟨t,rfl⟩:=ry;obtain⟨its,r,pl,hz⟩:=I.tuple hq;obtain⟨j,h1,h2,h3,h4,h5⟩:=J3 he;obtain⟨w,ew,rw'⟩:=r.get h2;have hl:=r.length;have hn:=Bx;have fin:EP X pq σ Q w s:=⟨z,H,I,rw',q⟩
 exact A03 (x:=w) pl.typeIs slot_tuple_getitem.lookup
  (getItem_tuple (j:=j) (Q:=λr s'=>r=w/\EP X pq σ Q r s') pl (by omega) (by omega) (by rw[VF,<-hl];exact h1) (by simpa using ew) ⟨rfl,fin⟩) hs
theorem Hk(its:List Yn)(n j:Nat)(u:Yn):Obj.mapSeq (·.setIfInBounds j u) {cls := .type "list",data := .seq its.toArray n}={cls := .type "list",data := .seq (its.set j u).toArray n}:=by
 simp[Obj.mapSeq]
theorem Inv.lst{pq:List (Yp×Obj)}{σ:St}{H:Hp}{s:Yo}{p:Yp}{xs:List V}(I:Inv X pq σ H s)(h:H p=some (.lst xs)):
 ∃(its:List Yn) (n:Nat),Vals xs its/\s.heap.get? p=some {cls := .type "list",data := .seq its.toArray n}/\xs.length<=Yr:=by
 obtain⟨z,its,n,r,e⟩:=I.hok p _ h;exact⟨its,n,r,e,z⟩
theorem Inv.lstUpd{pq:List (Yp×Obj)}{σ:St}{H:Hp}{s:Yo}{p:Yp}{xs ys:List V}{its its':List Yn}{n n':Nat}{f:Obj->Obj}(I:Inv X pq σ H s)(h:H p=some (.lst xs))
 (ho:s.heap.get? p=some {cls := .type "list",data := .seq its.toArray n}) (hf:f {cls := .type "list",data := .seq its.toArray n}={cls := .type "list",data := .seq its'.toArray n'}) (r:Vals ys its') (hz:ys.length<=Yr) (t:Nat):
 Inv X pq σ (upd H p (.lst ys)) {s with heap:=s.heap.update p f,toks:=t}:=by
 have e:(s.heap.update p f).get? p=some {cls := .type "list",data := .seq its'.toArray n'}:=by
  rw[W3 f ho (by rw[hf]<;>rfl),hf]
 refine I.write (x:=p) (e:=p) (by rw[h];trivial) (.inl rfl) (λb u hb q=>(W0 _ _ (Ne.symm hb)).trans q) ⟨_,e⟩ ?_;exact⟨hz,its',n',r,e⟩
def EM:V->V->V->Hp->(Hp->Prop)->Prop:=λo i v H Q=>∃ p xs k j,o = .ref p/\i = .int k/\H p=some (.lst xs)/\ixN xs.length k=some j/\Q (upd H p (.lst (xs.set j v)))
theorem C9:RK X EM:=by
 intro pq s σ H o i v ov iv u Q I ro ri rv h;obtain⟨p,xs,k,j,rfl,rfl,hp,hj,q⟩:=h;cases ro;obtain⟨t,rfl⟩:=ri;obtain⟨its,n,r,ho,hz⟩:=I.lst hp;obtain⟨h1,h2,h3,h4⟩:=J2 hj;have hl:=r.length;have hn:=Bx
 have I':Inv X pq σ (upd H p (.lst (xs.set j v))) {s with heap:=s.heap.update p (Obj.mapSeq (·.setIfInBounds j u))}:=
  I.lstUpd hp ho (Hk its n j u) (r.set rv j) (by rw[Vw];exact hz) s.toks
 by_cases h0:0<=k
 ·have hk:k.toNat=j:=by
   rw[A0u h0 h4]at h1;exact oj h1
  exact PySem.W.ki_setAt ho h0 (by omega) (by rw[VF,<-hl];exact h4) (by rw[hk];exact⟨_,I',q⟩)
 ·have hk:(k+(its.toArray.size:Int)).toNat=j:=by
   rw[A0p (by omega) h3]at h1;rw[VF,<-hl];exact oj h1
  exact PySem.W.ki_setBack ho (by omega) (by rw[VF,<-hl];exact h3) (by omega) (by rw[hk];exact⟨_,I',q⟩)
theorem Eu(lo hi:Option Int)(n:Nat):(Zd lo hi none n).1=((HT.sIx n 0 lo:Nat):Int)/\(Zd lo hi none n).2.1=((HT.sIx n n hi:Nat):Int)/\(Zd lo hi none n).2.2=1:=by
 refine⟨?_,?_,rfl⟩
 ·cases lo with
  | none=>simp[Zd,HT.sIx]
  | some i=>
    simp only[Zd,HT.sIx,YG,show(1:Int)>0 by decide,if_true];by_cases h:i<0
    ·simp only[h,if_true]<;>omega
    ·simp only[h,if_false]<;>omega
 ·cases hi with
  | none=>simp[Zd,HT.sIx]
  | some i=>
    simp only[Zd,HT.sIx,YG,show(1:Int)>0 by decide,if_true];by_cases h:i<0
    ·simp only[h,if_true]<;>omega
    ·simp only[h,if_false]<;>omega
theorem Dz(its:List Yn)(lo hi:Option Int):slicePick its.toArray lo hi none=((its.drop (HT.sIx its.length 0 lo)).take (HT.sIx its.length its.length hi - HT.sIx its.length 0 lo)).toArray:=by
 obtain⟨h1,h2,h3⟩:=Eu lo hi its.toArray.size;unfold slicePick;rw[h1,h2,h3];simp only[sliceRange_one,pick_run,VF]<;>rfl
def Tq(K:V8):V->Option Int->Option Int->Hp->VK->Prop:=λx lo hi H Q=>∃ a xs,x = .ref a/\SqL K H a xs/\∀ p,H p=none->Q (.ref p) (upd H p (.lst (Fk xs lo hi)))
theorem sl_list:SlR X (Tq X.K):=by
 intro pq s σ H x v vl vu lo hi sl Q I rx hs pl pu h;obtain⟨a,xs,rfl,hx,q⟩:=h;cases rx;obtain⟨its,r,ht,hz⟩:=I.list hx;have hlen:=r.length;refine⟨"list",_,slot_list_getitem.lookup,ht.isList.typeIs,?_⟩;refine wpAny_getItem_list_slice ht.isList hs pl pu .none (by simp) ?_ (by rw[VF]<;>omega);rw[Dz,<-hlen];refine⟨.ref s.heap.objs.size,_,I.laid (t':=s.toks) (o := .lst (Fk xs lo hi)) (λb ob q=>VG _ q) (VH _) ?_,rfl,q _ (I.hok.fresh (VH _))⟩;exact⟨Vc (Cl xs lo hi) hz,_,0,(r.drop (HT.sIx xs.length 0 lo)).take (HT.sIx xs.length xs.length hi - HT.sIx xs.length 0 lo),VV _ rfl⟩
def A9:V->Bool
 | .non=>true
 | .bl _=>true
 | .int _=>true
 | .str _=>true
 | _=>false
def eqV:V->V->Bool
 | .non,.non=>true
 | .bl a,.bl b=>a == b
 | .bl a,.int b=>(if a then 1 else 0) == b
 | .int a,.bl b=>a == (if b then 1 else 0)
 | .int a,.int b=>a == b
 | .str a,.str b=>a == b
 | _,_=>false
theorem Lz{A:Z0}{s:Yo}{y x:V}{u v:Yn}(ry:RelV y u)(rx:RelV x v)(fy:A9 y=true)(fx:A9 x=true):SeqAt.EqAt A s u v (eqV y x):=by
 cases y with
 | non=>
   cases ry;cases x with
   | non=>cases rx;exact SeqAt.EqAt.same _
   | bl b=>cases rx;exact SeqAt.EqAt.none_bool b
   | int b=>obtain⟨t,rfl⟩:=rx;exact SeqAt.EqAt.none_int b t
   | str b=>obtain⟨t,rfl⟩:=rx;exact SeqAt.EqAt.none_str b t
   | _=>exact absurd (show false=true from fx) VJ
 | bl a=>
   cases ry;cases x with
   | non=>cases rx;exact SeqAt.EqAt.bool_none a
   | bl b=>cases rx;exact SeqAt.EqAt.bool_bool a b
   | int b=>obtain⟨t,rfl⟩:=rx;exact SeqAt.EqAt.bool_int a b t
   | str b=>obtain⟨t,rfl⟩:=rx;exact SeqAt.EqAt.bool_str a b t
   | _=>exact absurd (show false=true from fx) VJ
 | int a=>
   obtain⟨t',rfl⟩:=ry;cases x with
   | non=>cases rx;exact SeqAt.EqAt.int_none a t'
   | bl b=>cases rx;exact SeqAt.EqAt.int_bool a t' b
   | int b=>obtain⟨t,rfl⟩:=rx;exact SeqAt.EqAt.int_int a t' b t
   | str b=>obtain⟨t,rfl⟩:=rx;exact SeqAt.EqAt.int_str a t' b t
   | _=>exact absurd (show false=true from fx) VJ
 | str a=>
   obtain⟨t',rfl⟩:=ry;cases x with
   | non=>cases rx;exact SeqAt.EqAt.str_none a t'
   | bl b=>cases rx;exact SeqAt.EqAt.str_bool a t' b
   | int b=>obtain⟨t,rfl⟩:=rx;exact SeqAt.EqAt.str_int a t' b t
   | str b=>obtain⟨t,rfl⟩:=rx;exact SeqAt.EqAt.str_str a t' b t
   | _=>exact absurd (show false=true from fx) VJ
 | _=>exact absurd (show false=true from fy) VJ
def eqU(x:V)(u:Yn):Bool:=match u with
 | .none=>eqV .non x
 | .bool b=>eqV (.bl b) x
 | .int i _=>eqV (.int i) x
 | .str z _=>eqV (.str z) x
 | _=>false
theorem M0{x y:V}{u:Yn}(r:RelV y u)(f:A9 y=true):eqU x u=eqV y x:=by
 cases y with
 | non=>cases r;rfl
 | bl b=>cases r;rfl
 | int i=>obtain⟨t,rfl⟩:=r;rfl
 | str z=>obtain⟨t,rfl⟩:=r;rfl
 | _=>exact absurd (show false=true from f) VJ
theorem CA{x:V}:∀{xs:List V} {us:List Yn},Vals xs us->xs.all A9=true->us.any (eqU x)=xs.any λy=>eqV y x
 | _,_,.nil,_=>rfl
 | y::xs,u::us,.cons r t,f=>by
   rw[WB,V9]at f;rw[WC,WC,M0 r f.1,CA t f.2]
theorem BF{A:Z0}{s:Yo}{x:V}{v:Yn}(rx:RelV x v)(fx:A9 x=true):∀{xs:List V} {us:List Yn},Vals xs us->xs.all A9=true->∀ u∈us,SeqAt.EqAt A s u v (eqU x u)
 | _,_,.nil,_=>λu hu=>by cases hu
 | y::xs,u::us,.cons r t,f=>λu' hu=>by
   rw[WB,V9]at f;rcases VW.mp hu with rfl | hu
   ·rw[M0 r f.1];exact Lz r rx f.1 fx
   ·exact BF rx fx t f.2 u' hu
def inV(x:V)(xs:List V):Bool:=xs.any λy=>eqV y x
def rIn(K:V8)(neg:Bool):R2:=λx y H Q=>∃ p xs,y = .ref p/\(SqL K H p xs\/SqT K H p xs)/\A9 x=true/\xs.all A9=true/\Q (.bl (if neg then !inV x xs else inV x xs)) H
theorem KM:OpR X (Z2 .In) (rIn X.K false):=by
 intro pq s σ H x y v u Q I rx ry h;obtain⟨p,xs,rfl,hq,fx,fs,q⟩:=h;cases ry;rcases hq with hq | hq
 ·obtain⟨its,r,pl,hz⟩:=I.list hq;refine SeqAt.in_listAt (eqU x) pl.isList (λw hw=>BF rx fx r fs w (by simpa using hw)) ⟨.bl _,H,I,rfl,?_⟩;rw[show its.toArray.any (eqU x)=its.any (eqU x) by simp,CA r fs];exact q
 ·obtain⟨its,r,pl,hz⟩:=I.tuple hq;refine SeqAt.in_tupleAt (eqU x) pl (λw hw=>BF rx fx r fs w (by simpa using hw)) ⟨.bl _,H,I,rfl,?_⟩;rw[show its.toArray.any (eqU x)=its.any (eqU x) by simp,CA r fs];exact q
theorem Ev:OpR X (Z2 .NotIn) (rIn X.K true):=by
 intro pq s σ H x y v u Q I rx ry h;obtain⟨p,xs,rfl,hq,fx,fs,q⟩:=h;cases ry;rcases hq with hq | hq
 ·obtain⟨its,r,pl,hz⟩:=I.list hq;refine SeqAt.notIn_listAt (eqU x) pl.isList (λw hw=>BF rx fx r fs w (by simpa using hw)) ⟨.bl _,H,I,rfl,?_⟩;rw[show its.toArray.any (eqU x)=its.any (eqU x) by simp,CA r fs];exact q
 ·obtain⟨its,r,pl,hz⟩:=I.tuple hq;refine SeqAt.notIn_tupleAt (eqU x) pl (λw hw=>BF rx fx r fs w (by simpa using hw)) ⟨.bl _,H,I,rfl,?_⟩;rw[show its.toArray.any (eqU x)=its.any (eqU x) by simp,CA r fs];exact q
theorem Ew:CallR X (.builtin "len") (λxs H Q=>∃ p ys,xs=[.ref p]/\(SqL X.K H p ys\/SqT X.K H p ys)/\Q (.int ys.length) H):=by
 intro pq s σ H xs us Q I r h;obtain⟨p,ys,rfl,hq,q⟩:=h;obtain⟨u,rfl,rx⟩:=AQ r;cases rx;have hn:=Bx;rcases hq with hq | hq
 ·obtain⟨its,r',pl,hz⟩:=I.list hq;have hlen:=r'.length;exact Calls.call_len_list pl.isList (by simp only[VF]<;>omega) ⟨.int ys.length,H,I.tok _,⟨s.toks+1,by rw[VF,hlen]⟩,q⟩
 ·obtain⟨its,r',pl,hz⟩:=I.tuple hq;have hlen:=r'.length;exact len_tuple pl (by simp only[VF]<;>omega) ⟨.int ys.length,H,I.tok _,⟨s.toks+1,by rw[VF,hlen]⟩,q⟩
theorem CallR.or{f:Yn}{r r':List V->Hp->VK->Prop}(h:CallR X f r)(h':CallR X f r'):CallR X f (λxs H Q=>r xs H Q\/r' xs H Q):=by
 intro pq s σ H xs us Q I rs q;rcases q with q | q
 ·exact h pq s σ H xs us Q I rs q
 ·exact h' pq s σ H xs us Q I rs q
theorem Ey:CallR X (.type "list") (λxs H Q=>∃ p ys,xs=[.ref p]/\(SqL X.K H p ys\/SqT X.K H p ys)/\∀ l,H l=none->Q (.ref l) (upd H l (.lst ys))):=by
 intro pq s σ H xs us Q I r h;obtain⟨p,ys,rfl,hq,q⟩:=h;obtain⟨u,rfl,rx⟩:=AQ r;cases rx
 have fin:∀(its:List Yn),Vals ys its->ys.length<=Yr->∀(h':Heap) (c':Nat),(∀ b o',s.heap.get? b=some o'->h'.get? b=some o')->
  h'.get? s.heap.objs.size=some {cls := .type "list",dict:=none,data := .seq its.toArray c',slots:=#[]}->EP X pq σ Q (.ref s.heap.objs.size) {s with heap:=h'}:=λits r' hz h' c' kp e=>
  ⟨.ref s.heap.objs.size,_,I.laid (t':=s.toks) kp (VH _) (show ObjOk X.prog X.w _ h' _ (.lst ys) from ⟨hz,its,c',r',e⟩),rfl,q _ (I.hok.fresh (VH _))⟩
 rcases hq with hq | hq
 ·obtain⟨its,r',pl,hz⟩:=I.list hq;have hlen:=r'.length;obtain⟨o,ho,hc,n,hd⟩:=pl.isList;exact call_list_seq p (.inl rfl) ho hc hd (λh' c' kp e=>fin its r' hz h' c' kp e) (by simp only[VF]<;>omega)
 ·obtain⟨its,r',pl,hz⟩:=I.tuple hq;have hlen:=r'.length;obtain⟨o,ho,hc,n,hd⟩:=pl;exact call_list_seq p (.inr rfl) ho hc hd (λh' c' kp e=>fin its r' hz h' c' kp e) (by simp only[VF]<;>omega)
theorem E3:CallR X (.type "tuple") (λxs H Q=>∃ p ys,xs=[.ref p]/\((SqL X.K H p ys/\∀ l,H l=none->Q (.ref l) (upd H l (.tup ys)))\/(SqT X.K H p ys/\Q (.ref p) H))):=by
 intro pq s σ H xs us Q I r h;obtain⟨p,ys,rfl,h⟩:=h;obtain⟨u,rfl,rx⟩:=AQ r;cases rx;rcases h with⟨hq,q⟩ | ⟨hq,q⟩
 ·obtain⟨its,r',pl,hz⟩:=I.list hq;have hlen:=r'.length;refine call_tuple_list pl.isList (λh' kp=>?_) (by simp only[VF]<;>omega);have I1:Inv X pq σ H {s with heap:=h'}:=I.kept (t':=s.toks) kp
  have I2:Inv X pq σ (upd H h'.objs.size (.tup ys)) {s with heap:=h'.push {cls := .type "tuple",data := .seq its.toArray}}:=
   I1.laid (t':=s.toks) (λb o e=>VG _ e) (VH _) (show ObjOk X.prog X.w _ _ _ (.tup ys) from ⟨hz,its,r',IsTup.new _ _⟩)
  exact⟨.ref h'.objs.size,_,I2,rfl,q _ (I1.hok.fresh (VH _))⟩
 ·obtain⟨its,r',pl,hz⟩:=I.tuple hq;exact call_tuple_same pl ⟨.ref p,H,I,rfl,q⟩
def tyV(K:V8)(T:String)(x:V)(H:Hp):Prop:=match x with
 | .str _=>T="str"
 | .int _=>T="int"
 | .ref p=>(T="list"/\∃ xs,SqL K H p xs)\/(T="tuple"/\∃ o,K.lookup p=some o/\o.cls = .type "tuple"/\o.dict=none)\/
    (T="dict"/\((∃ kvs,H p=some (.dK kvs))\/∃ kvs,H p=some (.dT kvs)))\/(T="set"/\∃ S n,H p=some (.set S n))
 | _=>False
theorem M1{pq:List (Yp×Obj)}{σ:St}{H:Hp}{s:Yo}{T:String}{x:V}{v:Yn}(I:Inv X pq σ H s)(r:RelV x v)(ty:tyV X.K T x H):
 s.TypeIs v T/\∀ a,v = .ref a->∃ ob,s.heap.get? a=some ob/\ob.dict=none:=by
 cases x with
 | str z=>
   obtain⟨t,rfl⟩:=r;cases(show T="str" from ty);exact⟨typeIs_str s z t,λ_ e=>nomatch e⟩
 | int i=>
   obtain⟨t,rfl⟩:=r;cases(show T="int" from ty);exact⟨A04 s i t,λ_ e=>nomatch e⟩
 | ref p=>
   cases r;rcases ty with⟨rfl,xs,hq⟩ | ⟨rfl,o,hk,hc,hd⟩ | ⟨rfl,hk⟩ | ⟨rfl,S,n,hk⟩
   ·obtain⟨its,_,pl,_⟩:=I.list hq;refine⟨pl.isList.typeIs,λa e=>?_⟩;cases e;obtain⟨o,n,e,c,hd,_⟩:=pl;exact⟨o,e,hd⟩
   ·refine⟨⟨o,I.kIn p o hk,hc⟩,λa e=>?_⟩;cases e;exact⟨o,I.kIn _ o hk,hd⟩
   ·have z:∃ o,s.heap.get? p=some o/\o.ExactDict:=by
     rcases hk with⟨kvs,hk⟩ | ⟨kvs,hk⟩
     ·obtain⟨_,_,_,_,o,_,_,e,ex,_⟩:=I.hok p _ hk;exact⟨o,e,ex⟩
     ·obtain⟨_,_,_,_,o,_,_,e,ex,_⟩:=I.hok p _ hk;exact⟨o,e,ex⟩
    obtain⟨o,e,ex⟩:=z;refine⟨⟨o,e,ex.1⟩,λa e2=>?_⟩;cases e2;exact⟨o,e,ex.2.1⟩
   ·obtain⟨o,_,_,_,e,ex,_⟩:=I.hok p _ hk;refine⟨⟨o,e,ex.1⟩,λa e2=>?_⟩;cases e2;exact⟨o,e,ex.2.1⟩
 | _=>exact False.elim ty
def Rg(K:V8)(T:String)(r:V->List V->Hp->VK->Prop)(to:TE):TE:=λσ H Q=>to σ H λx H1=>tyV K T x H1/\r x [] H1 Q
def tBM(K:V8)(T:String)(r:V->List V->Hp->VK->Prop)(to:TE)(t:TA):TE:=λσ H Q=>to σ H λx H1=>tyV K T x H1/\t σ H1 λxs H2=>r x xs H2 Q
variable{o e:Expr}{es:List Expr}{to:TE}{t:TA}{name:Str}{apos cpos:Pos}{T id:String}{r:V->List V->Hp->VK->Prop}
theorem Ez(pa:PlainAttrs T)(slot:Slot T name id)(hty:typeOf (.builtin id)=pure (.type "method_descriptor"))(hm:MtR X id r)(ho:PE X o to)
 (hbase:Za o name X.env (eval o X.env)=eval o X.env:=by rfl) (hline:(apos.endLine == cpos.line)=true:=by rfl):PE X (.Call (.Attribute o name apos) [] [] cpos) (Rg X.K T r to):=by
 intro pq s σ H Q I h;refine Zz hbase hline (thn (ho pq s σ H _ I h) λv s1 ⟨x,H1,I1,r1,ty,q1⟩=>?_);obtain⟨h1,h2⟩:=M1 I1 r1 ty;exact⟨T,id,pa,slot,hty,h1,h2,Calls.callWith_builtin rfl (PySem.evalArgs_none (hm pq s1 σ H1 x [] v [] Q I1 r1 .nil q1))⟩
theorem J5(pa:PlainAttrs T)(slot:Slot T name id)(hty:typeOf (.builtin id)=pure (.type "method_descriptor"))(hm:MtR X id r)(ho:PE X o to)(ha:PA X (e::es) t)
 (hbase:Za o name X.env (eval o X.env)=eval o X.env:=by rfl)
 (hfew:((backTo cpos (Yy (e::es) X.env)).all (λx=>!x.1)&&(Zp cpos (ZX [] X.env)).all (λx=>x.1.isSome)
   && decide ((e::es).length+([]:List Keyword).length+(if ([]:List Keyword).isEmpty then 0 else 1)<30))=true:=by rfl)
 (hline:(apos.endLine == cpos.line)=true:=by rfl) (hs:Yy (e::es) X.env=(false,eval e X.env)::Yy es X.env:=by rfl) (hplain:(backTo cpos (Yy es X.env)).any (·.1)=false:=by rfl):
 PE X (.Call (.Attribute o name apos) (e::es) [] cpos) (tBM X.K T r to t):=by
 intro pq s σ H Q I h;refine wpAny_Call_method_late hbase hfew hline rfl (thn (ho pq s σ H _ I h) λv s1 ⟨x,H1,I1,r1,ty,q1⟩=>?_);obtain⟨h1,h2⟩:=M1 I1 r1 ty;refine⟨T,id,pa,slot,hty,h1,h2,?_⟩;have hA:=ha cpos pq s1 σ H1 _ I1 q1;rw[hs]at hA ⊢;refine Calls.callWith_builtin (by show(false||(backTo cpos (Yy es X.env)).any (·.1))=false;rw[hplain]<;>rfl) (Calls.evalArgs_plain ?_);exact thn hA λus s2 ⟨vs,H2,I2,r2,q2⟩=>hm pq s2 σ H2 x vs v us Q I2 r1 r2 q2
end
noncomputable def MtM(X:Cx)(id:String)(r:V->List V->Hp->VK->Prop):Prop:=
 ∀(pq:List (Yp×Obj)) (s:Yo) (σ:St) (H:Hp) (x:V) (xs:List V) (v:Yn) (us:List Yn) (Q:VK),Inv X pq σ H s->RelV x v->Vals xs us->r x xs H Q->
  Ys (Yt X.prog X.w) X.A (call (.builtin id) (v::us)) (EP X pq σ Q) X.xe s
theorem Vals.one{x:V}{us:List Yn}(h:Vals [x] us):∃ u,us=[u]/\RelV x u:=by
 cases h with
 | cons r q=>cases q;exact⟨_,rfl,r⟩
theorem Vals.two{x y:V}{us:List Yn}(h:Vals [x,y] us):∃ u v,us=[u,v]/\RelV x u/\RelV y v:=by
 cases h with
 | cons r q=>
   obtain⟨v,rfl,s⟩:=Vals.one q;exact⟨_,v,rfl,r,s⟩
theorem Vals.zero:∀{us:List Yn},Vals [] us->us=[]
 | _,.nil=>rfl
theorem Vals.dropLast{xs:List V}{us:List Yn}(h:Vals xs us):Vals xs.dropLast us.dropLast:=by
 induction h with
 | nil=>exact .nil
 | cons r t ih=>
   cases t with
   | nil=>exact .nil
   | cons q t'=>exact .cons r ih
theorem Vals.eraseIdx:∀{xs:List V} {us:List Yn} (i:Nat),Vals xs us->Vals (xs.eraseIdx i) (us.eraseIdx i)
 | _,_,_,.nil => .nil
 | _,_,0,.cons _ t=>t
 | _,_,i+1,.cons r t => .cons r (Vals.eraseIdx i t)
theorem Vals.reverse{xs:List V}{us:List Yn}(h:Vals xs us):Vals xs.reverse us.reverse:=by
 induction h with
 | nil=>exact .nil
 | cons r t ih=>rw[Wi,Wi];exact Vals.append ih (.cons r .nil)
theorem Vals.rep{xs:List V}{us:List Yn}(h:Vals xs us):∀ k:Nat,Vals (VM k xs).flatten (VM k us).flatten
 | 0 => .nil
 | k+1=>by
   rw[Vn,Vn,WQ,WQ];exact Vals.append h (Vals.rep h k)
theorem EN(its:List Yn):∀(k:Nat) (acc:List Yn),
 YV (λx1 x2=>x1++x2) acc.toArray (VM k its.toArray)=(acc++(VM k its).flatten).toArray
 | 0,acc=>by simp
 | k+1,acc=>by
   have e:acc.toArray++its.toArray=(acc++its).toArray:=by simp
   have e2:(acc++its)++(VM k its).flatten=acc++(VM (k+1) its).flatten:=by
    rw[Vn,WQ,XU]
   rw[<-e2,<-EN its k (acc++its),<-e,Vn,List.foldl_cons]
section
variable{X:Cx}{pq:List (Yp×Obj)}{σ:St}{H:Hp}{s:Yo}{l b:Yp}{xs ys zs:List V}
theorem Inv.lset{its its':List Yn}{n:Nat}{f:Array Yn->Array Yn}{t':Nat}(I:Inv X pq σ H s)(hH:H l=some (.lst xs))
 (e:s.heap.get? l=some {cls := .type "list",data := .seq its.toArray n}) (hf:f its.toArray=its'.toArray) (hv:Vals ys its') (hz:ys.length<=Yr):
 Inv X pq σ (upd H l (.lst ys)) {s with heap:=s.heap.update l (Obj.mapSeq f),toks:=t'}:=by
 have q:=PySem.IsL.update e f;rw[hf]at q;refine I.write (x:=l) (e:=l) (by rw[hH];exact trivial) (.inl rfl) (λb' u hb hu=>(W0 s.heap (Obj.mapSeq f) (Ne.symm hb)).trans hu) ⟨_,q⟩ ?_;exact⟨hz,its',_,hv,q⟩
theorem Inv.lnew{its:List Yn}{t':Nat}(I:Inv X pq σ H s)(hv:Vals ys its)(hz:ys.length<=Yr):
 Inv X pq σ (upd H s.heap.objs.size (.lst ys)) {s with heap:=s.heap.push {cls := .type "list",data := .seq its.toArray},toks:=t'}:=
 I.laid (λ_ _ q=>VG _ q) (VH _) ⟨hz,its,0,hv,VV _ rfl⟩
theorem Inv.fresh(I:Inv X pq σ H s):H s.heap.objs.size=none:=I.hok.fresh (VH _)
theorem Inv.lstM(I:Inv X pq σ H s)(hH:H l=some (.lst xs)):xs.length<=Yr/\∃(its:List Yn) (n:Nat),Vals xs its/\xs.length=its.length/\s.heap.get? l=some {cls := .type "list",data := .seq its.toArray n}:=by
 obtain⟨z,its,n,r,e⟩:=I.hok l _ hH;exact⟨z,its,n,r,r.length,e⟩
theorem Fl{n:Nat}(h:n<=Yr):Builtin.List.listTooLong n=false:=by
 unfold Builtin.List.listTooLong;exact decide_eq_false (by omega)
end
section
variable{X:Cx}
def J6:V->List V->Hp->VK->Prop:=λx vs H Q=>∃ l xs y,x = .ref l/\vs=[y]/\H l=some (.lst xs)/\xs.length<Yr/\Q .non (upd H l (.lst (xs++[y])))
theorem CS:MtM X "list.append" J6:=by
 intro pq s σ H x vs v us Q I rx rv h;obtain⟨l,xs,y,rfl,rfl,hH,hz,q⟩:=h;cases rx;obtain⟨u,rfl,ru⟩:=rv.one;obtain⟨z,its,n,r,hl,e⟩:=I.lstM hH;refine Zq F.slot_list_append ⟨_,e,rfl⟩ F.entry_list_append (F.args_list_append_2 _ _) (PySem.list_append l its.toArray n u (by rw[VF];omega)) ⟨e,?_⟩;refine⟨.non,_,I.lset (its':=its++[u]) hH e (by simp) (r.append (.cons ru .nil)) ?_,rfl,q⟩;rw[VB,W4];omega
def J7:V->List V->Hp->VK->Prop:=λx vs H Q=>∃ l b xs zs,x = .ref l/\vs=[.ref b]/\H l=some (.lst xs)/\H b=some (.lst zs)/\xs.length+zs.length<=Yr/\Q .non (upd H l (.lst (xs++zs)))
theorem EO:MtM X "list.extend" J7:=by
 intro pq s σ H x vs v us Q I rx rv h;obtain⟨l,b,xs,zs,rfl,rfl,hH,hB,hz,q⟩:=h;cases rx;obtain⟨u,rfl,ru⟩:=rv.one;cases ru;obtain⟨z,its,n,r,hl,e⟩:=I.lstM hH;obtain⟨z2,its2,n2,r2,hl2,e2⟩:=I.lstM hB;have hsz:its.toArray.size+its2.toArray.size<=Yr:=by rw[VF,VF];omega
 have hlong:¬ (!its.toArray.isEmpty&&Builtin.List.listTooLong (its.toArray.size+its2.toArray.size))=true:=by
  rw[Fl hsz,Bool.and_false];exact VJ
 refine Zq F.slot_list_extend ⟨_,e,rfl⟩ F.entry_list_extend (F.args_list_extend_2 _ _)
  (AutoSeq1.list_extend_list_list_0 l its.toArray n b its2.toArray n2 hlong (by rw[VF];omega) (by omega)) ⟨e,e2,?_⟩
 refine⟨.non,_,I.lset (its':=its++its2) hH e (by simp) (r.append r2) ?_,rfl,q⟩;rw[VB];omega
def Fm:V->List V->Hp->VK->Prop:=λx vs H Q=>∃ l xs,x = .ref l/\vs=[]/\H l=some (.lst xs)/\Q .non (upd H l (.lst xs.reverse))
theorem DC:MtM X "list.reverse" Fm:=by
 intro pq s σ H x vs v us Q I rx rv h;obtain⟨l,xs,rfl,rfl,hH,q⟩:=h;cases rx;have hus:=rv.zero;subst hus;obtain⟨z,its,n,r,hl,e⟩:=I.lstM hH;refine Zq F.slot_list_reverse ⟨_,e,rfl⟩ F.entry_list_reverse (F.args_list_reverse_1 _) (AutoSeq1.list_reverse_list_0 l its.toArray n (by rw[VF];omega)) ⟨e,?_⟩;refine⟨.non,_,I.lset (its':=its.reverse) hH e (by simp) r.reverse ?_,rfl,q⟩;rw[X5];omega
def Tr:R2:=λx y H Q=>∃ l b xs zs,x = .ref l/\y = .ref b/\H l=some (.lst xs)/\H b=some (.lst zs)/\xs.length+zs.length<=Yr/\∀ p,H p=none->Q (.ref p) (upd H p (.lst (xs++zs)))
theorem Rh:OpR X (ZG .Add) Tr:=by
 intro pq s σ H x y v u Q I rx ry h;obtain⟨l,b,xs,zs,rfl,rfl,hH,hB,hz,q⟩:=h;cases rx;cases ry;obtain⟨z,its,n,r,hl,e⟩:=I.lstM hH;obtain⟨z2,its2,n2,r2,hl2,e2⟩:=I.lstM hB;refine PySem.P.add_list e e2 ?_ (by rw[VF,VF];omega);have ea:its.toArray++its2.toArray=(its++its2).toArray:=by simp
 rw[ea];exact⟨.ref _,_,I.lnew (t':=s.toks) (r.append r2) (by rw[VB];omega),rfl,q _ I.fresh⟩
def Tt:R2:=λx y H Q=>∃ l k xs,x = .ref l/\y = .int k/\H l=some (.lst xs) /\ -(2 ^ 63)<=k/\k<2 ^ 63/\xs.length * k.toNat<=Yr/\
 ∀ p,H p=none->Q (.ref p) (upd H p (.lst (VM k.toNat xs).flatten))
theorem OZ{α:Type}(xs:List α)(k:Nat):(VM k xs).flatten.length=k * xs.length:=by
 induction k with
 | zero=>simp
 | succ k ih=>rw[Vn,WQ,VB,ih,X0,Nat.add_comm]
theorem Ri:OpR X (ZG .Mult) Tt:=by
 intro pq s σ H x y v u Q I rx ry h;obtain⟨l,k,xs,rfl,rfl,hH,h1,h2,hz,q⟩:=h;cases rx;obtain⟨t,rfl⟩:=ry;obtain⟨z,its,n,r,hl,e⟩:=I.lstM hH;have hlen:its.toArray.size * k.toNat<=Yr:=by rw[VF,<-hl];exact hz
 have hcap:¬ its.toArray.size * k.toNat>(2 ^ 63 - 1) / 8:=by
  have:(Yr:Nat)<=(2 ^ 63 - 1) / 8:=by decide
  omega
 have hfit:¬ (!Builtin.List.listFitsIndex k)=true:=by
  rw[A0D h1 h2];exact VJ
 have hlong:¬ Builtin.List.listTooLong (its.toArray.size * k.toNat)=true:=by
  rw[Fl hlen];exact VJ
 have hnew:YV (λx1 x2=>x1++x2) #[] (VM (if its.toArray.isEmpty=true then 0 else k.toNat) its.toArray)=(VM k.toNat its).flatten.toArray:=by
  have f0:∀ m:Nat,YV (λx1 x2=>x1++x2) #[] (VM m its.toArray)=(VM m its).flatten.toArray:=λm=>by
   have:=EN its m [];rw[Xn]at this;exact this
  rw[f0];cases its with
  | nil=>simp
  | cons a r'=>rw[iG (by simp)]
 refine wpAny_binaryOp_repeat_ref (T:="list") (U:="int") (by decide) ⟨_,e,rfl⟩ (λs'=>A04 s' k t) noFill_list_mul F.fills_int_mul F.slot_int_rmul repeat_list F.slot_int_index.lookup
  (Zq F.slot_int_rmul (A04 s k t) F.entry_int_rmul (F.args_int_rmul_2 _ _) (int___rmul___int_list k t l its.toArray n)
    ⟨e,rfl,⟨_,e,rfl⟩,Zq F.slot_list_mul ⟨_,e,rfl⟩ F.entry_list_mul (F.args_list_mul_2 _ _) (AutoListH.list___mul___list_int_3 l its.toArray n k t hfit hcap hlong) ⟨e,?_⟩⟩)
 rw[hnew];exact⟨.ref _,_,I.lnew (t':=s.toks) (r.rep k.toNat) (by rw[OZ,Nat.mul_comm];exact hz),rfl,q _ I.fresh⟩
end
end L2
namespace Att
open PySem PySem.W PySem.Calls PyProof.Rows
theorem Cq{P:Params}{h:Heap}:∀(ns:List Int) (vs:List Yn),WellAll P h vs (ns.map WData.int)->IntsAre vs ns:=by
 intro ns
 induction ns with
 | nil=>
   intro vs w;rw[Yg]at w;cases w;exact .nil
 | cons n ns ih=>
   intro vs w;rw[Vk]at w;cases w with
   | cons a b=>
     cases a;exact .cons _ _ (ih _ b)
theorem KN{l:OpenLaw}{n:Nat}(hn:l.most=some n){P:Params}{h:Heap}{args:List WData}{vals:List Yn}
 (hpre:l.row.toRowW.claim.pre args=true) (hwl:WellAll P h vals args):
 ∃ a vs ns,vals=[Value.ref a]/\args=[WData.list (ns.map WData.int)]/\h.get? a=some {cls := .type "list",data := .seq vs.toArray}/\IntsAre vs ns/\ns.length<=n:=by
 have hsh:WShape.hasAll [] args [.list .int]=true:=(pre_splitW hpre).1;have hc:l.pre.holds [] {args:=args}=true:=(pre_splitW hpre).2;obtain⟨d,r,rfl,h1,h2⟩:=hasAllW_cons hsh;obtain rfl:=hasAllW_nil h2;obtain⟨xs,rfl,h3⟩:=hasW_list h1;obtain⟨ns,rfl⟩:=items_int h3
 have hlen:ns.length<=n:=by
  unfold OpenLaw.pre at hc
  have h4:(WTm.not (.lt (.lit (.int (n:Int))) (.len (.arg 0)))).holds [] {args:=[.list (ns.map .int)]}=true:=by
   have h4:=(holds_andW hc).1;rw[hn]at h4;exact h4
  have h5:=condW_of h4 (w_not (w_lt w_lit (w_len_list (w_arg rfl))));rw[VA]at h5;refine YH λq=>?_;have q':(n:Int)<((ns.length:Nat):Int):=by omega
  first
   | (rw[decide_eq_true q']at h5;exact absurd h5 (by decide))
   | (simp at h5;omega)
 cases hwl with
 | cons w1 w2=>
   cases w2;cases w1 with
   | list ho hall=>exact⟨_,_,ns,rfl,rfl,ho,Cq ns _ hall,hlen⟩
theorem KO(l:OpenLaw)(args:List WData):l.row.toRowW.claim.post args (.bool true) args=true:=
 postW_of (r:=l.row.toRowW) (X:=(true == true))
  (show WShape.has [] (.bool true) .bool=true by first | rfl | decide | simp[WShape.has,WShape.arms,WShape.armsAll])
  (show(WTm.eq .res (.lit (.bool true))).value [] {args:=args,res:=some (.bool true),after:=args}=some (.bool (true == true)) from w_eq_bool (w_res rfl) w_lit) rfl
theorem attach_call{l:OpenLaw}{n:Nat}{q:Yu}{loose:List Str}{XP:(Str->Option Yn)->Heap->Prop}{YP:Yw->Heap->Prop}{d:DefRec}
 (hn:l.most=some n) (hdf:d.params.defaults=[])
 (call:∀(w:Yw) (s₀ s₁:Yo) (mg mb:Str->Option Yn) (fa:Yp) (o:Obj) (pm cd doc:Yn) (a:Yp) (vs:List Yn) (ns:List Int),
   Ground q loose [] XP w s₀ mg mb s₁.heap->YP w s₁.heap->
   s₁.heap.get? fa=some o->o.data = .func (docDef d.name d.params d.body d.scope pm cd doc)->s₁.heap.CodeRec cd d.name->mg d.name=some (.ref fa)->
   s₁.heap.get? a=some {cls := .type "list",data := .seq vs.toArray}->IntsAre vs ns->ns.length<=n->s₁.gens=#[]->
   codeAny (Yt l.prog w) callerA (.call (.ref fa) ⟨[.ref a],[]⟩) (λr s'=>r = .ok (.ret (.bool true))/\OldK s₁.heap s'.heap/\s'.os=s₁.os/\AllBare s'.gens) s₁):
 WalkO q loose XP YP l.row.toRowW d [] (λf vs=>PySem.call f vs):=by
 intro w s₀ s₁ mg mb G Y fa o pm cd doc dV kV ho hd hcd hD hmg hg args vals as hpre hlay hrd hwl hlo;obtain rfl:dV = .none:=Dflts.none hD hdf;obtain rfl:kV = .none:=Dflts.noKw hD;obtain⟨a,vs,ns,rfl,rfl,hobj,hints,hlen⟩:=KN hn hpre hwl;refine enter_call (A0l (call w s₀ s₁ mg mb fa o pm cd doc a vs ns G Y ho (fd_plain hd) hcd hmg hobj hints hlen hg) λr s' hq=>?_);obtain⟨rfl,h2,h3,h4⟩:=hq;exact⟨.inl ⟨.bool true,.bool true,[],rfl,λ_=>rfl,.bool true,KO l _,λ_=>⟨List.Pairwise.nil,λ_ hm=>(nomatch hm)⟩⟩,h2,h3,h4⟩
end Att
namespace L2
open PySem PySem.Spec PyProof.Rows
theorem EQ:∀{vs:List Yn} {ns:List Int},IntsAre vs ns->Vals (ns.map V.int) vs
 | _,_,.nil => .nil
 | _,_,.cons n t h => .cons ⟨t,rfl⟩ (EQ h)
def Oa(H:Hp):Prop:=∀ b,H b=none\/∃ o xs,H b=some (.frz o (.lst xs))
theorem M3{P:Yu}{w:Yw}{K:V8}{mg mb:Str->Option Yn}{CX:CXT}{k:Nat}{fa a:Yp}{fd:ZT}{x:Str}{sp:Sp}{s₁:Yo}{vs:List Yn}{ns:List Int}
 (KX:K.In s₁.heap) (hns:s₁.heap.Ns Yv mg) (hb:s₁.heap.Ns A0h mb) (hbb:∀ x:Str,x≠"__name__"->mb x=Yx x) (hlim:s₁.heap.NoLimit) (hg:s₁.gens=#[])
 (ha:s₁.heap.get? a=some {cls := .type "list",data := .seq vs.toArray}) (hi:IntsAre vs ns) (hl:ns.length<=Yr) (hr:Room k callerA)
 (F:∀ base:Heap,K.In base->base.Ns Yv mg->FnOk P w K mg base CX k fa fd [x] sp) (hbind:∀(s:Yo) (u:Yn),BindsTo s fd ⟨[u],[]⟩ [(x,u)])
 (hsp:∀ H:Hp,Oa H->SqL K H a (ns.map V.int)->sp [.ref a] H (λv _=>v = .bl true) λ_ _ _=>False)
 (hCX:∀ H e s',CX [] H s₁ (λ_ _ _=>False) e s'->False):
 codeAny (Yt P w) callerA (.call (.ref fa) ⟨[.ref a],[]⟩) (λr s'=>r = .ok (.ret (.bool true))/\OldK s₁.heap s'.heap/\s'.os=s₁.os/\AllBare s'.gens) s₁:=by
 have rv:=EQ hi;have lenV:=hi.length
 have core:∀ H:Hp,Oa H->SqL K H a (ns.map V.int)->HOk P w H s₁.heap->(∀ b,H b≠none->b=a)->(H a≠none->K.lookup a=none)->
  codeAny (Yt P w) callerA (.call (.ref fa) ⟨[.ref a],[]⟩) (λr s'=>r = .ok (.ret (.bool true))/\OldK s₁.heap s'.heap/\s'.os=s₁.os/\AllBare s'.gens) s₁:=by
  intro H hO hS hok hA hK;have t5:∀{b:Yp} {o:Obj},s₁.heap.get? b=some o->H b=none->(Et s₁.heap H).get? b=some o:=λe n=>La e n
  have noA:∀{b:Yp} {o:Obj} {es:Array ZW} {ep:Nat},s₁.heap.get? b=some o->o.data = .dict es ep->H b=none:=λ{b o es ep} e d=>by
   cases q:H b with
   | none=>rfl
   | some u=>
     have e':b=a:=hA b (by rw[q];simp);subst e';rw[ha]at e;cases e;have d':Data.seq vs.toArray _=Data.dict es ep:=d;cases d'
  have nsK:∀{b:Yp} {m:Str->Option Yn},s₁.heap.Ns b m->(Et s₁.heap H).Ns b m:=λ{b m} ⟨o,es,ep,e,d,r⟩=>⟨o,es,ep,t5 e (noA e d),d,r⟩
  have hKb:K.In (Et s₁.heap H):=λb o e=>t5 (KX b o e) (by
   cases q:H b with
   | none=>rfl
   | some u=>
     have e':b=a:=hA b (by rw[q];simp);subst e';rw[hK (by rw[q];simp)]at e;cases e)
  have hM:Mod K mg (Et s₁.heap H):=⟨hKb,nsK hns,⟨mb,nsK hb,hbb⟩,let ⟨mc,h1,h2⟩:=hlim;⟨mc,nsK h1,h2⟩⟩
  have e0:Env0 P w K mg (Et s₁.heap H) callerA [] s₁ H:=⟨rfl,hM,λb o e=>OI e,Y8 (KA _ _),trivial,λb hb=>absurd (show b∈([]:List Yp) from hb) (by simp),hok,.of_eq hg⟩
  refine A0l ((F _ hKb (nsK hns)).run callerA [] s₁ H ⟨[.ref a],[]⟩ [.ref a] [.ref a] _ _ hr e0 (hbind s₁ (.ref a)) (.cons rfl .nil) (hsp H hO hS)) λr s' h=>?_;cases r with
  | error e=>exact(hCX H e s' h).elim
  | ok fl=>
    cases fl with
    | next=>exact False.elim h
    | brk=>exact False.elim h
    | cont=>exact False.elim h
    | ret u=>
      obtain⟨v,H',os,bare,un,hok',r',q⟩:=h;have q':v = .bl true:=q;subst q';obtain rfl:u=Value.bool true:=r';refine⟨rfl,OldK.of_keep λb o e=>?_,os,bare⟩;cases q:H b with
      | none=>exact un.keep b o e q (by intro z;exact absurd (show b∈([]:List Yp) from z) (by simp)) (by simp)
      | some u=>
        rcases hO b with z | ⟨ob,xs,z⟩
        ·rw[q]at z;cases z
        ·have z2:=un.frzs b ob _ z;obtain⟨e1,_⟩:=hok b _ z;obtain⟨e2,_⟩:=hok' b _ z2;rw[e]at e1;cases e1;exact e2
 cases hk:K.lookup a with
 | some o=>
   have e:=KX a o hk;rw[ha]at e;cases e;refine core (λ_=>none) (λ_ => .inl rfl) (.inr ⟨_,vs.toArray,_,hk,rfl,rfl,rfl,by rw[VF,lenV];exact hl,by simpa using rv⟩) (λb u z=>by have z':(none:Option HO)=some u:=z;cases z') (λb z=>absurd rfl z) λz=>absurd rfl z
 | none=>
   refine core (λb=>if b=a then some (.frz {cls := .type "list",data := .seq vs.toArray} (.lst (ns.map V.int))) else none) (λb=>?_) (.inl (.inr ⟨{cls := .type "list",data := .seq vs.toArray},iP rfl⟩)) (λb u z=>?_) (λb z=>?_) λ_=>hk
   ·by_cases hb:b=a
    ·exact .inr ⟨_,_,iP hb⟩
    ·exact .inl (iG hb)
   ·by_cases hb:b=a
    ·have z':=(iP hb).symm.trans z;cases z';subst hb;exact⟨ha,by rw[VA];exact hl,vs,_,rv,ha⟩
    ·have z':=(iG hb).symm.trans z;cases z'
   ·by_cases hb:b=a
    ·exact hb
    ·exact absurd (iG hb) z
theorem walk_of{l:PySem.W.OpenLaw}{n k:Nat}{q:Yu}{loose:List Str}{XP:(Str->Option Yn)->Heap->Prop}{YP:Yw->Heap->Prop}{d:DefRec}{K:Params->V8}{CX:Yw->CXT}{sp:Yw->Sp}{x:Str}
 (hn:l.most=some n) (hn2:n<=Yr) (hdf:d.params.defaults=[]) (hr:Room k callerA)
 (hY:∀(w:Yw) (h:Heap),YP w h->(K w.params).In h)
 (F:∀(w:Yw) (mg:Str->Option Yn) (fa:Yp) (h:Heap),(K w.params).In h->h.Ns Yv mg->mg d.name=some (.ref fa)->
   ∃ fd:ZT,(∀(s:Yo) (u:Yn),BindsTo s fd ⟨[u],[]⟩ [(x,u)])/\
    ∀ base:Heap,(K w.params).In base->base.Ns Yv mg->FnOk l.prog w (K w.params) mg base (CX w) k fa fd [x] (sp w))
 (hsp:∀(w:Yw) (H:Hp) (a:Yp) (ns:List Int),ns.length<=n->Oa H->SqL (K w.params) H a (ns.map V.int)->sp w [.ref a] H (λv _=>v = .bl true) λ_ _ _=>False)
 (hCX:∀(w:Yw) (H:Hp) (s:Yo) (e:Yn) (s':Yo),CX w [] H s (λ_ _ _=>False) e s'->False):
 PySem.W.WalkO q loose XP YP l.row.toRowW d [] (λf vs=>PySem.call f vs):=by
 refine Att.attach_call hn hdf λw s₀ s₁ mg mb fa o pm cd doc a vs ns G Y ho hd hcd hmg hobj hints hlen hg=>?_;have KX:=hY w _ Y;obtain⟨fd,hb,hF⟩:=F w mg fa _ KX G.T.g hmg;exact M3 KX G.T.g G.T.b G.T.builtins G.T.nolimit hg hobj hints (Vc hlen hn2) hr hF hb (λH hO hS=>hsp w H a ns hlen hO hS) λH e s'=>hCX w H s₁ e s'
def defArgs(s:Stmt):Arguments:=match s with
 | .FunctionDef _ a _ _ _ _ _ _ _ _=>a
 | _=>{posonlyargs:=[],args:=[],vararg:=none,kwonlyargs:=[],kw_defaults:=[],kwarg:=none,defaults:=[]}
def defBody(s:Stmt):List Stmt:=match s with
 | .FunctionDef _ _ b _ _ _ _ _ _ _=>b
 | _=>[]
def defScope(s:Stmt):Z1:=match s with
 | .FunctionDef _ _ _ _ _ _ sc _ _ _=>sc
 | _=>{kind := .function,names:=[],isGenerator:=false,isCoroutine:=false}
abbrev CX0:CXT:=λ_ _ _ _ _ _=>False
abbrev E0:XK:=λ_ _ _=>False
theorem Tu{X:Cx}:He CX0 X E0:=λ_ _ _ _ _ _ _ h=>h.elim
structure Fun(K:V8)(x qual:Str)(st:Stmt)(f:Yp)(fd:ZT):Prop where
 ex:∃(oc:Yn) (od:Option Yp) (kV doc pm:Yn) (an:Option Yp) (cdv ct:Yn) (osl:Array (Option Yn)),
  fd=PySem.W.fnOf x qual (defArgs st) (defBody st) (defScope st) .none kV doc pm an cdv ct/\K.lookup f=some ⟨oc,od,.func fd,osl⟩/\PySem.W.codeIn K cdv qual=true
 kp:PySem.W.keepIn K (.ref f)=true
section
variable{P:Yu}{w:Yw}{K:V8}{mg:Str->Option Yn}{base:Heap}
theorem Fun.ok{x qual:Str}{st:Stmt}{f:Yp}{fd:ZT}{N ps:List Str}{k:Nat}{sp:Sp}(F:Fun K x qual st f fd)(S:FnScope N ps (defScope st))(len:∀ vs H Q E,sp vs H Q E->vs.length=ps.length)
 (hbody:∀(cdv:Yn) (A:Z0) (outer:List Env) (s:Yo) (H:Hp) (vs:List V) (Q:VK) (E:XK),Room k (A.deeper (envOfC qual (defScope st) s.heap.objs.size f cdv))->sp vs H Q E->
   ∃ t,PSs (Hf CX0 P w K mg base N qual (defScope st) f cdv A outer s H E).nox (defBody st) t/\t {nx:=λ_ H'=>Q .non H',rt:=Q} (start N vs) H):FnOk P w K mg base CX0 (k+1) f fd ps sp:=by
 obtain⟨oc,od,kV,doc,pm,an,cdv,ct,osl,rfl,lk,hcd⟩:=F.ex;refine Tk lk hcd S len λA outer s H vs Q E hr hsp=>?_;obtain⟨t,h,q⟩:=hbody cdv A outer s H vs Q E hr hsp;exact⟨t,h.nox,q⟩
theorem Fun.binds{x qual:Str}{st:Stmt}{f:Yp}{fd:ZT}{ps:List Str}(F:Fun K x qual st f fd)
 (h:∀(kV doc pm:Yn) (an:Option Yp) (cdv ct:Yn) (us:List Yn),us.length=ps.length->bindArgs (PySem.W.fnOf x qual (defArgs st) (defBody st) (defScope st) .none kV doc pm an cdv ct) ⟨us,[]⟩=pure (ps.zip us)):Binds K fd ps []:=by
 obtain⟨oc,od,kV,doc,pm,an,cdv,ct,osl,rfl,lk,hcd⟩:=F.ex;exact .all (h kV doc pm an cdv ct)
theorem Hl{x qual:Str}{st:Stmt}{f:Yp}{oc:Yn}{od an:Option Yp}{osl:Array (Option Yn)}{kV doc pm cdv ct:Yn}(l:K.lookup f=some ⟨oc,od,.func (PySem.W.fnOf x qual (defArgs st) (defBody st) (defScope st) .none kV doc pm an cdv ct),osl⟩)
 (c:PySem.W.codeIn K cdv qual=true) (k:PySem.W.keepIn K (.ref f)=true):Fun K x qual st f (PySem.W.fnOf x qual (defArgs st) (defBody st) (defScope st) .none kV doc pm an cdv ct):=⟨⟨oc,od,kV,doc,pm,an,cdv,ct,osl,rfl,l,c⟩,k⟩
end
end L2
set_option maxHeartbeats 4000000
namespace L2
open PySem PySem.Spec PyProof.Rows
def y4(env:Env):List (Str×ZA)->List (Str×Yp)->List (Str×Yp)
 | [],acc=>acc
 | (n,k)::r,acc=>if k == .free then y4 env r ((n,(env.cells.lookup n).getD 0)::acc) else y4 env r acc
theorem Ao{env:Env}{scope:Z1}(h:∀ x∈scope.names,x.2 = .free->∃ c,env.cells.lookup x.1=some c):closureFor scope env=pure (y4 env scope.names []):=by
 unfold closureFor
 have go:∀(names:List (Str×ZA)) (acc:List (Str×Yp)),(∀ x∈names,x.2 = .free->∃ c,env.cells.lookup x.1=some c)->
  (forIn names acc λx r=>match x with
    | (name,kind)=>if (kind == NameKind.free)=true then do let __do_lift <- cellOf env name;pure (ForInStep.yield ((name,__do_lift)::r)) else pure (ForInStep.yield r):Sem (List (Str×Yp)))=pure (y4 env names acc):=by
  intro names
  induction names with
  | nil=>intro acc _;rfl
  | cons x r ih=>
    intro acc hx;obtain⟨n,k⟩:=x;rw[List.forIn_cons];have hr:=λy hy=>hx y (VL _ hy);by_cases hk:k = .free
    ·subst hk;obtain⟨c,hc⟩:=hx (n,.free) VQ rfl;have hc':env.cells.lookup n=some c:=hc;unfold y4;simp only[beq_self_eq_true,if_true,cellOf,hc',YI,pure_bind];exact ih _ hr
    ·have hb:(k == NameKind.free)=false:=by simpa using hk
     unfold y4;simp only[hb,WH,if_false,pure_bind];exact ih _ hr
 have:=go scope.names [] h;simp only[this]
 first | rfl | simp
theorem CT{env:Env}:∀(names:List (Str×ZA)) (acc:List (Str×Yp)),(∀ x∈names,x.2 = .free->∃ c,env.cells.lookup x.1=some c)->(∀ p∈acc,env.cells.lookup p.1=some p.2)->
 ∀ p∈y4 env names acc,env.cells.lookup p.1=some p.2
 | [],_,_,ha,p,hp=>ha p hp
 | (n,k)::r,acc,h,ha,p,hp=>by
   unfold y4 at hp;have hr:=λy hy=>h y (VL _ hy);split at hp
   ·rename_i hk;have hk:k = .free:=by simpa using hk
    obtain⟨c,hc⟩:=h (n,k) VQ hk;have hc':env.cells.lookup n=some c:=hc;refine CT r _ hr (λq hq=>?_) p hp;rcases VW.mp hq with rfl | hq
    ·show env.cells.lookup n=some ((env.cells.lookup n).getD 0);rw[hc'];rfl
    ·exact ha q hq
   ·exact CT r acc hr ha p hp
theorem CU{env:Env}:∀(names:List (Str×ZA)) (acc:List (Str×Yp)),∀ p∈acc,p∈y4 env names acc
 | [],_,_,hp=>hp
 | (n,k)::r,acc,p,hp=>by
   unfold y4;split
   ·exact CU r _ p (VL _ hp)
   ·exact CU r acc p hp
theorem CV{env:Env}:∀(names:List (Str×ZA)) (acc:List (Str×Yp)) (n:Str),(n,NameKind.free)∈names->∃ c,(n,c)∈y4 env names acc
 | (m,k)::r,acc,n,hn=>by
   unfold y4;rcases VW.mp hn with e | hn
   ·cases e;simp only[beq_self_eq_true,if_true];exact⟨_,CU r _ _ VQ⟩
   ·split
    ·exact CV r _ n hn
    ·exact CV r _ n hn
theorem BG{env:Env}:∀(names:List (Str×ZA)) (acc:List (Str×Yp)),∀ p∈y4 env names acc,p∈acc\/(p.1,NameKind.free)∈names
 | [],_,_,hp => .inl hp
 | (n,k)::r,acc,p,hp=>by
   unfold y4 at hp;split at hp
   ·rename_i hk;have hk:k = .free:=by simpa using hk
    subst hk;rcases BG r _ p hp with z | z
    ·rcases VW.mp z with rfl | z
     ·exact .inr VQ
     ·exact .inl z
    ·exact .inr (VL _ z)
   ·rcases BG r _ p hp with z | z
    ·exact .inl z
    ·exact .inr (VL _ z)
theorem AC:∀(names:List (Str×ZA)) (n:Nat) (acc:List (Str×Yp)),∀ p∈ZD n names acc,p∈acc\/(n<=p.2/\(p.1,NameKind.cell)∈names)
 | [],_,_,_,hp => .inl hp
 | (x,k)::r,n,acc,p,hp=>by
   unfold ZD at hp;split at hp
   ·rename_i hk;have hk:k = .cell:=by simpa using hk
    subst hk;rcases AC r (n+1) _ p hp with z | ⟨z,w⟩
    ·rcases VW.mp z with rfl | z
     ·exact .inr ⟨VH _,VQ⟩
     ·exact .inl z
    ·exact .inr ⟨Nat.le_of_succ_le z,VL _ w⟩
   ·rcases AC r n acc p hp with z | ⟨z,w⟩
    ·exact .inl z
    ·exact .inr ⟨z,VL _ w⟩
theorem AD:∀(names:List (Str×ZA)) (n:Nat) (acc:List (Str×Yp)),∀ p∈acc,p∈ZD n names acc
 | [],_,_,_,hp=>hp
 | (x,k)::r,n,acc,p,hp=>by
   unfold ZD;split
   ·exact AD r _ _ p (VL _ hp)
   ·exact AD r _ _ p hp
theorem Af:∀(names:List (Str×ZA)) (n:Nat) (acc:List (Str×Yp)) (x:Str),(x,NameKind.cell)∈names->∃ c,(x,c)∈ZD n names acc
 | (y,k)::r,n,acc,x,hx=>by
   unfold ZD;rcases VW.mp hx with e | hx
   ·cases e;simp only[beq_self_eq_true,if_true];exact⟨_,AD r _ _ _ VQ⟩
   ·split
    ·exact Af r _ _ x hx
    ·exact Af r _ _ x hx
theorem Ag:∀(names:List (Str×ZA)) (h:Heap) (acc:List (Str×Yp)),∀ p∈ZD h.objs.size names acc,p∈acc\/(A0r h names).IsCell p.2 none
 | [],_,_,_,hp => .inl hp
 | (x,k)::r,h,acc,p,hp=>by
   unfold ZD at hp;unfold A0r;split at hp
   ·rename_i hk;rw[iP hk];have:=Ag r (h.push {cls := .type "cell",data := .cell none}) ((x,h.objs.size)::acc) p (by rw[WD];exact hp);rcases this with z | z
    ·rcases VW.mp z with rfl | z
     ·exact .inr ⟨_,A06 _ _ _ _ (VV _ rfl),rfl⟩
     ·exact .inl z
    ·exact .inr z
   ·rename_i hk;rw[iG hk];exact Ag r h acc p hp
theorem AJ:∀(names:List (Str×ZA)) (n:Nat) (acc:List (Str×Yp)),(acc.Pairwise λx y=>x.2≠y.2)->(∀ p∈acc,p.2<n)->(ZD n names acc).Pairwise λx y=>x.2≠y.2
 | [],_,_,h,_=>h
 | (x,k)::r,n,acc,h,hl=>by
   unfold ZD;split
   ·refine AJ r (n+1) _ (Y5.mpr ⟨λy hy e=>?_,h⟩) λp hp=>?_
    ·have h1:=hl y hy;have e':n=y.2:=e;exact absurd h1 (by rw[<-e'];exact Wn _)
    ·rcases VW.mp hp with rfl | hp
     ·exact Wq _
     ·exact Wa (hl p hp)
   ·exact AJ r n acc h hl
theorem BH{env:Env}(inj:∀ x y c,env.cells.lookup x=some c->env.cells.lookup y=some c->x=y):∀(names:List (Str×ZA)) (acc:List (Str×Yp)),(names.map (·.1)).Nodup->
 (∀ x∈names,x.2 = .free->∃ c,env.cells.lookup x.1=some c)->(acc.Pairwise λx y=>x.2≠y.2)->(∀ p∈acc,env.cells.lookup p.1=some p.2/\p.1∉names.map (·.1))->(y4 env names acc).Pairwise λx y=>x.2≠y.2
 | [],_,_,_,h,_=>h
 | (n,k)::r,acc,nd,hf,h,ha=>by
   unfold y4;have nd':=Vz.mp nd;have hr:=λy hy=>hf y (VL _ hy);split
   ·rename_i hk;have hk:k = .free:=by simpa using hk
    obtain⟨c,hc⟩:=hf (n,k) VQ hk;have hc':env.cells.lookup n=some c:=hc;refine BH inj r _ nd'.2 hr (Y5.mpr ⟨λy hy e=>?_,h⟩) λp hp=>?_
    ·have e':(env.cells.lookup n).getD 0=y.2:=e;rw[hc']at e';have e2:c=y.2:=e';have q:=(ha y hy).1;have:=inj n y.1 c hc' (by rw[e2];exact q);exact(ha y hy).2 (by rw[<-this];exact VQ)
    ·rcases VW.mp hp with rfl | hp
     ·refine⟨?_,nd'.1⟩;show env.cells.lookup n=some ((env.cells.lookup n).getD 0);rw[hc'];rfl
     ·exact⟨(ha p hp).1,λz=>(ha p hp).2 (VL _ z)⟩
   ·exact BH inj r acc nd'.2 hr h λp hp=>⟨(ha p hp).1,λz=>(ha p hp).2 (VL _ z)⟩
theorem y6{env:Env}:∀(names:List (Str×ZA)) (x:Str),
 (names.map λ(n,k)=>if (k == NameKind.free&&env.scope.kind == .function&&env.kindOf n == some .cell) then (n,NameKind.cell) else (n,k)).lookup x=
   (names.lookup x).map λk=>if (k == NameKind.free&&env.scope.kind == .function&&env.kindOf x == some .cell) then NameKind.cell else k
 | [],x=>rfl
 | (n,k)::r,x=>by
   have ih:=y6 (env:=env) r x;rw[Vk];show Xt x ((if (k == NameKind.free&&env.scope.kind == .function&&env.kindOf n == some .cell)=true then (n,NameKind.cell) else (n,k))::_)=_;split
   ·rename_i hc;rw[WM,WM];cases hx:x == n with
    | false=>exact ih
    | true=>
      have e:x=n:=by simpa using hx
      subst e;simp only[WV];rw[iP hc]
   ·rename_i hc;rw[WM,WM];cases hx:x == n with
    | false=>exact ih
    | true=>
      have e:x=n:=by simpa using hx
      subst e;simp only[WV];rw[iG hc]
theorem n9{α:Type}:∀{l:List (Str×α)} {n:Str} {c:α},(l.map (·.1)).Nodup->(n,c)∈l->l.lookup n=some c
 | (k,v)::r,n,c,nd,h=>by
   have nd':=Vz.mp nd;rw[WM];rcases VW.mp h with e | h2
   ·cases e;simp
   ·cases hb:n == k with
    | true=>
      have e:n=k:=by simpa using hb
      exact absurd (VZ.mpr ⟨(n,c),h2,e⟩:k∈r.map (·.1)) nd'.1
    | false=>exact n9 nd'.2 h2
theorem Bu{α:Type}:∀{l:List (Str×α)} {n:Str} {c:α},(n,c)∈l->∃ d,l.lookup n=some d
 | (k,v)::r,n,c,h=>by
   rw[WM];cases hb:n == k with
   | true=>exact⟨v,rfl⟩
   | false=>
     rcases VW.mp h with e | h
     ·cases e;simp at hb
     ·exact Bu h
noncomputable abbrev j9(X:Cx)(scope:Z1)(N':List Str)(s2:Yo)(H2:Hp)(cs:List (Str×Yp))(C:Yp)(fp:List Yp):Cx where
 prog:=X.prog
 w:=X.w
 K:=X.K
 mg:=X.mg
 base:=X.base
 A:=X.A
 N:=N'
 s₀:=s2
 H₀:=H2
 env:=A00 scope cs C X.env
 outer:=X.stack
 stack:=X.stack
 ex:=fp
 fn:=λx=>scope.names.lookup x == some .cell
 calm:=X.calm
 pn:=X.pn
 xe:=λ_ _=>False
def AA(sc0 sc:Z1)(own cn N:List Str)(js:List Nat):Bool:=
 (decide (sc.kind = .function))&&(sc.names.all λx=>!decide (x.2 = .free)||decide (sc0.names.lookup x.1=some .cell)||decide (sc0.names.lookup x.1=some .free))
 && decide ((sc.names.map (·.1)).Nodup)&&(own.all λx=>decide (sc.names.lookup x=some .local)||decide (sc.names.lookup x=some .cell))&&(cn.all λx=>decide (sc.names.lookup x=some .free))
 && decide ((own++cn).Nodup)&&decide (js.map (λj=>N[j]?)=cn.map some)
def BA(k:Nat)(js:List Nat)(σ:St):St:=VM k none++js.map λj=>(σ[j]?).join
noncomputable def E4(X:Cx)(ifs:List Expr)(t:TT):Prop:=
 ∀(pq:List (Yp×Obj)) (s:Yo) (σ:St) (H:Hp) (Q:Bool->Hp->Prop),Inv X pq σ H s->t σ H Q->
  Ys (Yt X.prog X.w) X.A (forIn ifs true λc r=>if r=true then do let ok <- isTrue c X.env (eval c X.env);pure (ForInStep.yield ok) else pure (ForInStep.yield r)) (TP X pq σ Q) X.xe s
theorem M4{X:Cx}:E4 X [] (λ_ H Q=>Q true H):=λ_ _ _ H _ I h=>wpAny_tests_nil ⟨H,I,h⟩
theorem M5{X:Cx}{c:Expr}{t:TT}(h:PT X c t):E4 X [c] t:=λpq s σ H Q I hw=>wpAny_tests_one (h pq s σ H Q I hw)
theorem M6{M:Model}{A:Z0}{E:Yn->Yo->Prop}{s:Yo}{scope:Z1}{env:Env}{cl:List (Str×Yp)}{Q:Env->Yo->Prop}
 (h:Q (newEnv scope s.heap.objs.size env.globals (ZD (s.heap.objs.size+1) scope.names cl) env.qual none .none (some env) A0h) {s with heap:=A0r (s.heap.push {cls := .type "dict",data := .dict #[]}) scope.names}):
 Ys M A (Zr scope env.globals cl [] env.qual none .none (some env)) Q E s:=by
 simp only[Zr,Y6,if_true];refine Ym (wpAny_alloc ?_);refine Ym (wpAny_layCells _ (λname kind cells=>by cases hkc:kind == NameKind.cell<;>simp[hkc]) _ _ _ _ ?_);rw[show({s with heap:=s.heap.push {cls := .type "dict",data := .dict #[]}}:Yo).heap.objs.size=s.heap.objs.size+1 from WD ..];refine Ym ?_;rw[List.forIn_nil];exact Yq (Yq h)
structure CForm(prog:Yu)(w:Yw)(A:Z0)(E tg iter:Expr)(ifs:List Expr)(emit:Yn->Env->Sem Unit)(dp:Nat:=0):Prop where
 turn:∀(it:Yn) (D:Yp) (env:Env),compTurn E dp it (.ref D) env=(do
  standAt iter.pos
  match <- pyNext it with
  | none=>pure (.done .next)
  | some v=>
    Zb tg it v
    assign tg env v
    let mut ok:=true
    for c in ifs do
     if ok then ok <- isTrue c env (eval c env)
    if ok then emit (.ref D) env
    again (.compLoop E dp it (.ref D) env))
 und:∀(it acc:Yn) (env:Env),A.under (.compLoop E dp it acc env)=A
 den:∀(it acc:Yn) (env:Env),(Yt prog w).den (.compLoop E dp it acc env)=(compTurn E dp it acc env).onRaise (λx=>do noteFrame x env;theTreesLotGoes x)
 start:∀{R:Result->Yo->Prop} {s:Yo} {it acc:Yn} {env:Env},codeAny (Yt prog w) A (.compLoop E dp it acc env) R s->Ys (Yt prog w) A (pyIter it) (λit' s'=>codeAny (Yt prog w) A (.compLoop E dp it' acc env) R s') (notedBy (Yt prog w) A env λx s'=>R (.error x) s') s->
  codeAny (Yt prog w) A (.compStart E dp it acc env) R s
theorem CForm.loop{prog:Yu}{w:Yw}{A:Z0}{E tg iter:Expr}{ifs:List Expr}{emit:Yn->Env->Sem Unit}{dp:Nat}(F:CForm prog w A E tg iter ifs emit dp){R:Result->Yo->Prop}{s:Yo}{it:Yn}{D:Yp}{env:Env}(I:Nat->Yo->Prop)
 (turn:∀ n s,I n s->Ys (Yt prog w) A (pyNext it) (λr s₁=>match r with
   | none=>R (.ok .next) s₁
   | some v=>Ys (Yt prog w) A (Zb tg it v) (λ_ s₁'=>Ys (Yt prog w) A (assign tg env v) (λ_ s₂=>
      Ys (Yt prog w) A (forIn ifs true λc r=>if r=true then do let ok <- isTrue c env (eval c env);pure (ForInStep.yield ok) else pure (ForInStep.yield r)) (λok s₃=>
       if ok=true then Ys (Yt prog w) A (emit (.ref D) env) (λ_ s₅=>∃ m,m<n/\I m s₅) (λ_ _=>False) s₃
       else ∃ m,m<n/\I m s₃) (λ_ _=>False) s₂) (λ_ _=>False) s₁') (λ_ _=>False) s₁) (λ_ _=>False) s)
 (n:Nat) (h:I n s):
 codeAny (Yt prog w) A (.compLoop E dp it (.ref D) env) R s:=by
 refine codeAny_loop rfl I (λn s hI=>?_) n h;rw[F.und,F.den];refine wpAny_noted ?_;rw[F.turn];refine Ym (Zk (Ym (ZE (turn n s hI) (λr s₁ h₁=>?_) λ_ _ h'=>False.elim h')));cases r with
 | none=>exact Yq h₁
 | some v=>
   refine Ym (ZE h₁ (λ_ s₁' h₁'=>?_) λ_ _ h'=>False.elim h');refine Ym (ZE h₁' (λ_ s₂ h₂=>Ym (ZE h₂ (λok s₃ h₃=>?_) λ_ _ h'=>False.elim h')) λ_ _ h'=>False.elim h');cases ok with
   | false=>exact Yq ⟨rfl,h₃⟩
   | true=>exact Ym (ZE h₃ (λ_ s₅ h₅=>Yq ⟨rfl,h₅⟩) λ_ _ h'=>False.elim h')
noncomputable def Rj{α:Type}(J:It)(g:TG)(tt:TT)(tem:α->St->Hp->(α->Hp->Prop)->Prop)(σ':St)(Q:Hp->Prop)(W:Nat->Nat->α->Hp->Prop):Prop:=
 ∀ i m a H,W i m a H->(J.stop i H/\Q H)\/(J.go i H/\∃ N:α->Hp->Prop,(∀ a' H',N a' H'->∃ m',m'<m/\W (i+1) m' a' H')/\∀ x H',J.yld i H x H'->g x σ' H' λσ2 H2=>tt σ2 H2 λb H3=>if b=true then tem a σ2 H3 N else N a H3)
def Tv(elt:Expr)(acc:Yn)(env:Env):Sem Unit:=do
 let x <- eval elt env
 let _ <- call (.builtin "list.append") [acc,x]
theorem Hm{prog:Yu}{w:Yw}{A:Z0}{elt tg iter:Expr}{ifs:List Expr}{scope:Z1}{pos:Pos}:CForm prog w A (.ListComp elt [⟨tg,iter,ifs,0⟩] scope pos) tg iter ifs (Tv elt) where
 turn:=λ_ _ _=>compTurn_list ..
 und:=λ_ _ _=>rfl
 den:=λ_ _ _=>rfl
 start:=λh0 h=>codeAny_compStart_list h0 h
def Ur(te:TE)(D:Yp)(ys:List V)(σ:St)(H:Hp)(N:List V->Hp->Prop):Prop:=te σ H λv H4=>H4 D=some (.lst ys)/\ys.length<Yr/\N (ys++[v]) (upd H4 D (.lst (ys++[v])))
noncomputable def QW(J:It)(g:TG)(tt:TT)(te:TE)(D:Yp)(σ':St)(Q:List V->Hp->Prop)(W:Nat->Nat->List V->Hp->Prop):Prop:=
 ∀ i m ys H,W i m ys H->(J.stop i H/\Q ys H)\/(J.go i H/\∃ N:List V->Hp->Prop,(∀ ys' H',N ys' H'->∃ m',m'<m/\W (i+1) m' ys' H')/\∀ x H',J.yld i H x H'->g x σ' H' λσ2 H2=>tt σ2 H2 λb H3=>
  if b=true then te σ2 H3 λv H4=>H4 D=some (.lst ys)/\ys.length<Yr/\N (ys++[v]) (upd H4 D (.lst (ys++[v]))) else N ys H3)
noncomputable def M7(wi:TI)(g:TG)(tt:TT)(te:TE)(k:Nat)(js:List Nat):TE:=λσ H Q=>wi σ H λJ H1=>∀ D,H1 D=none->
 ∃ W:Nat->Nat->List V->Hp->Prop,(∃ m,W 0 m [] (upd H1 D (.lst [])))/\QW J g tt te D (BA k js σ) (λ_ H=>Q (.ref D) H) W
section
variable{X:Cx}{pq:List (Yp×Obj)}{σ:St}{H2:Hp}{s2:Yo}{tg elt iter:Expr}{ifs:List Expr}{scope:Z1}{pos:Pos}{own cn:List Str}{js:List Nat}{g:TG}{tt:TT}{te:TE}
theorem Fn{α:Type}{E:Expr}{emit:Yn->Env->Sem Unit}{mk:Sem Yn}{o0:Obj}{u0:HO}{a0:α}{tem:Yp->α->St->Hp->(α->Hp->Prop)->Prop}(F:CForm X.prog X.w X.A E tg iter ifs emit)(hmk:∀{Q:Yn->Yo->Prop},Q (.ref s2.heap.objs.size) {s2 with heap:=s2.heap.push o0}->Ys (Yt X.prog X.w) X.A mk Q X.xe s2)(nf0:o0.isFreed=false)(new0:∀(H:Hp) (h:Heap),h.get? s2.heap.objs.size=some o0->ObjOk X.prog X.w H h s2.heap.objs.size u0)(hok:AA X.env.scope scope own cn X.N js=true)(hc:X.calm=true)
 (hg:∀ s2 H2 cs C fp,PG (j9 X scope (own++cn) s2 H2 cs C fp) tg g) (ht:∀ s2 H2 cs C fp,E4 (j9 X scope (own++cn) s2 H2 cs C fp) ifs tt) (hem:∀ D s2 H2 cs C fp pq s σ H (a:α) (N:α->Hp->Prop),Inv (j9 X scope (own++cn) s2 H2 cs C fp) pq σ H s->tem D a σ H N->Ys (Yt X.prog X.w) X.A (emit (.ref D) (A00 scope cs C X.env)) (λ_ s1=>∃ σ1 a1 H1,Inv (j9 X scope (own++cn) s2 H2 cs C fp) pq σ1 H1 s1/\N a1 H1) (λ_ _=>False) s)
 (I2:Inv X pq σ H2 s2) {it:Yp} {fp:List Yp} {tn:Nat->Heap->Prop} {J:It} (T:Turn X.prog X.w X.K tg J fp it tn) (st2:tn 0 s2.heap) (f2:∀ b∈fp,FpOk X pq H2 b)
 {Qe:Hp->Prop} (hW:∃ W:Nat->Nat->α->Hp->Prop,(∃ m,W 0 m a0 (upd H2 s2.heap.objs.size u0))/\Rj J g tt (tem s2.heap.objs.size) (BA own.length js σ) Qe W)
 {RR:Yn->Yp->Result->Yo->Prop}
 (hRR:∀ C H' s',Inv X pq σ H' s'->FpOk X pq H' C->(∃ m,s'.heap.Ns C m)->Qe H'->RR (.ref s2.heap.objs.size) C (.ok .next) s'):
 Ys (Yt X.prog X.w) X.A mk (λacc s₃=>Ys (Yt X.prog X.w) X.A (Zr scope X.env.globals (y4 X.env scope.names []) [] X.env.qual none .none (some X.env)) (λcenv s₄=>
  codeAny (Yt X.prog X.w) X.A (.compStart E 0 (.ref it) acc {cenv with scope:=relabel scope X.env}) (RR acc cenv.locals) s₄) X.xe s₃) X.xe s2:=by
 unfold AA at hok;simp only[V9,dQ,Ve,Vx,Vi,decide_eq_false_iff_not]at hok;obtain⟨⟨⟨⟨⟨⟨k1,k2⟩,k3⟩,k4⟩,k5⟩,k6⟩,k7⟩:=hok
 have hfreeK:∀ x∈scope.names,x.2 = .free->X.env.kindOf x.1=some .cell\/X.env.kindOf x.1=some .free:=λx hx hf=>by
  rcases k2 x hx with(z | z) | z
  ·exact absurd hf z
  ·exact .inl z
  ·exact .inr z
 have hfree:∀ x∈scope.names,x.2 = .free->∃ c,X.env.cells.lookup x.1=some c:=λx hx hf=>I2.ok.has x.1 (hfreeK x hx hf);refine hmk (M6 ?_);have hsz3:(s2.heap.push o0).objs.size=s2.heap.objs.size+1:=WD ..;dsimp only;generalize hh3:s2.heap.push o0=h3 at hsz3 ⊢;have old3:∀ b o,s2.heap.get? b=some o->h3.get? b=some o:=λb o e=>hh3▸VG _ e;have hD3:h3.get? s2.heap.objs.size=some o0:=hh3▸VV _ nf0;generalize hcs:ZD (h3.objs.size+1) scope.names (y4 X.env scope.names [])=cs;generalize hh4:A0r (h3.push {cls := .type "dict",data := .dict #[]}) scope.names=h4;have old4:∀ b o,h3.get? b=some o->h4.get? b=some o:=λb o e=>hh4▸A06 _ _ b o (VG _ e);have old:∀ b o,s2.heap.get? b=some o->h4.get? b=some o:=λb o e=>old4 b o (old3 b o e);have hD4:h4.get? s2.heap.objs.size=some o0:=old4 _ _ hD3;have hNs:h4.Ns h3.objs.size (λ_=>none):=hh4▸(Heap.Ns.new h3 (.type "dict")).keeps (A06 _ _);generalize hC:h3.objs.size=C at hNs hcs ⊢;have hCD:@Eq Nat C (s2.heap.objs.size+1):=by rw[<-hC];exact hsz3
 have clM:=CT (env:=X.env) scope.names [] hfree (λp hp=>absurd hp (by simp));have cellLt:∀ x c,X.env.cells.lookup x=some c->@LT.lt Nat _ c s2.heap.objs.size:=λx c e=>by obtain⟨v,z⟩:=I2.cell x c e;exact z.lt
 have apart:cs.Pairwise λx y=>x.2≠y.2:=by
  rw[<-hcs];refine AJ _ _ _ (BH I2.ok.inj scope.names [] k3 hfree List.Pairwise.nil λp hp=>absurd hp (by simp)) λp hp=>?_;have:=cellLt _ _ (clM p hp);show @LT.lt Nat _ p.2 (C+1);omega
 have csM:∀ p∈cs,X.env.cells.lookup p.1=some p.2\/(C+1<=p.2/\(p.1,NameKind.cell)∈scope.names/\h4.IsCell p.2 none):=λp hp=>by
  have hp0:=hp;rw[<-hcs]at hp;rcases AC _ _ _ p hp with z | ⟨z,y⟩
  ·exact .inl (clM p z)
  ·have e:h3.objs.size+1=(h3.push {cls := .type "dict",data := .dict #[]}).objs.size:=by rw[WD]
   have hp':=hp;rw[<-hC,e]at hp';rcases Ag _ _ _ p hp' with q | q
   ·exact .inl (clM p q)
   ·exact .inr ⟨z,y,hh4▸q⟩
 have hX:(j9 X scope (own++cn) s2 H2 cs C fp).Ok:=by
  refine⟨I2.ok.mod,k1,I2.ok.glob,I2.ok.blt,by show @LE.le Nat _ s2.heap.objs.size C;omega,λx y c h1 h2=>name_of_addr apart (PySem.mem_of_lookup h1) (PySem.mem_of_lookup h2),λx hx=>?_,λx c hf hx=>?_,I2.ok.hd,I2.ok.frames,.inl rfl,λb hb=>?_,I2.bs,Vc I2.ok.bsz I2.sz,λb o e hb=>?_,λb hb hf=>?_,I2.stack,I2.stkFree⟩
  ·have hx':(relabel scope X.env).names.lookup x=some .cell\/(relabel scope X.env).names.lookup x=some .free:=hx
   have hl:scope.names.lookup x=some .cell\/scope.names.lookup x=some .free:=by
    unfold relabel at hx';dsimp only at hx';rw[y6]at hx';cases e:scope.names.lookup x with
    | none=>rw[e]at hx';simp at hx'
    | some k=>
      rw[e]at hx';cases k<;>simp_all
   have:∃ c,(x,c)∈cs:=by
    rw[<-hcs];rcases hl with hl | hl
    ·exact Af _ _ _ x (PySem.mem_of_lookup hl)
    ·obtain⟨c,hc'⟩:=CV (env:=X.env) scope.names [] x (PySem.mem_of_lookup hl);exact⟨c,AD _ _ _ _ hc'⟩
   obtain⟨c,hm⟩:=this;exact Bu hm
  ·have hf':scope.names.lookup x=some .cell:=by simpa using hf
   have hm:=PySem.mem_of_lookup (show cs.lookup x=some c from hx);rcases csM _ hm with z | ⟨z,_⟩
   ·
    rw[<-hcs]at hm;rcases AC _ _ _ _ hm with q | ⟨q,_⟩
    ·rcases BG (env:=X.env) scope.names [] _ q with q' | q'
     ·exact absurd q' (by simp)
     ·have:=n9 k3 q';have h2:scope.names.lookup x=some .free:=this;rw[hf']at h2;cases h2
    ·show @LE.le Nat _ s2.heap.objs.size c;have q2:@LE.le Nat _ (C+1) c:=q;omega
   ·show @LE.le Nat _ s2.heap.objs.size c;have z2:@LE.le Nat _ (C+1) c:=z;omega
  ·obtain⟨f0,f1,f2',f3,f4,f5⟩:=f2 b hb;obtain⟨o,ho,_⟩:=T.obj 0 _ st2 b hb;have hb2:@LT.lt Nat _ b s2.heap.objs.size:=VO ho;refine⟨?_,λx c e=>?_⟩
   ·show @Ne Nat b C;omega
   ·rcases csM _ (PySem.mem_of_lookup (show cs.lookup x=some c from e)) with z | ⟨z,_⟩
    ·exact f4 x c z
    ·have z2:@LE.le Nat _ (C+1) c:=z;show @Ne Nat c b;omega
  ·obtain⟨f0,f1,f2',f3,f4,f5⟩:=f2 b hb;rcases f3 with z | z
   ·exact I2.ok.noex b o e z
   ·exact absurd (Vg (VO e) (Vc I2.ok.bsz z)) (Wn _)
  ·obtain⟨f0,f1,f2',_⟩:=f2 b hb;rcases VW.mp (I2.stkSub b hf) with z | z
   ·exact f1 z
   ·exact f2' z
 have hDn:H2 s2.heap.objs.size=none:=I2.fresh;have hCn:H2 C=none:=I2.hok.fresh (show @LE.le Nat _ s2.heap.objs.size C by omega)
 have stkNe:∀ b,b≠X.env.locals->b∉X.fs->b∉frs X.stack:=λb h1 h2 hb=>by
  rcases VW.mp (I2.stkSub b hb) with z | z
  ·exact h1 z
  ·exact h2 z
 have I4:Inv (j9 X scope (own++cn) s2 H2 cs C fp) pq (BA own.length js σ) (upd H2 s2.heap.objs.size u0) {s2 with heap:=h4}:=by
  refine⟨hX,rfl,I2.bare,Un.laid old (VH _) hDn,⟨λ_=>none,hNs,λi x v e1 e2 e3=>?_⟩,λx c e=>?_,?_,λx c e=>?_,λp hp=>?_,I2.hok.laid old (VH _) (new0 _ _ hD4),?_⟩
  ·
   have hi:own.length<=i:=by
    rcases Wj i own.length with z | z
    ·exfalso;unfold BA at e2;rw[VP (by simpa using z),WK,iP z]at e2;cases e2
    ·exact z
   have e1':cn[i - own.length]?=some x:=by
    have:(own++cn)[i]?=some x:=e1;rw[Vq hi]at this;exact this
   have e2':(js.map λj=>(σ[j]?).join)[i - own.length]?=some (some v):=by
    unfold BA at e2;rw[Vq (by simpa using hi)]at e2;simpa using e2
   rw[VI]at e2';cases hj:js[i - own.length]? with
   | none=>rw[hj]at e2';cases e2'
   | some j=>
     rw[hj]at e2';have e2'':(σ[j]?).join=some v:=by simpa using e2'
     have hσ:σ[j]?=some (some v):=by
      cases q:σ[j]? with
      | none=>rw[q]at e2'';cases e2''
      | some z=>rw[q]at e2'';simp at e2'';rw[e2'']
     have hNx:X.N[j]?=some x:=by
      have:=congrArg (λl=>l[i - own.length]?) k7;simp only[VI,hj,e1',WV]at this;exact oj this
     have hfx:scope.names.lookup x=some .free:=k5 x (VC e1');have hK:=hfreeK (x,.free) (PySem.mem_of_lookup hfx) rfl;have hK':X.env.kindOf x=some .cell\/X.env.kindOf x=some .free:=hK;obtain⟨m,hn,hl⟩:=I2.loc
     have hvis:Vis X.env.scope x:=by
      rcases hK' with z | z
      ·exact .inr (.inl z)
      ·exact .inr (.inr z)
     obtain⟨u,r,l⟩:=hl j x v hNx hσ hvis;refine⟨u,r,.inr ?_⟩;rcases l with⟨l1,_⟩ | ⟨l1,c,l2,l3⟩
     ·rcases hK' with z | z
      ·rw[z]at l1;cases l1
      ·rw[z]at l1;cases l1
     ·have hrl:(A00 scope cs C X.env).kindOf x=some .cell\/(A00 scope cs C X.env).kindOf x=some .free:=by
       show(relabel scope X.env).names.lookup x=_\/(relabel scope X.env).names.lookup x=_;unfold relabel;dsimp only;rw[y6,hfx];simp only[WV];split
       ·exact .inl rfl
       ·exact .inr rfl
      refine⟨hrl,c,?_,l3.keeps λb o e=>old b o e⟩;show cs.lookup x=some c;obtain⟨c',hc'⟩:=hX.has x hrl;have hc2:cs.lookup x=some c':=hc';rw[hc2];have hm:=PySem.mem_of_lookup hc2
      have:X.env.cells.lookup x=some c':=by
       rcases csM _ hm with z | ⟨_,z,_⟩
       ·exact z
       ·have:=n9 k3 z;have h2:scope.names.lookup x=some .cell:=this;rw[hfx]at h2;cases h2
      rw[l2]at this;exact this.symm
  ·rcases csM _ (PySem.mem_of_lookup (show cs.lookup x=some c from e)) with z | ⟨_,_,z⟩
   ·obtain⟨v,q⟩:=I2.cell _ _ z;exact⟨v,q.keeps λb o e=>old b o e⟩
   ·exact⟨none,z⟩
  ·show upd H2 s2.heap.objs.size u0 C=none;rw[i7 (show @Ne Nat C s2.heap.objs.size by omega)];exact hCn
  ·have hne:c≠s2.heap.objs.size/\H2 c=none:=by
    rcases csM _ (PySem.mem_of_lookup (show cs.lookup x=some c from e)) with z | ⟨z,_,_⟩
    ·exact⟨VT (cellLt _ _ z),I2.freeC _ _ z⟩
    ·have z2:@LE.le Nat _ (C+1) c:=z;exact⟨show @Ne Nat c s2.heap.objs.size by omega,I2.hok.fresh (show @LE.le Nat _ s2.heap.objs.size c by omega)⟩
   rw[i7 hne.1];exact hne.2
  ·obtain⟨e,n,ne,nf,d⟩:=I2.pin p hp;have hlt:@LT.lt Nat _ p.1 s2.heap.objs.size:=VO e;refine⟨old _ _ e,?_,?_,stkNe _ ne nf,d⟩
   ·rw[i7 (VT hlt)];exact n
   ·show @Ne Nat p.1 C;omega
  ·show(BA own.length js σ).length=(own++cn).length;unfold BA;have hl:=congrArg XT k7;simp only[VA]at hl;simp[hl]
 have stat:∀{H':Hp},(∀ b∈fp,H' b=none)->∀ b∈fp,FpOk (j9 X scope (own++cn) s2 H2 cs C fp) pq H' b:=λhn b hb=>by
  obtain⟨f0,f1,f2',f3,f4,f5⟩:=f2 b hb;exact⟨hn b hb,(hX.exf b hb).1,stkNe b f1 f2',.inl hb,λx c e=>(hX.exf b hb).2 x c e,f5⟩
 have back:∀{σ':St} {H':Hp} {s':Yo},Inv (j9 X scope (own++cn) s2 H2 cs C fp) pq σ' H' s'->Inv X pq σ H' s':=λ{σ' H' s'} J'=>
  I2.call' (ch:=fp) J'.os J'.base J'.hok J'.bare λb hb=>by
   obtain⟨f0,f1,f2',f3,f4,f5⟩:=f2 b hb;exact⟨f3,f1,f4,f5⟩
 obtain⟨W,⟨m0,w0⟩,turn⟩:=hW
 have loop:codeAny (Yt X.prog X.w) X.A (.compLoop E 0 (.ref it) (.ref s2.heap.objs.size) (A00 scope cs C X.env)) (RR (.ref s2.heap.objs.size) C) {s2 with heap:=h4}:=by
  refine F.loop (λn s'=>∃ i ys H',Inv (j9 X scope (own++cn) s2 H2 cs C fp) pq (BA own.length js σ) H' s'/\tn i s'.heap/\(∀ b∈fp,H' b=none)/\W i n ys H') ?_ m0
   ⟨0,a0,_,I4,T.keep _ _ _ st2 λb hb o e=>old b o e,λb hb=>?_,w0⟩
  ·rintro n s3 ⟨i,ys,H3,I3,st3,fr3,w3⟩;rcases turn i n ys H3 w3 with⟨stop,q⟩ | ⟨go,N,hN,step⟩
   ·refine thn (T.done (j9 X scope (own++cn) s2 H2 cs C fp) rfl rfl rfl hc i pq s3 _ H3 _ I3 (stat fr3) st3 stop) λr s4 ⟨hr,I5⟩=>?_;subst hr;obtain⟨m,hn,_⟩:=I5.loc;exact hRR C H3 s4 (back I5) (I2.fpOk (show @LE.le Nat _ s2.heap.objs.size C by omega) I5.free) ⟨m,hn⟩ q
   ·refine thn (T.item (j9 X scope (own++cn) s2 H2 cs C fp) rfl rfl rfl hc i pq s3 _ H3 _ I3 (stat fr3) st3 go) λr s4 ⟨u,hr,h4'⟩=>?_;subst hr;refine thn h4' λ_ s5 ⟨x,H5,I5,r5,y5,st5,fr5⟩=>?_;have I5':=I5.pinned (stat fr5) (T.obj _ _ st5);refine thn (hg s2 H2 cs C fp _ s5 _ H5 x u _ I5' r5 (step x H5 y5)) λ_ s6 ⟨σ6,H6,I6,q6⟩=>?_;refine thn (ht s2 H2 cs C fp _ s6 σ6 H6 _ I6 q6) λb s7 ⟨H7,I7,q7⟩=>?_
    have again:∀{σ8:St} {H8:Hp} {s8:Yo} {ys8:α},Inv (j9 X scope (own++cn) s2 H2 cs C fp) (pq++Bw fp s5.heap) σ8 H8 s8->(∀(j:Nat) v,(BA own.length js σ)[j]?=some (some v)->σ8[j]?=some (some v))->(∃ m',m'<n/\W (i+1) m' ys8 H8)->
     ∃ m,m<n/\∃ i ys H',Inv (j9 X scope (own++cn) s2 H2 cs C fp) pq (BA own.length js σ) H' s8/\tn i s8.heap/\(∀ b∈fp,H' b=none)/\W i m ys H':=λ{σ8 H8 s8 ys8} I8 hw8 ⟨m',hm,w8⟩=>by
     refine⟨m',hm,i+1,ys8,H8,I8.unpinned.weak (by rw[I8.len,I4.len]) hw8,T.keep _ _ _ st5 λb hb o e=>(I8.pin (b,o) (Vt _ (Vt _ (Ay hb e)))).1,λb hb=>?_,w8⟩;obtain⟨o,e,d⟩:=T.obj _ _ st5 b hb;exact(I8.pin (b,o) (Vt _ (Vt _ (Ay hb e)))).2.1
    have capK:∀{σ8:St} {H8:Hp} {s8:Yo},Inv (j9 X scope (own++cn) s2 H2 cs C fp) (pq++Bw fp s5.heap) σ8 H8 s8->Inv (j9 X scope (own++cn) s2 H2 cs C fp) (pq++Bw fp s5.heap) (BA own.length js σ) H8 s8:=λ{σ8 H8 s8} I8=>by
     have IX:=back I8.unpinned;refine⟨I8.ok,I8.os,I8.bare,I8.base,?_,I8.cell,I8.free,I8.freeC,I8.pin,I8.hok,I4.len⟩;obtain⟨m,hn,_⟩:=I8.loc;refine⟨m,hn,λi x v e1 e2 e3=>?_⟩;obtain⟨mx,hnx,hlx⟩:=IX.loc
     have hi:own.length<=i:=by
      rcases Wj i own.length with z | z
      ·exfalso;unfold BA at e2;rw[VP (by simpa using z),WK,iP z]at e2;cases e2
      ·exact z
     have e1':cn[i - own.length]?=some x:=by
      have:(own++cn)[i]?=some x:=e1;rw[Vq hi]at this;exact this
     have e2':(js.map λj=>(σ[j]?).join)[i - own.length]?=some (some v):=by
      unfold BA at e2;rw[Vq (by simpa using hi)]at e2;simpa using e2
     rw[VI]at e2';cases hj:js[i - own.length]? with
     | none=>rw[hj]at e2';cases e2'
     | some j=>
       rw[hj]at e2';have e2'':(σ[j]?).join=some v:=by simpa using e2'
       have hσ:σ[j]?=some (some v):=by
        cases q:σ[j]? with
        | none=>rw[q]at e2'';cases e2''
        | some z=>rw[q]at e2'';simp at e2'';rw[e2'']
       have hNx:X.N[j]?=some x:=by
        have:=congrArg (λl=>l[i - own.length]?) k7;simp only[VI,hj,e1',WV]at this;exact oj this
       have hfx:scope.names.lookup x=some .free:=k5 x (VC e1');have hK':X.env.kindOf x=some .cell\/X.env.kindOf x=some .free:=hfreeK (x,.free) (PySem.mem_of_lookup hfx) rfl
       have hvis:Vis X.env.scope x:=by
        rcases hK' with z | z
        ·exact .inr (.inl z)
        ·exact .inr (.inr z)
       obtain⟨u,r,l⟩:=hlx j x v hNx hσ hvis;refine⟨u,r,.inr ?_⟩;rcases l with⟨l1,_⟩ | ⟨l1,c,l2,l3⟩
       ·rcases hK' with z | z
        ·rw[z]at l1;cases l1
        ·rw[z]at l1;cases l1
       ·have hrl:(A00 scope cs C X.env).kindOf x=some .cell\/(A00 scope cs C X.env).kindOf x=some .free:=by
         show(relabel scope X.env).names.lookup x=_\/(relabel scope X.env).names.lookup x=_;unfold relabel;dsimp only;rw[y6,hfx];simp only[WV];split
         ·exact .inl rfl
         ·exact .inr rfl
        refine⟨hrl,c,?_,l3⟩;show cs.lookup x=some c;obtain⟨c',hc'⟩:=hX.has x hrl;have hc2:cs.lookup x=some c':=hc';rw[hc2];have hm:=PySem.mem_of_lookup hc2
        have:X.env.cells.lookup x=some c':=by
         rcases csM _ hm with z | ⟨_,z,_⟩
         ·exact z
         ·have:=n9 k3 z;have h2:scope.names.lookup x=some .cell:=this;rw[hfx]at h2;cases h2
        rw[l2]at this;exact this.symm
    cases b with
    | false=>
      rw[iG VJ];rw[iG VJ]at q7;exact again (capK I7) (λ_ _ e=>e) (hN _ _ q7)
    | true=>
      rw[iP rfl];rw[iP rfl]at q7;exact thn (hem _ s2 H2 cs C fp _ s7 σ6 H7 _ _ I7 q7) λ_ s9 ⟨σ9,a9,H9,I9,q9⟩=>again (capK I9) (λ_ _ e=>e) (hN _ _ q9)
  ·obtain⟨f0,_⟩:=f2 b hb;obtain⟨o,ho,_⟩:=T.obj 0 _ st2 b hb;rw[i7 (VT (VO ho))];exact f0
 exact F.start loop (T.self _ 0 _ _ _ (T.keep _ _ _ st2 λb hb o e=>old b o e) loop)
theorem DD(hok:AA X.env.scope scope own cn X.N js=true)(hc:X.calm=true)
 (hg:∀ s2 H2 cs C fp,PG (j9 X scope (own++cn) s2 H2 cs C fp) tg g) (ht:∀ s2 H2 cs C fp,E4 (j9 X scope (own++cn) s2 H2 cs C fp) ifs tt) (he:∀ s2 H2 cs C fp,PE (j9 X scope (own++cn) s2 H2 cs C fp) elt te)
 (I2:Inv X pq σ H2 s2) {it:Yp} {fp:List Yp} {tn:Nat->Heap->Prop} {J:It} (T:Turn X.prog X.w X.K tg J fp it tn) (st2:tn 0 s2.heap) (f2:∀ b∈fp,FpOk X pq H2 b)
 {Qe:Hp->Prop} (hW:∃ W:Nat->Nat->List V->Hp->Prop,(∃ m,W 0 m [] (upd H2 s2.heap.objs.size (.lst [])))/\QW J g tt te s2.heap.objs.size (BA own.length js σ) (λ_ H=>Qe H) W)
 {RR:Yn->Yp->Result->Yo->Prop}
 (hRR:∀ C H' s',Inv X pq σ H' s'->FpOk X pq H' C->(∃ m,s'.heap.Ns C m)->Qe H'->RR (.ref s2.heap.objs.size) C (.ok .next) s'):
 Ys (Yt X.prog X.w) X.A (newList []) (λacc s₃=>Ys (Yt X.prog X.w) X.A (Zr scope X.env.globals (y4 X.env scope.names []) [] X.env.qual none .none (some X.env)) (λcenv s₄=>
  codeAny (Yt X.prog X.w) X.A (.compStart (.ListComp elt [⟨tg,iter,ifs,0⟩] scope pos) 0 (.ref it) acc {cenv with scope:=relabel scope X.env}) (RR acc cenv.locals) s₄) X.xe s₃) X.xe s2:=by
 obtain⟨W,w0,hw⟩:=hW;refine Fn (RR:=RR) (a0:=[]) (o0:={cls := .type "list",dict:=none,data := .seq ([]:List Yn).toArray}) (u0 := .lst []) (tem:=Ur te) Hm (λhq=>Yz hq) rfl (λ_ _ hD=>⟨W8 _,[],0,.nil,hD⟩) hok hc hg ht (λD s2 H2 cs C fp pq s σ H ys N I h=>?_) I2 T st2 f2 ⟨W,w0,hw⟩ hRR;refine Ym (thn (he s2 H2 cs C fp _ s σ H _ I h) λy s8 ⟨v,H8,I8,r8,hD8,hz8,q8⟩=>?_);refine Ym (thn (CS (X:=j9 X scope (own++cn) s2 H2 cs C fp) _ s8 σ H8 (.ref D) [v] (.ref D) [y] (λ_ H9=>H9=upd H8 D (.lst (ys++[v]))) I8 rfl (.cons r8 .nil) ⟨_,ys,v,rfl,rfl,hD8,hz8,rfl⟩) λ_ s9 ⟨z,H9,I9,r9,e9⟩=>?_);subst e9;exact Yq ⟨_,_,_,I9,q8⟩
theorem Ob{wi:TI}(own cn:List Str)(js:List Nat)(hi:PI X tg iter wi)(hg:∀ s2 H2 cs C fp,PG (j9 X scope (own++cn) s2 H2 cs C fp) tg g)(ht:∀ s2 H2 cs C fp,E4 (j9 X scope (own++cn) s2 H2 cs C fp) ifs tt)
 (he:∀ s2 H2 cs C fp,PE (j9 X scope (own++cn) s2 H2 cs C fp) elt te) (hc:X.calm=true:=by rfl) (hok:AA X.env.scope scope own cn X.N js=true:=by kernel_rfl)
 (hs:∀ x,Ze iter X.env x=pure x:=by intro _;rfl):PE X (.ListComp elt [⟨tg,iter,ifs,0⟩] scope pos) (M7 wi g tt te own.length js):=by
 intro pq s σ H Q I h;have hok':=hok;unfold AA at hok';simp only[V9,dQ,Ve,Vx,Vi,decide_eq_false_iff_not]at hok';obtain⟨⟨⟨⟨⟨⟨k1,k2⟩,k3⟩,k4⟩,k5⟩,k6⟩,k7⟩:=hok'
 have hfree:∀ x∈scope.names,x.2 = .free->∃ c,X.env.cells.lookup x.1=some c:=λx hx hf=>I.ok.has x.1 (by
  rcases k2 x hx with(z | z) | z
  ·exact absurd hf z
  ·exact .inl z
  ·exact .inr z)
 rw[eval_ListComp];refine Zw (use:=none) rfl hs (Ao hfree) k1 (λx hx hl=>?_) (thn (hi pq s σ H _ I h) λv s1 h1=>thn h1 λitv s2 h2=>?_)
 ·have:=n9 k3 (show(x.1,x.2)∈scope.names from hx);rw[this,hl]
 ·obtain⟨it,fp,tn,J,H2,e,I2,T,st2,f2,q⟩:=h2;subst e;refine DD (RR:=λacc C=>compPost (Yt X.prog X.w) X.A X.xe none (EP X pq σ Q) acc C) hok hc hg ht he I2 T st2 f2 (q _ I2.fresh) ?_;intro C H' s' I' fC ⟨m,hn⟩ q';obtain⟨f0,f1,f2',f3,f4,f5⟩:=fC;refine⟨m,hn,λh' hs'=>⟨.ref s2.heap.objs.size,H',?_,rfl,q'⟩⟩;exact I'.turned (t':=s'.toks) (λb o hb e=>(hs'.2 b hb).trans e) f0 f1 f3 f4 f5
theorem Hn{wi:TI}{i:Nat}{x:Str}{px spos:Pos}(own cn:List Str)(js:List Nat)(hN:X.N.Nodup)(hix:X.N[i]?=some x)(hx:X.env.scope.names.lookup x=some .local)(hi:PI X tg iter wi)
 (hg:∀ s2 H2 cs C fp,PG (j9 X scope (own++cn) s2 H2 cs C fp) tg g) (ht:∀ s2 H2 cs C fp,E4 (j9 X scope (own++cn) s2 H2 cs C fp) ifs tt)
 (he:∀ s2 H2 cs C fp,PE (j9 X scope (own++cn) s2 H2 cs C fp) elt te) (hc:X.calm=true:=by rfl) (hok:AA X.env.scope scope own cn X.N js=true:=by kernel_rfl)
 (hsw:ZN (.ListComp elt [⟨tg,iter,ifs,0⟩] scope pos) (some (.Name x px)) spos.line X.env=pure true:=by rfl)
 (hs:∀ x,Ze iter X.env x=pure x:=by intro _;rfl):PS X (.Assign [.Name x px] (.ListComp elt [⟨tg,iter,ifs,0⟩] scope pos) spos) (HX (M7 wi g tt te own.length js) (Ip i)):=by
 intro pq s σ H D I h;have hok':=hok;unfold AA at hok';simp only[V9,dQ,Ve,Vx,Vi,decide_eq_false_iff_not]at hok';obtain⟨⟨⟨⟨⟨⟨k1,k2⟩,k3⟩,k4⟩,k5⟩,k6⟩,k7⟩:=hok'
 have hfree:∀ x∈scope.names,x.2 = .free->∃ c,X.env.cells.lookup x.1=some c:=λx hx hf=>I.ok.has x.1 (by
  rcases k2 x hx with(z | z) | z
  ·exact absurd hf z
  ·exact .inl z
  ·exact .inr z)
 rw[exec_Assign_Name_used _ _ _ _ hsw];refine Ym (Zk (Ym ?_));show Ys _ X.A (do let _ <- comprehension (.ListComp elt [⟨tg,iter,ifs,0⟩] scope pos) scope X.env _ (newList []) false (eval iter X.env) (some (assign (.Name x px) X.env))) _ _ s
 refine Ym (ZE (Zw (use:=some (assign (.Name x px) X.env)) (Q:=λ_ s'=>SP X pq D .next s') rfl hs (Ao hfree) k1 (λx hx hl=>?_)
  (thn (hi pq s σ H _ I h) λv s1 h1=>thn h1 λitv s2 h2=>?_)) (λ_ s' hq=>Yq (Yq hq)) λ_ _ e=>e)
 ·have:=n9 k3 (show(x.1,x.2)∈scope.names from hx);rw[this,hl]
 ·obtain⟨it,fp,tn,J,H2,e,I2,T,st2,f2,q⟩:=h2;subst e;refine DD (RR:=λacc C=>compPost (Yt X.prog X.w) X.A X.xe (some (assign (.Name x px) X.env)) (λ_ s'=>SP X pq D .next s') acc C) hok hc hg ht he I2 T st2 f2 (q _ I2.fresh) ?_;intro C H' s' I' fC ⟨m,hn⟩ q';obtain⟨f0,f1,f2',f3,f4,f5⟩:=fC;show Ys _ X.A (assign (.Name x px) X.env (.ref s2.heap.objs.size)) _ _ _;refine A0j (EH I' hN hix (.inl hx) (v := .ref s2.heap.objs.size) rfl (λs3 I3 hch=>?_) (.inr hx));obtain⟨a,hsb,ha⟩:=hch
  have hCa:C≠a:=by
   rcases ha with z | z
   ·rw[z];exact f1
   ·exact λe=>f4 x a z e.symm
  refine⟨m,hn.sameBut hsb hCa,λh' hs'=>?_⟩;exact⟨_,H',I3.turned (t':=s3.toks) (λb o hb e=>(hs'.2 b hb).trans e) f0 f1 f3 f4 f5,q'⟩
end
end L2
namespace PySem
open AutoSeq1 (wpAny_loadPart')
section
variable{prog:Yu}{w:Yw}{A:Z0}{E:Yn->Yo->Prop}{s:Yo}
theorem BB{it l:Yp}{i:Nat}{items}{x:Yn}{Q:Yn->Yo->Prop}(hit:s.heap.IsTupleIter it l i)
 (hl:s.heap.IsTuple l items) (hx:items[i]?=some x)
 (hQ:∀ h',h'.IsTupleIter it l (i+1)->W7 it s.heap h'->Q x {s with heap:=h'}):
 Ys (Yt prog w) A (Builtin.SmallTypes.nextOf (.ref it)) Q E s:=by
 obtain⟨o,ho,hc,hd⟩:=id hit;obtain⟨ol,hol,_,nl,hdl⟩:=hl;unfold Builtin.SmallTypes.nextOf
 refine Ym (Z5 (name:=Str.ofString "__next__") hit.typeIs F.slot_tuple_iterator_next
  (ZH F.slot_tuple_iterator_next hit.typeIs F.entry_tuple_iterator_next ?_ (F.args_tuple_iterator_next_1 _)))
 show Ys _ _ (field (.ref it) 0 >>= _) _ _ s;refine Ym (ZY ho hd (x := .ref l) rfl ?_);show Ys _ _ (if (Value.ref l == Value.none)=true then _ else _) _ _ s;rw[iG (show ¬ ((Value.ref l == Value.none)=true) from VJ)];show Ys _ _ (field (.ref it) 1 >>= _) _ _ s;refine Ym (ZY ho hd (x := .int i 0) rfl ?_);show Ys _ _ (Zj (.ref l) >>= _) _ _ s;refine Ym (ZI hol hdl ?_);simp only[WZ,hx];refine Ym (Zs ho hd (by simp) (Yq ⟨x,rfl,Yq (hQ _ ?_ (W7.update ..))⟩))
 exact⟨_,W3 _ ho (Obj.isFreed_of_fields (Obj.data_mapFields hd _)),(Obj.cls_mapFields ..).trans hc,by
  rw[Obj.data_mapFields hd];simp[rawInt]⟩
theorem BJ{it l:Yp}{i:Nat}{items}{Q:Yn->Yo->Prop}(hh:A.handled=none)
 (hit:s.heap.IsTupleIter it l i) (hl:s.heap.IsTuple l items) (hx:items[i]?=none)
 (hE:∀ h' e,Yk it s.heap h'->(∃ o,h'.get? e=some o/\o.cls = .type "StopIteration")->E (.ref e) {s with heap:=h'}):
 Ys (Yt prog w) A (Builtin.SmallTypes.nextOf (.ref it)) Q E s:=by
 obtain⟨o,ho,hc,hd⟩:=id hit;obtain⟨ol,hol,_,nl,hdl⟩:=hl;unfold Builtin.SmallTypes.nextOf
 refine Ym (Z5 (name:=Str.ofString "__next__") hit.typeIs F.slot_tuple_iterator_next
  (ZH F.slot_tuple_iterator_next hit.typeIs F.entry_tuple_iterator_next ?_ (F.args_tuple_iterator_next_1 _)))
 show Ys _ _ (field (.ref it) 0 >>= _) _ _ s;refine Ym (ZY ho hd (x := .ref l) rfl ?_);show Ys _ _ (if (Value.ref l == Value.none)=true then _ else _) _ _ s;rw[iG (show ¬ ((Value.ref l == Value.none)=true) from VJ)];show Ys _ _ (field (.ref it) 1 >>= _) _ _ s;refine Ym (ZY ho hd (x := .int i 0) rfl ?_);show Ys _ _ (Zj (.ref l) >>= _) _ _ s;refine Ym (ZI hol hdl ?_);simp only[WZ,hx];refine Ym (Zi (Ym (Zs ho hd (by simp) ?_)))
 first
  | refine Ym (ZP ?_)
  | skip
 show Ys _ _ (newExc (.type "StopIteration") [] >>= _) _ _ _;refine Ym ?_;simp only[newExc,newTuple];refine Ym (Yz ?_ (by size_fits));refine Ym (m:=Zt _ _) (A0a (a:=Value.none) (by first | rfl | (simp only[Zt];rfl)) ?_);refine Yz ?_ (by size_fits);simp only[raiseNew];refine Ym (wpAny_handled ?_)
 first | rw[show A.in1.handled=none from hh] | rw[hh]
 refine Ym (Yq (wpAny_throw ?_));exact hE _ _ (((W7.update ..).extBut.push _).push _) ⟨_,VV _ rfl,rfl⟩
end
theorem B9{prog:Yu}{w:Yw}{A:Z0}(hh:A.handled=none)(it l:Yp)(hne:l≠it)(items:Array Yn):
 Draws prog w A it [it,l] items.size (λi v=>items[i]?=some v) (λi h=>h.IsTupleIter it l i/\h.IsTuple l items) where
 live:=λ_ _ st=>let ⟨o,ho,_⟩:=st.1;⟨o,ho⟩
 frame:=λ_ _ _ st hk=>⟨st.1.at λo e=>hk it (by simp) o e,let ⟨o,ho,r⟩:=st.2;⟨o,hk l (by simp) o ho,r⟩⟩
 item:=λi s Q E hi st hQ=>by
  refine BB st.1 st.2 (x:=items[i]) (by simp[hi]) λh' hit' hs'=>?_;exact hQ _ h' s.toks (by simp[hi]) ⟨hit',st.2.extBut hs'.extBut hne⟩ hs'
 done:=λs Q E st hE=>BJ hh st.1 st.2 (by simp) hE
theorem By(l:Yp)(items:Array Yn)(n:Nat)(dct:Option Yp)(sl:Array (Option Yn)):
 Meets (Builtin.«enumerate.__new__» ⟨[.type "enumerate",.ref l],[]⟩) (λ_ R s=>s.heap.get? l=some {cls := .type "tuple",dict:=dct,data := .seq items n,slots:=sl}/\
  R (.ok (.ret (.ref (s.heap.push {cls := .type "tuple_iterator",data := .fields #[.ref l,.int 0 0]}).objs.size)))
   {s with heap:=(s.heap.push {cls := .type "tuple_iterator",data := .fields #[.ref l,.int 0 0]}).push {cls := .type "enumerate",data := .fields #[.none,.bool false,.ref s.heap.objs.size,rawInt 0,.none,.none]}}):=
 .of_wp λprog w A R s h=>by
  obtain⟨hp,g,d,tk,os⟩:=s;obtain⟨hl,h⟩:=h;have hsub:=sub_enumerate;have hL:Heap.IsTuple (Shared.heap ⟨hp,g,d,tk,os⟩) l items:=⟨_,hl,rfl,n,rfl⟩
  wp_walk using wpAny_loadPart' hl
  refine wpAny_stack_any λst=>Yq ?_;split
  ·rename_i c _ _ _ _ _;cases(c == Value.type "enumerate")
   ·wp_walk using wpAny_loadPart' hl,ZR hL
    exact⟨_,rfl,h⟩
   ·wp_walk using wpAny_loadPart' hl,ZR hL
    exact⟨_,rfl,h⟩
  ·wp_walk using wpAny_loadPart' hl,ZR hL
   exact⟨_,rfl,h⟩
section
variable{prog:Yu}{w:Yw}{A:Z0}{E:Yn->Yo->Prop}{s:Yo}
theorem Ai{l:Yp}{items:Array Yn}{Q:Yn->Yo->Prop}(hL:s.heap.IsTuple l items)
 (h:∀ h',IsEnum h' (s.heap.objs.size+1) s.heap.objs.size 0 .none->h'.IsTupleIter s.heap.objs.size l 0->h'.objs.size=s.heap.objs.size+2->
   (∀ b o,s.heap.get? b=some o->h'.get? b=some o)->Q (.ref (s.heap.objs.size+1)) {s with heap:=h'}):
 Ys (Yt prog w) A (call (.type "enumerate") [.ref l]) Q E s:=by
 obtain⟨⟨c,dct,dt,sl⟩,hl,hc,n,hd⟩:=hL;replace hc:c = .type "tuple":=hc;replace hd:dt = .seq items n:=hd;subst hc hd
 refine callType_new F.called_enumerate (by decide) (F.typeCall_enumerate_1 _) (F.newCall_enumerate_1 _) (λobj=>F.args_object_init_2 obj _) F.entry_enumerate_new
  (By l items n dct sl) ⟨hl,?_⟩
 have hz:(s.heap.push {cls := .type "tuple_iterator",data := .fields #[.ref l,.int 0 0]}).objs.size=s.heap.objs.size+1:=WD ..;show _/\_;rw[hz]
 have he:IsEnum ((s.heap.push {cls := .type "tuple_iterator",data := .fields #[.ref l,.int 0 0]}).push
  {cls := .type "enumerate",data := .fields #[.none,.bool false,.ref s.heap.objs.size,rawInt 0,.none,.none]}) (s.heap.objs.size+1) s.heap.objs.size 0 .none:=by
  have:=VV (s.heap.push {cls := .type "tuple_iterator",data := .fields #[.ref l,.int 0 0]})
   (o:={cls := .type "enumerate",data := .fields #[.none,.bool false,.ref s.heap.objs.size,rawInt 0,.none,.none]}) rfl
  rw[hz]at this;exact this
 refine⟨⟨_,he,rfl⟩,h _ he ⟨_,VG _ (VV _ rfl),rfl,rfl⟩ (by rw[WD,hz]) λb o x=>VG _ (VG _ x)⟩
end
end PySem
namespace L2
open PySem PySem.Spec PyProof.Rows
section
variable{X:Cx}{pq:List (Yp×Obj)}{σ:St}{H:Hp}{s:Yo}{h':Heap}
theorem Inv.turnedL{t':Nat}{ch:List Yp}(I:Inv X pq σ H s)(k:∀ b o,b∉ch->s.heap.get? b=some o->h'.get? b=some o)(hf:∀ b∈ch,FpOk X pq H b):Inv X pq σ H {s with heap:=h',toks:=t'}:=by
 have nit:∀ b u,H b=some u->b∉ch:=λb u e z=>by rw[(hf b z).1]at e;cases e
 refine I.step (g':=s.gens) (d':=s.drawn) (ch:=ch) (λb hb=>?_) (λb o _ _ hc e _=>k b o hc e) (λb o _ _ hc e _=>⟨o.slots,k b o hc e⟩) (λ_ _ _ _ n=>n)
  (λb o hc e=>⟨o,k b o hc e⟩) (λ_ _ e=>e) (λ_ _ _ e=>e) (λb ps e=>⟨#[],by rw[e];simp⟩) (λm hm=>?_) (λb u e=>?_) I.bare
 ·obtain⟨f0,f1,f2,f3,f4,f5⟩:=hf b hb;exact⟨f3,f1,f4,f5⟩
 ·obtain⟨o,es,ep,ho,r⟩:=hm;exact⟨o,es,ep,k _ o (λz=>(hf _ z).2.1 rfl) ho,r⟩
 ·refine(I.hok b u e).stay (λc v hc q=>k c v ?_ q) (λ_ q=>q) λ_ _ q=>q;rcases hc with z | z
  ·rw[z];exact nit b u e
  ·exact nit c _ z
theorem Inv.turnLay{t':Nat}{ch:List Yp}{o:HO}(I:Inv X pq σ H s)(k:∀ b u,b∉ch->s.heap.get? b=some u->h'.get? b=some u)(hf:∀ b∈ch,FpOk X pq H b)
 (new:ObjOk X.prog X.w (upd H s.heap.objs.size o) h' s.heap.objs.size o):Inv X pq σ (upd H s.heap.objs.size o) {s with heap:=h',toks:=t'}:=by
 have hT:H s.heap.objs.size=none:=I.fresh;have nit:∀ b u,H b=some u->b∉ch:=λb u e z=>by rw[(hf b z).1]at e;cases e
 have lt:∀ b u,s.heap.get? b=some u->b≠s.heap.objs.size:=λb u e=>VT (VO e)
 refine I.step (g':=s.gens) (d':=s.drawn) (ch:=ch) (λb hb=>?_) (λb o _ _ hc e _=>k b o hc e) (λb o _ _ hc e _=>⟨o.slots,k b o hc e⟩) (λb u _ e n=>by rw[i7 (lt b u e)];exact n)
  (λb o hc e=>⟨o,k b o hc e⟩) (λb xs e=>by rw[i7 (j5 e hT)];exact e) (λb u xs e=>by rw[i7 (j5 e hT)];exact e) (λb ps e=>⟨#[],by rw[i7 (j5 e hT),e];simp⟩) (λm hm=>?_) (λb u e=>?_) I.bare
 ·obtain⟨f0,f1,f2,f3,f4,f5⟩:=hf b hb;exact⟨f3,f1,f4,f5⟩
 ·obtain⟨o,es,ep,ho,r⟩:=hm;exact⟨o,es,ep,k _ o (λz=>(hf _ z).2.1 rfl) ho,r⟩
 ·by_cases hb:b=s.heap.objs.size
  ·subst hb;rw[m9]at e;cases e;exact new
  ·rw[i7 hb]at e;refine(I.hok b u e).stay (λc v hc q=>k c v ?_ q) (λc q=>by rw[i7 (j5 q hT)];exact q) λc xs q=>by rw[i7 (j5 q hT)];exact q
   rcases hc with z | z
   ·rw[z];exact nit b u e
   ·exact nit c _ z
end
def Rk(K:V8)(a:Yp):It:=
 ⟨λi H=>∃ xs x,SqL K H a xs/\xs[i]?=some x,λi H x H'=>∃ p v,H p=none/\x = .ref p/\(∀ xs,SqL K H a xs->xs[i]?=some v)/\H'=upd H p (.tup [.int i,v]),λi H=>∃ xs,SqL K H a xs/\xs.length=i⟩
def Rm(K:V8)(a:Yp):It:=
 ⟨λi H=>∃ xs x,SqT K H a xs/\xs[i]?=some x,λi H x H'=>∃ p v,H p=none/\x = .ref p/\(∀ xs,SqT K H a xs->xs[i]?=some v)/\H'=upd H p (.tup [.int i,v]),λi H=>∃ xs,SqT K H a xs/\xs.length=i⟩
theorem M8:2<=Yr:=by decide
theorem Ho{P:Yu}{w:Yw}{K:V8}{elts:List Expr}{kx:Nat}{tp:Pos}(a e it:Yp)(hei:e≠it)(hae:a≠e)(hai:a≠it):Turn P w K (.Tuple elts kx tp) (Rk K a) [e,it] e (λi h=>(∃ old,IsEnum h e it i old)/\h.IsListIter it a i) where
 mem:=by simp
 obj:=λi h st b hb=>by
  rcases VW.mp hb with rfl | hb
  ·obtain⟨⟨old,z⟩,_⟩:=st;exact⟨_,z,λv q=>by cases q⟩
  ·have e':b=it:=by simpa using hb
   subst e';obtain⟨o,q,c,d⟩:=st.2;exact⟨o,q,λv z=>by rw[d]at z;cases z⟩
 keep:=λi h h' st k=>⟨let ⟨old,z⟩:=st.1;⟨old,k e (by simp) _ z⟩,st.2.at λo q=>k it (by simp) o q⟩
 item:=by
  intro X hP hw hK hc i pq s σ H E I hf st hg;subst hP hw hK;obtain⟨xs,x,hq,hx⟩:=hg;obtain⟨its,rv,p,hz⟩:=I.list hq;obtain⟨u,hu,ru⟩:=rv.get hx;obtain⟨⟨old,he⟩,hli⟩:=st
  have hil:i<its.toArray.size:=by
   have:=(gM hu).1;simpa using this
  refine A01 (Draws.list (prog:=X.prog) (w:=X.w) (A:=X.A.in1) (show X.A.in1.handled=none from I.ok.hd hc) it a hai its.toArray) he ⟨hli,p.isList⟩ hil hei (by simp[hei,Ne.symm hae]) λy h' tk hy ho hs' hT hsz hk=>?_
  have hyu:y=u:=by
   have:its.toArray[i]?=some u:=by simpa using hu
   rw[this]at hy;exact(oj hy).symm
  subst hyu;refine⟨_,rfl,?_⟩
  have I1:Inv X pq σ (upd H s.heap.objs.size (.tup [.int i,x])) {s with heap:=h',toks:=tk+1}:=
   I.turnLay (ch:=[e,it]) (λb o hb q=>hk b o (λz=>hb (by simp[z])) (λz=>hb (by simp[z])) q) hf ⟨M8,[.int i tk,y],.cons ⟨tk,rfl⟩ (.cons ru .nil),⟨_,hT,rfl,_,rfl⟩⟩
  refine Zu ho λh2 he2 hs2=>?_
  have hfp1:∀ b∈[e,it],FpOk X pq (upd H s.heap.objs.size (.tup [.int i,x])) b:=λb hb=>by
   obtain⟨f0,f1⟩:=hf b hb
   have hbl:b≠s.heap.objs.size:=by
    rcases VW.mp hb with rfl | hb
    ·exact VT (VO he)
    ·have e':b=it:=by simpa using hb
     subst e';obtain⟨o,q,_⟩:=hli;exact VT (VO q)
   exact⟨by rw[i7 hbl];exact f0,f1⟩
  have I2:Inv X pq σ (upd H s.heap.objs.size (.tup [.int i,x])) {s with heap:=h2,toks:=tk+1}:=
   Inv.turnedL (s:={s with heap:=h',toks:=tk+1}) (t':=tk+1) (ch:=[e,it]) I1 (λb o hb q=>(hs2.2 b (λz=>hb (by simp[z]))).trans q) hfp1
  refine⟨.ref s.heap.objs.size,_,I2,rfl,⟨_,x,I.fresh,rfl,λys hy=>by rw[I.list_inj hy hq];exact hx,rfl⟩,⟨⟨y,by simpa using he2⟩,hs'.1.extBut hs2.extBut (Ne.symm hei)⟩,λb hb=>(hfp1 b hb).1⟩
 done:=by
   intro X hP hw hK hc i pq s σ H E I hf st hg;subst hP hw hK;obtain⟨xs,hq,hx⟩:=hg;obtain⟨its,rv,p,hz⟩:=I.list hq;obtain⟨⟨old,he⟩,hli⟩:=st;have hl:=rv.length;have hn:its.toArray.size=i:=by simp;omega
   refine A05 (Draws.list (prog:=X.prog) (w:=X.w) (A:=X.A.in1) (show X.A.in1.handled=none from I.ok.hd hc) it a hai its.toArray) he (by rw[hn];exact⟨hli,p.isList⟩) λh' eb=>⟨rfl,I.turnedL (t':=s.toks) (ch:=[e,it]) (λb o hb q=>eb b o (λz=>hb (by simp[z])) q) hf⟩
 self:=λ_ _ _ _ _ st h=>let ⟨old,z⟩:=st.1;Zf z h
theorem Hq{P:Yu}{w:Yw}{K:V8}{elts:List Expr}{kx:Nat}{tp:Pos}(a e it:Yp)(hei:e≠it)(hae:a≠e)(hai:a≠it):Turn P w K (.Tuple elts kx tp) (Rm K a) [e,it] e (λi h=>(∃ old,IsEnum h e it i old)/\h.IsTupleIter it a i) where
 mem:=by simp
 obj:=λi h st b hb=>by
  rcases VW.mp hb with rfl | hb
  ·obtain⟨⟨old,z⟩,_⟩:=st;exact⟨_,z,λv q=>by cases q⟩
  ·have e':b=it:=by simpa using hb
   subst e';obtain⟨o,q,c,d⟩:=st.2;exact⟨o,q,λv z=>by rw[d]at z;cases z⟩
 keep:=λi h h' st k=>⟨let ⟨old,z⟩:=st.1;⟨old,k e (by simp) _ z⟩,st.2.at λo q=>k it (by simp) o q⟩
 item:=by
  intro X hP hw hK hc i pq s σ H E I hf st hg;subst hP hw hK;obtain⟨xs,x,hq,hx⟩:=hg;obtain⟨its,rv,p,hz⟩:=I.tuple hq;obtain⟨u,hu,ru⟩:=rv.get hx;obtain⟨⟨old,he⟩,hli⟩:=st
  have hil:i<its.toArray.size:=by
   have:=(gM hu).1;simpa using this
  refine A01 (B9 (prog:=X.prog) (w:=X.w) (A:=X.A.in1) (show X.A.in1.handled=none from I.ok.hd hc) it a hai its.toArray) he ⟨hli,p⟩ hil hei (by simp[hei,Ne.symm hae]) λy h' tk hy ho hs' hT hsz hk=>?_
  have hyu:y=u:=by
   have:its.toArray[i]?=some u:=by simpa using hu
   rw[this]at hy;exact(oj hy).symm
  subst hyu;refine⟨_,rfl,?_⟩
  have I1:Inv X pq σ (upd H s.heap.objs.size (.tup [.int i,x])) {s with heap:=h',toks:=tk+1}:=
   I.turnLay (ch:=[e,it]) (λb o hb q=>hk b o (λz=>hb (by simp[z])) (λz=>hb (by simp[z])) q) hf ⟨M8,[.int i tk,y],.cons ⟨tk,rfl⟩ (.cons ru .nil),⟨_,hT,rfl,_,rfl⟩⟩
  refine Zu ho λh2 he2 hs2=>?_
  have hfp1:∀ b∈[e,it],FpOk X pq (upd H s.heap.objs.size (.tup [.int i,x])) b:=λb hb=>by
   obtain⟨f0,f1⟩:=hf b hb
   have hbl:b≠s.heap.objs.size:=by
    rcases VW.mp hb with rfl | hb
    ·exact VT (VO he)
    ·have e':b=it:=by simpa using hb
     subst e';obtain⟨o,q,_⟩:=hli;exact VT (VO q)
   exact⟨by rw[i7 hbl];exact f0,f1⟩
  have I2:Inv X pq σ (upd H s.heap.objs.size (.tup [.int i,x])) {s with heap:=h2,toks:=tk+1}:=
   Inv.turnedL (s:={s with heap:=h',toks:=tk+1}) (t':=tk+1) (ch:=[e,it]) I1 (λb o hb q=>(hs2.2 b (λz=>hb (by simp[z]))).trans q) hfp1
  refine⟨.ref s.heap.objs.size,_,I2,rfl,⟨_,x,I.fresh,rfl,λys hy=>by rw[I.tuple_inj hy hq];exact hx,rfl⟩,⟨⟨y,by simpa using he2⟩,hs'.1.extBut hs2.extBut (Ne.symm hei)⟩,λb hb=>(hfp1 b hb).1⟩
 done:=by
   intro X hP hw hK hc i pq s σ H E I hf st hg;subst hP hw hK;obtain⟨xs,hq,hx⟩:=hg;obtain⟨its,rv,p,hz⟩:=I.tuple hq;obtain⟨⟨old,he⟩,hli⟩:=st;have hl:=rv.length;have hn:its.toArray.size=i:=by simp;omega
   refine A05 (B9 (prog:=X.prog) (w:=X.w) (A:=X.A.in1) (show X.A.in1.handled=none from I.ok.hd hc) it a hai its.toArray) he (by rw[hn];exact⟨hli,p⟩) λh' eb=>⟨rfl,I.turnedL (t':=s.toks) (ch:=[e,it]) (λb o hb q=>eb b o (λz=>hb (by simp[z])) q) hf⟩
 self:=λ_ _ _ _ _ st h=>let ⟨old,z⟩:=st.1;Zf z h
section
variable{X:Cx}
def Tw(K:V8)(ta:TA):TI:=λσ H R=>ta σ H λvs H1=>∃ a,vs=[.ref a]/\(((∃ xs,SqL K H1 a xs)/\R (Rk K a) H1)\/((∃ xs,SqT K H1 a xs)/\R (Rm K a) H1))
theorem DE:Yx "enumerate"=some (.type "enumerate"):=by decide +kernel
theorem Oc{a:Expr}{ta:TA}{p pos:Pos}{elts:List Expr}{kx:Nat}{tp:Pos}(hg:Gl X "enumerate")(hm:X.mg "enumerate"=none)(ha:PA X [a] ta)(hs:Yy [a] X.env=[(false,eval a X.env)]:=by rfl):
 PI X (.Tuple elts kx tp) (.Call (.Name "enumerate" p) [a] [] pos) (Tw X.K ta):=by
 intro pq s σ H R I h;refine Call_ (BE I hg hm DE (PyProof.Rows.callWith_type1 (thn (ha pos pq s σ H _ I h) λus s1 ⟨vs,H1,I1,r1,q1⟩=>?_) hs rfl));obtain⟨l,e,q1⟩:=q1;subst e;cases r1 with
 | cons r rr=>
   cases rr;cases r;rcases q1 with⟨⟨xs,hq⟩,q⟩ | ⟨⟨xs,hq⟩,q⟩
   ·obtain⟨its,rv,pl,hz⟩:=I1.list hq;have hlt:@LT.lt Nat _ l s1.heap.objs.size:=by obtain⟨o,n,e,_⟩:=pl;exact VO e
    refine call_enumerate_list pl.isList λh' he hli hsz hk=>?_;refine Zf he ?_;have I2:Inv X pq σ H1 {s1 with heap:=h'}:=I1.kept (t':=s1.toks) hk;refine⟨s1.heap.objs.size+1,[s1.heap.objs.size+1,s1.heap.objs.size],_,_,H1,rfl,I2,Ho l _ s1.heap.objs.size (show @Ne Nat _ _ by omega) (show @Ne Nat _ _ by omega) (show @Ne Nat _ _ by omega),⟨⟨_,he⟩,hli⟩,λb hb=>?_,q⟩
    have hb2:@LE.le Nat _ s1.heap.objs.size b:=by
     rcases VW.mp hb with rfl | hb
     ·exact Xu _
     ·have e:b=s1.heap.objs.size:=by simpa using hb
      rw[e];exact VH _
    exact I1.fpOk hb2 (I1.hok.fresh hb2)
   ·obtain⟨its,rv,pl,hz⟩:=I1.tuple hq;have hlt:@LT.lt Nat _ l s1.heap.objs.size:=by obtain⟨o,e,_⟩:=pl;exact VO e
    refine Ai (show s1.heap.IsTuple l its.toArray from pl) λh' he hli hsz hk=>?_;refine Zf he ?_;have I2:Inv X pq σ H1 {s1 with heap:=h'}:=I1.kept (t':=s1.toks) hk;refine⟨s1.heap.objs.size+1,[s1.heap.objs.size+1,s1.heap.objs.size],_,_,H1,rfl,I2,Hq l _ s1.heap.objs.size (show @Ne Nat _ _ by omega) (show @Ne Nat _ _ by omega) (show @Ne Nat _ _ by omega),⟨⟨_,he⟩,hli⟩,λb hb=>?_,q⟩
    have hb2:@LE.le Nat _ s1.heap.objs.size b:=by
     rcases VW.mp hb with rfl | hb
     ·exact Xu _
     ·have e:b=s1.heap.objs.size:=by simpa using hb
      rw[e];exact VH _
    exact I1.fpOk hb2 (I1.hok.fresh hb2)
end
theorem KP(its:List Yn)(k:Nat)(y:Yn):(its.toArray.extract 0 k).push y++its.toArray.extract k=(its.take k++y::its.drop k).toArray:=by
 apply Array.toList_inj.mp;simp
 first
  | done
  | exact Ws (by simp)
section
variable{X:Cx}
def J8:V->List V->Hp->VK->Prop:=λx vs H Q=>∃ l xs i y,x = .ref l/\vs=[.int i,y]/\H l=some (.lst xs)/\0<=i/\i<=xs.length/\xs.length<Yr/\Q .non (upd H l (.lst (xs.take i.toNat++y::xs.drop i.toNat)))
theorem ER:MtM X "list.insert" J8:=by
 intro pq s σ H x vs v us Q I rx rv h;obtain⟨l,xs,i,y,rfl,rfl,hH,h0,h1,hz,q⟩:=h;cases rx;obtain⟨u1,u2,rfl,⟨t,rfl⟩,ru⟩:=Vals.two rv;obtain⟨z,its,n,r,hl,e⟩:=I.lstM hH;have hn:=Bx;refine Zq F.slot_list_insert ⟨_,e,rfl⟩ F.entry_list_insert (F.args_list_insert_3 _ _ _) (AutoSeq1.list_insert_list_int_val_1 l its.toArray n i t u2 (by rw[A0D (by omega) (by omega)];exact VJ) (by rw[VF];omega)) ⟨e,?_⟩;refine⟨.non,_,I.lset (its':=its.take i.toNat++u2::its.drop i.toNat) hH e ?_ (Vals.append (r.take _) (.cons ru (r.drop _))) ?_,rfl,q⟩
 ·have hk:(if i<0 then (i+(its.toArray.size:Int)).toNat else min i.toNat its.toArray.size)=i.toNat:=by
   rw[iG (by omega),VF];omega
  show(let k:=if i<0 then (i+(its.toArray.size:Int)).toNat else min i.toNat its.toArray.size;(its.toArray.extract 0 k).push u2++its.toArray.extract k)=_;rw[hk];exact KP its i.toNat u2
 ·rw[VB,Vr,Vb,WL];omega
def Aj(xs ys:List V):Bool:=xs.length == ys.length&&(xs.zip ys).all λp=>eqV p.1 p.2
def Od(K:V8)(neg:Bool):R2:=λx y H Q=>∃ a b xs ys,x = .ref a/\y = .ref b/\SqL K H a xs/\SqL K H b ys/\((xs.all A9=true/\ys.all A9=true)\/xs=[]\/ys=[])/\Q (.bl (if neg then !Aj xs ys else Aj xs ys)) H
theorem DF{xs ys:List V}(hl:xs.length=ys.length):(VN xs.length).all (λj=>eqV (xs.getD j .non) (ys.getD j .non))=Aj xs ys:=by
 have e1:Aj xs ys=(xs.zip ys).all λp=>eqV p.1 p.2:=by unfold Aj;simp[hl]
 rw[e1,Vv,Ve,Ve];constructor
 ·intro h p hp;obtain⟨j,hj,e⟩:=Wx.mp hp;have hj1:j<xs.length:=by simp at hj;omega
  have hj2:j<ys.length:=by omega
  have:=h j (Va.mpr hj1);rw[<-e];simpa[W9,hj1,hj2] using this
 ·intro h j hj;have hj1:j<xs.length:=Va.mp hj;have hj2:j<ys.length:=by omega
  have:=h (xs[j],ys[j]) (Wx.mpr ⟨j,by simp;omega,by simp⟩);simpa[W9,hj1,hj2] using this
theorem Bz{xs ys:List V}{us ws:List Yn}{A:Z0}{s:Yo}(r1:Vals xs us)(r2:Vals ys ws)(f:(xs.all A9=true/\ys.all A9=true)\/xs=[]\/ys=[]):
 ∀ j (h1:j<us.toArray.size) (h2:j<ws.toArray.size),SeqAt.EqAt A s us.toArray[j] ws.toArray[j] (eqV (xs.getD j .non) (ys.getD j .non)):=by
 intro j h1 h2;have l1:=r1.length;have l2:=r2.length;simp only[VF]at h1 h2;have hj1:j<xs.length:=by omega
 have hj2:j<ys.length:=by omega
 obtain⟨f1,f2⟩:xs.all A9=true/\ys.all A9=true:=by
  rcases f with f | f | f
  ·exact f
  ·subst f;simp at hj1
  ·subst f;simp at hj2
 obtain⟨u,eu,ru⟩:=r1.get (i:=j) (x:=xs[j]) (by simp[hj1]);obtain⟨w',ew,rw'⟩:=r2.get (i:=j) (x:=ys[j]) (by simp[hj2])
 have e1:us.toArray[j]=u:=by
  have:=gM eu;obtain⟨_,q⟩:=this;simpa using q
 have e2:ws.toArray[j]=w':=by
  obtain⟨_,q⟩:=gM ew;simpa using q
 rw[e1,e2];have g1:xs.getD j .non=xs[j]:=by simp[W9,hj1]
 have g2:ys.getD j .non=ys[j]:=by simp[W9,hj2]
 rw[g1,g2];exact Lz ru rw' (Ve.mp f1 _ (WX hj1)) (Ve.mp f2 _ (WX hj2))
theorem Rn(hu:X.A.units<cLine):OpR X (Z2 .Eq) (Od X.K false):=by
 intro pq s σ H x y v u Q I rx ry h;obtain⟨a,b,xs,ys,rfl,rfl,h1,h2,f,q⟩:=h;cases rx;cases ry;obtain⟨its1,r1,p1,_⟩:=I.list h1;obtain⟨its2,r2,p2,_⟩:=I.list h2;have l1:=r1.length;have l2:=r2.length;by_cases hl:xs.length=ys.length
 ·refine SeqAt.eq_listAt p1.isList p2.isList (by simp;omega) hu (Bz r1 r2 f) ⟨.bl _,H,I,rfl,?_⟩;rw[VF,<-l1,DF hl];exact q
 ·refine SeqAt.eq_list_lengthsAt p1.isList p2.isList (by simp;omega) hu ⟨.bl false,H,I,rfl,?_⟩;have e:Aj xs ys=false:=by unfold Aj;simp[hl]
  rw[show(if false=true then !Aj xs ys else Aj xs ys)=Aj xs ys from rfl,e]at q;exact q
theorem Ro(hu:X.A.units<cLine):OpR X (Z2 .NotEq) (Od X.K true):=by
 intro pq s σ H x y v u Q I rx ry h;obtain⟨a,b,xs,ys,rfl,rfl,h1,h2,f,q⟩:=h;cases rx;cases ry;obtain⟨its1,r1,p1,_⟩:=I.list h1;obtain⟨its2,r2,p2,_⟩:=I.list h2;have l1:=r1.length;have l2:=r2.length;by_cases hl:xs.length=ys.length
 ·refine(SeqAt.RcNeAt.lists p1.isList p2.isList (by simp;omega) hu (Bz r1 r2 f)) _ _ _ _ ?_;refine⟨.bl _,H,I,rfl,?_⟩;rw[VF,<-l1,DF hl];exact q
 ·refine(SeqAt.RcNeAt.lists_lengths p1.isList p2.isList (by simp;omega) hu) _ _ _ _ ?_;refine⟨.bl true,H,I,rfl,?_⟩;have e:Aj xs ys=false:=by unfold Aj;simp[hl]
  rw[show(if true=true then !Aj xs ys else Aj xs ys)=!Aj xs ys from rfl,e]at q;exact q
theorem call_isi1:CallR X (.builtin "isinstance") (λxs H Q=>∃ x T t b,xs=[x,.ty T]/\TyOf X.K H x t/\PySem.W.kitOne X.K t (.type T)=some b/\Q (.bl b) H):=by
 intro pq s σ H xs us Q I r h;obtain⟨x,T,t,b,rfl,ty,e,q⟩:=h;obtain⟨u1,u2,rfl,r1,r2⟩:=Vals.two r;cases r2;exact KK I r1 ty e λtk=>⟨.bl b,H,I.tok tk,rfl,q⟩
theorem Hr{pq:List (Yp×Obj)}{σ:St}{H:Hp}{s:Yo}{A:Z0}{E:Yn->Yo->Prop}{Q:Yn->Yo->Prop}{b:Bool}{x:V}{u t:Yn}{tp:Yp}{dd:Option Yp}{its:List Yn}{n:Nat}{sl:Array (Option Yn)}(I:Inv X pq σ H s)(rx:RelV x u)(ty:TyOf X.K H x t)
 (htp:s.heap.get? tp=some ⟨.type "tuple",dd,.seq its.toArray n,sl⟩) (e:PySem.W.kitAny X.K t its=some b) (h:∀ tk,Q (.bool b) {s with toks:=tk}):
 Ys (Yt X.prog X.w) A (call (.builtin "isinstance") [u,.ref tp]) Q E s:=by
 cases ty with
 | non=>cases(show u=Value.none from rx);exact PySem.W.kia_tup PySem.W.kitx_none I.kIn True.intro htp e (λz=>nomatch z) h
 | bl y=>cases(show u=Value.bool y from rx);exact PySem.W.kia_tup PySem.W.kitx_bool I.kIn True.intro htp e (λz=>nomatch z) h
 | int i=>obtain⟨t,q⟩:=(show ∃ t,u=Value.int i t from rx);cases q;exact PySem.W.kia_tup PySem.W.kitx_int I.kIn True.intro htp e (λz=>nomatch z) h
 | str y=>obtain⟨t,q⟩:=(show ∃ t,u=Value.str y t from rx);cases q;exact PySem.W.kia_tup PySem.W.kitx_str I.kIn True.intro htp e (λz=>nomatch z) h
 | flt y=>obtain⟨t,q⟩:=(show ∃ t,u=Value.float y t from rx);cases q;exact PySem.W.kia_tup PySem.W.kitx_float I.kIn True.intro htp e (λz=>nomatch z) h
 | @lst a xs ea=>
   cases(show u=Value.ref a from rx);obtain⟨_,_,n,_,h1⟩:=(show ObjOk X.prog X.w H s.heap a (.lst xs) from I.hok a _ ea)
   exact PySem.W.kia_tup PySem.W.kitx_list I.kIn ⟨_,h1,rfl⟩ htp e (λz=>nomatch z) h
 | @frz a ob xs ea=>
   cases(show u=Value.ref a from rx);obtain⟨_,_,_,n,_,h1⟩:=(show ObjOk X.prog X.w H s.heap a (.frz ob (.lst xs)) from I.hok a _ ea)
   exact PySem.W.kia_tup PySem.W.kitx_list I.kIn ⟨_,h1,rfl⟩ htp e (λz=>nomatch z) h
 | @tup a xs ea=>
   cases(show u=Value.ref a from rx);obtain⟨_,_,_,p⟩:=(show ObjOk X.prog X.w H s.heap a (.tup xs) from I.hok a _ ea)
   obtain⟨o,h1,h2,_⟩:=p;exact PySem.W.kia_tup PySem.W.kitx_tuple I.kIn ⟨o,h1,h2⟩ htp e (λz=>nomatch z) h
 | @dK a kvs ea=>
   cases(show u=Value.ref a from rx);obtain⟨_,_,vs,_,p⟩:=(show ObjOk X.prog X.w H s.heap a (.dK kvs) from I.hok a _ ea)
   obtain⟨o,es,ep,h1,h2,_⟩:=p;exact PySem.W.kia_tup PySem.W.kitx_dict I.kIn ⟨o,h1,h2.1⟩ htp e (λz=>nomatch z) h
 | @dT a kvs ea=>
   cases(show u=Value.ref a from rx);obtain⟨_,_,xs,_,o,es,ep,h1,h2,_⟩:=(show ObjOk X.prog X.w H s.heap a (.dT kvs) from I.hok a _ ea)
   exact PySem.W.kia_tup PySem.W.kitx_dict I.kIn ⟨o,h1,h2.1⟩ htp e (λz=>nomatch z) h
 | @ins a C dx fs ea cl ha hn htk hm=>
   cases(show u=Value.ref a from rx);obtain⟨mA,O,_⟩:=Iy I.hok ea;obtain⟨od,J,_⟩:=O.look;exact PySem.W.kia_tup (PySem.W.kitx_own (cl.get _) cl.hd ha hn htk hm) I.kIn J htp e (λz=>nomatch z) h
theorem J9:∀(Ts:List String) {us:List Yn},Vals (Ts.map V.ty) us->us=Ts.map Value.type
 | [],_,.nil=>rfl
 | T::r,_,.cons h t=>by cases h;rw[J9 r t];rfl
theorem KQ:CallR X (.builtin "isinstance") (λxs H Q=>∃(x:V) (p:Yp) (Ts:List String) (t:Yn) (b:Bool),xs=[x,.ref p]/\H p=some (.tup (Ts.map V.ty))/\TyOf X.K H x t/\PySem.W.kitAny X.K t (Ts.map Value.type)=some b/\Q (.bl b) H):=by
 intro pq s σ H xs us Q I r h;obtain⟨x,p,Ts,t,b,rfl,hp,ty,e,q⟩:=h;obtain⟨u1,u2,rfl,r1,r2⟩:=Vals.two r;cases r2;obtain⟨_,its,rv,⟨⟨c,dd,dt,sl⟩,h1,h2,n,h3⟩⟩:=(show ObjOk X.prog X.w H s.heap p (.tup (Ts.map V.ty)) from I.hok p _ hp)
 have ei:=J9 Ts rv;subst ei;replace h2:c = .type "tuple":=h2;replace h3:dt = .seq (Ts.map Value.type).toArray n:=h3;subst h2 h3;exact Hr I r1 ty h1 e λtk=>⟨.bl b,H,I.tok tk,rfl,q⟩
theorem KR(hc:X.calm=true):CallR X (.builtin "all") (λxs H Q=>∃(a:Yp) (bs:List Bool),xs=[.ref a]/\SqL X.K H a (bs.map V.bl)/\Q (.bl (bs.all id)) H):=by
 intro pq s σ H xs us Q I r h;obtain⟨a,bs,rfl,hq,q⟩:=h;obtain⟨u,rfl,ru⟩:=AQ r;cases ru;obtain⟨its,rv,pl,hz⟩:=I.list hq;have hl:=rv.length;rw[VA]at hl;refine call_all_walk (ZK pl.isList ?_);have hlt:a<s.heap.objs.size:=by obtain⟨o,n,e,_⟩:=pl;exact VO e
 refine⟨s.heap.objs.size,_,_,_,_,_,λi=>bs.getD i false,rfl,Walks.list (by exact I.ok.hd hc) s.heap.objs.size a (VT hlt) its.toArray,⟨⟨_,VV _ rfl,rfl,rfl⟩,pl.isList.push _⟩,?_,λh' tk hk=>?_⟩
 ·intro i v s' Q' E' hv hQ';have hv':its[i]?=some v:=by simpa using hv
  have hi:i<its.length:=(gM hv').1;have hb:(bs.map V.bl)[i]?=some (.bl (bs[i]'(by omega))):=by simp
  obtain⟨u',eu,ru'⟩:=rv.get hb;rw[hv']at eu;cases eu;cases ru';have hg:bs.getD i false=bs[i]'(by omega):=by simp[W9,show i<bs.length by omega]
  have hQ2:Q' (bs.getD i false) s':=hQ';rw[hg]at hQ2;exact Z3 hQ2
 ·have I1:Inv X pq σ H {s with heap:=h',toks:=tk}:=I.kept λb o e=>hk b o (by simp;exact VT (VO e)) (VG _ e);refine⟨.bl _,H,I1,rfl,?_⟩
  have e:(VN its.toArray.size).all (λi=>bs.getD i false)=bs.all id:=by
   rw[VF,<-hl,Vv,Ve,Ve];constructor
   ·intro h b hb;obtain⟨j,hj,e⟩:=Wx.mp hb;have:=h j (Va.mpr hj);simpa[W9,hj,e] using this
   ·intro h j hj;have hj1:j<bs.length:=Va.mp hj;have:=h bs[j] (WX hj1);simpa[W9,hj1] using this
  rw[e];exact q
end
def srt(ns:List Int):List Int:=ns.mergeSort (λa b=>decide (a<=b))
theorem M9(ns:List Int):(srt ns).Perm ns:=List.mergeSort_perm _ _
theorem Rp(ns:List Int):(srt ns).Pairwise (·<=·):=by
 have h:=List.pairwise_mergeSort (le:=λ(a b:Int)=>decide (a<=b)) (λa b c h1 h2=>by simp only[dQ]at *;omega) (λa b=>by simp only[Vx,dQ];omega) ns;exact h.imp λh=>of_decide_eq_true h
theorem Rq{ns ns':List Int}(hp:ns'.Perm ns)(hs:ns'.Pairwise (·<=·)):ns'=srt ns:=
 List.Perm.eq_of_pairwise (λ_ _ _ _ a b=>Int.le_antisymm a b) hs (Rp ns) (hp.trans (M9 ns).symm)
theorem B0:∀{ns:List Int} {us:List Yn},Vals (ns.map V.int) us->IntsAre us ns
 | [],_,.nil => .nil
 | _::_,_,.cons ⟨_,e⟩ t=>by subst e;exact .cons _ _ (B0 t)
theorem ES:∀{ns:List Int} {us:List Yn},IntsAre us ns->Vals (ns.map V.int) us
 | _,_,.nil => .nil
 | _,_,.cons _ _ t => .cons ⟨_,rfl⟩ (ES t)
theorem MA:Yx "sorted"=some (.builtin "sorted"):=by decide +kernel
section
variable{X:Cx}
theorem Fo:CallR X (.builtin "sorted") (λxs H Q=>∃ p ns,xs=[.ref p]/\SqL X.K H p (ns.map V.int)/\ns.length<64/\∀ l,H l=none->Q (.ref l) (upd H l (.lst ((srt ns).map V.int)))):=by
 intro pq s σ H xs us Q I r h;obtain⟨p,ns,rfl,hq,h64,q⟩:=h;obtain⟨u,rfl,rx⟩:=AQ r;cases rx;obtain⟨its,r',pl,hz⟩:=I.list hq;have hlen:=r'.length;rw[VA]at hlen;refine sorted_ints pl.isList (B0 r') (by omega) λout ns' a1 a2 a3=>?_;obtain⟨e,he⟩:=sortedAll_at s.heap its out;have en:=Rq a2 a3;subst en;refine⟨.ref (s.heap.objs.size+1),_,I.laid (t':=s.toks) (λb o h=>sortedAll_old h) (Xu _) (show ObjOk X.prog X.w _ _ _ (.lst ((srt ns).map V.int)) from ⟨?_,out.toList,e,ES a1,by simpa using he⟩),rfl,q _ (I.hok.fresh (Xu _))⟩;rw[VA,a2.length_eq];exact Vc (Xi h64) (by decide)
end
end L2
set_option maxHeartbeats 1000000
namespace Rf
open PySem L2
inductive TyN where
 | int | bool | str | list | tuple | none
 deriving DecidableEq
def TyN.nm:TyN->String
 | .int=>"int" | .bool=>"bool" | .str=>"str" | .list=>"list" | .tuple=>"tuple" | .none=>"NoneType"
inductive SV where
 | non | bl (b:Bool) | int (i:Int) | str (x:Str) | tup (xs:List SV) | loc (k:Nat) | ro (xs:List SV) | ty (t:TyN)
inductive SO where
 | lst (xs:List SV)
 | iset (ms:List Int)
 | dtp (kvs:List ((Int×Int)×Int)) | dtl (kvs:List (List Int×SV)) | dtf (o:Obj) (us:List (List Key×V)) (kvs:List (List Int×SV)) | dct (kvs:List (Int×SV)) | dcf (o:Obj) (ks:List (Key×V)) (kvs:List (Int×SV))
abbrev Sto:=List SO
abbrev EnvS:=List (Option SV)
def FzL(K:V8)(H:Hp)(a:Yp)(vs:List V):Prop:=(∃ o,H a=some (.frz o (.lst vs)))\/
 ∃(o:Obj) (its:Array Yn) (n:Nat),K.lookup a=some o/\o.cls = .type "list"/\o.dict=none/\o.data = .seq its n/\its.size<=Yr/\Vals vs its.toList
theorem FzL.sq{K:V8}{H:Hp}{a:Yp}{vs:List V}(h:FzL K H a vs):SqL K H a vs:=h.imp (λ⟨o,e⟩ => .inr ⟨o,e⟩) id
mutual
noncomputable def Rl(K:V8)(as:List Yp)(H:Hp):V->SV->Prop
 | v,.non=>v = .non
 | v,.bl b=>v = .bl b
 | v,.int i=>v = .int i
 | v,.str x=>v = .str x
 | v,.tup xs=>∃ p vs,v = .ref p/\H p=some (.tup vs)/\RlAll K as H vs xs
 | v,.loc k=>∃ a,as[k]?=some a/\v = .ref a
 | v,.ro xs=>∃ a vs,v = .ref a/\FzL K H a vs/\RlAll K as H vs xs
 | v,.ty t=>v = .ty t.nm
noncomputable def RlAll(K:V8)(as:List Yp)(H:Hp):List V->List SV->Prop
 | vs,[]=>vs=[]
 | vs,x::xs=>∃ v r,vs=v::r/\Rl K as H v x/\RlAll K as H r xs
end
def imm:HO->Bool
 | .tup _=>true
 | .frz _ (.lst _)=>true
 | _=>false
def KeepU(H H':Hp):Prop:=∀ b o,H b=some o->imm o=true->H' b=some o
theorem KeepU.refl(H:Hp):KeepU H H:=λ_ _ h _=>h
theorem KeepU.trans{H H' H'':Hp}(a:KeepU H H')(b:KeepU H' H''):KeepU H H'':=λx o h i=>b x o (a x o h i) i
theorem Ap{H:Hp}{p:Yp}{o:HO}(hp:H p=none):KeepU H (upd H p o):=λb u h _=>by
 rw[i7 (j5 h hp)];exact h
theorem CW{H:Hp}{a:Yp}{u o:HO}(h:H a=some u)(i:imm u=false):KeepU H (upd H a o):=λb v hb iv=>by
 rw[i7 (LZ hb h (by intro z;rw[z,i]at iv;cases iv))];exact hb
theorem FzL.mono{K:V8}{H H':Hp}{a:Yp}{vs:List V}(k:KeepU H H')(h:FzL K H a vs):FzL K H' a vs:=h.imp (λ⟨o,e⟩=>⟨o,k _ _ e rfl⟩) id
theorem B1{α:Type}{as as':List α}(h:as <+: as'){k:Nat}{a:α}(e:as[k]?=some a):as'[k]?=some a:=by
 obtain⟨t,rfl⟩:=h;rw[VP ((gM e).1)];exact e
mutual
theorem Rl.mono{K:V8}{as as':List Yp}{H H':Hp}(ha:as <+: as')(hH:KeepU H H'):∀(x:SV) (v:V),Rl K as H v x->Rl K as' H' v x
 | .non,v,h=>by unfold Rl at h ⊢;exact h
 | .bl _,v,h=>by unfold Rl at h ⊢;exact h
 | .int _,v,h=>by unfold Rl at h ⊢;exact h
 | .str _,v,h=>by unfold Rl at h ⊢;exact h
 | .tup xs,v,h=>by
   unfold Rl at h ⊢;obtain⟨p,vs,e,hp,h⟩:=h;exact⟨p,vs,e,hH p _ hp rfl,RlAll.mono ha hH xs vs h⟩
 | .ro xs,v,h=>by
   unfold Rl at h ⊢;obtain⟨p,vs,e,hp,h⟩:=h;exact⟨p,vs,e,hp.mono hH,RlAll.mono ha hH xs vs h⟩
 | .ty _,v,h=>by unfold Rl at h ⊢;exact h
 | .loc k,v,h=>by
   unfold Rl at h ⊢;obtain⟨a,e,z⟩:=h;exact⟨a,B1 ha e,z⟩
theorem RlAll.mono{K:V8}{as as':List Yp}{H H':Hp}(ha:as <+: as')(hH:KeepU H H'):∀(xs:List SV) (vs:List V),RlAll K as H vs xs->RlAll K as' H' vs xs
 | [],vs,h=>by unfold RlAll at h ⊢;exact h
 | x::xs,vs,h=>by
   unfold RlAll at h ⊢;obtain⟨v,r,e,h1,h2⟩:=h;exact⟨v,r,e,Rl.mono ha hH x v h1,RlAll.mono ha hH xs r h2⟩
end
section
variable{K:V8}{as:List Yp}{H:Hp}
theorem rl_non{v:V}:Rl K as H v .non↔v = .non:=by unfold Rl;exact Iff.rfl
theorem rl_bl{v:V}{b:Bool}:Rl K as H v (.bl b)↔v = .bl b:=by unfold Rl;exact Iff.rfl
theorem rl_int{v:V}{i:Int}:Rl K as H v (.int i)↔v = .int i:=by unfold Rl;exact Iff.rfl
theorem rl_str{v:V}{x:Str}:Rl K as H v (.str x)↔v = .str x:=by unfold Rl;exact Iff.rfl
theorem rl_tup{v:V}{xs:List SV}:Rl K as H v (.tup xs)↔∃ p vs,v = .ref p/\H p=some (.tup vs)/\RlAll K as H vs xs:=by rw[Rl]
theorem rl_loc{v:V}{k:Nat}:Rl K as H v (.loc k)↔∃ a,as[k]?=some a/\v = .ref a:=by unfold Rl;exact Iff.rfl
theorem rl_ro{v:V}{xs:List SV}:Rl K as H v (.ro xs)↔∃ a vs,v = .ref a/\FzL K H a vs/\RlAll K as H vs xs:=by rw[Rl]
theorem rl_ty{v:V}{n:TyN}:Rl K as H v (.ty n)↔v = .ty n.nm:=by unfold Rl;exact Iff.rfl
theorem rla_nil{vs:List V}:RlAll K as H vs []↔vs=[]:=by unfold RlAll;exact Iff.rfl
theorem rla_cons{vs:List V}{x:SV}{xs:List SV}:RlAll K as H vs (x::xs)↔∃ v r,vs=v::r/\Rl K as H v x/\RlAll K as H r xs:=by rw[RlAll]
theorem RlAll.nil:RlAll K as H [] []:=rla_nil.mpr rfl
theorem RlAll.cons{v:V}{x:SV}{vs:List V}{xs:List SV}(h:Rl K as H v x)(t:RlAll K as H vs xs):RlAll K as H (v::vs) (x::xs):=rla_cons.mpr ⟨v,vs,rfl,h,t⟩
theorem RlAll.length:∀{xs:List SV} {vs:List V},RlAll K as H vs xs->vs.length=xs.length
 | [],_,h=>by rw[rla_nil.mp h];rfl
 | x::xs,_,h=>by
   obtain⟨v,r,rfl,_,t⟩:=rla_cons.mp h;simp[t.length]
theorem RlAll.get:∀{xs:List SV} {vs:List V} {i:Nat} {x:SV},RlAll K as H vs xs->xs[i]?=some x->∃ v,vs[i]?=some v/\Rl K as H v x
 | [],_,i,_,_,e=>by simp at e
 | y::xs,_,0,_,h,e=>by
   obtain⟨v,r,rfl,a,_⟩:=rla_cons.mp h;simp at e;subst e;exact⟨v,rfl,a⟩
 | y::xs,_,i+1,_,h,e=>by
   obtain⟨v,r,rfl,_,t⟩:=rla_cons.mp h;simpa using t.get (by simpa using e)
theorem RlAll.append:∀{xs ys:List SV} {vs us:List V},RlAll K as H vs xs->RlAll K as H us ys->RlAll K as H (vs++us) (xs++ys)
 | [],_,_,_,h,h'=>by rw[rla_nil.mp h];exact h'
 | x::xs,_,_,_,h,h'=>by
   obtain⟨v,r,rfl,a,t⟩:=rla_cons.mp h;exact .cons a (t.append h')
theorem RlAll.take:∀{xs:List SV} {vs:List V} (n:Nat),RlAll K as H vs xs->RlAll K as H (vs.take n) (xs.take n)
 | _,_,0,_=>by simpa using RlAll.nil
 | [],_,n+1,h=>by rw[rla_nil.mp h];exact .nil
 | x::xs,_,n+1,h=>by
   obtain⟨v,r,rfl,a,t⟩:=rla_cons.mp h;exact .cons a (t.take n)
theorem RlAll.drop:∀{xs:List SV} {vs:List V} (n:Nat),RlAll K as H vs xs->RlAll K as H (vs.drop n) (xs.drop n)
 | _,_,0,h=>h
 | [],_,n+1,h=>by rw[rla_nil.mp h];exact .nil
 | x::xs,_,n+1,h=>by
   obtain⟨v,r,rfl,a,t⟩:=rla_cons.mp h;exact t.drop n
theorem RlAll.set{x:SV}{v:V}(hx:Rl K as H v x):∀{xs:List SV} {vs:List V} (n:Nat),RlAll K as H vs xs->RlAll K as H (vs.set n v) (xs.set n x)
 | [],_,n,h=>by rw[rla_nil.mp h];exact .nil
 | y::xs,_,0,h=>by
   obtain⟨_,r,rfl,_,t⟩:=rla_cons.mp h;exact .cons hx t
 | y::xs,_,n+1,h=>by
   obtain⟨_,r,rfl,a,t⟩:=rla_cons.mp h;exact .cons a (t.set hx n)
theorem RlAll.rev:∀{xs:List SV} {vs:List V},RlAll K as H vs xs->RlAll K as H vs.reverse xs.reverse
 | [],_,h=>by rw[rla_nil.mp h];exact .nil
 | x::xs,_,h=>by
   obtain⟨v,r,rfl,a,t⟩:=rla_cons.mp h;rw[Wi,Wi];exact t.rev.append (.cons a .nil)
theorem RlAll.ins{x:SV}{v:V}(hx:Rl K as H v x){xs:List SV}{vs:List V}(h:RlAll K as H vs xs)(n:Nat):RlAll K as H (vs.take n++v::vs.drop n) (xs.take n++x::xs.drop n):=(h.take n).append (.cons hx (h.drop n))
theorem RlAll.ints{is:List Int}:RlAll K as H (is.map V.int) (is.map SV.int):=by
 induction is with
 | nil=>exact .nil
 | cons i is ih=>exact .cons (rl_int.mpr rfl) ih
end
noncomputable def RlD(K:V8)(as:List Yp)(H:Hp):List (Key×V)->List (Int×SV)->Prop
 | ks,[]=>ks=[]
 | ks,p::r=>∃ v t,ks=(.inl p.1,v)::t/\Rl K as H v p.2/\RlD K as H t r
theorem RlD.mono{K:V8}{as as':List Yp}{H H':Hp}(ha:as <+: as')(hH:KeepU H H'):∀(kvs:List (Int×SV)) (ks:List (Key×V)),RlD K as H ks kvs->RlD K as' H' ks kvs
 | [],_,h=>h
 | p::r,_,⟨v,t,e,h1,h2⟩=>⟨v,t,e,Rl.mono ha hH p.2 v h1,RlD.mono ha hH r t h2⟩
noncomputable def RlT(K:V8)(as:List Yp)(H:Hp):List (List Key×V)->List (List Int×SV)->Prop
 | us,[]=>us=[]
 | us,p::r=>∃ v t,us=(p.1.map Sum.inl,v)::t/\Rl K as H v p.2/\RlT K as H t r
theorem RlT.mono{K:V8}{as as':List Yp}{H H':Hp}(ha:as <+: as')(hH:KeepU H H'):∀(kvs:List (List Int×SV)) (us:List (List Key×V)),RlT K as H us kvs->RlT K as' H' us kvs
 | [],_,h=>h
 | p::r,_,⟨v,t,e,h1,h2⟩=>⟨v,t,e,Rl.mono ha hH p.2 v h1,RlT.mono ha hH r t h2⟩
def dtV(kvs:List ((Int×Int)×Int)):List (List Key×V):=kvs.map λp=>([.inl p.1.1,.inl p.1.2],V.int p.2)
noncomputable def RlO(K:V8)(as:List Yp)(H:Hp)(a:Yp):SO->Prop
 | .lst xs=>∃ vs,H a=some (.lst vs)/\RlAll K as H vs xs
 | .iset ms=>∃ F,H a=some (.set F ms.length)/\∀ k,F k=decide (k∈ms)
 | .dtp kvs=>H a=some (.dT (dtV kvs))
 | .dtl kvs=>∃ us,H a=some (.dT us)/\RlT K as H us kvs
 | .dtf o us kvs=>H a=some (.frz o (.dT us))/\RlT K as H us kvs
 | .dct kvs=>∃ ks,H a=some (.dK ks)/\RlD K as H ks kvs
 | .dcf o ks kvs=>H a=some (.frz o (.dK ks))/\RlD K as H ks kvs
structure Ok(K:V8)(as:List Yp)(H:Hp)(S:Sto):Prop where
 len:as.length=S.length
 nd:as.Nodup
 obj:∀(k:Nat) (o:SO) (a:Yp),S[k]?=some o->as[k]?=some a->RlO K as H a o
noncomputable def EnvOk(K:V8)(as:List Yp)(H:Hp)(σ:St)(ρ:EnvS):Prop:=σ.length=ρ.length/\∀(i:Nat) (x:SV),ρ[i]?=some (some x)->∃ v,σ[i]?=some (some v)/\Rl K as H v x
theorem EnvOk.mono{K:V8}{as as':List Yp}{H H':Hp}{σ:St}{ρ:EnvS}(h:EnvOk K as H σ ρ)(ha:as <+: as')(hH:KeepU H H'):EnvOk K as' H' σ ρ:=⟨h.1,λi x e=>let ⟨v,a,b⟩:=h.2 i x e;⟨v,a,Rl.mono ha hH x v b⟩⟩
theorem EnvOk.set{K:V8}{as:List Yp}{H:Hp}{σ:St}{ρ:EnvS}(h:EnvOk K as H σ ρ){i:Nat}{v:V}{x:SV}(hx:Rl K as H v x):EnvOk K as H (σ.set i (some v)) (ρ.set i (some x)):=⟨by rw[Vw,Vw];exact h.1,λj y e=>by
 by_cases hij:i=j
 ·subst hij;have hi:i<ρ.length:=by have:=(gM e).1;rwa [Vw]at this
  rw[Vj hi]at e;rw[Vj (by rw[h.1];exact hi)];cases e;exact⟨v,rfl,hx⟩
 ·rw[W5 hij]at e ⊢;exact h.2 j y e⟩
section
variable{K:V8}{as:List Yp}{H:Hp}{S:Sto}
theorem RlO.mono{as':List Yp}{H':Hp}{a:Yp}(ha:as <+: as')(hH:KeepU H H')(e:∀ u,H a=some u->H' a=some u):∀{o:SO},RlO K as H a o->RlO K as' H' a o
 | .lst xs,⟨vs,h1,h2⟩=>⟨vs,e _ h1,RlAll.mono ha hH xs vs h2⟩
 | .iset ms,⟨F,h1,h2⟩=>⟨F,e _ h1,h2⟩
 | .dtp kvs,h1=>e _ h1
 | .dtl kvs,⟨us,h1,h2⟩=>⟨us,e _ h1,RlT.mono ha hH kvs us h2⟩
 | .dtf _ us kvs,⟨h1,h2⟩=>⟨e _ h1,RlT.mono ha hH kvs us h2⟩
 | .dct kvs,⟨ks,h1,h2⟩=>⟨ks,e _ h1,RlD.mono ha hH kvs ks h2⟩
 | .dcf _ ks kvs,⟨h1,h2⟩=>⟨e _ h1,RlD.mono ha hH kvs ks h2⟩
theorem RlO.some{a:Yp}:∀{o:SO},RlO K as H a o->∃ u,H a=some u/\imm u=false
 | .lst _,⟨_,h,_⟩=>⟨_,h,rfl⟩
 | .iset _,⟨_,h,_⟩=>⟨_,h,rfl⟩
 | .dtp _,h=>⟨_,h,rfl⟩
 | .dtl _,⟨_,h,_⟩=>⟨_,h,rfl⟩
 | .dtf _ _ _,⟨h,_⟩=>⟨_,h,rfl⟩
 | .dct _,⟨_,h,_⟩=>⟨_,h,rfl⟩
 | .dcf _ _ _,⟨h,_⟩=>⟨_,h,rfl⟩
theorem Ok.of(h:Ok K as H S){k:Nat}{a:Yp}(e:as[k]?=some a):∃ o,S[k]?=some o/\RlO K as H a o:=by
 have hk:k<S.length:=by rw[<-h.len];exact(gM e).1
 exact⟨S[k],VE hk,h.obj k _ a (VE hk) e⟩
theorem Ok.new(h:Ok K as H S){p:Yp}{o:HO}(hp:H p=none):Ok K as (upd H p o) S:=⟨h.len,h.nd,λk u a e ea=>by
 have r:=h.obj k u a e ea;obtain⟨z,hz,_⟩:=r.some;exact r.mono (Vo as) (Ap hp) λvs hv=>by rw[i7 (j5 hz hp)];exact hv⟩
theorem Ok.free(h:Ok K as H S){p:Yp}(hp:H p=none):p∉as:=λhm=>by
 obtain⟨k,hk⟩:=WY hm;obtain⟨o,_,r⟩:=h.of hk;obtain⟨z,hz,_⟩:=r.some;rw[hp]at hz;cases hz
theorem Ok.pushO(h:Ok K as H S){p:Yp}(hp:H p=none){u:HO}{x:SO}(r:RlO K (as++[p]) (upd H p u) p x):Ok K (as++[p]) (upd H p u) (S++[x]):=by
 have pre:as <+: as++[p]:=Wt _ _;refine⟨by rw[VB,VB,h.len];rfl,?_,λk o a e ea=>?_⟩
 ·rw[Wk];refine⟨h.nd,by simp,λa ha b hb=>?_⟩;rw[VU.mp hb];intro z;subst z;exact h.free hp ha
 ·by_cases hk:k<S.length
  ·rw[VP hk]at e;rw[VP (by rw[h.len];exact hk)]at ea;exact((h.new (o:=u) hp).obj k o a e ea).mono pre (KeepU.refl _) λ_ z=>z
  ·have hk':k=S.length:=by
    have:=(gM e).1;rw[VB,W4]at this;omega
   subst hk';rw[Vd]at e;rw[<-h.len,Vd]at ea;cases e;cases ea;exact r
theorem Ok.push(h:Ok K as H S){p:Yp}(hp:H p=none){vs:List V}{xs:List SV}(r:RlAll K as H vs xs):Ok K (as++[p]) (upd H p (.lst vs)) (S++[.lst xs]):=h.pushO hp ⟨vs,m9,RlAll.mono (Wt _ _) (Ap hp) xs vs r⟩
theorem Ok.writeO(h:Ok K as H S){k:Nat}{a:Yp}{y x:SO}{u:HO}(e:S[k]?=some y)(ea:as[k]?=some a)(r:KeepU H (upd H a u)->RlO K as (upd H a u) a x):Ok K as (upd H a u) (S.set k x)/\KeepU H (upd H a u):=by
 obtain⟨z,h1,iz⟩:=(h.obj k _ a e ea).some;have ku:KeepU H (upd H a u):=CW h1 iz;refine⟨⟨by rw[Vw];exact h.len,h.nd,λj o b eo eb=>?_⟩,ku⟩;by_cases hj:k=j
 ·subst hj;rw[Vj ((gM e).1)]at eo;rw[ea]at eb;cases eo;cases eb;exact r ku
 ·rw[W5 hj]at eo
  have hab:b≠a:=λz=>by
   subst z;exact hj ((Y9 ((gM ea).1) h.nd).mp (ea.trans eb.symm))
  exact(h.obj j o b eo eb).mono (Vo as) ku λws hw=>by rw[i7 hab];exact hw
theorem Ok.write(h:Ok K as H S){k:Nat}{a:Yp}{ys xs:List SV}{vs:List V}(e:S[k]?=some (.lst ys))(ea:as[k]?=some a)(r:RlAll K as H vs xs):Ok K as (upd H a (.lst vs)) (S.set k (.lst xs))/\KeepU H (upd H a (.lst vs)):=h.writeO e ea λku=>⟨vs,m9,RlAll.mono (Vo as) ku xs vs r⟩
end
structure Go(as:List Yp)(H:Hp)(as':List Yp)(H':Hp):Prop where
 pre:as <+: as'
 keep:∀ b o,H b=some o->b∉as->H' b=some o/\b∉as'
theorem Go.refl(as:List Yp)(H:Hp):Go as H as H:=⟨Vo _,λ_ _ h n=>⟨h,n⟩⟩
theorem Go.trans{as as1 as2:List Yp}{H H1 H2:Hp}(a:Go as H as1 H1)(b:Go as1 H1 as2 H2):Go as H as2 H2:=⟨a.pre.trans b.pre,λx o h n=>let ⟨h1,n1⟩:=a.keep x o h n;b.keep x o h1 n1⟩
theorem Go.new{as:List Yp}{H:Hp}{p:Yp}{o:HO}(hp:H p=none):Go as H as (upd H p o):=⟨Vo _,λb u h n=>⟨by rw[i7 (j5 h hp)];exact h,n⟩⟩
theorem Go.push{as:List Yp}{H:Hp}{p:Yp}{o:HO}(hp:H p=none):Go as H (as++[p]) (upd H p o):=⟨Wt _ _,λb u h n=>⟨by rw[i7 (j5 h hp)];exact h,by
 rw[VY,VU];rintro(z | z)
 ·exact n z
 ·exact j5 h hp z⟩⟩
theorem Go.write{as:List Yp}{H:Hp}{a:Yp}{o:HO}(ha:a∈as):Go as H as (upd H a o):=⟨Vo _,λb u h n=>⟨by rw[i7 (λz=>n (by rw[z];exact ha))];exact h,n⟩⟩
section
variable{K:V8}{as as':List Yp}{H H':Hp}{S:Sto}
theorem Ok.away(h:Ok K as H S){b:Yp}{o:HO}(e:H b=some o)(i:imm o=true):b∉as:=λhm=>by
 obtain⟨k,hk⟩:=WY hm;obtain⟨_,_,r⟩:=h.of hk;obtain⟨z,hz,iz⟩:=r.some;rw[e]at hz;cases hz;rw[i]at iz;cases iz
theorem Go.ku(g:Go as H as' H')(ok:Ok K as H S):KeepU H H':=λb o h i=>(g.keep b o h (ok.away h i)).1
theorem Ok.other(h:Ok K as H S){b:Yp}{vs us:List V}(hb:H b=some (.lst vs))(n:b∉as):Ok K as (upd H b (.lst us)) S:=⟨h.len,h.nd,λk o a e ea=>(h.obj k o a e ea).mono (Vo as) (CW hb rfl) λws hw=>by
 rw[i7 (λz=>n (by rw[<-z];exact VC ea))];exact hw⟩
end
end Rf
namespace L2
open PySem PySem.Spec PyProof.Rows
section
variable{κ:Type}[DecidableEq κ]
def w4(kvs:List (κ×V))(k:κ):Option V:=(kvs.find? λkv=>decide (kv.1=k)).map (·.2)
def Aa(kvs:List (κ×V))(k:κ)(v:V):List (κ×V):=
 if (kvs.any λkv=>decide (kv.1=k))=true then kvs.map (λkv=>if kv.1=k then (kv.1,v) else kv) else kvs++[(k,v)]
theorem BK{p:κ×V}{r:List (κ×V)}{k:κ}(e:p.1=k):w4 (p::r) k=some p.2:=by simp[w4,Vh,e]
theorem BL{p:κ×V}{r:List (κ×V)}{k:κ}(e:¬ p.1=k):w4 (p::r) k=w4 r k:=by simp[w4,Vh,e]
theorem DG(k:κ):∀ kvs:List (κ×V),(kvs.any λkv=>decide (kv.1=k))=(w4 kvs k).isSome
 | []=>rfl
 | p::r=>by
   rw[WC];by_cases e:p.1=k
   ·simp only[BK e,decide_eq_true e,YA,Y6]
   ·rw[BL e,decide_eq_false e,Yb];exact DG k r
theorem Ac(kvs:List (κ×V))(k:κ)(v:V):(Aa kvs k v).length<=kvs.length+1:=by
 unfold Aa;split
 ·rw[VA];omega
 ·rw[VB,Vb,W6];omega
theorem Fp{kvs:List (κ×V)}{k:κ}(v:V)(h:w4 kvs k=none):Aa kvs k v=kvs++[(k,v)]:=by
 unfold Aa;rw[DG,h];exact iG (by decide)
theorem RelO.isSome_eq{o:Option V}{u:Option Yn}(r:RelO o u):o.isSome=u.isSome:=by
 cases o with
 | none=>cases u with
   | none=>rfl
   | some _=>exact(show False from r).elim
 | some _=>cases u with
   | none=>exact(show False from r).elim
   | some _=>rfl
theorem RelO.getD{o:Option V}{u:Option Yn}{d:V}{d':Yn}(r:RelO o u)(rd:RelV d d'):RelV (o.getD d) (u.getD d'):=by
 cases o with
 | none=>cases u with
   | none=>exact rd
   | some _=>exact(show False from r).elim
 | some _=>cases u with
   | none=>exact(show False from r).elim
   | some _=>exact r
theorem KV.val{kvs:List (κ×V)}{vs:List (κ×Yn)}(r:KV kvs vs)(k:κ):RelO (w4 kvs k) (valueAt vs k):=by
 unfold KV at r
 induction r with
 | nil=>exact True.intro
 | @cons p q ps qs h t ih=>
   obtain⟨h1,h2⟩:=h;by_cases e:p.1=k
   ·have e':q.1=k:=h1.symm.trans e;have b:valueAt (q::qs) k=some q.2:=by simp[valueAt,Vh,e']
    rw[BK e,b];exact h2
   ·have e':¬ q.1=k:=λz=>e (h1.trans z);have b:valueAt (q::qs) k=valueAt qs k:=by simp[valueAt,Vh,e']
    rw[BL e,b];exact ih
theorem KV.any{kvs:List (κ×V)}{vs:List (κ×Yn)}(r:KV kvs vs)(k:κ):(kvs.any λkv=>decide (kv.1=k))=vs.any λkv=>decide (kv.1=k):=by
 unfold KV at r
 induction r with
 | nil=>rfl
 | cons h t ih=>rw[WC,WC,ih,h.1]
theorem KV.repl{kvs:List (κ×V)}{vs:List (κ×Yn)}(r:KV kvs vs)(k:κ){y:V}{u:Yn}(ry:RelV y u):
 KV (kvs.map λkv=>if kv.1=k then (kv.1,y) else kv) (vs.map λkv=>if kv.1=k then (kv.1,u) else kv):=by
 unfold KV at r ⊢
 induction r with
 | nil=>exact .nil
 | @cons p q ps qs h t ih=>
   rw[Vk,Vk];refine .cons ?_ ih;obtain⟨h1,h2⟩:=h;by_cases e:p.1=k
   ·rw[iP e,iP (h1.symm.trans e)];exact⟨h1,ry⟩
   ·rw[iG e,iG (λz=>e (h1.trans z))];exact⟨h1,h2⟩
theorem KV.put{kvs:List (κ×V)}{vs:List (κ×Yn)}(r:KV kvs vs)(k:κ){y:V}{u:Yn}(ry:RelV y u):KV (Aa kvs k y) (stored vs k u):=by
 unfold Aa stored;rw[r.any k];by_cases e:(vs.any λkv=>decide (kv.1=k))=true
 ·rw[iP e,iP e];exact r.repl k ry
 ·rw[iG e,iG e];exact Paired.snoc r ⟨rfl,ry⟩
theorem KV.keys{kvs:List (κ×V)}{vs:List (κ×Yn)}(r:KV kvs vs):kvs.map (·.1)=vs.map (·.1):=by
 unfold KV at r
 induction r with
 | nil=>rfl
 | cons h t ih=>rw[Vk,Vk,ih,h.1]
theorem KV.length{kvs:List (κ×V)}{vs:List (κ×Yn)}(r:KV kvs vs):kvs.length=vs.length:=Paired.length r
end
theorem Fq{P:Yu}{w:Yw}{k:Key}{u:Yn}(r:RelV (kV k) u):(n0 P w).is k u=true:=by
 cases k with
 | inl i=>obtain⟨t,e⟩:=(show ∃ t,u=Value.int i t from r);subst e;exact Fe P w i t
 | inr x=>obtain⟨t,e⟩:=(show ∃ t,u=Value.str x t from r);subst e;exact Ff P w x t
theorem ET{P:Yu}{w:Yw}:∀{ks:List Key} {us:List Yn},Vals (ks.map kV) us->ItemsAre (n0 P w) ks us
 | [],_,r=>by rw[Yg]at r;cases r;exact .nil
 | k::ks,_,r=>by
   rw[Vk]at r;cases r with
   | cons h t=>exact .cons (Fq h) (ET t)
abbrev KT(H:Hp):List (List Key×V)->List (List Key×Yp×Yn)->Prop:=Paired λp q=>p.1=q.1/\H q.2.1=some (.tup (p.1.map kV))/\RelV p.2 q.2.2
theorem KT.val{H:Hp}{kvs:List (List Key×V)}{xs:List (List Key×Yp×Yn)}(r:KT H kvs xs)(k:List Key):RelO (w4 kvs k) ((atKey xs k).map (·.2)):=by
 induction r with
 | nil=>exact True.intro
 | @cons p q ps qs h t ih=>
   obtain⟨h1,_,h2⟩:=h;by_cases e:p.1=k
   ·have e':q.1=k:=h1.symm.trans e;have b:atKey (q::qs) k=some q.2:=by simp[atKey,Vh,e']
    rw[BK e,b];exact h2
   ·have e':¬ q.1=k:=λz=>e (h1.trans z);have b:atKey (q::qs) k=atKey qs k:=by simp[atKey,Vh,e']
    rw[BL e,b];exact ih
theorem KT.repl{H:Hp}{kvs:List (List Key×V)}{xs:List (List Key×Yp×Yn)}(r:KT H kvs xs)(k:List Key){y:V}{u:Yn}(ry:RelV y u):
 KT H (kvs.map λkv=>if kv.1=k then (kv.1,y) else kv) (xs.map (putAt k u)):=by
 induction r with
 | nil=>exact .nil
 | @cons p q ps qs h t ih=>
   rw[Vk,Vk];refine .cons ?_ ih;obtain⟨h1,h2,h3⟩:=h;unfold putAt;by_cases e:p.1=k
   ·rw[iP e,iP (h1.symm.trans e)];exact⟨h1,h2,ry⟩
   ·rw[iG e,iG (λz=>e (h1.trans z))];exact⟨h1,h2,h3⟩
theorem KT.put{H:Hp}{kvs:List (List Key×V)}{xs:List (List Key×Yp×Yn)}(r:KT H kvs xs)(k:List Key){b:Yp}{y:V}{u:Yn}(hb:H b=some (.tup (k.map kV)))(ry:RelV y u):
 KT H (Aa kvs k y) (storedH xs k b u):=by
 have e:(kvs.any λkv=>decide (kv.1=k))=(atKey xs k).isSome:=by
  rw[DG,(r.val k).isSome_eq,Option.isSome_map]
 unfold Aa storedH;rw[e];by_cases q:(atKey xs k).isSome=true
 ·rw[iP q,iP q];exact r.repl k ry
 ·rw[iG q,iG q];exact Paired.snoc r ⟨rfl,hb,ry⟩
theorem KT.keeps{H H':Hp}{kvs:List (List Key×V)}{xs:List (List Key×Yp×Yn)}(r:KT H kvs xs)(ht:∀ b ys,H b=some (.tup ys)->H' b=some (.tup ys)):KT H' kvs xs:=
 Paired.mapP r λ_ _ z=>⟨z.1,ht _ _ z.2.1,z.2.2⟩
section
variable{P:Yu}{w:Yw}{H:Hp}{h:Heap}{a:Yp}
theorem QX{u:HO}(ok:HOk P w H h)(e:Rd H a u):ObjOk P w H h a u:=e.ok ok
theorem Fs{kvs:List (Key×V)}(ok:HOk P w H h)(e:Rd H a (.dK kvs)):kvs.length<=Yr/\(a == Z7)=false/\∃ vs,KV kvs vs/\h.DictOf (n0 P w) a vs:=
 show ObjOk P w H h a (.dK kvs) from QX ok e
theorem QY{kvs:List (Key×V)}(ok:HOk P w H h)(e:H a=some (.dK kvs)):kvs.length<=Yr/\(a == Z7)=false/\∃ vs,KV kvs vs/\h.DictOf (n0 P w) a vs:=Fs ok (.inl e)
theorem DH{ks:List Key}(ok:HOk P w H h)(e:H a=some (.tup (ks.map kV))):(Zn (n0 P w)).is h ks a:=by
 obtain⟨_,its,r,o,h1,h2,n,h3⟩:=(show ObjOk P w H h a (.tup (ks.map kV)) from ok a _ e)
 exact⟨o,its.toArray,n,h1,h2,h3,by simpa using ET r⟩
theorem Ft{kvs:List (List Key×V)}(ok:HOk P w H h)(e:Rd H a (.dT kvs)):kvs.length<=Yr/\(a == Z7)=false/\
 ∃ xs,KT H kvs xs/\h.DictOfH (Zn (n0 P w)) a xs:=by
 obtain⟨z,y,xs,r,o,es,ep,h1,h2,h3,h4,h5⟩:=(show ObjOk P w H h a (.dT kvs) from QX ok e)
 refine⟨z,y,xs,r,o,es,ep,h1,h2,h3,h4,λx hx=>?_,h5⟩
 have all:∀{l:List (List Key×V)} {m:List (List Key×Yp×Yn)},KT H l m->∀ x∈m,(Zn (n0 P w)).is h x.1 x.2.1:=by
  intro l m q
  induction q with
  | nil=>intro x hx;exact nomatch hx
  | @cons p q ps qs hq t ih=>
    intro x hx;rcases VW.mp hx with e | hx
    ·subst e;exact DH ok (by rw[<-hq.1];exact hq.2.1)
    ·exact ih x hx
 exact all r x hx
theorem MB{kvs:List (List Key×V)}(ok:HOk P w H h)(e:H a=some (.dT kvs)):kvs.length<=Yr/\(a == Z7)=false/\
 ∃ xs,KT H kvs xs/\h.DictOfH (Zn (n0 P w)) a xs:=Ft ok (.inl e)
end
def DGet(H:Hp)(a:Yp)(y:V)(r:Option V):Prop:=
 (∃ kvs k,Rd H a (.dK kvs)/\y=kV k/\r=w4 kvs k)\/∃ kvs k b,Rd H a (.dT kvs)/\y = .ref b/\H b=some (.tup (k.map kV))/\r=w4 kvs k
def DPut(H:Hp)(a:Yp)(y v:V)(H':Hp):Prop:=
 (∃ kvs k,H a=some (.dK kvs)/\y=kV k/\kvs.length<Yr/\H'=upd H a (.dK (Aa kvs k v)))\/
 ∃ kvs k b,H a=some (.dT kvs)/\y = .ref b/\H b=some (.tup (k.map kV))/\kvs.length<Yr/\H'=upd H a (.dT (Aa kvs k v))
theorem DGet.t{H:Hp}{a b:Yp}{kvs:List (List Key×V)}{k:List Key}(e:H a=some (.dT kvs))(eb:H b=some (.tup (k.map kV))):DGet H a (.ref b) (w4 kvs k) := .inr ⟨kvs,k,b,.inl e,rfl,eb,rfl⟩
theorem DPut.t{H:Hp}{a b:Yp}{kvs:List (List Key×V)}{k:List Key}{v:V}(e:H a=some (.dT kvs))(eb:H b=some (.tup (k.map kV)))(hl:kvs.length<Yr):
 DPut H a (.ref b) v (upd H a (.dT (Aa kvs k v))) := .inr ⟨kvs,k,b,e,rfl,eb,hl,rfl⟩
section
variable{X:Cx}{pq:List (Yp×Obj)}{σ:St}{H:Hp}{s:Yo}{a:Yp}{y v:V}{u r:Yn}{o:Option V}{A:Z0}{E:Yn->Yo->Prop}
theorem Inv.big(I:Inv X pq σ H s):Z7<s.heap.objs.size:=by
 have h:Yv<s.heap.objs.size:=(I.mod.glob.keeps I.bk).lt;exact Nat.lt_trans (by decide) h
theorem KS{Q:Yn->Yo->Prop}(hu:A.units+1<cLine)(I:Inv X pq σ H s)(g:DGet H a y (some v))(ry:RelV y u)(h:∀ w' s',Inv X pq σ H s'->RelV v w'->Q w' s'):
 Ys (Yt X.prog X.w) A (getItem (.ref a) u) Q E s:=by
 rcases g with⟨kvs,k,e,ey,l⟩ | ⟨kvs,k,b,e,ey,eb,l⟩
 ·subst ey;obtain⟨z,hd,vs,rel,dd⟩:=Fs I.hok e;obtain⟨w',hw,rw'⟩:=RelO.some_of (v:=v) (o:=valueAt vs k) (by rw[l];exact rel.val k);exact wpAny_getItem_of (Fq ry) dd.mapOf hw (h w' _ (I.tok _) rw')
 ·subst ey;cases(show u=Value.ref b from ry);obtain⟨z,hd,xs,rel,dd⟩:=Ft I.hok e;obtain⟨w',hw,rw'⟩:=RelO.some_of (v:=v) (o:=(atKey xs k).map (·.2)) (by rw[l];exact rel.val k);obtain⟨p,hp,hp2⟩:=Xj.mp hw;refine wpAny_getItem_heap (Zc hu) (DH I.hok eb) dd hp ?_;rw[hp2];exact h w' _ (I.tok _) rw'
theorem Cv{h':Heap}{t':Nat}{ob:HO}(I:Inv X pq σ H s)(mu:Mut (H a))(hs:W7 a s.heap h')(he:∃ q,h'.get? a=some q)(new:ObjOk X.prog X.w (upd H a ob) h' a ob):
 Inv X pq σ (upd H a ob) {s with heap:=h',toks:=t'}:=
 I.write (x:=a) (e:=a) mu (.inl rfl) (λb q hb z=>(hs.2 b hb).trans z) he new
theorem MC{P:Yu}{w:Yw}{H':Hp}{h':Heap}{kvs:List (Key×V)}{vs:List (Key×Yn)}(z:kvs.length<=Yr)(hd:(a == Z7)=false)(rel:KV kvs vs)(dd:h'.DictOf (n0 P w) a vs):
 ObjOk P w H' h' a (.dK kvs):=⟨z,hd,vs,rel,dd⟩
theorem KU{H':Hp}{Q:Unit->Yo->Prop}(hu:A.units+1<cLine)(I:Inv X pq σ H s)(g:DPut H a y v H')(ry:RelV y u)(rv:RelV v r)(h:∀ s',Inv X pq σ H' s'->Q () s'):
 Ys (Yt X.prog X.w) A (setItem (.ref a) u r) Q E s:=by
 rcases g with⟨kvs,k,e,ey,l,eH⟩ | ⟨kvs,k,b,e,ey,eb,l,eH⟩
 ·subst ey eH;obtain⟨z,hd,vs,rel,dd⟩:=QY I.hok e;have hz:vs.length<=Yr:=by rw[<-rel.length];exact z
  have hl:(Aa kvs k v).length<=Yr:=by have:=Ac kvs k v;omega
  refine wpAny_setItem_pairs (hsz:=hz) (Fq ry) dd λh' dd' hs=>h _ ?_;have he:∃ q,h'.get? a=some q:=let ⟨q,_,_,hq,_⟩:=dd';⟨q,hq⟩
  exact Cv I (by rw[e];exact True.intro) hs he (MC hl hd (rel.put k rv) dd')
 ·subst ey eH;cases(show u=Value.ref b from ry);obtain⟨z,hd,xs,rel,dd⟩:=MB I.hok e;have hz:xs.length<=Yr:=by rw[<-Paired.length rel];exact z
  have hl:(Aa kvs k v).length<=Yr:=by have:=Ac kvs k v;omega
  refine wpAny_setItem_heap (hsz:=hz) (Zc hu) (DH I.hok eb) dd λh' dd' hs=>h _ ?_;obtain⟨q,es,ep,hq,h2,h3,h4,_,h5⟩:=dd';refine Cv I (by rw[e];exact True.intro) hs ⟨q,hq⟩ ⟨hl,hd,_,(rel.put k eb rv).keeps λc ys ec=>?_,q,es,ep,hq,h2,h3,h4,h5⟩;rw[i7 (LZ ec e (λz=>nomatch z))];exact ec
end
def Tx(i:Expr):Prop:=∀ ov iv,A09 i false ov iv=operate [ov,iv] (getItem ov iv)
theorem Oe{prog:Yu}{w:Yw}{A:Z0}{E:Yn->Yo->Prop}{s:Yo}{env:Env}{value slice:Expr}{pos:Pos}{T id:String}{Q:Yn->Yo->Prop}
 (hl:typeLookup (.type T) "__getitem__"=pure (some (.builtin id))) (hs:Tx slice)
 (h:Ys (Yt prog w) A (eval value env) (λo s₁=>Ys (Yt prog w) A (eval slice env) (λi s₂=>s₂.TypeIs o T/\Ys (Yt prog w) A (getItem o i) Q E s₂) E s₁) E s):
 Ys (Yt prog w) A (eval (.Subscript value slice pos) env) Q E s:=by
 refine A0C (ZE h (λo s₁ h₁=>ZE h₁ (λi s₂ h₂=>?_) λ_ _ x=>x) λ_ _ x=>x);obtain⟨hT,h₂⟩:=h₂;unfold A0g;refine Ym ?_;rw[getitemInPython_of_ne hT.not_modules];refine Ym (wpAny_specialOf hT hl ?_)
 have fin:Ys (Yt prog w) A (A09 slice false o i) (λr s₃=>Ys (Yt prog w) A (letTemporaryGo value o r >>= λ_=>pure r) Q E s₃) E s₂:=by
  rw[hs o i];exact wpAny_operating (ZE h₂ (λr s₃ h₃=>Ym (wpAny_letTemporaryGo (Yq h₃))) λ_ _ x=>x)
 first
  | exact Yq (Ym fin)
  | exact Ym (Yq (Ym fin))
  | exact Ym fin
theorem Fu{X:Cx}{pq:List (Yp×Obj)}{σ:St}{H:Hp}{s:Yo}{a:Yp}{y:V}{o:Option V}(I:Inv X pq σ H s)(g:DGet H a y o):s.TypeIs (.ref a) "dict":=by
 rcases g with⟨kvs,k,e,_,_⟩ | ⟨kvs,k,b,e,_,_,_⟩
 ·obtain⟨_,_,vs,_,dd⟩:=Fs I.hok e;exact dd.typeIs
 ·obtain⟨_,_,xs,_,dd⟩:=Ft I.hok e;exact dd.typeIs
def Ty(td ty:TE):TE:=λσ H Q=>td σ H λx H1=>ty σ H1 λy H2=>∃ a v,x = .ref a/\DGet H2 a y (some v)/\Q v H2
def QZ(td ty tv:TE):TS:=λD σ H=>tv σ H λv H1=>td σ H1 λx H2=>ty σ H2 λy H3=>∃ a H4,x = .ref a/\DPut H3 a y v H4/\D.nx σ H4
section
variable{X:Cx}{o i e value:Expr}{pos pos' tpos:Pos}{td ty tv:TE}
theorem Of(hu:X.A.units+1<cLine)(ho:PE X o td)(hi:PE X i ty)(hs:Tx i):PE X (.Subscript o i pos) (Ty td ty):=by
 intro pq s σ H Q I h;refine Oe PySem.F.slot_dict_getitem.lookup hs (thn (ho pq s σ H _ I h) λu s1 ⟨x,H1,I1,rx,q1⟩=>thn (hi pq s1 σ H1 _ I1 q1) λiv s2 ⟨y,H2,I2,ry,a,v,ex,g,q2⟩=>?_);subst ex;obtain rfl:u=Value.ref a:=rx;exact⟨Fu I2 g,KS hu I2 g ry λw' s3 I3 rw'=>⟨v,H2,I3,rw',q2⟩⟩
theorem Og(hu:X.A.units+1<cLine)(ho:PE X o td)(hi:PE X i ty)(hv:PE X value tv)(hs:ZN value (some (.Subscript o i pos')) pos.line X.env=pure false):
 PS X (.Assign [.Subscript o i pos'] value pos) (QZ td ty tv):=by
 intro pq s σ H D I h;refine wpAny_Assign_Subscript (thn (hv pq s σ H _ I h) λr s1 ⟨v,H1,I1,rv,q1⟩=>thn (ho pq s1 σ H1 _ I1 q1) λu s2 ⟨x,H2,I2,rx,q2⟩=>thn (hi pq s2 σ H2 _ I2 q2) λiv s3 ⟨y,H3,I3,ry,a,H4,ex,g,q3⟩=>?_) hs;subst ex;obtain rfl:u=Value.ref a:=rx;exact KU hu I3 g ry rv λs4 I4=>⟨σ,H4,I4,q3⟩
end
theorem MD{P:Yu}{w:Yw}{H:Hp}(h:Heap)(hb:Z7<h.objs.size):ObjOk P w H (h.push {cls := .type "dict",data := .dict #[]}) h.objs.size (.dK []):=
 ⟨W8 _,beq_eq_false_iff_ne.mpr (Ne.symm (VT hb)),[],.nil,Heap.DictOf.new h⟩
theorem ME{P:Yu}{w:Yw}{H:Hp}(h:Heap)(hb:Z7<h.objs.size):ObjOk P w H (h.push {cls := .type "dict",data := .dict #[]}) h.objs.size (.dT []):=
 ⟨W8 _,beq_eq_false_iff_ne.mpr (Ne.symm (VT hb)),[],.nil,_,#[],0,VV _ rfl,⟨rfl,rfl,rfl⟩,rfl,rfl,YW⟩
def Rr:TE:=λ_ H Q=>∀ p,H p=none->Q (.ref p) (upd H p (.dK []))
def Rs:TE:=λ_ H Q=>∀ p,H p=none->Q (.ref p) (upd H p (.dT []))
section
variable{X:Cx}{pos:Pos}
theorem MF:PE X (.Dict [] [] pos) Rr:=λpq s σ H Q I h=>
 A0s ⟨.ref s.heap.objs.size,_,I.laid (a:=s.heap.objs.size) (o := .dK []) (t':=s.toks) (λ_ _ q=>VG _ q) (VH _) (MD s.heap I.big),rfl,h _ (I.hok.fresh (VH _))⟩
theorem Fv:PE X (.Dict [] [] pos) Rs:=λpq s σ H Q I h=>
 A0s ⟨.ref s.heap.objs.size,_,I.laid (a:=s.heap.objs.size) (o := .dT []) (t':=s.toks) (λ_ _ q=>VG _ q) (VH _) (ME s.heap I.big),rfl,h _ (I.hok.fresh (VH _))⟩
end
structure M2(X:Cx)(o:Expr)(m:Str)(apos:Pos)(e f:Expr)(cpos:Pos):Prop where
 base:Za o m X.env (eval o X.env)=eval o X.env
 few:((backTo cpos (Yy [e,f] X.env)).all (λx=>!x.1)&&(Zp cpos (ZX [] X.env)).all (λx=>x.1.isSome)
  && decide (([e,f]:List Expr).length+([]:List Keyword).length+(if ([]:List Keyword).isEmpty then 0 else 1)<30))=true
 line:(apos.endLine == cpos.line)=true
 trees:backTo cpos (Yy [e,f] X.env)=[(false,eval e X.env),(false,eval f X.env)]
def IsD(H:Hp)(a:Yp):Prop:=(∃ kvs,Rd H a (.dK kvs))\/∃ kvs,Rd H a (.dT kvs)
theorem Hs{X:Cx}{pq:List (Yp×Obj)}{σ:St}{H:Hp}{s:Yo}{a:Yp}(I:Inv X pq σ H s)(d:IsD H a):
 s.TypeIs (.ref a) "dict"/\(∀ b,Value.ref a = .ref b->∃ ob,s.heap.get? b=some ob/\ob.dict=none)/\(a == Z7)=false:=by
 rcases d with⟨kvs,e⟩ | ⟨kvs,e⟩
 ·obtain⟨_,hd,vs,_,dd⟩:=Fs I.hok e;refine⟨dd.typeIs,λb q=>?_,hd⟩;cases q;obtain⟨ob,_,_,h1,h2,_⟩:=dd;exact⟨ob,h1,h2.2.1⟩
 ·obtain⟨_,hd,xs,_,dd⟩:=Ft I.hok e;refine⟨dd.typeIs,λb q=>?_,hd⟩;cases q;obtain⟨ob,_,_,h1,h2,_⟩:=dd;exact⟨ob,h1,h2.2.1⟩
section
variable{X:Cx}{pq:List (Yp×Obj)}{σ:St}{H:Hp}{s:Yo}{a:Yp}{y d:V}{u r:Yn}{o:Option V}{A:Z0}{E:Yn->Yo->Prop}
theorem Rt{Q:Yn->Yo->Prop}(hu:A.units+1<cLine)(I:Inv X pq σ H s)(g:DGet H a y o)(ry:RelV y u)(rd:RelV d r)(h:∀ w' s',Inv X pq σ H s'->RelV (o.getD d) w'->Q w' s'):
 Ys (Yt X.prog X.w) A (call (.builtin "dict.get") [.ref a,u,r]) Q E s:=by
 rcases g with⟨kvs,k,e,ey,l⟩ | ⟨kvs,k,b,e,ey,eb,l⟩
 ·subst ey;obtain⟨z,hd,vs,rel,dd⟩:=Fs I.hok e;refine Zm PySem.F.slot_dict_get dd.typeIs PySem.F.entry_dict_get (PySem.F.args_dict_get_3 _ _ _) (meets_dict_get_default (n0 X.prog X.w) a (Fq ry) hd r) ⟨_,dd.mapOf,h _ _ (I.tok _) ?_⟩;rw[l];exact(rel.val k).getD rd
 ·subst ey;cases(show u=Value.ref b from ry);obtain⟨z,hd,xs,rel,dd⟩:=Ft I.hok e;refine Zm PySem.F.slot_dict_get dd.typeIs PySem.F.entry_dict_get (PySem.F.args_dict_get_3 _ _ _) (meetsH_dict_get_default (Zn (n0 X.prog X.w)) a b hd r) ⟨Zc hu,k,xs,DH I.hok eb,dd,h _ _ (I.tok _) ?_⟩;rw[l];exact(rel.val k).getD rd
end
def Ru(td ty tx:TE):TE:=λσ H Q=>td σ H λx H1=>∃ a,x = .ref a/\IsD H1 a/\ty σ H1 λy H2=>tx σ H2 λz H3=>∃ o,DGet H3 a y o/\Q (o.getD z) H3
section
variable{X:Cx}{o e f:Expr}{apos cpos:Pos}{td ty tx:TE}
theorem MG(hu:X.A.units+1<cLine)(ho:PE X o td)(he:PE X e ty)(hf:PE X f tx)(m:M2 X o "get" apos e f cpos):PE X (.Call (.Attribute o "get" apos) [e,f] [] cpos) (Ru td ty tx):=by
 intro pq s σ H Q I h;refine Zv m.base m.few m.line PySem.F.plainAttrs_dict PySem.F.slot_dict_get PySem.F.type_dict_get (thn (ho pq s σ H _ I h) λu s1 ⟨x,H1,I1,rx,a,ex,d,q1⟩=>?_);subst ex;obtain rfl:u=Value.ref a:=rx;obtain⟨t1,t2,_⟩:=Hs I1 d;refine⟨t1,t2,?_⟩;rw[m.trees]
 refine Calls.callWith_builtin rfl (Calls.evalArgs_plain (Calls.spliced_cons (thn (he pq s1 σ H1 _ I1 q1) λiv s2 ⟨y,H2,I2,ry,q2⟩=>
  Calls.spliced_cons (thn (hf pq s2 σ H2 _ I2 q2) λfv s3 ⟨z,H3,I3,rz,ov,g,q3⟩=>Calls.spliced_nil ?_))))
 exact Rt hu I3 g ry rz λw' s4 I4 rw'=>⟨_,H3,I4,rw',q3⟩
end
mutual
noncomputable def Dat(H:Hp):V->PyData->Prop
 | x,.none=>x = .non
 | x,.bool b=>x = .bl b
 | x,.int i=>x = .int i
 | x,.str s=>x = .str s
 | x,.list ds=>∃ a xs,x = .ref a/\H a=some (.lst xs)/\DatAll H xs ds
 | x,.tuple ds=>∃ a xs,x = .ref a/\H a=some (.tup xs)/\DatAll H xs ds
 | _,.dict _=>False
noncomputable def DatAll(H:Hp):List V->List PyData->Prop
 | [],[]=>True
 | x::xs,d::ds=>Dat H x d/\DatAll H xs ds
 | [],_::_=>False
 | _::_,[]=>False
end
mutual
theorem Dat.mono{H H':Hp}(k:∀ b o,H b=some o->H' b=some o):∀(x:V) (d:PyData),Dat H x d->Dat H' x d
 | _,.none,h=>by unfold Dat at h ⊢;exact h
 | _,.bool _,h=>by unfold Dat at h ⊢;exact h
 | _,.int _,h=>by unfold Dat at h ⊢;exact h
 | _,.str _,h=>by unfold Dat at h ⊢;exact h
 | x,.list ds,h=>by
   unfold Dat at h ⊢;obtain⟨a,xs,e,h1,h2⟩:=h;exact⟨a,xs,e,k _ _ h1,DatAll.mono k xs ds h2⟩
 | x,.tuple ds,h=>by
   unfold Dat at h ⊢;obtain⟨a,xs,e,h1,h2⟩:=h;exact⟨a,xs,e,k _ _ h1,DatAll.mono k xs ds h2⟩
 | _,.dict _,h=>by unfold Dat at h;exact h.elim
theorem DatAll.mono{H H':Hp}(k:∀ b o,H b=some o->H' b=some o):∀(xs:List V) (ds:List PyData),DatAll H xs ds->DatAll H' xs ds
 | [],[],_=>by unfold DatAll;trivial
 | x::xs,d::ds,h=>by
   unfold DatAll at h ⊢;exact⟨Dat.mono k x d h.1,DatAll.mono k xs ds h.2⟩
 | [],_::_,h=>by unfold DatAll at h;exact h.elim
 | _::_,[],h=>by unfold DatAll at h;exact h.elim
end
section
variable{X:Cx}{a b:Expr}{ta:TE}{pos:Pos}
theorem KW:OpR X (Z2 .IsNot) (λx y H Q=>∃ c d,x = .bl c/\y = .bl d/\Q (.bl (c != d)) H):=by
 intro pq s σ H x y v u Q I rx ry h;obtain⟨c,d,rfl,rfl,q⟩:=h;cases rx;cases ry;exact isnot_bool ⟨.bl (c != d),H,I,rfl,q⟩
end
section
variable{X:Cx}
theorem MH{prog:Yu}{w:Yw}{A:Z0}{E:Yn->Yo->Prop}{s:Yo}{t b:Yp}{ws:List Yn}{Q:Yn->Yo->Prop}(ht:IsTup s.heap t #[])(hb:IsTup s.heap b ws.toArray)(h1:Q (.ref b) s):
 Ys (Yt prog w) A (ZG .Add (.ref t) (.ref b)) Q E s:=by
 obtain⟨⟨cls,dd,data,sl⟩,ho,hc,n,hd⟩:=id ht;obtain⟨⟨cls2,dd2,data2,sl2⟩,ho2,hc2,n2,hd2⟩:=id hb;simp only at hc hd hc2 hd2;subst hc hd hc2 hd2
 exact A0m ⟨_,ho,rfl⟩ ⟨_,ho2,rfl⟩ Zy A0f PySem.F.slot_tuple_add PySem.F.entry_tuple_add (PySem.F.args_tuple_add_2 _ _)
  (tuple_addW0 t b #[] ws.toArray n n2 dd dd2 sl sl2 (by simp)) ⟨ho,ho2,h1⟩
def MI(K:V8):R2:=λx y H Q=>∃ a b ys,x = .ref a/\y = .ref b/\SqT K H a []/\SqT K H b ys/\Q (.ref b) H
theorem Oh:OpR X (ZG .Add) (MI X.K):=by
 intro pq s σ H x y v u Q I rx ry h;obtain⟨a,b,ys,rfl,rfl,ha,hb,q⟩:=h;cases rx;cases ry;obtain⟨its,r1,p1,_⟩:=I.tuple ha;obtain⟨its2,r2,p2,_⟩:=I.tuple hb;cases r1;exact MH p1 p2 ⟨.ref b,H,I,rfl,q⟩
theorem Oi:OpR X (ZG .Add) (λx y H Q=>Lx X.K x y H Q\/MI X.K x y H Q):=op_catT.or Oh
end
section
variable{prog:Yu}{w:Yw}{A:Z0}{E:Yn->Yo->Prop}{s:Yo}
open HT in
theorem E5{t sl:Yp}{items:Array Yn}{vl vu:Yn}{lo hi:Option Int}{Q:Yn->Yo->Prop}(ht:IsTup s.heap t items)(hs:s.heap.IsSliceOf sl vl vu .none)(pl:IsPart vl lo)(pu:IsPart vu hi)
 (hw:sIx items.size 0 lo=0/\sIx items.size items.size hi=items.size) (h:Q (.ref t) s):Ys (Yt prog w) A (getItem (.ref t) (.ref sl)) Q E s:=by
 obtain⟨os,hos,hcs,hds⟩:=id hs;have hTs:s.TypeIs (.ref sl) "slice":=⟨os,hos,hcs⟩
 unfold getItem
 try with_reducible refine Z6 ?_
 first | refine Ym (Yq ?_) | skip
 refine Ym (A0n ht.typeIs (by decide) ?_)
 refine Ym (Z5 (name:=Str.ofString "__getitem__") ht.typeIs PyProof.Rows.slot_tuple_getitem
  (ZH PyProof.Rows.slot_tuple_getitem ht.typeIs A0c ?_ (A0i _ _)))
 show Ys _ _ (Builtin.Tuple.tupleItemsOf (.ref t) >>= _) _ _ s;refine Ym (tupleItemsOf_ ht ?_);refine Ym (A0o hTs ?_);rw[iP (by decide)];refine Ym (An hs pl pu ?_)
 have hyes:(((sIx items.size 0 lo:Nat):Int) == 0&&(1:Int) == 1&&(sIx items.size items.size hi - sIx items.size 0 lo) == items.size)=true:=by
  rw[hw.1,hw.2];simp
 show Ys _ _ (if (((sIx items.size 0 lo:Nat):Int) == 0&&(1:Int) == 1&&(sIx items.size items.size hi - sIx items.size 0 lo) == items.size)=true then _ else _) _ _ s;rw[iP hyes];unfold Builtin.Tuple.tupleIsExact;refine Ym (Ym (A0o ht.typeIs (Yq ?_)));rw[iP (by decide)];exact Ym (Zi (Yq ⟨_,rfl,Yq h⟩))
end
section
variable{X:Cx}
def Tz(K:V8):V->Option Int->Option Int->Hp->VK->Prop:=λx lo hi H Q=>∃ a xs,x = .ref a/\SqT K H a xs/\(HT.sIx xs.length 0 lo=0/\HT.sIx xs.length xs.length hi=xs.length)/\Q (.ref a) H
theorem Oj:SlR X (Tz X.K):=by
 intro pq s σ H x v vl vu lo hi sl Q I rx hs pl pu h;obtain⟨a,xs,rfl,hx,hw,q⟩:=h;cases rx;obtain⟨its,r,ht,hz⟩:=I.tuple hx;have hlen:its.toArray.size=xs.length:=by rw[VF];exact r.length.symm
 exact⟨"tuple",_,PyProof.Rows.slot_tuple_getitem.lookup,ht.typeIs,E5 ht hs pl pu (by rw[hlen];exact hw) ⟨.ref a,H,I,rfl,q⟩⟩
end
section
variable{prog:Yu}{w:Yw}{A:Z0}{E:Yn->Yo->Prop}{s:Yo}
def IsPr(h:Heap)(v:Yn)(a b:Int):Prop:=∃ p o n t u,v = .ref p/\h.get? p=some o/\o.cls = .type "tuple"/\o.data = .seq #[.int a t,.int b u] n
theorem IsPr.at{h h':Heap}{v:Yn}{a b:Int}(x:IsPr h v a b)(k:∀ p o,h.get? p=some o->o.cls = .type "tuple"->h'.get? p=some o):IsPr h' v a b:=by
 obtain⟨p,o,n,t1,t2,e,ho,hc,hd⟩:=x;exact⟨p,o,n,t1,t2,e,k p o ho hc,hc,hd⟩
end
def Up(xs:Array Nat):Prop:=∀ i j (hi:i<xs.size) (hj:j<xs.size),i<j->xs[i]<xs[j]
structure Tab(w:Yw)(t:A02):Prop where
 up:Up t.place
 no:t.dummies=#[]
 led:t.led=!w.params.followText "set-order"
noncomputable def SetX(prog:Yu)(w:Yw)(h:Heap)(a:Yp)(L:List Int):Prop:=
 ∃ o es ep t,h.get? a=some o/\o.ExactSet/\o.data = .set es ep t/\ElemsOf (intKind prog w) es.toList/\es.size<scanBound/\t.fits es.size=true/\Tab w t/\(es.toList.map λe=>numOf e.2).Perm L
section
variable{prog:Yu}{w:Yw}{A:Z0}{E:Yn->Yo->Prop}{s:Yo}
theorem SetX.keep{h h':Heap}{a:Yp}{L:List Int}(x:SetX prog w h a L)(k:∀ o,h.get? a=some o->h'.get? a=some o):SetX prog w h' a L:=by
 obtain⟨o,es,ep,t,ho,r⟩:=x;exact⟨o,es,ep,t,k o ho,r⟩
theorem JA{k:Int}{v:Yn}(h:(intKind prog w).is k v=true):numOf v=k:=by
 obtain⟨t,rfl⟩:=Value.isInt_shape (k:=k) (v:=v) h;rfl
end
end L2
set_option maxHeartbeats 400000
namespace L2
open PySem PySem.Spec PyProof.Rows
def SetAt(w:Yw)(h:Heap)(a:Yp)(es:Array (Int×Yn))(ep:Nat)(t:A02):Prop:=∃ o,h.get? a=some o/\o.cls = .type "set"/\o.data = .set es ep t/\t.fits es.size=true/\Tab w t
theorem SetAt.keep{w:Yw}{h h':Heap}{a:Yp}{es:Array (Int×Yn)}{ep:Nat}{t:A02}(x:SetAt w h a es ep t)(k:∀ o,h.get? a=some o->h'.get? a=some o):SetAt w h' a es ep t:=let ⟨o,e,r⟩:=x;⟨o,k o e,r⟩
def slotAt(t:A02)(i:Nat):Nat:=if i=0 then 0 else t.place.getD (i - 1) 0+1
inductive Way(w:Yw)(h:Heap)(T0 S:Yp)(es:Array (Int×Yn))(ep:Nat)(t:A02)(fs:List (Int×Yn))(i:Nat):Yn->Prop where
 | text (hw:w.params.followText "set-order"=true) (hf:fs=(pickOrder (w.params.setOrder S ep) es).toList):Way w h T0 S es ep t fs i (.int 0 0)
 | table (hw:w.params.followText "set-order"=false) (hd:(!t.plain&&decide (es.size>1))=false) (hf:fs=es.toList):Way w h T0 S es ep t fs i (.int (slotAt t i:Nat) 0)
 | drawn (hw:w.params.followText "set-order"=false) (pl:List Nat) (o:Obj) (n:Nat) (ho:h.get? T0=some o) (hd:o.data = .seq (pl.map λk=>Value.int (k:Nat) 0).toArray n) (hl:pl.length=fs.length)
    (hf:∀(k:Nat) p,pl[k]?=some p->es[p]?=fs[k]?):Way w h T0 S es ep t fs i (.ref T0)
def Sit(w:Yw)(h:Heap)(T0 I S:Yp)(es:Array (Int×Yn))(ep:Nat)(t:A02)(fs:List (Int×Yn))(i:Nat):Prop:=
 ∃ o first,h.get? I=some o/\o.cls = .type "set_iterator"/\o.data = .fields #[first,.int (i:Nat) 0,.ref S,.int (es.size:Nat) 0,.int (ep:Nat) 0]/\Way w h T0 S es ep t fs i first
section
variable{prog:Yu}{w:Yw}{A:Z0}{E:Yn->Yo->Prop}{s:Yo}{T0 I S:Yp}{es:Array (Int×Yn)}{ep:Nat}{t:A02}{fs:List (Int×Yn)}{i:Nat}
theorem Sit.typeIs(x:Sit w s.heap T0 I S es ep t fs i):s.TypeIs (.ref I) "set_iterator":=let ⟨o,_,e,c,_⟩:=x;⟨o,e,c⟩
theorem Sit.keep{h h':Heap}(x:Sit w h T0 I S es ep t fs i)(k:∀ b,b=I\/b=T0->∀ o,h.get? b=some o->h'.get? b=some o):Sit w h' T0 I S es ep t fs i:=by
 obtain⟨o,first,ho,hc,hd,W⟩:=x;refine⟨o,first,k I (.inl rfl) _ ho,hc,hd,?_⟩;cases W with
 | text hw hf=>exact .text hw hf
 | table hw hp hf=>exact .table hw hp hf
 | drawn hw pl oT n hoT hdT hl hf=>exact .drawn hw pl oT n (k T0 (.inr rfl) _ hoT) hdT hl hf
end
end L2
set_option maxHeartbeats 800000
namespace L2
open PySem PySem.Spec PyProof.Rows
theorem _root_.L2.Inv.dr{X:Cx}{pq:List (Yp×Obj)}{σ:St}{H:Hp}{s:Yo}(I:Inv X pq σ H s)(d:Drawn):Inv X pq σ H {s with drawn:=d}:=
 ⟨I.ok,I.os,I.bare,I.base,I.loc,I.cell,I.free,I.freeC,I.pin,I.hok,I.len⟩
theorem U0:Yx "sum"=some (.builtin "sum"):=by decide +kernel
section
variable{X:Cx}
theorem KY(hc:X.calm=true):CallR X (.builtin "sum") (λxs H Q=>∃(p:Yp) (a b:Int),xs=[.ref p]/\SqT X.K H p [.int a,.int b]/\Q (.int (a+b)) H):=by
 intro pq s σ H xs us Q I r h;obtain⟨p,a,b,rfl,hq,q⟩:=h;obtain⟨u,rfl,ru⟩:=AQ r;cases ru;obtain⟨its,rv,pt,hz⟩:=I.tuple hq;have hI:=B0 (ns:=[a,b]) rv;have hl:=rv.length;have hlt:p<s.heap.objs.size:=by obtain⟨o,e,_⟩:=pt;exact VO e
 have hpt:s.heap.IsTuple p its.toArray:=pt;refine call_sum_walkG (ZR hpt ?_);refine⟨s.heap.objs.size,_,_,_,_,_,λi=>[a,b].getD i 0,rfl,Walks.tuple (by exact I.ok.hd hc) s.heap.objs.size p (VT hlt) its.toArray,⟨⟨_,VV _ rfl,rfl,rfl⟩,hpt.at λo e=>VG _ e⟩,?_,?_,?_⟩
 ·intro b hb;rw[WD];rcases VW.mp hb with z | z
  ·rw[z];exact Wq _
  ·rw[VU.mp z];exact Wa hlt
 ·intro i v hv;exact IntsAre.int_at hI i v (by simpa using hv)
 ·intro h' tk t' hk;have I1:Inv X pq σ H {s with heap:=h',toks:=tk}:=I.kept λb o e=>hk b o (by simp;exact VT (VO e)) (VG _ e);refine⟨.int (a+b),H,I1,⟨t',?_⟩,q⟩;have e:its.toArray.size=2:=by rw[VF,<-hl];rfl
  rw[e];show Value.int (0+a+b) t'=_;rw[Wl]
end
end L2
set_option maxHeartbeats 2000000
namespace L2
open PySem PySem.Spec PyProof.Rows
open PySem.AutoSeq1 (wpAny_loadPart')
open PySem.MeetsSeq PySem.MeetsSeq2 PySem.MeetsSeq3
theorem rcLt_int{prog:Yu}{w:Yw}{A:Z0}{E:Yn->Yo->Prop}{s:Yo}{a b:Int}{t u:Tok}{Q:Yn->Yo->Prop}(h:Q (.bool (decide (a<b))) s):Ys (Yt prog w) A (ZO .Lt (.int a t) (.int b u)) Q E s:=by
 exact wpAny_richCompare_same (A04 s a t) (A04 s b u) slot_int_lt (call_int_lt ⟨(λx=>nomatch x),h⟩)
section
variable{prog:Yu}{w:Yw}{A:Z0}{E:Yn->Yo->Prop}{s:Yo}{a₀:Array Keyed}
structure SBk(κ:SortKind)(a₀:Array Keyed)(st:SortSt):Prop where
 perm:(arrOf st).Perm a₀
 kind:kindOf st=κ
 failed:failedOf st=none
 pend:pendingOf st=#[]
theorem SBk.size{κ:SortKind}{st:SortSt}(h:SBk κ a₀ st):(arrOf st).size=a₀.size:=h.perm.size_eq
variable{κ:SortKind}
end
section
variable{X:Cx}
theorem U1:Yx "any"=some (.builtin "any"):=by decide +kernel
theorem KZ(hc:X.calm=true):CallR X (.builtin "any") (λxs H Q=>∃(a:Yp) (bs:List Bool),xs=[.ref a]/\SqL X.K H a (bs.map V.bl)/\Q (.bl (bs.any id)) H):=by
 intro pq s σ H xs us Q I r h;obtain⟨a,bs,rfl,hq,q⟩:=h;obtain⟨u,rfl,ru⟩:=AQ r;cases ru;obtain⟨its,rv,pl,hz⟩:=I.list hq;have hl:=rv.length;rw[VA]at hl;refine call_any_walk (ZK pl.isList ?_);have hlt:a<s.heap.objs.size:=by obtain⟨o,n,e,_⟩:=pl;exact VO e
 refine⟨s.heap.objs.size,_,_,_,_,_,λi=>bs.getD i false,rfl,Walks.list (by exact I.ok.hd hc) s.heap.objs.size a (VT hlt) its.toArray,⟨⟨_,VV _ rfl,rfl,rfl⟩,pl.isList.push _⟩,?_,λh' tk hk=>?_⟩
 ·intro i v s' Q' E' hv hQ';have hv':its[i]?=some v:=by simpa using hv
  have hi:i<its.length:=(gM hv').1;have hb:(bs.map V.bl)[i]?=some (.bl (bs[i]'(by omega))):=by simp
  obtain⟨u',eu,ru'⟩:=rv.get hb;rw[hv']at eu;cases eu;cases ru';have hg:bs.getD i false=bs[i]'(by omega):=by simp[W9,show i<bs.length by omega]
  have hQ2:Q' (bs.getD i false) s':=hQ';rw[hg]at hQ2;exact Z3 hQ2
 ·have I1:Inv X pq σ H {s with heap:=h',toks:=tk}:=I.kept λb o e=>hk b o (by simp;exact VT (VO e)) (VG _ e);refine⟨.bl _,H,I1,rfl,?_⟩
  have e:(VN its.toArray.size).any (λi=>bs.getD i false)=bs.any id:=by
   rw[VF,<-hl,Vv,Wc,Wc];constructor
   ·rintro⟨j,hj,e⟩;have hj1:j<bs.length:=Va.mp hj;exact⟨bs[j],WX hj1,by simpa[W9,hj1] using e⟩
   ·rintro⟨b,hb,e⟩;obtain⟨j,hj,e2⟩:=Wx.mp hb;exact⟨j,Va.mpr hj,by simpa[W9,hj,e2] using e⟩
  rw[e];exact q
end
end L2
namespace Rf
open PySem L2
abbrev QE:=SV->Sto->Prop
abbrev WE:=EnvS->Sto->QE->Prop
abbrev WA:=EnvS->Sto->(List SV->Sto->Prop)->Prop
abbrev WT:=EnvS->Sto->(Bool->Sto->Prop)->Prop
noncomputable def Post(K:V8)(as:List Yp)(H:Hp)(Q:VK):QE:=λx S'=>∀ as' H' v,Go as H as' H'->Ok K as' H' S'->Rl K as' H' v x->Q v H'
noncomputable def U2(K:V8)(as:List Yp)(H:Hp)(Q:List V->Hp->Prop):List SV->Sto->Prop:=λxs S'=>∀ as' H' vs,Go as H as' H'->Ok K as' H' S'->RlAll K as' H' vs xs->Q vs H'
def PostT(K:V8)(as:List Yp)(H:Hp)(Q:Bool->Hp->Prop):Bool->Sto->Prop:=λb S'=>∀ as' H',Go as H as' H'->Ok K as' H' S'->Q b H'
noncomputable def lift(K:V8)(w:WE):TE:=λσ H Q=>∃ as ρ S,Ok K as H S/\EnvOk K as H σ ρ/\w ρ S (Post K as H Q)
noncomputable def liftA(K:V8)(w:WA):TA:=λσ H Q=>∃ as ρ S,Ok K as H S/\EnvOk K as H σ ρ/\w ρ S (U2 K as H Q)
noncomputable def liftT(K:V8)(w:WT):TT:=λσ H Q=>∃ as ρ S,Ok K as H S/\EnvOk K as H σ ρ/\w ρ S (PostT K as H Q)
def Mono(w:WE):Prop:=∀ ρ S (P P':QE),(∀ x S',P x S'->P' x S')->w ρ S P->w ρ S P'
def MonoA(w:WA):Prop:=∀ ρ S (P P':List SV->Sto->Prop),(∀ x S',P x S'->P' x S')->w ρ S P->w ρ S P'
def MonoT(w:WT):Prop:=∀ ρ S (P P':Bool->Sto->Prop),(∀ x S',P x S'->P' x S')->w ρ S P->w ρ S P'
theorem i8{X:Cx}{e:Expr}{t:TE}(t':TE)(h:PE X e t)(imp:∀ σ H Q,t' σ H Q->t σ H Q):PE X e t':=λpq s σ H Q I hw=>h pq s σ H Q I (imp σ H Q hw)
theorem DK{X:Cx}{e:Expr}{t:TT}(t':TT)(h:PT X e t)(imp:∀ σ H Q,t' σ H Q->t σ H Q):PT X e t':=λpq s σ H Q I hw=>h pq s σ H Q I (imp σ H Q hw)
theorem MJ{X:Cx}{e:List Expr}{t:TA}(t':TA)(h:PA X e t)(imp:∀ σ H Q,t' σ H Q->t σ H Q):PA X e t':=λp pq s σ H Q I hw=>h p pq s σ H Q I (imp σ H Q hw)
section
variable{K:V8}{as as1 as2:List Yp}{H H1 H2:Hp}
theorem Post.mono{Q:VK}{x:SV}{S:Sto}(h:Post K as H Q x S)(g:Go as H as1 H1):Post K as1 H1 Q x S:=λas' H' v g'=>h as' H' v (g.trans g')
end
abbrev S2:=SV->SV->Sto->QE->Prop
abbrev S1:=SV->Sto->QE->Prop
abbrev Sn:=List SV->Sto->QE->Prop
def w2(s:S2)(a b:WE):WE:=λρ S Q=>a ρ S λx S1=>b ρ S1 λy S2=>s x y S2 Q
def w1(s:S1)(a:WE):WE:=λρ S Q=>a ρ S λx S1=>s x S1 Q
def wn(s:Sn)(a:WA):WE:=λρ S Q=>a ρ S λxs S1=>s xs S1 Q
def Mono2(s:S2):Prop:=∀ x y S (P P':QE),(∀ x S',P x S'->P' x S')->s x y S P->s x y S P'
def Fw(s:S1):Prop:=∀ x S (P P':QE),(∀ x S',P x S'->P' x S')->s x S P->s x S P'
def MonoN(s:Sn):Prop:=∀ x S (P P':QE),(∀ x S',P x S'->P' x S')->s x S P->s x S P'
theorem Mono.two{s:S2}{a b:WE}(hs:Mono2 s)(ha:Mono a)(hb:Mono b):Mono (w2 s a b):=λρ S P P' i h=>ha _ _ _ _ (λ_ _ h=>hb _ _ _ _ (λ_ _ h=>hs _ _ _ _ _ i h) h) h
theorem Mono.one{s:S1}{a:WE}(hs:Fw s)(ha:Mono a):Mono (w1 s a):=λρ S P P' i h=>ha _ _ _ _ (λ_ _ h=>hs _ _ _ _ i h) h
theorem Mono.n{s:Sn}{a:WA}(hs:MonoN s)(ha:MonoA a):Mono (wn s a):=λρ S P P' i h=>ha _ _ _ _ (λ_ _ h=>hs _ _ _ _ i h) h
noncomputable def BM(K:V8)(s:S2)(r:R2):Prop:=∀ as H S x y v u Q,Ok K as H S->Rl K as H v x->Rl K as H u y->s x y S (Post K as H Q)->r v u H Q
noncomputable def Us(K:V8)(s:S1)(r:V->Hp->VK->Prop):Prop:=∀ as H S x v Q,Ok K as H S->Rl K as H v x->s x S (Post K as H Q)->r v H Q
noncomputable def U3(K:V8)(s:Sn)(r:List V->Hp->VK->Prop):Prop:=∀ as H S xs vs Q,Ok K as H S->RlAll K as H vs xs->s xs S (Post K as H Q)->r vs H Q
theorem B2{K:V8}{s:S2}{r:R2}{wa wb:WE}(sim:BM K s r)(ms:Mono2 s)(ma:Mono wa)(mb:Mono wb):∀ σ H Q,lift K (w2 s wa wb) σ H Q->tOp r (lift K wa) (lift K wb) σ H Q:=by
 rintro σ H Q ⟨as,ρ,S,ok,en,h⟩;refine⟨as,ρ,S,ok,en,ma _ _ _ _ (λx S1 hb as1 H1 v g1 ok1 rv=>?_) h⟩;refine⟨as1,ρ,S1,ok1,en.mono g1.pre (g1.ku ok),mb _ _ _ _ (λy S2 hs as2 H2 u g2 ok2 ru=>?_) hb⟩;exact sim as2 H2 S2 x y v u Q ok2 (Rl.mono g2.pre (g2.ku ok1) x v rv) ru (ms _ _ _ _ _ (λz S3 hz=>hz.mono (g1.trans g2)) hs)
theorem Rv{K:V8}{s:S1}{r:V->Hp->VK->Prop}{wa:WE}(sim:Us K s r)(ms:Fw s)(ma:Mono wa):∀ σ H Q,lift K (w1 s wa) σ H Q->tUn r (lift K wa) σ H Q:=by
 rintro σ H Q ⟨as,ρ,S,ok,en,h⟩;refine⟨as,ρ,S,ok,en,ma _ _ _ _ (λx S1 hs as1 H1 v g1 ok1 rv=>?_) h⟩;exact sim as1 H1 S1 x v Q ok1 rv (ms _ _ _ _ (λz S3 hz=>hz.mono g1) hs)
theorem U4{K:V8}{s:Sn}{r:List V->Hp->VK->Prop}{wa:WA}(sim:U3 K s r)(ms:MonoN s)(ma:MonoA wa):∀ σ H Q,lift K (wn s wa) σ H Q->tCB r (liftA K wa) σ H Q:=by
 rintro σ H Q ⟨as,ρ,S,ok,en,h⟩;refine⟨as,ρ,S,ok,en,ma _ _ _ _ (λx S1 hs as1 H1 v g1 ok1 rv=>?_) h⟩;exact sim as1 H1 S1 x v Q ok1 rv (ms _ _ _ _ (λz S3 hz=>hz.mono g1) hs)
def EU:WA:=λ_ S Q=>Q [] S
def DL(a:WE)(b:WA):WA:=λρ S Q=>a ρ S λx S1=>b ρ S1 λxs S2=>Q (x::xs) S2
theorem MonoA.nil:MonoA EU:=λ_ _ _ _ i h=>i _ _ h
theorem MonoA.cons{a:WE}{b:WA}(ha:Mono a)(hb:MonoA b):MonoA (DL a b):=λ_ _ _ _ i h=>ha _ _ _ _ (λ_ _ h=>hb _ _ _ _ (λ_ _ h=>i _ _ h) h) h
theorem Ol{X:Cx}{K:V8}:PA X [] (liftA K EU):=MJ _ Az λσ H Q ⟨as,ρ,S,ok,en,h⟩=>h as H [] (Go.refl _ _) ok .nil
theorem MK{K:V8}{a:WE}{b:WA}(ma:Mono a)(mb:MonoA b):∀ σ H Q,liftA K (DL a b) σ H Q->Fi (lift K a) (liftA K b) σ H Q:=by
 rintro σ H Q ⟨as,ρ,S,ok,en,h⟩;refine⟨as,ρ,S,ok,en,ma _ _ _ _ (λx S1 hs as1 H1 v g1 ok1 rv=>?_) h⟩;refine⟨as1,ρ,S1,ok1,en.mono g1.pre (g1.ku ok),mb _ _ _ _ (λxs S2 hq as2 H2 vs g2 ok2 rs=>?_) hs⟩;exact hq as2 H2 _ (g1.trans g2) ok2 (.cons (Rl.mono g2.pre (g2.ku ok1) x v rv) rs)
theorem ML{X:Cx}{K:V8}{e:Expr}{es:List Expr}{a:WE}{b:WA}(ma:Mono a)(mb:MonoA b)(h1:PE X e (lift K a))(h2:PA X es (liftA K b))(hs:Yy (e::es) X.env=(false,eval e X.env)::Yy es X.env):PA X (e::es) (liftA K (DL a b)):=MJ _ (y1 h1 h2 hs) (MK ma mb)
def Rw(i:Nat):WE:=λρ S Q=>∃ x,ρ[i]?=some (some x)/\Q x S
def wC(x:SV):WE:=λ_ S Q=>Q x S
theorem Mono.var{i:Nat}:Mono (Rw i):=λ_ _ _ _ i ⟨x,a,b⟩=>⟨x,a,i _ _ b⟩
theorem Mono.c{x:SV}:Mono (wC x):=λ_ _ _ _ i h=>i _ _ h
theorem Om{K:V8}{i:Nat}:∀ σ H Q,lift K (Rw i) σ H Q->OJ i σ H Q:=λσ H Q ⟨as,ρ,S,ok,en,x,e,h⟩=>let ⟨v,ev,rv⟩:=en.2 i x e;⟨v,ev,h as H v (Go.refl _ _) ok rv⟩
theorem Fx{K:V8}{x:SV}{v:V}(hx:∀ as H,Rl K as H v x):∀ σ H Q,lift K (wC x) σ H Q->tC v σ H Q:=λσ H Q ⟨as,ρ,S,ok,en,h⟩=>h as H v (Go.refl _ _) ok (hx as H)
def big:Nat:=100000
theorem y7{n:Nat}(h:n<=big):n<=Yr:=Vc h (by decide)
theorem F0{n:Nat}(h:n<big):n<Yr:=Vg h (by decide)
def Oo:Sn:=λxs S Q=>xs.length<=big/\Q (.tup xs) S
def Op:Sn:=λxs S Q=>xs.length<=big/\Q (.loc S.length) (S++[.lst xs])
theorem MonoN.tup:MonoN Oo:=λ_ _ _ _ i h=>⟨h.1,i _ _ h.2⟩
theorem MonoN.lst:MonoN Op:=λ_ _ _ _ i h=>⟨h.1,i _ _ h.2⟩
theorem Rx{K:V8}{as:List Yp}{H:Hp}{S:Sto}{p:Yp}(ok:Ok K as H S):Rl K (as++[p]) (upd H p (.lst vs)) (.ref p) (.loc S.length):=rl_loc.mpr ⟨p,by rw[<-ok.len,Vd],rfl⟩
theorem AR{K:V8}{as:List Yp}{H:Hp}{S:Sto}{Q:VK}{xs:List SV}{vs:List V}(ok:Ok K as H S)(r:RlAll K as H vs xs)(h:Post K as H Q (.loc S.length) (S++[.lst xs])):∀ p,H p=none->Q (.ref p) (upd H p (.lst vs)):=λp hp=>
 h (as++[p]) _ (.ref p) (Go.push hp) (ok.push hp r) (Rx ok)
theorem BN{K:V8}{as:List Yp}{H:Hp}{S:Sto}{Q:VK}{xs:List SV}{vs:List V}(ok:Ok K as H S)(r:RlAll K as H vs xs)(h:Post K as H Q (.tup xs) S):∀ p,H p=none->Q (.ref p) (upd H p (.tup vs)):=λp hp=>
 h as _ (.ref p) (Go.new hp) (ok.new hp) (rl_tup.mpr ⟨p,vs,rfl,m9,RlAll.mono (Vo _) (Ap hp) xs vs r⟩)
theorem Oq{K:V8}{wa:WA}(ma:MonoA wa):∀ σ H Q,lift K (wn Oo wa) σ H Q->Ti (liftA K wa) σ H Q:=by
 rintro σ H Q ⟨as,ρ,S,ok,en,h⟩;refine⟨as,ρ,S,ok,en,ma _ _ _ _ (λxs S1 hs as1 H1 vs g1 ok1 rv=>?_) h⟩;exact⟨by rw[rv.length];exact y7 hs.1,BN ok1 rv (hs.2.mono g1)⟩
theorem Os{K:V8}{wa:WA}(ma:MonoA wa):∀ σ H Q,lift K (wn Op wa) σ H Q->Tj (liftA K wa) σ H Q:=by
 rintro σ H Q ⟨as,ρ,S,ok,en,h⟩;refine⟨as,ρ,S,ok,en,ma _ _ _ _ (λxs S1 hs as1 H1 vs g1 ok1 rv=>?_) h⟩;exact⟨by rw[rv.length];exact y7 hs.1,AR ok1 rv (hs.2.mono g1)⟩
end Rf
namespace L2
open PySem PySem.Spec PyProof.Rows
section
variable{prog:Yu}{w:Yw}{A:Z0}{E:Yn->Yo->Prop}{s:Yo}
theorem SetX.kind{h:Heap}{a:Yp}{L:List Int}(x:SetX prog w h a L):h.SetOf (intKind prog w) a (λk=>decide (k∈L)) L.length:=by
 obtain⟨o,es,ep,t,ho,hx,hd,hel,hb,hf,hT,hp⟩:=x;refine⟨o,es,ep,t,ho,hx,hd,hel,λk=>?_,hb,hf,by rw[<-hp.length_eq];simp⟩;rw[dQ,<-hp.mem_iff,VZ];constructor
 ·rintro⟨e,he,rfl⟩;obtain⟨⟨k,hk,_⟩,_⟩:=hel e he;exact⟨e,he,by rw[JA hk];exact hk⟩
 ·rintro⟨e,he,hk⟩;exact⟨e,he,JA hk⟩
end
section
variable{X:Cx}
theorem MM:OpR X (Z2 .In) (λx y H Q=>∃(k:Int) (p:Yp) (S:Int->Bool) (n:Nat),x = .int k/\y = .ref p/\H p=some (.set S n)/\Q (.bl (S k)) H):=by
 intro pq s σ H x y v u Q I rx ry h;obtain⟨k,p,S,n,rfl,rfl,hp,q⟩:=h;obtain⟨t,rfl⟩:=rx;cases ry;have hS:s.heap.SetOf (intKind X.prog X.w) p S n:=I.hok p _ hp;exact wpAny_inSet_of (k:=k) (intKind_is _ _ _ _) rfl hS ⟨.bl _,H,I.tok _,rfl,q⟩
end
theorem Vals.rev:∀{xs:List V} {us:List Yn},Vals xs us->Vals xs.reverse us.reverse
 | _,_,.nil => .nil
 | _,_,.cons r rr=>by
   rw[Wi,Wi];exact(Vals.rev rr).append (.cons r .nil)
open PySem PySem.Spec PyProof.Rows PySem.SeqAt
section
variable{X:Cx}
def Qa(K:V8):R2:=λx y H Q=>∃ a t,x = .ref a/\y = .str t/\((∃ xs,SqL K H a xs)\/∃ xs,SqT K H a xs)/\Q (.bl false) H
theorem Ot(hu:X.A.units<cLine):OpR X (Z2 .Eq) (Qa X.K):=by
 intro pq s σ H x y v u Q I rx ry h;obtain⟨a,t,rfl,rfl,h1,q⟩:=h;cases rx;obtain⟨tk,rfl⟩:=ry
 have e:Ys (Yt X.prog X.w) X.A (ZO .Eq (.ref a) (.str t tk)) (EP X pq σ Q) X.xe s:=by
  rcases h1 with⟨xs,h1⟩ | ⟨xs,h1⟩
  ·obtain⟨its,r1,p1,_⟩:=I.list h1;exact RcAt.list_str t tk p1.isList hu _ _ _ _ ⟨.bl false,H,I,rfl,q⟩
  ·obtain⟨its,r1,p1,_⟩:=I.tuple h1;exact RcAt.tuple_str (items:=its.toArray) t tk p1 hu _ _ _ _ ⟨.bl false,H,I,rfl,q⟩
 exact e
end
end L2
namespace Rf
open PySem L2
def y8:SV->Bool
 | .non=>true | .bl _=>true | .int _=>true | .str _=>true | _=>false
def toV:SV->V
 | .non => .non | .bl b => .bl b | .int i => .int i | .str x => .str x | _ => .non
def eqF:SV->SV->Bool
 | .non,.non=>true
 | .bl a,.bl b=>a == b
 | .bl a,.int b=>(if a then 1 else 0) == b
 | .int a,.bl b=>a == (if b then 1 else 0)
 | .int a,.int b=>a == b
 | .str a,.str b=>a == b
 | _,_=>false
def Fy(xs ys:List SV):Bool:=xs.length == ys.length&&(xs.zip ys).all λp=>eqF p.1 p.2
def inS(x:SV)(xs:List SV):Bool:=xs.any λy=>eqF y x
section
variable{K:V8}{as:List Yp}{H:Hp}
theorem JB{x:SV}{v:V}(f:y8 x=true)(r:Rl K as H v x):v=toV x:=by
 cases x with
 | non=>exact rl_non.mp r
 | bl _=>exact rl_bl.mp r
 | int _=>exact rl_int.mp r
 | str _=>exact rl_str.mp r
 | _=>cases f
theorem Aq:∀{xs:List SV} {vs:List V},xs.all y8=true->RlAll K as H vs xs->vs=xs.map toV
 | [],_,_,r=>rla_nil.mp r
 | x::xs,_,f,r=>by
   rw[WB,V9]at f;obtain⟨v,vs,rfl,r1,r2⟩:=rla_cons.mp r;rw[JB f.1 r1,Aq f.2 r2];rfl
theorem Fz{x:SV}(f:y8 x=true):A9 (toV x)=true:=by cases x<;>first | rfl | cases f
theorem CY{xs:List SV}(f:xs.all y8=true):(xs.map toV).all A9=true:=by
 rw[Ve]at f ⊢;intro v hv;obtain⟨x,hx,rfl⟩:=VZ.mp hv;exact Fz (f x hx)
theorem F3{x y:SV}(fx:y8 x=true)(fy:y8 y=true):eqV (toV x) (toV y)=eqF x y:=by
 cases x<;>first | cases fx;done | (cases y<;>first | rfl | cases fy)
theorem Ry{x:SV}{xs:List SV}(fx:y8 x=true)(f:xs.all y8=true):inV (toV x) (xs.map toV)=inS x xs:=by
 unfold inV inS;rw[XE];rw[Ve]at f;rw[Vv,Wc,Wc];constructor
 ·rintro⟨y,hy,e⟩;exact⟨y,hy,by rw[<-F3 (f y hy) fx];exact e⟩
 ·rintro⟨y,hy,e⟩;exact⟨y,hy,by show eqV (toV y) (toV x)=true;rw[F3 (f y hy) fx];exact e⟩
theorem Ou:∀{xs ys:List SV},xs.all y8=true->ys.all y8=true->Aj (xs.map toV) (ys.map toV)=Fy xs ys:=by
 intro xs ys fx fy;unfold Aj Fy;rw[VA,VA,List.zip_map,YB]
 congr 1
 rw[Vv,Ve,Ve];rw[Ve]at fx fy;constructor
 ·rintro h ⟨a,b⟩ hm;have:=h (a,b) hm;rw[<-F3 (fx a (Wg hm).1) (fy b (Wg hm).2)];exact this
 ·rintro h ⟨a,b⟩ hm;have:=h (a,b) hm;show eqV (toV a) (toV b)=true;rw[F3 (fx a (Wg hm).1) (fy b (Wg hm).2)];exact this
def seqS:SV->Sto->Option (List SV)
 | .tup xs,_=>some xs
 | .ro xs,_=>some xs
 | .loc k,S=>match S[k]? with | some (.lst xs)=>some xs | _=>none
 | _,_=>none
theorem F5{x:SV}{v:V}{S:Sto}{xs:List SV}(ok:Ok K as H S)(r:Rl K as H v x)(h:seqS x S=some xs):∃ a vs,v = .ref a/\(SqL K H a vs\/SqT K H a vs)/\RlAll K as H vs xs:=by
 cases x with
 | tup ys=>
   cases h;obtain⟨p,vs,rfl,hp,rr⟩:=rl_tup.mp r;exact⟨p,vs,rfl,.inr (SqT.of hp),rr⟩
 | ro ys=>
   cases h;obtain⟨p,vs,rfl,hp,rr⟩:=rl_ro.mp r;exact⟨p,vs,rfl,.inl hp.sq,rr⟩
 | loc k=>
   obtain⟨a,ea,rfl⟩:=rl_loc.mp r;unfold seqS at h;cases hs:S[k]? with
   | none=>simp only[hs]at h;cases h
   | some o=>
     cases o with
     | lst ys=>
       simp only[hs]at h;cases h;obtain⟨vs,h1,rr⟩:=ok.obj k _ a hs ea;exact⟨a,vs,rfl,.inl (SqL.of h1),rr⟩
     | iset _=>simp only[hs]at h;cases h
     | dtl _=>simp only[hs]at h;cases h
     | dtf _ _ _=>simp only[hs]at h;cases h
     | dtp _=>simp only[hs]at h;cases h
     | dct _=>simp only[hs]at h;cases h
     | dcf _ _ _=>simp only[hs]at h;cases h
 | _=>cases h
theorem t4{k:Nat}{v:V}{S:Sto}{xs:List SV}(ok:Ok K as H S)(r:Rl K as H v (.loc k))(h:S[k]?=some (.lst xs)):∃ a vs,v = .ref a/\as[k]?=some a/\H a=some (.lst vs)/\RlAll K as H vs xs:=by
 obtain⟨a,ea,rfl⟩:=rl_loc.mp r;obtain⟨vs,h1,rr⟩:=ok.obj k _ a h ea;exact⟨a,vs,rfl,ea,h1,rr⟩
end
def MN:S2
 | .int i,.int j,S,Q=>Q (.int (i+j)) S
 | .str i,.str j,S,Q=>i.length+j.length<=big/\Q (.str (i++j)) S
 | .tup xs,.tup ys,S,Q=>xs.length+ys.length<=big/\Q (.tup (xs++ys)) S
 | .loc k,.loc l,S,Q=>∃ xs ys,S[k]?=some (.lst xs)/\S[l]?=some (.lst ys)/\xs.length+ys.length<=big/\Q (.loc S.length) (S++[.lst (xs++ys)])
 | _,_,_,_=>False
def Ht(C:Int->Int->Prop)(g:Int->Int->SV):S2
 | .int i,.int j,S,Q=>C i j/\Q (g i j) S
 | _,_,_,_=>False
def CB(g:Int->Int->SV):S2
 | .int i,.int j,S,Q=>Q (g i j) S
 | _,_,_,_=>False
def MO:S2
 | .int i,.int j,S,Q=>CMul i j/\Q (.int (i * j)) S
 | .loc k,.int j,S,Q=>∃ xs,S[k]?=some (.lst xs)/\(-1000000<j/\j<1000000)/\xs.length * j.toNat<=big/\Q (.loc S.length) (S++[.lst (VM j.toNat xs).flatten])
 | _,_,_,_=>False
theorem Mono2.add:Mono2 MN:=λx y S P P' i h=>by
 unfold MN at h ⊢
 split at h<;>first
  | exact i _ _ h
  | exact⟨h.1,i _ _ h.2⟩
  | (obtain⟨xs,ys,a,b,c,d⟩:=h;exact⟨xs,ys,a,b,c,i _ _ d⟩)
  | exact h.elim
theorem Mono2.int{C:Int->Int->Prop}{g:Int->Int->SV}:Mono2 (Ht C g):=λx y S P P' i h=>by
 unfold Ht at h ⊢;split at h
 ·exact⟨h.1,i _ _ h.2⟩
 ·exact h.elim
theorem Mono2.int0{g:Int->Int->SV}:Mono2 (CB g):=λx y S P P' i h=>by
 unfold CB at h ⊢;split at h
 ·exact i _ _ h
 ·exact h.elim
theorem Mono2.mul:Mono2 MO:=λx y S P P' i h=>by
 unfold MO at h ⊢;split at h
 ·exact⟨h.1,i _ _ h.2⟩
 ·obtain⟨xs,a,b,c,d⟩:=h;exact⟨xs,a,b,c,i _ _ d⟩
 ·exact h.elim
section
variable{K:V8}
theorem Post.here{as:List Yp}{H:Hp}{Q:VK}{x:SV}{S:Sto}{v:V}(h:Post K as H Q x S)(ok:Ok K as H S)(r:Rl K as H v x):Q v H:=h as H v (Go.refl _ _) ok r
theorem F6{C:Int->Int->Prop}{g:Int->Int->SV}{g':Int->Int->V}(hg:∀ as H i j,Rl K as H (g' i j) (g i j)):BM K (Ht C g) (rI C g'):=λas H S x y v u Q ok rx ry h=>by
 unfold Ht at h;split at h
 ·rw[rl_int]at rx ry;exact⟨_,_,rx,ry,h.1,h.2.here ok (hg _ _ _ _)⟩
 ·exact h.elim
theorem BO{g:Int->Int->SV}{g':Int->Int->V}(hg:∀ as H i j,Rl K as H (g' i j) (g i j)):BM K (CB g) (rI0 g'):=λas H S x y v u Q ok rx ry h=>by
 unfold CB at h;split at h
 ·rw[rl_int]at rx ry;exact⟨_,_,rx,ry,h.here ok (hg _ _ _ _)⟩
 ·exact h.elim
def U5(K:V8):R2:=λx y H Q=>(((rI0 λi j => .int (i+j)) x y H Q\/Tr x y H Q)\/(Lx K x y H Q\/MI K x y H Q))\/∃ i j,x = .str i/\y = .str j/\i.length+j.length<=Yr/\Q (.str (i++j)) H
theorem Ov{X:Cx}:OpR X (ZG .Add) (U5 X.K):=((op_add.or Rh).or Oi).or Hd
theorem Ow:BM K MN (U5 K):=λas H S x y v u Q ok rx ry h=>by
 unfold MN at h;split at h
 ·rw[rl_int]at rx ry;exact .inl (.inl (.inl ⟨_,_,rx,ry,h.here ok (rl_int.mpr rfl)⟩))
 ·rw[rl_str]at rx ry;exact .inr ⟨_,_,rx,ry,y7 h.1,h.2.here ok (rl_str.mpr rfl)⟩
 ·rename_i xs ys;obtain⟨a,vs,rfl,ha,ra⟩:=rl_tup.mp rx;obtain⟨b,us,rfl,hb,rb⟩:=rl_tup.mp ry;have l1:=ra.length;have l2:=rb.length;by_cases hx:vs=[]
  ·subst hx;have:xs=[]:=X8.mp (by rw[<-l1];rfl);subst this;exact .inl (.inr (.inr ⟨a,b,us,rfl,rfl,SqT.of ha,SqT.of hb,h.2.here ok ry⟩))
  ·refine .inl (.inr (.inl ⟨a,b,vs,us,rfl,rfl,SqT.of ha,SqT.of hb,hx,by rw[l1,l2];exact y7 h.1,λz=>?_,λ_=>BN ok (ra.append rb) h.2⟩));have:ys=[]:=X8.mp (by rw[<-l2,z];rfl);subst this;rw[Vy]at h;exact h.2.here ok rx
 ·obtain⟨xs,ys,h1,h2,h3,h4⟩:=h;obtain⟨a,vs,rfl,_,ha,ra⟩:=t4 ok rx h1;obtain⟨b,us,rfl,_,hb,rb⟩:=t4 ok ry h2;exact .inl (.inl (.inr ⟨a,b,vs,us,rfl,rfl,ha,hb,by rw[ra.length,rb.length];exact y7 h3,AR ok (ra.append rb) h4⟩))
 ·exact h.elim
theorem RlAll.rep{as:List Yp}{H:Hp}{vs:List V}{xs:List SV}(h:RlAll K as H vs xs):∀ n,RlAll K as H (VM n vs).flatten (VM n xs).flatten
 | 0=>by simpa using RlAll.nil
 | n+1=>by
   rw[Vn,Vn,WQ,WQ];exact h.append (RlAll.rep h n)
theorem Ox:BM K MO (λx y H Q=>(rI CMul λi j => .int (i * j)) x y H Q\/Tt x y H Q):=λas H S x y v u Q ok rx ry h=>by
 unfold MO at h;split at h
 ·rw[rl_int]at rx ry;exact .inl ⟨_,_,rx,ry,h.1,h.2.here ok (rl_int.mpr rfl)⟩
 ·rename_i k j;obtain⟨xs,h1,h2,h3,h4⟩:=h;obtain⟨a,vs,rfl,_,ha,ra⟩:=t4 ok rx h1;rw[rl_int]at ry;subst ry;exact .inr (⟨a,j,vs,rfl,rfl,ha,by omega,by omega,by rw[ra.length];exact y7 h3,AR ok (ra.rep _) h4⟩)
 ·exact h.elim
end
def scS:SV->SV->Option Bool
 | .int i,.int j=>some (decide (i=j))
 | .bl i,.bl j=>some (decide (i=j))
 | .str i,.str j=>some (decide (i=j))
 | .non,.non=>some true
 | .non,.int _=>some false | .int _,.non=>some false | .non,.bl _=>some false | .bl _,.non=>some false | .non,.str _=>some false | .str _,.non=>some false
 | .int _,.str _=>some false | .str _,.int _=>some false | .bl _,.str _=>some false | .str _,.bl _=>some false
 | _,_=>none
def Hu:SV->SV->Sto->(Bool->Prop)->Prop
 | .loc k,.loc l,S,Q=>∃ xs ys,S[k]?=some (.lst xs)/\S[l]?=some (.lst ys)/\((xs.all y8=true/\ys.all y8=true)\/xs=[]\/ys=[])/\Q (Fy xs ys)
 | _,_,_,_=>False
def Ka:SV->SV->Sto->(Bool->Prop)->Prop
 | .loc k,.loc l,S,Q=>∃ xs ys,S[k]?=some (.lst xs)/\S[l]?=some (.lst ys)/\((xs.all y8=true/\ys.all y8=true)\/xs=[]\/ys=[])/\Q (Fy xs ys)
 | .loc k,.str _,S,Q=>(∃ xs,S[k]?=some (.lst xs))/\Q false
 | .tup _,.str _,_,Q=>Q false
 | _,_,_,_=>False
theorem Rz{x y:SV}{S:Sto}{Q:Bool->Prop}(h:Ka x y S Q):Hu x y S Q\/(∃ t,y = .str t/\((∃ k xs,x = .loc k/\S[k]?=some (.lst xs))\/∃ xs,x = .tup xs)/\Q false):=by
 unfold Ka at h;split at h
 ·exact .inl h
 ·obtain⟨⟨xs,e⟩,q⟩:=h;exact .inr ⟨_,rfl,.inl ⟨_,xs,rfl,e⟩,q⟩
 ·exact .inr ⟨_,rfl,.inr ⟨_,rfl⟩,h⟩
 ·exact h.elim
theorem Kb{x y:SV}{S:Sto}{P P':Bool->Prop}(i:∀ b,P b->P' b)(h:Ka x y S P):Ka x y S P':=by
 unfold Ka at h ⊢;split at h
 ·obtain⟨xs,ys,a,b,c,d⟩:=h;exact⟨xs,ys,a,b,c,i _ d⟩
 ·exact⟨h.1,i _ h.2⟩
 ·exact i _ h
 ·exact h.elim
def sEq:S2:=λx y S Q=>match scS x y with | some b=>Q (.bl b) S | none=>Ka x y S λb=>Q (.bl b) S
def sNe:S2:=λx y S Q=>match scS x y with | some b=>Q (.bl (!b)) S | none=>Hu x y S λb=>Q (.bl (!b)) S
def BP:SV->Sto->Option (List Int)
 | .loc k,S=>match S[k]? with | some (.iset ms)=>some ms | _=>none
 | _,_=>none
def sIn(neg:Bool):S2:=λx y S Q=>match BP y S with
 | some ms=>∃ i,x = .int i/\neg=false/\Q (.bl (decide (i∈ms))) S
 | none=>y8 x=true/\∃ ys,seqS y S=some ys/\ys.all y8=true/\Q (.bl (if neg then !inS x ys else inS x ys)) S
def y9:SV->Bool
 | .non=>true
 | _=>false
def MP(neg:Bool):S2:=λx y S Q=>(y = .non/\Q (.bl (if neg then !y9 x else y9 x)) S)\/∃ c d,neg=true/\x = .bl c/\y = .bl d/\Q (.bl (c != d)) S
theorem Kc{x y:SV}{S:Sto}{P P':Bool->Prop}(i:∀ b,P b->P' b)(h:Hu x y S P):Hu x y S P':=by
 unfold Hu at h ⊢;split at h
 ·obtain⟨xs,ys,a,b,c,d⟩:=h;exact⟨xs,ys,a,b,c,i _ d⟩
 ·exact h.elim
theorem Mono2.eq:Mono2 sEq:=λx y S P P' i h=>by
 unfold sEq at h ⊢;split at h
 ·exact i _ _ h
 ·exact Kb (λ_=>i _ _) h
theorem Mono2.ne:Mono2 sNe:=λx y S P P' i h=>by
 unfold sNe at h ⊢;split at h
 ·exact i _ _ h
 ·exact Kc (λ_=>i _ _) h
theorem Mono2.in'{n:Bool}:Mono2 (sIn n):=λx y S P P' i h=>by
 unfold sIn at h ⊢;split at h
 ·obtain⟨j,e,z,h⟩:=h;exact⟨j,e,z,i _ _ h⟩
 ·obtain⟨f,ys,a,b,h⟩:=h;exact⟨f,ys,a,b,i _ _ h⟩
theorem Mono2.isN{n:Bool}:Mono2 (MP n):=λx y S P P' i h=>h.imp (λh=>⟨h.1,i _ _ h.2⟩) λ⟨c,d,z,a,b,h⟩=>⟨c,d,z,a,b,i _ _ h⟩
section
variable{K:V8}
theorem MQ{as:List Yp}{H:Hp}{x y:SV}{v u:V}{b:Bool}(e:scS x y=some b)(rx:Rl K as H v x)(ry:Rl K as H u y):RV v u=true/\decide (v=u)=b:=by
 cases x<;>first | (unfold scS at e;cases e;done) | (cases y<;>first | (unfold scS at e;cases e;done) | (simp only[rl_non,rl_bl,rl_int,rl_str]at rx ry;subst rx ry;unfold scS at e;injection e with e;subst e;exact⟨rfl,by simp⟩))
theorem JC{as:List Yp}{H:Hp}{S:Sto}{x y:SV}{v u:V}{Q:Bool->Prop}(ok:Ok K as H S)(rx:Rl K as H v x)(ry:Rl K as H u y)(h:Hu x y S Q):∃ a b xs ys,v = .ref a/\u = .ref b/\SqL K H a xs/\SqL K H b ys/\((xs.all A9=true/\ys.all A9=true)\/xs=[]\/ys=[])/\Q (Aj xs ys):=by
 unfold Hu at h;split at h
 ·obtain⟨xs,ys,h1,h2,h3,h4⟩:=h;obtain⟨a,vs,rfl,_,ha,ra⟩:=t4 ok rx h1;obtain⟨b,us,rfl,_,hb,rb⟩:=t4 ok ry h2;refine⟨a,b,vs,us,rfl,rfl,SqL.of ha,SqL.of hb,?_,?_⟩
  ·rcases h3 with⟨f1,f2⟩ | h3 | h3
   ·rw[Aq f1 ra,Aq f2 rb];exact .inl ⟨CY f1,CY f2⟩
   ·subst h3;exact .inr (.inl (rla_nil.mp ra))
   ·subst h3;exact .inr (.inr (rla_nil.mp rb))
  ·have e:Aj vs us=Fy xs ys:=by
    rcases h3 with⟨f1,f2⟩ | h3 | h3
    ·rw[Aq f1 ra,Aq f2 rb,Ou f1 f2]
    ·subst h3;have:=rla_nil.mp ra;subst this;have l:=rb.length;unfold Aj Fy;simp[l]
    ·subst h3;have:=rla_nil.mp rb;subst this;have l:=ra.length;unfold Aj Fy;simp[l]
   rw[e];exact h4
 ·exact h.elim
theorem SA:BM K sEq (λx y H Q=>rEq x y H Q\/(Od K false x y H Q\/Qa K x y H Q)):=λas H S x y v u Q ok rx ry h=>by
 unfold sEq at h;split at h
 ·rename_i b e;obtain⟨h1,h2⟩:=MQ e rx ry;exact .inl ⟨h1,by rw[h2];exact h.here ok (rl_bl.mpr rfl)⟩
 ·rcases Rz h with h | ⟨t,rfl,h,q⟩
  ·obtain⟨a,b,xs,ys,e1,e2,h1,h2,h3,h4⟩:=JC ok rx ry h;exact .inr (.inl ⟨a,b,xs,ys,e1,e2,h1,h2,h3,h4.here ok (rl_bl.mpr rfl)⟩)
  ·rw[rl_str]at ry;subst ry;rcases h with⟨k,xs,rfl,hk⟩ | ⟨xs,rfl⟩
   ·obtain⟨a,vs,rfl,_,ha,_⟩:=t4 ok rx hk;exact .inr (.inr ⟨a,t,rfl,rfl,.inl ⟨vs,SqL.of ha⟩,Post.here q ok (rl_bl.mpr rfl)⟩)
   ·obtain⟨p,vs,rfl,hp,_⟩:=rl_tup.mp rx;exact .inr (.inr ⟨p,t,rfl,rfl,.inr ⟨vs,SqT.of hp⟩,Post.here q ok (rl_bl.mpr rfl)⟩)
theorem SB:BM K sNe (λx y H Q=>rNe x y H Q\/Od K true x y H Q):=λas H S x y v u Q ok rx ry h=>by
 unfold sNe at h;split at h
 ·rename_i b e;obtain⟨h1,h2⟩:=MQ e rx ry;exact .inl ⟨h1,by rw[h2];exact h.here ok (rl_bl.mpr rfl)⟩
 ·obtain⟨a,b,xs,ys,e1,e2,h1,h2,h3,h4⟩:=JC ok rx ry h;exact .inr ⟨a,b,xs,ys,e1,e2,h1,h2,h3,h4.here ok (rl_bl.mpr rfl)⟩
theorem Oy{as:List Yp}{H:Hp}{S:Sto}{y:SV}{u:V}{ms:List Int}(ok:Ok K as H S)(r:Rl K as H u y)(h:BP y S=some ms):∃ a k F,y = .loc k/\u = .ref a/\as[k]?=some a/\S[k]?=some (.iset ms)/\H a=some (.set F ms.length)/\∀ k,F k=decide (k∈ms):=by
 cases y with
 | loc k=>
   obtain⟨a,ea,rfl⟩:=rl_loc.mp r;unfold BP at h;cases hs:S[k]? with
   | none=>simp only[hs]at h;cases h
   | some o=>
     cases o with
     | lst ys=>simp only[hs]at h;cases h
     | iset ns=>
       simp only[hs]at h;cases h;obtain⟨F,h1,h2⟩:=ok.obj k _ a hs ea;exact⟨a,k,F,rfl,rfl,ea,hs,h1,h2⟩
     | dtl _=>simp only[hs]at h;cases h
     | dtf _ _ _=>simp only[hs]at h;cases h
     | dtp _=>simp only[hs]at h;cases h
     | dct _=>simp only[hs]at h;cases h
     | dcf _ _ _=>simp only[hs]at h;cases h
 | _=>cases h
def SC(K:V8)(neg:Bool):R2:=λx y H Q=>rIn K neg x y H Q\/(neg=false/\∃(k:Int) (p:Yp) (S:Int->Bool) (n:Nat),x = .int k/\y = .ref p/\H p=some (.set S n)/\Q (.bl (S k)) H)
theorem SD{X:Cx}:OpR X (Z2 .In) (SC X.K false):=λpq s σ H x y v u Q I rx ry h=>h.elim (KM pq s σ H x y v u Q I rx ry) λh=>MM pq s σ H x y v u Q I rx ry h.2
theorem Kd{X:Cx}:OpR X (Z2 .NotIn) (SC X.K true):=λpq s σ H x y v u Q I rx ry h=>h.elim (Ev pq s σ H x y v u Q I rx ry) λh=>by cases h.1
theorem MR{n:Bool}:BM K (sIn n) (SC K n):=λas H S x y v u Q ok rx ry h=>by
 unfold sIn at h;split at h
 ·rename_i ms hi;obtain⟨i,rfl,rfl,h⟩:=h;obtain⟨a,k,F,rfl,rfl,ea,es,hF,hk⟩:=Oy ok ry hi;rw[rl_int]at rx;exact .inr ⟨rfl,i,a,F,_,rx,rfl,hF,by rw[hk];exact h.here ok (rl_bl.mpr rfl)⟩
 ·obtain⟨f,ys,hs,fs,h⟩:=h;obtain⟨a,vs,rfl,hq,rr⟩:=F5 ok ry hs;have ev:=JB f rx;have es:=Aq fs rr;subst ev es;exact .inl ⟨a,_,rfl,hq,Fz f,CY fs,by rw[Ry f fs];exact h.here ok (rl_bl.mpr rfl)⟩
theorem G8{as:List Yp}{H:Hp}{x:SV}{v:V}(r:Rl K as H v x):decide (v=V.non)=y9 x:=by
 cases x with
 | non=>rw[rl_non.mp r];rfl
 | bl _=>rw[rl_bl.mp r];rfl
 | int _=>rw[rl_int.mp r];rfl
 | str _=>rw[rl_str.mp r];rfl
 | tup _=>obtain⟨p,vs,rfl,_⟩:=rl_tup.mp r;rfl
 | loc _=>obtain⟨p,_,rfl⟩:=rl_loc.mp r;rfl
 | ro _=>obtain⟨p,vs,rfl,_⟩:=rl_ro.mp r;rfl
 | ty _=>rw[rl_ty.mp r];rfl
theorem Oz:BM K (MP false) (λx y H Q=>y = .non/\Q (.bl (decide (x = .non))) H):=λas H S x y v u Q ok rx ry h=>by
 rcases h with⟨e,h⟩ | ⟨c,d,z,_⟩
 ·subst e;exact⟨rl_non.mp ry,by rw[G8 rx];exact h.here ok (rl_bl.mpr rfl)⟩
 ·cases z
theorem MS:BM K (MP true) (λx y H Q=>(y = .non/\Q (.bl (!decide (x = .non))) H)\/∃ c d,x = .bl c/\y = .bl d/\Q (.bl (c != d)) H):=λas H S x y v u Q ok rx ry h=>by
 rcases h with⟨e,h⟩ | ⟨c,d,_,rfl,rfl,h⟩
 ·subst e;exact .inl ⟨rl_non.mp ry,by rw[G8 rx];exact h.here ok (rl_bl.mpr rfl)⟩
 ·exact .inr ⟨c,d,rl_bl.mp rx,rl_bl.mp ry,h.here ok (rl_bl.mpr rfl)⟩
end
def sIx:S2
 | x,.int i,S,Q=>∃ xs y,seqS x S=some xs/\atI xs i=some y/\Q y S
 | _,_,_,_=>False
theorem Mono2.ix:Mono2 sIx:=λx y S P P' i h=>by
 unfold sIx at h ⊢;split at h
 ·obtain⟨xs,z,a,b,c⟩:=h;exact⟨xs,z,a,b,i _ _ c⟩
 ·exact h.elim
section
variable{K:V8}
theorem RlAll.atI{as:List Yp}{H:Hp}{xs:List SV}{vs:List V}{i:Int}{y:SV}(h:RlAll K as H vs xs)(e:L2.atI xs i=some y):∃ v,L2.atI vs i=some v/\Rl K as H v y:=by
 unfold L2.atI at e ⊢;rw[h.length];cases hj:ixN xs.length i with
 | none=>rw[hj]at e;cases e
 | some j=>
   rw[hj]at e;exact h.get e
theorem SE:BM K sIx (λx y H Q=>To K x y H Q\/Tp K x y H Q):=λas H S x y v u Q ok rx ry h=>by
 unfold sIx at h;split at h
 ·obtain⟨xs,z,h1,h2,h3⟩:=h;obtain⟨a,vs,rfl,hq,rr⟩:=F5 ok rx h1;obtain⟨w,hw,rw'⟩:=rr.atI h2;rw[rl_int]at ry;rcases hq with hq | hq
  ·exact .inl ⟨a,vs,_,w,rfl,ry,hq,hw,h3.here ok rw'⟩
  ·exact .inr ⟨a,vs,_,w,rfl,ry,hq,hw,h3.here ok rw'⟩
 ·exact h.elim
end
end Rf
namespace L2
open PySem PySem.Spec PyProof.Rows
section
variable{prog:Yu}{w:Yw}{A:Z0}{R:Result->Yo->Prop}{I:Yp}{fp wr:List Yp}{n:Nat}{P:Nat->Yn->Prop}{St:Nat->Heap->Prop}
structure CmpIn(prog:Yu)(w:Yw)(A:Z0)(wr:List Yp)(S:Yp)(P:Nat->Yn->Prop)(bt:Nat->Nat->Bool)(G:Heap->Prop):Prop where
 keep:∀ h h',G h->(∀ b o,b∉wr->b≠S->h.get? b=some o->h'.get? b=some o)->G h'
 cmp:∀(s:Yo),G s.heap->∀(i j:Nat) (vi vj:Yn) (Q:Yn->Yo->Prop) (E:Yn->Yo->Prop),P i vi->P j vj->Q (.bool (bt i j)) s->Ys (Yt prog w) A (ZO .Lt vi vj) Q E s
theorem F7{kw:List (Str×Yn)}(W:Walks prog w A.in1 I fp wr n P St){bt:Nat->Nat->Bool}{S:Yp}{G:Heap->Prop}(C:CmpIn prog w A.in1 wr S P bt G)(hSf:S∉fp)(k:Nat):
 ∀(j:Nat) (s:Yo) (vb:Yn) (c:Nat),n=j+1+k->St (j+1) s.heap->G s.heap->P (argBest bt j) vb->
 s.heap.get? S=some {cls := .type "list",dict:=none,data := .seq #[vb,vb] c,slots:=#[]}->
 (∀ v h' tk,P (argBest bt (n - 1)) v->(∀ b o,b∉wr->b≠S->s.heap.get? b=some o->h'.get? b=some o)->R (.ok (.ret v)) {s with heap:=h',toks:=tk})->
 codeAny (Yt prog w) A (.builtin "min.loop" ⟨[.ref I,.none,.ref S],kw⟩) R s:=by
 have hSw:S∉wr:=λz=>hSf (W.sub _ z);have nm:(toString "min"++toString ".loop":String)="min.loop":=by decide
 induction k with
 | zero=>
   intro j s vb c hk hst hG hPb hS hR;refine ZU F.entry_min_loop ?_;rw[Around.under_plainId F.plain_min_loop _];refine Ym (m:=Zj (.ref S)) (ZI hS rfl ?_);have hst':St n s.heap:=by rw[hk];exact hst
   refine Ym (m:=tryCatch (pyNext (.ref I)) _) (Z8 (W.done s _ _ hst' λh1 tk k1=>?_));have hS1:=k1 S _ hSw hS;refine Ym (m:=A0t S (λ_=>#[])) (ZV hS1 rfl (Ym (ZP (Yq ?_))));exact hR vb _ tk (by rw[hk];exact hPb) λb o hb hn e=>(W0 _ _ (Ne.symm hn)).trans (k1 b o hb e)
 | succ k ih=>
   intro j s vb c hk hst hG hPb hS hR;refine ZU F.entry_min_loop ?_;rw[Around.under_plainId F.plain_min_loop _];refine Ym (m:=Zj (.ref S)) (ZI hS rfl ?_);refine Ym (m:=tryCatch (pyNext (.ref I)) _) (Z8 (W.item (j+1) s _ _ (by omega) hst λv h1 tk hP st1 k1=>?_));have hS1:=k1 S _ hSw hS;have hG1:=C.keep _ _ hG λb o hb _ e=>k1 b o hb e;refine Ym (m:=tryCatch (holding [v,v] (ZO .Lt v vb >>= _)) _) (Z8 (Z6 (Ym (C.cmp _ hG1 (j+1) (argBest bt j) v vb _ _ hP hPb ?_))));refine Ym (Z6 (Z3 (Ym (ZP (Yq ?_)))));cases hb:bt (j+1) (argBest bt j) with
   | true=>
     simp only[if_true];refine Ym (ZV hS1 rfl (Ym (ZP ?_)));rw[nm];have up:∀ b o,b≠S->h1.get? b=some o->(Xv h1 S (Obj.mapSeq λ_=>#[v,v])).get? b=some o:=λb o hn e=>(W0 _ _ (Ne.symm hn)).trans e;refine Yq ⟨ZL F.plain_min_loop _,ih (j+1) _ v _ (by omega) (W.frame _ _ _ st1 λb hbf o e=>up b o (λz=>hSf (z▸hbf)) e) (C.keep _ _ hG1 λb o _ hn e=>up b o hn e) ?_ (W3 _ hS1 rfl) λv' h2 tk2 hP' k2=>?_⟩
     ·simp only[argBest,hb,if_true];exact hP
     ·exact hR v' h2 tk2 hP' λb o hbw hn e=>k2 b o hbw hn (up b o hn (k1 b o hbw e))
   | false=>
     simp only[WH,if_false];refine Ym (ZP ?_);rw[nm];refine Yq ⟨ZL F.plain_min_loop _,ih (j+1) _ vb c (by omega) st1 hG1 ?_ hS1 λv' h2 tk2 hP' k2=>?_⟩
     ·simp only[argBest,hb,WH,if_false];exact hPb
     ·exact hR v' h2 tk2 hP' λb o hbw hn e=>k2 b o hbw hn (k1 b o hbw e)
theorem E6{d:Yn}(W:Walks prog w A.in1 I fp wr n P St){bt:Nat->Nat->Bool}{S:Yp}{G:Heap->Prop}(C:CmpIn prog w A.in1 wr S P bt G)(hSf:S∉fp){s:Yo}{c:Nat}(hst:St 0 s.heap)(hG:G s.heap)
 (hS:s.heap.get? S=some {cls := .type "list",dict:=none,data := .seq #[] c,slots:=#[]})
 (h0:n=0->∀ h' tk,(∀ b o,b∉wr->b≠S->s.heap.get? b=some o->h'.get? b=some o)->R (.ok (.ret d)) {s with heap:=h',toks:=tk})
 (hR:0<n->∀ v h' tk,P (argBest bt (n - 1)) v->(∀ b o,b∉wr->b≠S->s.heap.get? b=some o->h'.get? b=some o)->R (.ok (.ret v)) {s with heap:=h',toks:=tk}):
 codeAny (Yt prog w) A (.builtin "min.loop" ⟨[.ref I,.none,.ref S],[(Str.ofString "default",d)]⟩) R s:=by
 have hSw:S∉wr:=λz=>hSf (W.sub _ z);have nm:(toString "min"++toString ".loop":String)="min.loop":=by decide
 refine ZU F.entry_min_loop ?_;rw[Around.under_plainId F.plain_min_loop _];refine Ym (m:=Zj (.ref S)) (ZI hS rfl ?_);by_cases hn:n=0
 ·subst hn;refine Ym (m:=tryCatch (pyNext (.ref I)) _) (Z8 (W.done s _ _ hst λh1 tk k1=>?_));exact Ym (Zi (Yq (h0 rfl h1 tk λb o hb _ e=>k1 b o hb e)))
 ·refine Ym (m:=tryCatch (pyNext (.ref I)) _) (Z8 (W.item 0 s _ _ (by omega) hst λv h1 tk hP st1 k1=>?_));have hS1:=k1 S _ hSw hS;have up:∀ b o,b≠S->h1.get? b=some o->(Xv h1 S (Obj.mapSeq λ_=>#[v,v])).get? b=some o:=λb o hn e=>(W0 _ _ (Ne.symm hn)).trans e;refine Ym (m:=A0t S (λ_=>#[v,v])) (ZV hS1 rfl ?_);rw[nm];refine Yq ⟨ZL F.plain_min_loop _,F7 W C hSf (n - 1) 0 _ v _ (by omega) (W.frame _ _ _ st1 λb hbf o e=>up b o (λz=>hSf (z▸hbf)) e) (C.keep _ _ (C.keep _ _ hG λb o hb _ e=>k1 b o hb e) λb o _ hn e=>up b o hn e) hP (W3 _ hS1 rfl) λv' h2 tk2 hP' k2=>?_⟩;exact hR (by omega) v' h2 tk2 hP' λb o hbw hn e=>k2 b o hbw hn (up b o hn (k1 b o hbw e))
end
theorem E7{a b:Int}{us:List Yn}(r:Vals [V.int a,V.int b] us):IntsAre us [a,b]:=by
 cases r with
 | cons r1 r2=>
   obtain⟨t1,rfl⟩:=r1;cases r2 with
   | cons r2 r3=>
     obtain⟨t2,rfl⟩:=r2;cases r3;exact .cons _ _ (.cons _ _ .nil)
theorem F8(a v:Yn):argsOk "min" ⟨[a],[(Str.ofString "default",v)]⟩:=by unfold argsOk;kernel_rfl
section
variable{prog:Yu}{w:Yw}{A:Z0}{E:Yn->Yo->Prop}{s:Yo}
theorem F9{l:Yp}{items:Array Yn}{d:Yn}{Q:Yn->Yo->Prop}(hh:A.handled=none)(hl:s.heap.IsList l items)(bt:Nat->Nat->Bool)(G:Heap->Prop)(hG:G s.heap)
 (hkeep:∀ h h',G h->(∀ b o,b<s.heap.objs.size->h.get? b=some o->h'.get? b=some o)->G h')
 (hcmp:∀(s':Yo),G s'.heap->∀(i j:Nat) (vi vj:Yn) (Q:Yn->Yo->Prop) (E:Yn->Yo->Prop),items[i]?=some vi->items[j]?=some vj->Q (.bool (bt i j)) s'->Ys (Yt prog w) A.in1 (ZO .Lt vi vj) Q E s')
 (h0:items.size=0->∀ h' tk,(∀ b o,s.heap.get? b=some o->h'.get? b=some o)->Q d {s with heap:=h',toks:=tk})
 (hR:0<items.size->∀ v h' tk,items[argBest bt (items.size - 1)]?=some v->(∀ b o,s.heap.get? b=some o->h'.get? b=some o)->Q v {s with heap:=h',toks:=tk}):
 Ys (Yt prog w) A (call (.builtin "min") [.ref l] [(Str.ofString "default",d)]) Q E s:=by
 have nm:(toString "min"++toString ".loop":String)="min.loop":=by decide
 have hlt:l<s.heap.objs.size:=by obtain⟨o,ho,_⟩:=hl;exact VO ho
 refine kmb_tree F.kind_min F.plain_min F.entry_min (F8 _ _) ?_;refine Ym (m:=Builtin.Builtins.bindParams "min" ["key","default"] 0 ⟨[],[(Str.ofString "default",d)]⟩) (A0a (show Builtin.Builtins.bindParams "min" ["key","default"] 0 ⟨[],[(Str.ofString "default",d)]⟩=pure [none,some d] from rfl) ?_);refine Ym (Yq ?_);refine Ym (ZK hl ?_);refine Ym (Yz ?_);rw[nm];have W:=Walks.list (prog:=prog) (w:=w) (A:=A.in1) hh s.heap.objs.size l (VT hlt) items;have k1:∀ b o,s.heap.get? b=some o->((s.heap.push {cls := .type "list_iterator",data := .fields #[.ref l,.int 0 0]}).push {cls := .type "list",data := .seq ([]:List Yn).toArray}).get? b=some o:=λb o e=>VG _ (VG _ e);have nS:(s.heap.push {cls := .type "list_iterator",data := .fields #[.ref l,.int 0 0]}).objs.size=s.heap.objs.size+1:=by simp[WD]
 have C:CmpIn prog w A.in1 [s.heap.objs.size] (s.heap.push {cls := .type "list_iterator",data := .fields #[.ref l,.int 0 0]}).objs.size (λi v=>items[i]?=some v) bt G:=⟨λh h' g k=>hkeep h h' g λb o hb e=>k b o (by simp;exact VT hb) (by rw[nS];exact VT (Wa hb)) e,hcmp⟩
 have old:∀(h:Heap),(∀ b o,b∉[s.heap.objs.size]->b≠(s.heap.push {cls := .type "list_iterator",data := .fields #[.ref l,.int 0 0]}).objs.size->((s.heap.push {cls := .type "list_iterator",data := .fields #[.ref l,.int 0 0]}).push {cls := .type "list",data := .seq ([]:List Yn).toArray}).get? b=some o->h.get? b=some o)->∀ b o,s.heap.get? b=some o->h.get? b=some o:=λh k b o e=>k b o (by simp;exact VT (VO e)) (by rw[nS];have:=VO e;exact VT (Wa this)) (k1 b o e);refine Yq ⟨ZL F.plain_min_loop _,E6 (d:=d) W C ?_ ?_ (hkeep _ _ hG λb o _ e=>k1 b o e) (VV _ rfl) (λhz h' tk k=>h0 hz h' tk (old h' k)) (λhz v h' tk hv k=>hR hz v h' tk hv (old h' k))⟩
 ·rw[nS];simp only[VW,YJ,or_false,not_or];exact⟨YK _,λz=>absurd hlt (by rw[<-z];exact YL (Wq _))⟩
 ·exact⟨⟨_,VG _ (VV _ rfl),rfl,rfl⟩,hl.at λo e=>k1 _ _ e⟩
end
section
variable{X:Cx}
noncomputable def Hw(X:Cx)(f:Yn)(ks:List Str)(r:List V->List V->Hp->VK->Prop):Prop:=
 ∀(pq:List (Yp×Obj)) (s:Yo) (σ:St) (H:Hp) (vs zs:List V) (us ws:List Yn) (Q:VK),Inv X pq σ H s->Vals vs us->Vals zs ws->r vs zs H Q->Ys (Yt X.prog X.w) X.A (call f us (ks.zip ws)) (EP X pq σ Q) X.xe s
def Ut(r:List V->List V->Hp->VK->Prop)(t tk:TA):TE:=λσ H Q=>t σ H λvs H1=>tk σ H1 λzs H2=>r vs zs H2 Q
theorem EV{id:String}{ks:List Str}{r:List V->List V->Hp->VK->Prop}{x:Str}{p pos:Pos}{e:Expr}{es:List Expr}{kws:List Keyword}{t tk:TA}(hc:Hw X (.builtin id) ks r)(hg:Gl X x)(hm:X.mg x=none)(hv:Yx x=some (.builtin id))(ha:PA X (e::es) t)(hkw:PK X kws tk)
 (hks:(Zp pos (ZX kws X.env)).filterMap (·.1)=ks:=by rfl) (hn:x≠"__name__":=by decide) (hdb:(x == ("__debug__":Str))=false:=by decide)
 (he:backTo pos (Yy (e::es) X.env)=(false,eval e X.env)::backTo pos (Yy es X.env):=by rfl) (hpl:(backTo pos (Yy (e::es) X.env)).any (·.1)=false:=by rfl)
 (hall:(Zp pos (ZX kws X.env)).all (·.1.isSome)=true:=by rfl) (hno:(Zp pos (ZX kws X.env)).any (·.1.isNone)=false:=by rfl):PE X (.Call (.Name x p) (e::es) kws pos) (Ut r t tk):=by
 intro pq s σ H Q I h;refine ZQ (BE I hg hm hv ?_ hn hdb);refine callWith_kw (thn (ha pos pq s σ H _ I h) λus s1 ⟨vs,H1,I1,r1,q1⟩=>thn (hkw pos pq s1 σ H1 _ I1 q1) λws s2 ⟨zs,H2,I2,r2,q2⟩=>?_) he hpl hall hno;rw[hks];exact hc pq s2 σ H2 vs zs us ws Q I2 r1 r2 q2
def P4(H:Hp)(vs:List V)(ps:List (Int×Int)):Prop:=vs.length=ps.length/\∀(i:Nat) (p:Int×Int),ps[i]?=some p->∃ q,vs[i]?=some (.ref q)/\H q=some (.tup [.int p.1,.int p.2])
def lt2(p q:Int×Int):Bool:=HT.lexLt [p.1,p.2] [q.1,q.2]
def U6:List V->List V->Hp->VK->Prop:=λxs zs H Q=>∃ l vs ps,xs=[.ref l]/\zs=[.non]/\H l=some (.lst vs)/\P4 H vs ps/\(ps=[]->Q .non H)/\
 ∀(i:Nat) p q,ps[i]?=some p->vs[i]?=some (.ref q)->i=argBest (λa b=>lt2 (ps.getD a (0,0)) (ps.getD b (0,0))) (ps.length - 1)->0<ps.length->Q (.ref q) H
theorem Ke(hc:X.calm=true)(hu:X.A.units+1<cLine):Hw X (.builtin "min") ["default"] U6:=by
 intro pq s σ H xs zs us ws Q I r rz h;obtain⟨l,vs,ps,rfl,rfl,hl,⟨hlen,hps⟩,q0,q1⟩:=h;obtain⟨u,rfl,ru⟩:=AQ r;cases ru;obtain⟨z,rfl,rz'⟩:=AQ rz;cases rz';obtain⟨its,rv,pl,hz⟩:=I.list (SqL.of hl);have hl2:=rv.length
 have tup:∀(i:Nat) (v:Yn),its.toArray[i]?=some v->∃ q p,v = .ref q/\ps[i]?=some p/\vs[i]?=some (.ref q)/\H q=some (.tup [.int p.1,.int p.2])/\∃ ti:List Yn,IsTup s.heap q ti.toArray/\IntsAre ti [p.1,p.2]:=λi v hv=>by
  have hv':its[i]?=some v:=by simpa using hv
  have hi:i<ps.length:=by have:=(gM hv').1;omega
  obtain⟨q,e1,e2⟩:=hps i ps[i] (by simp[hi]);obtain⟨u',eu,ru'⟩:=rv.get e1;rw[hv']at eu;cases eu;cases ru';obtain⟨ti,rt,pt,_⟩:=I.tuple (SqT.of e2);exact⟨q,ps[i],rfl,by simp[hi],e1,e2,ti,pt,E7 rt⟩
 refine F9 (I.ok.hd hc) pl.isList (λa b=>lt2 (ps.getD a (0,0)) (ps.getD b (0,0))) (λh=>∀(i:Nat) (v:Yn),its.toArray[i]?=some v->∃ q p,v = .ref q/\q<s.heap.objs.size/\ps[i]?=some p/\∃ ti:List Yn,IsTup h q ti.toArray/\IntsAre ti [p.1,p.2]) ?_ ?_ ?_ ?_ ?_
 ·intro i v hv;obtain⟨q,p,e1,e2,_,_,ti,e3,e4⟩:=tup i v hv;obtain⟨o,ho,_⟩:=e3;exact⟨q,p,e1,VO ho,e2,ti,⟨o,ho,by assumption⟩,e4⟩
 ·intro h h' g k i v hv;obtain⟨q,p,e1,e2,e3,ti,⟨o,ho,hr⟩,e5⟩:=g i v hv;exact⟨q,p,e1,e2,e3,ti,⟨o,k q o e2 ho,hr⟩,e5⟩
 ·intro s' g i j vi vj Q' E' hi hj q;obtain⟨qi,pi,rfl,_,ei,ti,ti1,ti2⟩:=g i vi hi;obtain⟨qj,pj,rfl,_,ej,tj,tj1,tj2⟩:=g j vj hj;refine HT.lt_tupInts ti1 tj1 (by simpa using ti2) (by simpa using tj2) (show X.A.units+1<cLine from hu) ?_;have e1:ps.getD i (0,0)=pi:=by simp[W9,ei]
  have e2:ps.getD j (0,0)=pj:=by simp[W9,ej]
  rw[e1,e2]at q;exact q
 ·intro hz' h' tk k
  have:ps=[]:=by
   cases ps with
   | nil=>rfl
   | cons p r=>rw[VF]at hz';simp at hlen;omega
  exact⟨.non,H,I.kept (t':=tk) k,rfl,q0 this⟩
 ·intro hp v h' tk hv k;obtain⟨q,p,rfl,e2,e3,e4,_⟩:=tup _ v hv;have hsz:its.toArray.size=ps.length:=by rw[VF];omega
  rw[hsz]at e2 e3 hp;exact⟨.ref q,H,I.kept (t':=tk) k,rfl,q1 _ p q e2 e3 rfl hp⟩
end
section
variable{prog:Yu}{w:Yw}{κ:Type}[DecidableEq κ]{knd:HeapKind prog w κ}{A:Z0}{E:Yn->Yo->Prop}{s:Yo}
theorem Hx{d a:Yp}{o:Obj}{es:Array ZW}{ep:Nat}{xs:List (κ×Yp×Yn)}{k:κ}{v:Yn}(hkey:knd.is s.heap k a)(ho:s.heap.get? d=some o)(hc:o.ExactDict)(hd:o.data = .dict es ep)(he:es.toList=xs.map (A0v knd))(his:∀ x∈xs,knd.is s.heap x.1 x.2.1)(hn:(xs.map (·.1)).Nodup)
 (hno:atKey xs k=none) (hnot:k∉xs.map (·.1)):(s.heap.update d (Obj.mapDictKeys (·.push ⟨knd.hash k,.ref a,v⟩))).DictOfH knd d (storedH xs k a v):=by
 have same:W7 d s.heap (s.heap.update d (Obj.mapDictKeys (·.push ⟨knd.hash k,.ref a,v⟩))):=W7.update ..;rw[storedH_new hno];refine⟨_,_,ep+1,W3 _ ho (Obj.isFreed_of_dict (Obj.data_mapDictKeys hd _)),hc.mapDictKeys _,Obj.data_mapDictKeys hd _,by simp[he,A0v],λx hx=>?_,?_⟩
 ·have hx':x∈xs\/x=(k,a,v):=by simpa using hx
  rcases hx' with hx' | rfl
  ·exact knd.keeps (his x hx') ho hd same
  ·exact knd.keeps hkey ho hd same
 ·rw[VR];exact Wk.mpr ⟨hn,by simp,λx hx y hy z=>hnot (by simp at hy;subst hy;rw[<-z];exact hx)⟩
theorem MU{d a:Yp}{xs:List (κ×Yp×Yn)}{k:κ}{v:Yn}{Q:Yn->Yo->Prop}(hu:knd.room A)(hkey:knd.is s.heap k a)(hm:s.heap.DictOfH knd d xs)
 (h1:∀ p,atKey xs k=some p->∀ tk,Q p.2 {s with toks:=tk})
 (h2:atKey xs k=none->∀ h' tk,h'.DictOfH knd d (storedH xs k a v)->W7 d s.heap h'->Q v {s with heap:=h',toks:=tk}) (hsz:xs.length<=Yr):Ys (Yt prog w) A (A0b d (.ref a) v) Q E s:=by
 obtain⟨o,es,ep,ho,hc,hd,he,his,hn⟩:=id hm;unfold A0b
 try with_reducible refine Z6 ?_
 refine Ym (knd.pyHash hu hkey (Ym (wpAny_dictFind_heap (s:={s with toks:=s.toks+knd.draws k}) hu hkey ho hd he his hn (λhno=>?_) (λj p hj=>?_))))
 ·have e0:=atKey_none_of_get hno;refine Ym (Zi (Ym (wpAny_updateDictKeys (hz:=by have e:=size_of_entries he;omega) (s:={s with toks:=s.toks+knd.draws k}) ho hd (Yq ?_))));exact h2 e0 _ _ (Hx hkey ho hc hd he his hn e0 (not_mem_keys_of_get hno)) (W7.update ..)
 ·refine Ym (Zg (s:={s with toks:=s.toks+knd.draws k}) ho hd ?_);rw[entry_at he j,hj];exact Ym (Zi (Yq (h1 p (atKey_of_get hn hj) _)))
theorem DM(d a:Yp)(hd:(d == Z7)=false)(v:Yn):
 MeetsIn prog w (Builtin.«dict.setdefault» ⟨[.ref d,.ref a,v],[]⟩) (λA R s=>knd.room A.in1/\∃ k xs,knd.is s.heap k a/\s.heap.DictOfH knd d xs/\xs.length<=Yr/\s.TypeIs (.ref d) "dict"/\
  (∀ p,atKey xs k=some p->∀ tk,R (.ok (.ret p.2)) {s with toks:=tk})/\
  (atKey xs k=none->∀ h' tk,h'.DictOfH knd d (storedH xs k a v)->W7 d s.heap h'->R (.ok (.ret v)) {s with heap:=h',toks:=tk})):=
 .of_wp λA R s ⟨hu,k,xs,hkey,hm,hz,ht,h1,h2⟩=>by
  unfold Builtin.«dict.setdefault»;refine Ym ?_;unfold Builtin.Dict.keyAndDefault;refine Ym (A08 ht ?_);refine Yq ?_;show Ys _ _ (if (d == Z7)=true then _ else (A0b d (.ref a) v >>= _)) _ _ s;rw[hd];rw[iG VJ];exact Ym (MU hu hkey hm (λp e tk=>Yq ⟨p.2,rfl,h1 p e tk⟩) (λe h' tk m' b'=>Yq ⟨v,rfl,h2 e h' tk m' b'⟩) hz)
end
section
variable{X:Cx}{o e f:Expr}{apos cpos:Pos}{td ty tx:TE}
def U7(td ty tx:TE):TE:=λσ H Q=>td σ H λx H1=>∃ a,x = .ref a/\IsD H1 a/\ty σ H1 λy H2=>tx σ H2 λz H3=>∃ kvs k b,y = .ref b/\H3 a=some (.dT kvs)/\H3 b=some (.tup (k.map kV))/\kvs.length<Yr/\
 (∀ v,w4 kvs k=some v->Q v H3)/\(w4 kvs k=none->Q z (upd H3 a (.dT (Aa kvs k z))))
theorem P5(hu:X.A.units+1<cLine)(ho:PE X o td)(he:PE X e ty)(hf:PE X f tx)(m:M2 X o "setdefault" apos e f cpos):PE X (.Call (.Attribute o "setdefault" apos) [e,f] [] cpos) (U7 td ty tx):=by
 intro pq s σ H Q I h;refine Zv m.base m.few m.line PySem.F.plainAttrs_dict PySem.F.slot_dict_setdefault PySem.F.type_dict_setdefault (thn (ho pq s σ H _ I h) λu s1 ⟨x,H1,I1,rx,a,ex,d,q1⟩=>?_);subst ex;obtain rfl:u=Value.ref a:=rx;obtain⟨t1,t2,_⟩:=Hs I1 d;refine⟨t1,t2,?_⟩;rw[m.trees]
 refine Calls.callWith_builtin rfl (Calls.evalArgs_plain (Calls.spliced_cons (thn (he pq s1 σ H1 _ I1 q1) λiv s2 ⟨y,H2,I2,ry,q2⟩=>
  Calls.spliced_cons (thn (hf pq s2 σ H2 _ I2 q2) λfv s3 ⟨z,H3,I3,rz,kvs,k,b,ey,ha,hb,hz,qs,qn⟩=>Calls.spliced_nil ?_))))
 subst ey;cases ry;obtain⟨hl,hd,xs,rel,dd⟩:=MB I3.hok ha;have hxl:xs.length<=Yr:=by rw[<-Paired.length rel];exact hl
 refine Zm PySem.F.slot_dict_setdefault dd.typeIs PySem.F.entry_dict_setdefault (PySem.F.args_dict_setdefault_3 _ _ _) (DM (knd:=Zn (n0 X.prog X.w)) a b hd fv) ⟨Zc hu,k,xs,DH I3.hok hb,dd,hxl,dd.typeIs,λp e tk=>?_,λe h' tk dd' hs=>?_⟩
 ·have rv:=rel.val k;rw[e]at rv;cases hv:w4 kvs k with
  | none=>rw[hv]at rv;exact rv.elim
  | some v=>rw[hv]at rv;exact⟨v,H3,I3.tok tk,rv,qs v hv⟩
 ·have hv:w4 kvs k=none:=by
   have rv:=rel.val k;rw[e]at rv;cases hv:w4 kvs k with
   | none=>rfl
   | some v=>rw[hv]at rv;exact rv.elim
  refine⟨z,_,?_,rz,qn hv⟩;obtain⟨q,es,ep,hq,h2,h3,h4,_,h5⟩:=dd';have hl2:(Aa kvs k z).length<=Yr:=by have:=Ac kvs k z;omega
  refine Cv I3 (by rw[ha];exact True.intro) hs ⟨q,hq⟩ ⟨hl2,hd,_,(rel.put k hb rz).keeps λc ys ec=>?_,q,es,ep,hq,h2,h3,h4,h5⟩;rw[i7 (LZ ec ha (λz=>nomatch z))];exact ec
end
section
variable{prog:Yu}{w:Yw}{A:Z0}{R:Result->Yo->Prop}{I:Yp}{fp wr:List Yp}{n:Nat}{P:Nat->Yn->Prop}{St:Nat->Heap->Prop}
structure CmpMx(prog:Yu)(w:Yw)(A:Z0)(wr:List Yp)(S:Yp)(P:Nat->Yn->Prop)(bt:Nat->Nat->Bool)(G:Heap->Prop):Prop where
 keep:∀ h h',G h->(∀ b o,b∉wr->b≠S->h.get? b=some o->h'.get? b=some o)->G h'
 cmp:∀(s:Yo),G s.heap->∀(i j:Nat) (vi vj:Yn) (Q:Yn->Yo->Prop) (E:Yn->Yo->Prop),P i vi->P j vj->Q (.bool (bt i j)) s->Ys (Yt prog w) A (ZO .Gt vi vj) Q E s
theorem FA{kw:List (Str×Yn)}(W:Walks prog w A.in1 I fp wr n P St){bt:Nat->Nat->Bool}{S:Yp}{G:Heap->Prop}(C:CmpMx prog w A.in1 wr S P bt G)(hSf:S∉fp)(k:Nat):
 ∀(j:Nat) (s:Yo) (vb:Yn) (c:Nat),n=j+1+k->St (j+1) s.heap->G s.heap->P (argBest bt j) vb->
 s.heap.get? S=some {cls := .type "list",dict:=none,data := .seq #[vb,vb] c,slots:=#[]}->
 (∀ v h' tk,P (argBest bt (n - 1)) v->(∀ b o,b∉wr->b≠S->s.heap.get? b=some o->h'.get? b=some o)->R (.ok (.ret v)) {s with heap:=h',toks:=tk})->
 codeAny (Yt prog w) A (.builtin "max.loop" ⟨[.ref I,.none,.ref S],kw⟩) R s:=by
 have hSw:S∉wr:=λz=>hSf (W.sub _ z);have nm:(toString "max"++toString ".loop":String)="max.loop":=by decide
 induction k with
 | zero=>
   intro j s vb c hk hst hG hPb hS hR;refine ZU F.entry_max_loop ?_;rw[Around.under_plainId F.plain_max_loop _];refine Ym (m:=Zj (.ref S)) (ZI hS rfl ?_);have hst':St n s.heap:=by rw[hk];exact hst
   refine Ym (m:=tryCatch (pyNext (.ref I)) _) (Z8 (W.done s _ _ hst' λh1 tk k1=>?_));have hS1:=k1 S _ hSw hS;refine Ym (m:=A0t S (λ_=>#[])) (ZV hS1 rfl (Ym (ZP (Yq ?_))));exact hR vb _ tk (by rw[hk];exact hPb) λb o hb hn e=>(W0 _ _ (Ne.symm hn)).trans (k1 b o hb e)
 | succ k ih=>
   intro j s vb c hk hst hG hPb hS hR;refine ZU F.entry_max_loop ?_;rw[Around.under_plainId F.plain_max_loop _];refine Ym (m:=Zj (.ref S)) (ZI hS rfl ?_);refine Ym (m:=tryCatch (pyNext (.ref I)) _) (Z8 (W.item (j+1) s _ _ (by omega) hst λv h1 tk hP st1 k1=>?_));have hS1:=k1 S _ hSw hS;have hG1:=C.keep _ _ hG λb o hb _ e=>k1 b o hb e;refine Ym (m:=tryCatch (holding [v,v] (ZO .Gt v vb >>= _)) _) (Z8 (Z6 (Ym (C.cmp _ hG1 (j+1) (argBest bt j) v vb _ _ hP hPb ?_))));refine Ym (Z6 (Z3 (Ym (ZP (Yq ?_)))));cases hb:bt (j+1) (argBest bt j) with
   | true=>
     simp only[if_true];refine Ym (ZV hS1 rfl (Ym (ZP ?_)));rw[nm];have up:∀ b o,b≠S->h1.get? b=some o->(Xv h1 S (Obj.mapSeq λ_=>#[v,v])).get? b=some o:=λb o hn e=>(W0 _ _ (Ne.symm hn)).trans e;refine Yq ⟨ZL F.plain_max_loop _,ih (j+1) _ v _ (by omega) (W.frame _ _ _ st1 λb hbf o e=>up b o (λz=>hSf (z▸hbf)) e) (C.keep _ _ hG1 λb o _ hn e=>up b o hn e) ?_ (W3 _ hS1 rfl) λv' h2 tk2 hP' k2=>?_⟩
     ·simp only[argBest,hb,if_true];exact hP
     ·exact hR v' h2 tk2 hP' λb o hbw hn e=>k2 b o hbw hn (up b o hn (k1 b o hbw e))
   | false=>
     simp only[WH,if_false];refine Ym (ZP ?_);rw[nm];refine Yq ⟨ZL F.plain_max_loop _,ih (j+1) _ vb c (by omega) st1 hG1 ?_ hS1 λv' h2 tk2 hP' k2=>?_⟩
     ·simp only[argBest,hb,WH,if_false];exact hPb
     ·exact hR v' h2 tk2 hP' λb o hbw hn e=>k2 b o hbw hn (k1 b o hbw e)
theorem E8{d:Yn}(W:Walks prog w A.in1 I fp wr n P St){bt:Nat->Nat->Bool}{S:Yp}{G:Heap->Prop}(C:CmpMx prog w A.in1 wr S P bt G)(hSf:S∉fp){s:Yo}{c:Nat}(hst:St 0 s.heap)(hG:G s.heap)
 (hS:s.heap.get? S=some {cls := .type "list",dict:=none,data := .seq #[] c,slots:=#[]})
 (h0:n=0->∀ h' tk,(∀ b o,b∉wr->b≠S->s.heap.get? b=some o->h'.get? b=some o)->R (.ok (.ret d)) {s with heap:=h',toks:=tk})
 (hR:0<n->∀ v h' tk,P (argBest bt (n - 1)) v->(∀ b o,b∉wr->b≠S->s.heap.get? b=some o->h'.get? b=some o)->R (.ok (.ret v)) {s with heap:=h',toks:=tk}):
 codeAny (Yt prog w) A (.builtin "max.loop" ⟨[.ref I,.none,.ref S],[(Str.ofString "default",d)]⟩) R s:=by
 have hSw:S∉wr:=λz=>hSf (W.sub _ z);have nm:(toString "max"++toString ".loop":String)="max.loop":=by decide
 refine ZU F.entry_max_loop ?_;rw[Around.under_plainId F.plain_max_loop _];refine Ym (m:=Zj (.ref S)) (ZI hS rfl ?_);by_cases hn:n=0
 ·subst hn;refine Ym (m:=tryCatch (pyNext (.ref I)) _) (Z8 (W.done s _ _ hst λh1 tk k1=>?_));exact Ym (Zi (Yq (h0 rfl h1 tk λb o hb _ e=>k1 b o hb e)))
 ·refine Ym (m:=tryCatch (pyNext (.ref I)) _) (Z8 (W.item 0 s _ _ (by omega) hst λv h1 tk hP st1 k1=>?_));have hS1:=k1 S _ hSw hS;have up:∀ b o,b≠S->h1.get? b=some o->(Xv h1 S (Obj.mapSeq λ_=>#[v,v])).get? b=some o:=λb o hn e=>(W0 _ _ (Ne.symm hn)).trans e;refine Ym (m:=A0t S (λ_=>#[v,v])) (ZV hS1 rfl ?_);rw[nm];refine Yq ⟨ZL F.plain_max_loop _,FA W C hSf (n - 1) 0 _ v _ (by omega) (W.frame _ _ _ st1 λb hbf o e=>up b o (λz=>hSf (z▸hbf)) e) (C.keep _ _ (C.keep _ _ hG λb o hb _ e=>k1 b o hb e) λb o _ hn e=>up b o hn e) hP (W3 _ hS1 rfl) λv' h2 tk2 hP' k2=>?_⟩;exact hR (by omega) v' h2 tk2 hP' λb o hbw hn e=>k2 b o hbw hn (up b o hn (k1 b o hbw e))
end
theorem FB(a v:Yn):argsOk "max" ⟨[a],[(Str.ofString "default",v)]⟩:=by unfold argsOk;kernel_rfl
section
variable{prog:Yu}{w:Yw}{A:Z0}{E:Yn->Yo->Prop}{s:Yo}
theorem FC{l:Yp}{items:Array Yn}{d:Yn}{Q:Yn->Yo->Prop}(hh:A.handled=none)(hl:s.heap.IsList l items)(bt:Nat->Nat->Bool)(G:Heap->Prop)(hG:G s.heap)
 (hkeep:∀ h h',G h->(∀ b o,b<s.heap.objs.size->h.get? b=some o->h'.get? b=some o)->G h')
 (hcmp:∀(s':Yo),G s'.heap->∀(i j:Nat) (vi vj:Yn) (Q:Yn->Yo->Prop) (E:Yn->Yo->Prop),items[i]?=some vi->items[j]?=some vj->Q (.bool (bt i j)) s'->Ys (Yt prog w) A.in1 (ZO .Gt vi vj) Q E s')
 (h0:items.size=0->∀ h' tk,(∀ b o,s.heap.get? b=some o->h'.get? b=some o)->Q d {s with heap:=h',toks:=tk})
 (hR:0<items.size->∀ v h' tk,items[argBest bt (items.size - 1)]?=some v->(∀ b o,s.heap.get? b=some o->h'.get? b=some o)->Q v {s with heap:=h',toks:=tk}):
 Ys (Yt prog w) A (call (.builtin "max") [.ref l] [(Str.ofString "default",d)]) Q E s:=by
 have nm:(toString "max"++toString ".loop":String)="max.loop":=by decide
 have hlt:l<s.heap.objs.size:=by obtain⟨o,ho,_⟩:=hl;exact VO ho
 refine kmb_tree F.kind_max F.plain_max F.entry_max (FB _ _) ?_;refine Ym (m:=Builtin.Builtins.bindParams "max" ["key","default"] 0 ⟨[],[(Str.ofString "default",d)]⟩) (A0a (show Builtin.Builtins.bindParams "max" ["key","default"] 0 ⟨[],[(Str.ofString "default",d)]⟩=pure [none,some d] from rfl) ?_);refine Ym (Yq ?_);refine Ym (ZK hl ?_);refine Ym (Yz ?_);rw[nm];have W:=Walks.list (prog:=prog) (w:=w) (A:=A.in1) hh s.heap.objs.size l (VT hlt) items;have k1:∀ b o,s.heap.get? b=some o->((s.heap.push {cls := .type "list_iterator",data := .fields #[.ref l,.int 0 0]}).push {cls := .type "list",data := .seq ([]:List Yn).toArray}).get? b=some o:=λb o e=>VG _ (VG _ e);have nS:(s.heap.push {cls := .type "list_iterator",data := .fields #[.ref l,.int 0 0]}).objs.size=s.heap.objs.size+1:=by simp[WD]
 have C:CmpMx prog w A.in1 [s.heap.objs.size] (s.heap.push {cls := .type "list_iterator",data := .fields #[.ref l,.int 0 0]}).objs.size (λi v=>items[i]?=some v) bt G:=⟨λh h' g k=>hkeep h h' g λb o hb e=>k b o (by simp;exact VT hb) (by rw[nS];exact VT (Wa hb)) e,hcmp⟩
 have old:∀(h:Heap),(∀ b o,b∉[s.heap.objs.size]->b≠(s.heap.push {cls := .type "list_iterator",data := .fields #[.ref l,.int 0 0]}).objs.size->((s.heap.push {cls := .type "list_iterator",data := .fields #[.ref l,.int 0 0]}).push {cls := .type "list",data := .seq ([]:List Yn).toArray}).get? b=some o->h.get? b=some o)->∀ b o,s.heap.get? b=some o->h.get? b=some o:=λh k b o e=>k b o (by simp;exact VT (VO e)) (by rw[nS];have:=VO e;exact VT (Wa this)) (k1 b o e);refine Yq ⟨ZL F.plain_max_loop _,E8 (d:=d) W C ?_ ?_ (hkeep _ _ hG λb o _ e=>k1 b o e) (VV _ rfl) (λhz h' tk k=>h0 hz h' tk (old h' k)) (λhz v h' tk hv k=>hR hz v h' tk hv (old h' k))⟩
 ·rw[nS];simp only[VW,YJ,or_false,not_or];exact⟨YK _,λz=>absurd hlt (by rw[<-z];exact YL (Wq _))⟩
 ·exact⟨⟨_,VG _ (VV _ rfl),rfl,rfl⟩,hl.at λo e=>k1 _ _ e⟩
end
section
variable{X:Cx}
def gtB(ns:List Int)(a b:Nat):Bool:=decide (ns.getD a 0>ns.getD b 0)
theorem JD(ns:List Int):∀ k j,j<=k->ns.getD j 0<=ns.getD (argBest (gtB ns) k) 0
 | 0,j,hj=>by
   have:j=0:=by omega
   subst this;exact Yl _
 | k+1,j,hj=>by
   have ih:=JD ns k;simp only[argBest];split
   ·rename_i hb;have hb:=of_decide_eq_true hb;by_cases e:j=k+1
    ·subst e;exact Yl _
    ·have:=ih j (by omega);omega
   ·rename_i hb;have hb:¬ ns.getD (k+1) 0>ns.getD (argBest (gtB ns) k) 0:=λz=>hb (decide_eq_true z);by_cases e:j=k+1
    ·subst e;omega
    ·exact ih j (by omega)
theorem G9(bt:Nat->Nat->Bool):∀ k,argBest bt k<=k
 | 0=>VH _
 | k+1=>by
   simp only[argBest];split
   ·exact VH _
   ·exact YC (G9 bt k)
def Grt(ns:List Int)(m:Int):Prop:=m∈ns/\∀ n∈ns,n<=m
theorem GA{ns:List Int}(h:0<ns.length):Grt ns (ns.getD (argBest (gtB ns) (ns.length - 1)) 0):=by
 have hb:=G9 (gtB ns) (ns.length - 1);have hlt:argBest (gtB ns) (ns.length - 1)<ns.length:=by omega
 refine⟨by rw[show ns.getD (argBest (gtB ns) (ns.length - 1)) 0=ns[argBest (gtB ns) (ns.length - 1)] by simp[W9,hlt]];exact WX hlt,λn hn=>?_⟩;obtain⟨j,hj⟩:=WY hn;have hjl:=(gM hj).1;have:=JD ns (ns.length - 1) j (by omega);rw[show ns.getD j 0=n by simp[W9,hj]]at this;exact this
def U8:List V->List V->Hp->VK->Prop:=λxs zs H Q=>∃ l ns d,xs=[.ref l]/\zs=[.int d]/\H l=some (.lst (ns.map V.int))/\(ns=[]->Q (.int d) H)/\∀ m,Grt ns m->Q (.int m) H
theorem Cw{ns:List Int}{its:List Yn}(rv:Vals (ns.map V.int) its){i:Nat}{v:Yn}(h:its[i]?=some v):∃ n t,ns[i]?=some n/\v = .int n t:=by
 have hl:=rv.length;rw[VA]at hl;have hi:i<ns.length:=by have:=(gM h).1;omega
 have e:(ns.map V.int)[i]?=some (.int ns[i]):=by simp[hi]
 obtain⟨u,eu,ru⟩:=rv.get e;rw[h]at eu;cases eu;obtain⟨t,rfl⟩:=ru;exact⟨_,t,by simp[hi],rfl⟩
theorem Kf(hc:X.calm=true):Hw X (.builtin "max") ["default"] U8:=by
 intro pq s σ H xs zs us ws Q I r rz h;obtain⟨l,ns,d,rfl,rfl,hl,q0,q1⟩:=h;obtain⟨u,rfl,ru⟩:=AQ r;cases ru;obtain⟨z,rfl,rz'⟩:=AQ rz;obtain⟨t,rfl⟩:=rz';obtain⟨its,rv,pl,hz⟩:=I.list (SqL.of hl);have hl2:ns.length=its.length:=by have:=rv.length;rwa [VA]at this
 refine FC (I.ok.hd hc) pl.isList (gtB ns) (λ_=>True) trivial (λ_ _ _ _=>trivial) ?_ ?_ ?_
 ·intro s' _ i j vi vj Q' E' hi hj q
  exact CmpOf.ints_gt (P:=λi v=>its.toArray[i]?=some v) (λi=>ns.getD i 0) (λi v h=>by
   obtain⟨n,t1,e1,rfl⟩:=Cw rv (show its[i]?=some v by simpa using h);exact⟨t1,by simp[W9,e1]⟩) i j vi vj s' Q' E' hi hj q
 ·intro hz' h' tk k
  have:ns=[]:=by
   cases ns with
   | nil=>rfl
   | cons p r=>rw[VF]at hz';simp at hl2;omega
  exact⟨.int d,H,I.kept (t':=tk) k,⟨t,rfl⟩,q0 this⟩
 ·intro hp v h' tk hv k;obtain⟨n,t1,e1,rfl⟩:=Cw rv (show its[argBest (gtB ns) (its.toArray.size - 1)]?=some v by simpa using hv);have hsz:its.toArray.size=ns.length:=by rw[VF];omega
  rw[hsz]at e1 hp;have g:=GA hp;rw[show ns.getD (argBest (gtB ns) (ns.length - 1)) 0=n by simp[W9,e1]]at g;exact⟨.int n,H,I.kept (t':=tk) k,⟨t1,rfl⟩,q1 n g⟩
theorem Kg(hc:X.calm=true):CallR X (.builtin "max") (λxs H Q=>∃ l ns,xs=[.ref l]/\H l=some (.lst (ns.map V.int))/\0<ns.length/\∀ m,Grt ns m->Q (.int m) H):=by
 intro pq s σ H xs us Q I r h;obtain⟨l,ns,rfl,hl,hn,q1⟩:=h;obtain⟨u,rfl,ru⟩:=AQ r;cases ru;obtain⟨its,rv,pl,hz⟩:=I.list (SqL.of hl);have hl2:ns.length=its.length:=by have:=rv.length;rwa [VA]at this
 have hlt:l<s.heap.objs.size:=by obtain⟨o,ho,_⟩:=pl.isList;exact VO ho
 have hne:l≠s.heap.objs.size:=VT hlt;refine call_max_walk (ZK pl.isList ⟨s.heap.objs.size,[s.heap.objs.size,l],[s.heap.objs.size],its.toArray.size,_,_,gtB ns,rfl,Walks.list (prog:=X.prog) (w:=X.w) (A:=X.A.in1) (I.ok.hd hc) s.heap.objs.size l hne its.toArray,?_,?_,?_,?_,?_⟩)
 ·exact⟨⟨_,VV _ rfl,rfl,rfl⟩,pl.isList.at λo e=>VG _ e⟩
 ·intro b hb;rcases VW.mp hb with rfl | hb
  ·show _<(s.heap.push _).objs.size;rw[WD];exact Wq _
  ·rw[VU.mp hb];show _<(s.heap.push _).objs.size;rw[WD];exact Wa hlt
 ·rw[VF];omega
 ·exact CmpOf.ints_gt (λi=>ns.getD i 0) (λi v h=>by
   obtain⟨n,t1,e1,rfl⟩:=Cw rv (show its[i]?=some v by simpa using h);exact⟨t1,by simp[W9,e1]⟩)
 ·intro v h' tk hv k;obtain⟨n,t1,e1,rfl⟩:=Cw rv (show its[argBest (gtB ns) (its.toArray.size - 1)]?=some v by simpa using hv);have hsz:its.toArray.size=ns.length:=by rw[VF];omega
  rw[hsz]at e1;have g:=GA hn;rw[show ns.getD (argBest (gtB ns) (ns.length - 1)) 0=n by simp[W9,e1]]at g;refine⟨.int n,H,I.kept (t':=tk) (λb o e=>k b o (λz=>?_) (VG _ e)),⟨t1,rfl⟩,q1 n g⟩;rw[VU.mp z]at e;exact Wn _ (VO e)
theorem P6{body:List Stmt}{h₀:Zx}{hs:List Zx}{pos:Pos}{t:TS}(hx:∀ e s,¬ X.xe e s)(hb:PSs X body t):PS X (.Try body (h₀::hs) [] [] pos) t:=by
 intro pq s σ H D I hw;refine wpAny_Try_except (ZE (hb pq s σ H D I hw) (λf s1 q=>?_) λe s1 z=>(hx e s1 z).elim);cases f with
 | next=>exact Zl q
 | _=>exact q
end
end L2
namespace Rf
open PySem L2
inductive BI where
 | len | abs | min | max | int | list | tuple | all | any | sorted | isi | str | repr
 deriving DecidableEq
def BI.name:BI->Str
 | .len=>"len" | .abs=>"abs" | .min=>"min" | .max=>"max" | .int=>"int" | .list=>"list" | .tuple=>"tuple" | .all=>"all" | .any=>"any" | .sorted=>"sorted" | .isi=>"isinstance" | .str=>"str" | .repr=>"repr"
def blS:List SV->Option (List Bool)
 | []=>some []
 | .bl b::xs=>(blS xs).map (b::·)
 | _::_=>none
def Hy:List SV->Option (List Int)
 | []=>some []
 | .int i::xs=>(Hy xs).map (i::·)
 | _::_=>none
def tyS:SV->Sto->Option TyN
 | .non,_=>some .none
 | .bl _,_=>some .bool
 | .int _,_=>some .int
 | .str _,_=>some .str
 | .tup _,_=>some .tuple
 | .loc k,S=>match S[k]? with | some (.lst _)=>some .list | _=>none
 | _,_=>none
def GB:TyN->TyN->Bool
 | .bool,.int=>true
 | a,b=>decide (a=b)
def Kh:List SV->Option (List TyN)
 | []=>some []
 | .ty t::xs=>(Kh xs).map (t::·)
 | _::_=>none
def a0(f:Sto->QE->Prop):Sn:=λxs S Q=>match xs with | []=>f S Q | _=>False
def a1(f:S1):Sn:=λxs S Q=>match xs with | [x]=>f x S Q | _=>False
def a2(f:S2):Sn:=λxs S Q=>match xs with | [x,y]=>f x y S Q | _=>False
def oI(f:Int->Sto->QE->Prop):S1:=λx S Q=>match x with | .int i=>f i S Q | _=>False
theorem U9{f:Sto->QE->Prop}{xs:List SV}{S:Sto}{Q:QE}(h:a0 f xs S Q):xs=[]/\f S Q:=match xs,h with | [],h=>⟨rfl,h⟩
theorem DN{f:S1}{xs:List SV}{S:Sto}{Q:QE}(h:a1 f xs S Q):∃ x,xs=[x]/\f x S Q:=match xs,h with | [x],h=>⟨x,rfl,h⟩
theorem MV{f:S2}{xs:List SV}{S:Sto}{Q:QE}(h:a2 f xs S Q):∃ x y,xs=[x,y]/\f x y S Q:=match xs,h with | [x,y],h=>⟨x,y,rfl,h⟩
theorem Cr{f:Int->Sto->QE->Prop}{x:SV}{S:Sto}{Q:QE}(h:oI f x S Q):∃ i,x = .int i/\f i S Q:=match x,h with | .int i,h=>⟨i,rfl,h⟩
theorem AE{f:S1}(m:Fw f):MonoN (a1 f):=λxs S P P' i h=>by
 replace h:=DN h;obtain⟨x,rfl,h⟩:=h;exact m x S P P' i h
theorem Cy{f:S2}(m:Mono2 f):MonoN (a2 f):=λxs S P P' i h=>by
 replace h:=MV h;obtain⟨x,y,rfl,h⟩:=h;exact m x y S P P' i h
theorem P7{f:Int->Sto->QE->Prop}(m:∀ k S P P',(∀ x S',P x S'->P' x S')->f k S P->f k S P'):Fw (oI f):=λx S P P' i h=>by
 replace h:=Cr h;obtain⟨k,rfl,h⟩:=h;exact m k S P P' i h
def UA:S1
 | .int i,S,Q=>Q (.int i) S
 | .bl b,S,Q=>Q (.int (if b then 1 else 0)) S
 | _,_,_=>False
theorem Qb{x:SV}{S:Sto}{Q:QE}(h:UA x S Q):(∃ i,x = .int i/\Q (.int i) S)\/∃ b,x = .bl b/\Q (.int (if b then 1 else 0)) S:=match x,h with
 | .int i,h => .inl ⟨i,rfl,h⟩
 | .bl b,h => .inr ⟨b,rfl,h⟩
def UB:S2:=λx y S Q=>match y with
 | .ty t=>∃ a,t ≠ .none/\tyS x S=some a/\Q (.bl (GB a t)) S
 | .tup ts=>∃ a bs,TyN.none∉bs/\tyS x S=some a/\Kh ts=some bs/\Q (.bl (bs.any (GB a))) S
 | _=>False
theorem Qc{x y:SV}{S:Sto}{Q:QE}(h:UB x y S Q):(∃ t a,y = .ty t/\t ≠ .none/\tyS x S=some a/\Q (.bl (GB a t)) S)\/∃ ts a bs,y = .tup ts/\TyN.none∉bs/\tyS x S=some a/\Kh ts=some bs/\Q (.bl (bs.any (GB a))) S:=match y,h with
 | .ty t,⟨a,h⟩ => .inl ⟨t,a,rfl,h⟩
 | .tup ts,⟨a,bs,h⟩ => .inr ⟨ts,a,bs,rfl,h⟩
def Uu:S1:=λx S Q=>∃ xs,seqS x S=some xs/\Q (.int xs.length) S
def Uv:S1:=oI λi S Q=>Q (.int (if i<0 then -i else i)) S
def Uw:S2:=λx y S Q=>oI (λi S Q=>oI (λj S Q=>Q (.int (if j<i then j else i)) S) y S Q) x S Q
def Ux:S2:=λx y S Q=>oI (λi S Q=>oI (λj S Q=>Q (.int (if j>i then j else i)) S) y S Q) x S Q
def UC:S1:=λx S Q=>∃ xs,seqS x S=some xs/\Q (.loc S.length) (S++[.lst xs])
def SF:S1:=λx S Q=>∃ xs,seqS x S=some xs/\Q (.tup xs) S
def Uy:S1:=λx S Q=>∃ xs bs,x ≠ .tup xs/\seqS x S=some xs/\blS xs=some bs/\Q (.bl (bs.all id)) S
def Uz:S1:=λx S Q=>∃ xs bs,x ≠ .tup xs/\seqS x S=some xs/\blS xs=some bs/\Q (.bl (bs.any id)) S
def P8:S1:=λx S Q=>∃ xs ns,x ≠ .tup xs/\seqS x S=some xs/\Hy xs=some ns/\ns.length<64/\Q (.loc S.length) (S++[.lst ((srt ns).map SV.int)])
def sBi:BI->Sn
 | .len=>a1 Uu
 | .abs=>a1 Uv
 | .min=>a2 Uw
 | .max=>a2 Ux
 | .int=>a1 UA
 | .list=>a1 UC
 | .tuple=>a1 SF
 | .all=>a1 Uy
 | .any=>a1 Uz
 | .sorted=>a1 P8
 | .isi=>a2 UB
 | .str=>λ_ _ _=>False
 | .repr=>λ_ _ _=>False
theorem MonoN.bi:∀{b:BI},MonoN (sBi b)
 | .len=>AE λ_ _ _ _ i ⟨a,c,d⟩=>⟨a,c,i _ _ d⟩
 | .abs=>AE (P7 λ_ _ _ _ i h=>i _ _ h)
 | .min=>Cy λx y S P P' i h=>by
   replace h:=Cr h;obtain⟨k,rfl,h1⟩:=h;obtain⟨l,rfl,h2⟩:=Cr h1;exact i _ _ h2
 | .max=>Cy λx y S P P' i h=>by
   replace h:=Cr h;obtain⟨k,rfl,h1⟩:=h;obtain⟨l,rfl,h2⟩:=Cr h1;exact i _ _ h2
 | .int=>AE λx S P P' i h=>by
   replace h:=Qb h;rcases h with⟨k,rfl,h⟩ | ⟨b,rfl,h⟩
   ·exact i _ _ h
   ·exact i _ _ h
 | .list=>AE λ_ _ _ _ i ⟨a,c,d⟩=>⟨a,c,i _ _ d⟩
 | .tuple=>AE λ_ _ _ _ i ⟨a,c,d⟩=>⟨a,c,i _ _ d⟩
 | .all=>AE λ_ _ _ _ i ⟨a,b,c,d,e,f⟩=>⟨a,b,c,d,e,i _ _ f⟩
 | .any=>AE λ_ _ _ _ i ⟨a,b,c,d,e,f⟩=>⟨a,b,c,d,e,i _ _ f⟩
 | .sorted=>AE λ_ _ _ _ i ⟨a,b,c,d,e,f,g⟩=>⟨a,b,c,d,e,f,i _ _ g⟩
 | .isi=>Cy λx y S P P' i h=>by
   replace h:=Qc h;rcases h with⟨t,a,rfl,h1,h2,h⟩ | ⟨ts,a,bs,rfl,h1,h2,h3,h⟩
   ·exact⟨a,h1,h2,i _ _ h⟩
   ·exact⟨a,bs,h1,h2,h3,i _ _ h⟩
 | .str=>λ_ _ _ _ _ h=>h
 | .repr=>λ_ _ _ _ _ h=>h
section
variable{K:V8}{as:List Yp}{H:Hp}{S:Sto}
theorem Hz:∀{xs:List SV} {bs:List Bool} {vs:List V},blS xs=some bs->RlAll K as H vs xs->vs=bs.map V.bl
 | [],_,_,e,r=>by cases e;exact rla_nil.mp r
 | .bl b::xs,_,_,e,r=>by
   obtain⟨v,vs,rfl,r1,r2⟩:=rla_cons.mp r;unfold blS at e;cases h:blS xs with
   | none=>rw[h]at e;cases e
   | some cs=>
     rw[h]at e;cases e;rw[rl_bl.mp r1,Hz h r2];rfl
 | .non::_,_,_,e,_=>by cases e
 | .int _::_,_,_,e,_=>by cases e
 | .str _::_,_,_,e,_=>by cases e
 | .tup _::_,_,_,e,_=>by cases e
 | .loc _::_,_,_,e,_=>by cases e
 | .ro _::_,_,_,e,_=>by cases e
 | .ty _::_,_,_,e,_=>by cases e
theorem JE:∀{xs:List SV} {bs:List Int} {vs:List V},Hy xs=some bs->RlAll K as H vs xs->vs=bs.map V.int
 | [],_,_,e,r=>by cases e;exact rla_nil.mp r
 | .int b::xs,_,_,e,r=>by
   obtain⟨v,vs,rfl,r1,r2⟩:=rla_cons.mp r;unfold Hy at e;cases h:Hy xs with
   | none=>rw[h]at e;cases e
   | some cs=>
     rw[h]at e;cases e;rw[rl_int.mp r1,JE h r2];rfl
 | .non::_,_,_,e,_=>by cases e
 | .bl _::_,_,_,e,_=>by cases e
 | .str _::_,_,_,e,_=>by cases e
 | .tup _::_,_,_,e,_=>by cases e
 | .loc _::_,_,_,e,_=>by cases e
 | .ro _::_,_,_,e,_=>by cases e
 | .ty _::_,_,_,e,_=>by cases e
theorem AL{x:SV}{v:V}{xs:List SV}(ok:Ok K as H S)(r:Rl K as H v x)(n:x ≠ .tup xs)(h:seqS x S=some xs):∃ a vs,v = .ref a/\SqL K H a vs/\RlAll K as H vs xs:=by
 cases x with
 | tup ys=>cases h;exact absurd rfl n
 | ro ys=>
   cases h;obtain⟨p,vs,rfl,hp,rr⟩:=rl_ro.mp r;exact⟨p,vs,rfl,hp.sq,rr⟩
 | loc k=>
   obtain⟨a,ea,rfl⟩:=rl_loc.mp r;unfold seqS at h;cases hs:S[k]? with
   | none=>simp only[hs]at h;cases h
   | some o=>
     cases o with
     | lst ys=>
       simp only[hs]at h;cases h;obtain⟨vs,h1,rr⟩:=ok.obj k _ a hs ea;exact⟨a,vs,rfl,SqL.of h1,rr⟩
     | iset _=>simp only[hs]at h;cases h
     | dtl _=>simp only[hs]at h;cases h
     | dtf _ _ _=>simp only[hs]at h;cases h
     | dtp _=>simp only[hs]at h;cases h
     | dct _=>simp only[hs]at h;cases h
     | dcf _ _ _=>simp only[hs]at h;cases h
 | _=>cases h
theorem DO{vs:List V}{x:SV}(r:RlAll K as H vs [x]):∃ v,vs=[v]/\Rl K as H v x:=by
 obtain⟨v,t,rfl,r1,r2⟩:=rla_cons.mp r;rw[rla_nil.mp r2];exact⟨v,rfl,r1⟩
theorem I0{vs:List V}{x y:SV}(r:RlAll K as H vs [x,y]):∃ v u,vs=[v,u]/\Rl K as H v x/\Rl K as H u y:=by
 obtain⟨v,t,rfl,r1,r2⟩:=rla_cons.mp r;obtain⟨u,rfl,r3⟩:=DO r2;exact⟨v,u,rfl,r1,r3⟩
end
theorem MW{K:V8}{as:List Yp}{H:Hp}{S:Sto}{Q:VK}{x:SV}{v:V}{ys:List SV}(ok:Ok K as H S)(r1:Rl K as H v x)(h1:seqS x S=some ys)(h2:Post K as H Q (.tup ys) S):∃ p us,v = .ref p/\((SqL K H p us/\∀ l,H l=none->Q (.ref l) (upd H l (.tup us)))\/(SqT K H p us/\Q (.ref p) H)):=by
 cases x with
 | tup zs=>
   cases h1;obtain⟨p,us,rfl,hp,rr⟩:=rl_tup.mp r1;exact⟨p,us,rfl,.inr ⟨SqT.of hp,h2.here ok r1⟩⟩
 | loc k=>
   obtain⟨a,us,rfl,hq,rr⟩:=AL ok r1 (by intro z;cases z) h1;exact⟨a,us,rfl,.inl ⟨hq,BN ok rr h2⟩⟩
 | ro k=>
   obtain⟨a,us,rfl,hq,rr⟩:=AL ok r1 (by intro z;cases z) h1;exact⟨a,us,rfl,.inl ⟨hq,BN ok rr h2⟩⟩
 | _=>cases h1
section
variable{K:V8}{as:List Yp}{H:Hp}{S:Sto}
theorem Qd{x:SV}{v:V}{a:TyN}(ok:Ok K as H S)(r:Rl K as H v x)(h:tyS x S=some a):TyOf K H v (.type a.nm):=by
 cases x with
 | non=>cases h;rw[rl_non.mp r];exact .non
 | bl b=>cases h;rw[rl_bl.mp r];exact .bl b
 | int b=>cases h;rw[rl_int.mp r];exact .int b
 | str b=>cases h;rw[rl_str.mp r];exact .str b
 | tup xs=>cases h;obtain⟨p,vs,rfl,hp,_⟩:=rl_tup.mp r;exact .tup hp
 | loc k=>
   obtain⟨b,eb,rfl⟩:=rl_loc.mp r;unfold tyS at h;cases hs:S[k]? with
   | none=>simp only[hs]at h;cases h
   | some o=>
     cases o with
     | lst ys=>
       simp only[hs]at h;cases h;obtain⟨vs,h1,_⟩:=ok.obj k _ b hs eb;exact .lst h1
     | iset _=>simp only[hs]at h;cases h
     | dtl _=>simp only[hs]at h;cases h
     | dtf _ _ _=>simp only[hs]at h;cases h
     | dtp _=>simp only[hs]at h;cases h
     | dct _=>simp only[hs]at h;cases h
     | dcf _ _ _=>simp only[hs]at h;cases h
 | _=>cases h
noncomputable def ktn(t c:String):Option Bool:=if (Value.type t == Value.type c)=true then some true else if PySem.W.kitMeta c=true then (fastBuiltinMro t).map (·.contains (.type c)) else none
theorem JF{K:V8}(a:TyN)(t:TyN)(ht:t ≠ .none):PySem.W.kitOne K (.type a.nm) (.type t.nm)=some (GB a t):=by
 have e:PySem.W.kitOne K (.type a.nm) (.type t.nm)=ktn a.nm t.nm:=rfl;rw[e];cases a<;>cases t<;>first | exact absurd rfl ht | decide +kernel
theorem JG{K:V8}(a:TyN):∀(bs:List TyN),TyN.none∉bs->PySem.W.kitAny K (.type a.nm) ((bs.map TyN.nm).map Value.type)=some (bs.any (GB a))
 | [],_=>rfl
 | b::bs,h=>by
   rw[Vk,Vk,PySem.W.kitAny,JF a b (λz=>h (by rw[z];simp)),WC];cases GB a b with
   | true=>rfl
   | false=>exact JG a bs (λz=>h (VL _ z))
theorem MX:∀{xs:List SV} {bs:List TyN} {vs:List V},Kh xs=some bs->RlAll K as H vs xs->vs=(bs.map TyN.nm).map V.ty
 | [],_,_,e,r=>by cases e;exact rla_nil.mp r
 | .ty b::xs,_,_,e,r=>by
   obtain⟨v,vs,rfl,r1,r2⟩:=rla_cons.mp r;unfold Kh at e;cases h:Kh xs with
   | none=>rw[h]at e;cases e
   | some cs=>
     rw[h]at e;cases e;rw[rl_ty.mp r1,MX h r2];rfl
 | .non::_,_,_,e,_=>by cases e
 | .bl _::_,_,_,e,_=>by cases e
 | .str _::_,_,_,e,_=>by cases e
 | .tup _::_,_,_,e,_=>by cases e
 | .loc _::_,_,_,e,_=>by cases e
 | .ro _::_,_,_,e,_=>by cases e
 | .int _::_,_,_,e,_=>by cases e
end
noncomputable def rBi(K:V8):BI->List V->Hp->VK->Prop
 | .len=>λxs H Q=>∃ p ys,xs=[.ref p]/\(SqL K H p ys\/SqT K H p ys)/\Q (.int ys.length) H
 | .abs=>λxs H Q=>∃ i,xs=[.int i]/\Q (.int (if i<0 then -i else i)) H
 | .min=>λxs H Q=>∃ i j,xs=[.int i,.int j]/\Q (.int (if j<i then j else i)) H
 | .max=>λxs H Q=>∃ i j,xs=[.int i,.int j]/\Q (.int (if j>i then j else i)) H
 | .int=>λxs H Q=>(∃ i,xs=[.int i]/\Q (.int i) H)\/∃ k,xs=[.bl k]/\Q (.int (if k then 1 else 0)) H
 | .list=>λxs H Q=>∃ p ys,xs=[.ref p]/\(SqL K H p ys\/SqT K H p ys)/\∀ l,H l=none->Q (.ref l) (upd H l (.lst ys))
 | .tuple=>λxs H Q=>∃ p ys,xs=[.ref p]/\((SqL K H p ys/\∀ l,H l=none->Q (.ref l) (upd H l (.tup ys)))\/(SqT K H p ys/\Q (.ref p) H))
 | .all=>λxs H Q=>∃(a:Yp) (bs:List Bool),xs=[.ref a]/\SqL K H a (bs.map V.bl)/\Q (.bl (bs.all id)) H
 | .any=>λxs H Q=>∃(a:Yp) (bs:List Bool),xs=[.ref a]/\SqL K H a (bs.map V.bl)/\Q (.bl (bs.any id)) H
 | .sorted=>λxs H Q=>∃ p ns,xs=[.ref p]/\SqL K H p (ns.map V.int)/\ns.length<64/\∀ l,H l=none->Q (.ref l) (upd H l (.lst ((srt ns).map V.int)))
 | .isi=>λxs H Q=>(∃ x T t b,xs=[x,.ty T]/\TyOf K H x t/\PySem.W.kitOne K t (.type T)=some b/\Q (.bl b) H)\/(∃(x:V) (p:Yp) (Ts:List String) (t:Yn) (b:Bool),xs=[x,.ref p]/\H p=some (.tup (Ts.map V.ty))/\TyOf K H x t/\PySem.W.kitAny K t (Ts.map Value.type)=some b/\Q (.bl b) H)
 | .str=>λ_ _ _=>False
 | .repr=>λ_ _ _=>False
theorem SG{K:V8}:∀{b:BI},U3 K (sBi b) (rBi K b)
 | .len=>λas H S xs vs Q ok r h=>by
   replace h:=DN h;obtain⟨x,rfl,ys,h1,h2⟩:=h;obtain⟨v,rfl,r1⟩:=DO r;obtain⟨a,us,rfl,hq,rr⟩:=F5 ok r1 h1;exact⟨a,us,rfl,hq,by rw[rr.length];exact h2.here ok (rl_int.mpr rfl)⟩
 | .abs=>λas H S xs vs Q ok r h=>by
   replace h:=DN h;obtain⟨x,rfl,h⟩:=h;replace h:=Cr h;obtain⟨i,rfl,h⟩:=h;obtain⟨v,rfl,r1⟩:=DO r;exact⟨_,by rw[rl_int.mp r1],Post.here h ok (rl_int.mpr rfl)⟩
 | .min=>λas H S xs vs Q ok r h=>by
   replace h:=MV h;obtain⟨x,y,rfl,h⟩:=h;replace h:=Cr h;obtain⟨i,rfl,h⟩:=h;replace h:=Cr h;obtain⟨j,rfl,h⟩:=h;obtain⟨v,u,rfl,r1,r2⟩:=I0 r;exact⟨_,_,by rw[rl_int.mp r1,rl_int.mp r2],Post.here h ok (rl_int.mpr rfl)⟩
 | .max=>λas H S xs vs Q ok r h=>by
   replace h:=MV h;obtain⟨x,y,rfl,h⟩:=h;replace h:=Cr h;obtain⟨i,rfl,h⟩:=h;replace h:=Cr h;obtain⟨j,rfl,h⟩:=h;obtain⟨v,u,rfl,r1,r2⟩:=I0 r;exact⟨_,_,by rw[rl_int.mp r1,rl_int.mp r2],Post.here h ok (rl_int.mpr rfl)⟩
 | .int=>λas H S xs vs Q ok r h=>by
   replace h:=DN h;obtain⟨x,rfl,h⟩:=h;obtain⟨v,rfl,r1⟩:=DO r;replace h:=Qb h;rcases h with⟨k,rfl,h⟩ | ⟨b,rfl,h⟩
   ·exact .inl ⟨_,by rw[rl_int.mp r1],Post.here h ok (rl_int.mpr rfl)⟩
   ·exact .inr ⟨_,by rw[rl_bl.mp r1],Post.here h ok (rl_int.mpr rfl)⟩
 | .list=>λas H S xs vs Q ok r h=>by
   replace h:=DN h;obtain⟨x,rfl,ys,h1,h2⟩:=h;obtain⟨v,rfl,r1⟩:=DO r;obtain⟨a,us,rfl,hq,rr⟩:=F5 ok r1 h1;exact⟨a,us,rfl,hq,AR ok rr h2⟩
 | .tuple=>λas H S xs vs Q ok r h=>by
   replace h:=DN h;obtain⟨x,rfl,ys,h1,h2⟩:=h;obtain⟨v,rfl,r1⟩:=DO r;obtain⟨p,us,rfl,z⟩:=MW ok r1 h1 h2;exact⟨p,us,rfl,z⟩
 | .all=>λas H S xs vs Q ok r h=>by
   replace h:=DN h;obtain⟨x,rfl,ys,bs,h0,h1,h2,h3⟩:=h;obtain⟨v,rfl,r1⟩:=DO r;obtain⟨a,us,rfl,hq,rr⟩:=AL ok r1 h0 h1;rw[Hz h2 rr]at hq;exact⟨a,bs,rfl,hq,h3.here ok (rl_bl.mpr rfl)⟩
 | .any=>λas H S xs vs Q ok r h=>by
   replace h:=DN h;obtain⟨x,rfl,ys,bs,h0,h1,h2,h3⟩:=h;obtain⟨v,rfl,r1⟩:=DO r;obtain⟨a,us,rfl,hq,rr⟩:=AL ok r1 h0 h1;rw[Hz h2 rr]at hq;exact⟨a,bs,rfl,hq,h3.here ok (rl_bl.mpr rfl)⟩
 | .sorted=>λas H S xs vs Q ok r h=>by
   replace h:=DN h;obtain⟨x,rfl,ys,ns,h0,h1,h2,h3,h4⟩:=h;obtain⟨v,rfl,r1⟩:=DO r;obtain⟨a,us,rfl,hq,rr⟩:=AL ok r1 h0 h1;rw[JE h2 rr]at hq;exact⟨a,ns,rfl,hq,h3,AR ok RlAll.ints h4⟩
 | .isi=>λas H S xs vs Q ok r h=>by
   replace h:=MV h;obtain⟨x,y,rfl,h⟩:=h;obtain⟨v,u,rfl,r1,r2⟩:=I0 r;replace h:=Qc h;rcases h with⟨t,a,rfl,h0,h1,h2⟩ | ⟨ts,a,bs,rfl,h0,h1,h2,h3⟩
   ·rw[rl_ty.mp r2];exact .inl ⟨v,_,_,_,rfl,Qd ok r1 h1,JF _ _ h0,h2.here ok (rl_bl.mpr rfl)⟩
   ·obtain⟨p,vs,rfl,hp,rr⟩:=rl_tup.mp r2;rw[MX h2 rr]at hp;exact .inr ⟨v,p,_,_,_,rfl,hp,Qd ok r1 h1,JG _ _ h0,h3.here ok (rl_bl.mpr rfl)⟩
 | .str=>λ_ _ _ _ _ _ _ _ h=>False.elim h
 | .repr=>λ_ _ _ _ _ _ _ _ h=>False.elim h
theorem FD{K:V8}{as:List Yp}{H:Hp}:∀{ns:List Int} {vs:List V},RlAll K as H vs (ns.map SV.int)->vs=ns.map V.int
 | [],vs,h=>rla_nil.mp h
 | n::ns,vs,h=>by
   obtain⟨v,r,rfl,h1,h2⟩:=rla_cons.mp h;rw[rl_int.mp h1,FD h2];rfl
inductive MT where
 | append | extend | insert | reverse
 deriving DecidableEq
def MT.name:MT->Str
 | .append=>"append" | .extend=>"extend" | .insert=>"insert" | .reverse=>"reverse"
def oL(f:Nat->Sto->QE->Prop):S1:=λx S Q=>match x with | .loc k=>f k S Q | _=>False
theorem E9{f:Nat->Sto->QE->Prop}{x:SV}{S:Sto}{Q:QE}(h:oL f x S Q):∃ k,x = .loc k/\f k S Q:=match x,h with | .loc k,h=>⟨k,rfl,h⟩
def P9(x:SV):S1:=λy S Q=>oL (λk S Q=>∃ xs,S[k]?=some (.lst xs)/\xs.length<big/\Q .non (S.set k (.lst (xs++[y])))) x S Q
def PB(x:SV):S1:=λy S Q=>oL (λk S Q=>oL (λl S Q=>∃ xs ys,S[k]?=some (.lst xs)/\S[l]?=some (.lst ys)/\xs.length+ys.length<=big/\Q .non (S.set k (.lst (xs++ys)))) y S Q) x S Q
def PC(x:SV):S2:=λz y S Q=>oL (λk S Q=>oI (λi S Q=>∃ xs,S[k]?=some (.lst xs)/\(0<=i/\i<=xs.length)/\xs.length<big/\Q .non (S.set k (.lst (xs.take i.toNat++y::xs.drop i.toNat)))) z S Q) x S Q
def MY(x:SV):Sto->QE->Prop:=λS Q=>oL (λk S Q=>∃ xs,S[k]?=some (.lst xs)/\Q .non (S.set k (.lst xs.reverse))) x S Q
def sMt:MT->SV->Sn
 | .append,x=>a1 (P9 x)
 | .extend,x=>a1 (PB x)
 | .insert,x=>a2 (PC x)
 | .reverse,x=>a0 (MY x)
theorem FE:∀{m:MT} {x:SV},MonoN (sMt m x)
 | .append,x=>AE λy S P P' i h=>by
   replace h:=E9 h;obtain⟨k,rfl,a,c,d,e⟩:=h;exact⟨a,c,d,i _ _ e⟩
 | .extend,x=>AE λy S P P' i h=>by
   replace h:=E9 h;obtain⟨k,rfl,h⟩:=h;replace h:=E9 h;obtain⟨l,rfl,a,c,d,e,f,g⟩:=h;exact⟨a,c,d,e,f,i _ _ g⟩
 | .insert,x=>Cy λz y S P P' i h=>by
   replace h:=E9 h;obtain⟨k,rfl,h⟩:=h;replace h:=Cr h;obtain⟨j,rfl,a,c,d,e,f⟩:=h;exact⟨a,c,d,e,i _ _ f⟩
 | .reverse,x=>λxs S P P' i h=>by
   replace h:=U9 h;obtain⟨rfl,h⟩:=h;replace h:=E9 h;obtain⟨k,rfl,a,c,d⟩:=h;exact⟨a,c,i _ _ d⟩
def rMt:MT->V->List V->Hp->VK->Prop
 | .append=>J6
 | .extend=>J7
 | .insert=>J8
 | .reverse=>Fm
section
variable{K:V8}{as:List Yp}{H:Hp}{S:Sto}
theorem RlAll.dropLast{xs:List SV}{vs:List V}(h:RlAll K as H vs xs):RlAll K as H vs.dropLast xs.dropLast:=by
 rw[Xp,Xp,h.length];exact h.take _
theorem B3{Q:VK}{k:Nat}{a:Yp}{xs ys:List SV}{us:List V}{x:SV}{v:V}(ok:Ok K as H S)(e:S[k]?=some (.lst xs))(ea:as[k]?=some a)(r:RlAll K as H us ys)(h:Post K as H Q x (S.set k (.lst ys)))(rx:Rl K as H v x):Q v (upd H a (.lst us)):=by
 obtain⟨ok',ku⟩:=ok.write e ea r;exact h as _ v (Go.write (VC ea)) ok' (Rl.mono (Vo _) ku x v rx)
theorem MZ:∀{m:MT} {Q:VK} {x:SV} {v:V} {xs:List SV} {vs:List V} (ok:Ok K as H S) (rx:Rl K as H v x) (r:RlAll K as H vs xs) (h:sMt m x xs S (Post K as H Q)),rMt m v vs H Q
 | .append,Q,x,v,xs,vs,ok,rx,r,h=>by
   replace h:=DN h;obtain⟨y,rfl,h⟩:=h;replace h:=E9 h;obtain⟨k,rfl,ys,h1,h2,h3⟩:=h;obtain⟨a,us,rfl,ea,ha,ra⟩:=t4 ok rx h1;obtain⟨u,rfl,ru⟩:=DO r;exact⟨a,us,u,rfl,rfl,ha,by rw[ra.length];exact F0 h2,B3 ok h1 ea (ra.append (.cons ru .nil)) h3 (rl_non.mpr rfl)⟩
 | .extend,Q,x,v,xs,vs,ok,rx,r,h=>by
   replace h:=DN h;obtain⟨y,rfl,h⟩:=h;replace h:=E9 h;obtain⟨k,rfl,h⟩:=h;replace h:=E9 h;obtain⟨l,rfl,ys,zs,h1,h2,h3,h4⟩:=h;obtain⟨a,us,rfl,ea,ha,ra⟩:=t4 ok rx h1;obtain⟨u,rfl,ru⟩:=DO r;obtain⟨b,ws,rfl,eb,hb,rb⟩:=t4 ok ru h2;exact⟨a,b,us,ws,rfl,rfl,ha,hb,by rw[ra.length,rb.length];exact y7 h3,B3 ok h1 ea (ra.append rb) h4 (rl_non.mpr rfl)⟩
 | .insert,Q,x,v,xs,vs,ok,rx,r,h=>by
   replace h:=MV h;obtain⟨z,y,rfl,h⟩:=h;replace h:=E9 h;obtain⟨k,rfl,h⟩:=h;replace h:=Cr h;obtain⟨i,rfl,ys,h1,h2,h3,h4⟩:=h;obtain⟨a,us,rfl,ea,ha,ra⟩:=t4 ok rx h1;obtain⟨u,w,rfl,ru,rw'⟩:=I0 r;rw[rl_int.mp ru];exact⟨a,us,i,w,rfl,rfl,ha,h2.1,by rw[ra.length];exact h2.2,by rw[ra.length];exact F0 h3,B3 ok h1 ea (ra.ins rw' _) h4 (rl_non.mpr rfl)⟩
 | .reverse,Q,x,v,xs,vs,ok,rx,r,h=>by
   replace h:=U9 h;obtain⟨rfl,h⟩:=h;replace h:=E9 h;obtain⟨k,rfl,ys,h1,h2⟩:=h;obtain⟨a,us,rfl,ea,ha,ra⟩:=t4 ok rx h1;rw[rla_nil.mp r];exact⟨a,us,rfl,rfl,ha,B3 ok h1 ea ra.rev h2 (rl_non.mpr rfl)⟩
end
mutual
inductive Tg where
 | nm (i:Nat) | tup (ts:Tgs)
inductive Tgs where
 | nil | cons (t:Tg) (ts:Tgs)
end
mutual
inductive Ex where
 | var (i:Nat) | c (x:SV) | op (o:ZS) (a b:Ex) | neg (a:Ex) | cmp (o:CmpOp) (a b:Ex) | chn (o p:CmpOp) (a b c:Ex)
 | and (a b:Ex) | or (a b:Ex) | not (a:Ex) | ife (t a b:Ex) | tup (es:Exs) | lst (es:Exs) | ix (a b:Ex) | slc (a:Ex) (lo hi:Eo)
 | call (f:Nat) (es:Exs) | bi (b:BI) (es:Exs) | mt (m:MT) (a:Ex) (es:Exs) | comp (own cn:List Str) (js:List Nat) (g:Tg) (it:Itb) (t:Eo) (e:Ex) | tyc (t:TyN) | max1 (a:Ex) | sum2 (a:Ex) | maxd (a d:Ex) | dnewl | dget2l (d e v:Ex) | dvalsl (a:Ex) | setdi (d e v:Ex) | mind (a d:Ex) | dnewp | setd (d e v:Ex) | eqp (a b:Ex) | dnew | dget (a b:Ex) | no
inductive Exs where
 | nil | cons (e:Ex) (es:Exs)
inductive Eo where
 | no | yes (e:Ex)
inductive Itb where
 | seq (e:Ex) | rng1 (a:Ex) | rng2 (a b:Ex) | enum (e:Ex)
end
inductive Stm where
 | asg (t:Tg) (e:Ex) | par (i j:Nat) (a b:Ex) | put (o i e:Ex) | augS (o i e:Ex) | dputl (o i e:Ex) | put2 (o i p j e:Ex) | expr (e:Ex) | iff (t:Ex) (a b:List Stm) | loop (g:Tg) (it:Itb) (b:List Stm) | whl (t:Ex) (b:List Stm) | tri (b:List Stm)
 | ret (e:Ex) | no
def sOp:ZS->S2
 | .Add=>MN
 | .Sub=>CB λi j => .int (i - j)
 | .Mult=>MO
 | .FloorDiv=>Ht Tb λi j => .int (i / j)
 | .Mod=>Ht (λ_ j=>0<j) λi j => .int (i % j)
 | .Pow=>Ht Tc λi j => .int (i ^ j.toNat)
 | _=>λ_ _ _ _=>False
def Ak:CmpOp->S2
 | .Eq=>sEq
 | .NotEq=>sNe
 | .Lt=>CB λi j => .bl (decide (i<j))
 | .LtE=>CB λi j => .bl (decide (i<=j))
 | .Gt=>CB λi j => .bl (decide (j<i))
 | .GtE=>CB λi j => .bl (decide (j<=i))
 | .In=>sIn false
 | .NotIn=>sIn true
 | .Is=>MP false
 | .IsNot=>MP true
def Ma:S1
 | .int i,S,Q=>Q (.int (-i)) S
 | _,_,_=>False
def Mb:SV->Sto->Option Bool
 | .bl b,_=>some b
 | .tup xs,_=>some (!xs.isEmpty)
 | .loc k,S=>match S[k]? with | some (.lst xs)=>some (!xs.isEmpty) | _=>none
 | _,_=>none
def SH(w:WE):WT:=λρ S Q=>w ρ S λx S'=>∃ b,Mb x S'=some b/\Q b S'
def Mc(a b:WE):WE:=λρ S Q=>a ρ S λx S1=>∃ c,x = .bl c/\if c=true then b ρ S1 Q else Q (.bl false) S1
def wOr(a b:WE):WE:=λρ S Q=>a ρ S λx S1=>∃ c,x = .bl c/\if c=true then Q (.bl true) S1 else b ρ S1 Q
def PD(a:WE):WE:=λρ S Q=>a ρ S λx S1=>∃ c,x = .bl c/\Q (.bl (!c)) S1
def DP(a b:WT):WT:=λρ S Q=>a ρ S λc S1=>if c=true then b ρ S1 Q else Q false S1
def IA(a b:WT):WT:=λρ S Q=>a ρ S λc S1=>if c=true then Q true S1 else b ρ S1 Q
def JH(a:WT):WT:=λρ S Q=>a ρ S λc S1=>Q (!c) S1
def PF(t:WT)(a b:WE):WE:=λρ S Q=>t ρ S λc S1=>if c=true then a ρ S1 Q else b ρ S1 Q
def Md(s s':S2)(a b c:WE):WE:=λρ S Q=>a ρ S λx S1=>b ρ S1 λy S2=>s x y S2 λz S3=>∃ k,z = .bl k/\if k=true then c ρ S3 λu S4=>s' y u S4 Q else Q (.bl false) S3
abbrev WO:=EnvS->Sto->(Option Int->Sto->Prop)->Prop
def SI:WO:=λ_ S Q=>Q none S
def Me(w:WE):WO:=λρ S Q=>w ρ S λx S1=>∃ i,x = .int i/\Q (some i) S1
def BC(xs:List SV)(lo hi:Option Int):List SV:=(xs.drop (HT.sIx xs.length 0 lo)).take (HT.sIx xs.length xs.length hi - HT.sIx xs.length 0 lo)
def Mf:SV->Option Int->Option Int->Sto->QE->Prop
 | .loc k,lo,hi,S,Q=>∃ xs,S[k]?=some (.lst xs)/\Q (.loc S.length) (S++[.lst (BC xs lo hi)])
 | .tup xs,lo,hi,S,Q=>Q (.tup (BC xs lo hi)) S
 | _,_,_,_,_=>False
def SJ(a:WE)(lo hi:WO):WE:=λρ S Q=>a ρ S λx S1=>lo ρ S1 λl S2=>hi ρ S2 λh S3=>Mf x l h S3 Q
abbrev WI:=EnvS->Sto->((Sto->Prop)->List SV->Sto->Prop)->Prop
def keepS:SV->Sto->Sto->Prop
 | .loc k,S,S'=>S'[k]?=S[k]?
 | _,_,_=>True
def Qf(w:WE):WI:=λρ S R=>w ρ S λx S1=>∃ xs,seqS x S1=some xs/\R (keepS x S1) xs S1
def Cs(lo hi:Int):List SV:=(VN (hi - lo).toNat).map λ(i:Nat) => .int (lo+i)
def Mg(w:WE):WI:=λρ S R=>w ρ S λx S1=>∃ j,x = .int j/\(-(2 ^ 62)<=j/\j<2 ^ 62)/\R (λ_=>True) (Cs 0 j) S1
def Mh(w u:WE):WI:=λρ S R=>w ρ S λx S1=>u ρ S1 λy S2=>∃ i j,x = .int i/\y = .int j/\(-(2 ^ 62)<=i/\i<2 ^ 62 /\ -(2 ^ 62)<=j/\j<2 ^ 62)/\R (λ_=>True) (Cs i j) S2
def BQ(xs:List SV):List SV:=(VN xs.length).zipWith (λ(i:Nat) x => .tup [.int i,x]) xs
def Mi(w:WE):WI:=λρ S R=>w ρ S λx S1=>∃ xs,seqS x S1=some xs/\R (keepS x S1) (BQ xs) S1
def Mj(a:WE):WE:=λρ S Q=>a ρ S λx S1=>∃ i j,x = .tup [.int i,.int j]/\Q (.int (i+j)) S1
def Mk(a:WE):WE:=λρ S Q=>a ρ S λx S1=>∃ k ns,x = .loc k/\S1[k]?=some (.lst (ns.map SV.int))/\0<ns.length/\∀ m,Grt ns m->Q (.int m) S1
def Ml(a d:WE):WE:=λρ S Q=>a ρ S λx S1=>d ρ S1 λy S2=>∃ k ps,x = .loc k/\y = .non/\S2[k]?=some (.lst (ps.map λp:Int×Int=>SV.tup [.int p.1,.int p.2]))/\(ps=[]->Q .non S2)/\∀ p∈ps,Q (.tup [.int p.1,.int p.2]) S2
def dpv(kvs:List ((Int×Int)×Int))(k:Int×Int):Option Int:=(kvs.find? λp=>decide (p.1=k)).map (·.2)
def Mm(d e v:WE):WE:=λρ S Q=>d ρ S λx S1=>∃ k kv0,x = .loc k/\S1[k]?=some (.dtp kv0)/\e ρ S1 λy S2=>v ρ S2 λz S3=>∃ i j m kvs,y = .tup [.int i,.int j]/\z = .int m/\S3[k]?=some (.dtp kvs)/\kvs.length<big/\
 (∀ n,dpv kvs (i,j)=some n->Q (.int n) S3)/\(dpv kvs (i,j)=none->Q (.int m) (S3.set k (.dtp (kvs++[((i,j),m)]))))
def DQ(kvs:List (List Int×SV))(k:List Int):Option SV:=(kvs.find? λp=>decide (p.1=k)).map (·.2)
def FF(d e v:WE):WE:=λρ S Q=>d ρ S λx S1=>∃ k kv0,x = .loc k/\S1[k]?=some (.dtl kv0)/\e ρ S1 λy S2=>v ρ S2 λz S3=>∃(ks:List Int) (kvs:List (List Int×SV)),y = .tup (ks.map SV.int)/\S3[k]?=some (.dtl kvs)/\Q ((DQ kvs ks).getD z) S3
def FG(a:WE):WE:=λρ S Q=>a ρ S λx S1=>∃ k kvs,x = .loc k/\S1[k]?=some (.dtl kvs)/\Q (.loc S1.length) (S1++[.lst (kvs.map (·.2))])
def EW(kvs:List (List Int×SV))(k:List Int)(x:SV):List (List Int×SV):=if (kvs.any λp=>decide (p.1=k))=true then kvs.map (λp=>if p.1=k then (p.1,x) else p) else kvs++[(k,x)]
def JI:SV->SV->SV->Sto->(Sto->Prop)->Prop:=λx y v S Q=>∃(k:Nat) (ks:List Int) (kvs:List (List Int×SV)),x = .loc k/\y = .tup (ks.map SV.int)/\S[k]?=some (.dtl kvs)/\kvs.length<big/\Q (S.set k (.dtl (EW kvs ks v)))
def Mn(a d:WE):WE:=λρ S Q=>a ρ S λx S1=>d ρ S1 λy S2=>∃ k ns i,x = .loc k/\y = .int i/\S2[k]?=some (.lst (ns.map SV.int))/\(ns=[]->Q (.int i) S2)/\∀ m,Grt ns m->Q (.int m) S2
def CZ(kvs:List (Int×SV))(i:Int):Option SV:=(kvs.find? λp=>decide (p.1=i)).map (·.2)
def Qg(kvs:List (Int×SV))(i:Int)(x:SV):List (Int×SV):=if (kvs.any λp=>decide (p.1=i))=true then kvs.map (λp=>if p.1=i then (p.1,x) else p) else kvs++[(i,x)]
def PH:SV->Sto->Option (List (Int×SV))
 | .loc k,S=>match S[k]? with | some (.dct kvs)=>some kvs | some (.dcf _ _ kvs)=>some kvs | _=>none
 | _,_=>none
def IB(d e v:WE):WE:=λρ S Q=>d ρ S λx S1=>∃ k kv0,x = .loc k/\S1[k]?=some (.dct kv0)/\e ρ S1 λy S2=>v ρ S2 λz S3=>∃(i:Int) (kvs:List (Int×SV)),y = .int i/\S3[k]?=some (.dct kvs)/\kvs.length<big/\
 (∀ n,CZ kvs i=some n->Q n S3)/\(CZ kvs i=none->Q z (S3.set k (.dct (kvs++[(i,z)]))))
def JJ:S2:=λx y S Q=>∃ kvs i v,PH x S=some kvs/\y = .int i/\CZ kvs i=some v/\Q v S
def Mo:S2:=λx y S Q=>∃ i j k l:Int,x = .tup [.int i,.int j]/\y = .tup [.int k,.int l]/\Q (.bl (decide (i=k/\j=l))) S
def IC:WE:=λ_ S Q=>Q (.loc S.length) (S++[.dtp []])
def ID:WE:=λ_ S Q=>Q (.loc S.length) (S++[.dtl []])
def Mp:WE:=λ_ S Q=>Q (.loc S.length) (S++[.dct []])
def wMt(m:MT)(a:WE)(b:WA):WE:=λρ S Q=>a ρ S λx S1=>(∃ k xs,x = .loc k/\S1[k]?=some (.lst xs))/\b ρ S1 λxs S2=>sMt m x xs S2 Q
mutual
noncomputable def wTg:Tg->SV->EnvS->(EnvS->Prop)->Prop
 | .nm i,x,ρ,Q=>Q (ρ.set i (some x))
 | .tup ts,.tup xs,ρ,Q=>Ab ts xs ρ Q
 | .tup _,_,_,_=>False
noncomputable def Ab:Tgs->List SV->EnvS->(EnvS->Prop)->Prop
 | .nil,[],ρ,Q=>Q ρ
 | .cons t ts,x::xs,ρ,Q=>wTg t x ρ λρ'=>Ab ts xs ρ' Q
 | _,_,_,_=>False
end
def GC(k:Nat)(js:List Nat)(ρ:EnvS):EnvS:=VM k none++js.map λj=>(ρ[j]?).join
noncomputable def v8(keep:Sto->Prop)(g:Tg)(t:WT)(e:WE)(ρ:EnvS)(Q:List SV->Sto->Prop):List SV->List SV->Sto->Prop
 | [],ys,S=>keep S/\Q ys S
 | x::xs,ys,S=>keep S/\wTg g x ρ λρ2=>t ρ2 S λb S1=>if b=true then e ρ2 S1 λy S2=>ys.length<big/\v8 keep g t e ρ Q xs (ys++[y]) S2 else v8 keep g t e ρ Q xs ys S1
noncomputable def JK(k:Nat)(js:List Nat)(g:Tg)(i:WI)(t:WT)(e:WE):WE:=λρ S Q=>i ρ S λkeep xs S1=>v8 keep g t e (GC k js ρ) (λys S2=>Q (.loc S2.length) (S2++[.lst ys])) xs [] S1
def tt1(w:WE):WE×WT:=(w,SH w)
def wBl(w:WE):WT:=λρ S Q=>w ρ S λx S'=>∃ b,x = .bl b/\Q b S'
def tt2(w:WE):WE×WT:=(w,wBl w)
def UD:WT:=λ_ S Q=>Q true S
mutual
noncomputable def wEx(Δ:Nat->Sn):Ex->WE×WT
 | .var i=>tt1 (Rw i)
 | .c x=>tt1 (wC x)
 | .op o a b=>tt1 (w2 (sOp o) (wEx Δ a).1 (wEx Δ b).1)
 | .neg a=>tt1 (w1 Ma (wEx Δ a).1)
 | .cmp o a b=>tt2 (w2 (Ak o) (wEx Δ a).1 (wEx Δ b).1)
 | .chn o p a b c=>tt2 (Md (Ak o) (Ak p) (wEx Δ a).1 (wEx Δ b).1 (wEx Δ c).1)
 | .and a b=>(Mc (wEx Δ a).1 (wEx Δ b).1,DP (wEx Δ a).2 (wEx Δ b).2)
 | .or a b=>(wOr (wEx Δ a).1 (wEx Δ b).1,IA (wEx Δ a).2 (wEx Δ b).2)
 | .not a=>(PD (wEx Δ a).1,JH (wEx Δ a).2)
 | .ife t a b=>(PF (wEx Δ t).2 (wEx Δ a).1 (wEx Δ b).1,λ_ _ _=>False)
 | .tup es=>tt1 (wn Oo (GD Δ es))
 | .lst es=>tt1 (wn Op (GD Δ es))
 | .ix a b=>tt1 (w2 sIx (wEx Δ a).1 (wEx Δ b).1)
 | .slc a lo hi=>tt1 (SJ (wEx Δ a).1 (wEo Δ lo).1 (wEo Δ hi).1)
 | .call f es=>tt1 (wn (Δ f) (GD Δ es))
 | .bi b es=>tt1 (wn (sBi b) (GD Δ es))
 | .mt m a es=>tt1 (wMt m (wEx Δ a).1 (GD Δ es))
 | .comp own _ js g it t e=>tt1 (JK own.length js g (PJ Δ it) (wEo Δ t).2 (wEx Δ e).1)
 | .tyc t=>tt1 (wC (.ty t))
 | .max1 a=>tt1 (Mk (wEx Δ a).1)
 | .sum2 a=>tt1 (Mj (wEx Δ a).1)
 | .maxd a d=>tt1 (Mn (wEx Δ a).1 (wEx Δ d).1)
 | .eqp a b=>tt2 (w2 Mo (wEx Δ a).1 (wEx Δ b).1)
 | .dnew=>tt1 Mp
 | .dnewl=>tt1 ID
 | .dget2l d e v=>tt1 (FF (wEx Δ d).1 (wEx Δ e).1 (wEx Δ v).1)
 | .dvalsl a=>tt1 (FG (wEx Δ a).1)
 | .setdi d e v=>tt1 (IB (wEx Δ d).1 (wEx Δ e).1 (wEx Δ v).1)
 | .dnewp=>tt1 IC
 | .setd d e v=>tt1 (Mm (wEx Δ d).1 (wEx Δ e).1 (wEx Δ v).1)
 | .mind a d=>tt1 (Ml (wEx Δ a).1 (wEx Δ d).1)
 | .dget a b=>tt1 (w2 JJ (wEx Δ a).1 (wEx Δ b).1)
 | .no=>(λ_ _ _=>False,λ_ _ _=>False)
noncomputable def GD(Δ:Nat->Sn):Exs->WA
 | .nil=>EU
 | .cons e es=>DL (wEx Δ e).1 (GD Δ es)
noncomputable def wEo(Δ:Nat->Sn):Eo->WO×WT
 | .no=>(SI,UD)
 | .yes e=>(Me (wEx Δ e).1,(wEx Δ e).2)
noncomputable def PJ(Δ:Nat->Sn):Itb->WI
 | .seq e=>Qf (wEx Δ e).1
 | .rng1 a=>Mg (wEx Δ a).1
 | .rng2 a b=>Mh (wEx Δ a).1 (wEx Δ b).1
 | .enum e=>Mi (wEx Δ e).1
end
structure EndsS where
 nx:EnvS->Sto->Prop
 rt:SV->Sto->Prop
 bk:EnvS->Sto->Prop:=λ_ _=>False
 ct:EnvS->Sto->Prop:=λ_ _=>False
abbrev WS:=EndsS->EnvS->Sto->Prop
def Ca:SV->SV->SV->Sto->(Sto->Prop)->Prop
 | .loc k,.int i,v,S,Q=>∃ xs j,S[k]?=some (.lst xs)/\ixN xs.length i=some j/\Q (S.set k (.lst (xs.set j v)))
 | _,_,_,_,_=>False
def w5(keep:Sto->Prop)(g:Tg)(b:WS)(D:EndsS):List SV->EnvS->Sto->Prop
 | [],ρ,S=>keep S/\D.nx ρ S
 | x::xs,ρ,S=>keep S/\wTg g x ρ λρ2=>b {D with nx:=w5 keep g b D xs,ct:=w5 keep g b D xs,bk:=D.nx} ρ2 S
noncomputable def SK(t:WT)(b:WS):WS:=λD ρ S=>∃ W:Nat->EnvS->Sto->Prop,(∃ m,W m ρ S)/\∀ m ρ S,W m ρ S->t ρ S λc S1=>if c=true then
 b {D with nx:=λρ' S'=>∃ m',m'<m/\W m' ρ' S',ct:=λρ' S'=>∃ m',m'<m/\W m' ρ' S',bk:=D.nx} ρ S1 else D.nx ρ S1
mutual
noncomputable def wSt(Δ:Nat->Sn):Stm->WS
 | .asg t e=>λD ρ S=>(wEx Δ e).1 ρ S λx S1=>wTg t x ρ λρ'=>D.nx ρ' S1
 | .par i j a b=>λD ρ S=>(wEx Δ a).1 ρ S λx S1=>(wEx Δ b).1 ρ S1 λy S2=>D.nx ((ρ.set i (some x)).set j (some y)) S2
 | .put o i e=>λD ρ S=>(wEx Δ e).1 ρ S λv S1=>(wEx Δ o).1 ρ S1 λx S2=>(wEx Δ i).1 ρ S2 λy S3=>Ca x y v S3 λS4=>D.nx ρ S4
 | .augS o i e=>λD ρ S=>(wEx Δ o).1 ρ S λx S1=>(wEx Δ i).1 ρ S1 λy S2=>∃(k:Nat) (j:Nat) (xs:List SV) (a:Int),x = .loc k/\y = .int j/\S2[k]?=some (.lst xs)/\xs[j]?=some (.int a)/\(wEx Δ e).1 ρ S2 λv S4=>∃(b:Int) (ys:List SV),v = .int b/\S4[k]?=some (.lst ys)/\j<ys.length/\D.nx ρ (S4.set k (.lst (ys.set j (.int (a+b)))))
 | .dputl o i e=>λD ρ S=>(wEx Δ e).1 ρ S λv S1=>(wEx Δ o).1 ρ S1 λx S2=>(wEx Δ i).1 ρ S2 λy S3=>JI x y v S3 λS4=>D.nx ρ S4
 | .put2 o i p j e=>λD ρ S=>(wEx Δ e).1 ρ S λu S1=>∃ v w,u = .tup [v,w]/\(wEx Δ o).1 ρ S1 λx S2=>(wEx Δ i).1 ρ S2 λy S3=>Ca x y v S3 λS4=>(wEx Δ p).1 ρ S4 λx S5=>(wEx Δ j).1 ρ S5 λy S6=>Ca x y w S6 λS7=>D.nx ρ S7
 | .expr e=>λD ρ S=>(wEx Δ e).1 ρ S λ_ S1=>D.nx ρ S1
 | .iff t a b=>λD ρ S=>(wEx Δ t).2 ρ S λc S1=>if c=true then wSs Δ a D ρ S1 else wSs Δ b D ρ S1
 | .loop g it b=>λD ρ S=>PJ Δ it ρ S λkeep xs S1=>w5 keep g (wSs Δ b) D xs ρ S1
 | .whl t b=>SK (wEx Δ t).2 (wSs Δ b)
 | .tri b=>wSs Δ b
 | .ret e=>λD ρ S=>(wEx Δ e).1 ρ S D.rt
 | .no=>λ_ _ _=>False
noncomputable def wSs(Δ:Nat->Sn):List Stm->WS
 | []=>λD ρ S=>D.nx ρ S
 | s::ss=>λD ρ S=>wSt Δ s {D with nx:=wSs Δ ss D} ρ S
end
theorem u9{α:Type}{P:Prop}{x:α}(h:(none:Option α)=some x):P:=nomatch h
def GE(scope sc:Z1):Z1:={scope with names:=scope.names.map λ(n,k)=>if (k == .free&&sc.kind == .function&&sc.names.lookup n == some .cell) then (n,.cell) else (n,k)}
def c3:Expr->Bool
 | .Starred ..=>false
 | _=>true
theorem f9{e:Expr}{es:List Expr}{env:Env}(h:c3 e=true):Yy (e::es) env=(false,eval e env)::Yy es env:=by
 cases e<;>first | rfl | cases h
theorem CC{env:Env}{pos:Pos}:∀{es:List Expr},es.all c3=true->(backTo pos (Yy es env)).any (·.1)=false
 | [],_=>rfl
 | e::es,h=>by
   rw[WB,V9]at h;rw[f9 h.1];exact CC (es:=es) h.2
theorem EX{env:Env}{pos:Pos}:∀{es:List Expr},es.all c3=true->(backTo pos (Yy es env)).all (λx=>!x.1)=true
 | [],_=>rfl
 | e::es,h=>by
   rw[WB,V9]at h;rw[f9 h.1];exact EX (es:=es) h.2
def glo(sc:Z1)(x:Str):Bool:=sc.names.lookup x == some .globalImplicit&&!(x == ("__name__":Str))&&!(x == ("__debug__":Str))
def vis(sc:Z1)(x:Str):Bool:=sc.names.lookup x == some .local||sc.names.lookup x == some .cell||sc.names.lookup x == some .free
def loc(sc:Z1)(x:Str):Bool:=sc.names.lookup x == some .local||sc.names.lookup x == some .cell
def SL:SV->Const->Bool
 | .non,.none=>true
 | .bl a,.bool b=>a == b
 | .int i,.int j=>decide (i=j)
 | .str x,.str y=>decide (x=y)
 | _,_=>false
def t8:Expr->Bool
 | .Slice ..=>false
 | _=>true
def AK:Expr->Bool
 | .Set ..=>false
 | _=>true
def Mq:Expr->Bool
 | .UnaryOp .Not _ _=>false
 | .BoolOp ..=>false
 | .IfExp ..=>false
 | .Compare ..=>false
 | _=>true
def w6:Expr->Bool
 | .Call (.Name _ _) [] [] _=>false
 | _=>true
def CD:Expr->Option Str
 | .Name x _=>some x
 | _=>none
def Mr:Expr->Option Const
 | .Constant k _ _=>some k
 | _=>none
def UE:Expr->Option (Expr×ZS×Expr)
 | .BinOp a o b _=>some (a,o,b)
 | _=>none
def vUn:Expr->Option (UnaryOp×Expr)
 | .UnaryOp o a _=>some (o,a)
 | _=>none
def PL:Expr->Option (Expr×List CmpOp×List Expr)
 | .Compare a os bs _=>some (a,os,bs)
 | _=>none
def Ms:Expr->Option (BoolOp×List Expr×Pos)
 | .BoolOp o vs p=>some (o,vs,p)
 | _=>none
def UF:Expr->Option (Expr×Expr×Expr)
 | .IfExp t a b _=>some (t,a,b)
 | _=>none
def EA:Expr->Option (List Expr)
 | .Tuple es _ _=>some es
 | _=>none
def UG:Expr->Option (List Expr)
 | .List es _=>some es
 | _=>none
def FH:Expr->Option (Expr×Expr)
 | .Subscript a b _=>some (a,b)
 | _=>none
def UH:Expr->Option (Option Expr×Option Expr×Option Expr)
 | .Slice l h s _=>some (l,h,s)
 | _=>none
def DR:Expr->Option (Expr×List Expr×List Keyword)
 | .Call f as ks _=>some (f,as,ks)
 | _=>none
def IE:Expr->Nat
 | .Call _ _ _ p=>p.line
 | _=>0
def Mt:Expr->Option (Expr×Str×Nat)
 | .Attribute o n p=>some (o,n,p.endLine)
 | _=>none
def Mu:Expr->Option (Expr×List Comprehension×Z1)
 | .ListComp e gs s _=>some (e,gs,s)
 | _=>none
def JL:Expr->Option (List (Option Expr)×List Expr)
 | .Dict ks vs _=>some (ks,vs)
 | _=>none
theorem DS{r:Expr}{x:List (Option Expr)×List Expr}(h:JL r=some x):∃ p,r = .Dict x.1 x.2 p:=by cases r<;>first | (cases h;exact⟨_,rfl⟩) | exact u9 h
theorem BR{r:Expr}{x:Str}(h:CD r=some x):∃ p,r = .Name x p:=by cases r<;>first | (cases h;exact⟨_,rfl⟩) | exact u9 h
theorem Ki{r:Expr}{x:Const}(h:Mr r=some x):∃ j p,r = .Constant x j p:=by cases r<;>first | (cases h;exact⟨_,_,rfl⟩) | exact u9 h
theorem PM{r:Expr}{x:Expr×ZS×Expr}(h:UE r=some x):∃ p,r = .BinOp x.1 x.2.1 x.2.2 p:=by cases r<;>first | (cases h;exact⟨_,rfl⟩) | exact u9 h
theorem Mv{r:Expr}{x:UnaryOp×Expr}(h:vUn r=some x):∃ p,r = .UnaryOp x.1 x.2 p:=by cases r<;>first | (cases h;exact⟨_,rfl⟩) | exact u9 h
theorem FI{r:Expr}{x:Expr×List CmpOp×List Expr}(h:PL r=some x):∃ p,r = .Compare x.1 x.2.1 x.2.2 p:=by cases r<;>first | (cases h;exact⟨_,rfl⟩) | exact u9 h
theorem GF{r:Expr}{x:BoolOp×List Expr×Pos}(h:Ms r=some x):r = .BoolOp x.1 x.2.1 x.2.2:=by cases r<;>first | (cases h;exact rfl) | exact u9 h
theorem PN{r:Expr}{x:Expr×Expr×Expr}(h:UF r=some x):∃ p,r = .IfExp x.1 x.2.1 x.2.2 p:=by cases r<;>first | (cases h;exact⟨_,rfl⟩) | exact u9 h
theorem B4{r:Expr}{x:List Expr}(h:EA r=some x):∃ j p,r = .Tuple x j p:=by cases r<;>first | (cases h;exact⟨_,_,rfl⟩) | exact u9 h
theorem PP{r:Expr}{x:List Expr}(h:UG r=some x):∃ p,r = .List x p:=by cases r<;>first | (cases h;exact⟨_,rfl⟩) | exact u9 h
theorem Ad{r:Expr}{x:Expr×Expr}(h:FH r=some x):∃ p,r = .Subscript x.1 x.2 p:=by cases r<;>first | (cases h;exact⟨_,rfl⟩) | exact u9 h
theorem PR{r:Expr}{x:Option Expr×Option Expr×Option Expr}(h:UH r=some x):∃ p,r = .Slice x.1 x.2.1 x.2.2 p:=by cases r<;>first | (cases h;exact⟨_,rfl⟩) | exact u9 h
theorem DT{r:Expr}{x:Expr×List Expr×List Keyword}(h:DR r=some x):∃ p,r = .Call x.1 x.2.1 x.2.2 p/\IE r=p.line:=by cases r<;>first | (cases h;exact⟨_,rfl,rfl⟩) | exact u9 h
theorem Mw{r:Expr}{x:Expr×Str×Nat}(h:Mt r=some x):∃ p,r = .Attribute x.1 x.2.1 p/\x.2.2=p.endLine:=by cases r<;>first | (cases h;exact⟨_,rfl,rfl⟩) | exact u9 h
theorem GG{r:Expr}{x:Expr×List Comprehension×Z1}(h:Mu r=some x):∃ p,r = .ListComp x.1 x.2.1 x.2.2 p:=by cases r<;>first | (cases h;exact⟨_,rfl⟩) | exact u9 h
theorem a4{α:Type}{o:Option α}{p:α->Bool}(h:o.any p=true):∃ x,o=some x/\p x=true:=by
 cases o with
 | none=>cases h
 | some x=>exact⟨x,rfl,h⟩
theorem Ae{α:Type}{l:List α}{x:α}(h:l.head?=some x):l=x::l.tail:=by
 cases l with
 | nil=>cases h
 | cons y r=>cases h;rfl
def l1{α:Type}:List α->Option α
 | [x]=>some x
 | _=>none
def l2{α:Type}:List α->Option (α×α)
 | [x,y]=>some (x,y)
 | _=>none
theorem A0{α:Type}{l:List α}{x:α}(h:l1 l=some x):l=[x]:=by
 match l,h with
 | [y],h=>cases h;rfl
theorem CF{α:Type}{l:List α}{x:α×α}(h:l2 l=some x):l=[x.1,x.2]:=by
 match l,h with
 | [y,z],h=>cases h;rfl
def l3{α:Type}:List α->Option (α×α×α)
 | [x,y,z]=>some (x,y,z)
 | _=>none
def PU(r:Expr):Option (Str×List Expr×Keyword):=(DR r).bind λc=>match c.2.2 with
 | [kw]=>(CD c.1).map λx=>(x,c.2.1,kw)
 | _=>none
theorem JM{r:Expr}{x:Str×List Expr×Keyword}(h:PU r=some x):∃ p q,r = .Call (.Name x.1 p) x.2.1 [x.2.2] q:=by
 unfold PU at h;cases hc:DR r with
 | none=>rw[hc]at h;cases h
 | some c=>
   rw[hc]at h;obtain⟨q,e,_⟩:=DT hc;obtain⟨f,as,ks⟩:=c
   match ks,h with
   | [kw],h=>
     replace h:(CD f).map (λx=>(x,as,kw))=some x:=h;cases hn:CD f with
     | none=>rw[hn]at h;cases h
     | some nm=>
       rw[hn]at h;cases h;obtain⟨p,e2⟩:=BR hn;exact⟨p,q,by rw[e,e2]⟩
   | [],h=>cases h
   | _::_::_,h=>cases h
def vFn(r:Expr):Option (Str×List Expr):=(DR r).bind λc=>if c.2.2.isEmpty then (CD c.1).map λx=>(x,c.2.1) else none
theorem BS{r:Expr}{x:Str×List Expr}(h:vFn r=some x):∃ p q,r = .Call (.Name x.1 p) x.2 [] q:=by
 unfold vFn at h;cases hc:DR r with
 | none=>rw[hc]at h;cases h
 | some c=>
   rw[hc]at h;obtain⟨q,e,_⟩:=DT hc;simp only[Xc]at h;by_cases hk:c.2.2.isEmpty=true
   ·rw[iP hk]at h;cases hn:CD c.1 with
    | none=>rw[hn]at h;cases h
    | some y=>
      rw[hn]at h;cases h;obtain⟨p,ep⟩:=BR hn;rw[e,ep,Vp.mp hk];exact⟨p,q,rfl⟩
   ·rw[iG hk]at h;cases h
def vMt(r:Expr):Option (Expr×Str×List Expr):=(DR r).bind λc=>if c.2.2.isEmpty then (Mt c.1).bind λa=>if a.2.2 == IE r then some (a.1,a.2.1,c.2.1) else none else none
theorem DU{r:Expr}{x:Expr×Str×List Expr}(h:vMt r=some x):∃ ap cp,r = .Call (.Attribute x.1 x.2.1 ap) x.2.2 [] cp/\(ap.endLine == cp.line)=true:=by
 unfold vMt at h;cases hc:DR r with
 | none=>rw[hc]at h;cases h
 | some c=>
   rw[hc]at h;obtain⟨q,e,el⟩:=DT hc;simp only[Xc]at h;by_cases hk:c.2.2.isEmpty=true
   ·rw[iP hk]at h;cases hn:Mt c.1 with
    | none=>rw[hn]at h;cases h
    | some y=>
      rw[hn]at h;simp only[Xc]at h;obtain⟨p,ep,el2⟩:=Mw hn;by_cases hl:(y.2.2 == IE r)=true
      ·rw[iP hl]at h;cases h;refine⟨p,q,?_,?_⟩
       ·rw[e,ep,Vp.mp hk]
       ·rw[<-el2,<-el];exact hl
      ·rw[iG hl]at h;cases h
   ·rw[iG hk]at h;cases h
mutual
noncomputable def BT(k:Nat)(N:List Str)(sc:Z1):Tg->Expr->Bool
 | .nm i,r=>(CD r).any λx=>decide (i<k)&&decide (N[i]?=some x)&&loc sc x
 | .tup ts,r=>(EA r).any λes=>AS k N sc ts es
noncomputable def AS(k:Nat)(N:List Str)(sc:Z1):Tgs->List Expr->Bool
 | .nil,r=>r.isEmpty
 | .cons t ts,r=>(r.head?).any λe=>BT k N sc t e&&c3 e&&AS k N sc ts r.tail
end
def nmB(N:List Str)(sc:Z1)(i:Nat)(x:Str):Bool:=decide (N[i]?=some x)&&vis sc x&&!(x == ("__debug__":Str))&&!(x == ("__classdict__":Str))
mutual
noncomputable def i9(T:List Str)(N:List Str)(sc:Z1):Ex->Expr->Bool
 | .var i,r=>(CD r).any λx=>nmB N sc i x
 | .c x,r=>(Mr r).any λk=>SL x k
 | .op o a b,r=>(UE r).any λv=>decide (o=v.2.1)&&i9 T N sc a v.1&&i9 T N sc b v.2.2
 | .neg a,r=>(vUn r).any λv=>decide (v.1 = .USub)&&i9 T N sc a v.2
 | .cmp o a b,r=>(PL r).any λv=>(l1 v.2.2).any λrb=>decide (v.2.1=[o])&&i9 T N sc a v.1&&i9 T N sc b rb&&AK rb
 | .chn o p a b c,r=>(PL r).any λv=>(l2 v.2.2).any λrs=>decide (v.2.1=[o,p])&&i9 T N sc a v.1&&i9 T N sc b rs.1&&i9 T N sc c rs.2&&AK rs.2
 | .and a b,r=>(Ms r).any λv=>decide (v.1 = .And)&&(v.2.1.head?).any λx=>i9 T N sc a x&&(match l1 v.2.1.tail with | some y=>i9 T N sc b y | none=>decide (2<=v.2.1.tail.length)&&i9 T N sc b (.BoolOp .And v.2.1.tail v.2.2))
 | .or a b,r=>(Ms r).any λv=>decide (v.1 = .Or)&&(v.2.1.head?).any λx=>i9 T N sc a x&&(match l1 v.2.1.tail with | some y=>i9 T N sc b y | none=>decide (2<=v.2.1.tail.length)&&i9 T N sc b (.BoolOp .Or v.2.1.tail v.2.2))
 | .not a,r=>(vUn r).any λv=>decide (v.1 = .Not)&&i9 T N sc a v.2
 | .ife t a b,r=>(UF r).any λv=>i9 T N sc t v.1&&i9 T N sc a v.2.1&&i9 T N sc b v.2.2
 | .tup es,r=>(EA r).any λrs=>Ar T N sc es rs
 | .lst es,r=>(UG r).any λrs=>Ar T N sc es rs
 | .ix a b,r=>(FH r).any λv=>i9 T N sc a v.1&&i9 T N sc b v.2&&t8 v.2
 | .slc a lo hi,r=>(FH r).any λv=>(UH v.2).any λs=>i9 T N sc a v.1&&Mx T N sc lo s.1&&Mx T N sc hi s.2.1&&s.2.2.isNone
 | .call f es,r=>(vFn r).any λv=>decide (T[f]?=some v.1)&&glo sc v.1&&Ar T N sc es v.2&&!v.2.isEmpty
 | .bi b es,r=>(vFn r).any λv=>decide (b.name=v.1)&&glo sc v.1&&Ar T N sc es v.2&&!v.2.isEmpty
 | .mt m a es,r=>(vMt r).any λv=>decide (v.2.1=m.name)&&w6 v.1&&decide (v.2.2.length<29)&&i9 T N sc a v.1&&Ar T N sc es v.2.2
 | .comp own cn js g it t e,r=>(Mu r).any λv=>(l1 v.2.1).any λc=>decide (c.is_async=0)&&AA sc v.2.2 own cn N js&&BT own.length (own++cn) (GE v.2.2 sc) g c.target&&PV T N sc it c.target c.iter&&AK c.iter&&GH T (own++cn) (GE v.2.2 sc) t c.ifs&&i9 T (own++cn) (GE v.2.2 sc) e v.1
 | .tyc t,r=>(CD r).any λx=>decide (x=Str.ofString t.nm)&&glo sc x&&decide (t ≠ .none)
 | .sum2 a,r=>(vFn r).any λv=>(l1 v.2).any λra=>decide (v.1=("sum":Str))&&glo sc v.1&&i9 T N sc a ra&&c3 ra
 | .max1 a,r=>(vFn r).any λv=>(l1 v.2).any λra=>decide (v.1=("max":Str))&&glo sc v.1&&i9 T N sc a ra&&c3 ra
 | .dnewl,r=>(JL r).any λv=>v.1.isEmpty&&v.2.isEmpty
 | .dget2l d e v,r=>(vMt r).any λu=>(l2 u.2.2).any λra=>decide (u.2.1=("get":Str))&&w6 u.1&&i9 T N sc d u.1&&i9 T N sc e ra.1&&c3 ra.1&&i9 T N sc v ra.2&&c3 ra.2
 | .dvalsl a,r=>(vFn r).any λv=>(l1 v.2).any λz=>(vMt z).any λu=>decide (v.1=("list":Str))&&glo sc v.1&&decide (u.2.1=("values":Str))&&u.2.2.isEmpty&&w6 u.1&&i9 T N sc a u.1
 | .setdi d e v,r=>(vMt r).any λu=>(l2 u.2.2).any λra=>decide (u.2.1=("setdefault":Str))&&w6 u.1&&i9 T N sc d u.1&&i9 T N sc e ra.1&&c3 ra.1&&i9 T N sc v ra.2&&c3 ra.2
 | .mind a d,r=>(PU r).any λv=>(l1 v.2.1).any λra=>decide (v.1=("min":Str))&&glo sc v.1&&i9 T N sc a ra&&i9 T N sc d v.2.2.value&&c3 ra&&decide (v.2.2.arg=some ("default":Str))
 | .setd d e v,r=>(vMt r).any λu=>(l2 u.2.2).any λra=>decide (u.2.1=("setdefault":Str))&&w6 u.1&&i9 T N sc d u.1&&i9 T N sc e ra.1&&c3 ra.1&&i9 T N sc v ra.2&&c3 ra.2
 | .dnewp,r=>(JL r).any λv=>v.1.isEmpty&&v.2.isEmpty
 | .maxd a d,r=>(PU r).any λv=>(l1 v.2.1).any λra=>decide (v.1=("max":Str))&&glo sc v.1&&i9 T N sc a ra&&i9 T N sc d v.2.2.value&&c3 ra&&decide (v.2.2.arg=some ("default":Str))
 | .eqp a b,r=>(PL r).any λv=>(l1 v.2.2).any λrb=>decide (v.2.1=[.Eq])&&i9 T N sc a v.1&&i9 T N sc b rb&&AK rb
 | .dnew,r=>(JL r).any λv=>v.1.isEmpty&&v.2.isEmpty
 | .dget a b,r=>(FH r).any λv=>i9 T N sc a v.1&&i9 T N sc b v.2&&t8 v.2
 | .no,_=>true
noncomputable def Ar(T:List Str)(N:List Str)(sc:Z1):Exs->List Expr->Bool
 | .nil,r=>r.isEmpty
 | .cons e es,r=>(r.head?).any λx=>i9 T N sc e x&&c3 x&&Ar T N sc es r.tail
noncomputable def Mx(T:List Str)(N:List Str)(sc:Z1):Eo->Option Expr->Bool
 | .no,r=>r.isNone
 | .yes e,r=>r.any λx=>i9 T N sc e x
noncomputable def GH(T:List Str)(N:List Str)(sc:Z1):Eo->List Expr->Bool
 | .no,r=>r.isEmpty
 | .yes e,r=>(l1 r).any λx=>i9 T N sc e x
noncomputable def PV(T:List Str)(N:List Str)(sc:Z1):Itb->Expr->Expr->Bool
 | .seq e,_,r=>i9 T N sc e r
 | .rng1 a,_,r=>(vFn r).any λv=>(l1 v.2).any λra=>decide (v.1=("range":Str))&&glo sc v.1&&i9 T N sc a ra&&c3 ra
 | .rng2 a b,_,r=>(vFn r).any λv=>(l2 v.2).any λra=>decide (v.1=("range":Str))&&glo sc v.1&&i9 T N sc a ra.1&&c3 ra.1&&i9 T N sc b ra.2&&c3 ra.2
 | .enum e,tg,r=>(EA tg).isSome&&(vFn r).any λv=>(l1 v.2).any λa=>decide (v.1=("enumerate":Str))&&glo sc v.1&&i9 T N sc e a&&c3 a
end
noncomputable def spS(K:V8)(w:Sn):Sp:=λvs H Q _=>∃ as S xs,Ok K as H S/\RlAll K as H vs xs/\w xs S (Post K as H Q)
structure Cal(P:Yu)(w:Yw)(K:V8)(mg:Str->Option Yn)(base:Heap)(k:Nat)(x:Str)(ps:List Str)(sp:Sp):Prop where
 ex:∃ f fd,FnOk P w K mg base CX0 k f fd ps sp/\mg x=some (.ref f)/\PySem.W.keepIn K (.ref f)=true/\Binds K fd ps []
structure Cok(T:List Str)(Δ:Nat->Sn)(X:Cx)(k:Nat)(N:List Str)(sc:Z1):Prop where
 hN:X.N=N
 hs:X.env.scope=sc
 nd:N.Nodup
 calm:X.calm=true
 fn:∀ i x,i<k->N[i]?=some x->sc.names.lookup x=some .cell->X.fn x=true
 un:X.A.units+102<cLine
 bl:∀ b:BI,X.mg b.name=none
 rng:X.mg "range"=none
 enm:X.mg "enumerate"=none
 rvs:X.mg "reversed"=none
 zip:X.mg "zip"=none
 sm0:X.mg "sum"=none
 st0:X.mg "set"=none
 dc0:X.mg "dict"=none
 ty:∀ t:TyN,t ≠ .none->X.mg (Str.ofString t.nm)=none
 gd:X.A.guards=some []
 call:∀ f x,T[f]?=some x->∃ k ps,Cal X.prog X.w X.K X.mg X.base k x ps (spS X.K (Δ f))/\Room k X.A
 mono:∀ f,MonoN (Δ f)
structure Good(X:Cx)(r:Expr)(w:WE×WT):Prop where
 pe:PE X r (lift X.K w.1)
 pt:PT X r (liftT X.K w.2)
 m:Mono w.1
 mt:MonoT w.2
 pw:∀ op vs p,r = .BoolOp op vs p->PW X r (liftT X.K w.2)
section
variable{X:Cx}{r:Expr}{w:WE}
theorem MonoT.tru(m:Mono w):MonoT (SH w):=λρ S P P' i h=>m _ _ _ _ (λx S' ⟨b,e,q⟩=>⟨b,e,i _ _ q⟩) h
theorem MonoT.bl(m:Mono w):MonoT (wBl w):=λρ S P P' i h=>m _ _ _ _ (λx S' ⟨b,e,q⟩=>⟨b,e,i _ _ q⟩) h
theorem SM{K:V8}{as:List Yp}{H:Hp}{S:Sto}{x:SV}{v:V}{b:Bool}(ok:Ok K as H S)(r:Rl K as H v x)(e:Mb x S=some b):OU K v H b:=by
 cases x with
 | bl c=>cases e;rw[rl_bl.mp r];exact rfl
 | tup xs=>
   cases e;obtain⟨p,vs,rfl,hp,rp⟩:=rl_tup.mp r;refine .inr (.inl ⟨vs,SqT.of hp,?_⟩);have:=rp.length;cases vs<;>cases xs<;>first | rfl | (simp at this)
 | loc k=>
   unfold Mb at e;cases hs:S[k]? with
   | none=>simp only[hs]at e;cases e
   | some o=>
     cases o with
     | lst xs=>
       simp only[hs]at e;cases e;obtain⟨a,vs,rfl,_,ha,rr⟩:=t4 ok r hs;refine .inl ⟨vs,SqL.of ha,?_⟩;have:=rr.length;cases vs<;>cases xs<;>first | rfl | (simp at this)
     | iset _=>simp only[hs]at e;cases e
     | dtl _=>simp only[hs]at e;cases e
     | dtf _ _ _=>simp only[hs]at e;cases e
     | dtp _=>simp only[hs]at e;cases e
     | dct _=>simp only[hs]at e;cases e
     | dcf _ _ _=>simp only[hs]at e;cases e
 | _=>cases e
theorem EB{env:Env}(h:Mq r=true):∀ whole,isTrue r env whole=(do let v <- whole;standAt r.pos;holding [v] (truthy v)):=by
 intro whole;cases r<;>first | rfl | (cases h;done) | (rename_i o _ _;cases o<;>first | rfl | cases h)
theorem PX{K:V8}(m:Mono w):∀ σ H Q,liftT K (SH w) σ H Q->lift K w σ H λx H'=>∃ k,OU K x H' k/\Q k H':=by
 rintro σ H Q ⟨as,ρ,S,ok,en,h⟩;exact⟨as,ρ,S,ok,en,m _ _ _ _ (λx S' ⟨b,e,q⟩ as' H' v g ok' r=>⟨b,SM ok' r e,q as' H' g ok'⟩) h⟩
theorem IF{K:V8}(m:Mono w):∀ σ H Q,liftT K (wBl w) σ H Q->lift K w σ H λx H'=>∃ k,x = .bl k/\Q k H':=by
 rintro σ H Q ⟨as,ρ,S,ok,en,h⟩;exact⟨as,ρ,S,ok,en,m _ _ _ _ (λx S' ⟨b,e,q⟩ as' H' v g ok' r=>⟨b,by subst e;exact rl_bl.mp r,q as' H' g ok'⟩) h⟩
theorem Good.one(hp:PE X r (lift X.K w))(m:Mono w)(h:Mq r=true):Good X r (tt1 w) where
 pe:=hp
 pt:=DK _ (Lq hp (EB h)) (PX m)
 m:=m
 mt := .tru m
 pw:=λop vs p e=>by rw[e]at h;cases h
theorem My{X:Cx}{r:Expr}:PE X r (lift X.K λ_ _ _=>False):=λ_ _ _ _ _ _ h=>let ⟨_,_,_,_,_,z⟩:=h;z.elim
theorem GI{X:Cx}{r:Expr}:PT X r (liftT X.K λ_ _ _=>False):=λ_ _ _ _ _ _ h=>let ⟨_,_,_,_,_,z⟩:=h;z.elim
theorem Mz{X:Cx}{r:Expr}:PW X r (liftT X.K λ_ _ _=>False):=λ_ _ _ _ _ _ _ h=>let ⟨_,_,_,_,_,z⟩:=h;z.elim
theorem Good.never:Good X r (λ_ _ _=>False,λ_ _ _=>False):=⟨My,GI,λ_ _ _ _ _ h=>h,λ_ _ _ _ _ h=>h,λ_ _ _ _=>Mz⟩
end
theorem JN{o:ZS}:Mono2 (sOp o):=by
 unfold sOp;split<;>first | exact .add | exact .int0 | exact .mul | exact .int | exact λ_ _ _ _ _ _ h=>h
theorem AG{o:CmpOp}:Mono2 (Ak o):=by
 unfold Ak;split<;>first | exact .eq | exact .ne | exact .int0 | exact .in' | exact .isN
section
variable{X:Cx}
theorem N0{o:ZS}{ra rb:Expr}{p:Pos}{wa wb:WE}(ha:PE X ra (lift X.K wa))(hb:PE X rb (lift X.K wb))(ma:Mono wa)(mb:Mono wb):PE X (.BinOp ra o rb p) (lift X.K (w2 (sOp o) wa wb)):=by
 have go:∀{s:S2} {rr:R2},Mono2 s->OpR X (ZG o) rr->BM X.K s rr->PE X (.BinOp ra o rb p) (lift X.K (w2 s wa wb)):=λms ho sim=>i8 _ (TY ho ha hb) (B2 sim ms ma mb);have no:PE X (.BinOp ra o rb p) (lift X.K (w2 (λ_ _ _ _=>False) wa wb)):=go (λ_ _ _ _ _ _ h=>h) (rr:=λ_ _ _ _=>False) (λ_ _ _ _ _ _ _ _ _ _ _ _ h=>h.elim) (λ_ _ _ _ _ _ _ _ _ _ _ h=>h);cases o with
 | Add=>exact go .add Ov Ow
 | Sub=>exact go .int0 RQ (BO λ_ _ _ _=>rl_int.mpr rfl)
 | Mult=>exact go .mul (op_mul.or Ri) Ox
 | FloorDiv=>exact go .int OT (F6 λ_ _ _ _=>rl_int.mpr rfl)
 | Mod=>exact go .int RS (F6 λ_ _ _ _=>rl_int.mpr rfl)
 | Pow=>exact go .int RT (F6 λ_ _ _ _=>rl_int.mpr rfl)
 | _=>exact no
theorem DV(o:CmpOp)(hu:X.A.units<cLine):∃ rr:R2,OpR X (Z2 o) rr/\BM X.K (Ak o) rr:=by
 cases o with
 | Eq=>exact⟨_,op_eq.or ((Rn hu).or (Ot hu)),SA⟩
 | NotEq=>exact⟨_,op_ne.or (Ro hu),SB⟩
 | Lt=>exact⟨_,Td,BO λ_ _ _ _=>rl_bl.mpr rfl⟩
 | LtE=>exact⟨_,Te,BO λ_ _ _ _=>rl_bl.mpr rfl⟩
 | Gt=>exact⟨_,Tf,BO λ_ _ _ _=>rl_bl.mpr rfl⟩
 | GtE=>exact⟨_,Th,BO λ_ _ _ _=>rl_bl.mpr rfl⟩
 | Is=>exact⟨_,RW,Oz⟩
 | IsNot=>exact⟨_,op_notN.or KW,MS⟩
 | In=>exact⟨_,SD,MR⟩
 | NotIn=>exact⟨_,Kd,MR⟩
theorem BU{o:CmpOp}{r:Expr}(h:AK r=true):A0e o r=false:=by
 cases r<;>first | rfl | cases h
theorem Kj{o:CmpOp}{ra rb:Expr}{p:Pos}{wa wb:WE}(hu:X.A.units<cLine)(ha:PE X ra (lift X.K wa))(hb:PE X rb (lift X.K wb))(ma:Mono wa)(mb:Mono wb)(hn:AK rb=true):Good X (.Compare ra [o] [rb] p) (tt2 (w2 (Ak o) wa wb)):=by
 obtain⟨rr,ho,sim⟩:=DV (X:=X) o hu;have m:Mono (w2 (Ak o) wa wb) := .two AG ma mb
 exact{pe:=i8 _ (Iw ho ha hb (BU hn)) (B2 sim AG ma mb)
       pt:=DK _ (Ix ho ha hb (BU hn)) λσ H Q h=>B2 sim AG ma mb σ H _ (IF m σ H Q h)
       m:=m
       mt := .bl m
       pw:=λ_ _ _ e=>by cases e}
theorem GJ{o p:CmpOp}{a b c:WE}(ma:Mono a)(mb:Mono b)(mc:Mono c):Mono (Md (Ak o) (Ak p) a b c):=λρ S P P' i h=>ma _ _ _ _ (λx S1 h=>mb _ _ _ _ (λy S2 h=>AG _ _ _ _ _ (λz S3 ⟨k,e,q⟩=>⟨k,e,by
 cases k with
 | true=>rw[iP rfl]at q ⊢;exact mc _ _ _ _ (λu S4 h=>AG _ _ _ _ _ i h) q
 | false=>rw[iG VJ]at q ⊢;exact i _ _ q⟩) h) h) h
theorem JO{K:V8}{o p:CmpOp}{r r':R2}{a b c:WE}(s1:BM K (Ak o) r)(s2:BM K (Ak p) r')(ma:Mono a)(mb:Mono b)(mc:Mono c):∀ σ H Q,lift K (Md (Ak o) (Ak p) a b c) σ H Q->Hb r r' (lift K a) (lift K b) (lift K c) σ H Q:=by
 rintro σ H Q ⟨as,ρ,S,ok,en,h⟩;refine⟨as,ρ,S,ok,en,ma _ _ _ _ (λx S1 h as1 H1 v g1 ok1 rv=>?_) h⟩;refine⟨as1,ρ,S1,ok1,en.mono g1.pre (g1.ku ok),mb _ _ _ _ (λy S2 h as2 H2 u g2 ok2 ru=>?_) h⟩;refine s1 as2 H2 S2 x y v u _ ok2 (Rl.mono g2.pre (g2.ku ok1) x v rv) ru (AG _ _ _ _ _ (λz S3 ⟨k,e,q⟩ as3 H3 t g3 ok3 rt=>?_) h);subst e;refine⟨k,rl_bl.mp rt,?_⟩;cases k with
 | true=>
   rw[iP rfl]at q ⊢;refine⟨as3,ρ,S3,ok3,(en.mono g1.pre (g1.ku ok)).mono (g2.trans g3).pre ((g2.trans g3).ku ok1),mc _ _ _ _ (λn S4 h as4 H4 m g4 ok4 rm=>?_) q⟩;exact s2 as4 H4 S4 y n u m Q ok4 (Rl.mono (g3.trans g4).pre ((g3.trans g4).ku ok2) y u ru) rm (AG _ _ _ _ _ (λf S5 hf=>hf.mono (((g1.trans g2).trans g3).trans g4)) h)
 | false=>
   rw[iG VJ]at q ⊢;exact q as3 H3 _ ((g1.trans g2).trans g3) ok3 (rl_bl.mpr rfl)
theorem Kk{o q:CmpOp}{ra rb rc:Expr}{p:Pos}{wa wb wc:WE}(hu:X.A.units<cLine)(ha:PE X ra (lift X.K wa))(hb:PE X rb (lift X.K wb))(hc:PE X rc (lift X.K wc))(ma:Mono wa)(mb:Mono wb)(mc:Mono wc)(hn:AK rc=true):Good X (.Compare ra [o,q] [rb,rc] p) (tt2 (Md (Ak o) (Ak q) wa wb wc)):=by
 obtain⟨r1,ho,sim⟩:=DV (X:=X) o hu;obtain⟨r2,hq,sim2⟩:=DV (X:=X) q hu;have m:Mono (Md (Ak o) (Ak q) wa wb wc):=GJ ma mb mc;have hm:A0G [o,q] [rb,rc]=false:=BU hn
 exact{pe:=i8 _ (Lo ho hq ha hb hc hm) (JO sim sim2 ma mb mc)
       pt:=DK _ (Lp ho hq ha hb hc hm) λσ H Q h=>JO sim sim2 ma mb mc σ H _ (IF m σ H Q h)
       m:=m
       mt := .bl m
       pw:=λ_ _ _ e=>by cases e}
end
section
variable{K:V8}
theorem p8{c:Bool}{A B A' B':Prop}(ha:A->A')(hb:B->B')(h:if c=true then A else B):if c=true then A' else B':=by
 cases c with
 | true=>rw[iP rfl]at h ⊢;exact ha h
 | false=>rw[iG VJ]at h ⊢;exact hb h
theorem Mono.and{a b:WE}(ma:Mono a)(mb:Mono b):Mono (Mc a b):=λρ S P P' i h=>ma _ _ _ _ (λx S1 ⟨c,e,q⟩=>⟨c,e,p8 (mb _ _ _ _ i) (i _ _) q⟩) h
theorem Mono.or{a b:WE}(ma:Mono a)(mb:Mono b):Mono (wOr a b):=λρ S P P' i h=>ma _ _ _ _ (λx S1 ⟨c,e,q⟩=>⟨c,e,p8 (i _ _) (mb _ _ _ _ i) q⟩) h
theorem Mono.not{a:WE}(ma:Mono a):Mono (PD a):=λρ S P P' i h=>ma _ _ _ _ (λx S1 ⟨c,e,q⟩=>⟨c,e,i _ _ q⟩) h
theorem MonoT.and{a b:WT}(ma:MonoT a)(mb:MonoT b):MonoT (DP a b):=λρ S P P' i h=>ma _ _ _ _ (λx S1 q=>p8 (mb _ _ _ _ i) (i _ _) q) h
theorem MonoT.or{a b:WT}(ma:MonoT a)(mb:MonoT b):MonoT (IA a b):=λρ S P P' i h=>ma _ _ _ _ (λx S1 q=>p8 (i _ _) (mb _ _ _ _ i) q) h
theorem MonoT.not{a:WT}(ma:MonoT a):MonoT (JH a):=λρ S P P' i h=>ma _ _ _ _ (λx S1 q=>i _ _ q) h
theorem Mono.ifE{t:WT}{a b:WE}(mt:MonoT t)(ma:Mono a)(mb:Mono b):Mono (PF t a b):=λρ S P P' i h=>mt _ _ _ _ (λx S1 q=>p8 (ma _ _ _ _ i) (mb _ _ _ _ i) q) h
theorem Post.at{as as1:List Yp}{H H1:Hp}{Q:VK}{x:SV}{S:Sto}{v:V}(h:Post K as H Q x S)(g:Go as H as1 H1)(ok:Ok K as1 H1 S)(r:Rl K as1 H1 v x):Q v H1:=h as1 H1 v g ok r
theorem JP{a b:WE}(ma:Mono a)(mb:Mono b):∀ σ H Q,lift K (Mc a b) σ H Q->QP (lift K a) (lift K b) σ H Q:=by
 rintro σ H Q ⟨as,ρ,S,ok,en,h⟩;refine⟨as,ρ,S,ok,en,ma _ _ _ _ (λx S1 ⟨c,e,q⟩ as1 H1 v g1 ok1 rv=>?_) h⟩;subst e;refine⟨c,rl_bl.mp rv,p8 (λq=>?_) (λq=>q.at g1 ok1 (rl_bl.mpr rfl)) q⟩;exact⟨as1,ρ,S1,ok1,en.mono g1.pre (g1.ku ok),mb _ _ _ _ (λy S2 h=>h.mono g1) q⟩
theorem N1{a b:WE}(ma:Mono a)(mb:Mono b):∀ σ H Q,lift K (wOr a b) σ H Q->TH (lift K a) (lift K b) σ H Q:=by
 rintro σ H Q ⟨as,ρ,S,ok,en,h⟩;refine⟨as,ρ,S,ok,en,ma _ _ _ _ (λx S1 ⟨c,e,q⟩ as1 H1 v g1 ok1 rv=>?_) h⟩;subst e;refine⟨c,rl_bl.mp rv,p8 (λq=>q.at g1 ok1 (rl_bl.mpr rfl)) (λq=>?_) q⟩;exact⟨as1,ρ,S1,ok1,en.mono g1.pre (g1.ku ok),mb _ _ _ _ (λy S2 h=>h.mono g1) q⟩
theorem PY{a:WE}(ma:Mono a):∀ σ H Q,lift K (PD a) σ H Q->QQ (lift K a) σ H Q:=by
 rintro σ H Q ⟨as,ρ,S,ok,en,h⟩;refine⟨as,ρ,S,ok,en,ma _ _ _ _ (λx S1 ⟨c,e,q⟩ as1 H1 v g1 ok1 rv=>?_) h⟩;subst e;exact⟨c,rl_bl.mp rv,q.at g1 ok1 (rl_bl.mpr rfl)⟩
theorem PostT.mono{as as1:List Yp}{H H1:Hp}{Q:Bool->Hp->Prop}{x:Bool}{S:Sto}(h:PostT K as H Q x S)(g:Go as H as1 H1):PostT K as1 H1 Q x S:=λas' H' g'=>h as' H' (g.trans g')
theorem GK{a b:WT}(ma:MonoT a)(mb:MonoT b):∀ σ H Q,liftT K (DP a b) σ H Q->TD (liftT K a) (liftT K b) σ H Q:=by
 rintro σ H Q ⟨as,ρ,S,ok,en,h⟩;refine⟨as,ρ,S,ok,en,ma _ _ _ _ (λc S1 q as1 H1 g1 ok1=>?_) h⟩;refine p8 (λq=>?_) (λq=>q as1 H1 g1 ok1) q;exact⟨as1,ρ,S1,ok1,en.mono g1.pre (g1.ku ok),mb _ _ _ _ (λy S2 h=>h.mono g1) q⟩
theorem JQ{a b:WT}(ma:MonoT a)(mb:MonoT b):∀ σ H Q,liftT K (IA a b) σ H Q->tOr (liftT K a) (liftT K b) σ H Q:=by
 rintro σ H Q ⟨as,ρ,S,ok,en,h⟩;refine⟨as,ρ,S,ok,en,ma _ _ _ _ (λc S1 q as1 H1 g1 ok1=>?_) h⟩;refine p8 (λq=>q as1 H1 g1 ok1) (λq=>?_) q;exact⟨as1,ρ,S1,ok1,en.mono g1.pre (g1.ku ok),mb _ _ _ _ (λy S2 h=>h.mono g1) q⟩
theorem N2{a:WT}(ma:MonoT a):∀ σ H Q,liftT K (JH a) σ H Q->TF (liftT K a) σ H Q:=by
 rintro σ H Q ⟨as,ρ,S,ok,en,h⟩;exact⟨as,ρ,S,ok,en,ma _ _ _ _ (λc S1 q as1 H1 g1 ok1=>q as1 H1 g1 ok1) h⟩
theorem PZ{t:WT}{a b:WE}(mt:MonoT t)(ma:Mono a)(mb:Mono b):∀ σ H Q,lift K (PF t a b) σ H Q->tIf (liftT K t) (lift K a) (lift K b) σ H Q:=by
 rintro σ H Q ⟨as,ρ,S,ok,en,h⟩;refine⟨as,ρ,S,ok,en,mt _ _ _ _ (λc S1 q as1 H1 g1 ok1=>?_) h⟩;refine p8 (λq=>?_) (λq=>?_) q
 ·exact⟨as1,ρ,S1,ok1,en.mono g1.pre (g1.ku ok),ma _ _ _ _ (λy S2 h=>h.mono g1) q⟩
 ·exact⟨as1,ρ,S1,ok1,en.mono g1.pre (g1.ku ok),mb _ _ _ _ (λy S2 h=>h.mono g1) q⟩
end
section
variable{X:Cx}
theorem FJ{e:Expr}{t:TT}(t':TT)(h:PW X e t)(imp:∀ σ H Q,t' σ H Q->t σ H Q):PW X e t':=λwh pq s σ H Q I hw=>h wh pq s σ H Q I (imp σ H Q hw)
theorem IG{x y:Expr}{p:Pos}{a b:WE×WT}(ha:Good X x a)(hb:Good X y b):Good X (.BoolOp .And [x,y] p) (Mc a.1 b.1,DP a.2 b.2):=
 have pw:PW X (.BoolOp .And [x,y] p) (liftT X.K (DP a.2 b.2)):=FJ _ (Lb ha.pt (OM hb.pt)) (GK ha.mt hb.mt)
 {pe:=i8 _ (Ld ha.pe (Lc hb.pe)) (JP ha.m hb.m),pt:=pw.pt,m := .and ha.m hb.m,mt := .and ha.mt hb.mt,pw:=λ_ _ _ _=>pw}
theorem IH{x y z:Expr}{zs:List Expr}{p:Pos}{a b:WE×WT}(ha:Good X x a)(hb:Good X (.BoolOp .And (y::z::zs) p) b):Good X (.BoolOp .And (x::y::z::zs) p) (Mc a.1 b.1,DP a.2 b.2):=
 have pw:PW X (.BoolOp .And (x::y::z::zs) p) (liftT X.K (DP a.2 b.2)):=FJ _ (Lb ha.pt (hb.pw _ _ _ rfl)) (GK ha.mt hb.mt)
 {pe:=i8 _ (Ld ha.pe hb.pe) (JP ha.m hb.m),pt:=pw.pt,m := .and ha.m hb.m,mt := .and ha.mt hb.mt,pw:=λ_ _ _ _=>pw}
theorem Kl{x y:Expr}{p:Pos}{a b:WE×WT}(ha:Good X x a)(hb:Good X y b):Good X (.BoolOp .Or [x,y] p) (wOr a.1 b.1,IA a.2 b.2):=
 have pw:PW X (.BoolOp .Or [x,y] p) (liftT X.K (IA a.2 b.2)):=FJ _ (QO ha.pt (RG hb.pt)) (JQ ha.mt hb.mt)
 {pe:=i8 _ (QR ha.pe (Lc hb.pe)) (N1 ha.m hb.m),pt:=pw.pt,m := .or ha.m hb.m,mt := .or ha.mt hb.mt,pw:=λ_ _ _ _=>pw}
theorem Km{x y z:Expr}{zs:List Expr}{p:Pos}{a b:WE×WT}(ha:Good X x a)(hb:Good X (.BoolOp .Or (y::z::zs) p) b):Good X (.BoolOp .Or (x::y::z::zs) p) (wOr a.1 b.1,IA a.2 b.2):=
 have pw:PW X (.BoolOp .Or (x::y::z::zs) p) (liftT X.K (IA a.2 b.2)):=FJ _ (QO ha.pt (hb.pw _ _ _ rfl)) (JQ ha.mt hb.mt)
 {pe:=i8 _ (QR ha.pe hb.pe) (N1 ha.m hb.m),pt:=pw.pt,m := .or ha.m hb.m,mt := .or ha.mt hb.mt,pw:=λ_ _ _ _=>pw}
theorem Kn{x:Expr}{p:Pos}{a:WE×WT}(ha:Good X x a):Good X (.UnaryOp .Not x p) (PD a.1,JH a.2) where
 pe:=i8 _ (RI ha.pe) (PY ha.m)
 pt:=DK _ (RH ha.pt) (N2 ha.mt)
 m := .not ha.m
 mt := .not ha.mt
 pw:=λ_ _ _ e=>by cases e
theorem Ko{t x y:Expr}{p:Pos}{c a b:WE×WT}(hc:Good X t c)(ha:Good X x a)(hb:Good X y b):Good X (.IfExp t x y p) (PF c.2 a.1 b.1,λ_ _ _=>False) where
 pe:=i8 _ (Lf hc.pt ha.pe hb.pe) (PZ hc.mt ha.m hb.m)
 pt:=GI
 m := .ifE hc.mt ha.m hb.m
 mt:=λ_ _ _ _ _ h=>h
 pw:=λ_ _ _ e=>by cases e
theorem SN{i:Nat}{x:Str}{p:Pos}{N:List Str}{sc:Z1}{T:List Str}{Δ:Nat->Sn}{k:Nat}(C:Cok T Δ X k N sc)(hi:N[i]?=some x)(hv:vis sc x=true)(h1:(x == ("__debug__":Str))=false)(h2:(x == ("__classdict__":Str))=false):PE X (.Name x p) (OJ i):=by
 have hv':Vis X.env.scope x:=by
  rw[C.hs];unfold vis at hv;simp only[Vx,beq_iff_eq]at hv;rcases hv with(hv | hv) | hv
  ·exact .inl hv
  ·exact .inr (.inl hv)
  ·exact .inr (.inr hv)
 exact RC (i:=i) (by rw[C.hN];exact hi) hv' h1 h2
theorem Pa{x:SV}{k:Const}{j:Nat}{p:Pos}(h:SL x k=true):Good X (.Constant k j p) (tt1 (wC x)):=by
 refine .one ?_ .c rfl;unfold SL at h;split at h
 ·exact i8 _ RE (Fx λ_ _=>rl_non.mpr rfl)
 ·rw[beq_iff_eq]at h;subst h;exact i8 _ TC (Fx λ_ _=>rl_bl.mpr rfl)
 ·have h:=of_decide_eq_true h;subst h;exact i8 _ RD (Fx λ_ _=>rl_int.mpr rfl)
 ·have h:=of_decide_eq_true h;subst h;exact i8 _ RF (Fx λ_ _=>rl_str.mpr rfl)
 ·cases h
theorem DW:Fw Ma:=λx S P P' i h=>by
 unfold Ma at h ⊢;split at h
 ·exact i _ _ h
 ·exact h.elim
theorem Kp{x:Expr}{p:Pos}{a:WE×WT}(ha:Good X x a):Good X (.UnaryOp .USub x p) (tt1 (w1 Ma a.1)):=by
 refine .one (i8 _ (TZ RU ha.pe) (Rv (λas H S x v Q ok r h=>?_) DW ha.m)) (.one DW ha.m) rfl;unfold Ma at h;split at h
 ·exact⟨_,rl_int.mp r,h.here ok (rl_int.mpr rfl)⟩
 ·exact h.elim
theorem DX{b:Expr}(h:t8 b=true):J4 b:=λo i=>by cases b<;>first | rfl | cases h
theorem N3{x y:Expr}{p:Pos}{a b:WE×WT}(ha:Good X x a)(hb:Good X y b)(h:t8 y=true):Good X (.Subscript x y p) (tt1 (w2 sIx a.1 b.1)):=
 .one (i8 _ (Tn (ix_list.or Re) ha.pe hb.pe (DX h)) (B2 SE .ix ha.m hb.m)) (.two .ix ha.m hb.m) rfl
def UI(K:V8)(as:List Yp)(H:Hp)(Q:Option Int->Hp->Prop):Option Int->Sto->Prop:=λb S'=>∀ as' H',Go as H as' H'->Ok K as' H' S'->Q b H'
noncomputable def GL(K:V8)(w:WO):St->Hp->(Option Int->Hp->Prop)->Prop:=λσ H Q=>∃ as ρ S,Ok K as H S/\EnvOk K as H σ ρ/\w ρ S (UI K as H Q)
def MonoO(w:WO):Prop:=∀ ρ S (P P':Option Int->Sto->Prop),(∀ x S',P x S'->P' x S')->w ρ S P->w ρ S P'
theorem MonoO.no:MonoO SI:=λ_ _ _ _ i h=>i _ _ h
theorem MonoO.yes{w:WE}(m:Mono w):MonoO (Me w):=λ_ _ _ _ i h=>m _ _ _ _ (λx S1 ⟨k,e,q⟩=>⟨k,e,i _ _ q⟩) h
theorem UJ:PO X none (GL X.K SI):=λpq s σ H Q I ⟨as,ρ,S,ok,en,h⟩=>OX pq s σ H Q I (h as H (Go.refl _ _) ok)
theorem SQ{x:Expr}{a:WE×WT}(ha:Good X x a):PO X (some x) (GL X.K (Me a.1)):=λpq s σ H Q I ⟨as,ρ,S,ok,en,h⟩=>
 OY ha.pe pq s σ H Q I ⟨as,ρ,S,ok,en,ha.m _ _ _ _ (λy S1 ⟨k,e,q⟩ as1 H1 v g1 ok1 rv=>⟨k,by subst e;exact rl_int.mp rv,q as1 H1 g1 ok1⟩) h⟩
theorem RlAll.cut{K:V8}{as:List Yp}{H:Hp}{xs:List SV}{vs:List V}(h:RlAll K as H vs xs)(lo hi:Option Int):RlAll K as H (Fk vs lo hi) (BC xs lo hi):=by
 unfold Fk BC;rw[h.length];exact(h.drop _).take _
theorem DY{x:SV}{lo hi:Option Int}{S:Sto}{P P':QE}(i:∀ x S',P x S'->P' x S')(h:Mf x lo hi S P):Mf x lo hi S P':=by
 unfold Mf at h ⊢;split at h
 ·obtain⟨xs,a,b⟩:=h;exact⟨xs,a,i _ _ b⟩
 ·exact i _ _ h
 ·exact h.elim
theorem Pb{K:V8}{as:List Yp}{H:Hp}{S:Sto}{Q:VK}{x:SV}{v:V}{l k:Option Int}(ok:Ok K as H S)(r:Rl K as H v x)(h:Mf x l k S (Post K as H Q)):Tq K v l k H Q\/Tm K v l k H Q\/Tz K v l k H Q:=by
 cases x with
 | loc j=>
   obtain⟨xs,h1,h2⟩:=h;obtain⟨b,vs,rfl,_,hb,rr⟩:=t4 ok r h1;exact .inl ⟨b,vs,rfl,SqL.of hb,AR ok (rr.cut l k) h2⟩
 | tup xs=>
   obtain⟨b,vs,rfl,hb,rr⟩:=rl_tup.mp r;by_cases hw:HT.sIx vs.length 0 l=0/\HT.sIx vs.length vs.length k=vs.length
   ·refine .inr (.inr ⟨b,vs,rfl,SqT.of hb,hw,?_⟩)
    have e:BC xs l k=xs:=by
     unfold BC;rw[<-rr.length,hw.1,hw.2,rr.length];simp
    have h':Post K as H Q (.tup (BC xs l k)) S:=h;rw[e]at h';exact h'.here ok r
   ·exact .inr (.inl ⟨b,vs,rfl,SqT.of hb,hw,BN ok (rr.cut l k) h⟩)
 | _=>exact False.elim h
theorem Kq{x:Expr}{rl rh:Option Expr}{p p2:Pos}{a:WE×WT}{lo hi:WO}(ha:Good X x a)(hl:PO X rl (GL X.K lo))(hh:PO X rh (GL X.K hi))(ml:MonoO lo)(mh:MonoO hi):Good X (.Subscript x (.Slice rl rh none p2) p) (tt1 (SJ a.1 lo hi)):=by
 refine .one (i8 _ (Lw (sl_list.or (sl_tup.or Oj)) ha.pe hl hh) ?_) (λρ S P P' i h=>ha.m _ _ _ _ (λx S1 h=>ml _ _ _ _ (λl S2 h=>mh _ _ _ _ (λk S3 h=>DY i h) h) h) h) rfl;rintro σ H Q ⟨as,ρ,S,ok,en,h⟩;refine⟨as,ρ,S,ok,en,ha.m _ _ _ _ (λx S1 h as1 H1 v g1 ok1 rv=>?_) h⟩;refine⟨as1,ρ,S1,ok1,en.mono g1.pre (g1.ku ok),ml _ _ _ _ (λl S2 h as2 H2 g2 ok2=>?_) h⟩;refine⟨as2,ρ,S2,ok2,(en.mono g1.pre (g1.ku ok)).mono g2.pre (g2.ku ok1),mh _ _ _ _ (λk S3 h as3 H3 g3 ok3=>?_) h⟩;have rv3:=Rl.mono (g2.trans g3).pre ((g2.trans g3).ku ok1) x v rv;have g:=(g1.trans g2).trans g3;exact Pb ok3 rv3 (DY (λ_ _ h=>h.mono g) h)
end
end Rf
namespace L2
open PySem PySem.Spec PyProof.Rows
section
variable{prog:Yu}{w:Yw}{A:Z0}{R:Result->Yo->Prop}{I:Yp}{fp wr:List Yp}{G:Array A0w->Array A0w->Prop}{n:Nat}{P:Nat->Yn->Prop}{St:Nat->Yo->Prop}
noncomputable def TupsAt(prog:Yu)(w:Yw)(h:Heap)(n:Nat)(ta:Nat->Yp)(kv:Nat->Key×Yn):Prop:=∀ i,i<n->∃ key,(n0 prog w).is (kv i).1 key=true/\h.IsTuple (ta i) #[key,(kv i).2]
theorem TupsAt.keep{h h':Heap}{ta:Nat->Yp}{kv:Nat->Key×Yn}(t:TupsAt prog w h n ta kv)(k:∀ i o,i<n->h.get? (ta i)=some o->h'.get? (ta i)=some o):TupsAt prog w h' n ta kv:=λi hi=>by
 obtain⟨key,hk,o,ho,r⟩:=t i hi;exact⟨key,hk,o,k i o hi ho,r⟩
end
def Kpt(hb h:Heap):Prop:=∀ b o,hb.get? b=some o->h.get? b=some o
structure Sk(hb h:Heap)(a k:Yp)(ks xs:Array Yn)(e:Nat):Prop where
 a0:hb.get? a=none
 k0:hb.get? k=none
 ne:k≠a
 kp:Kpt hb h
 kk:∃ n,h.get? k=some (seqObj "list" ks n)
 aa:h.get? a=some (seqObj "list" xs e)
theorem Sk.grow{hb h h':Heap}{a k:Yp}{ks xs:Array Yn}{e:Nat}(S:Sk hb h a k ks xs e)(K:Kpt h h'):Sk hb h' a k ks xs e:=
 ⟨S.a0,S.k0,S.ne,λb o q=>K _ _ (S.kp b o q),S.kk.elim λn q=>⟨n,K _ _ q⟩,K _ _ S.aa⟩
theorem KV.at{κ:Type}{ks:List (κ×V)}{vs:List (κ×Yn)}(r:KV ks vs):∀{i:Nat} {p:κ×V},ks[i]?=some p->∃ v,vs[i]?=some (p.1,v)/\RelV p.2 v:=by
 intro i
 induction r generalizing i with
 | nil=>exact λh=>by simp at h
 | @cons a b _ _ h _ ih=>
   intro p hp;cases i with
   | zero=>cases hp;exact⟨b.2,by rw[h.1];rfl,h.2⟩
   | succ i=>exact ih hp
theorem KT.at{H:Hp}:∀{kvs:List (List Key×V)} {xs:List (List Key×Yp×Yn)},KT H kvs xs->∀{i:Nat} {p:List Key×V},kvs[i]?=some p->∃ q,xs[i]?=some q/\H q.2.1=some (.tup (p.1.map kV))
 | _,_,.nil,_,_,h=>by simp at h
 | _,_,.cons a t,0,p,h=>by simp at h;subst h;exact⟨_,rfl,a.2.1⟩
 | _,_,.cons a t,i+1,p,h=>by
   obtain⟨q,e,z⟩:=KT.at t (i:=i) (p:=p) (by simpa using h);exact⟨q,by simpa using e,z⟩
section
variable{X:Cx}{o e f:Expr}{apos cpos:Pos}{td ty tx:TE}
def SR(td ty tx:TE):TE:=λσ H Q=>td σ H λx H1=>∃ a,x = .ref a/\IsD H1 a/\ty σ H1 λy H2=>tx σ H2 λz H3=>∃ kvs k,y=kV k/\H3 a=some (.dK kvs)/\kvs.length<Yr/\
 (∀ v,w4 kvs k=some v->Q v H3)/\(w4 kvs k=none->Q z (upd H3 a (.dK (Aa kvs k z))))
theorem N4(ho:PE X o td)(he:PE X e ty)(hf:PE X f tx)(m:M2 X o "setdefault" apos e f cpos):PE X (.Call (.Attribute o "setdefault" apos) [e,f] [] cpos) (SR td ty tx):=by
 intro pq s σ H Q I h;refine Zv m.base m.few m.line PySem.F.plainAttrs_dict PySem.F.slot_dict_setdefault PySem.F.type_dict_setdefault (thn (ho pq s σ H _ I h) λu s1 ⟨x,H1,I1,rx,a,ex,d,q1⟩=>?_);subst ex;obtain rfl:u=Value.ref a:=rx;obtain⟨t1,t2,_⟩:=Hs I1 d;refine⟨t1,t2,?_⟩;rw[m.trees]
 refine Calls.callWith_builtin rfl (Calls.evalArgs_plain (Calls.spliced_cons (thn (he pq s1 σ H1 _ I1 q1) λiv s2 ⟨y,H2,I2,ry,q2⟩=>
  Calls.spliced_cons (thn (hf pq s2 σ H2 _ I2 q2) λfv s3 ⟨z,H3,I3,rz,kvs,k,ey,ha,hz,qs,qn⟩=>Calls.spliced_nil ?_))))
 subst ey;obtain⟨hl,hd,vs,rel,dd⟩:=QY I3.hok ha;refine Zm PySem.F.slot_dict_setdefault dd.typeIs PySem.F.entry_dict_setdefault (PySem.F.args_dict_setdefault_3 _ _ _) (kt_meets_setdefault (n0 X.prog X.w) a (Fq ry) hd fv) ⟨vs,dd,by rw[<-rel.length];exact hl,λv e=>?_,λe h' dd' hs=>?_⟩
 ·have rv:=rel.val k;rw[e]at rv;cases hv:w4 kvs k with
  | none=>rw[hv]at rv;exact rv.elim
  | some w=>rw[hv]at rv;exact⟨w,H3,I3.tok _,rv,qs w hv⟩
 ·have hv:w4 kvs k=none:=by
   have rv:=rel.val k;rw[e]at rv;cases hv:w4 kvs k with
   | none=>rfl
   | some v=>rw[hv]at rv;exact rv.elim
  refine⟨z,_,?_,rz,qn hv⟩;have hl2:(Aa kvs k z).length<=Yr:=by have:=Ac kvs k z;omega
  have he:∃ q,h'.get? a=some q:=let ⟨q,_,_,hq,_⟩:=dd';⟨q,hq⟩
  exact Cv I3 (by rw[ha];exact True.intro) hs he (MC hl2 hd (rel.put k rz) dd')
end
section
variable{X:Cx}
theorem JR(hu:X.A.units<cLine):OpR X (Z2 .Eq) (λx y H Q=>∃ a b,∃ i j k l:Int,x = .ref a/\y = .ref b/\SqT X.K H a [.int i,.int j]/\SqT X.K H b [.int k,.int l]/\Q (.bl (decide (i=k/\j=l))) H):=by
 intro pq s σ H x y v u Q I rx ry h;obtain⟨a,b,i,j,k,l,rfl,rfl,h1,h2,q⟩:=h;cases rx;cases ry;obtain⟨its1,r1,p1,_⟩:=I.tuple h1;obtain⟨its2,r2,p2,_⟩:=I.tuple h2;have l1:=r1.length;have l2:=r2.length;refine(SeqAt.RcAt.tuples (A:=X.A) (s:=s) (e:=λm=>eqV (([.int i,.int j]:List V).getD m .non) (([.int k,.int l]:List V).getD m .non)) p1 p2 hu (Bz r1 r2 (.inl ⟨rfl,rfl⟩))) _ _ _ _ ⟨.bl _,H,I,?_,q⟩;show Value.bool _=Value.bool _
 congr 1
 rw[VF,VF,<-l1,<-l2];show(List.all [0,1] _&&(2 == 2))=_;simp[eqV,Bool.decide_and,Bool.beq_eq_decide_eq]
end
end L2
namespace PySem
def DEn(h:Heap)(d:Yp)(es:Array ZW)(ep:Nat):Prop:=∃ o,h.get? d=some o/\o.ExactDict/\o.data = .dict es ep
theorem DEn.keep{h h':Heap}{d:Yp}{es:Array ZW}{ep:Nat}(x:DEn h d es ep)(k:∀ o,h.get? d=some o->h'.get? d=some o):DEn h' d es ep:=let ⟨o,e,r⟩:=x;⟨o,k o e,r⟩
theorem DEn.lt{h:Heap}{d:Yp}{es:Array ZW}{ep:Nat}(x:DEn h d es ep):d<h.objs.size:=let ⟨_,e,_⟩:=x;VO e
section
variable{prog:Yu}{w:Yw}{A:Z0}{E:Yn->Yo->Prop}{s:Yo}
theorem Ct{v d:Yp}{es:Array ZW}{ep:Nat}{Q:Yn->Yo->Prop}(hv:s.heap.IsValuesView v d)(hm:DEn s.heap d es ep)
 (hQ:Q (.ref s.heap.objs.size) {s with heap:=s.heap.push {cls := .type "dict_valueiterator",data := .fields #[.ref d,.int 0 0,.int es.size 0,.int ep 0]}}):Ys (Yt prog w) A (pyIter (.ref v)) Q E s:=by
 obtain⟨ov,hov,_,hdv⟩:=id hv;obtain⟨o,ho,_,hdat⟩:=id hm;refine wpAny_pyIter_slot hv.typeIs F.slot_dict_values_iter (ZH F.slot_dict_values_iter hv.typeIs F.entry_dict_values_iter ?_ (F.args_dict_values_iter_1 _));unfold Builtin.«dict_values.__iter__»;refine Ym (Yq (Ym ?_));unfold Builtin.Dict_items.dictOf;refine Ym (ZY hov hdv (x := .ref d) rfl (Yq (Ym ?_)));unfold Builtin.Dict_items.newIterator;refine Ym (Zg ho hdat (Ym (A07 ho hdat ?_)));simp only[show Builtin.Dict_items.ownsTuple "dict_valueiterator"=false by decide,WH,if_false];refine Yz (Yq ⟨_,rfl,"dict_valueiterator",_,⟨_,VV _ rfl,rfl⟩,F.slot_dict_valueiterator_next.lookup,?_⟩);simpa[rawInt] using hQ
theorem BV{it d:Yp}{i ep:Nat}{es:Array ZW}{e:ZW}{Q:Option Yn->Yo->Prop}(hit:s.heap.IsValIter it d i es.size ep)(hm:DEn s.heap d es ep)(hx:es[i]?=some e)
 (hQ:∀ h',h'.IsValIter it d (i+1) es.size ep->W7 it s.heap h'->Q (some e.val) {s with heap:=h'}):Ys (Yt prog w) A (pyNext (.ref it)) Q E s:=by
 obtain⟨o,ho,hc,hd⟩:=id hit;obtain⟨od,hod,_,hdd⟩:=id hm;have hlt:i<es.size:=(XH.mp hx).1;have hval:es[i]=e:=(XH.mp hx).2;unfold pyNext;refine Ym (wpAny_attempt (Z5 (name:=Str.ofString "__next__") hit.typeIs F.slot_dict_valueiterator_next (ZH F.slot_dict_valueiterator_next hit.typeIs F.entry_dict_valueiterator_next ?_ (F.args_dict_valueiterator_next_1 _))));refine Ym (Yq (Ym (Ym ?_)))
 first | refine Ym (ZC hit.typeIs (Yq ?_)) | refine Ym (ZM hit.typeIs (Yq ?_))
 refine Ym (A0E ho hd ?_);simp only[show Builtin.Dict_items.ownsTuple "dict_valueiterator"=false by decide,WH,if_false];show Ys _ _ (if (Value.ref d == Value.none)=true then _ else _) _ _ s;rw[iG (show ¬ ((Value.ref d == Value.none)=true) from VJ)];refine Ym (Yq (Ym (Zg hod hdd ?_)));rw[iG (by simp)];refine Ym (Yq (Ym (A07 hod hdd ?_)));rw[iG (by simp)];refine Yq ?_;simp only[show ¬ ((i:Int)<0) from by omega,if_false,WZ,hx];refine Ym ?_
 first | refine Ym (ZC hit.typeIs (Yq ?_)) | refine Ym (ZM hit.typeIs (Yq ?_))
 refine Ym (Zh hit.typeIs ?_);show Ys _ _ (setField (.ref it) 1 (rawInt ((i:Int)+1)) >>= _) _ _ s;refine Ym (Zs ho hd (by simp) ?_)
 have hit':(s.heap.update it (Obj.mapFields (·.setIfInBounds 1 (rawInt ((i:Int)+1))))).IsValIter it d (i+1) es.size ep:=
  ⟨_,W3 _ ho (Obj.isFreed_of_fields (Obj.data_mapFields hd _)),(Obj.cls_mapFields ..).trans hc,by rw[Obj.data_mapFields hd];simp[rawInt]⟩
 refine Ym (Z6 (Ym (Zh (s:={s with heap:=s.heap.update it (Obj.mapFields (·.setIfInBounds 1 (rawInt ((i:Int)+1))))}) hit'.typeIs ?_)));refine Ym (Zh (s:={s with heap:=s.heap.update it (Obj.mapFields (·.setIfInBounds 1 (rawInt ((i:Int)+1))))}) hit'.typeIs ?_);show Ys _ _ (pure e.val) _ _ _;exact Yq (Yq ⟨_,rfl,Yq (hQ _ hit' (W7.update ..))⟩)
theorem Br{it d:Yp}{ep:Nat}{es:Array ZW}{Q:Option Yn->Yo->Prop}(hh:A.handled=none)(hit:s.heap.IsValIter it d es.size es.size ep)(hm:DEn s.heap d es ep)
 (hQ:∀ h',Yk it s.heap h'->Q none {s with heap:=h'}):Ys (Yt prog w) A (pyNext (.ref it)) Q E s:=by
 obtain⟨o,ho,hc,hd⟩:=id hit;obtain⟨od,hod,_,hdd⟩:=id hm;unfold pyNext;refine Ym (wpAny_attempt (Z5 (name:=Str.ofString "__next__") hit.typeIs F.slot_dict_valueiterator_next (ZH F.slot_dict_valueiterator_next hit.typeIs F.entry_dict_valueiterator_next ?_ (F.args_dict_valueiterator_next_1 _))));refine Ym (Yq (Ym (Ym ?_)))
 first | refine Ym (ZC hit.typeIs (Yq ?_)) | refine Ym (ZM hit.typeIs (Yq ?_))
 refine Ym (A0E ho hd ?_);simp only[show Builtin.Dict_items.ownsTuple "dict_valueiterator"=false by decide,WH,if_false];show Ys _ _ (if (Value.ref d == Value.none)=true then _ else _) _ _ s;rw[iG (show ¬ ((Value.ref d == Value.none)=true) from VJ)];refine Ym (Yq (Ym (Zg hod hdd ?_)));rw[iG (by simp)];refine Ym (Yq (Ym (A07 hod hdd ?_)));rw[iG (by simp)];refine Yq ?_;simp only[show ¬ ((es.size:Int)<0) from by omega,if_false,WZ,Array.getElem?_eq_none (VH es.size)];refine Ym ?_
 first | refine Ym (ZC hit.typeIs (Yq ?_)) | refine Ym (ZM hit.typeIs (Yq ?_))
 show Ys _ _ (setField (.ref it) 0 .none >>= _) _ _ s;refine Ym (Zs ho hd (by simp) ?_);show Ys _ _ (newExc (.type "StopIteration") [] >>= _) _ _ _;refine Ym ?_;simp only[newExc,newTuple];refine Ym (Yz ?_ (by size_fits));refine Ym (m:=Zt _ _) (A0a (a:=Value.none) (by first | rfl | (simp only[Zt];rfl)) ?_);refine Yz ?_ (by size_fits);simp only[raiseNew];refine Ym (wpAny_handled ?_);rw[show A.in1.handled=none from hh];refine Ym (Yq (wpAny_throw ?_));refine Ym (wpAny_isInstance (T:="StopIteration") (b:=true) ⟨_,VV _ rfl,rfl⟩ isSubtype_stop ?_);exact Yq (hQ _ (((W7.update ..).extBut.push _).push _))
theorem Cu(hh:A.handled=none)(I d:Yp)(hne:d≠I)(es:Array ZW)(ep:Nat):
 Walks prog w A I [I,d] [I] es.size (λi v=>∃ e,es[i]?=some e/\e.val=v) (λi h=>h.IsValIter I d i es.size ep/\DEn h d es ep) where
 sub:=λb hb=>by simp at hb;simp[hb]
 frame:=λ_ _ _ st hk=>⟨st.1.at λo e=>hk I (by simp) o e,st.2.keep λo e=>hk d (by simp) o e⟩
 item:=λi s Q E hi st hQ=>by
  refine BV (e:=es[i]) st.1 st.2 (by simp[hi]) λh' hit' hs'=>?_;exact hQ es[i].val h' s.toks ⟨es[i],by simp[hi],rfl⟩ ⟨hit',st.2.keep λo e=>hs'.extBut _ _ hne e⟩ λb o hb e=>hs'.extBut b o (λh=>hb (by simp[h])) e
 done:=λs Q E st hQ=>Br hh st.1 st.2 λh' he'=>hQ h' s.toks λb o hb e=>he' b o (λh=>hb (by simp[h])) e
 self:=λ_ _ _ _ st hQ=>wpAny_pyIter_valiter st.1 hQ
end
theorem DZ{prog:Yu}{w:Yw}{d r:Yp}{es:Array ZW}{ep:Nat}:PySem.W.KdlSrc prog w "dict_values" r d es.size (λi v=>∃ e,es[i]?=some e/\e.val=v) (λh=>h.IsValuesView r d/\DEn h d es ep) where
 type:=λ_ hm=>hm.1.typeIs
 there:=λ_ hm=>⟨let ⟨_,ho,_⟩:=hm.1;VO ho,hm.2.lt⟩
 keep:=λ_ _ hm hk=>⟨let ⟨o,ho,x⟩:=hm.1;⟨o,hk r (.inl rfl) o ho,x⟩,hm.2.keep λo e=>hk d (.inr rfl) o e⟩
 notList:=by decide
 notTuple:=by decide
 hint:=λ_ _ _ _ hm hq=>PySem.W.kdl_hint_values hm.1.typeIs hq
 iter:=λ_ _ hh hm=>⟨_,_,(λ_ _ hq=>Ct hm.1 hm.2 hq),Cu hh _ d (VT hm.2.lt) es ep,⟨⟨_,VV _ rfl,rfl,rfl⟩,hm.2.keep λo e=>VG _ e⟩⟩
theorem Cb{prog:Yu}{w:Yw}(d:Yp)(hd:(d == Z7)=false):
 MeetsIn prog w (Builtin.«dict.values» ⟨[.ref d],[]⟩) (λ_ R s=>s.TypeIs (.ref d) "dict"/\R (.ok (.ret (.ref s.heap.objs.size))) {s with heap:=s.heap.push {cls := .type "dict_values",data := .fields #[.ref d]}}):=
 .of_wp λA R s ⟨hm,h⟩=>by
  refine Ym ?_;unfold Builtin.Dict.noArgs;refine Ym (A08 hm ?_);show Ys _ _ (pure d) _ _ s;refine Yq ?_;show Ys _ _ (Builtin.Dict.showsAll d >>= _) _ _ s;unfold Builtin.Dict.showsAll;rw[iG (by rw[hd];exact VJ)];exact Ym (Yq (Ym (Yz (Yq ⟨_,rfl,h⟩))))
end PySem
namespace L2
open PySem PySem.Spec PyProof.Rows
section
variable{X:Cx}{o:Expr}{apos cpos pos p:Pos}{td:TE}
def UK(td:TE):TE:=λσ H Q=>td σ H λx H1=>∃ a kvs,x = .ref a/\H1 a=some (.dT kvs)/\∀ p,H1 p=none->Q (.ref p) (upd H1 p (.lst (kvs.map (·.2))))
theorem Cz{H:Hp}:∀{kvs:List (List Key×V)} {xs:List (List Key×Yp×Yn)},KT H kvs xs->Vals (kvs.map (·.2)) (xs.map λx=>x.2.2)
 | _,_,.nil => .nil
 | _,_,.cons h r => .cons h.2.2 (Cz r)
theorem Pc(hc:X.calm=true)(hg:Gl X "list")(hm:X.mg "list"=none)(hv:Yx "list"=some (.type "list"))(ho:PE X o td)
 (hbase:Za o "values" X.env (eval o X.env)=eval o X.env:=by rfl) (hline:(apos.endLine == cpos.line)=true:=by rfl)
 (he:Yy [.Call (.Attribute o "values" apos) [] [] cpos] X.env=[(false,eval (.Call (.Attribute o "values" apos) [] [] cpos) X.env)]:=by rfl):
 PE X (.Call (.Name "list" p) [.Call (.Attribute o "values" apos) [] [] cpos] [] pos) (UK td):=by
 intro pq s σ H Q I h;refine ZQ (BE I hg hm hv ?_);refine PyProof.Rows.callWith_type1 (rest:=[]) ?_ he rfl;rw[he];refine Calls.spliced_cons ?_;refine Zz hbase hline (thn (ho pq s σ H _ I h) λv s1 ⟨x,H1,I1,r1,a,kvs,e,hd,q⟩=>?_);subst e;cases r1;obtain⟨hz,hsm,xs,kt,hdo⟩:=MB I1.hok hd;obtain⟨ob,es,ep,hob,hex,hdat,hes,_,_⟩:=id hdo;refine⟨"dict","dict.values",PySem.F.plainAttrs_dict,PySem.F.slot_dict_values,PySem.F.type_dict_values,⟨ob,hob,hex.1⟩,λb eb=>by cases eb;exact⟨ob,hob,hex.2.1⟩,Calls.callWith_builtin rfl (PySem.evalArgs_none ?_)⟩;refine Zm PySem.F.slot_dict_values ⟨ob,hob,hex.1⟩ PySem.F.entry_dict_values (PySem.F.args_dict_values_1 _) (Cb a hsm) ⟨⟨ob,hob,hex.1⟩,?_⟩;refine Calls.spliced_nil ?_
 have hsz:es.size=kvs.length:=by
  have e1:=congrArg XT hes;rw[Wp,VA]at e1;rw[e1];exact(by have:=(Cz kt).length;simpa using this.symm)
 refine PySem.W.kdl_call (A:=X.A) (DZ (es:=es) (ep:=ep)) (I1.ok.hd hc) ⟨⟨_,VV _ rfl,rfl,rfl⟩,ob,VG _ hob,hex,hdat⟩ (by rw[hsz];exact hz) λh' tk acc c k hS hacc=>?_;have I2:Inv X pq σ H1 {s1 with heap:=s1.heap.push {cls := .type "dict_values",data := .fields #[.ref a]}}:=I1.kept (t':=s1.toks) λb ob q=>VG _ q
 have hacc2:acc.toList=xs.map λx=>x.2.2:=by
  have hl:acc.toList.length=(xs.map λx=>x.2.2).length:=by
   rw[Wp,hacc.1,hsz];have:=(Cz kt).length;simpa using this
  refine Wm λj=>?_;by_cases hj:j<acc.toList.length
  ·obtain⟨e1,he1,he2⟩:=hacc.2 j acc.toList[j] (by rw[<-Xq];simp[hj]);have hx:xs[j]?=some (xs[j]'(by rw[VA]at hl;omega)):=by simp
   have he3:es.toList[j]?=some e1:=by rw[Xq];exact he1
   rw[hes,VI,hx]at he3;cases he3;rw[VI,hx];simp only[VE hj,WV];exact congrArg some he2.symm
  ·rw[Vu (by omega),Vu (by omega)]
 refine⟨.ref _,upd H1 _ (.lst (kvs.map (·.2))),I2.laid (t':=tk) (o := .lst (kvs.map (·.2))) k (VH _) ⟨by rw[VA];exact hz,acc.toList,c,by rw[hacc2];exact Cz kt,by rw[Array.toArray_toList];exact hS⟩,rfl,q _ (I2.hok.fresh (VH _))⟩
end
end L2
namespace Rf
open PySem L2
structure GoodA(X:Cx)(rs:List Expr)(w:WA):Prop where
 pa:PA X rs (liftA X.K w)
 m:MonoA w
section
variable{X:Cx}
theorem Kr:GoodA X [] EU:=⟨Ol,.nil⟩
theorem II{x:Expr}{xs:List Expr}{a:WE×WT}{b:WA}(ha:Good X x a)(hb:GoodA X xs b)(hs:c3 x=true):GoodA X (x::xs) (DL a.1 b):=⟨ML ha.m hb.m ha.pe hb.pa (f9 hs),.cons ha.m hb.m⟩
theorem Ks{rs:List Expr}{j:Nat}{p:Pos}{w:WA}(h:GoodA X rs w):Good X (.Tuple rs j p) (tt1 (wn Oo w)) := .one (i8 _ (RZ h.pa) (Oq h.m)) (.n .tup h.m) rfl
theorem Kt{rs:List Expr}{p:Pos}{w:WA}(h:GoodA X rs w):Good X (.List rs p) (tt1 (wn Op w)) := .one (i8 _ (Ra h.pa) (Os h.m)) (.n .lst h.m) rfl
theorem N5{K:V8}{s:Sn}{w:WA}(ms:MonoN s)(m:MonoA w):∀ σ H Q,lift K (wn s w) σ H Q->QV (spS K s) [] E0 (liftA K w) σ H Q:=by
 rintro σ H Q ⟨as,ρ,S,ok,en,h⟩;refine⟨as,ρ,S,ok,en,m _ _ _ _ (λxs S1 hs as1 H1 vs g1 ok1 rv=>?_) h⟩;show spS K s (vs++[]) H1 Q E0;rw[Vy];exact⟨as1,S1,xs,ok1,rv,ms _ _ _ _ (λz S3 hz=>hz.mono g1) hs⟩
theorem IJ{T:List Str}{Δ:Nat->Sn}{k f:Nat}{N:List Str}{sc:Z1}{x:Str}{y:Expr}{ys:List Expr}{p q:Pos}{w:WA}(C:Cok T Δ X k N sc)(hf:T[f]?=some x)(hg:glo sc x=true)(h:GoodA X (y::ys) w)(hy:c3 y=true)(hs:ys.all c3=true):Good X (.Call (.Name x p) (y::ys) [] q) (tt1 (wn (Δ f) w)):=by
 obtain⟨d,ps,hC,hr⟩:=C.call f x hf;obtain⟨fa,fd,F,hm,hk,hb⟩:=hC.ex;unfold glo at hg;simp only[V9,beq_iff_eq,Vi]at hg;have gl:Gl X x:=by show X.env.scope.names.lookup x=_;rw[C.hs];exact hg.1.1
 exact .one (i8 _ (OV F hr gl hm hk hb .nil Tu h.pa hg.2 (f9 hy) (CC hs)) (N5 (C.mono f) h.m)) (.n (C.mono f) h.m) rfl
theorem UL:Yx "abs"=some (.builtin "abs"):=by decide +kernel
theorem Qh:Yx "min"=some (.builtin "min"):=by decide +kernel
theorem N6:Yx "max"=some (.builtin "max"):=by decide +kernel
theorem UM:Yx "len"=some (.builtin "len"):=by decide +kernel
theorem UN:Yx "all"=some (.builtin "all"):=by decide +kernel
theorem Qi:Yx "int"=some (.type "int"):=by decide +kernel
theorem IK:Yx "list"=some (.type "list"):=by decide +kernel
theorem UO:Yx "isinstance"=some (.builtin "isinstance"):=by decide +kernel
theorem Qj:Yx "str"=some (.type "str"):=by decide +kernel
theorem SS:Yx "bool"=some (.type "bool"):=by decide +kernel
theorem JS:Yx "tuple"=some (.type "tuple"):=by decide +kernel
theorem ST:Yx "repr"=some (.builtin "repr"):=by decide +kernel
theorem N7{T:List Str}{Δ:Nat->Sn}{k:Nat}{N:List Str}{sc:Z1}{b:BI}{y:Expr}{ys:List Expr}{p q:Pos}{w:WA}(C:Cok T Δ X k N sc)(hg:glo sc b.name=true)(h:GoodA X (y::ys) w)(hy:c3 y=true)(hs:ys.all c3=true):Good X (.Call (.Name b.name p) (y::ys) [] q) (tt1 (wn (sBi b) w)):=by
 unfold glo at hg;simp only[V9,beq_iff_eq,Vi]at hg;have gl:Gl X b.name:=by show X.env.scope.names.lookup b.name=_;rw[C.hs];exact hg.1.1
 have hm:=C.bl b;have e1:=f9 (es:=ys) (env:=X.env) hy;have e2:=CC (env:=X.env) (pos:=q) hs;refine .one (i8 (t:=tCB (rBi X.K b) (liftA X.K w)) _ ?_ (U4 SG .bi h.m)) (.n .bi h.m) rfl;cases b with
 | len=>exact v3 Ew gl hm UM h.pa (by decide) hg.2 e1 e2
 | abs=>exact v3 Lr gl hm UL h.pa (by decide) hg.2 e1 e2
 | min=>exact v3 (KH C.calm) gl hm Qh h.pa (by decide) hg.2 e1 e2
 | max=>exact v3 (KG C.calm) gl hm N6 h.pa (by decide) hg.2 e1 e2
 | int=>exact Bg KI gl hm Qi h.pa (by decide) hg.2 e1 e2
 | list=>exact Bg Ey gl hm IK h.pa (by decide) hg.2 e1 e2
 | tuple=>exact Bg E3 gl hm JS h.pa (by decide) hg.2 e1 e2
 | all=>exact v3 (KR C.calm) gl hm UN h.pa (by decide) hg.2 e1 e2
 | any=>exact v3 (KZ C.calm) gl hm U1 h.pa (by decide) hg.2 e1 e2
 | sorted=>exact v3 Fo gl hm MA h.pa (by decide) hg.2 e1 e2
 | isi=>exact v3 (call_isi1.or KQ) gl hm UO h.pa (by decide) hg.2 e1 e2
 | repr=>exact v3 (λ_ _ _ _ _ _ _ _ _ h=>False.elim h) gl hm ST h.pa (by decide) hg.2 e1 e2
 | str=>exact Bg (λ_ _ _ _ _ _ _ _ _ h=>False.elim h) gl hm Qj h.pa (by decide) hg.2 e1 e2
theorem Mono.mt{m:MT}{a:WE}{b:WA}(ma:Mono a)(mb:MonoA b):Mono (wMt m a b):=λρ S P P' i h=>ma _ _ _ _ (λx S1 ⟨e,h⟩=>⟨e,mb _ _ _ _ (λxs S2 h=>FE _ _ _ _ i h) h⟩) h
theorem t5{ro:Expr}{nm:Str}{env:Env}{wh:Sem Yn}(h:w6 ro=true):Za ro nm env wh=wh:=by
 unfold Za;split
 ·cases h
 ·rfl
theorem N8{K:V8}{as:List Yp}{H:Hp}{S:Sto}{k:Nat}{v:V}{xs:List SV}(ok:Ok K as H S)(r:Rl K as H v (.loc k))(hs:S[k]?=some (.lst xs)):tyV K "list" v H:=by
 obtain⟨a,vs,rfl,_,h1,_⟩:=t4 ok r hs;exact .inl ⟨rfl,_,SqL.of h1⟩
theorem SU{K:V8}{m:MT}{a:WE}{b:WA}(ma:Mono a)(mb:MonoA b):∀ σ H Q,lift K (wMt m a b) σ H Q->tBM K "list" (rMt m) (lift K a) (liftA K b) σ H Q:=by
 rintro σ H Q ⟨as,ρ,S,ok,en,h⟩;refine⟨as,ρ,S,ok,en,ma _ _ _ _ (λx S1 ⟨⟨j,zs,e,hz⟩,h⟩ as1 H1 v g1 ok1 rv=>?_) h⟩;subst e;refine⟨N8 ok1 rv hz,as1,ρ,S1,ok1,en.mono g1.pre (g1.ku ok),mb _ _ _ _ (λxs S2 h as2 H2 vs g2 ok2 rs=>?_) h⟩;exact MZ ok2 (Rl.mono g2.pre (g2.ku ok1) _ v rv) rs (FE _ _ _ _ (λz S3 hz=>hz.mono (g1.trans g2)) h)
theorem Pd{K:V8}{m:MT}{a:WE}(ma:Mono a):∀ σ H Q,lift K (wMt m a EU) σ H Q->Rg K "list" (rMt m) (lift K a) σ H Q:=by
 rintro σ H Q ⟨as,ρ,S,ok,en,h⟩;refine⟨as,ρ,S,ok,en,ma _ _ _ _ (λx S1 ⟨⟨j,zs,e,hz⟩,h⟩ as1 H1 v g1 ok1 rv=>?_) h⟩;subst e;exact⟨N8 ok1 rv hz,MZ ok1 rv .nil (FE _ _ _ _ (λz S3 hz=>hz.mono g1) h)⟩
theorem N9{m:MT}{ro y:Expr}{ys:List Expr}{ap cp:Pos}{a:WE×WT}{b:WA}(ha:Good X ro a)(hb:GoodA X (y::ys) b)(hn:w6 ro=true)(hl:(ap.endLine == cp.line)=true)(hk:(y::ys).length<29)(hy:c3 y=true)(hs:ys.all c3=true):Good X (.Call (.Attribute ro m.name ap) (y::ys) [] cp) (tt1 (wMt m a.1 b)):=by
 have e1:=f9 (es:=ys) (env:=X.env) hy;have e2:=CC (env:=X.env) (pos:=cp) hs
 have e3:((backTo cp (Yy (y::ys) X.env)).all (λx=>!x.1)&&(Zp cp (ZX [] X.env)).all (λx=>x.1.isSome)
  && decide ((y::ys).length+([]:List Keyword).length+(if ([]:List Keyword).isEmpty then 0 else 1)<30))=true:=by
  rw[EX (by rw[WB,hy,hs];rfl)];simp only[XZ,V9,dQ];exact⟨rfl,by show(y::ys).length+0+0<30;omega⟩
 refine .one (i8 (t:=tBM X.K "list" (rMt m) (lift X.K a.1) (liftA X.K b)) _ ?_ (SU ha.m hb.m)) (.mt ha.m hb.m) rfl;cases m with
 | append=>exact J5 PySem.F.plainAttrs_list PySem.F.slot_list_append PySem.F.type_list_append CS ha.pe hb.pa (t5 hn) e3 hl e1 e2
 | extend=>exact J5 PySem.F.plainAttrs_list PySem.F.slot_list_extend PySem.F.type_list_extend EO ha.pe hb.pa (t5 hn) e3 hl e1 e2
 | insert=>exact J5 PySem.F.plainAttrs_list PySem.F.slot_list_insert PySem.F.type_list_insert ER ha.pe hb.pa (t5 hn) e3 hl e1 e2
 | reverse=>exact J5 PySem.F.plainAttrs_list PySem.F.slot_list_reverse PySem.F.type_list_reverse DC ha.pe hb.pa (t5 hn) e3 hl e1 e2
theorem Ku{m:MT}{ro:Expr}{ap cp:Pos}{a:WE×WT}(ha:Good X ro a)(hn:w6 ro=true)(hl:(ap.endLine == cp.line)=true):Good X (.Call (.Attribute ro m.name ap) [] [] cp) (tt1 (wMt m a.1 EU)):=by
 refine .one (i8 (t:=Rg X.K "list" (rMt m) (lift X.K a.1)) _ ?_ (Pd ha.m)) (.mt ha.m .nil) rfl;cases m with
 | append=>exact Ez PySem.F.plainAttrs_list PySem.F.slot_list_append PySem.F.type_list_append CS ha.pe (t5 hn) hl
 | extend=>exact Ez PySem.F.plainAttrs_list PySem.F.slot_list_extend PySem.F.type_list_extend EO ha.pe (t5 hn) hl
 | insert=>exact Ez PySem.F.plainAttrs_list PySem.F.slot_list_insert PySem.F.type_list_insert ER ha.pe (t5 hn) hl
 | reverse=>exact Ez PySem.F.plainAttrs_list PySem.F.slot_list_reverse PySem.F.type_list_reverse DC ha.pe (t5 hn) hl
theorem Kv{T:List Str}{Δ:Nat->Sn}{k:Nat}{N:List Str}{sc:Z1}{t:TyN}{p:Pos}(C:Cok T Δ X k N sc)(hg:glo sc (Str.ofString t.nm)=true)(ht:t ≠ .none):Good X (.Name (Str.ofString t.nm) p) (tt1 (wC (.ty t))):=by
 unfold glo at hg;simp only[V9,beq_iff_eq,Vi]at hg;have gl:Gl X (Str.ofString t.nm):=by show X.env.scope.names.lookup _=_;rw[C.hs];exact hg.1.1
 have b:Yx (Str.ofString t.nm)=some (.type t.nm):=by cases t<;>first | exact Qi | exact SS | exact Qj | exact IK | exact JS | exact absurd rfl ht
 exact .one (i8 _ (OL (v := .ty t.nm) gl (C.ty t ht) b rfl (by cases t<;>first | decide | exact absurd rfl ht) hg.2) (Fx λ_ _=>rl_ty.mpr rfl)) .c rfl
theorem EY{a:WE}(m:Mono a):Mono (Mk a):=λρ S P P' i h=>m _ _ _ _ (λx S1 ⟨k,ns,a,b,c,q⟩=>⟨k,ns,a,b,c,λm g=>i _ _ (q m g)⟩) h
theorem EZ{a d:WE}(m:Mono a)(m':Mono d):Mono (Mn a d):=λρ S P P' i h=>m _ _ _ _ (λx S1 h=>m' _ _ _ _ (λy S2 ⟨k,ns,z,a,b,c,q0,q⟩=>⟨k,ns,z,a,b,c,λe=>i _ _ (q0 e),λm g=>i _ _ (q m g)⟩) h) h
theorem RlD.length{K:V8}{as:List Yp}{H:Hp}:∀{kvs:List (Int×SV)} {ks:List (Key×V)},RlD K as H ks kvs->ks.length=kvs.length
 | [],_,h=>by rw[show _=[] from h];rfl
 | p::r,_,⟨v,t,e,_,h⟩=>by rw[e,Vb,Vb,RlD.length h]
theorem RlAll.perm{K:V8}{as:List Yp}{H:Hp}{ws ws':List V}(p:ws'.Perm ws):∀{xs:List SV},RlAll K as H ws xs->∃ xs',RlAll K as H ws' xs'/\xs'.Perm xs:=by
 induction p with
 | nil=>exact λ{xs} r=>⟨xs,r,.refl _⟩
 | cons v _ ih=>
   intro xs r;cases xs with
   | nil=>exact absurd (show _::_=[] from r) (Xd _ _)
   | cons x xs=>
     obtain⟨_,_,e,r1,r2⟩:=r;cases e;obtain⟨xs',r',p'⟩:=ih r2;exact⟨x::xs',⟨_,_,rfl,r1,r'⟩,.cons _ p'⟩
 | swap u v l=>
   intro xs r;cases xs with
   | nil=>exact absurd (show _::_=[] from r) (Xd _ _)
   | cons x xs=>
     obtain⟨_,_,e,r1,r2⟩:=r;cases e;cases xs with
     | nil=>exact absurd (show _::_=[] from r2) (Xd _ _)
     | cons y xs=>
       obtain⟨_,_,e,r3,r4⟩:=r2;cases e;exact⟨y::x::xs,⟨_,_,rfl,r3,_,_,rfl,r1,r4⟩,.swap ..⟩
 | trans _ _ ih1 ih2=>
   intro xs r;obtain⟨x2,r2,p2⟩:=ih2 r;obtain⟨x1,r1,p1⟩:=ih1 r2;exact⟨x1,r1,p1.trans p2⟩
theorem IL{T:List Str}{Δ:Nat->Sn}{k:Nat}{N:List Str}{sc:Z1}{r:Expr}{p q:Pos}{a:WE×WT}(C:Cok T Δ X k N sc)(hg:glo sc "max"=true)(ha:Good X r a)(hs:c3 r=true):Good X (.Call (.Name "max" p) [r] [] q) (tt1 (Mk a.1)):=by
 unfold glo at hg;simp only[V9,beq_iff_eq,Vi]at hg;have gl:Gl X "max":=by show X.env.scope.names.lookup ("max":Str)=_;rw[C.hs];exact hg.1.1
 refine .one (i8 _ (v3 (Kg C.calm) gl (C.bl .max) N6 (y1 ha.pe Az (f9 hs)) (by decide) hg.2 (f9 hs) rfl) ?_) (EY ha.m) rfl;rintro σ H Q ⟨as,ρ,S,ok,en,h⟩;refine⟨as,ρ,S,ok,en,ha.m _ _ _ _ (λx S1 ⟨k,ns,e0,h1,h2,q⟩ as1 H1 v g1 ok1 rv=>?_) h⟩;subst e0;obtain⟨a,us,rfl,ea,ha,rr⟩:=t4 ok1 rv h1;rw[FD rr]at ha;exact⟨a,ns,rfl,ha,h2,λm g=>q m g as1 H1 _ g1 ok1 (rl_int.mpr rfl)⟩
theorem IM{T:List Str}{Δ:Nat->Sn}{k:Nat}{N:List Str}{sc:Z1}{r u:Expr}{p q kp:Pos}{a d:WE×WT}(C:Cok T Δ X k N sc)(hg:glo sc "max"=true)(ha:Good X r a)(hd:Good X u d)(hs:c3 r=true):Good X (.Call (.Name "max" p) [r] [⟨some "default",u,kp⟩] q) (tt1 (Mn a.1 d.1)):=by
 unfold glo at hg;simp only[V9,beq_iff_eq,Vi]at hg;have gl:Gl X "max":=by show X.env.scope.names.lookup ("max":Str)=_;rw[C.hs];exact hg.1.1
 refine .one (i8 _ (EV (Kf C.calm) gl (C.bl .max) N6 (y1 ha.pe Az (f9 hs)) (Iz hd.pe Ls) rfl (by decide) hg.2 (by rw[f9 hs];rfl) (by rw[f9 hs];rfl) rfl rfl) ?_) (EZ ha.m hd.m) rfl;rintro σ H Q ⟨as,ρ,S,ok,en,h⟩;refine⟨as,ρ,S,ok,en,ha.m _ _ _ _ (λx S1 h as1 H1 v g1 ok1 rv=>?_) h⟩;have en1:=en.mono g1.pre (g1.ku ok);refine⟨as1,ρ,S1,ok1,en1,hd.m _ _ _ _ (λy S2 ⟨k,ns,i,e0,e1,h1,q0,q⟩ as2 H2 v2 g2 ok2 rv2=>?_) h⟩;subst e0;subst e1;rw[rl_int]at rv2;obtain⟨a,us,ev,ea,ha,rr⟩:=t4 ok2 (Rl.mono g2.pre (g2.ku ok1) _ _ rv) h1;rw[FD rr]at ha;exact⟨a,ns,i,by rw[ev],by rw[rv2],ha,λe=>q0 e as2 H2 _ (g1.trans g2) ok2 (rl_int.mpr rfl),λm g=>q m g as2 H2 _ (g1.trans g2) ok2 (rl_int.mpr rfl)⟩
end
section
variable{K:V8}{as:List Yp}{H:Hp}{S:Sto}
theorem RlD.get:∀{kvs:List (Int×SV)} {ks:List (Key×V)} {i:Nat} {p:Int×SV},RlD K as H ks kvs->kvs[i]?=some p->∃ v,ks[i]?=some (.inl p.1,v)
 | q::r,_,0,p,⟨v,t,e,_,_⟩,hp=>by cases hp;subst e;exact⟨v,rfl⟩
 | q::r,_,i+1,p,⟨v,t,e,_,h⟩,hp=>by
   subst e;obtain⟨u,hu⟩:=RlD.get (i:=i) h (show r[i]?=some p from hp);exact⟨u,hu⟩
theorem RlD.val:∀{kvs:List (Int×SV)} {ks:List (Key×V)},RlD K as H ks kvs->∀ i,(∃ x v,CZ kvs i=some x/\w4 ks (.inl i)=some v/\Rl K as H v x)\/(CZ kvs i=none/\w4 ks (.inl i)=none)
 | [],_,h,i=>by rw[show _=[] from h];exact .inr ⟨rfl,rfl⟩
 | p::r,_,⟨v,t,e,h1,h2⟩,i=>by
   subst e;by_cases hp:p.1=i
   ·refine .inl ⟨p.2,v,?_,?_,h1⟩
    ·unfold CZ;rw[Xk (by simp[hp])];rfl
    ·unfold w4;rw[Xk (by simp[hp])];rfl
   ·have e1:CZ (p::r) i=CZ r i:=by unfold CZ;rw[Xl (by simp[hp])]
    have e2:w4 ((Sum.inl p.1,v)::t) (Sum.inl i)=w4 t (Sum.inl i):=by unfold w4;rw[Xl (by simp[hp])]
    rw[e1,e2];exact RlD.val h2 i
theorem RlD.any:∀{kvs:List (Int×SV)} {ks:List (Key×V)},RlD K as H ks kvs->∀ i,(ks.any λkv=>decide (kv.1=Sum.inl i))=kvs.any λp=>decide (p.1=i)
 | [],_,h,i=>by rw[show _=[] from h];rfl
 | p::r,_,⟨v,t,e,h1,h2⟩,i=>by
   subst e;rw[WC,WC,RlD.any h2 i]
   congr 1
   simp
theorem RlD.set{v:V}{x:SV}(rv:Rl K as H v x):∀{kvs:List (Int×SV)} {ks:List (Key×V)},RlD K as H ks kvs->∀ i,RlD K as H (ks.map λkv=>if kv.1=Sum.inl i then (kv.1,v) else kv) (kvs.map λp=>if p.1=i then (p.1,x) else p)
 | [],_,h,i=>by rw[show _=[] from h];rfl
 | p::r,_,⟨u,t,e,h1,h2⟩,i=>by
   subst e;rw[Vk,Vk];by_cases hp:p.1=i
   ·rw[iP hp,iP (by rw[hp])];exact⟨v,_,rfl,rv,RlD.set rv h2 i⟩
   ·rw[iG hp,iG (λz=>hp (Sum.inl.inj z))];exact⟨u,_,rfl,h1,RlD.set rv h2 i⟩
theorem RlD.snoc{v:V}{x:SV}(rv:Rl K as H v x)(i:Int):∀{kvs:List (Int×SV)} {ks:List (Key×V)},RlD K as H ks kvs->RlD K as H (ks++[(Sum.inl i,v)]) (kvs++[(i,x)])
 | [],_,h=>by rw[show _=[] from h];exact⟨v,[],rfl,rv,rfl⟩
 | p::r,_,⟨u,t,e,h1,h2⟩=>by subst e;exact⟨u,_,rfl,h1,RlD.snoc rv i h2⟩
theorem RlD.put{kvs:List (Int×SV)}{ks:List (Key×V)}{v:V}{x:SV}(h:RlD K as H ks kvs)(rv:Rl K as H v x)(i:Int):RlD K as H (Aa ks (Sum.inl i) v) (Qg kvs i x):=by
 unfold Aa Qg;rw[h.any i];by_cases z:(kvs.any λp=>decide (p.1=i))=true
 ·rw[iP z,iP z];exact h.set rv i
 ·rw[iG z,iG z];exact h.snoc rv i
theorem SW{x:SV}{v:V}{kvs:List (Int×SV)}(ok:Ok K as H S)(r:Rl K as H v x)(h:PH x S=some kvs):∃ a k ks,x = .loc k/\v = .ref a/\as[k]?=some a/\Rd H a (.dK ks)/\RlD K as H ks kvs:=by
 cases x with
 | loc k=>
   obtain⟨a,ea,rfl⟩:=rl_loc.mp r;unfold PH at h;cases hs:S[k]? with
   | none=>simp only[hs]at h;cases h
   | some o=>
     have ro:=ok.obj k o a hs ea;cases o with
     | lst _=>simp only[hs]at h;cases h
     | iset _=>simp only[hs]at h;cases h
     | dtl _=>simp only[hs]at h;cases h
     | dtf _ _ _=>simp only[hs]at h;cases h
     | dtp _=>simp only[hs]at h;cases h
     | dct kv=>simp only[hs]at h;cases h;obtain⟨ks,h1,h2⟩:=ro;exact⟨a,k,ks,rfl,rfl,ea,.inl h1,h2⟩
     | dcf o ks kv=>simp only[hs]at h;cases h;exact⟨a,k,ks,rfl,rfl,ea,.inr ⟨o,ro.1⟩,ro.2⟩
 | _=>cases h
theorem Cc:Mono2 JJ:=λx y S P P' i ⟨kvs,j,v,a,b,c,q⟩=>⟨kvs,j,v,a,b,c,i _ _ q⟩
theorem NA:BM K JJ (λx y H Q=>∃ a v,x = .ref a/\DGet H a y (some v)/\Q v H):=λas H S x y v u Q ok rx ry h=>by
 obtain⟨kvs,i,w,h1,rfl,h2,q⟩:=h;obtain⟨a,k,ks,rfl,rfl,ea,rd,rr⟩:=SW ok rx h1;rw[rl_int]at ry;subst ry;rcases rr.val i with⟨x',v',e1,e2,r'⟩ | ⟨e1,_⟩
 ·rw[h2]at e1;cases e1;exact⟨a,v',rfl,.inl ⟨ks,.inl i,rd,rfl,e2.symm⟩,q.here ok r'⟩
 ·rw[h2]at e1;cases e1
end
section
variable{X:Cx}
theorem Cd:Mono Mp:=λρ S P P' i h=>i _ _ h
theorem IN{p:Pos}:Good X (.Dict [] [] p) (tt1 Mp):=
 .one (i8 _ MF (λσ H Q ⟨as,ρ,S,ok,en,h⟩=>λl hl=>h _ _ _ (Go.push hl) (ok.pushO hl ⟨[],m9,rfl⟩) (rl_loc.mpr ⟨l,by rw[<-ok.len];exact Vd,rfl⟩))) Cd rfl
theorem IO{x y:Expr}{p:Pos}{a b:WE×WT}(hu:X.A.units+1<cLine)(ha:Good X x a)(hb:Good X y b)(h:t8 y=true):Good X (.Subscript x y p) (tt1 (w2 JJ a.1 b.1)):=
 .one (i8 _ (Of hu ha.pe hb.pe (DX h)) (B2 NA Cc ha.m hb.m)) (.two Cc ha.m hb.m) rfl
end
theorem RlD.vals{K:V8}{as:List Yp}{H:Hp}:∀{kvs:List (Int×SV)} {ks:List (Key×V)},RlD K as H ks kvs->RlAll K as H (ks.map (·.2)) (kvs.map (·.2))
 | [],_,h=>by rw[show _=[] from h];rfl
 | p::r,_,⟨v,t,e,a,h⟩=>by rw[e];exact⟨v,_,rfl,a,RlD.vals h⟩
theorem RlD.at{K:V8}{as:List Yp}{H:Hp}:∀{kvs:List (Int×SV)} {ks:List (Key×V)} {i:Nat} {p:Int×SV},RlD K as H ks kvs->kvs[i]?=some p->∃ v,ks[i]?=some (.inl p.1,v)/\Rl K as H v p.2
 | [],_,i,p,_,hp=>by simp at hp
 | p::r,_,0,_,⟨v,t,e,a,h⟩,hp=>by cases hp;exact⟨v,by rw[e];rfl,a⟩
 | p::r,_,i+1,_,⟨v,t,e,a,h⟩,hp=>by
   obtain⟨u,hu,ru⟩:=RlD.at (i:=i) h hp;exact⟨u,by rw[e];exact hu,ru⟩
theorem Ea{a d:WE}(m:Mono a)(m':Mono d):Mono (Ml a d):=λρ S P P' i h=>m _ _ _ _ (λx S1 h=>m' _ _ _ _ (λy S2 ⟨k,ps,a,b,c,q0,q⟩=>⟨k,ps,a,b,c,λe=>i _ _ (q0 e),λp hp=>i _ _ (q p hp)⟩) h) h
theorem Eb{d e v:WE}(m:Mono d)(m1:Mono e)(m2:Mono v):Mono (Mm d e v):=λρ S P P' i h=>m _ _ _ _ (λx S1 ⟨k,kv0,a,b,h⟩=>⟨k,kv0,a,b,m1 _ _ _ _ (λy S2 h=>m2 _ _ _ _ (λz S3 ⟨i1,j,m,kvs,a,b,c,d,q0,q1⟩=>⟨i1,j,m,kvs,a,b,c,d,λn e=>i _ _ (q0 n e),λe=>i _ _ (q1 e)⟩) h) h⟩) h
theorem C0:Mono IC:=λρ S P P' i h=>i _ _ h
theorem GM{X:Cx}{p:Pos}:Good X (.Dict [] [] p) (tt1 IC):=
 .one (i8 _ Fv (λσ H Q ⟨as,ρ,S,ok,en,h⟩=>λl hl=>h _ _ _ (Go.push hl) (ok.pushO hl (show RlO _ _ _ _ (.dtp []) from m9)) (rl_loc.mpr ⟨l,by rw[<-ok.len];exact Vd,rfl⟩))) C0 rfl
theorem FK(k:Int×Int):∀ kvs:List ((Int×Int)×Int),w4 (dtV kvs) [.inl k.1,.inl k.2]=(dpv kvs k).map V.int
 | []=>rfl
 | p::r=>by
   have ih:=FK k r;by_cases e:p.1=k
   ·rw[show dtV (p::r)=([.inl p.1.1,.inl p.1.2],V.int p.2)::dtV r from rfl,BK (by rw[e])];unfold dpv;rw[Vh,decide_eq_true e];rfl
   ·rw[show dtV (p::r)=([.inl p.1.1,.inl p.1.2],V.int p.2)::dtV r from rfl,BL (λz=>e (by
     have z:([.inl p.1.1,.inl p.1.2]:List Key)=[.inl k.1,.inl k.2]:=z;injection z with z1 z2;injection z2 with z2 _;injection z1 with z1;injection z2 with z2;exact Prod.ext z1 z2)),ih]
    unfold dpv;rw[Vh,decide_eq_false e]
theorem IP{X:Cx}{ro r r2:Expr}{ap cp:Pos}{d e v:WE×WT}(hu:X.A.units+1<cLine)(hd:Good X ro d)(he:Good X r e)(hv:Good X r2 v)(hn:w6 ro=true)(hl:(ap.endLine == cp.line)=true)(hs:c3 r=true)(hs2:c3 r2=true):Good X (.Call (.Attribute ro "setdefault" ap) [r,r2] [] cp) (tt1 (Mm d.1 e.1 v.1)):=by
 refine .one (i8 _ (P5 hu hd.pe he.pe hv.pe ⟨t5 hn,by rw[f9 hs,f9 hs2];rfl,hl,by rw[f9 hs,f9 hs2];rfl⟩) ?_) (Eb hd.m he.m hv.m) rfl;rintro σ H Q ⟨as,ρ,S,ok,en,h⟩;refine⟨as,ρ,S,ok,en,hd.m _ _ _ _ (λx S1 ⟨k,kv0,e0,hk,h⟩ as1 H1 w g1 ok1 rw1=>?_) h⟩;subst e0;obtain⟨a,ea,rfl⟩:=rl_loc.mp rw1;have h1:H1 a=some (.dT (dtV kv0)):=ok1.obj k _ a hk ea;have en1:=en.mono g1.pre (g1.ku ok);refine⟨a,rfl,.inr ⟨_,.inl h1⟩,as1,ρ,S1,ok1,en1,he.m _ _ _ _ (λy S2 h as2 H2 w2 g2 ok2 rw2=>?_) h⟩;refine⟨as2,ρ,S2,ok2,en1.mono g2.pre (g2.ku ok1),hv.m _ _ _ _ (λz S3 ⟨i,j,m,kvs,e1,e2,hk3,hb,q0,q1⟩ as3 H3 w3 g3 ok3 rw3=>?_) h⟩;subst e1;subst e2;have ea3:=B1 g3.pre (B1 g2.pre ea);have h3:H3 a=some (.dT (dtV kvs)):=ok3.obj k _ a hk3 ea3;obtain⟨p,vs,rfl,hp,rp⟩:=rl_tup.mp (Rl.mono g3.pre (g3.ku ok2) _ _ rw2);obtain⟨u1,u2,rfl,r1,r2⟩:=I0 rp;rw[rl_int]at r1 r2 rw3;subst r1;subst r2;subst rw3;have G:=g1.trans (g2.trans g3);have len:(dtV kvs).length=kvs.length:=VA ..;refine⟨dtV kvs,[.inl i,.inl j],p,rfl,h3,hp,by rw[len];exact Vg hb (y7 (VH _)),λu hu'=>?_,λhu'=>?_⟩
 ·rw[FK (i,j)]at hu';obtain⟨n,hn',rfl⟩:=Xj.mp hu';exact q0 n hn' as3 H3 _ G ok3 (rl_int.mpr rfl)
 ·have hu2:=hu';rw[FK (i,j)]at hu';have e:dpv kvs (i,j)=none:=WR.mp hu';rw[Fp _ hu2]
  obtain⟨ok4,ku⟩:=ok3.writeO (x := .dtp (kvs++[((i,j),m)])) (u := .dT (dtV kvs++[([.inl i,.inl j],V.int m)])) hk3 ea3 (λ_=>by
   show upd _ _ _ a=some (.dT (dtV (kvs++[((i,j),m)])));rw[m9];unfold dtV;rw[VR];rfl)
  exact q1 e as3 _ _ (G.trans (Go.write (VC ea3))) ok4 (rl_int.mpr rfl)
theorem IQ{X:Cx}{T:List Str}{Δ:Nat->Sn}{k:Nat}{N:List Str}{sc:Z1}{r u:Expr}{p q kp:Pos}{a d:WE×WT}(hu:X.A.units+1<cLine)(C:Cok T Δ X k N sc)(hg:glo sc "min"=true)(ha:Good X r a)(hd:Good X u d)(hs:c3 r=true):Good X (.Call (.Name "min" p) [r] [⟨some "default",u,kp⟩] q) (tt1 (Ml a.1 d.1)):=by
 unfold glo at hg;simp only[V9,beq_iff_eq,Vi]at hg;have gl:Gl X "min":=by show X.env.scope.names.lookup ("min":Str)=_;rw[C.hs];exact hg.1.1
 refine .one (i8 _ (EV (Ke C.calm hu) gl (C.bl .min) Qh (y1 ha.pe Az (f9 hs)) (Iz hd.pe Ls) rfl (by decide) hg.2 (by rw[f9 hs];rfl) (by rw[f9 hs];rfl) rfl rfl) ?_) (Ea ha.m hd.m) rfl;rintro σ H Q ⟨as,ρ,S,ok,en,h⟩;refine⟨as,ρ,S,ok,en,ha.m _ _ _ _ (λx S1 h as1 H1 v g1 ok1 rv=>?_) h⟩;have en1:=en.mono g1.pre (g1.ku ok);refine⟨as1,ρ,S1,ok1,en1,hd.m _ _ _ _ (λy S2 ⟨k,ps,e0,e1,h1,q0,q⟩ as2 H2 v2 g2 ok2 rv2=>?_) h⟩;subst e0;subst e1;rw[rl_non]at rv2;obtain⟨a,us,ev,ea,ha,rr⟩:=t4 ok2 (Rl.mono g2.pre (g2.ku ok1) _ _ rv) h1;have G:=g1.trans g2;refine⟨a,us,ps,by rw[ev],by rw[rv2],ha,⟨by rw[rr.length,VA],λi p hp=>?_⟩,λe=>q0 e as2 H2 _ G ok2 (rl_non.mpr rfl),λi p q' hp hq' _ _=>?_⟩
 ·obtain⟨v,hv,rv⟩:=rr.get (show(ps.map λp:Int×Int=>SV.tup [.int p.1,.int p.2])[i]?=some (SV.tup [.int p.1,.int p.2]) by rw[VI,hp];rfl);obtain⟨t,vs,rfl,ht,rt⟩:=rl_tup.mp rv;obtain⟨u1,u2,rfl,r1,r2⟩:=I0 rt;rw[rl_int]at r1 r2;subst r1;subst r2;exact⟨t,hv,ht⟩
 ·obtain⟨v,hv,rv⟩:=rr.get (show(ps.map λp:Int×Int=>SV.tup [.int p.1,.int p.2])[i]?=some (SV.tup [.int p.1,.int p.2]) by rw[VI,hp];rfl);rw[hq']at hv;cases hv;exact q p (VC hp) as2 H2 _ G ok2 rv
section
variable{K:V8}{as:List Yp}{H:Hp}{S:Sto}
theorem RlT.length:∀{kvs:List (List Int×SV)} {us:List (List Key×V)},RlT K as H us kvs->us.length=kvs.length
 | [],_,h=>by rw[show _=_ from h];rfl
 | p::r,_,⟨v,t,e,_,h2⟩=>by rw[e,Vb,Vb,h2.length]
theorem RlT.get:∀{kvs:List (List Int×SV)} {us:List (List Key×V)} {i:Nat} {p:List Int×SV},RlT K as H us kvs->kvs[i]?=some p->∃ v,us[i]?=some (p.1.map Sum.inl,v)
 | [],_,_,_,_,h=>by simp at h
 | p::r,_,0,_,⟨v,t,e,_,h2⟩,h=>by
   simp at h;subst h;rw[e];exact⟨v,rfl⟩
 | p::r,_,i+1,_,⟨v,t,e,_,h2⟩,h=>by
   rw[e];obtain⟨v,hv⟩:=h2.get (i:=i) (by simpa using h);exact⟨v,by simpa using hv⟩
theorem D0:∀{a b:List Int},a.map (Sum.inl:Int->Key)=b.map Sum.inl->a=b
 | [],[],_=>rfl
 | [],_::_,h=>by simp at h
 | _::_,[],h=>by simp at h
 | a::x,b::y,h=>by
   rw[Vk,Vk]at h;injection h with h1 h2;injection h1 with h1;rw[h1,D0 h2]
theorem RlT.val(k:List Int):∀{kvs:List (List Int×SV)} {us:List (List Key×V)},RlT K as H us kvs->(∃ x v,DQ kvs k=some x/\w4 us (k.map Sum.inl)=some v/\Rl K as H v x)\/(DQ kvs k=none/\w4 us (k.map Sum.inl)=none)
 | [],_,h=>by rw[show _=_ from h];exact .inr ⟨rfl,rfl⟩
 | p::r,_,⟨v,t,e,h1,h2⟩=>by
   rw[e];by_cases z:p.1=k
   ·refine .inl ⟨p.2,v,?_,BK (by rw[z]),h1⟩;unfold DQ;rw[Vh,decide_eq_true z];rfl
   ·rw[BL (λy=>z (D0 y)),show DQ (p::r) k=DQ r k by unfold DQ;rw[Vh,decide_eq_false z]];exact RlT.val k h2
theorem RlT.snoc{k:List Int}{v:V}{x:SV}(rv:Rl K as H v x):∀{kvs:List (List Int×SV)} {us:List (List Key×V)},RlT K as H us kvs->RlT K as H (us++[(k.map Sum.inl,v)]) (kvs++[(k,x)])
 | [],_,h=>by rw[show _=_ from h];exact⟨v,[],rfl,rv,rfl⟩
 | p::r,_,⟨w,t,e,h1,h2⟩=>by rw[e];exact⟨w,_,rfl,h1,h2.snoc rv⟩
theorem GN{v:V}{ks:List Int}(r:Rl K as H v (.tup (ks.map SV.int))):∃ p,v = .ref p/\H p=some (.tup ((ks.map Sum.inl).map kV)):=by
 obtain⟨p,vs,rfl,hp,rp⟩:=rl_tup.mp r
 have go:∀{ks:List Int} {vs:List V},RlAll K as H vs (ks.map SV.int)->vs=(ks.map Sum.inl).map kV:=by
  intro ks
  induction ks with
  | nil=>intro vs h;exact rla_nil.mp h
  | cons a ks ih=>
    intro vs h;obtain⟨v,t,rfl,h1,h2⟩:=rla_cons.mp h;rw[rl_int.mp h1,ih h2];rfl
 exact⟨p,rfl,by rw[<-go rp];exact hp⟩
end
theorem C1:Mono ID:=λρ S P P' i h=>i _ _ h
theorem GO{X:Cx}{p:Pos}:Good X (.Dict [] [] p) (tt1 ID):=
 .one (i8 _ Fv (λσ H Q ⟨as,ρ,S,ok,en,h⟩=>λl hl=>h _ _ _ (Go.push hl) (ok.pushO hl ⟨[],m9,rfl⟩) (rl_loc.mpr ⟨l,by rw[<-ok.len];exact Vd,rfl⟩))) C1 rfl
theorem Ec{a:WE}(m:Mono a):Mono (Mj a):=λρ S P P' i h=>m _ _ _ _ (λx S1 ⟨k,ns,a,q⟩=>⟨k,ns,a,i _ _ q⟩) h
theorem IR{X:Cx}{T:List Str}{Δ:Nat->Sn}{k:Nat}{N:List Str}{sc:Z1}{r:Expr}{p q:Pos}{a:WE×WT}(C:Cok T Δ X k N sc)(hg:glo sc "sum"=true)(ha:Good X r a)(hs:c3 r=true):Good X (.Call (.Name "sum" p) [r] [] q) (tt1 (Mj a.1)):=by
 unfold glo at hg;simp only[V9,beq_iff_eq,Vi]at hg;have gl:Gl X "sum":=by show X.env.scope.names.lookup ("sum":Str)=_;rw[C.hs];exact hg.1.1
 refine .one (i8 _ (v3 (KY C.calm) gl C.sm0 U0 (y1 ha.pe Az (f9 hs)) (by decide) hg.2 (f9 hs) rfl) ?_) (Ec ha.m) rfl;rintro σ H Q ⟨as,ρ,S,ok,en,h⟩;refine⟨as,ρ,S,ok,en,ha.m _ _ _ _ (λx S1 ⟨i,j,e0,q⟩ as1 H1 v g1 ok1 rv=>?_) h⟩;subst e0;obtain⟨p,vs,rfl,hp,rp⟩:=rl_tup.mp rv;obtain⟨u1,u2,rfl,r1,r2⟩:=I0 rp;rw[rl_int]at r1 r2;subst r1;subst r2;exact⟨p,i,j,rfl,SqT.of hp,q as1 H1 _ g1 ok1 (rl_int.mpr rfl)⟩
section
variable{K:V8}{as:List Yp}{H:Hp}
theorem RlT.any:∀{kvs:List (List Int×SV)} {us:List (List Key×V)},RlT K as H us kvs->∀ k,(us.any λkv=>decide (kv.1=k.map Sum.inl))=kvs.any λp=>decide (p.1=k)
 | [],_,h,k=>by rw[show _=_ from h];rfl
 | p::r,_,⟨v,t,e,_,h2⟩,k=>by
   rw[e,WC,WC,RlT.any h2 k];by_cases z:p.1=k
   ·rw[decide_eq_true z,decide_eq_true (show _=_ by rw[z])]
   ·rw[decide_eq_false z,decide_eq_false (λy=>z (D0 y))]
theorem RlT.set{v:V}{x:SV}(rv:Rl K as H v x):∀{kvs:List (List Int×SV)} {us:List (List Key×V)},RlT K as H us kvs->∀ k:List Int,RlT K as H (us.map λkv=>if kv.1=k.map Sum.inl then (kv.1,v) else kv) (kvs.map λp=>if p.1=k then (p.1,x) else p)
 | [],_,h,k=>by rw[show _=_ from h];rfl
 | p::r,_,⟨w,t,e,h1,h2⟩,k=>by
   rw[e,Vk,Vk];by_cases z:p.1=k
   ·rw[iP z,iP (by rw[z])];exact⟨v,_,rfl,rv,RlT.set rv h2 k⟩
   ·rw[iG z,iG (λy=>z (D0 y))];exact⟨w,_,rfl,h1,RlT.set rv h2 k⟩
theorem RlT.put{kvs:List (List Int×SV)}{us:List (List Key×V)}{v:V}{x:SV}(h:RlT K as H us kvs)(rv:Rl K as H v x)(k:List Int):RlT K as H (Aa us (k.map Sum.inl) v) (EW kvs k x):=by
 unfold Aa EW;rw[h.any k];split
 ·exact h.set rv k
 ·exact h.snoc rv
theorem RlT.vals:∀{kvs:List (List Int×SV)} {us:List (List Key×V)},RlT K as H us kvs->RlAll K as H (us.map (·.2)) (kvs.map (·.2))
 | [],_,h=>by rw[show _=[] from h];rfl
 | p::r,_,⟨v,t,e,a,h⟩=>by rw[e];exact⟨v,_,rfl,a,RlT.vals h⟩
end
theorem Cn{d e v:WE}(m:Mono d)(m1:Mono e)(m2:Mono v):Mono (FF d e v):=λρ S P P' i h=>m _ _ _ _ (λx S1 ⟨k,kv0,a,b,h⟩=>⟨k,kv0,a,b,m1 _ _ _ _ (λy S2 h=>m2 _ _ _ _ (λz S3 ⟨ks,kvs,a,b,q⟩=>⟨ks,kvs,a,b,i _ _ q⟩) h) h⟩) h
theorem Da{d e v:WE}(m:Mono d)(m1:Mono e)(m2:Mono v):Mono (IB d e v):=λρ S P P' i h=>m _ _ _ _ (λx S1 ⟨k,kv0,a,b,h⟩=>⟨k,kv0,a,b,m1 _ _ _ _ (λy S2 h=>m2 _ _ _ _ (λz S3 ⟨ks,kvs,a,b,c,q0,q1⟩=>⟨ks,kvs,a,b,c,λn e=>i _ _ (q0 n e),λe=>i _ _ (q1 e)⟩) h) h⟩) h
theorem Co{a:WE}(m:Mono a):Mono (FG a):=λρ S P P' i h=>m _ _ _ _ (λx S1 ⟨k,kvs,a,b,q⟩=>⟨k,kvs,a,b,i _ _ q⟩) h
theorem FL{X:Cx}{ro r r2:Expr}{ap cp:Pos}{d e v:WE×WT}(hu:X.A.units+1<cLine)(hd:Good X ro d)(he:Good X r e)(hv:Good X r2 v)(hn:w6 ro=true)(hl:(ap.endLine == cp.line)=true)(hs:c3 r=true)(hs2:c3 r2=true):Good X (.Call (.Attribute ro "get" ap) [r,r2] [] cp) (tt1 (FF d.1 e.1 v.1)):=by
 refine .one (i8 _ (MG hu hd.pe he.pe hv.pe ⟨t5 hn,by rw[f9 hs,f9 hs2];rfl,hl,by rw[f9 hs,f9 hs2];rfl⟩) ?_) (Cn hd.m he.m hv.m) rfl;rintro σ H Q ⟨as,ρ,S,ok,en,h⟩;refine⟨as,ρ,S,ok,en,hd.m _ _ _ _ (λx S1 ⟨k,kv0,e0,hk,h⟩ as1 H1 w g1 ok1 rw1=>?_) h⟩;subst e0;obtain⟨a,ea,rfl⟩:=rl_loc.mp rw1;obtain⟨us0,h1,_⟩:=ok1.obj k _ a hk ea;have en1:=en.mono g1.pre (g1.ku ok);refine⟨a,rfl,.inr ⟨_,.inl h1⟩,as1,ρ,S1,ok1,en1,he.m _ _ _ _ (λy S2 h as2 H2 w2 g2 ok2 rw2=>?_) h⟩;refine⟨as2,ρ,S2,ok2,en1.mono g2.pre (g2.ku ok1),hv.m _ _ _ _ (λz S3 ⟨ks,kvs,e1,hk3,q⟩ as3 H3 w3 g3 ok3 rw3=>?_) h⟩;subst e1;have ea3:=B1 g3.pre (B1 g2.pre ea);obtain⟨us,h3,rr⟩:=ok3.obj k _ a hk3 ea3;obtain⟨p,rfl,hp⟩:=GN (Rl.mono g3.pre (g3.ku ok2) _ _ rw2);have G:=g1.trans (g2.trans g3);refine⟨w4 us (ks.map Sum.inl),DGet.t h3 hp,?_⟩;rcases rr.val ks with⟨x',v',e1,e2,r'⟩ | ⟨e1,e2⟩
 ·rw[e1]at q;rw[e2];exact q as3 H3 _ G ok3 r'
 ·rw[e1]at q;rw[e2];exact q as3 H3 _ G ok3 rw3
theorem GP{X:Cx}{ro r r2:Expr}{ap cp:Pos}{d e v:WE×WT}(hd:Good X ro d)(he:Good X r e)(hv:Good X r2 v)(hn:w6 ro=true)(hl:(ap.endLine == cp.line)=true)(hs:c3 r=true)(hs2:c3 r2=true):Good X (.Call (.Attribute ro "setdefault" ap) [r,r2] [] cp) (tt1 (IB d.1 e.1 v.1)):=by
 refine .one (i8 _ (N4 hd.pe he.pe hv.pe ⟨t5 hn,by rw[f9 hs,f9 hs2];rfl,hl,by rw[f9 hs,f9 hs2];rfl⟩) ?_) (Da hd.m he.m hv.m) rfl;rintro σ H Q ⟨as,ρ,S,ok,en,h⟩;refine⟨as,ρ,S,ok,en,hd.m _ _ _ _ (λx S1 ⟨k,kv0,e0,hk,h⟩ as1 H1 w g1 ok1 rw1=>?_) h⟩;subst e0;obtain⟨a,ea,rfl⟩:=rl_loc.mp rw1;obtain⟨us0,h1,_⟩:=ok1.obj k _ a hk ea;have en1:=en.mono g1.pre (g1.ku ok);refine⟨a,rfl,.inl ⟨_,.inl h1⟩,as1,ρ,S1,ok1,en1,he.m _ _ _ _ (λy S2 h as2 H2 w2 g2 ok2 rw2=>?_) h⟩;refine⟨as2,ρ,S2,ok2,en1.mono g2.pre (g2.ku ok1),hv.m _ _ _ _ (λz S3 ⟨i,kvs,e1,hk3,hb,q0,q1⟩ as3 H3 w3 g3 ok3 rw3=>?_) h⟩;subst e1;rw[rl_int]at rw2;subst rw2;have ea3:=B1 g3.pre (B1 g2.pre ea);obtain⟨us,h3,rr⟩:=ok3.obj k _ a hk3 ea3;have G:=g1.trans (g2.trans g3);refine⟨us,.inl i,rfl,h3,by rw[rr.length];exact Vg hb (y7 (VH _)),λu hu'=>?_,λhu'=>?_⟩
 ·rcases rr.val i with⟨x',v',e1,e2,r'⟩ | ⟨_,e2⟩
  ·rw[hu']at e2;cases e2;exact q0 x' e1 as3 H3 _ G ok3 r'
  ·rw[hu']at e2;cases e2
 ·rcases rr.val i with⟨x',v',e1,e2,r'⟩ | ⟨e1,_⟩
  ·rw[hu']at e2;cases e2
  ·rw[Fp _ hu'];obtain⟨ok4,ku⟩:=ok3.writeO (x := .dct (kvs++[(i,z)])) (u := .dK (us++[(Sum.inl i,w3)])) hk3 ea3 (λku=>⟨_,m9,RlD.snoc (Rl.mono (Vo _) ku z w3 rw3) i (RlD.mono (Vo _) ku kvs us rr)⟩);exact q1 e1 as3 _ _ (G.trans (Go.write (VC ea3))) ok4 (Rl.mono (Vo _) ku z w3 rw3)
theorem FM{X:Cx}{T:List Str}{Δ:Nat->Sn}{k:Nat}{N:List Str}{sc:Z1}{r:Expr}{p q ap cp:Pos}{a:WE×WT}(C:Cok T Δ X k N sc)(hg:glo sc "list"=true)(ha:Good X r a)(hn:w6 r=true)(hl:(ap.endLine == cp.line)=true):Good X (.Call (.Name "list" p) [.Call (.Attribute r "values" ap) [] [] cp] [] q) (tt1 (FG a.1)):=by
 unfold glo at hg;simp only[V9,beq_iff_eq,Vi]at hg;have gl:Gl X "list":=by show X.env.scope.names.lookup ("list":Str)=_;rw[C.hs];exact hg.1.1
 refine .one (i8 _ (Pc C.calm gl (C.bl .list) IK ha.pe (t5 hn) hl rfl) ?_) (Co ha.m) rfl;rintro σ H Q ⟨as,ρ,S,ok,en,h⟩;refine⟨as,ρ,S,ok,en,ha.m _ _ _ _ (λx S1 ⟨k,kvs,e0,hk,q⟩ as1 H1 v g1 ok1 rv=>?_) h⟩;subst e0;obtain⟨a,ea,rfl⟩:=rl_loc.mp rv;obtain⟨us,h1,rr⟩:=ok1.obj k _ a hk ea;exact⟨a,us,rfl,h1,AR ok1 (RlT.vals rr) (q.mono g1)⟩
theorem Ed{K:V8}{as:List Yp}{H:Hp}{v:V}{i j:Int}(r:Rl K as H v (.tup [.int i,.int j])):∃ p,v = .ref p/\H p=some (.tup [.int i,.int j]):=by
 obtain⟨p,vs,rfl,hp,rp⟩:=rl_tup.mp r;obtain⟨v1,t1,rfl,r1,rp⟩:=rla_cons.mp rp;obtain⟨v2,t2,rfl,r2,rp⟩:=rla_cons.mp rp;obtain rfl:=rla_nil.mp rp;rw[rl_int]at r1 r2;subst r1 r2;exact⟨p,rfl,hp⟩
theorem JT{K:V8}:BM K Mo (λx y H Q=>∃ a b,∃ i j k l:Int,x = .ref a/\y = .ref b/\SqT K H a [.int i,.int j]/\SqT K H b [.int k,.int l]/\Q (.bl (decide (i=k/\j=l))) H):=λas H S x y v u Q ok rx ry h=>by
 obtain⟨i,j,k,l,rfl,rfl,q⟩:=h;obtain⟨a,rfl,ha⟩:=Ed rx;obtain⟨b,rfl,hb⟩:=Ed ry;exact⟨a,b,i,j,k,l,rfl,rfl,SqT.of ha,SqT.of hb,q.here ok (rl_bl.mpr rfl)⟩
theorem CG:Mono2 Mo:=λx y S P P' i ⟨a,b,c,d,e,f,q⟩=>⟨a,b,c,d,e,f,i _ _ q⟩
theorem Kw{X:Cx}{ra rb:Expr}{p:Pos}{wa wb:WE}(hu:X.A.units+1<cLine)(ha:PE X ra (lift X.K wa))(hb:PE X rb (lift X.K wb))(ma:Mono wa)(mb:Mono wb)(hn:AK rb=true):Good X (.Compare ra [.Eq] [rb] p) (tt2 (w2 Mo wa wb)):=by
 have m:Mono (w2 Mo wa wb) := .two CG ma mb
 exact{pe:=i8 _ (Iw (JR (by omega)) ha hb (BU hn)) (B2 JT CG ma mb)
       pt:=DK _ (Ix (JR (by omega)) ha hb (BU hn)) λσ H Q h=>B2 JT CG ma mb σ H _ (IF m σ H Q h)
       m:=m
       mt := .bl m
       pw:=λ_ _ _ e=>by cases e}
noncomputable def Ee(K:V8)(g:Tg):TG:=λv σ H Q=>∃ as ρ S x,Ok K as H S/\EnvOk K as H σ ρ/\Rl K as H v x/\wTg g x ρ λρ'=>∀ σ',EnvOk K as H σ' ρ'->Q σ' H
noncomputable def SX(K:V8)(g:Tgs):TGs:=λvs σ H Q=>∃ as ρ S xs,Ok K as H S/\EnvOk K as H σ ρ/\RlAll K as H vs xs/\Ab g xs ρ λρ'=>∀ σ',EnvOk K as H σ' ρ'->Q σ' H
mutual
theorem A6:∀(g:Tg) {x:SV} {ρ:EnvS} {P P':EnvS->Prop},(∀ r,P r->P' r)->wTg g x ρ P->wTg g x ρ P'
 | .nm i,x,ρ,P,P',h,q=>by unfold wTg at q ⊢;exact h _ q
 | .tup ts,x,ρ,P,P',h,q=>by
   cases x with
   | tup xs=>unfold wTg at q ⊢;exact GQ ts h q
   | _=>unfold wTg at q;exact q.elim
theorem GQ:∀(g:Tgs) {x:List SV} {ρ:EnvS} {P P':EnvS->Prop},(∀ r,P r->P' r)->Ab g x ρ P->Ab g x ρ P'
 | .nil,x,ρ,P,P',h,q=>by
   cases x with
   | nil=>unfold Ab at q ⊢;exact h _ q
   | cons _ _=>unfold Ab at q;exact q.elim
 | .cons t ts,x,ρ,P,P',h,q=>by
   cases x with
   | nil=>unfold Ab at q;exact q.elim
   | cons y ys=>unfold Ab at q ⊢;exact A6 t (λr q=>GQ ts h q) q
end
theorem BW{env:Env}:∀{es:List Expr},es.all c3=true->(ZF es env).length=es.length/\(ZF es env).findIdx? (·.1)=none/\∀ e r,es=e::r->(ZF (e::r) env).map (·.2)=assign e env::(ZF r env).map (·.2)
 | [],_=>⟨rfl,rfl,λe r h=>by cases h⟩
 | e::es,h=>by
   rw[WB,V9]at h;obtain⟨h1,h2,_⟩:=BW (env:=env) h.2;have:ZF (e::es) env=(false,assign e env)::ZF es env:=by cases e<;>first | rfl | (have:=h.1;cases this)
   rw[this];refine⟨by simp[h1],by rw[List.findIdx?_cons,h2];rfl,λe' r z=>?_⟩;injection z with z1 z2;subst z1 z2;rw[this];rfl
theorem Ce{k:Nat}{N:List Str}{sc:Z1}:∀{g:Tgs} {es:List Expr},AS k N sc g es=true->es.all c3=true
 | .nil,es,h=>by unfold AS at h;rw[Vp]at h;subst h;rfl
 | .cons t ts,es,h=>by
   rw[AS]at h;replace h:=a4 h;obtain⟨e,he,h⟩:=h;simp only[V9]at h;rw[Ae he,WB,h.1.2,Ce h.2];rfl
section
variable{X:Cx}{T:List Str}{Δ:Nat->Sn}{k:Nat}{N:List Str}{sc:Z1}
mutual
theorem BX(C:Cok T Δ X k N sc):∀(g:Tg) (r:Expr),BT k N sc g r=true->PG X r (Ee X.K g)
 | .nm i,r,h=>by
   rw[BT]at h;replace h:=a4 h;obtain⟨x,hx,h⟩:=h;obtain⟨p,rfl⟩:=BR hx
   ·simp only[V9,dQ]at h;obtain⟨⟨h1,h2⟩,h3⟩:=h;unfold loc at h3;simp only[Vx,beq_iff_eq]at h3;have hl:Loc X.env.scope x:=by rw[C.hs];exact h3
    have hf:X.fn x=true\/X.env.scope.names.lookup x=some .local:=by
     rw[C.hs];rcases h3 with h3 | h3
     ·exact .inr h3
     ·exact .inl (C.fn i x h1 h2 h3)
    have b:=OP (X:=X) (pos:=p) (i:=i) (by rw[C.hN];exact C.nd) (by rw[C.hN];exact h2) hl hf;intro pq s σ H v u Q I rr hq;obtain⟨as,ρ,S,y,ok,en,rv,q⟩:=hq;unfold wTg at q;exact b pq s σ H v u Q I rr (q _ (en.set rv))
 | .tup ts,r,h=>by
   rw[BT]at h;replace h:=a4 h;obtain⟨es,he,h⟩:=h;obtain⟨j,p,rfl⟩:=B4 he
   ·have st:=BW (env:=X.env) (Ce h);have b:=Lj (X:=X) (k:=j) (pos:=p) C.calm (Ef C ts es h) st.1 st.2.1;intro pq s σ H v u Q I rr hq;refine b pq s σ H v u Q I rr ?_;obtain⟨as,ρ,S,y,ok,en,rv,q⟩:=hq;cases y with
    | tup xs=>
      obtain⟨a,vs,rfl,ha,ra⟩:=rl_tup.mp rv;unfold wTg at q;refine⟨a,vs,rfl,SqT.of ha,?_,as,ρ,S,xs,ok,en,ra,q⟩;rw[ra.length];exact JU ts es xs h q
    | _=>unfold wTg at q;exact q.elim
theorem Ef(C:Cok T Δ X k N sc):∀(g:Tgs) (es:List Expr),AS k N sc g es=true->PGs X es (SX X.K g)
 | .nil,es,h=>by
   rw[AS]at h;rw[Vp]at h;subst h;intro pq s σ H vs us Q I rr hq;refine Iq pq s σ H vs us Q I rr ?_;obtain⟨as,ρ,S,xs,ok,en,rv,q⟩:=hq;cases xs with
   | nil=>unfold Ab at q;exact⟨rla_nil.mp rv,q _ en⟩
   | cons _ _=>unfold Ab at q;exact q.elim
 | .cons t ts,el,h=>by
   have st:=BW (env:=X.env) (Ce h);rw[AS]at h;replace h:=a4 h;obtain⟨e,he,h⟩:=h;simp only[V9]at h;rw[Ae he]at st ⊢;generalize el.tail=es at h st;intro pq s σ H vs us Q I rr hq;refine D7 (BX C t e h.1.1) (Ef C ts es h.2) (st.2.2 _ _ rfl) pq s σ H vs us Q I rr ?_;obtain⟨as,ρ,S,xs,ok,en,rv,q⟩:=hq;cases xs with
   | nil=>unfold Ab at q;exact q.elim
   | cons y ys=>
     unfold Ab at q;obtain⟨v,r,rfl,r1,r2⟩:=rla_cons.mp rv;exact⟨v,r,rfl,as,ρ,S,y,ok,en,r1,A6 t (λρ' q σ' en'=>⟨as,ρ',S,ys,ok,en',r2,q⟩) q⟩
theorem JU:∀(g:Tgs) (es:List Expr) (xs:List SV) {ρ:EnvS} {P:EnvS->Prop},AS k N sc g es=true->Ab g xs ρ P->xs.length=es.length
 | .nil,es,xs,ρ,P,h,q=>by
   rw[AS]at h;rw[Vp]at h;subst h;cases xs with
   | nil=>rfl
   | cons _ _=>unfold Ab at q;exact q.elim
 | .cons t ts,el,xs,ρ,P,h,q=>by
   rw[AS]at h;replace h:=a4 h;obtain⟨e,he,h⟩:=h;simp only[V9]at h;rw[Ae he];generalize el.tail=es at h;cases xs with
   | nil=>unfold Ab at q;exact q.elim
   | cons y ys=>
     unfold Ab at q;obtain⟨ρ',q'⟩:=JV t q;simp[JU ts es ys h.2 q']
theorem JV:∀(g:Tg) {x:SV} {ρ:EnvS} {P:EnvS->Prop},wTg g x ρ P->∃ ρ',P ρ'
 | .nm i,x,ρ,P,q=>by unfold wTg at q;exact⟨_,q⟩
 | .tup ts,x,ρ,P,q=>by
   cases x with
   | tup xs=>unfold wTg at q;exact GR ts q
   | _=>unfold wTg at q;exact q.elim
theorem GR:∀(g:Tgs) {xs:List SV} {ρ:EnvS} {P:EnvS->Prop},Ab g xs ρ P->∃ ρ',P ρ'
 | .nil,xs,ρ,P,q=>by
   cases xs with
   | nil=>unfold Ab at q;exact⟨_,q⟩
   | cons _ _=>unfold Ab at q;exact q.elim
 | .cons t ts,xs,ρ,P,q=>by
   cases xs with
   | nil=>unfold Ab at q;exact q.elim
   | cons y ys=>
     unfold Ab at q;obtain⟨ρ',q'⟩:=JV t q;exact GR ts q'
end
end
structure Gu(as:List Yp)(H:Hp)(as':List Yp)(H':Hp):Prop where
 pre:as <+: as'
 kp:KeepU H H'
theorem Gu.ku{K:V8}{as as':List Yp}{H H':Hp}{S:Sto}(g:Gu as H as' H')(_:Ok K as H S):KeepU H H':=g.kp
theorem Go.gu{K:V8}{as as':List Yp}{H H':Hp}{S:Sto}(g:Go as H as' H')(ok:Ok K as H S):Gu as H as' H':=⟨g.pre,g.ku ok⟩
noncomputable def Walks(K:V8)(as0:List Yp)(H0:Hp)(J:It)(keep:Sto->Prop)(xs:List SV):Prop:=∀ as H S,Gu as0 H0 as H->Ok K as H S->keep S->
 (∀(i:Nat) (x:SV),xs[i]?=some x->J.go i H/\∀ v H',J.yld i H v H'->Go as H as H'/\Ok K as H' S/\Rl K as H' v x)/\J.stop xs.length H
noncomputable def UP(K:V8)(as:List Yp)(H:Hp)(R:It->Hp->Prop):(Sto->Prop)->List SV->Sto->Prop:=λkeep xs S1=>∀ as1 H1 J,Go as H as1 H1->Ok K as1 H1 S1->Walks K as1 H1 J keep xs->R J H1
noncomputable def liftI(K:V8)(w:WI):TI:=λσ H R=>∃ as ρ S,Ok K as H S/\EnvOk K as H σ ρ/\w ρ S (UP K as H R)
def MonoI(w:WI):Prop:=∀ ρ S (P P':(Sto->Prop)->List SV->Sto->Prop),(∀ k x S',P k x S'->P' k x S')->w ρ S P->w ρ S P'
structure GoodI(X:Cx)(tg r:Expr)(w:WI):Prop where
 pi:PI X tg r (liftI X.K w)
 m:MonoI w
section
variable{X:Cx}{K:V8}
theorem GT{as0 as:List Yp}{H0 H:Hp}{S1 S:Sto}{x:SV}{v:V}{xs:List SV}(ok1:Ok K as0 H0 S1)(r:Rl K as0 H0 v x)(h:seqS x S1=some xs)(g:Gu as0 H0 as H)(ok:Ok K as H S)(kp:keepS x S1 S):Rl K as H v x/\seqS x S=some xs:=by
 refine⟨Rl.mono g.pre (g.ku ok1) x v r,?_⟩;cases x with
 | loc k=>
   have kp:S[k]?=S1[k]?:=kp;unfold seqS at h ⊢;simp only[kp];exact h
 | _=>exact h
theorem Kx{as0:List Yp}{H0:Hp}{S1:Sto}{x:SV}{a:Yp}{xs:List SV}(ok1:Ok K as0 H0 S1)(r:Rl K as0 H0 (.ref a) x)(n:x ≠ .tup xs)(h:seqS x S1=some xs):Walks K as0 H0 (Itl K a) (keepS x S1) xs:=λas H S g ok kp=>by
 obtain⟨r',h'⟩:=GT ok1 r h g ok kp;obtain⟨b,vs,e,hq,rr⟩:=AL ok r' n h';cases e;refine⟨λi y hy=>?_,vs,hq,by rw[rr.length];exact VH _⟩;obtain⟨v,hv,rv⟩:=rr.get hy;refine⟨⟨vs,v,hq,hv⟩,λu H' yl=>?_⟩;obtain⟨e,yl⟩:=yl;subst e;have:=yl vs hq;rw[hv]at this;cases this;exact⟨Go.refl _ _,ok,rv⟩
theorem NB{as0:List Yp}{H0:Hp}{S1:Sto}{a:Yp}{xs:List SV}(ok1:Ok K as0 H0 S1)(r:Rl K as0 H0 (.ref a) (.tup xs)):Walks K as0 H0 (Itt K a) (keepS (.tup xs) S1) xs:=λas H S g ok kp=>by
 have r':=Rl.mono g.pre (g.ku ok1) _ _ r;obtain⟨b,vs,e,hb,rr⟩:=rl_tup.mp r';cases e;refine⟨λi y hy=>?_,vs,SqT.of hb,by rw[rr.length];exact VH _⟩;obtain⟨v,hv,rv⟩:=rr.get hy;refine⟨⟨vs,v,SqT.of hb,hv⟩,λu H' yl=>?_⟩;obtain⟨e,yl⟩:=yl;subst e;have:=yl vs (SqT.of hb);rw[hv]at this;cases this;exact⟨Go.refl _ _,ok,rv⟩
theorem GU{as0:List Yp}{H0:Hp}{lo hi:Int}:Walks K as0 H0 (Itr lo (hi - lo).toNat) (λ_=>True) (Cs lo hi):=λas H S g ok _=>by
 have hl:(Cs lo hi).length=(hi - lo).toNat:=by unfold Cs;simp
 refine⟨λi y hy=>?_,by show(hi - lo).toNat<=(Cs lo hi).length;rw[hl];exact VH _⟩;have hi':i<(hi - lo).toNat:=by rw[<-hl];exact(gM hy).1
 refine⟨hi',λu H' yl=>?_⟩;obtain⟨e,rfl⟩:=yl;subst e
 have:y = .int (lo+i):=by
  unfold Cs at hy;rw[VI,W2 hi']at hy;exact(oj hy).symm
 subst this;exact⟨Go.refl _ _,ok,rl_int.mpr rfl⟩
theorem GV{xs:List SV}{i:Nat}{y:SV}(h:(BQ xs)[i]?=some y):∃ x,xs[i]?=some x/\y = .tup [.int i,x]:=by
 unfold BQ at h;rw[Xr]at h;cases h1:(VN xs.length)[i]? with
 | none=>rw[h1]at h;cases h
 | some j=>
   cases h2:xs[i]? with
   | none=>rw[h1,h2]at h;cases h
   | some x=>
     rw[h1,h2]at h;have hi:=(gM h2).1;rw[W2 hi]at h1;cases h1;cases h;exact⟨x,rfl,rfl⟩
theorem GW{xs:List SV}:(BQ xs).length=xs.length:=by unfold BQ;simp
theorem IS{as0:List Yp}{H0:Hp}{S1:Sto}{x:SV}{a:Yp}{xs:List SV}(ok1:Ok K as0 H0 S1)(r:Rl K as0 H0 (.ref a) x)(n:x ≠ .tup xs)(h:seqS x S1=some xs):Walks K as0 H0 (Rk K a) (keepS x S1) (BQ xs):=λas H S g ok kp=>by
 obtain⟨r',h'⟩:=GT ok1 r h g ok kp;obtain⟨b,vs,e,hq,rr⟩:=AL ok r' n h';cases e;refine⟨λi y hy=>?_,vs,hq,by rw[rr.length,GW]⟩;obtain⟨z,hz,rfl⟩:=GV hy;obtain⟨v,hv,rv⟩:=rr.get hz;refine⟨⟨vs,v,hq,hv⟩,λu H' yl=>?_⟩;obtain⟨p,w,hp,rfl,yl,rfl⟩:=yl;have:=yl vs hq;rw[hv]at this;cases this;exact⟨Go.new hp,ok.new hp,rl_tup.mpr ⟨p,_,rfl,m9,.cons (rl_int.mpr rfl) (.cons (Rl.mono (Vo _) (Ap hp) z v rv) .nil)⟩⟩
theorem IT{as0:List Yp}{H0:Hp}{S1:Sto}{a:Yp}{xs:List SV}(ok1:Ok K as0 H0 S1)(r:Rl K as0 H0 (.ref a) (.tup xs)):Walks K as0 H0 (Rm K a) (keepS (.tup xs) S1) (BQ xs):=λas H S g ok kp=>by
 have r':=Rl.mono g.pre (g.ku ok1) _ _ r;obtain⟨b,vs,e,hb,rr⟩:=rl_tup.mp r';cases e;refine⟨λi y hy=>?_,vs,SqT.of hb,by rw[rr.length,GW]⟩;obtain⟨z,hz,rfl⟩:=GV hy;obtain⟨v,hv,rv⟩:=rr.get hz;refine⟨⟨vs,v,SqT.of hb,hv⟩,λu H' yl=>?_⟩;obtain⟨p,w,hp,rfl,yl,rfl⟩:=yl;have:=yl vs (SqT.of hb);rw[hv]at this;cases this;exact⟨Go.new hp,ok.new hp,rl_tup.mpr ⟨p,_,rfl,m9,.cons (rl_int.mpr rfl) (.cons (Rl.mono (Vo _) (Ap hp) z v rv) .nil)⟩⟩
theorem FN{tg l:Expr}{w:TI}(w':TI)(h:PI X tg l w)(imp:∀ σ H R,w' σ H R->w σ H R):PI X tg l w':=λpq s σ H R I hw=>h pq s σ H R I (imp σ H R hw)
def V0(K:V8)(tl:TE):TI:=λσ H R=>tl σ H λx H1=>∃ a,x = .ref a/\(((∃ xs,SqL K H1 a xs)/\R (Itl K a) H1)\/((∃ xs,SqT K H1 a xs)/\R (Itt K a) H1))
theorem SY{tg l:Expr}{tl:TE}(hl:PE X l tl):PI X tg l (V0 X.K tl):=by
 intro pq s σ H R I h;refine thn (hl pq s σ H _ I h) λv s1 ⟨x,H1,I1,r1,q1⟩=>?_;obtain⟨a,e,q⟩:=q1;subst e;cases r1;have I2:∀{ob:Obj},Inv X pq σ H1 {s1 with heap:=s1.heap.push ob}:=I1.kept (t':=s1.toks) λb o e=>VG _ e
 have fp:∀ b∈[s1.heap.objs.size],FpOk X pq H1 b:=λb hb=>by
  rw[VU.mp hb];exact I1.fpOk (VH _) (I1.hok.fresh (VH _))
 rcases q with⟨⟨xs,hq⟩,q⟩ | ⟨⟨xs,hq⟩,q⟩
 ·obtain⟨its,rv,p,hz⟩:=I1.list hq;exact ZK p.isList ⟨s1.heap.objs.size,[s1.heap.objs.size],_,_,H1,rfl,I2,KB a _,⟨_,VV _ rfl,rfl,rfl⟩,fp,q⟩
 ·obtain⟨its,rv,p,hz⟩:=I1.tuple hq;exact ZR (show s1.heap.IsTuple a its.toArray from p) ⟨s1.heap.objs.size,[s1.heap.objs.size],_,_,H1,rfl,I2,HZ a _,⟨_,VV _ rfl,rfl,rfl⟩,fp,q⟩
theorem Ky{tg r:Expr}{a:WE×WT}(ha:Good X r a):GoodI X tg r (Qf a.1) where
 m:=λρ S P P' i h=>ha.m _ _ _ _ (λx S1 ⟨xs,e,q⟩=>⟨xs,e,i _ _ _ q⟩) h
 pi:=FN _ (SY ha.pe) (by
  rintro σ H R ⟨as,ρ,S,ok,en,h⟩;refine⟨as,ρ,S,ok,en,ha.m _ _ _ _ (λx S1 ⟨xs,e,q⟩ as1 H1 v g1 ok1 rv=>?_) h⟩;by_cases ht:x = .tup xs
  ·subst ht;obtain⟨p,vs,rfl,hp,rr⟩:=rl_tup.mp rv;exact⟨p,rfl,.inr ⟨⟨vs,SqT.of hp⟩,q as1 H1 _ g1 ok1 (NB ok1 rv)⟩⟩
  ·obtain⟨p,vs,rfl,hq,rr⟩:=AL ok1 rv ht e;exact⟨p,rfl,.inl ⟨⟨vs,hq⟩,q as1 H1 _ g1 ok1 (Kx ok1 rv ht e)⟩⟩)
theorem IU{T:List Str}{Δ:Nat->Sn}{k:Nat}{N:List Str}{sc:Z1}{elts:List Expr}{kx:Nat}{tp p q:Pos}{r:Expr}{a:WE×WT}(C:Cok T Δ X k N sc)(hg:glo sc "enumerate"=true)(ha:Good X r a)(hs:c3 r=true):GoodI X (.Tuple elts kx tp) (.Call (.Name "enumerate" p) [r] [] q) (Mi a.1) where
 m:=λρ S P P' i h=>ha.m _ _ _ _ (λx S1 ⟨xs,e,q⟩=>⟨xs,e,i _ _ _ q⟩) h
 pi:=by
  unfold glo at hg;simp only[V9,beq_iff_eq,Vi]at hg;have gl:Gl X "enumerate":=by show X.env.scope.names.lookup ("enumerate":Str)=_;rw[C.hs];exact hg.1.1
  refine FN _ (Oc gl C.enm (y1 ha.pe Az (f9 hs)) (f9 hs)) ?_;rintro σ H R ⟨as,ρ,S,ok,en,h⟩;refine⟨as,ρ,S,ok,en,ha.m _ _ _ _ (λx S1 ⟨xs,e,q⟩ as1 H1 v g1 ok1 rv=>?_) h⟩;by_cases ht:x = .tup xs
  ·subst ht;obtain⟨p,vs,rfl,hp,rr⟩:=rl_tup.mp rv;exact⟨p,rfl,.inr ⟨⟨vs,SqT.of hp⟩,q as1 H1 _ g1 ok1 (IT ok1 rv)⟩⟩
  ·obtain⟨p,vs,rfl,hq,rr⟩:=AL ok1 rv ht e;exact⟨p,rfl,.inl ⟨⟨vs,hq⟩,q as1 H1 _ g1 ok1 (IS ok1 rv ht e)⟩⟩
theorem IV{T:List Str}{Δ:Nat->Sn}{k:Nat}{N:List Str}{sc:Z1}{tg r:Expr}{p q:Pos}{a:WE×WT}(C:Cok T Δ X k N sc)(hg:glo sc "range"=true)(ha:Good X r a)(hs:c3 r=true):GoodI X tg (.Call (.Name "range" p) [r] [] q) (Mg a.1) where
 m:=λρ S P P' i h=>ha.m _ _ _ _ (λx S1 ⟨j,e,z,q⟩=>⟨j,e,z,i _ _ _ q⟩) h
 pi:=by
  unfold glo at hg;simp only[V9,beq_iff_eq,Vi]at hg;have gl:Gl X "range":=by show X.env.scope.names.lookup ("range":Str)=_;rw[C.hs];exact hg.1.1
  refine FN _ (KC gl C.rng (y1 ha.pe Az (f9 hs)) (f9 hs)) ?_;rintro σ H R ⟨as,ρ,S,ok,en,h⟩;refine⟨as,ρ,S,ok,en,ha.m _ _ _ _ (λx S1 ⟨j,e,z,q⟩ as1 H1 v g1 ok1 rv=>?_) h⟩;subst e;refine⟨j,by rw[rl_int.mp rv],z.1,z.2,?_⟩;have:=q as1 H1 (Itr 0 (j - 0).toNat) g1 ok1 GU
  rwa [Int.sub_zero]at this
theorem IW{T:List Str}{Δ:Nat->Sn}{k:Nat}{N:List Str}{sc:Z1}{tg r r2:Expr}{p q:Pos}{a b:WE×WT}(C:Cok T Δ X k N sc)(hg:glo sc "range"=true)(ha:Good X r a)(hb:Good X r2 b)(hs:c3 r=true)(hs2:c3 r2=true):GoodI X tg (.Call (.Name "range" p) [r,r2] [] q) (Mh a.1 b.1) where
 m:=λρ S P P' i h=>ha.m _ _ _ _ (λx S1 h=>hb.m _ _ _ _ (λy S2 ⟨l,j,e,e2,z,q⟩=>⟨l,j,e,e2,z,i _ _ _ q⟩) h) h
 pi:=by
  unfold glo at hg;simp only[V9,beq_iff_eq,Vi]at hg;have gl:Gl X "range":=by show X.env.scope.names.lookup ("range":Str)=_;rw[C.hs];exact hg.1.1
  refine FN _ (KD gl C.rng (y1 ha.pe (y1 hb.pe Az (f9 hs2)) (f9 hs)) (by rw[f9 hs,f9 hs2];rfl) (f9 hs2)) ?_;rintro σ H R ⟨as,ρ,S,ok,en,h⟩;refine⟨as,ρ,S,ok,en,ha.m _ _ _ _ (λx S1 h as1 H1 v g1 ok1 rv=>?_) h⟩;refine⟨as1,ρ,S1,ok1,en.mono g1.pre (g1.ku ok),hb.m _ _ _ _ (λy S2 ⟨l,j,e,e2,z,q⟩ as2 H2 u g2 ok2 ru=>?_) h⟩;subst e e2;exact⟨l,j,by rw[rl_int.mp rv,rl_int.mp ru],z,q as2 H2 _ (g1.trans g2) ok2 GU⟩
end
end Rf
namespace L2
open PySem PySem.Spec PyProof.Rows
noncomputable def SetXO(prog:Yu)(w:Yw)(o:Obj)(L:List Int):Prop:=
 ∃ es ep t,o.ExactSet/\o.data = .set es ep t/\ElemsOf (intKind prog w) es.toList/\es.size<scanBound/\t.fits es.size=true/\Tab w t/\(es.toList.map λe=>numOf e.2).Perm L
theorem SetXO.at{prog:Yu}{w:Yw}{o:Obj}{L:List Int}{h:Heap}{a:Yp}(x:SetXO prog w o L)(e:h.get? a=some o):SetX prog w h a L:=let ⟨es,ep,t,r⟩:=x;⟨o,es,ep,t,e,r⟩
theorem SetX.obj{prog:Yu}{w:Yw}{L:List Int}{h:Heap}{a:Yp}(x:SetX prog w h a L):∃ o,h.get? a=some o/\SetXO prog w o L:=let ⟨o,es,ep,t,e,r⟩:=x;⟨o,e,es,ep,t,r⟩
end L2
namespace Rf
open PySem L2
theorem Kz{α:Type}{o:Option (Option α)}{x:α}(h:o.join=some x):o=some (some x):=by
 cases o with
 | none=>cases h
 | some o=>cases o with
   | none=>cases h
   | some y=>cases h;rfl
theorem EnvOk.cap{K:V8}{as:List Yp}{H:Hp}{σ:St}{ρ:EnvS}(h:EnvOk K as H σ ρ)(k:Nat)(js:List Nat):EnvOk K as H (BA k js σ) (GC k js ρ):=by
 refine⟨by unfold BA GC;simp,λi x e=>?_⟩;unfold GC at e;unfold BA;by_cases hi:i<k
 ·rw[VP (by simpa using hi),WK,iP hi]at e;cases e
 ·rw[Vq (by simpa using hi),WW,VI]at e;rw[Vq (by simpa using hi),WW,VI];cases hj:js[i - k]? with
  | none=>rw[hj]at e;cases e
  | some j=>
    rw[hj]at e;have e':(ρ[j]?).join=some x:=oj e;obtain⟨v,hv,rv⟩:=h.2 j x (Kz e');exact⟨v,by simp only[WV];rw[hv];rfl,rv⟩
theorem Ok.adopt{K:V8}{as:List Yp}{H:Hp}{S:Sto}{D:Yp}{vs:List V}{xs:List SV}(h:Ok K as H S)(n:D∉as)(hD:H D=some (.lst vs))(r:RlAll K as H vs xs):Ok K (as++[D]) H (S++[.lst xs]):=by
 have pre:as <+: as++[D]:=Wt _ _;refine⟨by rw[VB,VB,h.len];rfl,?_,λk o a e ea=>?_⟩
 ·rw[Wk];refine⟨h.nd,by simp,λa ha b hb=>?_⟩;rw[VU.mp hb];intro z;subst z;exact n ha
 ·by_cases hk:k<S.length
  ·rw[VP hk]at e;rw[VP (by rw[h.len];exact hk)]at ea;exact(h.obj k o a e ea).mono pre (KeepU.refl _) λ_ z=>z
  ·have hk':k=S.length:=by
    have:=(gM e).1;rw[VB,W4]at this;omega
   subst hk';rw[Vd]at e;rw[<-h.len,Vd]at ea;cases e;cases ea;exact⟨vs,hD,RlAll.mono pre (KeepU.refl _) xs vs r⟩
theorem C2{keep:Sto->Prop}{g:Tg}{t:WT}{e:WE}{ρ:EnvS}(mt:MonoT t)(me:Mono e){Q Q':List SV->Sto->Prop}(i:∀ ys S,Q ys S->Q' ys S):∀(xs ys:List SV) (S:Sto),v8 keep g t e ρ Q xs ys S->v8 keep g t e ρ Q' xs ys S
 | [],ys,S,h=>by unfold v8 at h ⊢;exact⟨h.1,i _ _ h.2⟩
 | x::xs,ys,S,h=>by
   unfold v8 at h ⊢;refine⟨h.1,A6 g (λρ2 q=>mt _ _ _ _ (λb S1 q=>p8 (λq=>me _ _ _ _ (λy S2 q=>⟨q.1,C2 mt me i xs _ _ q.2⟩) q) (λq=>C2 mt me i xs _ _ q) q) q) h.2⟩
theorem Mono.comp{k:Nat}{js:List Nat}{g:Tg}{i:WI}{t:WT}{e:WE}(mi:MonoI i)(mt:MonoT t)(me:Mono e):Mono (JK k js g i t e):=λρ S P P' im h=>mi _ _ _ _ (λkeep xs S1 h=>C2 mt me (λys S2 q=>im _ _ q) xs [] S1 h) h
theorem GX{K:V8}{k:Nat}{js:List Nat}{g:Tg}{i:WI}{t:WT}{e:WE}(mi:MonoI i)(mt:MonoT t)(me:Mono e):∀ σ H Q,lift K (JK k js g i t e) σ H Q->M7 (liftI K i) (Ee K g) (liftT K t) (lift K e) k js σ H Q:=by
 rintro σ H Q ⟨as,ρ,S,ok,en,h⟩;refine⟨as,ρ,S,ok,en,mi _ _ _ _ (λkeep xs S1 h as1 H1 J g1 ok1 W=>?_) h⟩;intro D hD;have Dn:D∉as1:=ok1.free hD
 refine⟨λi m vs H2=>m=xs.length - i/\i<=xs.length/\∃ as2 S2 ys,Go as1 H1 as2 H2/\Ok K as2 H2 S2/\D∉as2/\H2 D=some (.lst vs)/\RlAll K as2 H2 vs ys/\
  v8 keep g t e (GC k js ρ) (λys S2=>Post K as H Q (.loc S2.length) (S2++[.lst ys])) (xs.drop i) ys S2,⟨xs.length,by simp,W8 _,as1,S1,[],Go.new hD,ok1.new hD,Dn,m9,.nil,h⟩,?_⟩
 rintro i m vs H2 ⟨rfl,hi,as2,S2,ys,g2,ok2,n2,d2,rs,h⟩;by_cases hlt:i<xs.length
 ·right;rw[Wf hlt]at h;unfold v8 at h;obtain⟨kp,h⟩:=h;obtain⟨w1,_⟩:=W as2 H2 S2 (g2.gu ok1) ok2 kp;obtain⟨go,yl⟩:=w1 i xs[i] (VE hlt)
  refine⟨go,λvs' H'=>∃ as2 S2 ys,Go as1 H1 as2 H'/\Ok K as2 H' S2/\D∉as2/\H' D=some (.lst vs')/\RlAll K as2 H' vs' ys/\
   v8 keep g t e (GC k js ρ) (λys S2=>Post K as H Q (.loc S2.length) (S2++[.lst ys])) (xs.drop (i+1)) ys S2,λvs' H' z=>⟨xs.length - (i+1),by omega,rfl,hlt,z⟩,λx H3 y3=>?_⟩
  obtain⟨g3,ok3,rx⟩:=yl x H3 y3;have en3:EnvOk K as2 H3 (BA k js σ) (GC k js ρ):=((en.mono g1.pre (g1.ku ok)).mono (g2.trans g3).pre ((g2.trans g3).ku ok1)).cap k js;have rs3:=RlAll.mono g3.pre (g3.ku ok2) ys vs rs;obtain⟨d3,n3⟩:=g3.keep D _ d2 n2;refine⟨as2,GC k js ρ,S2,_,ok3,en3,rx,A6 g (λρ2 q σ2 en2=>?_) h⟩;refine⟨as2,ρ2,S2,ok3,en2,mt _ _ _ _ (λb S4 q as4 H4 g4 ok4=>?_) q⟩;obtain⟨d4,n4⟩:=g4.keep D _ d3 n3;have rs4:=RlAll.mono g4.pre (g4.ku ok3) ys vs rs3;refine p8 (λq=>?_) (λq=>?_) q
  ·refine⟨as4,ρ2,S4,ok4,en2.mono g4.pre (g4.ku ok3),me _ _ _ _ (λy S5 q as5 H5 v g5 ok5 rv=>?_) q⟩;obtain⟨d5,n5⟩:=g5.keep D _ d4 n4;have rs5:=RlAll.mono g5.pre (g5.ku ok4) ys vs rs4;refine⟨d5,by rw[rs.length];exact F0 q.1,as5,S5,ys++[y],?_,ok5.other d5 n5,n5,m9,?_,q.2⟩
   ·refine⟨(((g2.trans g3).trans g4).trans g5).pre,λb o hb nb=>?_⟩;obtain⟨z1,z2⟩:=(((g2.trans g3).trans g4).trans g5).keep b o hb nb;exact⟨by rw[i7 (j5 hb hD)];exact z1,z2⟩
   ·exact RlAll.mono (Vo _) (CW d5 rfl) _ _ (rs5.append (.cons rv .nil))
  ·exact⟨as4,S4,ys,(g2.trans g3).trans g4,ok4,n4,d4,rs4,q⟩
 ·left;have hi':i=xs.length:=by omega
  subst hi';rw[Xe]at h;unfold v8 at h;obtain⟨kp,h⟩:=h;obtain⟨_,w2⟩:=W as2 H2 S2 (g2.gu ok1) ok2 kp;refine⟨w2,h (as2++[D]) H2 (.ref D) ?_ (ok2.adopt n2 d2 rs) (rl_loc.mpr ⟨D,by rw[<-ok2.len,Vd],rfl⟩)⟩;refine⟨(g1.pre.trans g2.pre).trans (Wt _ _),λb o hb nb=>?_⟩;obtain⟨h1,n1⟩:=g1.keep b o hb nb;obtain⟨h2,n2'⟩:=g2.keep b o h1 n1;refine⟨h2,?_⟩;rw[VY,VU];rintro(z | z)
  ·exact n2' z
  ·exact j5 h1 hD z
theorem GY{scope sc:Z1}{x:Str}(h:scope.names.lookup x=some .local):(GE scope sc).names.lookup x=some .local:=by
 have go:∀ l:List (Str×ZA),l.lookup x=some .local->(l.map λ(n,k)=>if (k == .free&&sc.kind == .function&&sc.names.lookup n == some .cell) then (n,.cell) else (n,k)).lookup x=some .local:=by
  intro l
  induction l with
  | nil=>intro h;cases h
  | cons a r ih=>
    obtain⟨n,k⟩:=a;intro h;rw[WM]at h;rw[Vk];cases hb:x == n with
    | true=>
      rw[hb]at h;have:k = .local:=oj h;subst this;show Xt x ((n,NameKind.local)::_)=_;rw[WM,hb]
    | false=>
      rw[hb]at h
      have e:∀ k',Xt x ((n,k')::(r.map λ(n,k)=>if (k == .free&&sc.kind == .function&&sc.names.lookup n == some .cell) then (n,.cell) else (n,k)))=some .local:=λk'=>by
       rw[WM,hb];exact ih h
      show Xt x ((if (k == .free&&sc.kind == .function&&sc.names.lookup n == some .cell)=true then (n,NameKind.cell) else (n,k))::_)=_;split<;>exact e _
 exact go _ h
theorem Cok.comp{T:List Str}{Δ:Nat->Sn}{X:Cx}{k:Nat}{N:List Str}{sc scope:Z1}{own cn:List Str}{js:List Nat}(C:Cok T Δ X k N sc)(hok:AA sc scope own cn N js=true)(s2:Yo)(H2:Hp)(cs:List (Str×Yp))(A:Yp)(fp:List Yp):Cok T Δ (j9 X scope (own++cn) s2 H2 cs A fp) own.length (own++cn) (GE scope sc) where
 hN:=rfl
 hs:=by rw[<-C.hs];rfl
 nd:=by
  unfold AA at hok;simp only[V9,dQ]at hok;exact hok.1.2
 calm:=C.calm
 fn:=λi x hi hx hc=>by
  unfold AA at hok;simp only[V9,dQ,Ve,Vx]at hok
  have hm:x∈own:=by
   rw[VP hi]at hx;exact VC hx
  show(scope.names.lookup x == some .cell)=true;rcases hok.1.1.1.2 x hm with h | h
  ·rw[GY h]at hc;cases hc
  ·rw[h];rfl
 un:=C.un
 bl:=C.bl
 rng:=C.rng
 enm:=C.enm
 rvs:=C.rvs
 zip:=C.zip
 sm0:=C.sm0
 st0:=C.st0
 dc0:=C.dc0
 ty:=C.ty
 gd:=C.gd
 call:=C.call
 mono:=C.mono
theorem Al{r:Expr}(h:AK r=true){env:Env}:∀ x,Ze r env x=pure x:=λx=>by cases r<;>first | rfl | cases h
theorem Bh{T N:List Str}{sc:Z1}:∀{es:Exs} {rs:List Expr},Ar T N sc es rs=true->rs.all c3=true
 | .nil,rs,h=>by unfold Ar at h;rw[Vp]at h;subst h;rfl
 | .cons e es,rs,h=>by
   unfold Ar at h;replace h:=a4 h;obtain⟨x,hx,h⟩:=h;simp only[V9]at h;rw[Ae hx,WB,h.1.2,Bh h.2];rfl
theorem SZ{X:Cx}{i:Nat}{x:Str}{p:Pos}{N:List Str}{sc:Z1}{T:List Str}{Δ:Nat->Sn}{k:Nat}(C:Cok T Δ X k N sc)(h:nmB N sc i x=true):PE X (.Name x p) (OJ i):=by
 unfold nmB at h;simp only[V9,dQ,Vi]at h;exact SN C h.1.1.1 h.1.1.2 h.1.2 h.2
theorem JW{α:Type}{l:List α}(h:(!l.isEmpty)=true):∃ y ys,l=y::ys:=by
 cases l with
 | nil=>cases h
 | cons y ys=>exact⟨y,ys,rfl⟩
theorem Sa{X:Cx}{c:Expr}{a:WE×WT}(h:Good X c a):E4 X [c] (liftT X.K a.2):=M5 h.pt
theorem NC{X:Cx}:E4 X [] (liftT X.K UD):=λpq s σ H Q I hw=>M4 pq s σ H Q I (let ⟨as,ρ,S,ok,en,h⟩:=hw;h as H (Go.refl _ _) ok)
theorem IY{T:List Str}{Δ:Nat->Sn}{X:Cx}{k:Nat}{N:List Str}{sc scope:Z1}{own cn:List Str}{js:List Nat}{tg ri re:Expr}{ifs:List Expr}{p:Pos}{g:Tg}{i:WI}{t:WT}{e:WE×WT}(C:Cok T Δ X k N sc)(hok:AA sc scope own cn N js=true)(hi:GoodI X tg ri i)
 (hg:∀ s2 H2 cs A fp,PG (j9 X scope (own++cn) s2 H2 cs A fp) tg (Ee X.K g)) (ht:∀ s2 H2 cs A fp,E4 (j9 X scope (own++cn) s2 H2 cs A fp) ifs (liftT X.K t)) (mt:MonoT t) (he:∀ s2 H2 cs A fp,PE (j9 X scope (own++cn) s2 H2 cs A fp) re (lift X.K e.1)) (me:Mono e.1) (hn:AK ri=true):
 Good X (.ListComp re [⟨tg,ri,ifs,0⟩] scope p) (tt1 (JK own.length js g i t e.1)):=
 .one (i8 _ (Ob own cn js hi.pi hg ht he C.calm (by rw[C.hs,C.hN];exact hok) (Al hn)) (GX hi.m mt me)) (.comp hi.m mt me) rfl
mutual
theorem a6{T:List Str}{Δ:Nat->Sn}:∀(e:Ex) (r:Expr) {X:Cx} {k:Nat} {N:List Str} {sc:Z1},Cok T Δ X k N sc->i9 T N sc e r=true->Good X r (wEx Δ e)
 | .var i,r,X,k,N,sc,C,h=>by
   replace h:=a4 h;obtain⟨x,hx,h⟩:=h;obtain⟨p,rfl⟩:=BR hx;exact .one (i8 _ (SZ C h) Om) .var rfl
 | .c x,r,X,k,N,sc,C,h=>by
   replace h:=a4 h;obtain⟨x,hx,h⟩:=h;obtain⟨j,p,rfl⟩:=Ki hx;exact Pa h
 | .op o a b,r,X,k,N,sc,C,h=>by
   replace h:=a4 h;obtain⟨v,hv,h⟩:=h;obtain⟨p,rfl⟩:=PM hv;simp only[V9,dQ]at h;have ga:=a6 a _ C h.1.2;have gb:=a6 b _ C h.2;rw[<-h.1.1];exact .one (N0 ga.pe gb.pe ga.m gb.m) (.two JN ga.m gb.m) rfl
 | .neg a,r,X,k,N,sc,C,h=>by
   replace h:=a4 h;obtain⟨v,hv,h⟩:=h;obtain⟨p,rfl⟩:=Mv hv;simp only[V9,dQ]at h;rw[h.1];exact Kp (a6 a _ C h.2)
 | .cmp o a b,r,X,k,N,sc,C,h=>by
   replace h:=a4 h;obtain⟨v,hv,h⟩:=h;replace h:=a4 h;obtain⟨rb,hb,h⟩:=h;obtain⟨p,rfl⟩:=FI hv;simp only[V9,dQ]at h;obtain⟨⟨⟨h0,h1⟩,h2⟩,h3⟩:=h;rw[h0,A0 hb];have ga:=a6 a _ C h1;have gb:=a6 b _ C h2;have:=C.un;exact Kj (by omega) ga.pe gb.pe ga.m gb.m h3
 | .chn o p a b c,r,X,k,N,sc,C,h=>by
   replace h:=a4 h;obtain⟨v,hv,h⟩:=h;replace h:=a4 h;obtain⟨rs,hb,h⟩:=h;obtain⟨p,rfl⟩:=FI hv;simp only[V9,dQ]at h;obtain⟨⟨⟨⟨h0,h1⟩,h2⟩,h3⟩,h4⟩:=h;rw[h0,CF hb];have ga:=a6 a _ C h1;have gb:=a6 b _ C h2;have gc:=a6 c _ C h3;have:=C.un;exact Kk (by omega) ga.pe gb.pe gc.pe ga.m gb.m gc.m h4
 | .and a b,r,X,k,N,sc,C,h=>by
   replace h:=a4 h;obtain⟨v,hv,h⟩:=h;have e:=GF hv;subst e;rw[V9,dQ]at h;obtain⟨h0,h⟩:=h;replace h:=a4 h;obtain⟨x,hx,h⟩:=h;rw[V9]at h;have ga:=a6 a _ C h.1;rw[h0,Ae hx];have h2:=h.2;generalize v.2.1.tail=tl at h2;cases hl:l1 tl with
   | some y=>
     rw[hl]at h2;rw[A0 hl];exact IG ga (a6 b _ C h2)
   | none=>
     rw[hl]at h2;rw[V9,dQ]at h2;have gb:=a6 b _ C h2.2
     match tl,h2,gb with
     | y::z::zs,h2,gb=>exact IH ga gb
     | [],h2,_=>exact absurd h2.1 (by simp)
     | [_],h2,_=>exact absurd h2.1 (by simp)
 | .or a b,r,X,k,N,sc,C,h=>by
   replace h:=a4 h;obtain⟨v,hv,h⟩:=h;have e:=GF hv;subst e;rw[V9,dQ]at h;obtain⟨h0,h⟩:=h;replace h:=a4 h;obtain⟨x,hx,h⟩:=h;rw[V9]at h;have ga:=a6 a _ C h.1;rw[h0,Ae hx];have h2:=h.2;generalize v.2.1.tail=tl at h2;cases hl:l1 tl with
   | some y=>
     rw[hl]at h2;rw[A0 hl];exact Kl ga (a6 b _ C h2)
   | none=>
     rw[hl]at h2;rw[V9,dQ]at h2;have gb:=a6 b _ C h2.2
     match tl,h2,gb with
     | y::z::zs,h2,gb=>exact Km ga gb
     | [],h2,_=>exact absurd h2.1 (by simp)
     | [_],h2,_=>exact absurd h2.1 (by simp)
 | .not a,r,X,k,N,sc,C,h=>by
   replace h:=a4 h;obtain⟨v,hv,h⟩:=h;obtain⟨p,rfl⟩:=Mv hv;simp only[V9,dQ]at h;rw[h.1];exact Kn (a6 a _ C h.2)
 | .ife t a b,r,X,k,N,sc,C,h=>by
   replace h:=a4 h;obtain⟨v,hv,h⟩:=h;obtain⟨p,rfl⟩:=PN hv;simp only[V9]at h;exact Ko (a6 t _ C h.1.1) (a6 a _ C h.1.2) (a6 b _ C h.2)
 | .tup es,r,X,k,N,sc,C,h=>by
   replace h:=a4 h;obtain⟨v,hv,h⟩:=h;obtain⟨j,p,rfl⟩:=B4 hv;exact Ks (AO es _ C h)
 | .lst es,r,X,k,N,sc,C,h=>by
   replace h:=a4 h;obtain⟨v,hv,h⟩:=h;obtain⟨p,rfl⟩:=PP hv;exact Kt (AO es _ C h)
 | .ix a b,r,X,k,N,sc,C,h=>by
   replace h:=a4 h;obtain⟨v,hv,h⟩:=h;obtain⟨p,rfl⟩:=Ad hv;simp only[V9]at h;exact N3 (a6 a _ C h.1.1) (a6 b _ C h.1.2) h.2
 | .slc a lo hi,r,X,k,N,sc,C,h=>by
   replace h:=a4 h;obtain⟨v,hv,h⟩:=h;replace h:=a4 h;obtain⟨w,hw,h⟩:=h;obtain⟨p,rfl⟩:=Ad hv;obtain⟨p2,ew⟩:=PR hw;simp only[V9]at h;have hl:=GZ lo _ C h.1.1.2;have hh:=GZ hi _ C h.1.2;rw[ew,XQ.mp h.2];exact Kq (a6 a _ C h.1.1.1) hl.1 hh.1 hl.2 hh.2
 | .call f es,r,X,k,N,sc,C,h=>by
   replace h:=a4 h;obtain⟨v,hv,h⟩:=h;obtain⟨p,q,rfl⟩:=BS hv;simp only[V9,dQ]at h;obtain⟨⟨⟨h1,h2⟩,h3⟩,h4⟩:=h;obtain⟨y,ys,e⟩:=JW h4;have st:=Bh h3;have g:=AO es _ C h3;rw[e]at st g ⊢;rw[WB,V9]at st;exact IJ C h1 h2 g st.1 st.2
 | .bi b es,r,X,k,N,sc,C,h=>by
   replace h:=a4 h;obtain⟨v,hv,h⟩:=h;obtain⟨p,q,rfl⟩:=BS hv;simp only[V9,dQ]at h;obtain⟨⟨⟨h1,h2⟩,h3⟩,h4⟩:=h;obtain⟨y,ys,e⟩:=JW h4;have st:=Bh h3;have g:=AO es _ C h3;rw[e]at st g ⊢;rw[WB,V9]at st;rw[<-h1]at h2 ⊢;exact N7 C h2 g st.1 st.2
 | .mt m a es,r,X,k,N,sc,C,h=>by
   replace h:=a4 h;obtain⟨v,hv,h⟩:=h;obtain⟨ap,cp,rfl,hl⟩:=DU hv;simp only[V9,dQ]at h;obtain⟨⟨⟨⟨h0,h1⟩,h3⟩,h4⟩,h5⟩:=h;have st:=Bh h5;have ga:=a6 a _ C h4;have gs:=AO es _ C h5;rw[h0];generalize v.2.2=args at h3 h5 st gs ⊢;cases args with
   | nil=>
     cases es with
     | nil=>exact Ku ga h1 hl
     | cons _ _=>rw[Ar]at h5;cases h5
   | cons y ys=>
     rw[WB,V9]at st;exact N9 ga gs h1 hl h3 st.1 st.2
 | .comp own cn js g it t e,r,X,k,N,sc,C,h=>by
   replace h:=a4 h;obtain⟨v,hv,h⟩:=h;replace h:=a4 h;obtain⟨c,hc,h⟩:=h;obtain⟨p,rfl⟩:=GG hv;simp only[V9,dQ]at h;obtain⟨⟨⟨⟨⟨⟨h0,h1⟩,h2⟩,h3⟩,h4⟩,h5⟩,h6⟩:=h;have hI:=Cf it _ _ C h3;have hT:=λs2 H2 cs A fp=>Ga t _ (C.comp h1 s2 H2 cs A fp) h5;have hE:=λs2 H2 cs A fp=>a6 e _ (C.comp h1 s2 H2 cs A fp) h6;rw[A0 hc];obtain⟨tg,ri,ifs,az⟩:=c;have h0:az=0:=h0;subst h0;exact IY C h1 hI (λs2 H2 cs A fp=>BX (C.comp h1 s2 H2 cs A fp) g _ h2) (λs2 H2 cs A fp=>(hT s2 H2 cs A fp).1) (hT X.s₀ X.H₀ [] 0 []).2 (λs2 H2 cs A fp=>(hE s2 H2 cs A fp).pe) (hE X.s₀ X.H₀ [] 0 []).m h4
 | .tyc t,r,X,k,N,sc,C,h=>by
   replace h:=a4 h;obtain⟨x,hx,h⟩:=h;obtain⟨p,rfl⟩:=BR hx;simp only[V9,dQ]at h;obtain⟨⟨rfl,h1⟩,h2⟩:=h;exact Kv C h1 h2
 | .sum2 a,r,X,k,N,sc,C,h=>by
   replace h:=a4 h;obtain⟨v,hv,h⟩:=h;replace h:=a4 h;obtain⟨ra,hra,h⟩:=h;obtain⟨p,q,rfl⟩:=BS hv;simp only[V9,dQ]at h;obtain⟨⟨⟨e1,h1⟩,h3⟩,h4⟩:=h;rw[e1]at h1;rw[A0 hra,e1];exact IR C h1 (a6 a _ C h3) h4
 | .max1 a,r,X,k,N,sc,C,h=>by
   replace h:=a4 h;obtain⟨v,hv,h⟩:=h;replace h:=a4 h;obtain⟨ra,hra,h⟩:=h;obtain⟨p,q,rfl⟩:=BS hv;simp only[V9,dQ]at h;obtain⟨⟨⟨e1,h1⟩,h3⟩,h4⟩:=h;rw[e1]at h1;rw[A0 hra,e1];exact IL C h1 (a6 a _ C h3) h4
 | .dnewp,r,X,k,N,sc,C,h=>by
   replace h:=a4 h;obtain⟨v,hv,h⟩:=h;obtain⟨p,rfl⟩:=DS hv;simp only[V9,Vp]at h;rw[h.1,h.2];exact GM
 | .setd d e v,r,X,k,N,sc,C,h=>by
   replace h:=a4 h;obtain⟨u,hu,h⟩:=h;replace h:=a4 h;obtain⟨ra,hra,h⟩:=h;obtain⟨ap,cp,rfl,hl⟩:=DU hu;simp only[V9,dQ]at h;obtain⟨⟨⟨⟨⟨⟨e1,h1⟩,h2⟩,h3⟩,h4⟩,h5⟩,h6⟩:=h;rw[CF hra,e1];exact IP (XI (XC (by decide) _) C.un) (a6 d _ C h2) (a6 e _ C h3) (a6 v _ C h5) h1 hl h4 h6
 | .dnewl,r,X,k,N,sc,C,h=>by
   replace h:=a4 h;obtain⟨v,hv,h⟩:=h;obtain⟨p,rfl⟩:=DS hv;simp only[V9,Vp]at h;rw[h.1,h.2];exact GO
 | .dget2l d e v,r,X,k,N,sc,C,h=>by
   replace h:=a4 h;obtain⟨u,hu,h⟩:=h;replace h:=a4 h;obtain⟨ra,hra,h⟩:=h;obtain⟨ap,cp,rfl,hl⟩:=DU hu;simp only[V9,dQ]at h;obtain⟨⟨⟨⟨⟨⟨e1,h1⟩,h2⟩,h3⟩,h4⟩,h5⟩,h6⟩:=h;rw[CF hra,e1];exact FL (XI (XC (by decide) _) C.un) (a6 d _ C h2) (a6 e _ C h3) (a6 v _ C h5) h1 hl h4 h6
 | .setdi d e v,r,X,k,N,sc,C,h=>by
   replace h:=a4 h;obtain⟨u,hu,h⟩:=h;replace h:=a4 h;obtain⟨ra,hra,h⟩:=h;obtain⟨ap,cp,rfl,hl⟩:=DU hu;simp only[V9,dQ]at h;obtain⟨⟨⟨⟨⟨⟨e1,h1⟩,h2⟩,h3⟩,h4⟩,h5⟩,h6⟩:=h;rw[CF hra,e1];exact GP (a6 d _ C h2) (a6 e _ C h3) (a6 v _ C h5) h1 hl h4 h6
 | .dvalsl a,r,X,k,N,sc,C,h=>by
   replace h:=a4 h;obtain⟨v,hv,h⟩:=h;replace h:=a4 h;obtain⟨z,hz,h⟩:=h;replace h:=a4 h;obtain⟨u,hu,h⟩:=h;obtain⟨p,q,rfl⟩:=BS hv;obtain⟨ap,cp,rfl,hl⟩:=DU hu;simp only[V9,dQ,Vp]at h;obtain⟨⟨⟨⟨⟨e1,h1⟩,e2⟩,e3⟩,h4⟩,h5⟩:=h;rw[e1]at h1;rw[A0 hz,e1,e2,e3];exact FM C h1 (a6 a _ C h5) h4 hl
 | .mind a d,r,X,k,N,sc,C,h=>by
   replace h:=a4 h;obtain⟨⟨x,as,kw⟩,hv,h⟩:=h;replace h:=a4 h;obtain⟨ra,hra,h⟩:=h;obtain⟨p,q,rfl⟩:=JM hv;obtain⟨ka,kv,kp⟩:=kw;simp only[V9,dQ]at h;obtain⟨⟨⟨⟨⟨e1,h1⟩,h3⟩,h5⟩,h4⟩,e2⟩:=h;subst e1;subst e2;rw[A0 hra];exact IQ (XI (XC (by decide) _) C.un) C h1 (a6 a _ C h3) (a6 d _ C h5) h4
 | .maxd a d,r,X,k,N,sc,C,h=>by
   replace h:=a4 h;obtain⟨⟨x,as,kw⟩,hv,h⟩:=h;replace h:=a4 h;obtain⟨ra,hra,h⟩:=h;obtain⟨p,q,rfl⟩:=JM hv;obtain⟨ka,kv,kp⟩:=kw;simp only[V9,dQ]at h;obtain⟨⟨⟨⟨⟨e1,h1⟩,h3⟩,h5⟩,h4⟩,e2⟩:=h;subst e1;subst e2;rw[A0 hra];exact IM C h1 (a6 a _ C h3) (a6 d _ C h5) h4
 | .eqp a b,r,X,k,N,sc,C,h=>by
   replace h:=a4 h;obtain⟨v,hv,h⟩:=h;replace h:=a4 h;obtain⟨rb,hb,h⟩:=h;obtain⟨p,rfl⟩:=FI hv;simp only[V9,dQ]at h;obtain⟨⟨⟨h0,h1⟩,h2⟩,h3⟩:=h;rw[h0,A0 hb];have ga:=a6 a _ C h1;have gb:=a6 b _ C h2;have:=C.un;exact Kw (by omega) ga.pe gb.pe ga.m gb.m h3
 | .dnew,r,X,k,N,sc,C,h=>by
   replace h:=a4 h;obtain⟨v,hv,h⟩:=h;obtain⟨p,rfl⟩:=DS hv;simp only[V9,Vp]at h;rw[h.1,h.2];exact IN
 | .dget a b,r,X,k,N,sc,C,h=>by
   replace h:=a4 h;obtain⟨v,hv,h⟩:=h;obtain⟨p,rfl⟩:=Ad hv;simp only[V9]at h;have:=C.un;exact IO (by omega) (a6 a _ C h.1.1) (a6 b _ C h.1.2) h.2
 | .no,r,X,k,N,sc,C,h => .never
theorem AO{T:List Str}{Δ:Nat->Sn}:∀(es:Exs) (rs:List Expr) {X:Cx} {k:Nat} {N:List Str} {sc:Z1},Cok T Δ X k N sc->Ar T N sc es rs=true->GoodA X rs (GD Δ es)
 | .nil,rs,X,k,N,sc,C,h=>by
   rw[Ar,Vp]at h;subst h;exact Kr
 | .cons e es,rs,X,k,N,sc,C,h=>by
   rw[Ar]at h;replace h:=a4 h;obtain⟨x,hx,h⟩:=h;simp only[V9]at h;rw[Ae hx];exact II (a6 e _ C h.1.1) (AO es _ C h.2) h.1.2
theorem GZ{T:List Str}{Δ:Nat->Sn}:∀(o:Eo) (r:Option Expr) {X:Cx} {k:Nat} {N:List Str} {sc:Z1},Cok T Δ X k N sc->Mx T N sc o r=true->PO X r (GL X.K (wEo Δ o).1)/\MonoO (wEo Δ o).1
 | .no,r,X,k,N,sc,C,h=>by
   rw[Mx]at h;rw[XQ.mp h];exact⟨UJ,.no⟩
 | .yes e,r,X,k,N,sc,C,h=>by
   rw[Mx]at h;replace h:=a4 h;obtain⟨x,hx,h⟩:=h;subst hx;exact⟨SQ (a6 e _ C h),.yes (a6 e _ C h).m⟩
theorem Ga{T:List Str}{Δ:Nat->Sn}:∀(o:Eo) (rs:List Expr) {X:Cx} {k:Nat} {N:List Str} {sc:Z1},Cok T Δ X k N sc->GH T N sc o rs=true->E4 X rs (liftT X.K (wEo Δ o).2)/\MonoT (wEo Δ o).2
 | .no,rs,X,k,N,sc,C,h=>by
   rw[GH,Vp]at h;subst h;exact⟨NC,λ_ _ _ _ i q=>i _ _ q⟩
 | .yes e,rs,X,k,N,sc,C,h=>by
   rw[GH]at h;replace h:=a4 h;obtain⟨x,hx,h⟩:=h;rw[A0 hx];exact⟨Sa (a6 e _ C h),(a6 e _ C h).mt⟩
theorem Cf{T:List Str}{Δ:Nat->Sn}:∀(it:Itb) (tg r:Expr) {X:Cx} {k:Nat} {N:List Str} {sc:Z1},Cok T Δ X k N sc->PV T N sc it tg r=true->GoodI X tg r (PJ Δ it)
 | .seq e,tg,r,X,k,N,sc,C,h=>by
   exact Ky (a6 e _ C h)
 | .rng1 a,tg,r,X,k,N,sc,C,h=>by
   replace h:=a4 h;obtain⟨v,hv,h⟩:=h;replace h:=a4 h;obtain⟨ra,hra,h⟩:=h;obtain⟨p,q,rfl⟩:=BS hv;simp only[V9,dQ]at h;obtain⟨⟨⟨e1,h1⟩,h2⟩,h3⟩:=h;rw[e1]at h1;rw[A0 hra,e1];exact IV C h1 (a6 a _ C h2) h3
 | .rng2 a b,tg,r,X,k,N,sc,C,h=>by
   replace h:=a4 h;obtain⟨v,hv,h⟩:=h;replace h:=a4 h;obtain⟨ra,hra,h⟩:=h;obtain⟨p,q,rfl⟩:=BS hv;simp only[V9,dQ]at h;obtain⟨⟨⟨⟨⟨e1,h1⟩,h2⟩,h3⟩,h4⟩,h5⟩:=h;rw[e1]at h1;rw[CF hra,e1];exact IW C h1 (a6 a _ C h2) (a6 b _ C h4) h3 h5
 | .enum e,tg,r,X,k,N,sc,C,h=>by
   replace h:((EA tg).isSome&&(vFn r).any λv=>(l1 v.2).any λa=>decide (v.1=("enumerate":Str))&&glo sc v.1&&i9 T N sc e a&&c3 a)=true:=h;rw[V9]at h;obtain⟨ht,h⟩:=h;obtain⟨es,he⟩:=Wo.mp ht;obtain⟨j,tp,rfl⟩:=B4 he;replace h:=a4 h;obtain⟨v,hv,h⟩:=h;replace h:=a4 h;obtain⟨ra,hra,h⟩:=h;obtain⟨p,q,rfl⟩:=BS hv;simp only[V9,dQ]at h;obtain⟨⟨⟨e1,h1⟩,h2⟩,h3⟩:=h;rw[e1]at h1;rw[A0 hra,e1];exact IU C h1 (a6 e _ C h2) h3
end
def Db:Expr->Option Z1
 | .ListComp _ _ s _=>some s
 | .SetComp _ _ s _=>some s
 | .DictComp _ _ _ s _=>some s
 | _=>none
def Eg(sc:Z1)(e:Expr)(x:Str)(px:Pos):Bool:=match Db e with
 | none=>false
 | some s=>sc.names.lookup x == some .local&&px.line == e.pos.line&&!(s.names.any λ(n,k)=>n == x&&(k == .local||k == .cell))
theorem JX{env:Env}{e:Expr}{x:Str}{px:Pos}{l:Nat}(hk:env.scope.kind = .function):ZN e (some (.Name x px)) l env=pure (Eg env.scope e x px):=by
 have hb:env.blockKind = .function:=by unfold Env.blockKind;rw[hk];rfl
 unfold ZN Eg Db
 cases e<;>first
  | rfl
  | (show(pure _:Sem Bool)=_;rw[hb];rfl)
def ND:Expr->Bool
 | .Tuple ..=>false
 | _=>true
def Pe(sc:Z1)(x y:Str)(px py:Pos):Bool:=sc.names.lookup x == some .local&&sc.names.lookup y == some .local&&px.line == py.line&&!(x == y)
def Cg:Expr->Option (Str×Pos)
 | .Name x p=>some (x,p)
 | _=>none
theorem Bi{r:Expr}{x:Str×Pos}(h:Cg r=some x):r = .Name x.1 x.2:=by cases r<;>first | (cases h;rfl) | exact u9 h
def L0:Stmt->Option (List Expr×Expr)
 | .Assign ts e _=>some (ts,e)
 | _=>none
def UQ:Stmt->Option Expr
 | .Expr e _=>some e
 | _=>none
def UR:Stmt->Option (Expr×List Stmt×List Stmt)
 | .If t a b _=>some (t,a,b)
 | _=>none
def US:Stmt->Option (Expr×Expr×List Stmt×List Stmt)
 | .For g i b o _=>some (g,i,b,o)
 | _=>none
def UT:Stmt->Option (List Stmt×List Zx×List Stmt×List Stmt)
 | .Try b h o f _=>some (b,h,o,f)
 | _=>none
def UU:Stmt->Option (Expr×List Stmt×List Stmt)
 | .While t b o _=>some (t,b,o)
 | _=>none
def UV:Stmt->Option (Option Expr)
 | .Return e _=>some e
 | _=>none
def UW:Stmt->Option (Expr×ZS×Expr)
 | .AugAssign t o e _=>some (t,o,e)
 | _=>none
theorem Pf{r:Stmt}{x:Expr×ZS×Expr}(h:UW r=some x):∃ p,r = .AugAssign x.1 x.2.1 x.2.2 p:=by cases r<;>first | (cases h;exact⟨_,rfl⟩) | exact u9 h
def Qk:ZS->Bool
 | .Add=>true
 | _=>false
theorem NE{o:ZS}(h:Qk o=true):o = .Add:=by cases o<;>first | rfl | (cases h;done)
theorem CH{r:Stmt}{x:List Expr×Expr}(h:L0 r=some x):∃ p,r = .Assign x.1 x.2 p:=by cases r<;>first | (cases h;exact⟨_,rfl⟩) | exact u9 h
theorem Pg{r:Stmt}{x:Expr}(h:UQ r=some x):∃ p,r = .Expr x p:=by cases r<;>first | (cases h;exact⟨_,rfl⟩) | exact u9 h
theorem Ph{r:Stmt}{x:Expr×List Stmt×List Stmt}(h:UR r=some x):∃ p,r = .If x.1 x.2.1 x.2.2 p:=by cases r<;>first | (cases h;exact⟨_,rfl⟩) | exact u9 h
theorem Pi{r:Stmt}{x:Expr×Expr×List Stmt×List Stmt}(h:US r=some x):∃ p,r = .For x.1 x.2.1 x.2.2.1 x.2.2.2 p:=by cases r<;>first | (cases h;exact⟨_,rfl⟩) | exact u9 h
theorem Pj{r:Stmt}{x:List Stmt×List Zx×List Stmt×List Stmt}(h:UT r=some x):∃ p,r = .Try x.1 x.2.1 x.2.2.1 x.2.2.2 p:=by cases r<;>first | (cases h;exact⟨_,rfl⟩) | exact u9 h
theorem Pk{r:Stmt}{x:Expr×List Stmt×List Stmt}(h:UU r=some x):∃ p,r = .While x.1 x.2.1 x.2.2 p:=by cases r<;>first | (cases h;exact⟨_,rfl⟩) | exact u9 h
theorem Pl{r:Stmt}{x:Option Expr}(h:UV r=some x):∃ p,r = .Return x p:=by cases r<;>first | (cases h;exact⟨_,rfl⟩) | exact u9 h
def Sb(e:Expr):Bool:=(Mu e).any λv=>(l1 v.2.1).isSome
def UX(e:Expr):Bool:=false
def Ql(sc:Z1)(rt:Expr):Bool:=(EA rt).any λts=>(l2 ts).any λnn=>(Cg nn.1).any λx=>!(sc.names.lookup x.1 == some .local)
def Sc(sc:Z1)(rt re:Expr):Bool:=match Cg rt with
 | some x=>!Eg sc re x.1 x.2||Sb re||UX re
 | none=>(EA rt).isSome&&(ND re||Ql sc rt)
mutual
noncomputable def UY(T:List Str)(N:List Str)(sc:Z1):Stm->Stmt->Bool
 | .asg t e,r=>(L0 r).any λv=>(l1 v.1).any λrt=>BT N.length N sc t rt&&i9 T N sc e v.2&&c3 rt&&Sc sc rt v.2
 | .par i j a b,r=>(L0 r).any λv=>(l1 v.1).any λrt=>(EA rt).any λts=>(l2 ts).any λnn=>(EA v.2).any λvs=>(l2 vs).any λab=>(Cg nn.1).any λx=>(Cg nn.2).any λy=>
    decide (N[i]?=some x.1)&&decide (N[j]?=some y.1)&&decide (i≠j)&&Pe sc x.1 y.1 x.2 y.2&&i9 T N sc a ab.1&&i9 T N sc b ab.2&&c3 ab.1&&c3 ab.2&&!([ab.1,ab.2].all (foldedForSure 8))&&!([ab.1,ab.2].all (A0F 8))
 | .put o i e,r=>(L0 r).any λv=>(l1 v.1).any λrt=>(FH rt).any λoi=>i9 T N sc o oi.1&&i9 T N sc i oi.2&&i9 T N sc e v.2&&t8 oi.2
 | .augS o i e,r=>(UW r).any λv=>(FH v.1).any λoi=>Qk v.2.1&&i9 T N sc o oi.1&&i9 T N sc i oi.2&&i9 T N sc e v.2.2&&t8 oi.2
 | .dputl o i e,r=>(L0 r).any λv=>(l1 v.1).any λrt=>(FH rt).any λoi=>i9 T N sc o oi.1&&i9 T N sc i oi.2&&i9 T N sc e v.2&&t8 oi.2
 | .put2 o i p j e,r=>(L0 r).any λv=>(l1 v.1).any λrt=>(EA rt).any λts=>(l2 ts).any λnn=>(FH nn.1).any λoi=>(FH nn.2).any λpj=>i9 T N sc o oi.1&&i9 T N sc i oi.2&&i9 T N sc p pj.1&&i9 T N sc j pj.2&&i9 T N sc e v.2&&t8 oi.2&&t8 pj.2
 | .expr e,r=>(UQ r).any λre=>i9 T N sc e re&&(Db re).isNone
 | .iff t a b,r=>(UR r).any λv=>i9 T N sc t v.1&&Bv T N sc a v.2.1&&Bv T N sc b v.2.2
 | .loop g it b,r=>(US r).any λv=>BT N.length N sc g v.1&&PV T N sc it v.1 v.2.1&&AK v.2.1&&Bv T N sc b v.2.2.1&&v.2.2.2.isEmpty
 | .tri b,r=>(UT r).any λv=>Bv T N sc b v.1&&!v.2.1.isEmpty&&v.2.2.1.isEmpty&&v.2.2.2.isEmpty
 | .whl t b,r=>(UU r).any λv=>i9 T N sc t v.1&&Bv T N sc b v.2.1&&v.2.2.isEmpty
 | .ret e,r=>(UV r).any λo=>o.any λre=>i9 T N sc e re
 | .no,_=>true
noncomputable def Bv(T:List Str)(N:List Str)(sc:Z1):List Stm->List Stmt->Bool
 | [],r=>r.isEmpty
 | s::ss,r=>(r.head?).any λx=>UY T N sc s x&&Bv T N sc ss r.tail
end
noncomputable def Gb(K:V8)(as:List Yp)(H:Hp)(D:Ends):EndsS where
 nx:=λρ' S'=>∀ as' H' σ',Go as H as' H'->Ok K as' H' S'->EnvOk K as' H' σ' ρ'->D.nx σ' H'
 rt:=Post K as H D.rt
 bk:=λρ' S'=>∀ as' H' σ',Go as H as' H'->Ok K as' H' S'->EnvOk K as' H' σ' ρ'->D.bk σ' H'
 ct:=λρ' S'=>∀ as' H' σ',Go as H as' H'->Ok K as' H' S'->EnvOk K as' H' σ' ρ'->D.ct σ' H'
noncomputable def liftS(K:V8)(w:WS):TS:=λD σ H=>∃ as ρ S,Ok K as H S/\EnvOk K as H σ ρ/\w (Gb K as H D) ρ S
structure Le(D D':EndsS):Prop where
 nx:∀ ρ S,D.nx ρ S->D'.nx ρ S
 rt:∀ x S,D.rt x S->D'.rt x S
 bk:∀ ρ S,D.bk ρ S->D'.bk ρ S
 ct:∀ ρ S,D.ct ρ S->D'.ct ρ S
def MonoS(w:WS):Prop:=∀ D D' ρ S,Le D D'->w D ρ S->w D' ρ S
theorem MonoS.go{w:WS}(m:MonoS w){D D':EndsS}{ρ:EnvS}{S:Sto}(h:w D ρ S)(l:Le D D'):w D' ρ S:=m D D' ρ S l h
theorem Le.go{K:V8}{as as':List Yp}{H H':Hp}{D:Ends}(g:Go as H as' H'):Le (Gb K as H D) (Gb K as' H' D) where
 nx:=λρ S h as2 H2 σ2 g2=>h as2 H2 σ2 (g.trans g2)
 rt:=λx S h=>Post.mono h g
 bk:=λρ S h as2 H2 σ2 g2=>h as2 H2 σ2 (g.trans g2)
 ct:=λρ S h as2 H2 σ2 g2=>h as2 H2 σ2 (g.trans g2)
structure GoodS(X:Cx)(r:Stmt)(w:WS):Prop where
 ps:PS X r (liftS X.K w)
 m:MonoS w
structure GoodSs(X:Cx)(r:List Stmt)(w:WS):Prop where
 ps:PSs X r (liftS X.K w)
 m:MonoS w
theorem v5{X:Cx}{st:Stmt}{t:TS}(t':TS)(h:PS X st t)(imp:∀ D σ H,t' D σ H->t D σ H):PS X st t':=λpq s σ H D I hw=>h pq s σ H D I (imp D σ H hw)
theorem Gc{X:Cx}{st:List Stmt}{t:TS}(t':TS)(h:PSs X st t)(imp:∀ D σ H,t' D σ H->t D σ H):PSs X st t':=λpq s σ H D I hw=>h pq s σ H D I (imp D σ H hw)
section
variable{X:Cx}
theorem IZ:GoodSs X [] (λD ρ S=>D.nx ρ S):=⟨Gc _ ON λD σ H ⟨as,ρ,S,ok,en,h⟩=>h as H σ (Go.refl _ _) ok en,λD D' ρ S l h=>l.nx _ _ h⟩
theorem Ge{s:Stmt}{ss:List Stmt}{w u:WS}(h1:GoodS X s w)(h2:GoodSs X ss u):GoodSs X (s::ss) (λD ρ S=>w {D with nx:=u D} ρ S) where
 ps:=Gc _ (Lg h1.ps h2.ps) (by
  rintro D σ H ⟨as,ρ,S,ok,en,h⟩;refine⟨as,ρ,S,ok,en,h1.m.go h ⟨λρ' S' q as' H' σ' g ok' en'=>?_,λ_ _ h=>h,λ_ _ h=>h,λ_ _ h=>h⟩⟩;exact⟨as',ρ',S',ok',en',h2.m _ _ _ _ (Le.go g) q⟩)
 m:=λD D' ρ S l h=>h1.m.go (D:={D with nx:=u D}) h ⟨λρ' S' q=>h2.m _ _ _ _ l q,l.rt,l.bk,l.ct⟩
theorem Pm{K:V8}{g:Tg}{w:WE}(m:Mono w):∀ D σ H,liftS K (λD ρ S=>w ρ S λx S1=>wTg g x ρ λρ'=>D.nx ρ' S1) D σ H->HX (lift K w) (Ee K g) D σ H:=by
 rintro D σ H ⟨as,ρ,S,ok,en,h⟩;refine⟨as,ρ,S,ok,en,m _ _ _ _ (λx S1 q as1 H1 v g1 ok1 rv=>?_) h⟩;exact⟨as1,ρ,S1,x,ok1,en.mono g1.pre (g1.ku ok),rv,A6 g (λρ' q σ' en'=>q as1 H1 σ' g1 ok1 en') q⟩
theorem Gf{K:V8}{i:Nat}{w:WE}(m:Mono w):∀ D σ H,liftS K (λD ρ S=>w ρ S λx S1=>wTg (.nm i) x ρ λρ'=>D.nx ρ' S1) D σ H->HX (lift K w) (Ip i) D σ H:=by
 rintro D σ H ⟨as,ρ,S,ok,en,h⟩;refine⟨as,ρ,S,ok,en,m _ _ _ _ (λx S1 q as1 H1 v g1 ok1 rv=>?_) h⟩;unfold wTg at q;exact q as1 H1 _ g1 ok1 ((en.mono g1.pre (g1.ku ok)).set rv)
theorem Gg{g:Tg}{w:WE}(m:Mono w):MonoS (λD ρ S=>w ρ S λx S1=>wTg g x ρ λρ'=>D.nx ρ' S1):=λD D' ρ S l h=>m _ _ _ _ (λx S1 q=>A6 g (λρ' q=>l.nx _ _ q) q) h
theorem Sd{K:V8}{t:WT}{a b:WS}(mt:MonoT t)(ma:MonoS a)(mb:MonoS b):∀ D σ H,liftS K (λD ρ S=>t ρ S λc S1=>if c=true then a D ρ S1 else b D ρ S1) D σ H->TL (liftT K t) (liftS K a) (liftS K b) D σ H:=by
 rintro D σ H ⟨as,ρ,S,ok,en,h⟩;refine⟨as,ρ,S,ok,en,mt _ _ _ _ (λc S1 q as1 H1 g1 ok1=>?_) h⟩;refine p8 (λq=>?_) (λq=>?_) q
 ·exact⟨as1,ρ,S1,ok1,en.mono g1.pre (g1.ku ok),ma _ _ _ _ (Le.go g1) q⟩
 ·exact⟨as1,ρ,S1,ok1,en.mono g1.pre (g1.ku ok),mb _ _ _ _ (Le.go g1) q⟩
theorem Bj{keep:Sto->Prop}{g:Tg}{b:WS}(mb:MonoS b):∀(xs:List SV) {D D':EndsS},Le D D'->∀ ρ S,w5 keep g b D xs ρ S->w5 keep g b D' xs ρ S
 | [],D,D',l,ρ,S,h=>by unfold w5 at h ⊢;exact⟨h.1,l.nx _ _ h.2⟩
 | x::xs,D,D',l,ρ,S,h=>by
   unfold w5 at h ⊢;exact⟨h.1,A6 g (λρ2 q=>mb.go (D:={D with nx:=w5 keep g b D xs,ct:=w5 keep g b D xs,bk:=D.nx}) q ⟨Bj mb xs l,l.rt,l.nx,Bj mb xs l⟩) h.2⟩
theorem Pn{K:V8}{g:Tg}{i:WI}{b:WS}(mi:MonoI i)(mb:MonoS b):∀ D σ H,liftS K (λD ρ S=>i ρ S λkeep xs S1=>w5 keep g b D xs ρ S1) D σ H->TX (liftI K i) (Ee K g) (liftS K b) D σ H:=by
 rintro D σ H ⟨as,ρ,S,ok,en,h⟩;refine⟨as,ρ,S,ok,en,mi _ _ _ _ (λkeep xs S1 h as1 H1 J g1 ok1 W=>?_) h⟩
 refine⟨λi m σ2 H2=>m=xs.length - i/\i<=xs.length/\∃ as2 ρ2 S2,Go as1 H1 as2 H2/\Ok K as2 H2 S2/\EnvOk K as2 H2 σ2 ρ2/\w5 keep g b (Gb K as H D) (xs.drop i) ρ2 S2,
  ⟨xs.length,by simp,W8 _,as1,ρ,S1,Go.refl _ _,ok1,en.mono g1.pre (g1.ku ok),h⟩,?_⟩
 rintro i m σ2 H2 ⟨rfl,hi,as2,ρ2,S2,g2,ok2,en2,h⟩;by_cases hlt:i<xs.length
 ·right;rw[Wf hlt]at h;unfold w5 at h;obtain⟨kp,h⟩:=h;obtain⟨w1,_⟩:=W as2 H2 S2 (g2.gu ok1) ok2 kp;obtain⟨go,yl⟩:=w1 i xs[i] (VE hlt);refine⟨go,λσ' H'=>∃ as2 ρ2 S2,Go as1 H1 as2 H'/\Ok K as2 H' S2/\EnvOk K as2 H' σ' ρ2/\w5 keep g b (Gb K as H D) (xs.drop (i+1)) ρ2 S2,λσ' H' z=>⟨xs.length - (i+1),by omega,rfl,hlt,z⟩,λx H3 y3=>?_⟩;obtain⟨g3,ok3,rx⟩:=yl x H3 y3;refine⟨as2,ρ2,S2,_,ok3,en2.mono g3.pre (g3.ku ok2),rx,A6 g (λρ3 q σ3 en3=>?_) h⟩;have g03:=(g1.trans g2).trans g3;refine⟨as2,ρ3,S2,ok3,en3,mb.go q ⟨λρ' S' q as' H' σ' g' ok' en'=>?_,λx S h=>Post.mono h g03,λρ' S' q as' H' σ' g' ok' en'=>q as' H' σ' (g03.trans g') ok' en',λρ' S' q as' H' σ' g' ok' en'=>?_⟩⟩
  ·exact⟨as',ρ',S',(g2.trans g3).trans g',ok',en',q⟩
  ·exact⟨as',ρ',S',(g2.trans g3).trans g',ok',en',q⟩
 ·left;have hi':i=xs.length:=by omega
  subst hi';rw[Xe]at h;unfold w5 at h;obtain⟨kp,h⟩:=h;obtain⟨_,w2⟩:=W as2 H2 S2 (g2.gu ok1) ok2 kp;exact⟨w2,h as2 H2 σ2 (g1.trans g2) ok2 en2⟩
theorem Gh{t:WT}{b:WS}(mt:MonoT t)(mb:MonoS b):MonoS (SK t b):=λD D' ρ S l ⟨W,w0,h⟩=>⟨W,w0,λm ρ S w=>mt _ _ _ _ (λc S1 q=>p8 (λq=>mb.go (D:={D with nx:=λρ' S'=>∃ m',m'<m/\W m' ρ' S',ct:=λρ' S'=>∃ m',m'<m/\W m' ρ' S',bk:=D.nx}) q ⟨λ_ _ h=>h,l.rt,l.nx,λ_ _ h=>h⟩) (λq=>l.nx _ _ q) q) (h m ρ S w)⟩
theorem Po{K:V8}{t:WT}{b:WS}(mt:MonoT t)(mb:MonoS b):∀ D σ H,liftS K (SK t b) D σ H->Lk (liftT K t) (liftS K b) D σ H:=by
 rintro D σ H ⟨as,ρ,S,ok,en,W,⟨m0,w0⟩,h⟩;refine⟨λm σ1 H1=>∃ as1 ρ1 S1,Go as H as1 H1/\Ok K as1 H1 S1/\EnvOk K as1 H1 σ1 ρ1/\W m ρ1 S1,⟨m0,as,ρ,S,Go.refl _ _,ok,en,w0⟩,?_⟩;rintro m σ1 H1 ⟨as1,ρ1,S1,g1,ok1,en1,w1⟩;refine⟨as1,ρ1,S1,ok1,en1,mt _ _ _ _ (λc S2 q as2 H2 g2 ok2=>?_) (h m ρ1 S1 w1)⟩;refine p8 (λq=>?_) (λq=>q as2 H2 σ1 (g1.trans g2) ok2 (en1.mono g2.pre (g2.ku ok1))) q;refine⟨λσ' H'=>∃ m',m'<m/\∃ as1 ρ1 S1,Go as H as1 H'/\Ok K as1 H' S1/\EnvOk K as1 H' σ' ρ1/\W m' ρ1 S1,λσ' H' z=>z,?_⟩;refine⟨as2,ρ1,S2,ok2,en1.mono g2.pre (g2.ku ok1),mb.go q ⟨λρ' S' ⟨m',hm,w'⟩ as' H' σ' g' ok' en'=>?_,λx S h=>Post.mono h (g1.trans g2),λρ' S' q as' H' σ' g' ok' en'=>q as' H' σ' ((g1.trans g2).trans g') ok' en',λρ' S' ⟨m',hm,w'⟩ as' H' σ' g' ok' en'=>?_⟩⟩
 ·exact⟨m',hm,as',ρ',S',(g1.trans g2).trans g',ok',en',w'⟩
 ·exact⟨m',hm,as',ρ',S',(g1.trans g2).trans g',ok',en',w'⟩
theorem Pp{K:V8}{i j:Nat}{a b:WE}(ma:Mono a)(mb:Mono b):∀ D σ H,liftS K (λD ρ S=>a ρ S λx S1=>b ρ S1 λy S2=>D.nx ((ρ.set i (some x)).set j (some y)) S2) D σ H->TR i j (Fi (lift K a) (Fi (lift K b) RY)) D σ H:=by
 rintro D σ H ⟨as,ρ,S,ok,en,h⟩;refine⟨as,ρ,S,ok,en,ma _ _ _ _ (λx S1 q as1 H1 v g1 ok1 rv=>?_) h⟩;refine⟨as1,ρ,S1,ok1,en.mono g1.pre (g1.ku ok),mb _ _ _ _ (λy S2 q as2 H2 u g2 ok2 ru=>?_) q⟩;refine⟨v,u,rfl,q as2 H2 _ (g1.trans g2) ok2 ?_⟩;exact(((en.mono g1.pre (g1.ku ok)).mono g2.pre (g2.ku ok1)).set (Rl.mono g2.pre (g2.ku ok1) x v rv)).set ru
theorem A7{x y v:SV}{S:Sto}{P P':Sto->Prop}(i:∀ S,P S->P' S)(h:Ca x y v S P):Ca x y v S P':=by
 unfold Ca at h ⊢;split at h
 ·obtain⟨xs,j,a,b,c⟩:=h;exact⟨xs,j,a,b,i _ c⟩
 ·exact h.elim
theorem D1{K:V8}{as:List Yp}{H:Hp}{S:Sto}{x y z:SV}{o i v:V}{Q:Hp->Prop}(ok:Ok K as H S)(ro:Rl K as H o x)(ri:Rl K as H i y)(rv:Rl K as H v z)(h:Ca x y z S λS'=>∀ H',Go as H as H'->Ok K as H' S'->Q H'):EM o i v H Q:=by
 cases x with
 | loc k=>
   cases y with
   | int n=>
     obtain⟨xs,j,h1,h2,h3⟩:=h;obtain⟨a,vs,rfl,ea,ha,ra⟩:=t4 ok ro h1;rw[rl_int]at ri;subst ri;refine⟨a,vs,n,j,rfl,rfl,ha,by rw[ra.length];exact h2,h3 _ (Go.write (VC ea)) (ok.write h1 ea (ra.set rv j)).1⟩
   | _=>exact False.elim h
 | _=>exact False.elim h
theorem Pq{K:V8}{o i e:WE}(mo:Mono o)(mi:Mono i)(me:Mono e):∀ D σ H,liftS K (λD ρ S=>e ρ S λv S1=>o ρ S1 λx S2=>i ρ S2 λy S3=>Ca x y v S3 λS4=>D.nx ρ S4) D σ H->HX (lift K e) (OQ (lift K o) (lift K i) EM) D σ H:=by
 rintro D σ H ⟨as,ρ,S,ok,en,h⟩;refine⟨as,ρ,S,ok,en,me _ _ _ _ (λz S1 q as1 H1 v g1 ok1 rv=>?_) h⟩;have en1:=en.mono g1.pre (g1.ku ok);refine⟨as1,ρ,S1,ok1,en1,mo _ _ _ _ (λx S2 q as2 H2 u g2 ok2 ru=>?_) q⟩;have en2:=en1.mono g2.pre (g2.ku ok1);refine⟨as2,ρ,S2,ok2,en2,mi _ _ _ _ (λy S3 q as3 H3 t g3 ok3 rt=>?_) q⟩;have en3:=en2.mono g3.pre (g3.ku ok2);refine D1 ok3 (Rl.mono g3.pre (g3.ku ok2) x u ru) rt (Rl.mono (g2.trans g3).pre ((g2.trans g3).ku ok1) z v rv) (A7 (λS4 q H4 g4 ok4=>?_) q);exact q as3 H4 σ (((g1.trans g2).trans g3).trans g4) ok4 (en3.mono g4.pre (g4.ku ok3))
theorem Bk{n j:Nat}(h:j<n):ixN n (j:Int)=some j:=by
 unfold ixN;rw[iP (by omega),iP (by omega)];simp
def UZ(K:V8):V->V->Hp->VK->Prop:=λx y H Q=>∃ p xs v,∃ i:Nat,x = .ref p/\y = .int i/\SqL K H p xs/\xs[i]?=some v/\Q v H
theorem Se{X:Cx}:TU X (UZ X.K):=by
 intro pq s σ H x y v u Q I rx ry h;obtain⟨p,xs,z,i,rfl,rfl,hq,he,q⟩:=h;cases rx;obtain⟨t,rfl⟩:=ry;obtain⟨its,r,pl,hz⟩:=I.list hq;obtain⟨w,ew,rw'⟩:=r.get he;have hl:=r.length;have hn:=Bx;have hi:=(gM he).1;exact wpAny_getItem_list pl.isList (XJ _) (by omega) (by rw[WZ];simpa using ew) ⟨z,H,I,rw',q⟩
theorem Pr{K:V8}{o i e:WE}(mo:Mono o)(mi:Mono i)(me:Mono e):∀ D σ H,liftS K (λD ρ S=>o ρ S λx S1=>i ρ S1 λy S2=>∃(k:Nat) (j:Nat) (xs:List SV) (a:Int),x = .loc k/\y = .int j/\S2[k]?=some (.lst xs)/\xs[j]?=some (.int a)/\e ρ S2 λv S4=>∃(b:Int) (ys:List SV),v = .int b/\S4[k]?=some (.lst ys)/\j<ys.length/\D.nx ρ (S4.set k (.lst (ys.set j (.int (a+b)))))) D σ H->QS (lift K o) (lift K i) (lift K e) (UZ K) (ipI λi j=>i+j) EM D σ H:=by
 rintro D σ H ⟨as,ρ,S,ok,en,h⟩;refine⟨as,ρ,S,ok,en,mo _ _ _ _ (λx S1 q as1 H1 u g1 ok1 ru=>?_) h⟩;have en1:=en.mono g1.pre (g1.ku ok);refine⟨as1,ρ,S1,ok1,en1,mi _ _ _ _ (λy S2 q as2 H2 t g2 ok2 rt=>?_) q⟩;have en2:=en1.mono g2.pre (g2.ku ok1);have ru2:=Rl.mono g2.pre (g2.ku ok1) x u ru;obtain⟨k,j,xs,a,rfl,rfl,h1,h2,q⟩:=q;obtain⟨p,vs,rfl,ea,ha,ra⟩:=t4 ok2 ru2 h1;rw[rl_int]at rt;subst rt;obtain⟨v0,e0,r0⟩:=ra.get h2;rw[rl_int]at r0;subst r0;refine⟨p,vs,_,j,rfl,rfl,SqL.of ha,e0,as2,ρ,S2,ok2,en2,me _ _ _ _ (λd S4 ⟨b,ys,e2,h4,hj,q⟩ as4 H4 z g4 ok4 rz=>?_) q⟩;subst e2;rw[rl_int]at rz;have en4:=en2.mono g4.pre (g4.ku ok2);refine⟨a,b,rfl,rz,D1 ok4 (Rl.mono g4.pre (g4.ku ok2) (.loc k) (.ref p) ru2) (rl_int.mpr rfl) (rl_int.mpr rfl) (show Ca (.loc k) (.int j) (.int (a+b)) S4 _ from ⟨ys,j,h4,Bk hj,λH5 g5 ok5=>?_⟩)⟩;exact q as4 H5 σ (((g1.trans g2).trans g4).trans g5) ok5 (en4.mono g5.pre (g5.ku ok4))
theorem Eh{x y v:SV}{S:Sto}{Q Q':Sto->Prop}(i:∀ S',Q S'->Q' S')(h:JI x y v S Q):JI x y v S Q':=let ⟨k,j,kvs,a,b,c,d,q⟩:=h;⟨k,j,kvs,a,b,c,d,i _ q⟩
theorem L1{K:V8}{o i e:WE}(mo:Mono o)(mi:Mono i)(me:Mono e):∀ D σ H,liftS K (λD ρ S=>e ρ S λv S1=>o ρ S1 λx S2=>i ρ S2 λy S3=>JI x y v S3 λS4=>D.nx ρ S4) D σ H->QZ (lift K o) (lift K i) (lift K e) D σ H:=by
 rintro D σ H ⟨as,ρ,S,ok,en,h⟩;refine⟨as,ρ,S,ok,en,me _ _ _ _ (λz S1 q as1 H1 v g1 ok1 rv=>?_) h⟩;have en1:=en.mono g1.pre (g1.ku ok);refine⟨as1,ρ,S1,ok1,en1,mo _ _ _ _ (λx S2 q as2 H2 u g2 ok2 ru=>?_) q⟩;have en2:=en1.mono g2.pre (g2.ku ok1);refine⟨as2,ρ,S2,ok2,en2,mi _ _ _ _ (λy S3 q as3 H3 t g3 ok3 rt=>?_) q⟩;have en3:=en2.mono g3.pre (g3.ku ok2);have ru':=Rl.mono g3.pre (g3.ku ok2) x u ru;have rv':=Rl.mono (g2.trans g3).pre ((g2.trans g3).ku ok1) z v rv;obtain⟨k,ks,kvs,rfl,rfl,hk,hb,q⟩:=q;obtain⟨a,ea,rfl⟩:=rl_loc.mp ru';obtain⟨p,rfl,hp⟩:=GN rt;obtain⟨us,h1,h2⟩:=ok3.obj k _ a hk ea;obtain⟨ok4,ku⟩:=ok3.writeO (x := .dtl (EW kvs ks z)) (u := .dT (Aa us (ks.map Sum.inl) v)) hk ea (λku=>⟨_,m9,RlT.mono (Vo _) ku _ _ (h2.put rv' ks)⟩);refine⟨a,_,rfl,DPut.t h1 hp (by rw[h2.length];exact F0 hb),?_⟩;exact q as3 _ σ (((g1.trans g2).trans g3).trans (Go.write (VC ea))) ok4 (en3.mono (Vo _) ku)
theorem NF{K:V8}{o i p j e:WE}(mo:Mono o)(mi:Mono i)(mp:Mono p)(mj:Mono j)(me:Mono e):∀ D σ H,liftS K (λD ρ S=>e ρ S λu S1=>∃ v w,u = .tup [v,w]/\o ρ S1 λx S2=>i ρ S2 λy S3=>Ca x y v S3 λS4=>p ρ S4 λx S5=>j ρ S5 λy S6=>Ca x y w S6 λS7=>D.nx ρ S7) D σ H->HX (lift K e) (TQ K 2 (Li (OQ (lift K o) (lift K i) EM) (Li (OQ (lift K p) (lift K j) EM) TN))) D σ H:=by
 rintro D σ H ⟨as,ρ,S,ok,en,h⟩;refine⟨as,ρ,S,ok,en,me _ _ _ _ (λz S1 ⟨v,w,ez,q⟩ as1 H1 uv g1 ok1 rv=>?_) h⟩;subst ez;obtain⟨a,vs,rfl,ha,rr⟩:=rl_tup.mp rv;obtain⟨v1,t1,rfl,rv1,rr⟩:=rla_cons.mp rr;obtain⟨v2,t2,rfl,rv2,rr⟩:=rla_cons.mp rr;obtain rfl:=rla_nil.mp rr;have en1:=en.mono g1.pre (g1.ku ok);refine⟨a,_,rfl,SqT.of ha,rfl,v1,_,rfl,as1,ρ,S1,ok1,en1,mo _ _ _ _ (λx S2 q as2 H2 u g2 ok2 ru=>?_) q⟩;have en2:=en1.mono g2.pre (g2.ku ok1);refine⟨as2,ρ,S2,ok2,en2,mi _ _ _ _ (λy S3 q as3 H3 t g3 ok3 rt=>?_) q⟩;have en3:=en2.mono g3.pre (g3.ku ok2);refine D1 ok3 (Rl.mono g3.pre (g3.ku ok2) x u ru) rt (Rl.mono (g2.trans g3).pre ((g2.trans g3).ku ok1) _ _ rv1) (A7 (λS4 q H4 g4 ok4=>?_) q);have en4:=en3.mono g4.pre (g4.ku ok3);have G4:=(g2.trans g3).trans g4;refine⟨v2,_,rfl,as3,ρ,S4,ok4,en4,mp _ _ _ _ (λx S5 q as5 H5 u5 g5 ok5 ru5=>?_) q⟩;have en5:=en4.mono g5.pre (g5.ku ok4);refine⟨as5,ρ,S5,ok5,en5,mj _ _ _ _ (λy S6 q as6 H6 t6 g6 ok6 rt6=>?_) q⟩;have en6:=en5.mono g6.pre (g6.ku ok5);have G6:=(G4.trans g5).trans g6;refine D1 ok6 (Rl.mono g6.pre (g6.ku ok5) x u5 ru5) rt6 (Rl.mono G6.pre (G6.ku ok1) _ _ rv2) (A7 (λS7 q H7 g7 ok7=>⟨rfl,?_⟩) q);exact q as6 H7 σ ((g1.trans G6).trans g7) ok7 (en6.mono g7.pre (g7.ku ok6))
end
theorem Ia{env:Env}{es:List Expr}{k:Nat}{p:Pos}{e:Expr}{l:Nat}:ZZ [.Tuple es k p] e l env=pure false:=by
 unfold ZZ ZN;cases e<;>rfl
theorem Sf{env:Env}{o i:Expr}{p:Pos}{e:Expr}{l:Nat}:ZZ [.Subscript o i p] e l env=pure false:=by
 unfold ZZ ZN;cases e<;>rfl
theorem Sg{env:Env}{es:List Expr}{k:Nat}{p:Pos}{e:Expr}(h:ND e=true):Z4 [.Tuple es k p] e env=pure none:=by
 unfold Z4;cases e<;>first | rfl | cases h
theorem Ps{env:Env}{x:Str}{px p:Pos}{t2:Expr}{k:Nat}{e:Expr}(h:(env.scope.names.lookup x == some NameKind.local)=false):Z4 [.Tuple [.Name x px,t2] k p] e env=pure none:=by
 have kx:(env.kindOf x == some NameKind.local)=false:=h;cases e with
 | Tuple vs k2 p2=>
   unfold Z4
   have key:∀ f:Expr->Option Str,f (.Name x px)=none->((YX f [.Name x px,t2]).length != [Expr.Name x px,t2].length)=true:=λf hf=>by
    rw[Xa hf];have:=Xb f [t2];simp only[Vb,W6]at this ⊢;rw[bne_iff_ne];omega
   dsimp only;split
   ·rfl
   ·split
    ·rfl
    ·rw[key _ (by show(if (env.kindOf x == some NameKind.local&&_)=true then some x else none)=none;rw[kx];rfl),YA];rfl
 | _=>rfl
theorem Pt{env:Env}{o i:Expr}{px p:Pos}{t2:Expr}{k:Nat}{e:Expr}:Z4 [.Tuple [.Subscript o i px,t2] k p] e env=pure none:=by
 cases e with
 | Tuple vs k2 p2=>
   unfold Z4
   have key:∀ f:Expr->Option Str,f (.Subscript o i px)=none->((YX f [.Subscript o i px,t2]).length != [Expr.Subscript o i px,t2].length)=true:=λf hf=>by
    rw[Xa hf];have:=Xb f [t2];simp only[Vb,W6]at this ⊢;rw[bne_iff_ne];omega
   dsimp only;split
   ·rfl
   ·split
    ·rfl
    ·rw[key _ rfl,YA];rfl
 | _=>rfl
theorem Sh{env:Env}{o i:Expr}{p:Pos}{e:Expr}:Z4 [.Subscript o i p] e env=pure none:=by
 unfold Z4;cases e<;>rfl
theorem Si{env:Env}{x y:Str}{px py pt pt2:Pos}{k k2:Nat}{a b:Expr}(hk:env.scope.kind = .function)(h:Pe env.scope x y px py=true)(ha:c3 a=true)(hb:c3 b=true)(h1:([a,b].all (foldedForSure 8))=false)(h2:([a,b].all (A0F 8))=false):
 Z4 [.Tuple [.Name x px,.Name y py] k pt] (.Tuple [a,b] k2 pt2) env=pure (some [x,y]):=by
 have hbk:env.blockKind = .function:=by unfold Env.blockKind;rw[hk];rfl
 unfold Pe at h;simp only[V9,beq_iff_eq,Vi,beq_eq_false_iff_ne]at h;obtain⟨⟨⟨hx,hy⟩,hl⟩,hne⟩:=h;have kx:env.kindOf x=some .local:=hx;have ky:env.kindOf y=some .local:=hy
 have ed:([x,y]:List Str).eraseDups.length=2:=by
  have:(y == x)=false:=by rw[beq_eq_false_iff_ne];exact λz=>hne z.symm
  rw[List.eraseDups_cons,WN,this];rfl
 unfold Z4;simp only[Vb,W6,hbk,h1,h2,List.head?_cons,WV,YI,Expr.pos,X4,List.filterMap_nil,kx,ky,hl];refine(iG (by decide)).trans ((iG (λz=>?_)).trans ?_)
 ·simp only[WC,Yh,Yc,Vx]at z;rcases z with z | z
  ·cases a<;>first | (cases z;done) | cases ha
  ·cases b<;>first | (cases z;done) | cases hb
 ·rw[show(some NameKind.local == some NameKind.local&&py.line == py.line)=true by simp];simp only[if_true];refine(iG (by rw[ed];simp)).trans ?_;refine(iG (by simp)).trans ((iG (by simp)).trans rfl)
theorem Gi{t:WT}{a b:WS}(mt:MonoT t)(ma:MonoS a)(mb:MonoS b):MonoS (λD ρ S=>t ρ S λc S1=>if c=true then a D ρ S1 else b D ρ S1):=λD D' ρ S l h=>mt _ _ _ _ (λc S1 q=>p8 (λq=>ma.go q l) (λq=>mb.go q l) q) h
section
variable{T:List Str}{Δ:Nat->Sn}{X:Cx}{N:List Str}{sc:Z1}
theorem NG{env:Env}{e:Expr}(h:c3 e=true):(ZF [e] env).map (·.2)=[assign e env]:=by cases e<;>first | rfl | cases h
theorem C3{env:Env}{o i:Expr}{p:Pos}(h:t8 i=true):∀ v,assign (.Subscript o i p) env v=(do
 let ov <- holding [v] (eval o env)
 let iv <- holding [v,ov] (eval i env)
 standAt p
 holding [v,ov,iv] (setItem ov iv v)
 release [v,ov,iv] []):=λv=>by cases i<;>first | rfl | cases h
theorem Pu{i:Expr}(h:t8 i=true):∀ ov iv new,augStore i ov iv new=(do holding [new,ov,iv] (setItem ov iv new);release [new,ov,iv] [];pure .next):=λ_ _ _=>by cases i<;>first | rfl | cases h
theorem L5(C:Cok T Δ X N.length N sc)(hk:sc.kind = .function){t:Tg}{e:Ex}{rt re:Expr}{pos:Pos}(h1:BT N.length N sc t rt=true)(h2:i9 T N sc e re=true)(h3:c3 rt=true)(h4:Sc sc rt re=true):PS X (.Assign [rt] re pos) (liftS X.K λD ρ S=>(wEx Δ e).1 ρ S λx S1=>wTg t x ρ λρ'=>D.nx ρ' S1):=by
 have ge:=a6 e re C h2;unfold Sc at h4;cases hv:Cg rt with
 | none=>
   rw[hv]at h4;rw[V9]at h4;obtain⟨es,hes⟩:=Wo.mp h4.1;obtain⟨j,p,rfl⟩:=B4 hes
   have hw:Z4 [.Tuple es j p] re X.env=pure none:=by
    rcases(Vx _ _).mp h4.2 with z | z
    ·exact Sg z
    ·unfold Ql at z;replace z:=a4 z;obtain⟨ts,hts,z⟩:=z;replace z:=a4 z;obtain⟨nn,hnn,z⟩:=z;replace z:=a4 z;obtain⟨y,hy,z⟩:=z;rw[hts]at hes;cases hes;rw[CF hnn,Bi hy];exact Ps (by rw[C.hs];simpa using z)
   exact v5 _ (HY ge.pe (BX C t _ h1) Ia hw (NG rfl)) (Pm ge.m)
 | some xp=>
   rw[hv]at h4;have e0:=Bi hv;obtain⟨x,px⟩:=xp;subst e0;cases t with
   | tup ts=>rw[BT]at h1;cases h1
   | nm i=>
     rw[BT]at h1;have h1:(decide (i<N.length)&&decide (N[i]?=some x)&&loc sc x)=true:=h1;simp only[V9,dQ]at h1;obtain⟨⟨hi,hx⟩,hl⟩:=h1;unfold loc at hl;simp only[Vx,beq_iff_eq]at hl;have hND:X.N.Nodup:=by rw[C.hN];exact C.nd
     have hNi:X.N[i]?=some x:=by rw[C.hN];exact hx
     have hloc:Loc X.env.scope x:=by rw[C.hs];exact hl
     have hf:X.fn x=true\/X.env.scope.names.lookup x=some .local:=by
      rw[C.hs];rcases hl with hl | hl
      ·exact .inr hl
      ·exact .inl (C.fn i x hi hx hl)
     have hke:X.env.scope.kind = .function:=by rw[C.hs];exact hk
     cases hsw:Eg sc re x px with
     | false=>exact v5 _ (RL hND hNi hloc ge.pe (by rw[JX hke,C.hs,hsw]) hf) (Gf ge.m)
     | true=>
       have h4:(!Eg sc re x px||Sb re||UX re)=true:=h4;rw[hsw,Bool.not_true,Yb,Vx]at h4;rcases h4 with h4 | h4
       ·unfold Sb at h4;obtain⟨v,hv',h4⟩:=a4 h4;obtain⟨gen,hgen⟩:=Wo.mp h4;obtain⟨p',rfl⟩:=GG hv';rw[A0 hgen]at h2 ge hsw ⊢
        have hxl:X.env.scope.names.lookup x=some .local:=by
         rw[C.hs];unfold Eg Db at hsw;simp only[V9,beq_iff_eq]at hsw;exact hsw.1.1
        have hs1:ZN (.ListComp v.1 [gen] v.2.2 p') (some (.Name x px)) pos.line X.env=pure true:=by rw[JX hke,C.hs,hsw]
        cases e with
        | comp own cn js g it t' e'=>
          obtain⟨tg,ri,ifs,az⟩:=gen;have h2:(decide (az=0)&&AA sc v.2.2 own cn N js&&BT own.length (own++cn) (GE v.2.2 sc) g tg&&PV T N sc it tg ri&&AK ri&&GH T (own++cn) (GE v.2.2 sc) t' ifs&&i9 T (own++cn) (GE v.2.2 sc) e' v.1)=true:=h2;simp only[V9,dQ]at h2;obtain⟨⟨⟨⟨⟨⟨k0,k1⟩,k2⟩,k3⟩,k4⟩,k5⟩,k6⟩:=h2;subst k0;have hI:=Cf it _ _ C k3;have hT:=λs2 H2 cs A fp=>Ga t' _ (C.comp k1 s2 H2 cs A fp) k5;have hE:=λs2 H2 cs A fp=>a6 e' _ (C.comp k1 s2 H2 cs A fp) k6;have mt:=(hT X.s₀ X.H₀ [] 0 []).2;have me:=(hE X.s₀ X.H₀ [] 0 []).m;have b:=Hn (i:=i) (g:=Ee X.K g) (tt:=liftT X.K (wEo Δ t').2) (te:=lift X.K (wEx Δ e').1) own cn js hND hNi hxl hI.pi (λs2 H2 cs A fp=>BX (C.comp k1 s2 H2 cs A fp) g _ k2) (λs2 H2 cs A fp=>(hT s2 H2 cs A fp).1) (λs2 H2 cs A fp=>(hE s2 H2 cs A fp).pe) C.calm (by rw[C.hs,C.hN];exact k1) hs1 (Al k4);refine v5 _ b λD σ H h=>?_;have:=Gf ge.m D σ H h;exact GX hI.m mt me σ H _ this
        | no=>exact λ_ _ _ _ _ _ h=>let ⟨_,_,_,_,_,z⟩:=h;z.elim
        | _=>exact absurd h2 nofun
       ·exact YM (show false=true from h4)
mutual
theorem NH(C:Cok T Δ X N.length N sc)(hp:A0q (Yt X.prog X.w) X.A X.env X.xe)(nx:∀ e s,¬ X.xe e s)(hk:sc.kind = .function):∀(s:Stm) (r:Stmt),UY T N sc s r=true->GoodS X r (wSt Δ s)
 | .asg t e,r,h=>by
   replace h:=a4 h;obtain⟨v,hv,h⟩:=h;replace h:=a4 h;obtain⟨rt,hrt,h⟩:=h;obtain⟨pos,rfl⟩:=CH hv;simp only[V9]at h;obtain⟨⟨⟨h1,h2⟩,h3⟩,h4⟩:=h;rw[A0 hrt];exact⟨L5 C hk h1 h2 h3 h4,Gg (a6 e _ C h2).m⟩
 | .par i j a b,r,h=>by
   replace h:=a4 h;obtain⟨v,hv,h⟩:=h;replace h:=a4 h;obtain⟨rt,hrt,h⟩:=h;replace h:=a4 h;obtain⟨ts,hts,h⟩:=h;replace h:=a4 h;obtain⟨nn,hnn,h⟩:=h;replace h:=a4 h;obtain⟨vs,hvs,h⟩:=h;replace h:=a4 h;obtain⟨ab,hab,h⟩:=h;replace h:=a4 h;obtain⟨x,hx',h⟩:=h;replace h:=a4 h;obtain⟨y,hy',h⟩:=h;obtain⟨pos,rfl⟩:=CH hv;simp only[V9,dQ,Vi]at h;obtain⟨⟨⟨⟨⟨⟨⟨⟨⟨hx,hy⟩,hij⟩,hpar⟩,h1⟩,h2⟩,h3⟩,h4⟩,h5⟩,h6⟩:=h;obtain⟨j1,p1,e1⟩:=B4 hts;obtain⟨j2,p2,e2⟩:=B4 hvs;rw[A0 hrt,e1,CF hnn,e2,CF hab,Bi hx',Bi hy'];have ga:=a6 a _ C h1;have gb:=a6 b _ C h2;have hp2:=hpar;unfold Pe at hp2;simp only[V9,beq_iff_eq]at hp2;have hke:X.env.scope.kind = .function:=by rw[C.hs];exact hk
   refine⟨v5 _ (RM (i:=i) (j:=j) C.calm (by rw[C.hN];exact C.nd) (by rw[C.hN];exact hx) (by rw[C.hN];exact hy) hij (by rw[C.hs];exact hp2.1.1.1) (by rw[C.hs];exact hp2.1.1.2) (y1 ga.pe (y1 gb.pe Az (f9 h4)) (f9 h3)) (Si hke (by rw[C.hs];exact hpar) h3 h4 h5 h6) Ia) (Pp ga.m gb.m),?_⟩;exact λD D' ρ S l h=>ga.m _ _ _ _ (λx S1 q=>gb.m _ _ _ _ (λy S2 q=>l.nx _ _ q) q) h
 | .put o i e,r,h=>by
   replace h:=a4 h;obtain⟨v,hv,h⟩:=h;replace h:=a4 h;obtain⟨rt,hrt,h⟩:=h;replace h:=a4 h;obtain⟨oi,hoi,h⟩:=h;obtain⟨pos,rfl⟩:=CH hv;obtain⟨p2,e2⟩:=Ad hoi;simp only[V9]at h;rw[A0 hrt,e2];have go:=a6 o _ C h.1.1.1;have gi:=a6 i _ C h.1.1.2;have ge:=a6 e _ C h.1.2;refine⟨v5 _ (HY ge.pe (HW go.pe gi.pe C9 (C3 h.2)) Sf Sh (NG rfl)) (Pq go.m gi.m ge.m),?_⟩;exact λD D' ρ S l h=>ge.m _ _ _ _ (λv S1 q=>go.m _ _ _ _ (λx S2 q=>gi.m _ _ _ _ (λy S3 q=>A7 (λS4 q=>l.nx _ _ q) q) q) q) h
 | .augS o i e,r,h=>by
   replace h:=a4 h;obtain⟨v,hv,h⟩:=h;replace h:=a4 h;obtain⟨oi,hoi,h⟩:=h;obtain⟨pos,rfl⟩:=Pf hv;obtain⟨p2,e2⟩:=Ad hoi;simp only[V9]at h;rw[NE h.1.1.1.1,e2];have go:=a6 o _ C h.1.1.1.2;have gi:=a6 i _ C h.1.1.2;have ge:=a6 e _ C h.1.2;refine⟨v5 _ (OR go.pe gi.pe Se ge.pe RN C9 (Pu h.2)) (Pr go.m gi.m ge.m),?_⟩;exact λD D' ρ S l h=>go.m _ _ _ _ (λx S1 q=>gi.m _ _ _ _ (λy S2 ⟨k,j,xs,a,e1,e2,h1,h2,q⟩=>⟨k,j,xs,a,e1,e2,h1,h2,ge.m _ _ _ _ (λv S4 ⟨b,ys,e1,h4,h5,q⟩=>⟨b,ys,e1,h4,h5,l.nx _ _ q⟩) q⟩) q) h
 | .dputl o i e,r,h=>by
   replace h:=a4 h;obtain⟨v,hv,h⟩:=h;replace h:=a4 h;obtain⟨rt,hrt,h⟩:=h;replace h:=a4 h;obtain⟨oi,hoi,h⟩:=h;obtain⟨pos,rfl⟩:=CH hv;obtain⟨p2,e2⟩:=Ad hoi;simp only[V9]at h;rw[A0 hrt,e2];have go:=a6 o _ C h.1.1.1;have gi:=a6 i _ C h.1.1.2;have ge:=a6 e _ C h.1.2;have:=C.un;refine⟨v5 _ (Og (by omega) go.pe gi.pe ge.pe (by unfold ZN;cases v.2<;>rfl)) (L1 go.m gi.m ge.m),?_⟩;exact λD D' ρ S l h=>ge.m _ _ _ _ (λv S1 q=>go.m _ _ _ _ (λx S2 q=>gi.m _ _ _ _ (λy S3 q=>Eh (λS4 q=>l.nx _ _ q) q) q) q) h
 | .put2 o i p j e,r,h=>by
   replace h:=a4 h;obtain⟨v,hv,h⟩:=h;replace h:=a4 h;obtain⟨rt,hrt,h⟩:=h;replace h:=a4 h;obtain⟨ts,hts,h⟩:=h;replace h:=a4 h;obtain⟨nn,hnn,h⟩:=h;replace h:=a4 h;obtain⟨oi,hoi,h⟩:=h;replace h:=a4 h;obtain⟨pj,hpj,h⟩:=h;obtain⟨pos,rfl⟩:=CH hv;obtain⟨jt,pt,et⟩:=B4 hts;obtain⟨p2,e2⟩:=Ad hoi;obtain⟨p3,e3⟩:=Ad hpj;simp only[V9]at h;obtain⟨⟨⟨⟨⟨⟨h1,h2⟩,h3⟩,h4⟩,h5⟩,h6⟩,h7⟩:=h;rw[A0 hrt,et,CF hnn,e2,e3];have go:=a6 o _ C h1;have gi:=a6 i _ C h2;have gp:=a6 p _ C h3;have gj:=a6 j _ C h4;have ge:=a6 e _ C h5;refine⟨v5 _ (HY ge.pe (Lj C.calm (D7 (HW go.pe gi.pe C9 (C3 h6)) (D7 (HW gp.pe gj.pe C9 (C3 h7)) Iq))) Ia Pt (NG rfl)) (NF go.m gi.m gp.m gj.m ge.m),?_⟩;exact λD D' ρ S l h=>ge.m _ _ _ _ (λu S1 ⟨v,w,eu,q⟩=>⟨v,w,eu,go.m _ _ _ _ (λx S2 q=>gi.m _ _ _ _ (λy S3 q=>A7 (λS4 q=>gp.m _ _ _ _ (λx S5 q=>gj.m _ _ _ _ (λy S6 q=>A7 (λS7 q=>l.nx _ _ q) q) q) q) q) q) q⟩) h
 | .expr e,r,h=>by
   replace h:=a4 h;obtain⟨re,hre,h⟩:=h;obtain⟨pos,rfl⟩:=Pg hre;simp only[V9]at h;have ge:=a6 e _ C h.1
   have hs:ZN re none pos.line X.env=pure false:=by
    have:=h.2;unfold ZN;cases re<;>first | rfl | (unfold Db at this;cases this)
   refine⟨v5 _ (OO ge.pe hs) ?_,λD D' ρ S l h=>ge.m _ _ _ _ (λx S1 q=>l.nx _ _ q) h⟩;rintro D σ H ⟨as,ρ,S,ok,en,h⟩;exact⟨as,ρ,S,ok,en,ge.m _ _ _ _ (λx S1 q as1 H1 v g1 ok1 rv=>q as1 H1 σ g1 ok1 (en.mono g1.pre (g1.ku ok))) h⟩
 | .iff t a b,r,h=>by
   replace h:=a4 h;obtain⟨v,hv,h⟩:=h;obtain⟨pos,rfl⟩:=Ph hv;simp only[V9]at h;have gt:=a6 t _ C h.1.1;have ga:=AT C hp nx hk a _ h.1.2;have gb:=AT C hp nx hk b _ h.2;exact⟨v5 _ (TM gt.pt ga.ps gb.ps) (Sd gt.mt ga.m gb.m),Gi gt.mt ga.m gb.m⟩
 | .loop g it b,r,h=>by
   replace h:=a4 h;obtain⟨v,hv,h⟩:=h;obtain⟨pos,rfl⟩:=Pi hv;simp only[V9,Vp]at h;obtain⟨⟨⟨⟨h1,h2⟩,h3⟩,h4⟩,h5⟩:=h;rw[h5];have gi:=Cf it _ _ C h2;have gb:=AT C hp nx hk b _ h4;refine⟨v5 _ (RO hp C.calm gi.pi (BX C g _ h1) gb.ps (Al h3)) (Pn gi.m gb.m),?_⟩;exact λD D' ρ S l h=>gi.m _ _ _ _ (λkeep xs S1 q=>Bj gb.m xs l _ _ q) h
 | .tri b,r,h=>by
   replace h:=a4 h;obtain⟨v,hv,h⟩:=h;obtain⟨pos,rfl⟩:=Pj hv;simp only[V9,Vp,Vi]at h;obtain⟨⟨⟨h1,h2⟩,h3⟩,h4⟩:=h;have gb:=AT C hp nx hk b _ h1;rw[h3,h4];cases hh:v.2.1 with
   | nil=>rw[hh]at h2;cases h2
   | cons h0 hs=>exact⟨P6 nx gb.ps,gb.m⟩
 | .whl t b,r,h=>by
   replace h:=a4 h;obtain⟨v,hv,h⟩:=h;obtain⟨pos,rfl⟩:=Pk hv;simp only[V9,Vp]at h;rw[h.2];have gt:=a6 t _ C h.1.1;have gb:=AT C hp nx hk b _ h.1.2;exact⟨v5 _ (Ll hp gt.pt gb.ps) (Po gt.mt gb.m),Gh gt.mt gb.m⟩
 | .ret e,r,h=>by
   replace h:=a4 h;obtain⟨o,ho,h⟩:=h;replace h:=a4 h;obtain⟨re,hre,h⟩:=h;obtain⟨pos,rfl⟩:=Pl ho;rw[hre];have ge:=a6 e _ C h;exact⟨v5 _ (RJ ge.pe) λD σ H ⟨as,ρ,S,ok,en,h⟩=>⟨as,ρ,S,ok,en,h⟩,λD D' ρ S l h=>ge.m _ _ _ _ l.rt h⟩
 | .no,r,h=>⟨λ_ _ _ _ _ _ h=>let ⟨_,_,_,_,_,z⟩:=h;z.elim,λ_ _ _ _ _ h=>h⟩
theorem AT(C:Cok T Δ X N.length N sc)(hp:A0q (Yt X.prog X.w) X.A X.env X.xe)(nx:∀ e s,¬ X.xe e s)(hk:sc.kind = .function):∀(s:List Stm) (r:List Stmt),Bv T N sc s r=true->GoodSs X r (wSs Δ s)
 | [],r,h=>by
   rw[Bv,Vp]at h;subst h;exact IZ
 | s::ss,r,h=>by
   rw[Bv]at h;replace h:=a4 h;obtain⟨x,hx,h⟩:=h;rw[V9]at h;rw[Ae hx];have:=Ge (NH C hp nx hk s x h.1) (AT C hp nx hk ss _ h.2);rw[wSs];exact this
end
end
mutual
theorem a5{Δ:Nat->Sn}(hΔ:∀ f,MonoN (Δ f)):∀(e:Ex),Mono (wEx Δ e).1/\MonoT (wEx Δ e).2
 | .var i=>⟨.var,.tru .var⟩
 | .c x=>⟨.c,.tru .c⟩
 | .op o a b=>have m:Mono _ := .two (s:=sOp o) JN (a5 hΔ a).1 (a5 hΔ b).1;⟨m,.tru m⟩
 | .neg a=>have m:Mono _ := .one DW (a5 hΔ a).1;⟨m,.tru m⟩
 | .cmp o a b=>have m:Mono _ := .two (s:=Ak o) AG (a5 hΔ a).1 (a5 hΔ b).1;⟨m,.bl m⟩
 | .chn o p a b c=>have m:=GJ (o:=o) (p:=p) (a5 hΔ a).1 (a5 hΔ b).1 (a5 hΔ c).1;⟨m,.bl m⟩
 | .and a b=>⟨.and (a5 hΔ a).1 (a5 hΔ b).1,.and (a5 hΔ a).2 (a5 hΔ b).2⟩
 | .or a b=>⟨.or (a5 hΔ a).1 (a5 hΔ b).1,.or (a5 hΔ a).2 (a5 hΔ b).2⟩
 | .not a=>⟨.not (a5 hΔ a).1,.not (a5 hΔ a).2⟩
 | .ife t a b=>⟨.ifE (a5 hΔ t).2 (a5 hΔ a).1 (a5 hΔ b).1,λ_ _ _ _ _ h=>h⟩
 | .tup es=>have m:Mono _ := .n .tup (As hΔ es);⟨m,.tru m⟩
 | .lst es=>have m:Mono _ := .n .lst (As hΔ es);⟨m,.tru m⟩
 | .ix a b=>have m:Mono _ := .two .ix (a5 hΔ a).1 (a5 hΔ b).1;⟨m,.tru m⟩
 | .slc a lo hi=>have m:Mono _:=(λρ S P P' i h=>(a5 hΔ a).1 _ _ _ _ (λx S1 h=>(j6 hΔ lo).1 _ _ _ _ (λl S2 h=>(j6 hΔ hi).1 _ _ _ _ (λk S3 h=>DY i h) h) h) h:Mono (SJ _ _ _));⟨m,.tru m⟩
 | .call f es=>have m:Mono _ := .n (hΔ f) (As hΔ es);⟨m,.tru m⟩
 | .bi b es=>have m:Mono _ := .n (s:=sBi b) .bi (As hΔ es);⟨m,.tru m⟩
 | .mt m' a es=>have m:Mono _:=Mono.mt (m:=m') (a5 hΔ a).1 (As hΔ es);⟨m,.tru m⟩
 | .comp own cn js g it t e=>have m:Mono _:=Mono.comp (k:=own.length) (js:=js) (g:=g) (Gj hΔ it) (j6 hΔ t).2 (a5 hΔ e).1;⟨m,.tru m⟩
 | .tyc t=>⟨.c,.tru .c⟩
 | .sum2 a=>have m:=Ec (a5 hΔ a).1;⟨m,.tru m⟩
 | .max1 a=>have m:=EY (a5 hΔ a).1;⟨m,.tru m⟩
 | .dnewp=>⟨C0,.tru C0⟩
 | .setd d e v=>have m:=Eb (a5 hΔ d).1 (a5 hΔ e).1 (a5 hΔ v).1;⟨m,.tru m⟩
 | .dnewl=>⟨C1,.tru C1⟩
 | .dget2l d e v=>have m:=Cn (a5 hΔ d).1 (a5 hΔ e).1 (a5 hΔ v).1;⟨m,.tru m⟩
 | .dvalsl a=>have m:=Co (a5 hΔ a).1;⟨m,.tru m⟩
 | .setdi d e v=>have m:=Da (a5 hΔ d).1 (a5 hΔ e).1 (a5 hΔ v).1;⟨m,.tru m⟩
 | .mind a d=>have m:=Ea (a5 hΔ a).1 (a5 hΔ d).1;⟨m,.tru m⟩
 | .maxd a d=>have m:=EZ (a5 hΔ a).1 (a5 hΔ d).1;⟨m,.tru m⟩
 | .eqp a b=>have m:Mono _ := .two CG (a5 hΔ a).1 (a5 hΔ b).1;⟨m,.bl m⟩
 | .dnew=>⟨Cd,.tru Cd⟩
 | .dget a b=>have m:Mono _ := .two Cc (a5 hΔ a).1 (a5 hΔ b).1;⟨m,.tru m⟩
 | .no=>⟨λ_ _ _ _ _ h=>h,λ_ _ _ _ _ h=>h⟩
theorem As{Δ:Nat->Sn}(hΔ:∀ f,MonoN (Δ f)):∀(es:Exs),MonoA (GD Δ es)
 | .nil => .nil
 | .cons e es => .cons (a5 hΔ e).1 (As hΔ es)
theorem j6{Δ:Nat->Sn}(hΔ:∀ f,MonoN (Δ f)):∀(o:Eo),MonoO (wEo Δ o).1/\MonoT (wEo Δ o).2
 | .no=>⟨.no,λ_ _ _ _ i q=>i _ _ q⟩
 | .yes e=>⟨.yes (a5 hΔ e).1,(a5 hΔ e).2⟩
theorem Gj{Δ:Nat->Sn}(hΔ:∀ f,MonoN (Δ f)):∀(it:Itb),MonoI (PJ Δ it)
 | .seq e=>λρ S P P' i h=>(a5 hΔ e).1 _ _ _ _ (λx S1 ⟨xs,e,q⟩=>⟨xs,e,i _ _ _ q⟩) h
 | .rng1 a=>λρ S P P' i h=>(a5 hΔ a).1 _ _ _ _ (λx S1 ⟨j,e,z,q⟩=>⟨j,e,z,i _ _ _ q⟩) h
 | .rng2 a b=>λρ S P P' i h=>(a5 hΔ a).1 _ _ _ _ (λx S1 h=>(a5 hΔ b).1 _ _ _ _ (λy S2 ⟨l,j,e,e2,z,q⟩=>⟨l,j,e,e2,z,i _ _ _ q⟩) h) h
 | .enum e=>λρ S P P' i h=>(a5 hΔ e).1 _ _ _ _ (λx S1 ⟨xs,e,q⟩=>⟨xs,e,i _ _ _ q⟩) h
end
mutual
theorem Pv{Δ:Nat->Sn}(hΔ:∀ f,MonoN (Δ f)):∀(s:Stm),MonoS (wSt Δ s)
 | .asg t e=>by exact Gg (a5 hΔ e).1
 | .par i j a b=>by exact λD D' ρ S l h=>(a5 hΔ a).1 _ _ _ _ (λx S1 q=>(a5 hΔ b).1 _ _ _ _ (λy S2 q=>l.nx _ _ q) q) h
 | .put o i e=>by exact λD D' ρ S l h=>(a5 hΔ e).1 _ _ _ _ (λv S1 q=>(a5 hΔ o).1 _ _ _ _ (λx S2 q=>(a5 hΔ i).1 _ _ _ _ (λy S3 q=>A7 (λS4 q=>l.nx _ _ q) q) q) q) h
 | .augS o i e=>by exact λD D' ρ S l h=>(a5 hΔ o).1 _ _ _ _ (λx S1 q=>(a5 hΔ i).1 _ _ _ _ (λy S2 ⟨k,j,xs,a,e1,e2,h1,h2,q⟩=>⟨k,j,xs,a,e1,e2,h1,h2,(a5 hΔ e).1 _ _ _ _ (λv S4 ⟨b,ys,e1,h4,h5,q⟩=>⟨b,ys,e1,h4,h5,l.nx _ _ q⟩) q⟩) q) h
 | .dputl o i e=>by exact λD D' ρ S l h=>(a5 hΔ e).1 _ _ _ _ (λv S1 q=>(a5 hΔ o).1 _ _ _ _ (λx S2 q=>(a5 hΔ i).1 _ _ _ _ (λy S3 q=>Eh (λS4 q=>l.nx _ _ q) q) q) q) h
 | .put2 o i p j e=>by exact λD D' ρ S l h=>(a5 hΔ e).1 _ _ _ _ (λu S1 ⟨v,w,eu,q⟩=>⟨v,w,eu,(a5 hΔ o).1 _ _ _ _ (λx S2 q=>(a5 hΔ i).1 _ _ _ _ (λy S3 q=>A7 (λS4 q=>(a5 hΔ p).1 _ _ _ _ (λx S5 q=>(a5 hΔ j).1 _ _ _ _ (λy S6 q=>A7 (λS7 q=>l.nx _ _ q) q) q) q) q) q) q⟩) h
 | .expr e=>by exact λD D' ρ S l h=>(a5 hΔ e).1 _ _ _ _ (λx S1 q=>l.nx _ _ q) h
 | .iff t a b=>by exact Gi (a5 hΔ t).2 (g9 hΔ a) (g9 hΔ b)
 | .loop g it b=>by exact λD D' ρ S l h=>Gj hΔ it _ _ _ _ (λkeep xs S1 q=>Bj (g9 hΔ b) xs l _ _ q) h
 | .tri b=>by exact g9 hΔ b
 | .whl t b=>by exact Gh (a5 hΔ t).2 (g9 hΔ b)
 | .ret e=>by exact λD D' ρ S l h=>(a5 hΔ e).1 _ _ _ _ l.rt h
 | .no=>by exact λD D' ρ S l h=>h
theorem g9{Δ:Nat->Sn}(hΔ:∀ f,MonoN (Δ f)):∀(s:List Stm),MonoS (wSs Δ s)
 | []=>by exact λD D' ρ S l h=>l.nx _ _ h
 | s::ss=>by exact λD D' ρ S l h=>(Pv hΔ s).go (D:={D with nx:=wSs Δ ss D}) h ⟨λρ' S' q=>(g9 hΔ ss) _ _ _ _ l q,l.rt,l.bk,l.ct⟩
end
theorem NI{P:List Yn->Prop}{n:Nat}(h:∀ a us,us.length=n->P (a::us)):∀ us:List Yn,us.length=n+1->P us
 | a::us,e=>h a us (Nat.succ.inj e)
theorem EC{P:List Yn->Prop}(h:∀ a,P [a]):∀ us:List Yn,us.length=1->P us:=NI λa us e=>X8.mp e▸h a
theorem BD{P:List Yn->Prop}(h:∀ a b,P [a,b]):∀ us:List Yn,us.length=2->P us:=NI λa=>EC (P:=λus=>P (a::us)) (h a)
theorem CI{P:List Yn->Prop}(h:∀ a b c,P [a,b,c]):∀ us:List Yn,us.length=3->P us:=NI λa=>BD (P:=λus=>P (a::us)) (h a)
theorem ED{P:List Yn->Prop}(h:∀ a b c d,P [a,b,c,d]):∀ us:List Yn,us.length=4->P us:=NI λa=>CI (P:=λus=>P (a::us)) (h a)
theorem FO{P:List Yn->Prop}(h:∀ a b c d e,P [a,b,c,d,e]):∀ us:List Yn,us.length=5->P us:=NI λa=>ED (P:=λus=>P (a::us)) (h a)
structure Df where
 name:Str
 st:Stmt
 ps:List Str
 N:List Str
 body:List Stm
def w9(Q:QE):EndsS:=⟨λ_ S'=>Q .non S',Q,λ_ _=>False,λ_ _=>False⟩
def NJ(n:Nat)(xs:List SV):EnvS:=xs.map some++VM (n - xs.length) none
noncomputable def f7(Δ:Nat->Sn)(D:Df):Sn:=λxs S Q=>xs.length=D.ps.length/\wSs Δ D.body (w9 Q) (NJ D.N.length xs) S
noncomputable def W(prog:List Df):Nat->Nat->Sn
 | 0,_=>λ_ _ _=>False
 | d+1,f=>match prog[f]? with
   | some D=>f7 (W prog d) D
   | none=>λ_ _ _=>False
theorem NK{Δ:Nat->Sn}(hΔ:∀ f,MonoN (Δ f))(D:Df):MonoN (f7 Δ D):=λxs S P P' i h=>⟨h.1,(g9 hΔ D.body).go h.2 ⟨λ_ _ q=>i _ _ q,i,λ_ _ q=>q,λ_ _ q=>q⟩⟩
theorem Dc{prog:List Df}:∀(d f:Nat),MonoN (W prog d f)
 | 0,f=>λ_ _ _ _ _ h=>h
 | d+1,f=>by
   unfold W;split
   ·exact NK (Dc d) _
   ·exact λ_ _ _ _ _ h=>h
def fnB(N ps:List Str)(sc:Z1):Bool:=decide (sc.kind = .function)&&!sc.isCoroutine&&!sc.isGenerator&&decide N.Nodup&&decide (N.take ps.length=ps)&&ps.all (loc sc)&&sc.names.all (λy=>!decide (y.2 = .free))
theorem Sj{N ps:List Str}{sc:Z1}(h:fnB N ps sc=true):FnScope N ps sc:=by
 unfold fnB at h;simp only[V9,dQ,Vi,Ve,decide_eq_false_iff_not]at h;obtain⟨⟨⟨⟨⟨⟨h1,h2⟩,h3⟩,h4⟩,h5⟩,h6⟩,h7⟩:=h;refine⟨h1,h2,h3,h4,h5,λx hx=>?_,h7⟩;have:=h6 x hx;unfold loc at this;simpa using this
noncomputable def Pw(T:List Str)(D:Df):Bool:=fnB D.N D.ps (defScope D.st)&&Bv T D.N (defScope D.st) D.body (defBody D.st)
structure Bl(mg:Str->Option Yn):Prop where
 bl:∀ b:BI,mg b.name=none
 rng:mg "range"=none
 enm:mg "enumerate"=none
 rvs:mg "reversed"=none
 zip:mg "zip"=none
 sm0:mg "sum"=none
 st0:mg "set"=none
 dc0:mg "dict"=none
 ty:∀ t:TyN,t ≠ .none->mg (Str.ofString t.nm)=none
section
variable{P:Yu}{w:Yw}{K:V8}{mg:Str->Option Yn}{base:Heap}
theorem L6{as:List Yp}{H:Hp}{N:List Str}{vs:List V}{xs:List SV}(r:RlAll K as H vs xs):EnvOk K as H (L2.start N vs) (NJ N.length xs):=by
 unfold L2.start NJ;rw[<-r.length];refine⟨by simp[r.length],λi x e=>?_⟩;by_cases hi:i<vs.length
 ·rw[VP (by rw[VA,<-r.length];exact hi),VI]at e;rw[VP (by simpa using hi),VI];cases hx:xs[i]? with
  | none=>rw[hx]at e;cases e
  | some y=>
    rw[hx]at e;have:y=x:=by simpa using e
    subst this;obtain⟨v,hv,rv⟩:=r.get hx;exact⟨v,by rw[hv];rfl,rv⟩
 ·rw[Vq (by rw[VA,<-r.length];omega),WK]at e;split at e<;>cases e
theorem NL{T:List Str}{Δ:Nat->Sn}{D:Df}{f:Yp}{fd:ZT}{k:Nat}(F:Fun K D.name D.name D.st f fd)(hc:Pw T D=true)(B:Bl mg)(hcall:∀ f x,T[f]?=some x->∃ ps,Cal P w K mg base k x ps (spS K (Δ f)))(hΔ:∀ f,MonoN (Δ f)):FnOk P w K mg base CX0 (k+1) f fd D.ps (spS K (f7 Δ D)):=by
 unfold Pw at hc;rw[V9]at hc;have S:=Sj hc.1;refine F.ok S (λvs H Q E h=>?_) (λcdv A outer s H vs Q E hr h=>?_)
 ·obtain⟨as,S,xs,ok,r,hl,_⟩:=h;rw[r.length];exact hl
 ·have C:Cok T Δ (Hf CX0 P w K mg base D.N D.name (defScope D.st) f cdv A outer s H E).nox D.N.length D.N (defScope D.st):={
   hN:=rfl,hs:=rfl,nd:=S.nd,calm:=rfl,fn:=λ_ _ _ _ _=>rfl
   un:=by have:=hr.un;show(A.deeper _).units+102<cLine;omega
   bl:=B.bl,rng:=B.rng,enm:=B.enm,rvs:=B.rvs,zip:=B.zip,sm0:=B.sm0,st0:=B.st0,dc0:=B.dc0,ty:=B.ty,gd:=hr.gd
   call:=λg x hx=>let ⟨ps,c⟩:=hcall g x hx;⟨k,ps,c,hr⟩
   mono:=hΔ}
  refine⟨_,(AT C PassesOwn.never (λ_ _ h=>h) S.kind D.body _ hc.2).ps,?_⟩;obtain⟨as,S,xs,ok,r,hl,h⟩:=h;refine⟨as,_,S,ok,L6 r,(g9 hΔ D.body).go h ⟨λρ' S' q as' H' σ' g ok' en'=>q as' H' _ g ok' (rl_non.mpr rfl),λx S' q=>q,λ_ _ q=>q.elim,λ_ _ q=>q.elim⟩⟩
structure PIn(K:V8)(mg:Str->Option Yn)(D:Df):Prop where
 ex:∃ f fd,Fun K D.name D.name D.st f fd/\mg D.name=some (.ref f)/\PySem.W.keepIn K (.ref f)=true/\Binds K fd D.ps []
theorem JY{prog:List Df}(hc:prog.all (Pw (prog.map (·.name)))=true)(B:Bl mg)(hin:∀ D∈prog,PIn K mg D):∀(d f:Nat) (D:Df),prog[f]?=some D->Cal P w K mg base d D.name D.ps (spS K (W prog d f))
 | 0,f,D,hf=>by
   obtain⟨fa,fd,F,hm,hk,hb⟩:=(hin D (VC hf)).ex;refine⟨fa,fd,⟨λvs H Q E h=>?_,λA outer s H args us vs Q E hr he hbn hv h=>?_⟩,hm,hk,hb⟩
   ·obtain⟨_,_,_,_,_,z⟩:=h;exact z.elim
   ·obtain⟨_,_,_,_,_,z⟩:=h;exact z.elim
 | d+1,f,D,hf=>by
   obtain⟨fa,fd,F,hm,hk,hb⟩:=(hin D (VC hf)).ex;have h1:=Ve.mp hc D (VC hf)
   have:=NL (Δ:=W prog d) (P:=P) (w:=w) (base:=base) (k:=d) F h1 B (λg x hx=>by
    rw[VI]at hx;cases hg:prog[g]? with
    | none=>rw[hg]at hx;cases hx
    | some D'=>
      rw[hg]at hx;have:D'.name=x:=by simpa using hx
      subst this;exact⟨D'.ps,JY hc B hin d g D' hg⟩) (Dc d)
   have e:W prog (d+1) f=f7 (W prog d) D:=by rw[W,hf]
   rw[e];exact⟨fa,fd,this,hm,hk,hb⟩
theorem Sl{prog:List Df}{d f:Nat}{H:Hp}{a:Yp}{ns:List Int}(main:W prog d f [.ro (ns.map SV.int)] [] λx _=>x = .bl true)(hO:Oa H)(hS:SqL K H a (ns.map V.int)):spS K (W prog d f) [.ref a] H (λv _=>v = .bl true) λ_ _ _=>False:=by
 have hz:FzL K H a (ns.map V.int):=by
  rcases hS with(h | ⟨o,h⟩) | h
  ·rcases hO a with z | ⟨o,xs,z⟩<;>rw[h]at z<;>cases z
  ·exact .inl ⟨o,h⟩
  ·exact .inr h
 refine⟨[],[],_,⟨rfl,YW,λk o a e=>by simp at e⟩,.cons (rl_ro.mpr ⟨a,_,rfl,hz,RlAll.ints⟩) .nil,Dc d f _ _ _ _ (λx S' e as' H' v g ok r=>?_) main⟩;subst e;exact rl_bl.mp r
end
theorem a7{k:Nat}{S:Sto}{xs:List SV}(h:S[k]?=some (.lst xs)):seqS (.loc k) S=some xs:=by simp only[seqS,h]
theorem At{k:Nat}{S:Sto}{xs:List SV}(h:S[k]?=some (.lst xs)):BP (.loc k) S=none:=by simp only[BP,h]
theorem JZ{k:Nat}{S:Sto}{xs:List SV}(h:S[k]?=some (.lst xs)):Mb (.loc k) S=some (!xs.isEmpty):=by simp only[Mb,h]
theorem Dd{k:Nat}{S:Sto}{xs:List SV}(h:S[k]?=some (.lst xs)):tyS (.loc k) S=some .list:=by simp only[tyS,h]
theorem ifT{b:Bool}{A B:Prop}(h:b=true)(a:A):if b=true then A else B:=by rw[iP h];exact a
theorem ifF{b:Bool}{A B:Prop}(h:b=false)(a:B):if b=true then A else B:=by rw[iG (by rw[h];decide)];exact a
theorem ifD{c A B:Prop}[Decidable c](h1:c->A)(h2:¬ c->B):if decide c=true then A else B:=by
 by_cases h:c
 ·rw[iP (decide_eq_true h)];exact h1 h
 ·rw[iG (by simpa using h)];exact h2 h
theorem ifB{b:Bool}{A B:Prop}(h1:b=true->A)(h2:b=false->B):if b=true then A else B:=by
 cases b with
 | true=>rw[iP rfl];exact h1 rfl
 | false=>rw[iG (by decide)];exact h2 rfl
theorem n6{S:Sto}{k:Nat}{o u:SO}(h:S[k]?=some o):(S.set k u)[k]?=some u:=Vj ((gM h).1)
theorem AH{S:Sto}{k j:Nat}{u:SO}(h:k≠j):(S.set k u)[j]?=S[j]?:=W5 h
theorem a8{S:Sto}{o:SO}:(S++[o])[S.length]?=some o:=Vd
theorem j4{S:Sto}{o u:SO}{k:Nat}(h:S[k]?=some u):(S++[o])[k]?=some u:=by
 rw[VP ((gM h).1)];exact h
theorem Ja{S:Sto}{o:SO}{k:Nat}(h:S[k]?=some o):k<S.length:=(gM h).1
structure TapeS(S:Sto)(t:Nat):Prop where
 ex:∃ a b:Int,S[t]?=some (.lst [.int a,.int b])/\0<=a/\0<=b/\b<2147483647
structure On(t:Nat)(S S':Sto):Prop where
 len:S.length<=S'.length
 keep:∀ k o,k≠t->S[k]?=some o->S'[k]?=some o
theorem On.refl(t:Nat)(S:Sto):On t S S:=⟨VH _,λ_ _ _ h=>h⟩
theorem On.trans{t:Nat}{S S' S'':Sto}(a:On t S S')(b:On t S' S''):On t S S'':=⟨Vc a.len b.len,λk o n h=>b.keep k o n (a.keep k o n h)⟩
theorem On.push{t:Nat}{S S':Sto}{o:SO}(a:On t S S'):On t S (S'++[o]):=⟨by rw[VB];have:=a.len;omega,λk u n h=>j4 (a.keep k u n h)⟩
theorem On.tape{t:Nat}{S S':Sto}{o:SO}(a:On t S S'):On t S (S'.set t o):=⟨by rw[Vw];exact a.len,λk u n h=>by rw[AH (Ne.symm n)];exact a.keep k u n h⟩
theorem On.new{t k:Nat}{S S':Sto}{o:SO}(a:On t S S')(h:S.length<=k):On t S (S'.set k o):=⟨by rw[Vw];exact a.len,λj u n hj=>by
 rw[AH (λz=>by have:=Ja hj;omega)];exact a.keep j u n hj⟩
theorem TapeS.push{S:Sto}{t:Nat}{o:SO}(h:TapeS S t):TapeS (S++[o]) t:=let ⟨a,b,e,z⟩:=h.ex;⟨a,b,j4 e,z⟩
theorem TapeS.other{S:Sto}{t k:Nat}{o:SO}(h:TapeS S t)(n:k≠t):TapeS (S.set k o) t:=let ⟨a,b,e,z⟩:=h.ex;⟨a,b,by rw[AH n];exact e,z⟩
theorem TapeS.lt{S:Sto}{t:Nat}(h:TapeS S t):t<S.length:=let ⟨_,_,e,_⟩:=h.ex;Ja e
theorem v4{keep:Sto->Prop}{g:Tg}{b:WS}{D:EndsS}(mb:MonoS b)(I:Nat->EnvS->Sto->Prop){xs:List SV}{ρ:EnvS}{S:Sto}(h0:I 0 ρ S)(hk:∀ i ρ S,I i ρ S->keep S)
 (hs:∀ i x ρ S,xs[i]?=some x->I i ρ S->wTg g x ρ λρ2=>b {D with nx:=I (i+1),ct:=I (i+1),bk:=D.nx} ρ2 S) (hd:∀ ρ S,I xs.length ρ S->D.nx ρ S):w5 keep g b D xs ρ S:=by
 have go:∀(ys:List SV) (i:Nat) (ρ:EnvS) (S:Sto),xs.drop i=ys->i<=xs.length->I i ρ S->w5 keep g b D ys ρ S:=by
  intro ys
  induction ys with
  | nil=>
    intro i ρ S e hi h
    have:i=xs.length:=by
     have:=congrArg XT e;rw[WL,W6]at this;omega
    subst this;unfold w5;exact⟨hk _ _ _ h,hd _ _ h⟩
  | cons y ys ih=>
    intro i ρ S e hi h
    have hy:xs[i]?=some y:=by
     rw[<-YR,e];rfl
    have hlt:=(gM hy).1;have e2:xs.drop (i+1)=ys:=by rw[<-YY,e];rfl
    unfold w5;refine⟨hk _ _ _ h,A6 g (λρ2 q=>?_) (hs i y ρ S hy h)⟩;exact mb.go (D:={D with nx:=I (i+1),ct:=I (i+1),bk:=D.nx}) q ⟨λρ' S' z=>ih (i+1) ρ' S' e2 hlt z,λ_ _ z=>z,λ_ _ z=>z,λρ' S' z=>ih (i+1) ρ' S' e2 hlt z⟩
 exact go xs 0 ρ S rfl (W8 _) h0
theorem r6{keep:Sto->Prop}{g:Tg}{b:WS}{D:EndsS}(mb:MonoS b)(I:Nat->EnvS->Sto->Prop){xs:List SV}{ρ:EnvS}{S:Sto}(h0:I 0 ρ S)(hk:∀ i ρ S,I i ρ S->keep S)
 (hs:∀ i x ρ S (E:EndsS),(∀ ρ S,I (i+1) ρ S->E.nx ρ S)->(∀ y S,D.rt y S->E.rt y S)->xs[i]?=some x->I i ρ S->wTg g x ρ λρ2=>b E ρ2 S) (hd:∀ ρ S,I xs.length ρ S->D.nx ρ S):w5 keep g b D xs ρ S:=
 v4 mb I h0 hk (λi x ρ S hx hI=>hs i x ρ S {D with nx:=I (i+1),ct:=I (i+1),bk:=D.nx} (λ_ _ h=>h) (λ_ _ h=>h) hx hI) hd
theorem i4{keep:Sto->Prop}{g:Tg}{t:WT}{e:WE}{ρ:EnvS}{Q:List SV->Sto->Prop}(mt:MonoT t)(me:Mono e)(I:Nat->List SV->Sto->Prop){xs:List SV}{S:Sto}(h0:I 0 [] S)(hk:∀ i ys S,I i ys S->keep S)
 (hs:∀ i x ys S,xs[i]?=some x->I i ys S->wTg g x ρ λρ2=>t ρ2 S λb S1=>if b=true then e ρ2 S1 λy S2=>ys.length<big/\I (i+1) (ys++[y]) S2 else I (i+1) ys S1) (hd:∀ ys S,I xs.length ys S->Q ys S):v8 keep g t e ρ Q xs [] S:=by
 have go:∀(zs:List SV) (i:Nat) (ys:List SV) (S:Sto),xs.drop i=zs->i<=xs.length->I i ys S->v8 keep g t e ρ Q zs ys S:=by
  intro zs
  induction zs with
  | nil=>
    intro i ys S e' hi h
    have:i=xs.length:=by
     have:=congrArg XT e';rw[WL,W6]at this;omega
    subst this;unfold v8;exact⟨hk _ _ _ h,hd _ _ h⟩
  | cons y zs ih=>
    intro i ys S e' hi h;have hy:xs[i]?=some y:=by rw[<-YR,e'];rfl
    have hlt:=(gM hy).1;have e2:xs.drop (i+1)=zs:=by rw[<-YY,e'];rfl
    unfold v8;refine⟨hk _ _ _ h,A6 g (λρ2 q=>mt _ _ _ _ (λb S1 q=>p8 (λq=>me _ _ _ _ (λv S2 q=>⟨q.1,ih (i+1) _ S2 e2 hlt q.2⟩) q) (λq=>ih (i+1) _ S1 e2 hlt q) q) q) (hs i y ys S hy h)⟩
 exact go xs 0 [] S rfl (W8 _) h0
theorem p9{lo hi:Int}{i:Nat}{x:SV}(h:(Cs lo hi)[i]?=some x):x = .int (lo+i)/\lo+i<hi:=by
 unfold Cs at h
 have hi':i<(hi - lo).toNat:=by
  have:=(gM h).1;simpa using this
 rw[VI,W2 hi']at h;exact⟨(oj h).symm,by omega⟩
theorem k8{lo hi:Int}:(Cs lo hi).length=(hi - lo).toNat:=by unfold Cs;simp
def pairS(e:Nat×Nat):SV := .tup [.int e.1,.int e.2]
def Qm:List Stm:=[(.asg (.nm 2) (.c (.int 0))),(.iff (.cmp .Lt (.var 1) (.bi .len (.cons (.var 0) .nil))) [(.asg (.nm 2) (.ix (.var 0) (.var 1)))] []),(.asg (.nm 3) (.op .Mult (.bi .abs (.cons (.var 2) .nil)) (.bi .int (.cons (.cmp .GtE (.bi .abs (.cons (.var 2) .nil)) (.op .Pow (.c (.int 10)) (.c (.int 18)))) .nil)))),(.ret (.lst (.cons (.var 3) (.cons (.op .Mod (.op .Mult (.op .Mod (.op .Add (.op .Add (.var 2) (.op .Mult (.c (.int 7919)) (.var 1))) (.c (.int 1))) (.c (.int 2147483647))) (.c (.int 48271))) (.c (.int 2147483647))) .nil))))]
noncomputable def Qn:List Stm:=[(.iff (.cmp .Gt (.ix (.var 0) (.c (.int 0))) (.c (.int 0))) [(.asg (.nm 2) (.op .Mod (.ix (.var 0) (.c (.int 0))) (.var 1))),(.put (.var 0) (.c (.int 0)) (.op .FloorDiv (.ix (.var 0) (.c (.int 0))) (.var 1))),(.ret (.var 2))] []),(.put (.var 0) (.c (.int 1)) (.op .Mod (.op .Add (.op .Mult (.ix (.var 0) (.c (.int 1))) (.c (.int 48271))) (.c (.int 12345))) (.c (.int 2147483647)))),(.asg (.nm 3) (.op .Mod (.op .Mult (.ix (.var 0) (.c (.int 1))) (.op .Add (.op .Mod (.ix (.var 0) (.c (.int 1))) (.c (.int 1009))) (.c (.int 3)))) (.c (.int 2147483629)))),(.ret (.op .Mod (.op .Mod (.op .Mult (.var 3) (.op .Add (.op .Mod (.var 3) (.c (.int 997))) (.c (.int 5)))) (.c (.int 998244353))) (.var 1)))]
def AU(s:Sn):Prop:=∀{t:Nat} {m:Int} {S:Sto} {Q:QE},TapeS S t->0<m->m<1073741824->(∀(r:Int) (S':Sto),0<=r->r<m->TapeS S' t->On t S S'->S'.length=S.length->Q (.int r) S')->s [.loc t,.int m] S Q
def NM(s:Sn):Prop:=∀{ns:List Int} {k:Nat} {S:Sto} {Q:QE},ns.length<=63->k<=1000->(∀ a b:Int,0<=a->0<=b->b<2147483647->Q (.loc S.length) (S++[.lst [.int a,.int b]]))->s [.ro (ns.map SV.int),.int k] S Q
theorem b01(b:Bool):-(2 ^ 64)<(if b=true then (1:Int) else 0)/\(if b=true then (1:Int) else 0)<2 ^ 64:=by cases b<;>decide
theorem b00(b:Bool):0<=(if b=true then (1:Int) else 0):=by cases b<;>decide
theorem Px{Δ:Nat->Sn}{D:Df}(hb:D.body=Qn)(hN:D.N.length=4)(hp:D.ps.length=2):AU (f7 Δ D):=by
 intro t m S Q T h0 h1 q;obtain⟨a,b,hS,ha,hb0,hb1⟩:=T.ex;unfold f7;rw[hb,hN];refine⟨hp.symm,?_⟩;have go:∀ r a' b':Int,0<=r->r<m->0<=a'->0<=b'->b'<2147483647->Q (.int r) (S.set t (.lst [.int a',.int b'])):=λr a' b' r0 r1 a0 b0 b1=>q r _ r0 r1 ⟨a',b',n6 hS,a0,b0,b1⟩ (On.refl t S).tape (by rw[Vw]);refine⟨_,rfl,_,_,a7 hS,rfl,_,rfl,ifD (λh=>?_) (λh=>?_)⟩
 ·refine⟨_,rfl,_,_,a7 hS,rfl,_,rfl,h0,?_⟩;refine⟨_,rfl,_,_,a7 hS,rfl,_,rfl,⟨h0,h1⟩,_,rfl,_,_,hS,rfl,_,rfl,?_⟩;exact go _ _ _ (Wv _ (by omega)) (Wd _ h0) (Int.ediv_nonneg ha (by omega)) hb0 hb1
 ·refine⟨_,rfl,_,_,a7 hS,rfl,.inr (by decide),show(0:Int)<2147483647 by decide,_,rfl,_,_,hS,rfl,?_⟩;have e0:0<=(b * 48271+12345) % 2147483647:=Wv _ (by decide);have e1:(b * 48271+12345) % 2147483647<2147483647:=Wd _ (by decide);have hS1:(S.set t (.lst [.int a,.int ((b * 48271+12345) % 2147483647)]))[t]?=some (.lst [.int a,.int ((b * 48271+12345) % 2147483647)]):=n6 hS;refine⟨_,rfl,_,_,a7 hS1,rfl,_,rfl,_,_,a7 hS1,rfl,show(0:Int)<1009 by decide,.inl ⟨by omega,by omega⟩,show(0:Int)<2147483629 by decide,?_⟩;have f0:0<=((b * 48271+12345) % 2147483647 * ((b * 48271+12345) % 2147483647 % 1009+3)) % 2147483629:=Wv _ (by decide);have f1:((b * 48271+12345) % 2147483647 * ((b * 48271+12345) % 2147483647 % 1009+3)) % 2147483629<2147483629:=Wd _ (by decide);refine⟨_,rfl,_,rfl,show(0:Int)<997 by decide,.inl ⟨by omega,by omega⟩,show(0:Int)<998244353 by decide,_,rfl,h0,?_⟩;exact go _ _ _ (Wv _ (by omega)) (Wd _ h0) ha e0 e1
theorem Py{Δ:Nat->Sn}{D:Df}(hb:D.body=Qm)(hN:D.N.length=4)(hp:D.ps.length=2):NM (f7 Δ D):=by
 intro ns k S Q hl hk q;unfold f7;rw[hb,hN];refine⟨hp.symm,?_⟩
 have fin:∀ c:Int,wSs Δ [(.asg (.nm 3) (.op .Mult (.bi .abs (.cons (.var 2) .nil)) (.bi .int (.cons (.cmp .GtE (.bi .abs (.cons (.var 2) .nil)) (.op .Pow (.c (.int 10)) (.c (.int 18)))) .nil)))),(.ret (.lst (.cons (.var 3) (.cons (.op .Mod (.op .Mult (.op .Mod (.op .Add (.op .Add (.var 2) (.op .Mult (.c (.int 7919)) (.var 1))) (.c (.int 1))) (.c (.int 2147483647))) (.c (.int 48271))) (.c (.int 2147483647))) .nil))))] (w9 Q) [some (.ro (ns.map SV.int)),some (.int k),some (.int c),none] S:=λc=>by
  refine⟨_,rfl,_,rfl,⟨by decide,by decide,by decide⟩,.inr (b01 _),?_⟩;refine⟨_,rfl,_,rfl,_,rfl,.inl ⟨by decide,by decide⟩,show(0:Int)<2147483647 by decide,.inr ⟨by decide,by decide⟩,show(0:Int)<2147483647 by decide,by show 2<=big;decide,?_⟩;refine q _ _ (Int.mul_nonneg (by split<;>omega) (b00 _)) (Wv _ (by decide)) (Wd _ (by decide))
 refine⟨_,rfl,_,rfl,_,rfl,_,rfl,ifD (λh=>?_) (λh=>fin 0)⟩
 have hk':k<ns.length:=by
  have:((ns.map SV.int).length:Int)=ns.length:=by rw[VA]
  omega
 refine⟨_,rfl,_,rfl,_,_,rfl,f8 (v := .int ns[k]) (by rw[VI,VE hk'];rfl),?_⟩;exact fin _
def q1(kd:Nat):Stm:=(.asg (.nm 2) (.call kd (.cons (.var 0) (.cons (.c (.int 8)) .nil))))
def q2(kd:Nat):Stm:=(.asg (.nm 3) (.ix (.lst (.cons (.call kd (.cons (.var 0) (.cons (.c (.int 7)) .nil))) (.cons (.op .Add (.c (.int 7)) (.call kd (.cons (.var 0) (.cons (.c (.int 6)) .nil)))) .nil))) (.bi .int (.cons (.var 1) .nil))))
def q3(kd:Nat):Stm:=(.asg (.nm 4) (.lst .nil))
def q4(kd:Nat):Stm:=(.iff (.and (.cmp .Lt (.var 2) (.c (.int 3))) (.cmp .Gt (.var 3) (.c (.int 1)))) [(.loop (.nm 5) (.rng1 (.call kd (.cons (.var 0) (.cons (.op .Add (.op .Mult (.c (.int 2)) (.var 3)) (.c (.int 1))) .nil)))) [(.asg (.nm 6) (.call kd (.cons (.var 0) (.cons (.var 3) .nil)))),(.expr (.mt .append (.var 4) (.cons (.tup (.cons (.var 6) (.cons (.op .Mod (.op .Add (.op .Add (.var 6) (.c (.int 1))) (.call kd (.cons (.var 0) (.cons (.op .Sub (.var 3) (.c (.int 1))) .nil)))) (.var 3)) .nil))) .nil)))])] [])
def q5(kd:Nat):Stm:=(.iff (.and (.cmp .Eq (.var 2) (.c (.int 3))) (.cmp .Gt (.var 3) (.c (.int 2)))) [(.asg (.nm 4) (.op .Add (.comp ["_law_k"] ["_law_many"] [3] (.nm 0) (.rng1 (.var 3)) .no (.tup (.cons (.var 0) (.cons (.op .Mod (.op .Add (.var 0) (.c (.int 1))) (.var 1)) .nil)))) (.lst (.cons (.tup (.cons (.c (.int 0)) (.cons (.op .Add (.call kd (.cons (.var 0) (.cons (.op .Sub (.var 3) (.c (.int 1))) .nil))) (.c (.int 1))) .nil))) .nil))))] [])
def q6(kd:Nat):Stm:=(.iff (.and (.cmp .Eq (.var 2) (.c (.int 4))) (.cmp .Gt (.var 3) (.c (.int 1)))) [(.asg (.nm 4) (.comp ["_law_k"] [] [] (.nm 0) (.rng2 (.c (.int 1)) (.var 3)) .no (.tup (.cons (.c (.int 0)) (.cons (.var 0) .nil)))))] [])
def q7(kd:Nat):Stm:=(.iff (.cmp .Eq (.var 2) (.c (.int 5))) [(.asg (.nm 3) (.bi .min (.cons (.var 3) (.cons (.op .Add (.c (.int 5)) (.bi .int (.cons (.var 1) .nil))) .nil)))),(.loop (.nm 7) (.rng1 (.var 3)) [(.expr (.mt .extend (.var 4) (.cons (.comp ["_law_j"] ["_law_k"] [7] (.nm 0) (.rng1 (.var 7)) .no (.tup (.cons (.var 0) (.cons (.var 1) .nil)))) .nil)))])] [])
def q8(kd:Nat):Stm:=(.iff (.cmp .Eq (.var 2) (.c (.int 6))) [(.asg (.nm 8) (.op .Add (.c (.int 1)) (.op .FloorDiv (.var 3) (.c (.int 2))))),(.loop (.nm 7) (.rng1 (.var 8)) [(.expr (.mt .extend (.var 4) (.cons (.comp ["_law_j"] ["_law_tape_here","_law_k"] [0,7] (.nm 0) (.rng2 (.var 8) (.var 3)) (.yes (.cmp .Gt (.call kd (.cons (.var 1) (.cons (.c (.int 3)) .nil))) (.c (.int 0)))) (.tup (.cons (.var 2) (.cons (.var 0) .nil)))) .nil)))])] [])
def q9(kd:Nat):Stm:=(.iff (.cmp .Eq (.var 2) (.c (.int 7))) [(.asg (.nm 3) (.op .Add (.c (.int 3)) (.op .FloorDiv (.var 3) (.c (.int 3))))),(.loop (.nm 7) (.rng1 (.c (.int 3))) [(.expr (.mt .extend (.var 4) (.cons (.op .Mult (.lst (.cons (.tup (.cons (.var 7) (.cons (.op .Mod (.op .Add (.var 7) (.c (.int 1))) (.c (.int 3))) .nil))) .nil)) (.op .Add (.c (.int 1)) (.call kd (.cons (.var 0) (.cons (.c (.int 3)) .nil))))) .nil)))])] [])
def q10(kd:Nat):Stm:=(.ret (.tup (.cons (.var 3) (.cons (.var 4) .nil))))
def q7l(kd:Nat):Stm:=(.loop (.nm 7) (.rng1 (.var 3)) [(.expr (.mt .extend (.var 4) (.cons (.comp ["_law_j"] ["_law_k"] [7] (.nm 0) (.rng1 (.var 7)) .no (.tup (.cons (.var 0) (.cons (.var 1) .nil)))) .nil)))])
def q8l(kd:Nat):Stm:=(.loop (.nm 7) (.rng1 (.var 8)) [(.expr (.mt .extend (.var 4) (.cons (.comp ["_law_j"] ["_law_tape_here","_law_k"] [0,7] (.nm 0) (.rng2 (.var 8) (.var 3)) (.yes (.cmp .Gt (.call kd (.cons (.var 1) (.cons (.c (.int 3)) .nil))) (.c (.int 0)))) (.tup (.cons (.var 2) (.cons (.var 0) .nil)))) .nil)))])
def q9l(kd:Nat):Stm:=(.loop (.nm 7) (.rng1 (.c (.int 3))) [(.expr (.mt .extend (.var 4) (.cons (.op .Mult (.lst (.cons (.tup (.cons (.var 7) (.cons (.op .Mod (.op .Add (.var 7) (.c (.int 1))) (.c (.int 3))) .nil))) .nil)) (.op .Add (.c (.int 1)) (.call kd (.cons (.var 0) (.cons (.c (.int 3)) .nil))))) .nil)))])
def NN(kd:Nat):List Stm:=[q1 kd,q2 kd,q3 kd,q4 kd,q5 kd,q6 kd,q7 kd,q8 kd,q9 kd,q10 kd]
structure Prs(n:Nat)(es:EE):Prop where
 en:∀ e∈es,e.1<n/\e.2<n/\e.1≠e.2
 len:es.length<=36
 few:n<=12
def FP(s:Sn):Prop:=∀{t:Nat} {g:Bool} {S:Sto} {Q:QE},TapeS S t->(∀(n:Nat) (es:EE) (l:Nat) (S':Sto),Prs n es->S'[l]?=some (.lst (es.map pairS))->S.length<=l->TapeS S' t->On t S S'->Q (.tup [.int n,.loc l]) S')->s [.loc t,.bl g] S Q
structure Ah(t:Nat)(S0 S:Sto)(l:Nat)(es:EE):Prop where
 tape:TapeS S t
 on:On t S0 S
 at':S[l]?=some (.lst (es.map pairS))
 new:S0.length<=l
 t0:t<S0.length
theorem Ah.ne{t l:Nat}{S0 S:Sto}{es:EE}(h:Ah t S0 S l es):l≠t:=by have:=h.new;have:=h.t0;omega
theorem Ah.draw{t l:Nat}{S0 S S':Sto}{es:EE}(h:Ah t S0 S l es)(T:TapeS S' t)(O:On t S S'):Ah t S0 S' l es:=⟨T,h.on.trans O,O.keep _ _ h.ne h.at',h.new,h.t0⟩
theorem Ah.push{t l:Nat}{S0 S:Sto}{es:EE}{o:SO}(h:Ah t S0 S l es):Ah t S0 (S++[o]) l es:=⟨h.tape.push,h.on.push,j4 h.at',h.new,h.t0⟩
theorem Ah.put{t l:Nat}{S0 S:Sto}{es fs:EE}(h:Ah t S0 S l es):Ah t S0 (S.set l (.lst (fs.map pairS))) l fs:=⟨h.tape.other h.ne,h.on.new h.new,n6 h.at',h.new,h.t0⟩
theorem Gk(es:EE)(e:Nat×Nat):es.map pairS++[.tup [.int e.1,.int e.2]]=(es++[e]).map pairS:=by rw[VR];rfl
section
variable{Δ:Nat->Sn}{kd:Nat}
theorem V1(hΔ:∀ f,MonoN (Δ f))(hd:AU (Δ kd)){t l n:Nat}{way:Int}{S0 S:Sto}{D:EndsS}{g:SV}{o5 o6 o7 o8:Option SV}(A:Ah t S0 S l [])(hn:n<=12)
 (q:∀(es:EE) (S':Sto) (o5 o6:Option SV),Prs n es->Ah t S0 S' l es->D.nx [some (.loc t),some g,some (.int way),some (.int n),some (.loc l),o5,o6,o7,o8] S'):
 wSt Δ (q4 kd) D [some (.loc t),some g,some (.int way),some (.int n),some (.loc l),o5,o6,o7,o8] S:=by
 have stay:=q [] S o5 o6 ⟨(λ_ h=>nomatch h),by simp,hn⟩ A;refine⟨_,rfl,_,rfl,ifD (λh1=>?_) (λh1=>ifF rfl stay)⟩;refine⟨_,rfl,_,rfl,ifD (λh2=>?_) (λh2=>stay)⟩;have h2:1<n:=by omega
 refine⟨_,rfl,_,rfl,.inl ⟨by decide,by decide⟩,hd A.tape (by omega) (by omega) λr S1 r0 r1 T1 O1 _=>⟨r,rfl,⟨by omega,by omega⟩,?_⟩⟩;have A1:=A.draw T1 O1
 refine v4 (g9 hΔ _) (λi ρ S2=>∃(es:EE) (o5 o6:Option SV),ρ=[some (.loc t),some g,some (.int way),some (.int n),some (.loc l),o5,o6,o7,o8]/\Ah t S0 S2 l es/\(∀ e∈es,e.1<n/\e.2<n/\e.1≠e.2)/\es.length=i)
  ⟨[],o5,o6,rfl,A1,(λ_ h=>nomatch h),rfl⟩ (λ_ _ _ _=>trivial) ?_ ?_
 ·rintro i x ρ S2 hx ⟨es,p5,p6,rfl,A2,he,hl⟩;obtain⟨rfl,hi⟩:=p9 hx;refine⟨_,rfl,_,rfl,hd A2.tape (by omega) (by omega) λa S3 a0 a1 T3 O3 _=>?_⟩;have A3:=A2.draw T3 O3;refine⟨_,rfl,⟨l,_,rfl,A3.at'⟩,?_⟩;refine⟨_,rfl,_,rfl,_,rfl,_,rfl,hd A3.tape (by omega) (by omega) λb S4 b0 b1 T4 O4 _=>?_⟩;have A4:=A3.draw T4 O4;refine⟨_,rfl,show(0:Int)<n by omega,by show 2<=big;decide,⟨_,A4.at',by rw[VA];show es.length<100000;omega,?_⟩⟩;have e1:((a.toNat:Nat):Int)=a:=X6 a0;have m0:0<=(a+1+b) % n:=Wv _ (by omega);have m1:(a+1+b) % n<n:=Wd _ (by omega);have e2:(((a+1+b) % n).toNat:Int)=(a+1+b) % n:=X6 m0
  have hne:a≠(a+1+b) % n:=by
   by_cases hb:a+1+b<n
   ·rw[YD (by omega) hb];omega
   ·rw[<-Int.sub_emod_right,YD (by omega) (by omega)];omega
  have ea:=Gk es (a.toNat,((a+1+b) % n).toNat);simp only[e1,e2]at ea;refine⟨es++[(a.toNat,((a+1+b) % n).toNat)],_,_,rfl,?_,λe h=>?_,by rw[VB,hl];rfl⟩
  ·have:=A4.put (fs:=es++[(a.toNat,((a+1+b) % n).toNat)]);rw[<-ea]at this;exact this
  ·rcases VY.mp h with h | h
   ·exact he e h
   ·rw[VU.mp h];exact⟨by show a.toNat<n;omega,by show((a+1+b) % n).toNat<n;omega,by show a.toNat≠((a+1+b) % n).toNat;omega⟩
 ·rintro ρ S2 ⟨es,p5,p6,rfl,A2,he,hl⟩;rw[k8]at hl;exact q es S2 p5 p6 ⟨he,by omega,hn⟩ A2
abbrev PQ(t:Nat)(g:SV)(way:Int)(S0:Sto)(D:EndsS):Prop:=∀(n:Nat) (es:EE) (l:Nat) (S':Sto) (o5 o6 o7 o8:Option SV),Prs n es->Ah t S0 S' l es->D.nx [some (.loc t),some g,some (.int way),some (.int n),some (.loc l),o5,o6,o7,o8] S'
theorem FQ{n:Nat}(h:n<=12):Prs n []:=⟨(λ_ h=>nomatch h),by simp,h⟩
theorem V2(hΔ:∀ f,MonoN (Δ f))(hd:AU (Δ kd)){t l n:Nat}{S0 S:Sto}{D:EndsS}{g:SV}{o5 o6 o7 o8:Option SV}(A:Ah t S0 S l [])(hn:n<=12)(q:PQ t g 3 S0 D):
 wSt Δ (q5 kd) D [some (.loc t),some g,some (.int 3),some (.int n),some (.loc l),o5,o6,o7,o8] S:=by
 have stay:=q n [] l S o5 o6 o7 o8 (FQ hn) A;refine⟨_,rfl,_,rfl,ifT rfl ?_⟩;refine⟨_,rfl,_,rfl,ifD (λh2=>?_) (λh2=>stay)⟩;have h2:2<n:=by omega
 refine⟨_,rfl,n,rfl,⟨by omega,by omega⟩,?_⟩;refine i4 (j6 hΔ _).2 (a5 hΔ _).1 (λi ys S2=>S2=S/\ys=((VN i).map λj=>(j,(j+1) % n)).map pairS) ⟨rfl,rfl⟩ (λ_ _ _ _=>trivial) ?_ ?_
 ·rintro i x ys S2 hx ⟨rfl,rfl⟩;obtain⟨rfl,hi⟩:=p9 hx;refine⟨_,rfl,_,rfl,_,rfl,show(0:Int)<n by omega,by show 2<=big;decide,by simp;show i<100000;omega,rfl,?_⟩;rw[WG,VR,VR];simp[pairS]
 ·rintro ys S2 ⟨rfl,rfl⟩;rw[k8];refine⟨_,rfl,_,rfl,hd (A.push (o := .lst (((VN ((n:Int) - 0).toNat).map λj=>(j,(j+1) % n)).map pairS))).tape (by omega) (by omega) λr S3 r0 r1 T3 O3 L3=>?_⟩;have A3:=(A.push (o := .lst (((VN ((n:Int) - 0).toNat).map λj=>(j,(j+1) % n)).map pairS))).draw T3 O3;refine⟨by show 2<=big;decide,by show 1<=big;decide,?_⟩;have hS:=A.t0;have hon:=A.on.len;have at1:S3[S2.length]?=some (.lst (((VN ((n:Int) - 0).toNat).map λj=>(j,(j+1) % n)).map pairS)):=O3.keep _ _ (by omega) a8;refine⟨_,_,j4 at1,a8,by simp;show _<=100000;omega,?_⟩;have en:((n:Int) - 0).toNat=n:=by omega
  rw[en];have e1:((r.toNat:Nat):Int)=r:=X6 r0;have ea:=Gk ((VN n).map λj=>(j,(j+1) % n)) (0,r.toNat+1);have e2:((r.toNat+1:Nat):Int)=r+1:=by omega
  simp only[e2]at ea;refine q n ((VN n).map (λj=>(j,(j+1) % n))++[(0,r.toNat+1)]) _ _ _ _ _ _ ⟨λe h=>?_,by simp;omega,hn⟩ ⟨A3.tape.push.push,A3.on.push.push,?_,?_,A.t0⟩
  ·rcases VY.mp h with h | h
   ·obtain⟨j,hj,rfl⟩:=VZ.mp h;have hj:=Va.mp hj;refine⟨hj,Nat.mod_lt _ (by omega),?_⟩;by_cases hz:j+1<n
    ·show j≠(j+1) % n;rw[Nat.mod_eq_of_lt hz];omega
    ·have:j+1=n:=by omega
     show j≠(j+1) % n;rw[this,Nat.mod_self];omega
   ·rw[VU.mp h];exact⟨by show 0<n;omega,by show r.toNat+1<n;omega,by show 0≠r.toNat+1;omega⟩
  ·rw[<-ea];exact a8
  ·rw[VB];have:=A3.on.len;omega
theorem V3(hΔ:∀ f,MonoN (Δ f)){t l n:Nat}{S0 S:Sto}{D:EndsS}{g:SV}{o5 o6 o7 o8:Option SV}(A:Ah t S0 S l [])(hn:n<=12)(q:PQ t g 4 S0 D):
 wSt Δ (q6 kd) D [some (.loc t),some g,some (.int 4),some (.int n),some (.loc l),o5,o6,o7,o8] S:=by
 have stay:=q n [] l S o5 o6 o7 o8 (FQ hn) A;refine⟨_,rfl,_,rfl,ifT rfl ?_⟩;refine⟨_,rfl,_,rfl,ifD (λh2=>?_) (λh2=>stay)⟩;have h2:1<n:=by omega
 refine⟨_,rfl,1,n,rfl,rfl,⟨by decide,by decide,by omega,by omega⟩,?_⟩;refine i4 (j6 hΔ _).2 (a5 hΔ _).1 (λi ys S2=>S2=S/\ys=((VN i).map λj=>(0,j+1)).map pairS) ⟨rfl,rfl⟩ (λ_ _ _ _=>trivial) ?_ ?_
 ·rintro i x ys S2 hx ⟨rfl,rfl⟩;obtain⟨rfl,hi⟩:=p9 hx;refine⟨_,rfl,by show 2<=big;decide,by simp;show i<100000;omega,rfl,?_⟩;rw[WG,VR,VR];simp[pairS,Int.add_comm]
 ·rintro ys S2 ⟨rfl,rfl⟩;rw[k8];refine q n _ _ _ _ _ _ _ ⟨λe h=>?_,by simp;omega,hn⟩ ⟨A.tape.push,A.on.push,a8,A.on.len,A.t0⟩;obtain⟨j,hj,rfl⟩:=VZ.mp h;have hj:=Va.mp hj;exact⟨by show 0<n;omega,by show j+1<n;omega,by show 0≠j+1;omega⟩
theorem Ah.ext{t l j:Nat}{S0 S:Sto}{es fs:EE}(h:Ah t S0 S l es)(hj:S[j]?=some (.lst (fs.map pairS))):Ah t S0 (S.set l (.lst (es.map pairS++fs.map pairS))) l (es++fs):=by
 rw[<-VR];exact h.put
theorem V4(hΔ:∀ f,MonoN (Δ f)){t l n:Nat}{b:Bool}{S0 S:Sto}{D:EndsS}{o5 o6 o7 o8:Option SV}(A:Ah t S0 S l [])(hn:n<=12)(q:PQ t (.bl b) 5 S0 D):
 wSt Δ (q7 kd) D [some (.loc t),some (.bl b),some (.int 5),some (.int n),some (.loc l),o5,o6,o7,o8] S:=by
 refine⟨_,rfl,_,rfl,ifT rfl ?_⟩
 obtain⟨m,em,hm⟩:∃ m:Nat,(if (5+(if b=true then (1:Int) else 0))<n then (5+(if b=true then (1:Int) else 0)) else (n:Int))=m/\m<=6:=by
  cases b
  ·by_cases h:(5:Int)<n
   ·exact⟨5,by simp[h],by omega⟩
   ·exact⟨n,by simp[h],by omega⟩
  ·by_cases h:(6:Int)<n
   ·exact⟨6,by simp[h],by omega⟩
   ·exact⟨n,by simp[h],by omega⟩
 suffices key:∀ z:Int,z=m->wSs Δ [q7l kd] D [some (.loc t),some (.bl b),some (.int 5),some (.int z),some (.loc l),o5,o6,o7,o8] S from ⟨_,rfl,_,rfl,key _ em⟩
 rintro _ rfl;refine⟨_,rfl,m,rfl,⟨by omega,by omega⟩,?_⟩
 refine v4 (g9 hΔ _) (λi ρ S2=>∃(es:EE) (o7:Option SV),ρ=[some (.loc t),some (.bl b),some (.int 5),some (.int m),some (.loc l),o5,o6,o7,o8]/\Ah t S0 S2 l es/\(∀ e∈es,e.1<e.2/\e.2<i)/\es.length<=i * 6)
  ⟨[],o7,rfl,A,(λ_ h=>nomatch h),by simp⟩ (λ_ _ _ _=>trivial) ?_ ?_
 ·rintro i x ρ S2 hx ⟨es,p7,rfl,A2,he,hl⟩;obtain⟨rfl,hi⟩:=p9 hx;refine⟨_,rfl,⟨l,_,rfl,A2.at'⟩,_,rfl,0+(i:Int),rfl,⟨by omega,by omega⟩,?_⟩;refine i4 (j6 hΔ _).2 (a5 hΔ _).1 (λj ys S3=>S3=S2/\ys=((VN j).map λj=>(j,i)).map pairS) ⟨rfl,rfl⟩ (λ_ _ _ _=>trivial) ?_ ?_
  ·rintro j x ys S3 hx ⟨rfl,rfl⟩;obtain⟨rfl,hj⟩:=p9 hx;refine⟨_,rfl,_,rfl,by show 2<=big;decide,by simp;show j<100000;omega,rfl,?_⟩;rw[WG,VR,VR];simp[pairS]
  ·rintro ys S3 ⟨rfl,rfl⟩;rw[k8];have en:(0+(i:Int) - 0).toNat=i:=by omega
   rw[en];have A3:=A2.push (o := .lst (((VN i).map λj=>(j,i)).map pairS));refine⟨_,_,A3.at',a8,by simp;show _<=100000;omega,?_⟩;refine⟨es++(VN i).map (λj=>(j,i)),_,rfl,A3.ext (j:=S3.length) a8,λe h=>?_,by simp;omega⟩;rcases VY.mp h with h | h
   ·have:=he e h;omega
   ·obtain⟨j,hj,rfl⟩:=VZ.mp h;have hj:=Va.mp hj;exact⟨hj,by show i<i+1;omega⟩
 ·rintro ρ S2 ⟨es,p7,rfl,A2,he,hl⟩;rw[k8]at he hl;refine q m es l S2 _ _ _ _ ⟨λe h=>?_,by omega,by omega⟩ A2;have:=he e h;omega
theorem V5(hΔ:∀ f,MonoN (Δ f))(hd:AU (Δ kd)){t l n:Nat}{S0 S:Sto}{D:EndsS}{g:SV}{o5 o6 o7 o8:Option SV}(A:Ah t S0 S l [])(hn:n<=12)(q:PQ t g 6 S0 D):
 wSt Δ (q8 kd) D [some (.loc t),some g,some (.int 6),some (.int n),some (.loc l),o5,o6,o7,o8] S:=by
 refine⟨_,rfl,_,rfl,ifT rfl ?_⟩;obtain⟨s,es',hs⟩:∃ s:Nat,1+(n:Int) / 2=s/\s=1+n / 2:=⟨1+n / 2,by omega,rfl⟩
 suffices key:∀ z:Int,z=s->wSs Δ [q8l kd] D [some (.loc t),some g,some (.int 6),some (.int n),some (.loc l),o5,o6,o7,some (.int z)] S from ⟨_,rfl,⟨by decide,by decide⟩,key _ es'⟩
 rintro _ rfl;refine⟨_,rfl,s,rfl,⟨by omega,by omega⟩,?_⟩
 refine v4 (g9 hΔ _) (λi ρ S2=>∃(es:EE) (o7:Option SV),ρ=[some (.loc t),some g,some (.int 6),some (.int n),some (.loc l),o5,o6,o7,some (.int s)]/\Ah t S0 S2 l es/\(∀ e∈es,e.1<i/\s<=e.2/\e.2<n)/\es.length<=i * (n - s))
  ⟨[],o7,rfl,A,(λ_ h=>nomatch h),by simp⟩ (λ_ _ _ _=>trivial) ?_ ?_
 ·rintro i x ρ S2 hx ⟨es,p7,rfl,A2,he,hl⟩;obtain⟨rfl,hi⟩:=p9 hx;refine⟨_,rfl,⟨l,_,rfl,A2.at'⟩,_,rfl,_,rfl,s,n,rfl,rfl,⟨by omega,by omega,by omega,by omega⟩,?_⟩;refine i4 (j6 hΔ _).2 (a5 hΔ _).1 (λj ys S3=>Ah t S0 S3 l es/\∃ fs:EE,ys=fs.map pairS/\(∀ e∈fs,e.1=i/\s<=e.2/\e.2<n)/\fs.length<=j) ⟨A2,[],rfl,(λ_ h=>nomatch h),VH _⟩ (λ_ _ _ _=>trivial) ?_ ?_
  ·rintro j x ys S3 hx ⟨A3,fs,rfl,hf,fl⟩;obtain⟨rfl,hj⟩:=p9 hx;refine⟨_,rfl,hd A3.tape (by decide) (by decide) λr S4 r0 r1 T4 O4 _=>⟨_,rfl,?_⟩⟩;have A4:=A3.draw T4 O4;refine ifD (λ_=>?_) (λ_=>⟨A4,fs,rfl,hf,by omega⟩);refine⟨_,rfl,_,rfl,by show 2<=big;decide,by rw[VA];show _<100000;omega,A4,fs++[(i,s+j)],?_,λe h=>?_,by simp;omega⟩
   ·rw[VR];simp[pairS]
   ·rcases VY.mp h with h | h
    ·exact hf e h
    ·rw[VU.mp h];exact⟨rfl,by show s<=s+j;omega,by show s+j<n;omega⟩
  ·rintro ys S3 ⟨A3,fs,rfl,hf,fl⟩;rw[k8]at fl;have A4:=A3.push (o := .lst (fs.map pairS));have hx6:i * (n - s)<=6 * 12:=Xw (by omega) (by omega);refine⟨_,_,A4.at',a8,by simp;show _<=100000;omega,?_⟩;refine⟨es++fs,_,rfl,A4.ext (j:=S3.length) a8,λe h=>?_,?_⟩
   ·rcases VY.mp h with h | h
    ·have:=he e h;exact⟨by omega,this.2⟩
    ·have:=hf e h;exact⟨by omega,this.2⟩
   ·rw[VB,X0];omega
 ·rintro ρ S2 ⟨es,p7,rfl,A2,he,hl⟩;rw[k8]at he hl;have e0:((s:Int) - 0).toNat=s:=by omega
  rw[e0]at he hl;have h35:s * (n - s)<=7 * 5:=Xw (by omega) (by omega);refine q n es l S2 _ _ _ _ ⟨λe h=>?_,by omega,hn⟩ A2;have:=he e h;omega
theorem V6(hΔ:∀ f,MonoN (Δ f))(hd:AU (Δ kd)){t l n:Nat}{S0 S:Sto}{D:EndsS}{g:SV}{o5 o6 o7 o8:Option SV}(A:Ah t S0 S l [])(hn:n<=12)(q:PQ t g 7 S0 D):
 wSt Δ (q9 kd) D [some (.loc t),some g,some (.int 7),some (.int n),some (.loc l),o5,o6,o7,o8] S:=by
 refine⟨_,rfl,_,rfl,ifT rfl ?_⟩;obtain⟨m,em,hm⟩:∃ m:Nat,3+(n:Int) / 3=m/\m=3+n / 3:=⟨3+n / 3,by omega,rfl⟩
 suffices key:∀ z:Int,z=m->wSs Δ [q9l kd] D [some (.loc t),some g,some (.int 7),some (.int z),some (.loc l),o5,o6,o7,o8] S from ⟨_,rfl,⟨by decide,by decide⟩,key _ em⟩
 rintro _ rfl;refine⟨3,rfl,⟨by decide,by decide⟩,?_⟩
 refine v4 (g9 hΔ _) (λi ρ S2=>∃(es:EE) (o7:Option SV),ρ=[some (.loc t),some g,some (.int 7),some (.int m),some (.loc l),o5,o6,o7,o8]/\Ah t S0 S2 l es/\(∀ e∈es,e.1<3/\e.2<3/\e.1≠e.2)/\es.length<=i * 3)
  ⟨[],o7,rfl,A,(λ_ h=>nomatch h),by simp⟩ (λ_ _ _ _=>trivial) ?_ ?_
 ·rintro i x ρ S2 hx ⟨es,p7,rfl,A2,he,hl⟩;obtain⟨rfl,hi⟩:=p9 hx;refine⟨_,rfl,⟨l,_,rfl,A2.at'⟩,_,rfl,_,rfl,show(0:Int)<3 by decide,by show 2<=big;decide,by show 1<=big;decide,?_⟩;have A3:=A2.push (o := .lst [.tup [.int (0+(i:Int)),.int ((0+(i:Int)+1) % 3)]]);refine⟨_,rfl,hd A3.tape (by decide) (by decide) λr S4 r0 r1 T4 O4 L4=>?_⟩;have A4:=A3.draw T4 O4;have ht:=A2.t0;have hlen:=A2.on.len;have at1:S4[S2.length]?=some (.lst [.tup [.int (0+(i:Int)),.int ((0+(i:Int)+1) % 3)]]):=O4.keep _ _ (by omega) a8;refine⟨_,at1,⟨by omega,by omega⟩,by simp;show _<=100000;omega,?_⟩
  have e1:(VM (1+r).toNat [SV.tup [.int (0+(i:Int)),.int ((0+(i:Int)+1) % 3)]]).flatten=(VM (1+r).toNat (i,(i+1) % 3)).map pairS:=by
   induction (1+r).toNat with
   | zero=>rfl
   | succ k ih=>rw[Vn,WQ,ih,Vn];simp[pairS]
  rw[e1];have A5:=A4.push (o := .lst ((VM (1+r).toNat (i,(i+1) % 3)).map pairS));refine⟨_,_,A5.at',a8,by simp;show _<=100000;omega,?_⟩;refine⟨es++VM (1+r).toNat (i,(i+1) % 3),_,rfl,A5.ext (j:=S4.length) a8,λe h=>?_,by simp;omega⟩;rcases VY.mp h with h | h
  ·exact he e h
  ·rw[List.eq_of_mem_replicate h];exact⟨by show i<3;omega,by show(i+1) % 3<3;omega,by show i≠(i+1) % 3;omega⟩
 ·rintro ρ S2 ⟨es,p7,rfl,A2,he,hl⟩;rw[k8]at hl;refine q m es l S2 _ _ _ _ ⟨λe h=>?_,by omega,by omega⟩ A2;have:=he e h;omega
theorem Ua{t l:Nat}{way n:Int}{S:Sto}{D:EndsS}{g:SV}{o5 o6 o7 o8:Option SV}(h:¬ way<3)(q:D.nx [some (.loc t),some g,some (.int way),some (.int n),some (.loc l),o5,o6,o7,o8] S):wSt Δ (q4 kd) D [some (.loc t),some g,some (.int way),some (.int n),some (.loc l),o5,o6,o7,o8] S:=⟨_,rfl,_,rfl,ifD (λz=>absurd z h) (λ_=>ifF rfl q)⟩
theorem Gm{t l:Nat}{way n:Int}{S:Sto}{D:EndsS}{g:SV}{o5 o6 o7 o8:Option SV}(h:¬ way=3)(q:D.nx [some (.loc t),some g,some (.int way),some (.int n),some (.loc l),o5,o6,o7,o8] S):wSt Δ (q5 kd) D [some (.loc t),some g,some (.int way),some (.int n),some (.loc l),o5,o6,o7,o8] S:=⟨_,rfl,_,rfl,ifD (λz=>absurd z h) (λ_=>ifF rfl q)⟩
theorem Gn{t l:Nat}{way n:Int}{S:Sto}{D:EndsS}{g:SV}{o5 o6 o7 o8:Option SV}(h:¬ way=4)(q:D.nx [some (.loc t),some g,some (.int way),some (.int n),some (.loc l),o5,o6,o7,o8] S):wSt Δ (q6 kd) D [some (.loc t),some g,some (.int way),some (.int n),some (.loc l),o5,o6,o7,o8] S:=⟨_,rfl,_,rfl,ifD (λz=>absurd z h) (λ_=>ifF rfl q)⟩
theorem Gp{t l:Nat}{way n:Int}{S:Sto}{D:EndsS}{g:SV}{o5 o6 o7 o8:Option SV}(h:¬ way=5)(q:D.nx [some (.loc t),some g,some (.int way),some (.int n),some (.loc l),o5,o6,o7,o8] S):wSt Δ (q7 kd) D [some (.loc t),some g,some (.int way),some (.int n),some (.loc l),o5,o6,o7,o8] S:=⟨_,rfl,_,rfl,ifD (λz=>absurd z h) (λ_=>q)⟩
theorem Gq{t l:Nat}{way n:Int}{S:Sto}{D:EndsS}{g:SV}{o5 o6 o7 o8:Option SV}(h:¬ way=6)(q:D.nx [some (.loc t),some g,some (.int way),some (.int n),some (.loc l),o5,o6,o7,o8] S):wSt Δ (q8 kd) D [some (.loc t),some g,some (.int way),some (.int n),some (.loc l),o5,o6,o7,o8] S:=⟨_,rfl,_,rfl,ifD (λz=>absurd z h) (λ_=>q)⟩
theorem Gr{t l:Nat}{way n:Int}{S:Sto}{D:EndsS}{g:SV}{o5 o6 o7 o8:Option SV}(h:¬ way=7)(q:D.nx [some (.loc t),some g,some (.int way),some (.int n),some (.loc l),o5,o6,o7,o8] S):wSt Δ (q9 kd) D [some (.loc t),some g,some (.int way),some (.int n),some (.loc l),o5,o6,o7,o8] S:=⟨_,rfl,_,rfl,ifD (λz=>absurd z h) (λ_=>q)⟩
theorem Pz(hΔ:∀ f,MonoN (Δ f))(hd:AU (Δ kd)){t l n:Nat}{b:Bool}{w:Int}{S0 S:Sto}{Q:QE}(w0:0<=w)(w1:w<8)(A:Ah t S0 S l [])(hn:n<=12)
 (q:∀(n:Nat) (es:EE) (l:Nat) (S':Sto),Prs n es->Ah t S0 S' l es->Q (.tup [.int n,.loc l]) S'):
 wSs Δ [q4 kd,q5 kd,q6 kd,q7 kd,q8 kd,q9 kd,q10 kd] (w9 Q) [some (.loc t),some (.bl b),some (.int w),some (.int n),some (.loc l),none,none,none,none] S:=by
 have fin:∀(n:Nat) (es:EE) (l:Nat) (S':Sto) (o5 o6 o7 o8:Option SV),Prs n es->Ah t S0 S' l es->wSs Δ [q10 kd] (w9 Q) [some (.loc t),some (.bl b),some (.int w),some (.int n),some (.loc l),o5,o6,o7,o8] S':=λn es l S' o5 o6 o7 o8 P A'=>⟨_,rfl,_,rfl,by show 2<=big;decide,q n es l S' P A'⟩
 have nil:=FQ hn;by_cases h:w<3
 ·exact V1 hΔ hd A hn λes S' o5 o6 P A'=>Gm (by omega) (Gn (kd:=kd) (by omega) (Gp (kd:=kd) (by omega) (Gq (by omega) (Gr (by omega) (fin n es l S' _ _ _ _ P A')))))
 refine Ua h ?_;have:w=3\/w=4\/w=5\/w=6\/w=7:=by omega
 rcases this with rfl | rfl | rfl | rfl | rfl
 ·exact V2 hΔ hd A hn λn es l S' o5 o6 o7 o8 P A'=>Gn (kd:=kd) (by omega) (Gp (kd:=kd) (by omega) (Gq (by omega) (Gr (by omega) (fin n es l S' _ _ _ _ P A'))))
 ·exact Gm (by omega) (V3 (kd:=kd) hΔ A hn λn es l S' o5 o6 o7 o8 P A'=>Gp (kd:=kd) (by omega) (Gq (by omega) (Gr (by omega) (fin n es l S' _ _ _ _ P A'))))
 ·exact Gm (by omega) (Gn (kd:=kd) (by omega) (V4 (kd:=kd) hΔ A hn λn es l S' o5 o6 o7 o8 P A'=>Gq (by omega) (Gr (by omega) (fin n es l S' _ _ _ _ P A'))))
 ·exact Gm (by omega) (Gn (kd:=kd) (by omega) (Gp (kd:=kd) (by omega) (V5 hΔ hd A hn λn es l S' o5 o6 o7 o8 P A'=>Gr (by omega) (fin n es l S' _ _ _ _ P A'))))
 ·exact Gm (by omega) (Gn (kd:=kd) (by omega) (Gp (kd:=kd) (by omega) (Gq (by omega) (V6 hΔ hd A hn λn es l S' o5 o6 o7 o8 P A'=>fin n es l S' _ _ _ _ P A'))))
theorem NO(hΔ:∀ f,MonoN (Δ f))(hd:AU (Δ kd)){D:Df}(hb:D.body=NN kd)(hN:D.N.length=9)(hp:D.ps.length=2):FP (f7 Δ D):=by
 intro t g S Q T q;unfold f7;rw[hb,hN];refine⟨hp.symm,?_⟩;have t0:=T.lt;refine⟨_,rfl,hd T (by decide) (by decide) λw S1 w0 w1 T1 O1 _=>?_⟩;refine⟨_,rfl,hd T1 (by decide) (by decide) λr1 S2 a0 a1 T2 O2 _=>⟨_,rfl,hd T2 (by decide) (by decide) λr2 S3 b0 b1 T3 O3 _=>⟨by show 2<=big;decide,_,rfl,_,(if g=true then .int (7+r2) else .int r1),a7 a8,?_⟩⟩⟩;have O:=((O1.trans O2).trans O3).push (o := .lst [.int r1,.int (7+r2)])
 have key:∀(z:Int) (n:Nat),z=n->n<=12->wSs Δ [q3 kd,q4 kd,q5 kd,q6 kd,q7 kd,q8 kd,q9 kd,q10 kd] (w9 Q) [some (.loc t),some (.bl g),some (.int w),some (.int z),none,none,none,none,none] (S3++[SO.lst [.int r1,.int (7+r2)]]):=by
  rintro _ n rfl hn;refine⟨by show 0<=big;decide,?_⟩;have A:Ah t S ((S3++[SO.lst [.int r1,.int (7+r2)]])++[SO.lst []]) (S3++[SO.lst [.int r1,.int (7+r2)]]).length []:=⟨T3.push.push,O.push,a8,O.len,t0⟩
  have r:=Pz (b:=g) hΔ hd w0 w1 A hn (Q:=Q) λn es l S' P A=>q n es l S' P A.at' A.new A.tape A.on;exact r
 cases g with
 | false=>exact⟨rfl,key r1 r1.toNat (by omega) (by omega)⟩
 | true=>exact⟨rfl,key (7+r2) (7+r2).toNat (by omega) (by omega)⟩
end
def u1(kd kp:Nat):Stm:=(.asg (.tup (.cons (.nm 2) (.cons (.nm 3) .nil))) (.call kp (.cons (.var 0) (.cons (.var 1) .nil))))
def u2(kd kp:Nat):Stm:=(.iff (.cmp .Eq (.var 3) (.lst .nil)) [(.asg (.tup (.cons (.nm 2) (.cons (.nm 3) .nil))) (.call kp (.cons (.var 0) (.cons (.var 1) .nil))))] [])
def u3(kd kp:Nat):Stm:=(.iff (.and (.cmp .NotEq (.var 3) (.lst .nil)) (.cmp .Eq (.call kd (.cons (.var 0) (.cons (.c (.int 4)) .nil))) (.c (.int 0)))) [(.asg (.nm 3) (.op .Add (.var 3) (.comp ["_law_turn"] ["_law_pairs","_law_tape_here"] [3,0] (.nm 0) (.rng1 (.op .Add (.c (.int 1)) (.call kd (.cons (.var 0) (.cons (.c (.int 3)) .nil))))) .no (.ix (.var 1) (.call kd (.cons (.var 2) (.cons (.bi .len (.cons (.var 1) .nil)) .nil)))))))] [])
def u4(kd kp:Nat):Stm:=(.asg (.nm 4) (.lst .nil))
def u5(kd kp:Nat):Stm:=(.loop (.tup (.cons (.nm 5) (.cons (.nm 6) .nil))) (.seq (.var 3)) [(.expr (.mt .insert (.var 4) (.cons (.call kd (.cons (.var 0) (.cons (.op .Add (.bi .len (.cons (.var 4) .nil)) (.c (.int 1))) .nil))) (.cons (.tup (.cons (.bi .min (.cons (.var 5) (.cons (.var 6) .nil))) (.cons (.bi .max (.cons (.var 5) (.cons (.var 6) .nil))) .nil))) .nil))))])
def u6(kd kp:Nat):Stm:=(.ret (.tup (.cons (.var 2) (.cons (.bi .tuple (.cons (.var 4) .nil)) .nil))))
def Ub(kd kp:Nat):List Stm:=[u1 kd kp,u2 kd kp,u3 kd kp,u4 kd kp,u5 kd kp,u6 kd kp]
def i5(n:Nat)(es:EE):SV := .tup [.int n,.tup (es.map pairS)]
structure Web(n:Nat)(es:EE):Prop where
 en:∀ e∈es,e.1<e.2/\e.2<n
 len:es.length<=39
 few:n<=12
def Qo(s:Sn):Prop:=∀{t:Nat} {g:Bool} {S:Sto} {Q:QE},TapeS S t->(∀(n:Nat) (es:EE) (S':Sto),Web n es->TapeS S' t->On t S S'->Q (i5 n es) S')->s [.loc t,.bl g] S Q
theorem Gs{xs:List SV}:Fy xs []=xs.isEmpty:=by cases xs<;>rfl
section
variable{Δ:Nat->Sn}{kd kp:Nat}
theorem De(hΔ:∀ f,MonoN (Δ f))(hd:AU (Δ kd)){t n l:Nat}{g:SV}{S0 S:Sto}{es:EE}{Q:QE}{o4 o5 o6:Option SV}(he:∀ e∈es,e.1<n/\e.2<n/\e.1≠e.2)(hl:es.length<=39)(hn:n<=12)(A:Ah t S0 S l es)
 (q:∀(es:EE) (S':Sto),Web n es->TapeS S' t->On t S0 S'->Q (i5 n es) S'):wSs Δ [u4 kd kp,u5 kd kp,u6 kd kp] (w9 Q) [some (.loc t),some g,some (.int n),some (.loc l),o4,o5,o6] S:=by
 refine⟨by show 0<=big;decide,?_⟩;have hlt:=Ja A.at';have htl:=A.tape.lt;refine⟨_,rfl,_,a7 A.push.at',?_⟩
 refine v4 (g9 hΔ _) (λi ρ S2=>∃(fs:EE) (o5 o6:Option SV),ρ=[some (.loc t),some g,some (.int n),some (.loc l),some (.loc S.length),o5,o6]/\Ah t S0 S2 S.length fs/\S2[l]?=some (.lst (es.map pairS))/\(∀ e∈fs,e.1<e.2/\e.2<n)/\fs.length=i)
  ⟨[],o5,o6,rfl,⟨A.tape.push,A.on.push,a8,A.on.len,A.t0⟩,A.push.at',(λ_ h=>nomatch h),rfl⟩ (λi ρ S2 h=>?_) ?_ ?_
 ·obtain⟨fs,_,_,_,_,h2,_⟩:=h;exact h2.trans A.push.at'.symm
 ·rintro i x ρ S2 hx ⟨fs,p5,p6,rfl,A2,h2,hf,fl⟩;rw[VI]at hx;cases hei:es[i]? with
  | none=>rw[hei]at hx;cases hx
  | some e=>
    rw[hei]at hx;have hx:pairS e=x:=oj hx;subst hx;have hil:=(gM hei).1;have hee:=he e (VC hei);refine⟨_,rfl,⟨_,_,rfl,A2.at'⟩,_,rfl,_,rfl,_,a7 A2.at',hd A2.tape (by omega) (by rw[VA];omega) λr S3 r0 r1 T3 O3 _=>?_⟩;have A3:=A2.draw T3 O3;rw[VA]at r1;refine⟨_,rfl,_,rfl,_,rfl,_,rfl,by show 2<=big;decide,?_⟩;refine⟨_,A3.at',⟨r0,by rw[VA];omega⟩,by rw[VA];show _<100000;omega,?_⟩
    have key:∀(a b:Nat) (z1 z2:Int),z1=a->z2=b->a<b->b<n->∃(fs':EE) (o5 o6:Option SV),([some (.loc t),some g,some (.int n),some (.loc l),some (.loc S.length),some (.int e.1),some (.int e.2)]:EnvS)=[some (.loc t),some g,some (.int n),some (.loc l),some (.loc S.length),o5,o6]/\Ah t S0 (S3.set S.length (.lst ((fs.map pairS).take r.toNat ++ .tup [.int z1,.int z2]::(fs.map pairS).drop r.toNat))) S.length fs'/\(S3.set S.length (.lst ((fs.map pairS).take r.toNat ++ .tup [.int z1,.int z2]::(fs.map pairS).drop r.toNat)))[l]?=some (.lst (es.map pairS))/\(∀ e∈fs',e.1<e.2/\e.2<n)/\fs'.length=i+1:=by
     rintro a b _ _ rfl rfl hab hbn
     have e1:(fs.map pairS).take r.toNat++SV.tup [.int a,.int b]::(fs.map pairS).drop r.toNat=(fs.take r.toNat++(a,b)::fs.drop r.toNat).map pairS:=by
      rw[VR,Vk,Y2,Yd];rfl
     rw[e1];refine⟨_,_,_,rfl,A3.put,?_,λe' h=>?_,?_⟩
     ·rw[AH (by omega)];exact O3.keep _ _ A.ne h2
     ·rcases VY.mp h with h | h
      ·exact hf e' (Xx h)
      ·rcases VW.mp h with h | h
       ·rw[h];exact⟨hab,hbn⟩
       ·exact hf e' (List.mem_of_mem_drop h)
     ·rw[VB,Vb,Vr,WL];omega
    by_cases hc:e.1<e.2
    ·exact key e.1 e.2 _ _ (by rw[iG (by omega)]) (by rw[iP (by omega)]) hc hee.2.1
    ·exact key e.2 e.1 _ _ (by rw[iP (by omega)]) (by rw[iG (by omega)]) (by omega) hee.1
 ·rintro ρ S2 ⟨fs,p5,p6,rfl,A2,h2,hf,fl⟩;rw[VA]at fl;exact⟨_,rfl,_,rfl,_,a7 A2.at',by show 2<=big;decide,q fs S2 ⟨hf,by omega,hn⟩ A2.tape A2.on⟩
theorem Gv(hΔ:∀ f,MonoN (Δ f))(hd:AU (Δ kd)){t n l:Nat}{g:SV}{S0 S:Sto}{es:EE}{Q:QE}{o4 o5 o6:Option SV}(P:Prs n es)(A:Ah t S0 S l es)
 (q:∀(es:EE) (S':Sto),Web n es->TapeS S' t->On t S0 S'->Q (i5 n es) S'):wSs Δ [u3 kd kp,u4 kd kp,u5 kd kp,u6 kd kp] (w9 Q) [some (.loc t),some g,some (.int n),some (.loc l),o4,o5,o6] S:=by
 refine⟨_,rfl,by show 0<=big;decide,?_⟩;have A1:=A.push (o:=SO.lst []);refine⟨_,_,A1.at',a8,.inr (.inr rfl),_,rfl,?_⟩;rw[Gs];refine ifB (λh1=>?_) (λh1=>ifF rfl (De hΔ hd P.en (by have:=P.len;omega) P.few A1 q))
 have hpos:0<es.length:=by
  cases es with
  | nil=>cases h1
  | cons _ _=>simp
 refine⟨_,rfl,hd A1.tape (by decide) (by decide) λr S2 r0 r1 T2 O2 _=>⟨_,rfl,?_⟩⟩;have A2:=A1.draw T2 O2;refine ifD (λ_=>?_) (λ_=>De hΔ hd P.en (by have:=P.len;omega) P.few A2 q);refine⟨_,rfl,_,rfl,hd A2.tape (by decide) (by decide) λr3 S3 a0 a1 T3 O3 _=>⟨_,rfl,⟨by omega,by omega⟩,?_⟩⟩;have A3:=A2.draw T3 O3;refine i4 (j6 hΔ _).2 (a5 hΔ _).1 (λi ys S4=>Ah t S0 S4 l es/\∃ fs:EE,ys=fs.map pairS/\(∀ e∈fs,e∈es)/\fs.length=i) ⟨A3,[],rfl,(λ_ h=>nomatch h),rfl⟩ (λ_ _ _ _=>trivial) ?_ ?_
 ·rintro i x ys S4 hx ⟨A4,fs,rfl,hf,fl⟩;obtain⟨rfl,hi⟩:=p9 hx;refine⟨_,rfl,_,rfl,_,rfl,_,a7 A4.at',hd A4.tape (by rw[VA];omega) (by rw[VA];have:=P.len;omega) λr5 S5 b0 b1 T5 O5 _=>?_⟩;have A5:=A4.draw T5 O5;rw[VA]at b1;have hr:r5.toNat<es.length:=by omega
  refine⟨_,pairS es[r5.toNat],a7 A5.at',?_,by rw[VA];show _<100000;omega,A5,fs++[es[r5.toNat]],?_,λe h=>?_,by simp[fl]⟩
  ·have:=f8 (xs:=es.map pairS) (j:=r5.toNat) (v:=pairS es[r5.toNat]) (by rw[VI,VE hr];rfl)
   rwa [X6 b0]at this
  ·rw[VR];rfl
  ·rcases VY.mp h with h | h
   ·exact hf e h
   ·rw[VU.mp h];exact WX hr
 ·rintro ys S4 ⟨A4,fs,rfl,hf,fl⟩;rw[k8]at fl;have A5:=A4.push (o := .lst (fs.map pairS));have hPl:=P.len;refine⟨_,_,A5.at',a8,by simp;show _<=100000;omega,?_⟩;rw[<-VR];refine De hΔ hd (es:=es++fs) (λe h=>?_) (by rw[VB];omega) P.few ⟨A5.tape.push,A5.on.push,a8,?_,A.t0⟩ q
  ·rcases VY.mp h with h | h
   ·exact P.en e h
   ·exact P.en e (hf e h)
  ·have:=A5.on.len;exact this
theorem Sm(hΔ:∀ f,MonoN (Δ f))(hd:AU (Δ kd))(hp:FP (Δ kp)){D:Df}(hb:D.body=Ub kd kp)(hN:D.N.length=7)(hps:D.ps.length=2):Qo (f7 Δ D):=by
 intro t g S Q T q;unfold f7;rw[hb,hN];refine⟨hps.symm,?_⟩;have t0:=T.lt;refine⟨_,rfl,_,rfl,hp T λn es l S1 P h1 hl T1 O1=>?_⟩;have A1:Ah t S S1 l es:=⟨T1,O1,h1,hl,t0⟩
 refine⟨_,rfl,by show 0<=big;decide,?_⟩;have A2:=A1.push (o:=SO.lst []);refine⟨_,_,A2.at',a8,.inr (.inr rfl),_,rfl,?_⟩;rw[Gs];refine ifB (λ_=>?_) (λ_=>Gv hΔ hd P A2 λes S' W T' O'=>q n es S' W T' O');refine⟨_,rfl,_,rfl,hp A2.tape λn es l S3 P3 h3 hl3 T3 O3=>?_⟩;exact Gv hΔ hd P3 ⟨T3,A2.on.trans O3,h3,by have:=A2.on.len;omega,t0⟩ λes S' W T' O'=>q n es S' W T' O'
end
def Ib:List Stm:=[(.ret (.and (.bi .isi (.cons (.var 0) (.cons (.tyc .int) .nil))) (.not (.bi .isi (.cons (.var 0) (.cons (.tyc .bool) .nil))))))]
def Ei(k:Nat):List Stm:=[(.ret (.and (.call k (.cons (.var 1) .nil)) (.chn .LtE .Lt (.c (.int 0)) (.var 1) (.ix (.var 0) (.c (.int 0))))))]
def Jb(k:Nat):List Stm:=[(.ret (.and (.call k (.cons (.var 1) .nil)) (.chn .LtE .Lt (.c (.int 0)) (.var 1) (.bi .len (.cons (.ix (.var 0) (.c (.int 1))) .nil)))))]
def FR(k:Nat):List Stm:=[(.iff (.not (.call k (.cons (.var 0) (.cons (.var 1) .nil)))) [.no] [])]
def Jc(k:Nat):List Stm:=[(.expr (.call k (.cons (.var 0) (.cons (.var 1) .nil)))),(.ret (.comp ["tie","ends"] ["place"] [1] (.tup (.cons (.nm 0) (.cons (.nm 1) .nil))) (.enum (.ix (.var 0) (.c (.int 1)))) (.yes (.cmp .In (.var 2) (.var 1))) (.var 0)))]
def Jd(k:Nat):List Stm:=[(.expr (.call k (.cons (.var 0) (.cons (.var 1) .nil)))),(.asg (.tup (.cons (.nm 3) (.cons (.nm 4) .nil))) (.ix (.ix (.var 0) (.c (.int 1))) (.var 1))),(.iff (.cmp .Eq (.var 2) (.var 3)) [(.ret (.var 4))] []),(.iff (.cmp .Eq (.var 2) (.var 4)) [(.ret (.var 3))] []),.no]
def D3(s:Sn):Prop:=∀{i:Int} {S:Sto} {Q:QE},Q (.bl true) S->s [.int i] S Q
def C4(s:Sn):Prop:=∀{n p:Nat} {es:EE} {S:Sto} {Q:QE},p<n->Q (.bl true) S->s [i5 n es,.int p] S Q
def CJ(s:Sn):Prop:=∀{n j:Nat} {es:EE} {S:Sto} {Q:QE},j<es.length->Q (.bl true) S->s [i5 n es,.int j] S Q
def AM(s:Sn):Prop:=∀{n p:Nat} {es:EE} {S:Sto} {Q:QE},p<n->Q .non S->s [i5 n es,.int p] S Q
def B5(s:Sn):Prop:=∀{n j:Nat} {es:EE} {S:Sto} {Q:QE},j<es.length->Q .non S->s [i5 n es,.int j] S Q
def g8(es:EE)(p:Nat)(i:Nat):List Nat:=(VN i).filter λj=>match es[j]? with | some e=>decide (e.1=p)||decide (e.2=p) | none=>false
def f6(xs:List Nat):List SV:=xs.map λ(i:Nat)=>SV.int i
def BY(s:Sn):Prop:=∀{n p:Nat} {es:EE} {S:Sto} {Q:QE},es.length<=5000->p<n->Q (.loc S.length) (S++[.lst (f6 (g8 es p es.length))])->s [i5 n es,.int p] S Q
def y0(e:Nat×Nat)(p:Nat):Nat:=if p=e.1 then e.2 else e.1
def Au(s:Sn):Prop:=∀{n p j:Nat} {es:EE} {e:Nat×Nat} {S:Sto} {Q:QE},es[j]?=some e->(p=e.1\/p=e.2)->Q (.int (y0 e p)) S->s [i5 n es,.int j,.int p] S Q
section
variable{Δ:Nat->Sn}
theorem NP{D:Df}(hb:D.body=Ib)(hN:D.N.length=1)(hp:D.ps.length=1):D3 (f7 Δ D):=by
 intro i S Q q;unfold f7;rw[hb,hN];exact⟨hp.symm,_,rfl,_,nofun,rfl,_,rfl,ifT rfl ⟨_,rfl,_,nofun,rfl,_,rfl,q⟩⟩
theorem Gx{k:Nat}(h0:D3 (Δ k)){D:Df}(hb:D.body=Ei k)(hN:D.N.length=2)(hp:D.ps.length=2):C4 (f7 Δ D):=by
 intro n p es S Q h q;unfold f7;rw[hb,hN];refine⟨hp.symm,_,rfl,h0 ⟨_,rfl,ifT rfl ⟨_,rfl,_,rfl,ifT (decide_eq_true (XJ p)) ⟨_,rfl,_,_,rfl,rfl,?_⟩⟩⟩⟩;show Q (.bl (decide ((p:Int)<n))) S;rw[decide_eq_true (by omega)];exact q
theorem L7{k:Nat}(h0:D3 (Δ k)){D:Df}(hb:D.body=Jb k)(hN:D.N.length=2)(hp:D.ps.length=2):CJ (f7 Δ D):=by
 intro n p es S Q h q;unfold f7;rw[hb,hN];refine⟨hp.symm,_,rfl,h0 ⟨_,rfl,ifT rfl ⟨_,rfl,_,rfl,ifT (decide_eq_true (XJ p)) ⟨_,rfl,_,_,rfl,rfl,_,rfl,?_⟩⟩⟩⟩;show Q (.bl (decide ((p:Int)<(es.map pairS).length))) S;rw[decide_eq_true (by rw[VA];omega)];exact q
theorem EF{k:Nat}(h0:C4 (Δ k)){D:Df}(hb:D.body=FR k)(hN:D.N.length=2)(hp:D.ps.length=2):AM (f7 Δ D):=by
 intro n p es S Q h q;unfold f7;rw[hb,hN];exact⟨hp.symm,_,rfl,_,rfl,h0 h ⟨_,rfl,ifF rfl q⟩⟩
theorem Gy{k:Nat}(h0:CJ (Δ k)){D:Df}(hb:D.body=FR k)(hN:D.N.length=2)(hp:D.ps.length=2):B5 (f7 Δ D):=by
 intro n p es S Q h q;unfold f7;rw[hb,hN];exact⟨hp.symm,_,rfl,_,rfl,h0 h ⟨_,rfl,ifF rfl q⟩⟩
theorem BZ{xs:List SV}{i:Nat}{x:SV}(h:(BQ xs)[i]?=some x):∃ y,xs[i]?=some y/\x = .tup [.int i,y]:=by
 unfold BQ at h;rw[Xr]at h;cases hy:xs[i]? with
 | none=>rw[hy]at h;revert h;cases(VN xs.length)[i]?<;>exact nofun
 | some y=>
   have hi:=(gM hy).1;rw[hy,W2 hi]at h;exact⟨y,rfl,(oj h).symm⟩
theorem Bm{xs:List SV}:(BQ xs).length=xs.length:=by unfold BQ;simp
theorem A8{es:EE}{i:Nat}{x:SV}(h:(es.map pairS)[i]?=some x):∃ e,es[i]?=some e/\x=pairS e:=by
 rw[VI]at h;cases he:es[i]? with
 | none=>rw[he]at h;cases h
 | some e=>rw[he]at h;exact⟨e,rfl,(oj h).symm⟩
theorem Bn(p:Nat)(e:Nat×Nat):inS (.int p) [.int e.1,.int e.2]=(decide (e.1=p)||decide (e.2=p)):=by
 have k:∀ a:Nat,((a:Int) == (p:Int))=decide (a=p):=λa=>by
  rw[Vv];simp[Vm]
 unfold inS;simp only[WC,Yh,Yc,eqF,k]
theorem Ba(es:EE)(p i:Nat){e:Nat×Nat}(h:es[i]?=some e):g8 es p (i+1)=g8 es p i++if (decide (e.1=p)||decide (e.2=p))=true then [i] else []:=by
 unfold g8;rw[WG,Wu]
 congr 1
 rw[WN,h];rfl
theorem Dg(es:EE)(p i:Nat):(g8 es p i).length<=i:=by
 have:=We (λj=>match es[j]? with | some e=>decide (e.1=p)||decide (e.2=p) | none=>false) (VN i);rw[Vs]at this;exact this
theorem mem_tiesAt{es:EE}{p j:Nat}:j∈g8 es p es.length↔∃ e,es[j]?=some e/\(e.1=p\/e.2=p):=by
 unfold g8;rw[W1,Va];constructor
 ·rintro⟨h,h2⟩;rw[VE h]at h2;exact⟨_,VE h,by simpa using h2⟩
 ·rintro⟨e,h,h2⟩;refine⟨(gM h).1,?_⟩;rw[h];simpa using h2
theorem L8{k:Nat}(hΔ:∀ f,MonoN (Δ f))(h0:AM (Δ k)){D:Df}(hb:D.body=Jc k)(hN:D.N.length=2)(hp:D.ps.length=2):BY (f7 Δ D):=by
 intro n p es S Q hl h q;unfold f7;rw[hb,hN];refine⟨hp.symm,_,rfl,_,rfl,h0 h ⟨_,rfl,_,_,rfl,rfl,_,rfl,?_⟩⟩;refine i4 (j6 hΔ _).2 (a5 hΔ _).1 (λi ys S'=>S'=S/\ys=f6 (g8 es p i)) ⟨rfl,rfl⟩ (λ_ _ _ _=>trivial) ?_ ?_
 ·rintro i x ys S' hx ⟨rfl,rfl⟩;obtain⟨y,hy,rfl⟩:=BZ hx;obtain⟨e,he,rfl⟩:=A8 hy;have hi:=(gM he).1;have ht:=Dg es p i;refine⟨_,rfl,_,rfl,rfl,_,rfl,rfl,_,rfl,?_⟩;show if inS (.int p) [.int e.1,.int e.2]=true then _ else _
  rw[Bn];refine ifB (λh=>?_) (λh=>?_)
  ·refine⟨_,rfl,by show(f6 _).length<100000;unfold f6;rw[VA];omega,rfl,?_⟩;rw[Ba es p i he,iP h];unfold f6;rw[VR];rfl
  ·refine⟨rfl,?_⟩;rw[Ba es p i he,iG (by rw[h];decide),Vy]
 ·rintro ys S' ⟨rfl,rfl⟩;rw[Bm,VA];exact q
theorem L9{k:Nat}(h0:B5 (Δ k)){D:Df}(hb:D.body=Jd k)(hN:D.N.length=5)(hp:D.ps.length=3):Au (f7 Δ D):=by
 intro n p j es e S Q he h q;unfold f7;rw[hb,hN];refine⟨hp.symm,_,rfl,_,rfl,h0 (gM he).1 ⟨_,rfl,_,_,rfl,rfl,_,rfl,_,pairS e,rfl,f8 (by rw[VI,he];rfl),?_⟩⟩;refine⟨_,rfl,_,rfl,_,rfl,?_⟩;refine ifD (λh1=>⟨_,rfl,?_⟩) (λh1=>⟨_,rfl,_,rfl,_,rfl,ifD (λh2=>⟨_,rfl,?_⟩) (λh2=>?_)⟩)
 ·have h1:p=e.1:=Vm.mp h1;unfold y0 at q;rw[iP h1]at q;exact q
 ·have h1:¬ p=e.1:=λz=>h1 (congrArg _ z);unfold y0 at q;rw[iG h1]at q;exact q
 ·rcases h with h | h
  ·exact absurd (congrArg Nat.cast h) h1
  ·exact absurd (congrArg Nat.cast h) h2
end
theorem j8{xs:List Nat}:(f6 xs).length=xs.length:=by unfold f6;rw[VA]
theorem t9{xs ys:List Nat}:f6 (xs++ys)=f6 xs++f6 ys:=by unfold f6;rw[VR]
structure Gw(S S':Sto):Prop where
 len:S.length<=S'.length
 keep:∀(k:Nat) (o:SO),S[k]?=some o->S'[k]?=some o
theorem Gw.refl(S:Sto):Gw S S:=⟨VH _,λ_ _ h=>h⟩
theorem Gw.push{S S':Sto}{o:SO}(h:Gw S S'):Gw S (S'++[o]):=⟨by rw[VB];have:=h.len;omega,λk u z=>j4 (h.keep k u z)⟩
theorem Gw.put{S S':Sto}{o:SO}{k:Nat}(h:Gw S S')(hk:S.length<=k):Gw S (S'.set k o):=⟨by rw[Vw];exact h.len,λj u z=>by
 rw[AH (λe=>by have:=Ja z;omega)];exact h.keep j u z⟩
theorem Gw.trans{S S' S'':Sto}(a:Gw S S')(b:Gw S' S''):Gw S S'':=⟨Vc a.len b.len,λk o h=>b.keep k o (a.keep k o h)⟩
theorem Av(xs:List Nat):(f6 xs).all y8=true:=by
 unfold f6;rw[YB,Ve];exact λ_ _=>rfl
section
variable{Δ:Nat->Sn}
theorem Je(n:Nat):(VM n true).all id=true:=by simp
end
end Rf
namespace L2
open PySem PySem.Spec PyProof.Rows
structure Sz(k b:Nat)(d:PyData):Prop where
 dp:d.depth<=k
 bk:d.bulk<=b
 sh:d.showable=true
 lf:d.leavesShort 100=true
end L2
namespace Rf
open PySem L2
def AV(es:EE)(t:Nat):Nat×Nat:=es.getD t (0,0)
theorem CK{es:EE}{t:Nat}(h:t<es.length):es[t]?=some (AV es t):=by
 unfold AV;rw[VD,VE h];rfl
section
variable{Δ:Nat->Sn}
theorem c4{D:EndsS}{ρ:EnvS}{S:Sto}(h:D.nx ρ S):wSs Δ [] D ρ S:=h
end
end Rf
namespace Hue
theorem len_split{α:Type}(p q:α->Bool):∀ l:List α,(l.filter p).length=(l.filter λa=>p a&&q a).length+(l.filter λa=>p a&&!q a).length
 | []=>rfl
 | a::l=>by
   have ih:=len_split p q l;rw[WN,WN,WN];cases p a<;>cases q a<;>simp<;>omega
end Hue
namespace Rf
open PySem L2
theorem B6{xs:List Nat}{i:Nat}{x:SV}(h:(f6 xs)[i]?=some x):∃ j,xs[i]?=some j/\x = .int j:=by
 unfold f6 at h;rw[VI]at h;cases hx:xs[i]? with
 | none=>rw[hx]at h;cases h
 | some j=>rw[hx]at h;exact⟨j,rfl,(oj h).symm⟩
theorem Dh(p:Nat)(xs:List Nat):inS (.int p) (f6 xs)=decide (p∈xs):=by
 rw[Vv,dQ];unfold inS f6;rw[XE,Wc];constructor
 ·rintro⟨a,ha,h⟩;have h:((a:Int) == (p:Int))=true:=h;rw[beq_iff_eq]at h;have:=Vm.mp h;rw[<-this];exact ha
 ·intro h;exact⟨p,h,by show((p:Int) == (p:Int))=true;simp⟩
end Rf
namespace Hue
end Hue
namespace Rf
open PySem L2
theorem Gz(P:Nat->Bool)(i:Nat):(VN (i+1)).filter P=(VN i).filter P++if P i=true then [i] else []:=by
 rw[WG,Wu,WN];cases P i<;>rfl
theorem CL(P:Nat->Bool)(i:Nat):((VN i).filter P).length<=i:=by
 have:=We P (VN i)
 rwa [Vs]at this
theorem NQ{α:Type}{xs:List α}{a b:α}{j:Nat}(h:(xs++[a])[j]?=some b):(j=xs.length/\b=a)\/xs[j]?=some b:=by
 rcases Wj j xs.length with z | z
 ·rw[VP z]at h;exact .inr h
 ·have e:j=xs.length:=by
   have:=(gM h).1;rw[VB,W4]at this;omega
  subst e;rw[Vq (VH _),Nat.sub_self]at h;cases h;exact .inl ⟨rfl,rfl⟩
section
variable{n:Nat}{es:EE}{sd:Nat->Nat}{P0:List (Option Nat)}{starts:List Nat}{cm:Cm}
def m6(es:EE)(p:Nat):Nat:=(g8 es p es.length).length
end
theorem Jf:∀(xs:List Nat),Hy (f6 xs)=some (xs.map λ(i:Nat)=>(i:Int))
 | []=>rfl
 | x::xs=>by
   show(Hy (f6 xs)).map (((x:Nat):Int)::·)=_;rw[Jf xs];rfl
def AW(p:Nat)(e:Nat×Nat):Bool:=decide (e.1=p)||decide (e.2=p)
theorem endB_iff{p:Nat}{e:Nat×Nat}:AW p e=true↔(p=e.1\/p=e.2):=by
 unfold AW;simp only[Vx,dQ];exact⟨λh=>h.imp Eq.symm Eq.symm,λh=>h.imp Eq.symm Eq.symm⟩
theorem HA(es:EE)(p:Nat):∀ i,i<=es.length->(g8 es p i).length=(es.take i).countP (AW p)
 | 0,_=>by simp[g8]
 | i+1,h=>by
   have he:es[i]?=some es[i]:=VE (by omega);rw[Ba es p i he,VB,HA es p i (by omega),Vl,he,XM];show _+_=_+YO (AW p) [es[i]];rw[Xf,Xo];unfold AW;by_cases z:(decide (es[i].1=p)||decide (es[i].2=p))=true
   ·rw[iP z,iP z];rfl
   ·rw[iG z,iG z];rfl
theorem NR(es:EE)(p:Nat):m6 es p=es.countP (AW p):=by
 unfold m6;rw[HA es p _ (VH _),Vf]
def mostN(es:EE):Nat->Nat
 | 0=>0
 | n+1=>max (mostN es n) (m6 es n)
theorem Aw(es:EE):∀{n p:Nat},p<n->m6 es p<=mostN es n
 | 0,_,h=>absurd h (Ww _)
 | n+1,p,h=>by
   show _<=max (mostN es n) (m6 es n);by_cases e:p=n
   ·subst e;omega
   ·have:=Aw es (n:=n) (p:=p) (by omega);omega
theorem CM(es:EE):∀ n:Nat,mostN es n=0\/∃ p,p<n/\mostN es n=m6 es p
 | 0 => .inl rfl
 | n+1=>by
   show max (mostN es n) (m6 es n)=0\/∃ p,p<n+1/\max (mostN es n) (m6 es n)=m6 es p;by_cases h:mostN es n<=m6 es n
   ·right;exact⟨n,by omega,by omega⟩
   ·rcases CM es n with z | ⟨p,hp,e⟩
    ·left;omega
    ·right;exact⟨p,by omega,by omega⟩
theorem Ej{es:EE}{n:Nat}{m:Int}(h1:∀ p,p<n->((m6 es p:Nat):Int)<=m)(h2:m=0\/∃ p,p<n/\m=(m6 es p:Nat))(h0:0<=m):m=(mostN es n:Nat):=by
 have a:m<=(mostN es n:Nat):=by
  rcases h2 with z | ⟨p,hp,z⟩
  ·omega
  ·have:=Aw es hp;omega
 have b:((mostN es n:Nat):Int)<=m:=by
  rcases CM es n with z | ⟨p,hp,z⟩
  ·omega
  ·have:=h1 p hp;omega
 omega
def cS(n:Nat)(f:Nat->Nat):List SV:=(VN n).map λp=>SV.int (f p:Nat)
theorem Di{n p:Nat}{f:Nat->Nat}(h:p<n):(cS n f)[p]?=some (.int (f p:Nat)):=by unfold cS;rw[VI,W2 h];rfl
theorem Bb{n:Nat}{f:Nat->Nat}:(cS n f).length=n:=by unfold cS;rw[VA,Vs]
theorem Jg(n:Nat)(f:Nat->Nat):cS n f=((VN n).map λp=>((f p:Nat):Int)).map SV.int:=by unfold cS;rw[XF];rfl
theorem Qp{n p:Nat}{f:Nat->Nat}(h:p<n):(cS n f).set p (.int ((f p:Nat)+1))=cS n λq=>f q+if q=p then 1 else 0:=by
 apply Wm;intro i;by_cases hi:i<n
 ·rw[Di hi];by_cases e:i=p
  ·subst e;rw[Vj (by rw[Bb];exact hi),iP rfl];rfl
  ·rw[W5 (Ne.symm e),Di hi,iG e];rfl
 ·rw[Vu (by rw[Vw,Bb];omega),Vu (by rw[Bb];omega)]
theorem NS:∀ n:Nat,(VM n [SV.int 0]).flatten=cS n λ_=>0:=by
 intro n
 have e:(VM n [SV.int 0]).flatten=VM n (SV.int 0):=by
  induction n with
  | zero=>rfl
  | succ n ih=>rw[Vn,WQ,ih];rfl
 rw[e];apply Wm;intro i;rw[WK];by_cases hi:i<n
 ·rw[iP hi,Di hi];rfl
 ·rw[iG hi,Vu (by rw[Bb];omega)]
def Qq:List Stm:=[(.asg (.nm 1) (.op .Mult (.lst (.cons (.c (.int 0)) .nil)) (.ix (.var 0) (.c (.int 0))))),(.loop (.tup (.cons (.nm 2) (.cons (.nm 3) .nil))) (.seq (.ix (.var 0) (.c (.int 1)))) [(.augS (.var 1) (.var 2) (.c (.int 1))),(.augS (.var 1) (.var 3) (.c (.int 1)))]),(.ret (.maxd (.var 1) (.c (.int 0))))]
def Ic(s:Sn):Prop:=∀{n:Nat} {es:EE} {S:Sto} {Q:QE},(∀ e∈es,e.1<e.2/\e.2<n)->n<=1000->(∀ S',Gw S S'->Q (.int (mostN es n:Nat)) S')->s [i5 n es] S Q
theorem NT{n:Nat}{es:EE}{m:Int}(h:Grt ((VN n).map λp=>((m6 es p:Nat):Int)) m):m=(mostN es n:Nat):=by
 obtain⟨h1,h2⟩:=h;obtain⟨p,hp,e⟩:=VZ.mp h1;rw[Va]at hp;exact Ej (λq hq=>h2 _ (VZ.mpr ⟨q,Va.mpr hq,rfl⟩)) (.inr ⟨p,hp,e.symm⟩) (by rw[<-e];omega)
section
variable{Δ:Nat->Sn}
theorem Q0(hΔ:∀ f,MonoN (Δ f)){D:Df}(hb:D.body=Qq)(hN:D.N.length=4)(hp:D.ps.length=1):Ic (f7 Δ D):=by
 intro n es S Q hen hn q;unfold f7;rw[hb,hN];refine⟨hp.symm,by show 1<=big;decide,_,rfl,_,_,rfl,rfl,_,a8,⟨by omega,by omega⟩,by show 1 * _<=100000;omega,?_⟩;have er:(VM ((n:Int)).toNat [SV.int 0]).flatten=cS n λ_=>0:=by rw[WZ,NS]
 rw[er];have p1:((S++[SO.lst [SV.int 0]])++[SO.lst (cS n λ_=>0)])[(S++[SO.lst [SV.int 0]]).length]?=some (.lst (cS n λ_=>0)):=a8;have G1:Gw S ((S++[SO.lst [SV.int 0]])++[SO.lst (cS n λ_=>0)]):=(Gw.refl S).push.push;have kl:S.length<=(S++[SO.lst [SV.int 0]]).length:=by rw[VB];omega
 generalize (S++[SO.lst [SV.int 0]]).length=k at *;generalize (S++[SO.lst [SV.int 0]])++[SO.lst (cS n λ_=>0)]=S1 at *;refine⟨_,rfl,_,_,rfl,rfl,_,rfl,?_⟩;refine r6 (g9 hΔ _) (λi ρ S2=>∃ o2 o3,ρ=[some (i5 n es),some (.loc k),o2,o3]/\Gw S S2/\S2[k]?=some (.lst (cS n λp=>(es.take i).countP (AW p)))) ⟨none,none,rfl,G1,by rw[p1];simp⟩ (λ_ _ _ _=>trivial) ?_ ?_
 ·rintro i x ρ S2 E hn _ hx ⟨o2,o3,rfl,G2,h2⟩;obtain⟨e,he,rfl⟩:=A8 hx;have hee:=hen e (VC he);refine⟨_,rfl,_,rfl,k,e.1,_,_,rfl,rfl,h2,Di (by omega),_,_,rfl,h2,by rw[Bb];omega,?_⟩;rw[Qp (by omega)];have h3:(S2.set k (.lst (cS n λq=>(es.take i).countP (AW q)+if q=e.1 then 1 else 0)))[k]?=some (.lst (cS n λq=>(es.take i).countP (AW q)+if q=e.1 then 1 else 0)):=n6 h2;have G3:Gw S (S2.set k (.lst (cS n λq=>(es.take i).countP (AW q)+if q=e.1 then 1 else 0))):=G2.put kl;generalize S2.set k (.lst (cS n λq=>(es.take i).countP (AW q)+if q=e.1 then 1 else 0))=S3 at *;refine⟨_,rfl,_,rfl,k,e.2,_,_,rfl,rfl,h3,Di (by omega),_,_,rfl,h3,by rw[Bb];omega,?_⟩;rw[Qp (by omega)];refine hn _ _ ⟨_,_,rfl,G3.put kl,?_⟩;rw[n6 h3]
  congr 3
  funext p
  rw[Vl,he,XM];show _=_+YO (AW p) [e];rw[Xf,Xo];by_cases z:AW p e=true
  ·rw[iP z];rcases endB_iff.mp z with y | y
   ·rw[iP y,iG (by omega)]
   ·rw[iP y,iG (by omega)]
  ·have z':¬ (p=e.1\/p=e.2):=λy=>z (endB_iff.mpr y);rw[iG z,iG (λy=>z' (.inl y)),iG (λy=>z' (.inr y))]
 ·rintro ρ S2 ⟨o2,o3,rfl,G2,h2⟩;rw[VA,Vf]at h2;have ec:(cS n λp=>es.countP (AW p))=cS n (m6 es):=by congr 1;funext p;exact(NR es p).symm
  rw[ec,Jg]at h2;refine⟨_,rfl,k,_,_,rfl,rfl,h2,λz=>?_,λm g=>?_⟩
  ·have hn0:n=0:=by cases n with
    | zero=>rfl
    | succ n=>simp[WG]at z
   have:=q S2 G2;rw[hn0]at this;exact this
  ·rw[NT g];exact q S2 G2
def Jh:List Stm:=[(.ret (.bi .len (.cons (.comp ["_law_pair"] ["_law_place"] [1] (.nm 0) (.seq (.ix (.var 0) (.c (.int 1)))) (.yes (.cmp .In (.var 1) (.var 0))) (.var 0)) .nil)))]
def Dj(s:Sn):Prop:=∀{n p:Nat} {es:EE} {S:Sto} {Q:QE},es.length<=5000->(∀ S',Gw S S'->Q (.int (m6 es p:Nat)) S')->s [i5 n es,.int p] S Q
theorem LA(hΔ:∀ f,MonoN (Δ f)){D:Df}(hb:D.body=Jh)(hN:D.N.length=2)(hp:D.ps.length=2):Dj (f7 Δ D):=by
 intro n p es S Q hel q;unfold f7;rw[hb,hN];refine⟨hp.symm,_,rfl,_,_,rfl,rfl,_,rfl,?_⟩;refine i4 (j6 hΔ _).2 (a5 hΔ _).1 (λi ys S'=>S'=S/\ys.length=(es.take i).countP (AW p)) ⟨rfl,by simp⟩ (λ_ _ _ _=>trivial) ?_ ?_
 ·rintro i x ys S' hx ⟨rfl,hy⟩;obtain⟨e,he,rfl⟩:=A8 hx;have hi:=(gM he).1;have hcl:(es.take i).countP (AW p)<=i:=Vc (List.countP_le_length ..) (by rw[Vr];omega)
  have hs:(es.take (i+1)).countP (AW p)=(es.take i).countP (AW p)+if AW p e=true then 1 else 0:=by
   rw[Vl,he,XM];show _+YO (AW p) [e]=_;rw[Xf,Xo,Nat.zero_add]
  refine⟨_,rfl,_,rfl,rfl,_,rfl,rfl,_,rfl,?_⟩;show if inS (.int p) [.int e.1,.int e.2]=true then _ else _
  rw[Bn];refine ifB (λh=>?_) (λh=>?_)
  ·refine⟨_,rfl,by rw[hy];show _<100000;omega,rfl,?_⟩;rw[VB,hy,hs,iP (show AW p e=true from h)];rfl
  ·refine⟨rfl,?_⟩;rw[hy,hs,iG (show ¬ AW p e=true by unfold AW;rw[h];decide)];rfl
 ·rintro ys S' ⟨rfl,hy⟩;rw[VA,Vf,<-NR]at hy;refine⟨_,a7 a8,?_⟩;rw[hy];exact q _ (Gw.refl _).push
theorem LB{n:Nat}{es:EE}{m:Int}(h:Grt (0::(VN n).map λp=>((m6 es p:Nat):Int)) m):m=(mostN es n:Nat):=by
 obtain⟨h1,h2⟩:=h;have h0:=h2 0 (VQ ..);refine Ej (λq hq=>h2 _ (VL _ (VZ.mpr ⟨q,Va.mpr hq,rfl⟩))) ?_ h0;rcases VW.mp h1 with z | z
 ·exact .inl z
 ·obtain⟨p,hp,e⟩:=VZ.mp z;exact .inr ⟨p,Va.mp hp,e.symm⟩
def D4(s:Sn):Prop:=∀{n:Nat} {es:EE} {S:Sto} {Q:QE},es.length<=5000->n<=1000->(∀ S',Gw S S'->Q (.int (mostN es n:Nat)) S')->s [i5 n es] S Q
theorem V7{t:Nat}{S S':Sto}(G:Gw S S'):On t S S':=⟨G.len,λk o _ h=>G.keep k o h⟩
end
def hu(cs:List Nat)(t:Nat):Nat:=cs.getD t 0
def AtP(es:EE)(t y:Nat):Prop:=∃ e,es[t]?=some e/\(e.1=y\/e.2=y)
theorem AtP.lt{es:EE}{t y:Nat}(h:AtP es t y):t<es.length:=let ⟨_,e,_⟩:=h;(gM e).1
structure Prp(es:EE)(cs:List Nat):Prop where
 len:cs.length=es.length
 one:∀ t u y,AtP es t y->AtP es u y->hu cs t=hu cs u->t=u
structure RwI(es:EE)(cs:List Nat)(a b p:Nat)(r:List Nat)(x one other:Nat):Prop where
 nd:r.Nodup
 lt:∀ t∈r,t<es.length
 alt:∀ i t:Nat,r[i]?=some t->hu cs t=if i % 2=0 then a else b
 d1:one=if r.length % 2=0 then a else b
 d2:other=if r.length % 2=0 then b else a
 fin:∀ t∈r,∀ y,AtP es t y->y≠x->∀ u,AtP es u y->(hu cs u=a\/hu cs u=b)->u∈r
 oth:∀ u,AtP es u x->hu cs u=other->u∈r
 non:∀ u∈r,AtP es u x->hu cs u≠one
 lst:∀ t,r.getLast?=some t->AtP es t x
 beg:r=[]->x=p
 fst:∀ t,r[0]?=some t->AtP es t p
 all:∀ T:Nat->Prop,(∀ t u y,T t->AtP es t y->AtP es u y->(hu cs u=a\/hu cs u=b)->T u)->(∀ t,r[0]?=some t->T t)->∀ t∈r,T t
def Clo(es:EE)(cs:List Nat)(a b:Nat)(r:List Nat):Prop:=∀ t∈r,∀ y,AtP es t y->∀ u,AtP es u y->(hu cs u=a\/hu cs u=b)->u∈r
section
variable{es:EE}{cs:List Nat}{a b p x one other:Nat}{r:List Nat}
theorem RwI.nil(h:∀ u,AtP es u p->hu cs u≠b):RwI es cs a b p [] p a b:=
 ⟨.nil,(λ_ h=>nomatch h),λi t h=>by simp at h,rfl,rfl,(λ_ h=>nomatch h),λu h1 h2=>absurd h2 (h u h1),(λ_ h=>nomatch h),λt h=>by simp at h,λ_=>rfl,λt h=>by simp at h,λ_ _ _ _ h=>nomatch h⟩
theorem RwI.two(R:RwI es cs a b p r x one other){h:Nat}(z:h=a\/h=b):h=one\/h=other:=by
 rw[R.d1,R.d2];by_cases e:r.length % 2=0
 ·rw[iP e,iP e];exact z
 ·rw[iG e,iG e];exact z.symm
theorem RwI.ab(R:RwI es cs a b p r x one other):(one=a\/one=b)/\(other=a\/other=b):=by
 rw[R.d1,R.d2];by_cases e:r.length % 2=0
 ·rw[iP e,iP e];exact⟨.inl rfl,.inr rfl⟩
 ·rw[iG e,iG e];exact⟨.inr rfl,.inl rfl⟩
theorem RwI.ne(R:RwI es cs a b p r x one other)(ab:a≠b):one≠other:=by
 rw[R.d1,R.d2];by_cases e:r.length % 2=0
 ·rw[iP e,iP e];exact ab
 ·rw[iG e,iG e];exact ab.symm
theorem RwI.step(P:Prp es cs)(ab:a≠b)(R:RwI es cs a b p r x one other){t:Nat}{e:Nat×Nat}(he:es[t]?=some e)(hx:e.1=x\/e.2=x)(ne:e.1≠e.2)(ht:hu cs t=one):RwI es cs a b p (r++[t]) (y0 e x) other one:=by
 have ax:AtP es t x:=⟨e,he,hx⟩
 have fx:y0 e x≠x:=by unfold y0;split<;>rcases hx with z | z<;>omega
 have af:AtP es t (y0 e x):=⟨e,he,by unfold y0;split<;>simp⟩
 have ends:∀ y,AtP es t y->y=x\/y=y0 e x:=by
  rintro y ⟨e',he',hy⟩;rw[he]at he';cases he';unfold y0;rcases hx with hx | hx<;>rcases hy with hy | hy<;>split<;>omega
 have tn:t∉r:=λz=>R.non t z ax ht;have oo:=R.ne ab
 have fin1:∀ u,AtP es u x->(hu cs u=a\/hu cs u=b)->u∈r++[t]:=λu hu' hc=>by
  rcases R.two hc with z | z
  ·rw[P.one u t x hu' ax (z.trans ht.symm)];simp
  ·exact Wh _ (R.oth u hu' z)
 have ll:(r++[t]).length=r.length+1:=by simp
 refine⟨?_,λu hu'=>?_,λi u hi=>?_,?_,?_,λs hs y hy nx u hu' hc=>?_,λu hu' hc=>?_,λu hu' hy hc=>?_,λu hu'=>?_,λz=>?_,λu hu'=>?_,λT c0 c1 u hu'=>?_⟩
 ·rw[Wk];exact⟨R.nd,by simp,λc hc d hd=>by rw[VU.mp hd];exact λz=>tn (z▸hc)⟩
 ·rcases VY.mp hu' with z | z
  ·exact R.lt u z
  ·rw[VU.mp z];exact ax.lt
 ·rcases NQ hi with⟨e1,e2⟩ | hi
  ·rw[e2,ht,e1];exact R.d1
  ·exact R.alt i u hi
 ·rw[ll,R.d2];by_cases e:r.length % 2=0
  ·rw[iP e,iG (by omega)]
  ·rw[iG e,iP (by omega)]
 ·rw[ll,R.d1];by_cases e:r.length % 2=0
  ·rw[iP e,iG (by omega)]
  ·rw[iG e,iP (by omega)]
 ·rcases VY.mp hs with z | z
  ·by_cases yx:y=x
   ·rw[yx]at hu';exact fin1 u hu' hc
   ·exact Wh _ (R.fin s z y hy yx u hu' hc)
  ·rw[VU.mp z]at hy;rcases ends y hy with q | q
   ·rw[q]at hu';exact fin1 u hu' hc
   ·exact absurd q nx
 ·rw[P.one u t _ hu' af (hc.trans ht.symm)];simp
 ·rcases VY.mp hu' with z | z
  ·exact tn (R.fin u z _ hy fx t af (by rw[ht];exact R.ab.1))
  ·rw[VU.mp z,ht]at hc;exact oo hc
 ·rw[List.getLast?_concat]at hu';cases hu';exact af
 ·simp at z
 ·cases hr:r with
  | nil=>
    rw[hr]at hu';have:t=u:=by simpa using hu'
    rw[<-this,<-R.beg hr];exact ax
  | cons s rs=>
    rw[hr]at hu';exact R.fst u (by rw[hr];simpa using hu')
 ·rcases VY.mp hu' with z | z
  ·refine R.all T c0 (λs hs=>c1 s ?_) u z;cases hr:r with
   | nil=>rw[hr]at hs;simp at hs
   | cons s' rs=>rw[hr]at hs;simpa using hs
  ·rw[VU.mp z];cases hr:r with
   | nil=>exact c1 t (by rw[hr];rfl)
   | cons s' rs=>
     have hl:r.getLast?=some (r.getLast (by rw[hr];simp)):=Wr (by rw[hr];simp);have sm:=List.getLast_mem (l:=r) (by rw[hr];simp);refine c0 _ t x (R.all T c0 (λs hs=>c1 s ?_) _ sm) (R.lst _ hl) ax (by rw[ht];exact R.ab.1);rw[hr]at hs ⊢;simpa using hs
theorem RwI.len(R:RwI es cs a b p r x one other):r.length<=es.length:=by
 have:=List.Nodup.length_le_of_subset R.nd (l₂:=VN es.length) λt ht=>Va.mpr (R.lt t ht)
 rwa [Vs]at this
theorem RwI.clo(R:RwI es cs a b p r x one other)(no:∀ u,AtP es u x->hu cs u≠one):Clo es cs a b r:=by
 intro t ht y hy u hu' hc;by_cases yx:y=x
 ·rw[yx]at hu';rcases R.two hc with z | z
  ·exact absurd z (no u hu')
  ·exact R.oth u hu' z
 ·exact R.fin t ht y hy yx u hu' hc
end
def m8(es:EE)(cs:List Nat)(x h:Nat):Option Nat:=(g8 es x es.length).find? λt=>decide (hu cs t=h)
theorem m7{es:EE}{cs:List Nat}{x h t:Nat}(z:m8 es cs x h=some t):AtP es t x/\hu cs t=h:=by
 unfold m8 at z;exact⟨mem_tiesAt.mp (X2 z),by simpa using YS z⟩
theorem AB{es:EE}{cs:List Nat}{x h:Nat}(z:m8 es cs x h=none):∀ u,AtP es u x->hu cs u≠h:=by
 unfold m8 at z;rw[WJ]at z;exact λu hu'=>by simpa using z u (mem_tiesAt.mpr hu')
def rwF(es:EE)(cs:List Nat):Nat->Nat->Nat->Nat->List Nat
 | 0,_,_,_=>[]
 | k+1,x,one,other=>match m8 es cs x one with
   | none=>[]
   | some t=>t::rwF es cs k (y0 (es.getD t (0,0)) x) other one
theorem NU{es:EE}{cs:List Nat}{a b p:Nat}(P:Prp es cs)(ab:a≠b)(hne:∀ e∈es,e.1≠e.2):∀(k:Nat) (r:List Nat) (x one other:Nat),RwI es cs a b p r x one other->es.length+1<=r.length+k->∃ x' one' other',RwI es cs a b p (r++rwF es cs k x one other) x' one' other'/\∀ u,AtP es u x'->hu cs u≠one'
 | 0,r,x,one,other,R,h=>by have:=R.len;omega
 | k+1,r,x,one,other,R,h=>by
   unfold rwF;cases ht:m8 es cs x one with
   | none=>exact⟨x,one,other,by simpa using R,AB ht⟩
   | some t=>
     obtain⟨⟨e,he,hx⟩,hc⟩:=m7 ht;have ge:es.getD t (0,0)=e:=by rw[VD,he];rfl
     dsimp only;rw[ge];have R':=R.step P ab he hx (hne e (VC he)) hc;obtain⟨x',o1,o2,R2,no⟩:=NU P ab hne k _ _ _ _ R' (by rw[VB];simp;omega);exact⟨x',o1,o2,by simpa using R2,no⟩
def exL(cs r:List Nat)(a b:Nat):List Nat:=(VN cs.length).map λt=>if t∈r then (if hu cs t=a then b else a) else hu cs t
theorem AF(cs r:List Nat)(a b:Nat):(exL cs r a b).length=cs.length:=by unfold exL;rw[VA,Vs]
theorem Dk{cs r:List Nat}{a b t:Nat}(h:t<cs.length):hu (exL cs r a b) t=if t∈r then (if hu cs t=a then b else a) else hu cs t:=by
 unfold exL;show W9 _ t 0=_;rw[VD,VI,W2 h];rfl
theorem So{es:EE}{cs r:List Nat}{a b:Nat}(P:Prp es cs)(C:Clo es cs a b r)(hr:∀ t∈r,hu cs t=a\/hu cs t=b):Prp es (exL cs r a b):=by
 refine⟨(AF ..).trans P.len,λt u y ht hu' h=>?_⟩;have tl:=ht.lt;have ul:=hu'.lt;rw[<-P.len]at tl ul;rw[Dk tl,Dk ul]at h;by_cases z1:t∈r
 ·by_cases z2:u∈r
  ·rw[iP z1,iP z2]at h;refine P.one t u y ht hu' ?_;rcases hr t z1 with q1 | q1<;>rcases hr u z2 with q2 | q2
   ·rw[q1,q2]
   ·rw[iP q1]at h;by_cases q3:hu cs u=a
    ·rw[q1,q3]
    ·rw[iG q3]at h;rw[q1,q2,h]
   ·rw[iP q2]at h;by_cases q3:hu cs t=a
    ·rw[q2,q3]
    ·rw[iG q3]at h;rw[q1,q2,h]
   ·rw[q1,q2]
  ·rw[iP z1,iG z2]at h;exact absurd (C t z1 y ht u hu' (by split at h;exact .inr h.symm;exact .inl h.symm)) z2
 ·by_cases z2:u∈r
  ·rw[iG z1,iP z2]at h;exact absurd (C u z2 y hu' t ht (by split at h;exact .inr h;exact .inl h)) z1
  ·rw[iG z1,iG z2]at h;exact P.one t u y ht hu' h
theorem Sq(cs:List Nat):(VN cs.length).map (hu cs)=cs:=by
 apply Wm;intro i;rw[VI];by_cases h:i<cs.length
 ·rw[W2 h,VE h];show some (cs.getD i 0)=_;rw[VD,VE h];rfl
 ·rw[Vu (by rw[Vs];omega),Vu (by omega)];rfl
inductive Gd(V:Nat->List SV->Prop):Nat->Nat->SV->Prop where
 | non {k b:Nat}:Gd V k b .non
 | bl {k b:Nat} (c:Bool):Gd V k b (.bl c)
 | int {k b:Nat} {i:Int} (h:-1000000000000000000000<=i/\i<=1000000000000000000000):Gd V k b (.int i)
 | str {k b:Nat} {x:Str} (h:Sz 0 10 (.str x)) (hb:10<=b):Gd V k b (.str x)
 | tup {k b c:Nat} {xs:List SV} (h:∀ y∈xs,Gd V k b y) (hl:xs.length<=63) (hc:xs.length * (b+1)<=c):Gd V (k+1) c (.tup xs)
 | lst {k b c l:Nat} {xs:List SV} (hv:V l xs) (h:∀ y∈xs,Gd V k b y) (hl:xs.length<=63) (hc:xs.length * (b+1)<=c):Gd V (k+1) c (.loc l)
theorem Gd.see{V V':Nat->List SV->Prop}(i:∀ l xs,V l xs->V' l xs){k b:Nat}{x:SV}(h:Gd V k b x):Gd V' k b x:=by
 induction h with
 | non=>exact .non
 | bl c=>exact .bl c
 | int h=>exact .int h
 | str h hb=>exact .str h hb
 | tup _ hl hc ih=>exact .tup ih hl hc
 | lst hv _ hl hc ih=>exact .lst (i _ _ hv) ih hl hc
def VS(S:Sto)(l:Nat)(xs:List SV):Prop:=S[l]?=some (.lst xs)
def isI:SV->Bool
 | .int _=>true
 | _=>false
section
variable{Δ:Nat->Sn}
def Sr(s:Sn):Prop:=∀{x:SV} {S:Sto} {k b:Nat} {Q:QE},Gd (VS S) k b x->Q (.bl (isI x)) S->s [x] S Q
theorem Q1{D:Df}(hb:D.body=Ib)(hN:D.N.length=1)(hp:D.ps.length=1):Sr (f7 Δ D):=by
 intro x S k b Q h q;unfold f7;rw[hb,hN];cases h with
 | non=>exact⟨hp.symm,_,rfl,_,nofun,rfl,_,rfl,ifF rfl q⟩
 | bl c=>exact⟨hp.symm,_,rfl,_,nofun,rfl,_,rfl,ifT rfl ⟨_,rfl,_,nofun,rfl,_,rfl,q⟩⟩
 | int h=>exact⟨hp.symm,_,rfl,_,nofun,rfl,_,rfl,ifT rfl ⟨_,rfl,_,nofun,rfl,_,rfl,q⟩⟩
 | str h hb'=>exact⟨hp.symm,_,rfl,_,nofun,rfl,_,rfl,ifF rfl q⟩
 | tup h hl hc=>exact⟨hp.symm,_,rfl,_,nofun,rfl,_,rfl,ifF rfl q⟩
 | lst hv h hl hc=>exact⟨hp.symm,_,rfl,_,nofun,Dd hv,_,rfl,ifF rfl q⟩
theorem Q2(f:Nat->Bool):∀ n:Nat,blS ((VN n).map λi => .bl (f i))=some ((VN n).map f):=by
 have go:∀ l:List Nat,blS (l.map λi => .bl (f i))=some (l.map f):=λl=>by
  induction l with
  | nil=>rfl
  | cons a l ih=>rw[Vk,Vk];simp[blS,ih]
 exact λn=>go _
theorem all_mapF{f:Nat->Bool}{n:Nat}:((VN n).map f).all id=true↔∀ i,i<n->f i=true:=by
 rw[Ve];constructor
 ·exact λh i hi=>h _ (VZ.mpr ⟨i,Va.mpr hi,rfl⟩)
 ·rintro h x hx;obtain⟨i,hi,rfl⟩:=VZ.mp hx;exact h i (Va.mp hi)
theorem NV(hΔ:∀ f,MonoN (Δ f)){e:Ex}{keep:Sto->Prop}{g:Tg}{ρ:EnvS}{Q:List SV->Sto->Prop}(f:Nat->Bool){xs:List SV}{S:Sto}(hl:xs.length<=1000)(hk:∀ S',Gw S S'->keep S')
 (hs:∀(i:Nat) (x:SV) (S':Sto),xs[i]?=some x->Gw S S'->wTg g x ρ λρ2=>(wEx Δ e).1 ρ2 S' λy S2=>y = .bl (f i)/\Gw S S2)
 (q:∀ S',Gw S S'->Q ((VN xs.length).map λi => .bl (f i)) S'):v8 keep g (wEo Δ .no).2 (wEx Δ e).1 ρ Q xs [] S:=by
 refine i4 (j6 hΔ _).2 (a5 hΔ _).1 (λi ys S'=>Gw S S'/\ys=(VN i).map λi => .bl (f i)) ⟨Gw.refl S,rfl⟩ (λ_ _ _ h=>hk _ h.1) ?_ ?_
 ·rintro i x ys S' hx ⟨G,rfl⟩;have hi:=(gM hx).1;refine A6 g (λρ2 h=>?_) (hs i x S' hx G);refine(a5 hΔ e).1 _ _ _ _ (λy S2 h=>⟨by rw[VA,Vs];show _<100000;omega,h.2,?_⟩) h;rw[h.1,WG,VR];rfl
 ·rintro ys S' ⟨G,rfl⟩;exact q S' G
theorem Gd.grow{S S':Sto}{k b:Nat}{x:SV}(h:Gd (VS S) k b x)(G:Gw S S'):Gd (VS S') k b x:=h.see λl xs e=>G.keep l _ e
def Uc:List Stm:=[(.ret (.bi .isi (.cons (.var 0) (.cons (.tup (.cons (.tyc .list) (.cons (.tyc .tuple) .nil))) .nil))))]
def isL:SV->Bool
 | .tup _=>true
 | .loc _=>true
 | _=>false
def Ss(s:Sn):Prop:=∀{x:SV} {S:Sto} {k b:Nat} {Q:QE},Gd (VS S) k b x->Q (.bl (isL x)) S->s [x] S Q
theorem Q3{D:Df}(hb:D.body=Uc)(hN:D.N.length=1)(hp:D.ps.length=1):Ss (f7 Δ D):=by
 intro x S k b Q h q;unfold f7;rw[hb,hN];have b2:2<=big:=by decide
 cases h with
 | non=>exact⟨hp.symm,_,rfl,b2,_,[.list,.tuple],by decide,rfl,rfl,q⟩
 | bl c=>exact⟨hp.symm,_,rfl,b2,_,[.list,.tuple],by decide,rfl,rfl,q⟩
 | int h=>exact⟨hp.symm,_,rfl,b2,_,[.list,.tuple],by decide,rfl,rfl,q⟩
 | str h hb'=>exact⟨hp.symm,_,rfl,b2,_,[.list,.tuple],by decide,rfl,rfl,q⟩
 | tup h hl hc=>exact⟨hp.symm,_,rfl,b2,_,[.list,.tuple],by decide,rfl,rfl,q⟩
 | lst hv h hl hc=>exact⟨hp.symm,_,rfl,b2,_,[.list,.tuple],by decide,Dd hv,rfl,q⟩
end
structure SeqV(S:Sto)(x:SV)(xs:List SV):Prop where
 seq:∀ S',Gw S S'->seqS x S'=some xs
 keep:∀ S1 S',Gw S S1->Gw S S'->keepS x S1 S'
 len:xs.length<=63
 gd:∃ k b,∀ y∈xs,Gd (VS S) k b y
 ls:isL x=true
theorem Gd.split{S:Sto}{k b:Nat}{x:SV}(h:Gd (VS S) k b x):(isL x=false/\∀ xs,seqS x S≠some xs)\/∃ xs,SeqV S x xs:=by
 cases h with
 | non=>exact .inl ⟨rfl,nofun⟩
 | bl c=>exact .inl ⟨rfl,nofun⟩
 | int h=>exact .inl ⟨rfl,nofun⟩
 | str h hb'=>exact .inl ⟨rfl,nofun⟩
 | tup h hl hc=>exact .inr ⟨_,λ_ _=>rfl,λ_ _ _ _=>trivial,hl,⟨_,_,h⟩,rfl⟩
 | lst hv h hl hc=>exact .inr ⟨_,λS' G=>a7 (G.keep _ _ hv),λS1 S' G1 G=>by
    show S'[_]?=S1[_]?;rw[G.keep _ _ hv,G1.keep _ _ hv],hl,⟨_,_,h⟩,rfl⟩
section
variable{Δ:Nat->Sn}
def Qr:List Stm:=[(.ret (.or (.cmp .In (.ix (.ix (.ix (.var 0) (.c (.int 1))) (.var 1)) (.c (.int 0))) (.ix (.ix (.var 0) (.c (.int 1))) (.var 2))) (.cmp .In (.ix (.ix (.ix (.var 0) (.c (.int 1))) (.var 1)) (.c (.int 1))) (.ix (.ix (.var 0) (.c (.int 1))) (.var 2)))))]
def Shr(es:EE)(t u:Nat):Prop:=∃ p,(p=(AV es t).1\/p=(AV es t).2)/\(p=(AV es u).1\/p=(AV es u).2)
def HB(s:Sn):Prop:=∀{n t u:Nat} {es:EE} {S:Sto} {Q:QE},t<es.length->u<es.length->(∀ v:Bool,(v=true↔Shr es t u)->Q (.bl v) S)->s [i5 n es,.int t,.int u] S Q
theorem NW{D:Df}(hb:D.body=Qr)(hN:D.N.length=3)(hp:D.ps.length=3):HB (f7 Δ D):=by
 intro n t u es S Q ht hu q;unfold f7;rw[hb,hN];have h1:atI (es.map pairS) (t:Int)=some (pairS (AV es t)):=f8 (by rw[VI,CK ht];rfl);have h2:atI (es.map pairS) (u:Int)=some (pairS (AV es u)):=f8 (by rw[VI,CK hu];rfl);refine⟨hp.symm,_,rfl,_,_,rfl,rfl,_,rfl,_,_,rfl,h1,_,.int ((AV es t).1:Nat),rfl,rfl,_,rfl,_,_,rfl,rfl,_,rfl,_,_,rfl,h2,rfl,_,rfl,rfl,_,rfl,?_⟩;show if inS (.int (AV es t).1) [.int (AV es u).1,.int (AV es u).2]=true then _ else _
 rw[Bn];refine ifB (λz=>q true ⟨λ_=>?_,λ_=>rfl⟩) (λz=>?_)
 ·refine⟨(AV es t).1,.inl rfl,?_⟩;simp only[Vx,dQ]at z;exact z.imp Eq.symm Eq.symm
 ·refine⟨_,rfl,_,_,rfl,rfl,_,rfl,_,_,rfl,h1,_,.int ((AV es t).2:Nat),rfl,rfl,_,rfl,_,_,rfl,rfl,_,rfl,_,_,rfl,h2,rfl,_,rfl,rfl,?_⟩;show Q (.bl (inS (.int (AV es t).2) [.int (AV es u).1,.int (AV es u).2])) S;rw[Bn];refine q _ ⟨λz=>⟨(AV es t).2,.inr rfl,?_⟩,?_⟩
  ·simp only[Vx,dQ]at z;exact z.imp Eq.symm Eq.symm
  ·rintro⟨p,rfl | rfl,h⟩
   ·simp only[Bool.or_eq_false_iff,decide_eq_false_iff_not]at z;exact absurd (h.imp Eq.symm Eq.symm) (not_or.mpr z)
   ·simp only[Vx,dQ];exact h.imp Eq.symm Eq.symm
theorem Gw.tape{t:Nat}{S S':Sto}(G:Gw S S')(T:TapeS S t):TapeS S' t:=let ⟨a,b,h,c⟩:=T.ex;⟨a,b,G.keep _ _ h,c⟩
end
theorem Ek{xs:List SV}{i:Nat}:BC xs none (some (i:Int))=xs.take i:=by
 unfold BC;rw[HT.sIx_nat,HT.sIx_none,List.drop_zero,Nat.sub_zero];rcases Yi i xs.length with z | z
 ·rw[YT z]
 ·rw[YN z,Vf,Ws z]
def Su:SV->Bool
 | .int i=>decide (0<=i)
 | _=>false
def PropS(es:EE)(xs:List SV)(m:Nat):Prop:=∀(i j:Nat) (h:Int),i<j->j<m->xs[i]?=some (.int h)->xs[j]?=some (.int h)->¬ Shr es i j
def endE(es:EE)(t p:Nat):Prop:=p=(AV es t).1\/p=(AV es t).2
theorem shr_end{es:EE}{a b:Nat}:Shr es a b↔∃ p,endE es a p/\endE es b p:=Iff.rfl
structure DictI(es:EE)(xs:List SV)(i:Nat)(kvs:List ((Int×Int)×Int)):Prop where
 sound:∀(p:Nat) (h n:Int),dpv kvs (((p:Nat):Int),h)=some n->∃ t:Nat,n=(t:Nat)/\t<i/\xs[t]?=some (.int h)/\endE es t p
 full:∀(t p:Nat) (h:Int),t<i->xs[t]?=some (.int h)->endE es t p->∃ n,dpv kvs (((p:Nat):Int),h)=some n
theorem Ji{kvs:List ((Int×Int)×Int)}{k k':Int×Int}{m:Int}(h:dpv kvs k=none):dpv (kvs++[(k,m)]) k'=if k'=k then some m else dpv kvs k':=by
 unfold dpv at h ⊢;rw[XW];by_cases e:k'=k
 ·subst e;rw[iP rfl];have h':=WR.mp h;rw[h',YZ,Vh,decide_eq_true rfl];rfl
 ·rw[iG e,Vh,decide_eq_false (λz=>e z.symm),List.find?_nil,Option.or_none]
structure DJ(es:EE)(xs:List SV)(i:Nat)(h:Int)(P:Nat->Prop)(kvs:List ((Int×Int)×Int))(ps:List (Int×Int)):Prop where
 sound:∀(p:Nat) (g n:Int),dpv kvs (((p:Nat):Int),g)=some n->∃ t:Nat,n=(t:Nat)/\(t<i\/(t=i/\P p))/\xs[t]?=some (.int g)/\endE es t p
 full:∀(t p:Nat) (g:Int),(t<i\/(t=i/\P p))->xs[t]?=some (.int g)->endE es t p->∃ n,dpv kvs (((p:Nat):Int),g)=some n
 cl:ps=[]↔PropS es xs i/\∀ t p:Nat,t<i->xs[t]?=some (.int h)->P p->¬ endE es t p
theorem DJ.first{es:EE}{xs:List SV}{i:Nat}{h:Int}{kvs:List ((Int×Int)×Int)}{ps:List (Int×Int)}(D:DictI es xs i kvs)(c:ps=[]↔PropS es xs i):DJ es xs i h (λ_=>False) kvs ps:=
 ⟨λp g n e=>let ⟨t,a,b,c⟩:=D.sound p g n e;⟨t,a,.inl b,c⟩,λt p g ht hx he=>D.full t p g (ht.elim id λz=>z.2.elim) hx he,c.trans ⟨λa=>⟨a,λ_ _ _ _ z=>z.elim⟩,λa=>a.1⟩⟩
theorem DJ.found{es:EE}{xs:List SV}{i p:Nat}{h c:Int}{P:Nat->Prop}{kvs:List ((Int×Int)×Int)}{ps:List (Int×Int)}(J:DJ es xs i h P kvs ps)(hxi:xs[i]?=some (.int h))(nP:¬ P p)(hc:dpv kvs (((p:Nat):Int),h)=some c):c≠(i:Nat)/\DJ es xs i h (λq=>P q\/q=p) kvs (ps++[(c,((i:Nat):Int))]):=by
 obtain⟨t,rfl,ht,hx,he⟩:=J.sound p h c hc;have ht:t<i:=ht.elim id λz=>absurd z.2 nP;refine⟨λz=>by omega,λq g n e=>?_,λu q g hu hx' he'=>?_,⟨λz=>absurd z (by simp),λz=>absurd he (z.2 t p ht hx (.inr rfl))⟩⟩
 ·obtain⟨u,a,b,d⟩:=J.sound q g n e;exact⟨u,a,b.imp id λz=>⟨z.1,.inl z.2⟩,d⟩
 ·rcases hu with hu | ⟨rfl,hu | rfl⟩
  ·exact J.full u q g (.inl hu) hx' he'
  ·exact J.full u q g (.inr ⟨rfl,hu⟩) hx' he'
  ·rw[hxi]at hx';cases hx';exact⟨_,hc⟩
theorem DJ.new{es:EE}{xs:List SV}{i p:Nat}{h:Int}{P:Nat->Prop}{kvs:List ((Int×Int)×Int)}{ps:List (Int×Int)}(J:DJ es xs i h P kvs ps)(hxi:xs[i]?=some (.int h))(hp:endE es i p)(hc:dpv kvs (((p:Nat):Int),h)=none):DJ es xs i h (λq=>P q\/q=p) (kvs++[((((p:Nat):Int),h),((i:Nat):Int))]) ps:=by
 refine⟨λq g n e=>?_,λu q g hu hx' he'=>?_,J.cl.trans ⟨λz=>⟨z.1,λt q ht hx hq he=>?_⟩,λz=>⟨z.1,λt q ht hx hq he=>z.2 t q ht hx (.inl hq) he⟩⟩⟩
 ·rw[Ji hc]at e;by_cases z:(((q:Nat):Int),g)=(((p:Nat):Int),h)
  ·rw[iP z]at e;injection z with z1 z2;cases e;rw[Vm.mp z1,z2];exact⟨i,rfl,.inr ⟨rfl,.inr rfl⟩,hxi,hp⟩
  ·rw[iG z]at e;obtain⟨u,a,b,d⟩:=J.sound q g n e;exact⟨u,a,b.imp id λz=>⟨z.1,.inl z.2⟩,d⟩
 ·rw[Ji hc];by_cases z:(((q:Nat):Int),g)=(((p:Nat):Int),h)
  ·rw[iP z];exact⟨_,rfl⟩
  ·rw[iG z];rcases hu with hu | ⟨rfl,hu | rfl⟩
   ·exact J.full u q g (.inl hu) hx' he'
   ·exact J.full u q g (.inr ⟨rfl,hu⟩) hx' he'
   ·rw[hxi]at hx';cases hx';exact absurd rfl z
 ·rcases hq with hq | rfl
  ·exact z.2 t q ht hx hq he
  ·obtain⟨n,e⟩:=J.full t q h (.inl ht) hx he;rw[hc]at e;cases e
theorem DJ.last{es:EE}{xs:List SV}{i:Nat}{h:Int}{P:Nat->Prop}{kvs:List ((Int×Int)×Int)}{ps:List (Int×Int)}(J:DJ es xs i h P kvs ps)(hxi:xs[i]?=some (.int h))(hP:∀ p,endE es i p↔P p):DictI es xs (i+1) kvs/\(ps=[]↔PropS es xs (i+1)):=by
 refine⟨⟨λp g n e=>?_,λt p g ht hx he=>J.full t p g ?_ hx he⟩,J.cl.trans ⟨λz a b g hab hb ha hb' sh=>?_,λz=>⟨λa b g hab hb=>z a b g hab (by omega),λt p ht hx hp he=>z t i h ht (Wq _) hx hxi ⟨p,he,(hP p).mpr hp⟩⟩⟩⟩
 ·obtain⟨t,a,b,d⟩:=J.sound p g n e;exact⟨t,a,by omega,d⟩
 ·rcases Wj t i with z | z
  ·exact .inl z
  ·have:t=i:=by omega
   subst this;exact .inr ⟨rfl,(hP p).mp he⟩
 ·rcases Wj b i with y | y
  ·exact z.1 a b g hab y ha hb' sh
  ·have:b=i:=by omega
   subst this;rw[hxi]at hb';cases hb';obtain⟨p,e1,e2⟩:=sh;exact z.2 a p hab ha ((hP p).mp e2) e1
theorem DictI.skip{es:EE}{xs:List SV}{i:Nat}{kvs:List ((Int×Int)×Int)}{ps:List (Int×Int)}(D:DictI es xs i kvs)(c:ps=[]↔PropS es xs i)(hxi:xs[i]?=some .non):DictI es xs (i+1) kvs/\(ps=[]↔PropS es xs (i+1)):=by
 have lt:∀(t:Nat) (g:Int),t<i+1->xs[t]?=some (.int g)->t<i:=λt g ht hx=>by
  rcases Wj t i with z | z
  ·exact z
  ·have:t=i:=by omega
   subst this;rw[hxi]at hx;cases hx
 exact⟨⟨λp g n e=>let ⟨t,a,b,d⟩:=D.sound p g n e;⟨t,a,by omega,d⟩,λt p g ht hx he=>D.full t p g (lt t g ht hx) hx he⟩,c.trans ⟨λz a b g hab hb ha hb'=>z a b g hab (lt b g hb hb') ha hb',λz a b g hab hb=>z a b g hab (by omega)⟩⟩
section
variable{Δ:Nat->Sn}
def kq3:Stm:=(.loop (.nm 7) (.seq (.var 5)) [(.asg (.nm 8) (.setd (.var 2) (.tup (.cons (.var 7) (.cons (.var 6) .nil))) (.var 4))),(.iff (.cmp .NotEq (.var 8) (.var 4)) [(.expr (.mt .append (.var 3) (.cons (.tup (.cons (.var 8) (.cons (.var 4) .nil))) .nil)))] [])])
def kq2:Stm:=(.loop (.tup (.cons (.nm 4) (.cons (.nm 5) .nil))) (.enum (.ix (.var 0) (.c (.int 1)))) [(.asg (.nm 6) (.ix (.var 1) (.var 4))),(.iff (.cmp .IsNot (.var 6) (.c .non)) [kq3] [])])
def NX:List Stm:=[(.asg (.nm 2) .dnewp),(.asg (.nm 3) (.lst .nil)),kq2,(.ret (.mind (.var 3) (.c .non)))]
def psS(ps:List (Int×Int)):List SV:=ps.map λp:Int×Int=>SV.tup [.int p.1,.int p.2]
theorem El{n m l i p:Nat}{h:Int}{es:EE}{x:SV}{kvs:List ((Int×Int)×Int)}{ps:List (Int×Int)}{S:Sto}{D:EndsS}{o5 o8:Option SV}(hm:S[m]?=some (.dtp kvs))(hl:S[l]?=some (.lst (psS ps)))(hk:kvs.length<1000)(hp:ps.length<1000)
 (q0:∀ c:Int,dpv kvs (((p:Nat):Int),h)=some c->c=(i:Nat)->D.nx [some (i5 n es),some x,some (.loc m),some (.loc l),some (.int (i:Nat)),o5,some (.int h),some (.int (p:Nat)),some (.int c)] S)
 (q1:∀ c:Int,dpv kvs (((p:Nat):Int),h)=some c->c≠(i:Nat)->D.nx [some (i5 n es),some x,some (.loc m),some (.loc l),some (.int (i:Nat)),o5,some (.int h),some (.int (p:Nat)),some (.int c)] (S.set l (.lst (psS (ps++[(c,((i:Nat):Int))])))))
 (q2:dpv kvs (((p:Nat):Int),h)=none->D.nx [some (i5 n es),some x,some (.loc m),some (.loc l),some (.int (i:Nat)),o5,some (.int h),some (.int (p:Nat)),some (.int (i:Nat))] (S.set m (.dtp (kvs++[((((p:Nat):Int),h),((i:Nat):Int))])))):
 wSs Δ [(.asg (.nm 8) (.setd (.var 2) (.tup (.cons (.var 7) (.cons (.var 6) .nil))) (.var 4))),(.iff (.cmp .NotEq (.var 8) (.var 4)) [(.expr (.mt .append (.var 3) (.cons (.tup (.cons (.var 8) (.cons (.var 4) .nil))) .nil)))] [])] D [some (i5 n es),some x,some (.loc m),some (.loc l),some (.int (i:Nat)),o5,some (.int h),some (.int (p:Nat)),o8] S:=by
 refine⟨_,rfl,m,kvs,rfl,hm,_,rfl,_,rfl,by show 2<=100000;decide,_,rfl,_,_,_,kvs,rfl,rfl,hm,by show _<100000;omega,λc hc=>?_,λhc=>?_⟩
 ·refine⟨_,rfl,_,rfl,_,rfl,?_⟩;show if (!decide (c=((i:Nat):Int)))=true then _ else _
  by_cases z:c=(i:Nat)
  ·exact ifF (by rw[decide_eq_true z];rfl) (c4 (q0 c hc z))
  ·refine ifT (by rw[decide_eq_false z];rfl) ?_;have hl':(psS ps).length<100000:=by unfold psS;rw[VA];omega
   refine⟨_,rfl,⟨l,_,rfl,hl⟩,_,rfl,_,rfl,by show 2<=100000;decide,_,hl,hl',?_⟩;have q:=q1 c hc z;unfold psS at q ⊢;rw[VR]at q;exact c4 (Δ:=Δ) q
 ·refine⟨_,rfl,_,rfl,_,rfl,?_⟩;show if (!decide (((i:Nat):Int)=((i:Nat):Int)))=true then _ else _
  exact ifF (by rw[decide_eq_true rfl];rfl) (c4 (q2 hc))
def Id(s:Sn):Prop:=∀{n:Nat} {es:EE} {x:SV} {xs:List SV} {S:Sto} {Q:QE},(∀ e∈es,e.1<e.2/\e.2<n)->es.length<=60->SeqV S x xs->xs.length=es.length->(∀ y∈xs,y = .non\/∃ h:Int,y = .int h)->(∀(v:SV) (S':Sto),Gw S S'->(y9 v=true↔PropS es xs es.length)->Q v S')->s [i5 n es,x] S Q
theorem LC(hΔ:∀ f,MonoN (Δ f)){D:Df}(hb:D.body=NX)(hN:D.N.length=9)(hp:D.ps.length=2):Id (f7 Δ D):=by
 intro n es x xs S Q W hel V hlen hit q;unfold f7;rw[hb,hN];refine⟨hp.symm,by show 0<=100000;decide,_,rfl,_,_,rfl,rfl,_,rfl,?_⟩;have hm0:((S++[SO.dtp []])++[SO.lst []])[S.length]?=some (.dtp []):=j4 a8;have hl0:((S++[SO.dtp []])++[SO.lst []])[(S++[SO.dtp []]).length]?=some (.lst []):=a8;have ll:(S++[SO.dtp []]).length=S.length+1:=by simp
 rw[ll]at hl0;have lw:((S++[SO.dtp []])++[SO.lst []]).length=S.length+2:=by simp
 have G0:Gw S ((S++[SO.dtp []])++[SO.lst []]):=(Gw.refl S).push.push;show w5 _ _ _ _ _ [some (i5 n es),some x,some (.loc S.length),some (.loc (S++[SO.dtp []]).length),none,none,none,none,none] _;rw[ll]
 refine r6 (g9 hΔ _) (λi ρ S2=>∃(o4 o5 o6 o7 o8:Option SV) (kvs:List ((Int×Int)×Int)) (ps:List (Int×Int)),ρ=[some (i5 n es),some x,some (.loc S.length),some (.loc (S.length+1)),o4,o5,o6,o7,o8]/\Gw S S2/\S2[S.length]?=some (.dtp kvs)/\S2[S.length+1]?=some (.lst (psS ps))/\DictI es xs i kvs/\(ps=[]↔PropS es xs i)/\kvs.length<=2 * i/\ps.length<=2 * i)
  ⟨_,_,_,_,_,[],[],rfl,G0,hm0,hl0,⟨λp h n e=>(by cases e),λt p h ht=>absurd ht (Ww _)⟩,⟨λ_ i j h _ hj=>absurd hj (Ww _),λ_=>rfl⟩,VH _,VH _⟩ (λ_ _ _ _=>trivial) ?_ ?_
 ·rintro i z ρ S2 E hE hrt hz ⟨o4,o5,o6,o7,o8,kvs,ps,rfl,G2,hm,hl,DI,PI,hk,hps⟩;obtain⟨y,hy,rfl⟩:=BZ hz;obtain⟨e,he,rfl⟩:=A8 hy;have hi:=(gM he).1;have hv:=VE (show i<xs.length by omega);have mv:=WX (show i<xs.length by omega);generalize xs[i]=v at *;have lw2:S.length+2<=S2.length:=by have:=(gM hl).1;omega
  refine⟨_,rfl,_,rfl,_,_,V.seq S2 G2,f8 hv,?_⟩
  have te:AV es i=e:=by
   have:=CK hi;rw[he]at this;exact(oj this).symm
  have en:∀ p,endE es i p↔(False\/p=e.1)\/p=e.2:=λp=>by unfold endE;rw[te,false_or]
  have ne:e.1≠e.2:=VT (W e (VC he)).1;rcases hit v mv with rfl | ⟨h,rfl⟩
  ·obtain⟨D2,P2⟩:=DI.skip PI hv;exact⟨_,rfl,.inl ⟨rfl,_,rfl,ifF rfl (c4 (hE _ _ ⟨_,_,_,_,_,kvs,ps,rfl,G2,hm,hl,D2,P2,by omega,by omega⟩))⟩⟩
  refine⟨_,rfl,.inl ⟨rfl,_,rfl,ifT rfl ⟨_,rfl,_,rfl,trivial,?_⟩⟩⟩;have J0:=DJ.first (h:=h) DI PI
  have key:∀(kv1:List ((Int×Int)×Int)) (ps1:List (Int×Int)) (S3:Sto) (o8:Option SV),Gw S S3->S3[S.length]?=some (.dtp kv1)->S3[S.length+1]?=some (.lst (psS ps1))->kv1.length<=2 * i+1->ps1.length<=2 * i+1->DJ es xs i h (λq=>False\/q=e.1) kv1 ps1->
   w5 (keepS (pairS e) S2) (.nm 7) (wSs Δ [(.asg (.nm 8) (.setd (.var 2) (.tup (.cons (.var 7) (.cons (.var 6) .nil))) (.var 4))),(.iff (.cmp .NotEq (.var 8) (.var 4)) [(.expr (.mt .append (.var 3) (.cons (.tup (.cons (.var 8) (.cons (.var 4) .nil))) .nil)))] [])]) {nx:=wSs Δ [] E,rt:=E.rt,bk:=E.bk,ct:=E.ct} [.int (e.2:Nat)] [some (i5 n es),some x,some (.loc S.length),some (.loc (S.length+1)),some (.int (i:Nat)),some (pairS e),some (.int h),some (.int (e.1:Nat)),o8] S3:=by
   intro kv1 ps1 S3 o8 G3 m3 l3 k3 p3 J;refine⟨trivial,?_⟩;refine El m3 l3 (by omega) (by omega) (λc hc z=>absurd z (J.found hv (by rintro(z | z);exact z;exact ne z.symm) hc).1) (λc hc z=>?_) (λhc=>?_)
   ·obtain⟨D2,P2⟩:=(J.found hv (by rintro(z | z);exact z;exact ne z.symm) hc).2.last hv en;exact⟨trivial,c4 (Δ:=Δ) (hE _ _ ⟨_,_,_,_,_,kv1,_,rfl,G3.put (by omega),by rw[AH (by omega)];exact m3,Vj (by have:=(gM l3).1;omega),D2,P2,by omega,by rw[VB,W4];omega⟩)⟩
   ·obtain⟨D2,P2⟩:=(J.new hv ((en e.2).mpr (.inr rfl)) hc).last hv en;exact⟨trivial,c4 (Δ:=Δ) (hE _ _ ⟨_,_,_,_,_,_,ps1,rfl,G3.put (by omega),Vj (by have:=(gM m3).1;omega),by rw[AH (by omega)];exact l3,D2,P2,by rw[VB,W4];omega,by omega⟩)⟩
  refine El hm hl (by omega) (by omega) (λc hc z=>absurd z (J0.found hv id hc).1) (λc hc z=>?_) (λhc=>?_)
  ·exact key kvs _ _ _ (G2.put (by omega)) (by rw[AH (by omega)];exact hm) (Vj (by omega)) (by omega) (by rw[VB,W4];omega) (J0.found hv id hc).2
  ·exact key _ ps _ _ (G2.put (by omega)) (Vj (by omega)) (by rw[AH (by omega)];exact hl) (by rw[VB,W4];omega) (by omega) (J0.new hv ((en e.1).mpr (.inl (.inr rfl))) hc)
 ·rintro ρ S2 ⟨o4,o5,o6,o7,o8,kvs,ps,rfl,G2,hm,hl,DI,PI,hk,hps⟩;rw[Bm,VA]at PI;refine⟨_,rfl,S.length+1,ps,rfl,rfl,hl,λe=>q .non S2 G2 ⟨λ_=>PI.mp e,λ_=>rfl⟩,λp hp=>q _ S2 G2 ⟨nofun,λh=>?_⟩⟩;rw[PI.mpr h]at hp;cases hp
end
def okH(y:SV):Bool:=y9 y||Su y
theorem NY{y:SV}(h:okH y=true):y = .non\/∃ g:Int,y = .int g/\0<=g:=by
 cases y with
 | non=>exact .inl rfl
 | int i=>exact .inr ⟨i,rfl,of_decide_eq_true h⟩
 | _=>cases h
theorem Qs{y:SV}(h:y = .non\/∃ g:Int,y = .int g/\0<=g):okH y=true:=by
 rcases h with rfl | ⟨g,rfl,h⟩
 ·rfl
 ·exact decide_eq_true h
def HuP(es:EE)(xs:List SV):Prop:=xs.length=es.length/\(∀ y∈xs,okH y=true)/\PropS es xs es.length
theorem all_at{f:SV->Bool}{xs:List SV}:(∀ i,i<xs.length->f (xs.getD i .non)=true)↔∀ y∈xs,f y=true:=by
 constructor
 ·intro h y hy;obtain⟨i,hi,rfl⟩:=Xy hy;have:=h i hi
  rwa [VD,VE hi]at this
 ·intro h i hi;rw[VD,VE hi];exact h _ (WX hi)
section
variable{Δ:Nat->Sn}
def Qt(kn:Nat):List Stm:=[(.ret (.and (.call kn (.cons (.var 0) .nil)) (.cmp .GtE (.var 0) (.c (.int 0)))))]
def Q4(s:Sn):Prop:=∀{x:SV} {S:Sto} {k b:Nat} {Q:QE},Gd (VS S) k b x->Q (.bl (Su x)) S->s [x] S Q
theorem Q5{kn:Nat}(hn:Sr (Δ kn)){D:Df}(hb:D.body=Qt kn)(hN:D.N.length=1)(hp:D.ps.length=1):Q4 (f7 Δ D):=by
 intro x S k b Q h q;unfold f7;rw[hb,hN];refine⟨hp.symm,_,rfl,hn h ⟨_,rfl,?_⟩⟩;cases x with
 | int i=>exact ifT rfl ⟨_,rfl,q⟩
 | _=>exact ifF rfl q
def hg1(kl:Nat):Stm:=(.iff (.or (.not (.call kl (.cons (.var 1) .nil))) (.cmp .NotEq (.bi .len (.cons (.var 1) .nil)) (.bi .len (.cons (.ix (.var 0) (.c (.int 1))) .nil)))) [(.ret (.c (.bl false)))] [])
def hg2(kh:Nat):Stm:=(.iff (.not (.bi .all (.cons (.comp ["item"] [] [] (.nm 0) (.seq (.var 1)) .no (.or (.cmp .Is (.var 0) (.c .non)) (.call kh (.cons (.var 0) .nil)))) .nil))) [(.ret (.c (.bl false)))] [])
def hg3(kc:Nat):Stm:=(.ret (.cmp .Is (.call kc (.cons (.var 0) (.cons (.var 1) .nil))) (.c .non)))
def Jj(kl kh kc:Nat):List Stm:=[hg1 kl,hg2 kh,hg3 kc]
def B7(s:Sn):Prop:=∀{n k b:Nat} {es:EE} {x:SV} {S:Sto} {Q:QE},(∀ e∈es,e.1<e.2/\e.2<n)->es.length<=60->Gd (VS S) k b x->(∀(r:Bool) (S':Sto),Gw S S'->(r=true↔∃ xs,seqS x S=some xs/\HuP es xs)->Q (.bl r) S')->s [i5 n es,x] S Q
theorem Ie(hΔ:∀ f,MonoN (Δ f)){kl kh kc:Nat}(hl:Ss (Δ kl))(hh:Q4 (Δ kh))(hc:Id (Δ kc)){D:Df}(hb:D.body=Jj kl kh kc)(hN:D.N.length=2)(hp:D.ps.length=2):B7 (f7 Δ D):=by
 intro n k b es x S Q W hel hx q;unfold f7;rw[hb,hN];refine⟨hp.symm,_,rfl,hl hx ?_⟩;rcases hx.split with⟨e,no⟩ | ⟨xs,V⟩
 ·rw[e];exact⟨_,rfl,ifT rfl (q false S (Gw.refl S) ⟨nofun,λ⟨xs,z,_⟩=>absurd z (no _)⟩)⟩
 rw[V.ls];have s0:=V.seq S (Gw.refl S);have hxl:=V.len;obtain⟨k',b',hg⟩:=V.gd;have no:∀ S',Gw S S'->¬ HuP es xs->Q (.bl false) S':=λS' G h=>q false S' G ⟨nofun,λ⟨ys,e,z⟩=>by rw[s0]at e;cases e;exact absurd z h⟩;refine⟨_,rfl,ifF rfl ⟨_,rfl,_,s0,_,rfl,_,_,rfl,rfl,_,rfl,_,rfl,?_⟩⟩;show if (!decide ((xs.length:Int)=((es.map pairS).length:Nat)))=true then _ else _
 rw[VA];by_cases zl:xs.length=es.length
 case neg=>exact ifT (by rw[decide_eq_false (λy=>zl (Vm.mp y))];rfl) (no S (Gw.refl S) λh=>zl h.1)
 refine ifF (by rw[decide_eq_true (show((xs.length:Nat):Int)=(es.length:Nat) by rw[zl])];rfl) (c4 ?_);refine⟨_,rfl,_,s0,?_⟩;refine NV hΔ (λi=>okH (xs.getD i .non)) (by omega) (λS' G=>V.keep S S' (Gw.refl S) G) ?_ ?_
 ·intro i y S' hy G;have ey:xs.getD i .non=y:=by rw[VD,hy];rfl
  rw[ey];refine⟨_,rfl,.inl ⟨rfl,_,rfl,?_⟩⟩;cases y with
  | non=>exact ifT rfl ⟨rfl,G⟩
  | _=>exact ifF rfl ⟨_,rfl,hh ((hg _ (VC hy)).grow G) ⟨rfl,G⟩⟩
 intro S2 G2;have G3:=G2.push (o:=SO.lst ((VN xs.length).map λi => .bl (okH (xs.getD i .non))));refine⟨_,_,nofun,a7 a8,Q2 _ _,_,rfl,?_⟩;generalize S2++[SO.lst ((VN xs.length).map λi => .bl (okH (xs.getD i .non)))]=S3 at *;by_cases hA:((VN xs.length).map λi=>okH (xs.getD i .non)).all id=true
 case neg=>
  rw[Bool.eq_false_iff.mpr hA];exact ifT rfl (no S3 G3 λh=>hA (all_mapF.mpr (all_at.mpr h.2.1)))
 rw[hA];have ok:=all_at.mp (all_mapF.mp hA);refine ifF rfl (c4 ?_);refine⟨_,rfl,_,rfl,hc W hel ⟨λS' G=>V.seq S' (G3.trans G),λS1 S' G1 G=>V.keep S1 S' (G3.trans G1) (G3.trans G),hxl,⟨k',b',λy hy=>(hg y hy).grow G3⟩,V.ls⟩ zl (λy hy=>(NY (ok y hy)).imp id λ⟨g,e,_⟩=>⟨g,e⟩) λv S' G ev => .inl ⟨rfl,q _ S' (G3.trans G) ?_⟩⟩;show y9 v=true↔_;rw[ev];exact⟨λh=>⟨xs,s0,zl,ok,h⟩,λ⟨ys,e,h⟩=>by rw[s0]at e;cases e;exact h.2.2⟩
end
def HC:Option Nat->SV
 | none => .non
 | some t => .int (t:Nat)
theorem Jk{P:Nat->Bool}:∀{ts:List Nat} {j t:Nat},ts[j]?=some t->P t=true->(∀ u∈ts.take j,P u=false)->ts.find? P=some t
 | [],_,_,h,_,_=>by simp at h
 | s::ts,0,t,h,hp,_=>by simp at h;subst h;rw[Vh,hp]
 | s::ts,j+1,t,h,hp,hn=>by
   rw[Vh,hn s (by simp)];exact Jk (by simpa using h) hp λu hu'=>hn u (by simp[hu'])
theorem u7{cs:List Nat}{t:Nat}(h:t<cs.length):cs[t]?=some (hu cs t):=by
 rw[VE h];show _=some (cs.getD t 0);rw[VD,VE h];rfl
section
variable{Δ:Nat->Sn}
def Qu(kt:Nat):List Stm:=[(.loop (.nm 4) (.seq (.call kt (.cons (.var 0) (.cons (.var 2) .nil)))) [(.iff (.cmp .Eq (.ix (.var 1) (.var 4)) (.var 3)) [(.ret (.var 4))] [])]),(.ret (.c .non))]
def Jl:List Stm:=[(.iff (.cmp .Eq (.var 0) (.var 1)) [.no] [])]
def CN(s:Sn):Prop:=∀{a b:Nat} {S:Sto} {Q:QE},a≠b->Q .non S->s [.int (a:Nat),.int (b:Nat)] S Q
theorem LD{D:Df}(hb:D.body=Jl)(hN:D.N.length=2)(hp:D.ps.length=2):CN (f7 Δ D):=by
 intro a b S Q ab q;unfold f7;rw[hb,hN];refine⟨hp.symm,_,rfl,_,rfl,_,rfl,?_⟩;exact ifF (decide_eq_false λz=>ab (Vm.mp z)) q
def rf4(kf kh:Nat):Stm:=(.whl (.cmp .IsNot (.var 6) (.c .non)) [(.expr (.mt .append (.var 5) (.cons (.var 6) .nil))),(.asg (.nm 2) (.call kf (.cons (.var 0) (.cons (.var 6) (.cons (.var 2) .nil))))),(.par 3 4 (.var 4) (.var 3)),(.asg (.nm 6) (.call kh (.cons (.var 0) (.cons (.var 1) (.cons (.var 2) (.cons (.var 3) .nil))))))])
def rf1(kc ku kh:Nat):List Stm:=[(.expr (.call kc (.cons (.var 0) (.cons (.var 2) .nil)))),(.expr (.call ku (.cons (.var 3) (.cons (.var 4) .nil)))),(.iff (.cmp .IsNot (.call kh (.cons (.var 0) (.cons (.var 1) (.cons (.var 2) (.cons (.var 4) .nil))))) (.c .non)) [.no] []),(.asg (.nm 5) (.lst .nil)),(.asg (.nm 6) (.call kh (.cons (.var 0) (.cons (.var 1) (.cons (.var 2) (.cons (.var 3) .nil))))))]
def Qv(kc ku kh kf:Nat):List Stm:=rf1 kc ku kh++[rf4 kf kh,(.ret (.var 5))]
theorem Jm{es:EE}{cs:List Nat}{x h:Nat}(z:∀ u,AtP es u x->hu cs u≠h):m8 es cs x h=none:=by
 unfold m8;rw[WJ];intro u hu' y;exact z u (mem_tiesAt.mp hu') (of_decide_eq_true y)
def ec2(kt:Nat):Stm:=(.loop (.nm 6) (.seq (.var 2)) [(.iff (.or (.not (.call kt (.cons (.var 0) (.cons (.var 6) .nil)))) (.cmp .NotIn (.ix (.var 1) (.var 6)) (.tup (.cons (.var 3) (.cons (.var 4) .nil))))) [.no] []),(.put (.var 5) (.var 6) (.ife (.cmp .Eq (.ix (.var 1) (.var 6)) (.var 3)) (.var 4) (.var 3)))])
def Qw(ku kt ki:Nat):List Stm:=[(.expr (.call ku (.cons (.var 3) (.cons (.var 4) .nil)))),(.asg (.nm 5) (.bi .list (.cons (.var 1) .nil))),ec2 kt,(.iff (.not (.call ki (.cons (.var 0) (.cons (.var 5) .nil)))) [.no] []),(.ret (.var 5))]
theorem Jn(cs:List Nat)(a b:Nat):exL cs [] a b=cs:=by
 conv=>rhs;rw[<-Sq cs]
 unfold exL;exact XD λt _=>by simp
theorem HD{cs r:List Nat}{a b t:Nat}(ht:t<cs.length):exL cs (r++[t]) a b=(exL cs r a b).set t (if hu cs t=a then b else a):=by
 apply Wm;intro i;by_cases hi:i<cs.length
 ·have g1:(exL cs (r++[t]) a b)[i]?=some (hu (exL cs (r++[t]) a b) i):=u7 (by rw[AF];exact hi);rw[g1,Dk hi];by_cases e:i=t
  ·subst e;rw[Vj (by rw[AF];exact hi),iP (by simp)]
  ·rw[W5 (Ne.symm e),u7 (by rw[AF];exact hi),Dk hi]
   congr 1
   have:i∈r++[t]↔i∈r:=by simp[e]
   by_cases z:i∈r
   ·rw[iP z,iP (this.mpr z)]
   ·rw[iG z,iG (λy=>z (this.mp y))]
 ·rw[Vu (by rw[AF];omega),Vu (by rw[Vw,AF];omega)]
def ar1(kh:Nat):Stm:=(.iff (.or (.not (.call kh (.cons (.var 3) .nil))) (.not (.call kh (.cons (.var 4) .nil)))) [(.ret (.c .non))] [])
def Qx(kh kr kx:Nat):List Stm:=[ar1 kh,(.tri [(.ret (.call kx (.cons (.var 0) (.cons (.var 1) (.cons (.call kr (.cons (.var 0) (.cons (.var 1) (.cons (.var 2) (.cons (.var 3) (.cons (.var 4) .nil)))))) (.cons (.var 3) (.cons (.var 4) .nil)))))))])]
def as1:Stm:=(.iff (.or (.not (.bi .isi (.cons (.var 2) (.cons (.tyc .tuple) .nil)))) (.not (.var 2))) [(.ret (.c .non))] [])
def as2:Stm:=(.asg (.nm 3) (.ix (.var 2) (.c (.int 0))))
def as3(w:Str)(n:Int)(e:Ex):Stm:=(.iff (.and (.cmp .Eq (.var 3) (.c (.str w))) (.cmp .Eq (.bi .len (.cons (.var 2) .nil)) (.c (.int n)))) [(.ret e)] [])
noncomputable def NZ(kh kd km kr:Nat):List Stm:=[as1,as2,as3 "hue" 3 (.call kh (.cons (.var 0) (.cons (.var 1) (.cons (.ix (.var 2) (.c (.int 1))) (.cons (.ix (.var 2) (.c (.int 2))) .nil))))),as3 "drop" 2 (.call kd (.cons (.var 0) (.cons (.var 1) (.cons (.ix (.var 2) (.c (.int 1))) .nil)))),as3 "move" 3 (.call km (.cons (.var 0) (.cons (.var 1) (.cons (.ix (.var 2) (.c (.int 1))) (.cons (.ix (.var 2) (.c (.int 2))) .nil))))),as3 "row" 4 (.call kr (.cons (.var 0) (.cons (.var 1) (.cons (.ix (.var 2) (.c (.int 1))) (.cons (.ix (.var 2) (.c (.int 2))) (.cons (.ix (.var 2) (.c (.int 3))) .nil)))))),(.ret (.c .non))]
def Qy(ka:Nat):List Stm:=[(.asg (.nm 3) (.call ka (.cons (.var 0) (.cons (.var 1) (.cons (.var 2) .nil))))),(.iff (.cmp .Is (.var 3) (.c .non)) [.no] []),(.ret (.var 3))]
end
theorem Q6{ns:List Int}{x:Int}:x∈srt ns↔x∈ns:=by unfold srt;exact List.mem_mergeSort
theorem Sv(x:Int)(ns:List Int):inS (.int x) (ns.map SV.int)=decide (x∈ns):=by
 rw[Vv,dQ];unfold inS;rw[XE,Wc];constructor
 ·rintro⟨a,ha,h⟩;have h:(a == x)=true:=h;rw[beq_iff_eq]at h;rw[<-h];exact ha
 ·intro h;exact⟨x,h,by show(x == x)=true;simp⟩
theorem Na(ns:List Int):(ns.map SV.int).all y8=true:=by
 rw[YB,Ve];intro _ _;rfl
section
variable{Δ:Nat->Sn}
def Jo(kt:Nat):List Stm:=[(.ret (.bi .sorted (.cons (.comp ["tie"] ["hueing"] [1] (.nm 0) (.seq (.call kt (.cons (.var 0) (.cons (.var 2) .nil)))) (.yes (.cmp .IsNot (.ix (.var 1) (.var 0)) (.c .non))) (.ix (.var 1) (.var 0))) .nil)))]
def lh1:Stm:=(.iff (.or (.not (.bi .isi (.cons (.var 1) (.cons (.tup (.cons (.tyc .list) (.cons (.tyc .tuple) .nil))) .nil)))) (.cmp .NotEq (.bi .len (.cons (.var 1) .nil)) (.bi .len (.cons (.ix (.var 0) (.c (.int 1))) .nil)))) [(.ret (.c (.bl false)))] [])
def lh2:Stm:=(.iff (.and (.cmp .IsNot (.var 3) (.c .non)) (.or (.not (.bi .isi (.cons (.var 3) (.cons (.tyc .int) .nil)))) (.or (.bi .isi (.cons (.var 3) (.cons (.tyc .bool) .nil))) (.cmp .Lt (.var 3) (.c (.int 0)))))) [(.ret (.c (.bl false)))] [])
def lh3(km:Nat):Stm:=(.loop (.nm 4) (.rng1 (.var 2)) [(.iff (.and (.cmp .IsNot (.var 3) (.c .non)) (.and (.cmp .Eq (.ix (.var 1) (.var 4)) (.var 3)) (.call km (.cons (.var 0) (.cons (.var 4) (.cons (.var 2) .nil)))))) [(.ret (.c (.bl false)))] [])])
def HE(km:Nat):List Stm:=[lh1,(.loop (.tup (.cons (.nm 2) (.cons (.nm 3) .nil))) (.enum (.var 1)) [lh2,lh3 km]),(.ret (.c (.bl true)))]
theorem Gd.isLs{S:Sto}{k b:Nat}{x:SV}(h:Gd (VS S) k b x):∃ t,tyS x S=some t/\[TyN.list,.tuple].any (GB t)=isL x:=by
 cases h with
 | lst hv _ _ _=>exact⟨_,Dd hv,rfl⟩
 | _=>exact⟨_,rfl,rfl⟩
theorem Sw{n i:Nat}{es:EE}{x y:SV}{S:Sto}{k b:Nat}{D:EndsS}{o4:Option SV}(hy:Gd (VS S) k b y)(q1:okH y=true->D.nx [some (i5 n es),some x,some (.int (i:Nat)),some y,o4] S)(q0:okH y=false->D.rt (.bl false) S):
 wSt Δ lh2 D [some (i5 n es),some x,some (.int (i:Nat)),some y,o4] S:=by
 refine⟨_,rfl,.inl ⟨rfl,_,rfl,?_⟩⟩;cases hy with
 | non=>exact ifF rfl (ifF rfl (c4 (Δ:=Δ) (q1 rfl)))
 | bl c=>exact ifT rfl ⟨_,rfl,_,nofun,rfl,_,rfl,ifF rfl ⟨_,rfl,_,nofun,rfl,_,rfl,ifT rfl (q0 rfl)⟩⟩
 | @int _ _ g h=>
   refine ifT rfl ⟨_,rfl,_,nofun,rfl,_,rfl,ifF rfl ⟨_,rfl,_,nofun,rfl,_,rfl,ifF rfl ⟨_,rfl,_,rfl,?_⟩⟩⟩;refine ifD (λz=>q0 (decide_eq_false (show ¬ (0:Int)<=g from by have z:g<0:=z;omega))) (λz=>c4 (Δ:=Δ) (q1 (decide_eq_true (show(0:Int)<=g from by have z:¬ g<0:=z;omega))))
 | str h hb'=>exact ifT rfl ⟨_,rfl,_,nofun,rfl,_,rfl,ifT rfl (q0 rfl)⟩
 | tup h hl hc=>exact ifT rfl ⟨_,rfl,_,nofun,rfl,_,rfl,ifT rfl (q0 rfl)⟩
 | lst hv h hl hc=>exact ifT rfl ⟨_,rfl,_,nofun,Dd hv,_,rfl,ifT rfl (q0 rfl)⟩
theorem Sx(hΔ:∀ f,MonoN (Δ f)){km:Nat}(hm:HB (Δ km)){n i:Nat}{es:EE}{x y:SV}{xs:List SV}{S:Sto}{D:EndsS}{o4:Option SV}(s0:seqS x S=some xs)(hi:i<es.length)(hl:xs.length=es.length)(hel:es.length<=60)(hy:xs[i]?=some y)(oy:okH y=true)(ok:∀(j:Nat) (z:SV),j<i->xs[j]?=some z->okH z=true)
 (q1:∀ o4:Option SV,(∀(j:Nat) (g:Int),j<i->xs[j]?=some (.int g)->y = .int g->¬ Shr es j i)->D.nx [some (i5 n es),some x,some (.int (i:Nat)),some y,o4] S) (q0:∀(j:Nat) (g:Int),j<i->xs[j]?=some (.int g)->y = .int g->Shr es j i->D.rt (.bl false) S):
 wSt Δ (lh3 km) D [some (i5 n es),some x,some (.int (i:Nat)),some y,o4] S:=by
 refine⟨_,rfl,((i:Nat):Int),rfl,⟨by omega,by omega⟩,?_⟩;refine r6 (g9 hΔ _) (λk ρ S2=>∃ o4:Option SV,ρ=[some (i5 n es),some x,some (.int (i:Nat)),some y,o4]/\S2=S/\∀(j:Nat) (g:Int),j<k->xs[j]?=some (.int g)->y = .int g->¬ Shr es j i) ⟨_,rfl,rfl,λj g hj=>absurd hj (Ww _)⟩ (λ_ _ _ _=>trivial) ?_ ?_
 ·rintro k z ρ S2 E hE hrt hz ⟨o4,rfl,rfl,al⟩;have hk:k<i:=by have:=(gM hz).1;rw[k8]at this;omega
  obtain⟨rfl,_⟩:=p9 hz;rw[Wl];have hv:=VE (show k<xs.length by omega);have ov:=ok k _ hk hv;generalize xs[k]=v at *
  have next:(∀ g:Int,v = .int g->y = .int g->¬ Shr es k i)->∀(j:Nat) (g:Int),j<k+1->xs[j]?=some (.int g)->y = .int g->¬ Shr es j i:=λf j g hj hx e=>by
   rcases Wj j k with w | w
   ·exact al j g w hx e
   ·have:j=k:=by omega
    subst this;rw[hv]at hx;cases hx;exact f g rfl e
  refine⟨_,rfl,.inl ⟨rfl,_,rfl,?_⟩⟩;rcases NY oy with rfl | ⟨g,rfl,_⟩
  ·exact ifF rfl (ifF rfl (c4 (Δ:=Δ) (hE _ _ ⟨_,rfl,rfl,next λg _ e=>by cases e⟩)))
  refine ifT rfl ⟨_,rfl,_,rfl,_,_,s0,f8 hv,_,rfl,?_⟩;rcases NY ov with rfl | ⟨g',rfl,_⟩
  ·exact⟨_,rfl,ifF rfl (ifF rfl (c4 (Δ:=Δ) (hE _ _ ⟨_,rfl,rfl,next λg e _=>by cases e⟩)))⟩
  refine⟨_,rfl,?_⟩;show if decide (g'=g)=true then _ else _
  refine ifD (λe=>?_) (λe=>ifF rfl (c4 (Δ:=Δ) (hE _ _ ⟨_,rfl,rfl,next λg1 e1 e2=>by injection e1 with e1;injection e2 with e2;exact absurd (e1.trans e2.symm) e⟩)));have e:g'=g:=e;subst e;refine⟨_,rfl,_,rfl,_,rfl,hm (by omega) hi λv ev=>⟨_,rfl,?_⟩⟩;cases v with
  | true=>exact ifT rfl (hrt _ _ (q0 k g' hk hv rfl (ev.mp rfl)))
  | false=>exact ifF rfl (c4 (Δ:=Δ) (hE _ _ ⟨_,rfl,rfl,next λg1 _ _ sh=>YM (ev.mpr sh)⟩))
 ·rintro ρ S2 ⟨o4,rfl,rfl,al⟩;have e:(Cs 0 ((i:Nat):Int)).length=i:=by rw[k8];omega
  rw[e]at al;exact q1 o4 al
theorem Ig(hΔ:∀ f,MonoN (Δ f)){km:Nat}(hm:HB (Δ km)){D:Df}(hb:D.body=HE km)(hN:D.N.length=5)(hp:D.ps.length=2):B7 (f7 Δ D):=by
 intro n k b es x S Q W hel hx q;unfold f7;rw[hb,hN];obtain⟨ty,e1,e2⟩:=hx.isLs;refine⟨hp.symm,_,rfl,by show 2<=100000;decide,_,[.list,.tuple],by decide,e1,rfl,_,rfl,?_⟩;rw[e2];rcases hx.split with⟨e,no⟩ | ⟨xs,V⟩
 ·rw[e];exact ifT rfl (q false S (Gw.refl S) ⟨nofun,λ⟨xs,z,_⟩=>absurd z (no _)⟩)
 rw[V.ls];have s0:=V.seq S (Gw.refl S);have hxl:=V.len;obtain⟨k',b',hg⟩:=V.gd;have no:¬ HuP es xs->Q (.bl false) S:=λh=>q false S (Gw.refl S) ⟨nofun,λ⟨ys,e,z⟩=>by rw[s0]at e;cases e;exact absurd z h⟩;refine ifF rfl ⟨_,rfl,_,s0,_,rfl,_,_,rfl,rfl,_,rfl,_,rfl,?_⟩;show if (!decide ((xs.length:Int)=((es.map pairS).length:Nat)))=true then _ else _
 rw[VA];by_cases zl:xs.length=es.length
 case neg=>exact ifT (by rw[decide_eq_false (λy=>zl (Vm.mp y))];rfl) (no λh=>zl h.1)
 refine ifF (by rw[decide_eq_true (show((xs.length:Nat):Int)=(es.length:Nat) by rw[zl])];rfl) (c4 ?_);refine⟨_,rfl,_,s0,?_⟩;refine r6 (g9 hΔ _) (λi ρ S2=>∃ o2 o3 o4:Option SV,ρ=[some (i5 n es),some x,o2,o3,o4]/\S2=S/\(∀(j:Nat) (z:SV),j<i->xs[j]?=some z->okH z=true)/\PropS es xs i) ⟨_,_,_,rfl,rfl,λj z hj=>absurd hj (Ww _),λa b g _ hb=>absurd hb (Ww _)⟩ (λ_ _ S2 z=>by obtain⟨_,_,_,_,rfl,_⟩:=z;exact V.keep S2 S2 (Gw.refl _) (Gw.refl _)) ?_ ?_
 ·rintro i z ρ S2 E hE hrt hz ⟨o2,o3,o4,rfl,rfl,ok,pr⟩;obtain⟨y,hy,rfl⟩:=BZ hz;have hi:i<es.length:=by rw[<-zl];exact(gM hy).1
  refine Sw (hg y (VC hy)) (λoy=>?_) (λoy=>hrt _ _ (no λh=>by rw[h.2.1 y (VC hy)]at oy;cases oy));refine Sx hΔ hm s0 hi zl hel hy oy ok (λo4 al=>c4 (Δ:=Δ) (hE _ _ ⟨_,_,_,rfl,rfl,λj z hj hz2=>?_,λa b g hab hb ha hb'=>?_⟩)) (λj g hj hx e sh=>hrt _ _ (no λh=>h.2.2 j i g hj hi hx (by rw[hy,e]) sh))
  ·rcases Wj j i with w | w
   ·exact ok j z w hz2
   ·have:j=i:=by omega
    subst this;rw[hy]at hz2;cases hz2;exact oy
  ·rcases Wj b i with w | w
   ·exact pr a b g hab w ha hb'
   ·have:b=i:=by omega
    subst this;rw[hy]at hb';exact al a g hab ha (oj hb')
 ·rintro ρ S2 ⟨o2,o3,o4,rfl,rfl,ok,pr⟩;rw[Bm]at ok pr;refine q true S2 (Gw.refl _) ⟨λ_=>⟨xs,s0,zl,λy hy=>?_,by rw[<-zl];exact pr⟩,λ_=>rfl⟩;obtain⟨j,hj,rfl⟩:=Xy hy;exact ok j _ hj (VE hj)
end
theorem Ih{cs:List Nat}{c t:Nat}(h:t<cs.length):hu (cs++[c]) t=hu cs t:=by
 show(cs++[c]).getD t 0=cs.getD t 0;rw[VD,VD,VP h]
theorem FS{cs:List Nat}{c:Nat}:hu (cs++[c]) cs.length=c:=by
 show(cs++[c]).getD cs.length 0=c;rw[VD,Vd];rfl
section
variable{Δ:Nat->Sn}
theorem Nb{f:Nat->Bool}{m t:Nat}(ht:t<m)(hf:f t=true)(un:∀ u,u<m->f u=true->u=t):(VN m).filter f=[t]:=by
 have nd:((VN m).filter f).Nodup:=X1.filter _
 have mem:∀ u,u∈(VN m).filter f↔u=t:=λu=>by
  rw[W1,Va];exact⟨λz=>un u z.1 z.2,λz=>by subst z;exact⟨ht,hf⟩⟩
 match h:(VN m).filter f with
 | []=>rw[h]at mem;exact absurd ((mem t).mpr rfl) (by simp)
 | [a]=>rw[h]at mem;rw[(mem a).mp (by simp)]
 | a::b::l=>
   rw[h]at mem nd;have e1:=(mem a).mp (by simp);have e2:=(mem b).mp (by simp);subst e1;subst e2;simp at nd
theorem Q7(n:Nat):blS (VM n (.bl false))=some (VM n false):=by
 induction n with
 | zero=>rfl
 | succ n ih=>rw[Vn,Vn];simp[blS,ih]
end
def pS(c:Nat):SV:=if c<1000 then .int (c:Nat) else .non
def c8(cs:List Nat):List SV:=cs.map pS
theorem n8{c:Nat}(h:c<1000):pS c = .int (c:Nat):=iP h
theorem u8{c:Nat}(h:¬ c<1000):pS c = .non:=iG h
theorem k9{cs:List Nat}:(c8 cs).length=cs.length:=by unfold c8;rw[VA]
theorem p0{cs:List Nat}{i c:Nat}(h:cs[i]?=some c):(c8 cs)[i]?=some (pS c):=by unfold c8;rw[VI,h];rfl
theorem CO{cs:List Nat}{i:Nat}{x:SV}(h:(c8 cs)[i]?=some x):∃ c,cs[i]?=some c/\x=pS c:=by
 unfold c8 at h;rw[VI]at h;cases he:cs[i]? with
 | none=>rw[he]at h;cases h
 | some e=>rw[he]at h;exact⟨e,rfl,(oj h).symm⟩
theorem Qz{c h:Nat}(hh:h<1000){S:Sto}{Q:QE}(q:Q (.bl (decide (c=h))) S):Ak .Eq (pS c) (.int (h:Nat)) S Q:=by
 by_cases z:c<1000
 ·rw[n8 z];show Q (.bl (decide ((c:Int)=(h:Int)))) S;rw[show decide ((c:Int)=(h:Int))=decide (c=h) by rw[Vv];simp[Vm]];exact q
 ·rw[u8 z];show Q (.bl false) S;rw[show decide (c=h)=false from decide_eq_false (by omega)]at q;exact q
theorem Jp{es:EE}{cs:List Nat}(P:Prp es cs):HuP es (c8 cs):=by
 refine⟨by rw[k9];exact P.len,λy hy=>?_,λi j h hij hj h1 h2 sh=>?_⟩
 ·unfold c8 at hy;obtain⟨c,_,rfl⟩:=VZ.mp hy;by_cases z:c<1000
  ·rw[n8 z];exact Qs (.inr ⟨_,rfl,by omega⟩)
  ·rw[u8 z];exact Qs (.inl rfl)
 ·obtain⟨c1,z1,e1⟩:=CO h1;obtain⟨c2,z2,e2⟩:=CO h2
  have val:∀{c:Nat} {h:Int},SV.int h=pS c->h=(c:Nat):=λ{c h} e=>by
   by_cases z:c<1000
   ·rw[n8 z]at e;injection e
   ·rw[u8 z]at e;cases e
  have e2:c1=c2:=Vm.mp ((val e1).symm.trans (val e2));obtain⟨p,a1,a2⟩:=shr_end.mp sh
  have at':∀ t,t<es.length->endE es t p->AtP es t p:=λt ht z=>by
   refine⟨AV es t,CK ht,?_⟩;exact z.imp Eq.symm Eq.symm
  have hu1:hu cs i=c1:=by show cs.getD i 0=_;rw[VD,z1];rfl
  have hu2:hu cs j=c2:=by show cs.getD j 0=_;rw[VD,z2];rfl
  have:=P.one i j p (at' i (by omega) a1) (at' j hj a2) (by rw[hu1,hu2,e2]);omega
theorem Nc{S:Sto}{l:Nat}{cs:List Nat}(h:S[l]?=some (.lst (c8 cs)))(hl:cs.length<=60):Gd (VS S) 1 1000 (.loc l):=by
 refine .lst (k:=0) (b:=10) h (λy hy=>?_) (by rw[k9];omega) (by rw[k9];omega);unfold c8 at hy;obtain⟨c,hc,rfl⟩:=VZ.mp hy;by_cases z:c<1000
 ·rw[n8 z];exact .int ⟨by omega,by omega⟩
 ·rw[u8 z];exact .non
theorem Dl{cs:List Nat}{t h u:Nat}(ht:t<cs.length):hu (cs.set t h) u=if u=t then h else hu cs u:=by
 show(cs.set t h).getD u 0=_;rw[VD];by_cases e:u=t
 ·subst e;rw[Vj ht,iP rfl];rfl
 ·rw[W5 (Ne.symm e),iG e];show _=cs.getD u 0;rw[VD]
section
variable{n H:Nat}{es:EE}{cs:List Nat}
theorem Bo(P:Prp es cs)(hen:∀ e∈es,e.1<e.2/\e.2<n){p a b:Nat}(ab:a≠b)(no:∀ u,AtP es u p->hu cs u≠b):∃ x o1 o2,RwI es cs a b p (rwF es cs (es.length+1) p a b) x o1 o2/\∀ u,AtP es u x->hu cs u≠o1:=by
 have:=NU P ab (λe he=>VT (hen e he).1) (es.length+1) [] p a b (RwI.nil no) (by simp);simpa using this
theorem CP{a b p x o1 o2:Nat}{r:List Nat}(R:RwI es cs a b p r x o1 o2):∀ t∈r,hu cs t=a\/hu cs t=b:=λt ht=>by
 obtain⟨i,hi⟩:=WY ht;rw[R.alt i t hi];split<;>simp
end
def frL(es:EE)(cs:List Nat)(p H:Nat):List Nat:=(VN H).filter λh=>(m8 es cs p h).isNone
theorem mem_frL{es:EE}{cs:List Nat}{p H h:Nat}:h∈frL es cs p H↔h<H/\∀ u,AtP es u p->hu cs u≠h:=by
 unfold frL;rw[W1,Va];constructor
 ·rintro⟨a,b⟩;refine⟨a,AB ?_⟩;simpa using b
 ·rintro⟨a,b⟩;refine⟨a,?_⟩;rw[Jm b];rfl
theorem Q8{es:EE}{cs:List Nat}{p H t:Nat}(hH:H<=1000)(at':AtP es t p)(h0:¬ hu cs t<1000)(hc:m6 es p<=H):frL es cs p H≠[]:=by
 intro e
 have all:∀ h,h<H->∃ u,m8 es cs p h=some u:=λh hh=>by
  cases z:m8 es cs p h with
  | some u=>exact⟨u,rfl⟩
  | none=>
    have:h∈frL es cs p H:=mem_frL.mpr ⟨hh,AB z⟩;rw[e]at this;cases this
 have f:∀ h,h<H->AtP es ((m8 es cs p h).getD 0) p/\hu cs ((m8 es cs p h).getD 0)=h:=λh hh=>by
  obtain⟨u,z⟩:=all h hh;rw[z];exact m7 z
 have nd:(t::(VN H).map λh=>(m8 es cs p h).getD 0).Nodup:=by
  rw[Vz];refine⟨λz=>?_,?_⟩
  ·obtain⟨h,hh,e⟩:=VZ.mp z;have hl:=Va.mp hh;have:=(f h hl).2;rw[e]at this;omega
  ·rw[List.Nodup,XA];refine List.Pairwise.imp_of_mem (λ{a b} ha hb ne e=>ne ?_) X1;rw[<-(f a (Va.mp ha)).2,<-(f b (Va.mp hb)).2,e]
 have sub:=List.Nodup.length_le_of_subset nd (l₂:=g8 es p es.length) λu hu'=>by
  rcases VW.mp hu' with z | z
  ·rw[z];exact mem_tiesAt.mpr at'
  ·obtain⟨h,hh,rfl⟩:=VZ.mp z;exact mem_tiesAt.mpr (f h (Va.mp hh)).1
 rw[Vb,VA,Vs]at sub;have:m6 es p=(g8 es p es.length).length:=rfl;omega
theorem Nd{l:List Nat}(h:l≠[]):l.headD 0∈l:=by
 cases l with
 | nil=>exact absurd rfl h
 | cons a l=>exact VQ ..
section
variable{Δ:Nat->Sn}
theorem C5(c:Nat):y9 (pS c)=!decide (c<1000):=by
 by_cases z:c<1000
 ·rw[n8 z,decide_eq_true z];rfl
 ·rw[u8 z,decide_eq_false z];rfl
def Nf(ka:Nat):List Stm:=[(.asg (.nm 4) (.call ka (.cons (.var 0) (.cons (.var 1) (.cons (.var 2) .nil))))),(.ret (.comp ["hue"] ["taken"] [4] (.nm 0) (.rng1 (.var 3)) (.yes (.cmp .NotIn (.var 0) (.var 1))) (.var 0)))]
end
def Hv(S:Sto)(x:SV)(cs:List Nat):Prop:=x = .tup (c8 cs)\/∃ k,x = .loc k/\S[k]?=some (.lst (c8 cs))
theorem Hv.seq{S:Sto}{x:SV}{cs:List Nat}(h:Hv S x cs):seqS x S=some (c8 cs):=by
 rcases h with rfl | ⟨k,rfl,h⟩
 ·rfl
 ·exact a7 h
theorem Hv.gw{S S':Sto}{x:SV}{cs:List Nat}(h:Hv S x cs)(G:Gw S S'):Hv S' x cs:=h.imp id λ⟨k,e,h⟩=>⟨k,e,G.keep _ _ h⟩
theorem Hv.loc{S:Sto}{k:Nat}{cs:List Nat}(h:S[k]?=some (.lst (c8 cs))):Hv S (.loc k) cs := .inr ⟨k,rfl,h⟩
theorem Jq{S S1 S2:Sto}{l:Nat}(G:Gw S S1)(O:On l S1 S2)(h:S.length<=l):Gw S S2:=⟨Vc G.len O.len,λj o e=>O.keep j o (by have:=(gM e).1;omega) (G.keep j o e)⟩
section
variable{Δ:Nat->Sn}
def FT(s:Sn):Prop:=∀{n p h:Nat} {w:SV} {es:EE} {cs:List Nat} {S:Sto} {Q:QE},Hv S w cs->cs.length=es.length->es.length<=1000->p<n->h<1000->(∀ S',Gw S S'->Q (HC (m8 es cs p h)) S')->s [i5 n es,w,.int (p:Nat),.int (h:Nat)] S Q
theorem Ng(hΔ:∀ f,MonoN (Δ f)){kt:Nat}(ht:BY (Δ kt)){D:Df}(hb:D.body=Qu kt)(hN:D.N.length=5)(hp:D.ps.length=4):FT (f7 Δ D):=by
 intro n p h w es cs S Q hk hl hel hpn hh q;unfold f7;rw[hb,hN];refine⟨hp.symm,_,rfl,_,rfl,ht (by omega) hpn ⟨_,a7 a8,?_⟩⟩;have G1:Gw S (S++[SO.lst (f6 (g8 es p es.length))]):=(Gw.refl S).push;have hk1:=hk.gw G1;generalize S++[SO.lst (f6 (g8 es p es.length))]=S1 at *;refine r6 (g9 hΔ _) (λj ρ S2=>S2=S1/\∃ o4:Option SV,ρ=[some (i5 n es),some w,some (.int (p:Nat)),some (.int (h:Nat)),o4]/\∀ u∈(g8 es p es.length).take j,decide (hu cs u=h)=false) ⟨rfl,none,rfl,λu hu'=>by simp at hu'⟩ (λ_ _ _ z=>by rw[z.1];exact rfl) ?_ ?_
 ·rintro j x ρ S2 E hE hR hx ⟨rfl,o4,rfl,no⟩;obtain⟨t,htj,rfl⟩:=B6 hx;have tl:=(mem_tiesAt.mp (VC htj))
  have tl:t<es.length:=let ⟨e,he,_⟩:=tl;(gM he).1
  have hc:=u7 (cs:=cs) (t:=t) (by omega);refine⟨_,rfl,_,rfl,_,_,hk1.seq,f8 (p0 hc),_,rfl,Qz hh ⟨_,rfl,ifD (λz=>?_) (λz=>?_)⟩⟩
  ·have e:m8 es cs p h=some t:=Jk htj (decide_eq_true z) no;refine⟨_,rfl,hR _ _ ?_⟩;have:=q S2 G1;rw[e]at this;exact this
  ·refine hE _ _ ⟨rfl,_,rfl,λu hu'=>?_⟩;rw[Vl,htj]at hu';rcases VY.mp hu' with y | y
   ·exact no u y
   ·have:u=t:=by simpa using y
    rw[this];exact decide_eq_false z
 ·rintro ρ S2 ⟨rfl,o4,rfl,no⟩;rw[j8,Vf]at no
  have e:m8 es cs p h=none:=by
   unfold m8;rw[WJ];intro u hu' z;rw[no u hu']at z;cases z
  have:=q S2 G1;rw[e]at this;exact this
def Bc(s:Sn):Prop:=∀{n p a b:Nat} {w:SV} {es:EE} {cs:List Nat} {S:Sto} {Q:QE},Hv S w cs->a<1000->b<1000->Prp es cs->(∀ e∈es,e.1<e.2/\e.2<n)->es.length<=1000->p<n->a≠b->(∀ u,AtP es u p->hu cs u≠b)->
 (∀(l:Nat) (S':Sto),Gw S S'->S.length<=l->S'[l]?=some (.lst (f6 (rwF es cs (es.length+1) p a b)))->Q (.loc l) S')->s [i5 n es,w,.int (p:Nat),.int (a:Nat),.int (b:Nat)] S Q
theorem Q9(hΔ:∀ f,MonoN (Δ f)){kc ku kh kf:Nat}(hc:AM (Δ kc))(hu':CN (Δ ku))(hh:FT (Δ kh))(hf:Au (Δ kf)){D:Df}(hb:D.body=Qv kc ku kh kf)(hN:D.N.length=7)(hp:D.ps.length=5):Bc (f7 Δ D):=by
 intro n p a b w es cs S Q hk a9 b9 P hen hel hpn ab hno q;have hne:∀ e∈es,e.1≠e.2:=λe he=>VT (hen e he).1;have hl:=P.len;unfold f7;rw[hb,hN];refine⟨hp.symm,_,rfl,_,rfl,hc hpn ⟨_,rfl,_,rfl,hu' ab ⟨_,rfl,_,rfl,_,rfl,_,rfl,hh hk hl hel hpn b9 λS1 G1=>?_⟩⟩⟩;rw[Jm hno];refine .inl ⟨rfl,_,rfl,ifF rfl (c4 ?_)⟩;refine⟨by show 0<=100000;decide,?_⟩;have hk1:=hk.gw G1;refine⟨_,rfl,_,rfl,_,rfl,_,rfl,hh (hk1.gw (Gw.refl S1).push) hl hel hpn a9 λS2 G2=>?_⟩;have h2:S2[S1.length]?=some (.lst []):=G2.keep _ _ a8;have GS:Gw S S2:=G1.trans ((Gw.refl S1).push.trans G2);have s1:=G1.len;generalize S1.length=l at *;show wSs Δ [rf4 kf kh,(.ret (.var 5))] (w9 Q) [some (i5 n es),some w,some (.int (p:Nat)),some (.int (a:Nat)),some (.int (b:Nat)),some (.loc l),some (HC (m8 es cs p a))] S2;refine⟨λm ρ S'=>∃(r:List Nat) (x one other:Nat),ρ=[some (i5 n es),some w,some (.int (x:Nat)),some (.int (one:Nat)),some (.int (other:Nat)),some (.loc l),some (HC (m8 es cs x one))]/\RwI es cs a b p r x one other/\x<n/\r++rwF es cs (es.length+1 - r.length) x one other=rwF es cs (es.length+1) p a b/\m+r.length=es.length+1/\On l S2 S'/\S'[l]?=some (.lst (f6 r)),⟨es.length+1,[],p,a,b,rfl,RwI.nil hno,hpn,rfl,rfl,On.refl _ _,h2⟩,?_⟩;rintro m ρ S' ⟨r,x,one,other,rfl,R,xn,er,em,O,hr⟩;have rl:=R.len;have GS':Gw S S':=Jq GS O s1;have hk':=hk.gw GS';cases hz:m8 es cs x one with
 | none=>
   refine⟨_,rfl,.inl ⟨rfl,_,rfl,ifF rfl ?_⟩⟩
   have e0:rwF es cs (es.length+1 - r.length) x one other=[]:=by
    rw[show es.length+1 - r.length=(es.length - r.length)+1 by omega];unfold rwF;rw[hz]
   rw[e0,Vy]at er;exact⟨_,rfl,q l S' GS' s1 (by rw[hr,er])⟩
 | some t=>
   obtain⟨⟨e,he,hx⟩,hcx⟩:=m7 hz;have hee:=hen e (VC he);have ge:es.getD t (0,0)=e:=by rw[VD,he];rfl
   have R':=R.step P ab he hx (hne e (VC he)) hcx;have fn:y0 e x<n:=by unfold y0;split<;>omega
   have e1:rwF es cs (es.length+1 - r.length) x one other=t::rwF es cs (es.length+1 - (r++[t]).length) (y0 e x) other one:=by
    rw[show es.length+1 - r.length=(es.length - r.length)+1 by omega,show es.length+1 - (r++[t]).length=es.length - r.length by rw[VB];simp]
    conv=>lhs;unfold rwF
    rw[hz];dsimp only;rw[ge]
   refine⟨_,rfl,.inl ⟨rfl,_,rfl,ifT rfl ?_⟩⟩;refine⟨_,rfl,⟨_,_,rfl,hr⟩,_,rfl,_,hr,by rw[j8];show _<100000;omega,?_⟩;have h3:(S'.set l (.lst (f6 r++[.int (t:Nat)])))[l]?=some (.lst (f6 (r++[t]))):=by rw[n6 hr,t9];rfl
   have O3:On l S2 (S'.set l (.lst (f6 r++[.int (t:Nat)]))):=O.tape;have hk3:=hk.gw (Jq GS O3 s1);show wSs Δ [(.asg (.nm 2) (.call kf (.cons (.var 0) (.cons (.var 6) (.cons (.var 2) .nil))))),(.par 3 4 (.var 4) (.var 3)),(.asg (.nm 6) (.call kh (.cons (.var 0) (.cons (.var 1) (.cons (.var 2) (.cons (.var 3) .nil))))))] _ [some (i5 n es),some w,some (.int (x:Nat)),some (.int (one:Nat)),some (.int (other:Nat)),some (.loc l),some (.int (t:Nat))] (S'.set l (.lst (f6 r++[.int (t:Nat)])));generalize S'.set l (.lst (f6 r++[.int (t:Nat)]))=S3 at *;refine⟨_,rfl,_,rfl,_,rfl,hf he (hx.imp Eq.symm Eq.symm) ?_⟩;refine⟨_,rfl,_,rfl,?_⟩;refine⟨_,rfl,_,rfl,_,rfl,_,rfl,hh hk3 hl hel fn (by rcases R.ab.2 with z | z<;>rw[z]<;>assumption) λS4 G4=>?_⟩;refine⟨es.length+1 - (r++[t]).length,by rw[VB];simp;omega,r++[t],y0 e x,other,one,rfl,R',fn,?_,?_,O3.trans (V7 G4),G4.keep _ _ h3⟩
   ·rw[<-er,e1];simp
   ·have:=R'.len;omega
def FU(s:Sn):Prop:=∀{n l a b:Nat} {w:SV} {es:EE} {cs r:List Nat} {S:Sto} {Q:QE},Hv S w cs->a<1000->b<1000->S[l]?=some (.lst (f6 r))->cs.length=es.length->(∀ e∈es,e.1<e.2/\e.2<n)->es.length<=60->a≠b->(∀ t∈r,t<es.length)->(∀ t∈r,hu cs t=a\/hu cs t=b)->r.length<=1000->Prp es (exL cs r a b)->
 (∀(l':Nat) (S':Sto),Gw S S'->S.length<=l'->S'[l']?=some (.lst (c8 (exL cs r a b)))->Q (.loc l') S')->s [i5 n es,w,.loc l,.int (a:Nat),.int (b:Nat)] S Q
theorem Nh(hΔ:∀ f,MonoN (Δ f)){ku kt ki:Nat}(hu':CN (Δ ku))(ht:CJ (Δ kt))(hi:B7 (Δ ki)){D:Df}(hb:D.body=Qw ku kt ki)(hN:D.N.length=7)(hp:D.ps.length=5):FU (f7 Δ D):=by
 intro n l a b w es cs r S Q hk a9 b9 hl hcl hen hel ab rlt rab rlen P q;unfold f7;rw[hb,hN];refine⟨hp.symm,_,rfl,_,rfl,hu' ab ⟨_,rfl,_,hk.seq,?_⟩⟩;show wSs Δ [ec2 kt,(.iff (.not (.call ki (.cons (.var 0) (.cons (.var 5) .nil)))) [.no] []),(.ret (.var 5))] (w9 Q) [some (i5 n es),some w,some (.loc l),some (.int (a:Nat)),some (.int (b:Nat)),some (.loc S.length),none] (S++[.lst (c8 cs)]);have ll:=(gM hl).1;refine⟨_,rfl,_,a7 (j4 hl),?_⟩;refine v4 (g9 hΔ _) (λi ρ S'=>∃ o6:Option SV,ρ=[some (i5 n es),some w,some (.loc l),some (.int (a:Nat)),some (.int (b:Nat)),some (.loc S.length),o6]/\On S.length (S++[.lst (c8 cs)]) S'/\S'[S.length]?=some (.lst (c8 (exL cs (r.take i) a b)))) ⟨none,rfl,On.refl _ _,by rw[Ya,Jn];exact a8⟩ (λi ρ S' h=>?_) ?_ ?_
 ·obtain⟨_,_,O,_⟩:=h;show S'[l]?=(S++[SO.lst (c8 cs)])[l]?;rw[j4 hl];exact O.keep _ _ (by omega) (j4 hl)
 ·rintro i x ρ S' hx ⟨o6,rfl,O,h5⟩;obtain⟨t,hti,rfl⟩:=B6 hx;have tr:=VC hti;have tl:=rlt t tr;have hk':=hk.gw (Jq (Gw.refl S).push O (VH _));have hc:=u7 (cs:=cs) (t:=t) (by omega);have hc9:hu cs t<1000:=by rcases rab t tr with z | z<;>rw[z]<;>assumption
  have hcp:(c8 cs)[t]?=some (.int (hu cs t:Nat)):=by rw[p0 hc,n8 hc9]
  have e:r.take (i+1)=r.take i++[t]:=by rw[Vl,hti];rfl
  refine⟨_,rfl,_,rfl,ht tl ⟨_,rfl,ifF rfl ⟨_,rfl,_,rfl,_,_,hk'.seq,f8 hcp,_,rfl,_,rfl,by show 2<=100000;decide,rfl,_,rfl,rfl,_,rfl,?_⟩⟩⟩
  have inn:(!inS (.int (hu cs t:Nat)) [.int (a:Nat),.int (b:Nat)])=false:=by
   rcases rab t tr with z | z<;>rw[z]<;>simp[inS,eqF]
  refine ifF inn (c4 ?_)
  have fin:∀ z:Int,z=((if hu cs t=a then b else a:Nat):Int)->Ca (.loc S.length) (.int (t:Nat)) (.int z) S' λS4=>∃ o6:Option SV,[some (i5 n es),some w,some (.loc l),some (.int (a:Nat)),some (.int (b:Nat)),some (.loc S.length),some (.int (t:Nat))]=[some (i5 n es),some w,some (.loc l),some (.int (a:Nat)),some (.int (b:Nat)),some (.loc S.length),o6]/\On S.length (S++[.lst (c8 cs)]) S4/\S4[S.length]?=some (.lst (c8 (exL cs (r.take (i+1)) a b))):=by
   rintro _ rfl;refine⟨_,t,h5,Bk (by rw[k9,AF];omega),_,rfl,O.tape,?_⟩;rw[n6 h5,e,HD (by omega)];unfold c8;rw[XG,n8 (by split<;>assumption)]
  refine⟨_,rfl,_,rfl,_,_,hk'.seq,f8 hcp,_,rfl,_,rfl,ifD (λz=>⟨_,rfl,_,rfl,_,rfl,fin _ ?_⟩) (λz=>⟨_,rfl,_,rfl,_,rfl,fin _ ?_⟩)⟩
  ·have z:hu cs t=a:=Vm.mp z;rw[iP z]
  ·have z:¬ hu cs t=a:=λy=>z (congrArg _ y);rw[iG z]
 ·rintro ρ S' ⟨o6,rfl,O,h5⟩;rw[j8,Vf]at h5;refine⟨_,rfl,_,rfl,hi hen hel (Nc h5 (by rw[AF];omega)) λrr S2 G2 e2=>?_⟩;have:rr=true:=e2.mpr ⟨_,a7 h5,Jp P⟩;subst this;refine⟨_,rfl,ifF rfl (c4 ⟨_,rfl,q S.length S2 ?_ (VH _) (G2.keep _ _ h5)⟩)⟩;refine⟨Vc (Vc (by rw[VB];omega) O.len) G2.len,λj o h=>G2.keep _ _ (O.keep j o ?_ (j4 h))⟩;exact VT (gM h).1
def Ch(s:Sn):Prop:=∀{n p:Nat} {w:SV} {es:EE} {cs:List Nat} {S:Sto} {Q:QE},Hv S w cs->cs.length=es.length->es.length<=60->p<n->(∀(l:Nat) (ns:List Int) (S':Sto),Gw S S'->S'[l]?=some (.lst (ns.map SV.int))->(∀ h:Nat,h<1000->((h:Int)∈ns↔∃ u,AtP es u p/\hu cs u=h))->Q (.loc l) S')->s [i5 n es,w,.int (p:Nat)] S Q
theorem Ii(hΔ:∀ f,MonoN (Δ f)){kt:Nat}(ht:BY (Δ kt)){D:Df}(hb:D.body=Jo kt)(hN:D.N.length=3)(hp:D.ps.length=3):Ch (f7 Δ D):=by
 intro n p w es cs S Q hk hl hel hpn q;unfold f7;rw[hb,hN];refine⟨hp.symm,_,rfl,_,rfl,ht (by omega) hpn ⟨_,a7 a8,?_⟩⟩;have G1:Gw S (S++[SO.lst (f6 (g8 es p es.length))]):=(Gw.refl S).push;have hk1:=hk.gw G1;generalize S++[SO.lst (f6 (g8 es p es.length))]=S1 at *;have tl:(g8 es p es.length).length<=es.length:=CL _ _
 have fl:∀ j,((((g8 es p es.length).take j).map (hu cs)).filter λc=>decide (c<1000)).length<=es.length:=λj=>by
  have:=We (λc=>decide (c<1000)) (((g8 es p es.length).take j).map (hu cs));rw[VA,Vr]at this;omega
 refine i4 (j6 hΔ _).2 (a5 hΔ _).1 (λj ys S2=>S2=S1/\ys=f6 ((((g8 es p es.length).take j).map (hu cs)).filter λc=>decide (c<1000))) ⟨rfl,rfl⟩ (λ_ _ _ z=>by rw[z.1];exact rfl) ?_ ?_
 ·rintro j x ys S2 hx ⟨rfl,rfl⟩;obtain⟨t,htj,rfl⟩:=B6 hx;obtain⟨e,he,_⟩:=mem_tiesAt.mp (VC htj);have hc:=u7 (cs:=cs) (t:=t) (by have:=(gM he).1;omega);have hjl:=(gM htj).1
  have es':(((g8 es p es.length).take (j+1)).map (hu cs)).filter (λc=>decide (c<1000))=(((g8 es p es.length).take j).map (hu cs)).filter (λc=>decide (c<1000))++if decide (hu cs t<1000)=true then [hu cs t] else []:=by
   rw[Vl,htj,VR,Wu]
   congr 1
   show YQ (λc=>decide (c<1000)) [hu cs t]=_;rw[WN];rfl
  refine⟨_,rfl,_,rfl,_,_,hk1.seq,f8 (p0 hc),.inl ⟨rfl,_,rfl,?_⟩⟩;show if (if true=true then !y9 (pS (hu cs t)) else y9 (pS (hu cs t)))=true then _ else _
  rw[iP rfl,C5,YE];refine ifD (λz=>?_) (λz=>⟨rfl,?_⟩)
  ·rw[iP (decide_eq_true z)]at es';refine⟨_,rfl,_,rfl,_,_,hk1.seq,f8 (p0 hc),by rw[j8];have:=fl j;show _<100000;omega,rfl,?_⟩;rw[es',t9,n8 z];rfl
  ·rw[iG (by simpa using z),Vy]at es';rw[es']
 ·rintro ys S2 ⟨rfl,rfl⟩;rw[j8,Vf];have fl':=fl (g8 es p es.length).length;rw[Vf]at fl';refine⟨_,_,nofun,a7 a8,Jf _,by rw[VA];omega,?_⟩;refine q _ _ _ G1.push.push a8 λh hh=>?_;rw[Q6];constructor
  ·intro z;obtain⟨c,hc,e⟩:=VZ.mp z;obtain⟨u,hu',rfl⟩:=VZ.mp (W1.mp hc).1;exact⟨u,mem_tiesAt.mp hu',Vm.mp e⟩
  ·rintro⟨u,hu',rfl⟩;exact VZ.mpr ⟨_,W1.mpr ⟨VZ.mpr ⟨u,mem_tiesAt.mpr hu',rfl⟩,decide_eq_true hh⟩,rfl⟩
def Bp(s:Sn):Prop:=∀{n H p:Nat} {w:SV} {es:EE} {cs:List Nat} {S:Sto} {Q:QE},Hv S w cs->cs.length=es.length->es.length<=60->p<n->H<=1000->(∀(l:Nat) (S':Sto),Gw S S'->S.length<=l->S'[l]?=some (.lst (f6 (frL es cs p H)))->Q (.loc l) S')->s [i5 n es,w,.int (p:Nat),.int (H:Nat)] S Q
theorem Ni(hΔ:∀ f,MonoN (Δ f)){ka:Nat}(ha:Ch (Δ ka)){D:Df}(hb:D.body=Nf ka)(hN:D.N.length=5)(hp:D.ps.length=4):Bp (f7 Δ D):=by
 intro n H p w es cs S Q hk hl hel hpn hH q;unfold f7;rw[hb,hN];refine⟨hp.symm,_,rfl,_,rfl,_,rfl,ha hk hl hel hpn λl ns S1 G1 h1 mem=>⟨_,rfl,_,rfl,⟨by omega,by omega⟩,?_⟩⟩;refine i4 (j6 hΔ _).2 (a5 hΔ _).1 (λj ys S2=>S2=S1/\ys=f6 ((VN j).filter λh=>(m8 es cs p h).isNone)) ⟨rfl,rfl⟩ (λ_ _ _ _=>trivial) ?_ ?_
 ·rintro j x ys S2 hx ⟨rfl,rfl⟩;have jl:j<H:=by have:=(gM hx).1;rw[k8]at this;omega
  obtain⟨rfl,hj⟩:=p9 hx;rw[Wl]at hj ⊢;have fs:=Gz (λh=>(m8 es cs p h).isNone) j;have fl:=CL (λh=>(m8 es cs p h).isNone) j;refine⟨_,rfl,_,rfl,?_⟩;show match BP (.loc l) S2 with | some ms=>_ | none=>_
  rw[At h1];refine⟨rfl,_,a7 h1,Na _,_,rfl,?_⟩;show if (!inS (.int (j:Nat)) (ns.map SV.int))=true then _ else _
  rw[Sv]
  have e:(!decide ((j:Int)∈ns))=(m8 es cs p j).isNone:=by
   cases ht:m8 es cs p j with
   | none=>
     have:¬ (j:Int)∈ns:=λz=>by
      obtain⟨u,u1,u2⟩:=(mem j (by omega)).mp z;exact AB ht u u1 u2
     rw[decide_eq_false this];rfl
   | some t=>
     have:(j:Int)∈ns:=(mem j (by omega)).mpr ⟨t,(m7 ht).1,(m7 ht).2⟩;rw[decide_eq_true this];rfl
  rw[e];refine ifB (λz=>?_) (λz=>⟨rfl,?_⟩)
  ·rw[iP z]at fs;exact⟨_,rfl,by rw[j8];show _<100000;omega,rfl,by rw[fs,t9];rfl⟩
  ·rw[iG (by rw[z];decide),Vy]at fs;rw[fs]
 ·rintro ys S2 ⟨rfl,rfl⟩;rw[k8,show((H:Int) - 0).toNat=H by omega];exact q _ _ G1.push G1.len a8
end
inductive Sp3 where
 | hue (t h:Nat)
 | move (t u:Nat)
 | row (p a b:Nat)
def st3(es:EE)(cs:List Nat):Sp3->List Nat
 | .hue t h=>cs.set t h
 | .move t u=>(cs.set t (1000+t)).set u (hu cs t)
 | .row p a b=>exL cs (rwF es cs (es.length+1) p a b) a b
def Ok3(n H:Nat)(es:EE)(cs:List Nat):Sp3->Prop
 | .hue t h=>t<es.length/\¬ hu cs t<1000/\h<H/\∀ y,AtP es t y->∀ u,AtP es u y->hu cs u≠h
 | .move t u=>t<es.length/\u<es.length/\hu cs t<H/\¬ hu cs u<1000/\(∃ y,AtP es t y/\AtP es u y)/\∀ y,AtP es u y->∀ v,AtP es v y->hu cs v=hu cs t->v=t
 | .row p a b=>a<H/\b<H/\a≠b/\p<n/\∀ u,AtP es u p->hu cs u≠b
structure Hg(H:Nat)(es:EE)(cs:List Nat):Prop where
 P:Prp es cs
 cod:∀ u,u<es.length->hu cs u<H\/hu cs u=1000+u
section
variable{n H:Nat}{es:EE}{cs:List Nat}
theorem Hg.bare(h:Hg H es cs){u:Nat}(ul:u<es.length)(z:¬ hu cs u<1000)(hH:H<=1000):hu cs u=1000+u:=by
 rcases h.cod u ul with y | y
 ·omega
 ·exact y
theorem FV{t u v:Nat}(tl:t<cs.length)(ul:u<cs.length):hu (st3 es cs (.move t u)) v=if v=u then hu cs t else if v=t then 1000+t else hu cs v:=by
 show hu ((cs.set t (1000+t)).set u (hu cs t)) v=_;rw[Dl (by rw[Vw];exact ul),Dl tl]
theorem Jr(s:Sp3):(st3 es cs s).length=cs.length:=by
 cases s with
 | hue t h=>exact Vw ..
 | move t u=>show((cs.set t (1000+t)).set u (hu cs t)).length=_;rw[Vw,Vw]
 | row p a b=>exact AF ..
theorem D5(h:Hg H es cs){r:List Nat}{a b u:Nat}(ul:u<es.length):hu (exL cs r a b) u=if u∈r then (if hu cs u=a then b else a) else hu cs u:=Dk (by rw[h.P.len];exact ul)
theorem C6(g:Hg H es cs)(hen:∀ e∈es,e.1<e.2/\e.2<n)(hH:H<=1000){s:Sp3}(h:Ok3 n H es cs s):Hg H es (st3 es cs s):=by
 have pl:=g.P.len;cases s with
 | hue t h'=>
   obtain⟨tl,h0,h1,h2⟩:=h;have e:∀ v,hu (st3 es cs (.hue t h')) v=if v=t then h' else hu cs v:=λv=>Dl (by omega)
   refine⟨⟨(Jr _).trans pl,λv u y hv hu' q=>?_⟩,λu ul=>?_⟩
   ·rw[e,e]at q;by_cases e1:v=t
    ·by_cases e2:u=t
     ·rw[e1,e2]
     ·rw[iP e1,iG e2]at q;subst e1;exact absurd q.symm (h2 y hv u hu')
    ·by_cases e2:u=t
     ·rw[iG e1,iP e2]at q;subst e2;exact absurd q (h2 y hu' v hv)
     ·rw[iG e1,iG e2]at q;exact g.P.one v u y hv hu' q
   ·rw[e];split
    ·exact .inl h1
    ·exact g.cod u ul
 | move t u=>
   obtain⟨tl,ul,h1,h2,_,h3⟩:=h;have e:∀ v,hu (st3 es cs (.move t u)) v=if v=u then hu cs t else if v=t then 1000+t else hu cs v:=λv=>FV (by omega) (by omega)
   have key:∀ v w y,AtP es v y->AtP es w y->hu (st3 es cs (.move t u)) v=hu (st3 es cs (.move t u)) w->v≠w->w≠u->v=w:=by
    intro v w y hv hw q ne wu;rw[e,e,iG wu]at q;by_cases vu:v=u
    ·rw[iP vu]at q;by_cases wt:w=t
     ·rw[iP wt]at q;omega
     ·rw[iG wt]at q;subst vu;exact absurd (h3 y hv w hw q.symm) wt
    ·rw[iG vu]at q;by_cases vt:v=t
     ·rw[iP vt]at q;by_cases wt:w=t
      ·exact absurd (vt.trans wt.symm) ne
      ·rw[iG wt]at q;rcases g.cod w hw.lt with z | z<;>omega
     ·rw[iG vt]at q;by_cases wt:w=t
      ·rw[iP wt]at q;rcases g.cod v hv.lt with z | z<;>omega
      ·rw[iG wt]at q;exact g.P.one v w y hv hw q
   refine⟨⟨(Jr _).trans pl,λv w y hv hw q=>?_⟩,λv vl=>?_⟩
   ·by_cases ne:v=w
    ·exact ne
    ·by_cases wu:w=u
     ·exact(key w v y hw hv q.symm (Ne.symm ne) (λz=>ne (z.trans wu.symm))).symm
     ·exact key v w y hv hw q ne wu
   ·rw[e];split
    ·exact .inl h1
    ·split
     ·next z=>exact .inr (by rw[z])
     ·exact g.cod v vl
 | row p a b=>
   obtain⟨a1,b1,ab,pn,no⟩:=h;obtain⟨x,o1,o2,R,last⟩:=Bo g.P hen ab no;refine⟨So g.P (R.clo last) (CP R),λu ul=>?_⟩;show hu (exL cs _ a b) u<H\/hu (exL cs _ a b) u=_;rw[D5 g ul];split
   ·split<;>exact .inl (by assumption)
   ·exact g.cod u ul
end
def AI(es:EE)(cs:List Nat)(sts:List Sp3):List Nat:=sts.foldl (λc s=>st3 es c s) cs
def OkR3(n H:Nat)(es:EE):List Nat->List Sp3->Prop
 | _,[]=>True
 | cs,s::ss=>Ok3 n H es cs s/\OkR3 n H es (st3 es cs s) ss
theorem OkR3.hg{n H:Nat}{es:EE}(hen:∀ e∈es,e.1<e.2/\e.2<n)(hH:H<=1000):∀{a:List Sp3} {cs:List Nat},Hg H es cs->OkR3 n H es cs a->Hg H es (AI es cs a)
 | [],_,g,_=>g
 | s::a,cs,g,h=>OkR3.hg hen hH (a:=a) (C6 g hen hH h.1) h.2
def farT(es:EE)(p t:Nat):Nat:=y0 (es.getD t (0,0)) p
def AX:List Nat->Nat->List Sp3
 | [],_=>[]
 | [w],h=>[.hue w h]
 | a::b::r,h => .move b a::AX (b::r) h
def Chn(es:EE)(cs:List Nat)(p H:Nat)(ws:List Nat):Prop:=∀ k a b:Nat,ws[k]?=some a->ws[k+1]?=some b->hu cs b∈frL es cs (farT es p a) H
def LF(H:Nat)(es:EE)(cs ds:List Nat)(t:Nat):Prop:=hu ds t<H/\∀ u,u<es.length->u≠t->(hu ds u<H↔hu cs u<H)
theorem Js{es:EE}{t p y:Nat}(h:AtP es t p)(hy:AtP es t y):y=p\/y=farT es p t:=by
 obtain⟨e,he,hp⟩:=h;obtain⟨e',he',hy⟩:=hy;rw[he]at he';cases he';unfold farT y0;rw[show es.getD t (0,0)=e by rw[VD,he];rfl];rcases hp with hp | hp<;>rcases hy with hy | hy<;>split<;>omega
theorem Ci{n:Nat}{es:EE}(hen:∀ e∈es,e.1<e.2/\e.2<n){t p:Nat}(h:AtP es t p):farT es p t≠p/\farT es p t<n:=by
 obtain⟨e,he,hp⟩:=h;have:=hen e (VC he);unfold farT y0;rw[show es.getD t (0,0)=e by rw[VD,he];rfl];split<;>omega
theorem HF{n H p h:Nat}{es:EE}(hen:∀ e∈es,e.1<e.2/\e.2<n)(hH:H<=1000):∀(r:List Nat) (a:Nat) (cs:List Nat),Hg H es cs->(a::r).Nodup->(∀ w∈a::r,AtP es w p)->hu cs a=1000+a->Chn es cs p H (a::r)->h∈frL es cs p H->h∈frL es cs (farT es p ((a::r).getLastD 0)) H->OkR3 n H es cs (AX (a::r) h)/\LF H es cs (AI es cs (AX (a::r) h)) a
 | [],a,cs,g,nd,at',ba,_,h1,h2=>by
   have al:=(at' a (VQ ..)).lt;obtain⟨hh,f1⟩:=mem_frL.mp h1;obtain⟨_,f2⟩:=mem_frL.mp h2;have e:∀ v,hu (st3 es cs (.hue a h)) v=if v=a then h else hu cs v:=λv=>Dl (by rw[g.P.len];exact al)
   refine⟨⟨⟨al,by omega,hh,λy hy=>?_⟩,trivial⟩,?_,λu ul ne=>?_⟩
   ·rcases Js (at' a (VQ ..)) hy with z | z
    ·rw[z];exact f1
    ·rw[z];exact f2
   ·show hu (st3 es cs (.hue a h)) a<H;rw[e,iP rfl];exact hh
   ·show hu (st3 es cs (.hue a h)) u<H↔_;rw[e,iG ne]
 | b::r,a,cs,g,nd,at',ba,ch,h1,h2=>by
   have pl:=g.P.len;have aa:=at' a (VQ ..);have ab:=at' b (VL _ (VQ ..));have al:=aa.lt;have bl:=ab.lt;obtain⟨nd1,nd2⟩:=Vz.mp nd;have nab:a≠b:=λz=>nd1 (z▸VQ ..);obtain⟨hb,fb⟩:=mem_frL.mp (ch 0 a b rfl rfl);have e:∀ v,hu (st3 es cs (.move b a)) v=if v=a then hu cs b else if v=b then 1000+b else hu cs v:=λv=>FV (by omega) (by omega)
   have ok:Ok3 n H es cs (.move b a):=⟨bl,al,hb,by omega,⟨p,ab,aa⟩,λy hy v hv q=>by
    rcases Js aa hy with z | z
    ·rw[z]at hv;exact g.P.one v b p hv ab q
    ·rw[z]at hv;exact absurd q (fb v hv)⟩
   have g':=C6 g hen hH ok
   have fr:∀(x y:Nat),x≠hu cs b->x∈frL es cs y H->x∈frL es (st3 es cs (.move b a)) y H:=λx y nx hx=>by
    obtain⟨x1,x2⟩:=mem_frL.mp hx;refine mem_frL.mpr ⟨x1,λu hu'=>?_⟩;rw[e];split
    ·exact Ne.symm nx
    ·split
     ·omega
     ·exact x2 u hu'
   have hne:∀ w∈r,w≠a/\w≠b:=λw hw=>⟨λz=>nd1 (z▸VL _ hw),λz=>(Vz.mp nd2).1 (z▸hw)⟩
   have hb':h≠hu cs b:=λz=>(mem_frL.mp h1).2 b ab z.symm
   have ch':Chn es (st3 es cs (.move b a)) p H (b::r):=λk c d h3 h4=>by
    have dr:d∈r:=VC (by simpa using h4);have:=ch (k+1) c d (by simpa using h3) (by simpa using h4);rw[e,iG (hne d dr).1,iG (hne d dr).2];refine fr _ _ (λz=>(hne d dr).2 ?_) this;exact g.P.one d b p (at' d (VL _ (VL _ dr))) ab z
   obtain⟨k1,k2,k3⟩:=HF hen hH r b (st3 es cs (.move b a)) g' nd2 (λw hw=>at' w (VL _ hw)) (by rw[e,iG nab.symm,iP rfl]) ch' (fr _ _ hb' h1) (fr _ _ hb' h2);refine⟨⟨ok,k1⟩,?_,λu ul ne=>?_⟩
   ·show hu (AI es (st3 es cs (.move b a)) (AX (b::r) h)) a<H;rw[k3 a al nab,e,iP rfl];exact hb
   ·show hu (AI es (st3 es cs (.move b a)) (AX (b::r) h)) u<H↔_;by_cases z:u=b
    ·rw[z];exact⟨λ_=>hb,λ_=>k2⟩
    ·rw[k3 u ul z,e,iG ne,iG z]
abbrev Fan:=List (Nat×Option Nat)
theorem Nj{α β:Type}{f:α->Option β}:∀{xs:List α} {j:Nat} {x:α} {y:β},xs[j]?=some x->f x=some y->(∀ u∈xs.take j,f u=none)->xs.findSome? f=some y
 | [],_,_,_,h,_,_=>by simp at h
 | a::xs,0,x,y,h,e,_=>by
   simp at h;subst h;rw[Xz,e]
 | a::xs,j+1,x,y,h,e,no=>by
   rw[Xz,no a (by simp)];exact Nj (j:=j) (by simpa using h) e λu hu'=>no u (by simp[hu'])
def frs(es:EE)(cs:List Nat)(p H:Nat)(F:Fan):List (List Nat):=F.map λx=>frL es cs (farT es p x.1) H
def AY(cs:List Nat)(t:Nat)(L:List (List Nat)):Option Nat:=L.findIdx? λl=>decide (hu cs t∈l)
def Ax(es:EE)(cs:List Nat)(p H:Nat)(F:Fan):Option (Nat×Nat):=(g8 es p es.length).findSome? λt=>if t∈F.map (·.1) then none else (AY cs t (frs es cs p H F)).map λb=>(t,b)
def Bs(es:EE)(cs:List Nat)(p H:Nat):Nat->Fan->Fan
 | 0,F=>F
 | k+1,F=>match Ax es cs p H F with
   | none=>F
   | some x=>Bs es cs p H k (F++[(x.1,some x.2)])
structure FanI(es:EE)(cs:List Nat)(p H t0:Nat)(F:Fan):Prop where
 fst:F[0]?=some (t0,none)
 nd:(F.map (·.1)).Nodup
 att:∀ x∈F,AtP es x.1 p
 bk:∀(i t:Nat) (o:Option Nat),0<i->F[i]?=some (t,o)->∃(b u:Nat) (c:Option Nat),o=some b/\b<i/\F[b]?=some (u,c)/\hu cs t∈frL es cs (farT es p u) H/\∀(b' u':Nat) (c':Option Nat),b'<b->F[b']?=some (u',c')->hu cs t∉frL es cs (farT es p u') H
def Sy(es:EE)(cs:List Nat)(p H:Nat)(F:Fan):Prop:=∀ t,AtP es t p->t∉F.map (·.1)->∀ x∈F,hu cs t∉frL es cs (farT es p x.1) H
section
variable{n H p t0:Nat}{es:EE}{cs:List Nat}{F:Fan}
theorem FanI.one(h:AtP es t0 p):FanI es cs p H t0 [(t0,none)]:=⟨rfl,by simp,λx hx=>by rw[VU.mp hx];exact h,λi t o h e=>by
 have:=(gM e).1;simp at this;omega⟩
theorem FanI.len(h:FanI es cs p H t0 F):F.length<=es.length:=by
 have:=List.Nodup.length_le_of_subset h.nd (l₂:=VN es.length) λt ht=>by
  obtain⟨x,hx,rfl⟩:=VZ.mp ht;exact Va.mpr (h.att x hx).lt
 rwa [Vs,VA]at this
theorem LG{t b:Nat}(h:AY cs t (frs es cs p H F)=some b):∃ u c,F[b]?=some (u,c)/\hu cs t∈frL es cs (farT es p u) H/\∀(b' u':Nat) (c':Option Nat),b'<b->F[b']?=some (u',c')->hu cs t∉frL es cs (farT es p u') H:=by
 unfold AY at h;obtain⟨hb,h1,h2⟩:=X9.mp h;have bl:b<F.length:=by unfold frs at hb;rwa [VA]at hb
 refine⟨F[b].1,F[b].2,VE bl,?_,λb' u' c' lt e z=>?_⟩
 ·have:=of_decide_eq_true h1
  rwa [show(frs es cs p H F)[b]=frL es cs (farT es p F[b].1) H by simp[frs]]at this
 ·have:=h2 b' lt;apply this;obtain⟨_,e⟩:=gM e;rw[dQ,show(frs es cs p H F)[b']=frL es cs (farT es p F[b'].1) H by simp[frs],e];exact z
theorem LH{t:Nat}(h:AY cs t (frs es cs p H F)=none):∀ x∈F,hu cs t∉frL es cs (farT es p x.1) H:=λx hx z=>by
 unfold AY at h;rw[XR]at h;have:=h _ (VZ.mpr ⟨x,hx,rfl⟩);rw[decide_eq_true z]at this;cases this
theorem LI{x:Nat×Nat}(h:Ax es cs p H F=some x):AtP es x.1 p/\x.1∉F.map (·.1)/\AY cs x.1 (frs es cs p H F)=some x.2:=by
 unfold Ax at h;obtain⟨t,ht,e⟩:=List.exists_of_findSome?_eq_some h;split at e
 ·cases e
 ·next hn=>
  cases hb:AY cs t (frs es cs p H F) with
  | none=>rw[hb]at e;cases e
  | some b=>
    rw[hb]at e;cases e;exact⟨mem_tiesAt.mp ht,hn,hb⟩
theorem LJ(h:Ax es cs p H F=none):Sy es cs p H F:=by
 intro t ht hn;unfold Ax at h;rw[WU]at h;have:=h t (mem_tiesAt.mpr ht);rw[iG hn]at this;cases hb:AY cs t (frs es cs p H F) with
 | some b=>rw[hb]at this;cases this
 | none=>exact LH hb
theorem FanI.snoc(I:FanI es cs p H t0 F){x:Nat×Nat}(h:Ax es cs p H F=some x):FanI es cs p H t0 (F++[(x.1,some x.2)]):=by
 obtain⟨h1,h2,h3⟩:=LI h;obtain⟨u,c,k1,k2,k3⟩:=LG h3;have bl:=(gM k1).1;have f0:=(gM I.fst).1;refine⟨by rw[VP f0];exact I.fst,?_,λy hy=>?_,λi t o hi e=>?_⟩
 ·rw[VR,Wk];refine⟨I.nd,by simp,λa ha b hb z=>h2 ?_⟩;have:b=x.1:=by simpa using hb
  rw[<-this,<-z];exact ha
 ·rcases VY.mp hy with z | z
  ·exact I.att y z
  ·rw[VU.mp z];exact h1
 ·have old:∀{j:Nat} {y:Nat×Option Nat},F[j]?=some y->(F++[(x.1,some x.2)])[j]?=some y:=λ{j y} e=>by
   rw[VP (gM e).1];exact e
  have new:∀{j:Nat} {y:Nat×Option Nat},j<F.length->(F++[(x.1,some x.2)])[j]?=some y->F[j]?=some y:=λ{j y} hj e=>by
   rwa [VP hj]at e
  rcases NQ e with⟨e1,e2⟩ | e
  ·cases e2;exact⟨x.2,u,c,rfl,by omega,old k1,k2,λb' u' c' lt e'=>k3 b' u' c' lt (new (by omega) e')⟩
  ·obtain⟨b,u,c,q1,q2,q3,q4,q5⟩:=I.bk i t o hi e;have:=(gM q3).1;exact⟨b,u,c,q1,q2,old q3,q4,λb' u' c' lt e'=>q5 b' u' c' lt (new (by omega) e')⟩
theorem FW:∀(k:Nat) (F:Fan),FanI es cs p H t0 F->es.length<F.length+k->FanI es cs p H t0 (Bs es cs p H k F)/\Sy es cs p H (Bs es cs p H k F)
 | 0,F,I,h=>by have:=I.len;omega
 | k+1,F,I,h=>by
   unfold Bs;cases hz:Ax es cs p H F with
   | none=>exact⟨I,LJ hz⟩
   | some x=>exact FW k _ (I.snoc hz) (by rw[VB];simp;omega)
end
def upF(F:Fan):Nat->Option Nat->List Nat
 | _,none=>[]
 | 0,some _=>[]
 | k+1,some i=>match F[i]? with
   | none=>[]
   | some x=>x.1::upF F k x.2
def Lnk(es:EE)(cs:List Nat)(p H:Nat)(F:Fan)(m:Nat):Prop:=∀(i t b u:Nat) (c:Option Nat),i<=m->F[i]?=some (t,some b)->F[b]?=some (u,c)->hu cs t∈frL es cs (farT es p u) H
section
variable{n H p t0 m:Nat}{es:EE}{cs ds:List Nat}{F:Fan}
theorem R0(I:FanI es cs p H t0 F)(L:Lnk es ds p H F m):∀(k i:Nat),i<k->i<=m->i<F.length->(upF F k (some i)).getLast?=some t0/\(upF F k (some i))[0]?=(F[i]?).map (·.1)/\(∀ w∈upF F k (some i),∃ j x,j<=i/\F[j]?=some x/\x.1=w)/\(upF F k (some i)).Nodup/\∀(j a b:Nat),(upF F k (some i))[j]?=some b->(upF F k (some i))[j+1]?=some a->hu ds b∈frL es ds (farT es p a) H
 | 0,i,h,_,_=>by omega
 | k+1,i,h,hm,hi=>by
   obtain⟨x,hx⟩:∃ x,F[i]?=some x:=⟨_,VE hi⟩
   have e:upF F (k+1) (some i)=x.1::upF F k x.2:=by
    show(match F[i]? with | none=>[] | some x=>x.1::upF F k x.2)=_;rw[hx]
   rw[e];by_cases z:i=0
   ·subst z;rw[I.fst]at hx;cases hx;have e2:upF F k none=[]:=by cases k<;>rfl
    rw[e2,I.fst];refine⟨rfl,rfl,λw hw=>⟨0,_,VH _,I.fst,(VU.mp hw).symm⟩,by simp,λj a b h1 h2=>?_⟩;simp at h2
   ·obtain⟨t,o⟩:=x;obtain⟨b,u,c,rfl,bi,hb,_,_⟩:=I.bk i t o (by omega) hx;have bl:=(gM hb).1;obtain⟨k1,k2,k3,k4,k5⟩:=R0 I L k b (by omega) (by omega) bl;refine⟨?_,by rw[hx];rfl,λw hw=>?_,?_,λj a b' h1 h2=>?_⟩
    ·show(t::upF F k (some b)).getLast?=_;have ne:upF F k (some b)≠[]:=λz=>by rw[z]at k1;cases k1
     rw[List.getLast?_cons,k1];rfl
    ·rcases VW.mp hw with z | z
     ·exact⟨i,_,VH _,hx,z.symm⟩
     ·obtain⟨j,y,j1,j2,j3⟩:=k3 w z;exact⟨j,y,by omega,j2,j3⟩
    ·refine Vz.mpr ⟨λhw=>?_,k4⟩;obtain⟨j,y,j1,j2,j3⟩:=k3 _ hw;have m1:(F.map (·.1))[j]?=some t:=by rw[VI,j2];exact congrArg some j3
     have m2:(F.map (·.1))[i]?=some t:=by rw[VI,hx];rfl
     have:=(Y9 ((gM m1).1) I.nd).mp (m1.trans m2.symm);omega
    ·cases j with
     | zero=>
       have e1:t=b':=by simpa using h1
       have h2:(upF F k (some b))[0]?=some a:=by simpa using h2
       rw[k2,hb]at h2;have e2:u=a:=by simpa using h2
       rw[<-e1,<-e2];exact L i t b u c hm hx hb
     | succ j=>exact k5 j a b' (by simpa using h1) (by simpa using h2)
theorem Em(hen:∀ e∈es,e.1<e.2/\e.2<n)(hH:H<=1000)(I:FanI es cs p H t0 F)(g:Hg H es ds)(b0:hu ds t0=1000+t0){i h:Nat}{x:Nat×Option Nat}(hx:F[i]?=some x)(L:Lnk es ds p H F i)(h1:h∈frL es ds p H)(h2:h∈frL es ds (farT es p x.1) H):OkR3 n H es ds (AX (upF F (i+1) (some i)).reverse h)/\LF H es ds (AI es ds (AX (upF F (i+1) (some i)).reverse h)) t0:=by
 have il:=(gM hx).1;obtain⟨k1,k2,k3,k4,k5⟩:=R0 I L (i+1) i (by omega) (VH _) il;generalize upF F (i+1) (some i)=U at *;have hW:U.reverse.head?=some t0:=by rw[List.head?_reverse];exact k1
 obtain⟨r,hr⟩:∃ r,U.reverse=t0::r:=by
  cases hc:U.reverse with
  | nil=>rw[hc]at hW;cases hW
  | cons a r=>rw[hc]at hW;cases hW;exact⟨r,rfl⟩
 rw[hr]
 have mem:∀ w∈t0::r,AtP es w p:=λw hw=>by
  rw[<-hr,List.mem_reverse]at hw;obtain⟨j,y,_,j2,rfl⟩:=k3 w hw;exact I.att y (VC j2)
 have lastd:(t0::r).getLastD 0=x.1:=by
  have e:(t0::r).getLast?=some x.1:=by
   rw[<-hr,List.getLast?_reverse,List.head?_eq_getElem?,k2,hx];rfl
  rw[XS,e];rfl
 refine HF hen hH r t0 ds g (by rw[<-hr];exact(List.reverse_perm U).nodup_iff.mpr k4) mem b0 (λk a b z1 z2=>?_) h1 (by rw[lastd];exact h2);rw[<-hr]at z1 z2;have zl:k+1<U.length:=by have:=(gM z2).1;rwa [X5]at this
 rw[List.getElem?_reverse (by omega)]at z1 z2;refine k5 (U.length - 1 - (k+1)) a b z2 ?_;rw[show U.length - 1 - (k+1)+1=U.length - 1 - k by omega];exact z1
end
def RwB(es:EE)(cs:List Nat)(a b p:Nat)(r:List Nat)(x:Nat):Prop:=∀ t∈r,∀ y,AtP es t y->y=p\/y=x\/((∃ u,AtP es u y/\hu cs u=a)/\∃ u,AtP es u y/\hu cs u=b)
section
variable{n H:Nat}{es:EE}{cs:List Nat}{a b p:Nat}
theorem RwB.step{r:List Nat}{x one other t:Nat}{e:Nat×Nat}(R:RwI es cs a b p r x one other)(I:RwB es cs a b p r x)(he:es[t]?=some e)(hx:e.1=x\/e.2=x)(ht:hu cs t=one):RwB es cs a b p (r++[t]) (y0 e x):=by
 have ax:AtP es t x:=⟨e,he,hx⟩
 have both:r≠[]->(∃ u,AtP es u x/\hu cs u=a)/\∃ u,AtP es u x/\hu cs u=b:=λrn=>by
  have hl:r.getLast?=some (r.getLast rn):=Wr rn;have gi:r[r.length - 1]?=some (r.getLast rn):=by rw[<-X3];exact hl
  have l1:=R.lst _ hl;have l2:=R.alt _ _ gi;have rl:0<r.length:=List.length_pos_iff.mpr rn;have d1:=R.d1;by_cases z:r.length % 2=0
  ·rw[iP z]at d1;rw[iG (by omega)]at l2;exact⟨⟨t,ax,ht.trans d1⟩,_,l1,l2⟩
  ·rw[iG z]at d1;rw[iP (by omega)]at l2;exact⟨⟨_,l1,l2⟩,t,ax,ht.trans d1⟩
 intro u hu' y hy;rcases VY.mp hu' with z | z
 ·rcases I u z y hy with q | q | q
  ·exact .inl q
  ·rw[q];exact .inr (.inr (both (List.ne_nil_of_mem z)))
  ·exact .inr (.inr q)
 ·rw[VU.mp z]at hy
  have f:y=x\/y=y0 e x:=by
   obtain⟨e',he',hy⟩:=hy;rw[he]at he';cases he';unfold y0;rcases hx with hx | hx<;>rcases hy with hy | hy<;>split<;>omega
  rcases f with f | f
  ·by_cases rn:r=[]
   ·exact .inl (f.trans (R.beg rn))
   ·rw[f];exact .inr (.inr (both rn))
  ·exact .inr (.inl f)
theorem R1(P:Prp es cs)(hen:∀ e∈es,e.1<e.2/\e.2<n)(ab:a≠b):∀(k:Nat) (r:List Nat) (x one other:Nat),RwI es cs a b p r x one other->RwB es cs a b p r x->∃ x',RwB es cs a b p (r++rwF es cs k x one other) x'
 | 0,r,x,one,other,R,I=>⟨x,by unfold rwF;rw[Vy];exact I⟩
 | k+1,r,x,one,other,R,I=>by
   unfold rwF;cases ht:m8 es cs x one with
   | none=>exact⟨x,by simpa using I⟩
   | some t=>
     obtain⟨⟨e,he,hx⟩,hc⟩:=m7 ht;have ge:es.getD t (0,0)=e:=by rw[VD,he];rfl
     dsimp only;rw[ge];have R':=R.step P ab he hx (VT (hen e (VC he)).1) hc;obtain⟨x',I'⟩:=R1 P hen ab k _ _ _ _ R' (I.step R he hx hc);exact⟨x',by simpa using I'⟩
end
def T6(es:EE)(cs:List Nat)(p H:Nat)(F:Fan):Prop:=∀ x∈F,∀ h∈frL es cs p H,h∉frL es cs (farT es p x.1) H
section
variable{n H p t0 own c k0 u0:Nat}{o0:Option Nat}{es:EE}{cs:List Nat}{F:Fan}
theorem QA(hen:∀ e∈es,e.1<e.2/\e.2<n)(hH:H<=1000)(g:Hg H es cs)(I:FanI es cs p H t0 F)(no:T6 es cs p H F)(ho:own∈frL es cs p H)
 (h0:F[k0]?=some (u0,o0)) (hc:c∈frL es cs (farT es p u0) H) (min:∀(k u:Nat) (o:Option Nat),k<k0->F[k]?=some (u,o)->c∉frL es cs (farT es p u) H)
 {z:Nat×Option Nat} (hz:z∈F) (hcz:c∈frL es cs (farT es p z.1) H) (zf:farT es p z.1≠farT es p u0):
 Ok3 n H es cs (.row (farT es p u0) own c)/\(∃(i:Nat) (x:Nat×Option Nat) (h:Nat),F[i]?=some x/\h∈frL es (st3 es cs (.row (farT es p u0) own c)) p H/\h∈frL es (st3 es cs (.row (farT es p u0) own c)) (farT es p x.1) H)/\
 ∀(i:Nat) (x:Nat×Option Nat) (h:Nat),F[i]?=some x->h∈frL es (st3 es cs (.row (farT es p u0) own c)) p H->h∈frL es (st3 es cs (.row (farT es p u0) own c)) (farT es p x.1) H->(∀(i':Nat) (x':Nat×Option Nat),i'<i->F[i']?=some x'->∀ h'∈frL es (st3 es cs (.row (farT es p u0) own c)) p H,h'∉frL es (st3 es cs (.row (farT es p u0) own c)) (farT es p x'.1) H)->Lnk es (st3 es cs (.row (farT es p u0) own c)) p H F i:=by
 have a0:=I.att _ (VC h0);have az:=I.att _ hz;have fn:=Ci hen a0;have zn:=Ci hen az;obtain⟨cH,fc⟩:=mem_frL.mp hc;obtain⟨oH,fo⟩:=mem_frL.mp ho;have oc:own≠c:=λe=>no _ (VC h0) own ho (e▸hc);have ok:Ok3 n H es cs (.row (farT es p u0) own c):=⟨oH,cH,oc,fn.2,fc⟩
 refine⟨ok,?_⟩;generalize hf:farT es p u0=f at *;obtain⟨x',o1,o2,R,last⟩:=Bo g.P hen oc fc;obtain⟨xe,B⟩:=R1 (p:=f) g.P hen oc (es.length+1) [] f own c (RwI.nil fc) (λ_ h=>nomatch h);rw[Xn]at B;have two:=CP R;have hr:∀ u,u<es.length->hu (st3 es cs (.row f own c)) u=if u∈rwF es cs (es.length+1) f own c then (if hu cs u=own then c else own) else hu cs u:=λu ul=>D5 g ul
 have ff:own∈frL es (st3 es cs (.row f own c)) f H:=mem_frL.mpr ⟨oH,λu hu' q=>by
  rw[hr u hu'.lt]at q;by_cases m:u∈rwF es cs (es.length+1) f own c
  ·rw[iP m]at q;rcases two u m with y | y
   ·rw[iP y]at q;exact oc q.symm
   ·exact fc u hu' y
  ·rw[iG m]at q;cases ht:m8 es cs f own with
   | none=>exact AB ht u hu' q
   | some t1=>
     obtain⟨at1,hc1⟩:=m7 ht;have:=g.P.one u t1 f hu' at1 (q.trans hc1.symm);subst this;apply m;unfold rwF;rw[ht];exact VQ ..⟩
 have fr:∀ h y,h≠own->h≠c->h∈frL es cs y H->h∈frL es (st3 es cs (.row f own c)) y H:=λh y n1 n2 hh=>by
  obtain⟨q1,q2⟩:=mem_frL.mp hh;refine mem_frL.mpr ⟨q1,λu hu' q=>?_⟩;rw[hr u hu'.lt]at q;split at q
  ·split at q
   ·exact n2 q.symm
   ·exact n1 q.symm
  ·exact q2 u hu' q
 have un:∀ h y,(∀ u,u∈rwF es cs (es.length+1) f own c->¬ AtP es u y)->h∈frL es cs y H->h∈frL es (st3 es cs (.row f own c)) y H:=λh y nt hh=>by
  obtain⟨q1,q2⟩:=mem_frL.mp hh;refine mem_frL.mpr ⟨q1,λu hu' q=>?_⟩;rw[hr u hu'.lt,iG (λm=>nt u m hu')]at q;exact q2 u hu' q
 have at':∀{i t:Nat} {o:Option Nat},F[i]?=some (t,o)->AtP es t p:=λ{i t o} e=>I.att _ (VC e)
 have bk:∀(i t b u:Nat) (q:Option Nat),F[i]?=some (t,some b)->F[b]?=some (u,q)->b<i/\hu cs t∈frL es cs (farT es p u) H/\∀(b' u':Nat) (c':Option Nat),b'<b->F[b']?=some (u',c')->hu cs t∉frL es cs (farT es p u') H:=λi t b u q e1 e2=>by
  have i0:0<i:=XN λz=>by rw[z,I.fst]at e1;cases e1
  obtain⟨b2,u2,q2,e3,k1,k2,k3,k4⟩:=I.bk i t _ i0 e1;cases e3;rw[e2]at k2;cases k2;exact⟨k1,k3,k4⟩
 by_cases tch:∃ u,u∈rwF es cs (es.length+1) f own c/\AtP es u p
 ·obtain⟨u1,m1,at1⟩:=tch;have hu1:hu cs u1=c:=(two u1 m1).resolve_left (fo u1 at1)
  have px:p=xe:=by
   rcases B u1 m1 p at1 with q | q | q
   ·exact absurd q.symm fn.1
   ·exact q
   ·obtain⟨⟨v,v1,v2⟩,_⟩:=q;exact absurd v2 (fo v v1)
  have cp:c∈frL es (st3 es cs (.row f own c)) p H:=mem_frL.mpr ⟨cH,λu hu' q=>by
   rw[hr u hu'.lt]at q;by_cases m:u∈rwF es cs (es.length+1) f own c
   ·rw[iP m,iG (fo u hu')]at q;exact oc q
   ·rw[iG m]at q;exact m (g.P.one u u1 p hu' at1 (q.trans hu1.symm)▸m1)⟩
  obtain⟨j,hj⟩:=WY hz;refine⟨⟨j,z,c,hj,cp,un c _ (λu hu' aty=>?_) hcz⟩,λi x h hi _ _ _ i' t b u q hi' e1 e2=>?_⟩
  ·rcases B u hu' _ aty with q | q | q
   ·exact zf q
   ·exact zn.1 (q.trans px.symm)
   ·obtain⟨_,v,v1,v2⟩:=q;exact(mem_frL.mp hcz).2 v v1 v2
  ·obtain⟨bi,k1,k2⟩:=bk i' t b u q e1 e2;rw[hr t (at' e1).lt];by_cases m:t∈rwF es cs (es.length+1) f own c
   ·have tc:hu cs t=c:=(two t m).resolve_left (fo t (at' e1));rw[iP m,iG (by rw[tc];exact oc.symm)];rw[tc]at k1 k2
    have bk0:b=k0:=by
     rcases Nat.lt_trichotomy b k0 with y | y | y
     ·exact absurd k1 (min b u q y e2)
     ·exact y
     ·exact absurd hc (hf▸k2 k0 u0 o0 y h0)
    rw[bk0,h0]at e2;cases e2;rw[hf];exact ff
   ·rw[iG m];refine fr _ _ (fo t (at' e1)) (λy=>m ?_) k1;exact g.P.one t u1 p (at' e1) at1 (y.trans hu1.symm)▸m1
 ·have nt:∀ u,u∈rwF es cs (es.length+1) f own c->¬ AtP es u p:=λu m q=>tch ⟨u,m,q⟩;have op:=un own p nt ho;refine⟨⟨k0,_,own,h0,op,by rw[hf];exact ff⟩,λi x h hi _ _ mn i' t b u q hi' e1 e2=>?_⟩;have ik:i<=k0:=YH λy=>mn k0 _ y h0 own op (by rw[hf];exact ff);obtain⟨bi,k1,k2⟩:=bk i' t b u q e1 e2;rw[hr t (at' e1).lt,iG (λm=>nt t m (at' e1))];exact fr _ _ (fo t (at' e1)) (λy=>min b u q (by omega) e2 (y▸k1)) k1
end
theorem Jt{f:Nat->Nat}{k:Nat}:∀(Y ts:List Nat),(∀ t∈ts,f t∈Y)->(∀ y∈Y,(ts.filter λt=>decide (f t=y)).length<=k)->ts.length<=Y.length * k
 | [],ts,h,_=>by
   cases ts with
   | nil=>simp
   | cons t ts=>exact absurd (h t (VQ ..)) (by simp)
 | y::Y,ts,h,hk=>by
   have ih:=Jt Y (ts.filter λt=>!decide (f t=y)) (λt ht=>by
    obtain⟨h1,h2⟩:=W1.mp ht;rcases VW.mp (h t h1) with z | z
    ·rw[z]at h2;simp at h2
    ·exact z) (λy' hy'=>by
    refine Vc ?_ (hk y' (VL _ hy'));rw[X7];refine List.Sublist.length_le ?_
    have:(ts.filter λt=>decide (f t=y')&&!decide (f t=y))=(ts.filter λt=>decide (f t=y')).filter λt=>!decide (f t=y):=by
     rw[X7];exact XX λt _=>Bool.and_comm ..
    rw[this];exact List.filter_sublist)
   have e:=hk y (VQ ..);have s:=Hue.len_split (λ_=>true) (λt=>decide (f t=y)) ts;simp only[XZ]at s;have e0:(ts.filter λ_=>true).length=ts.length:=by rw[Y0.mpr (λ_ _=>rfl)]
   rw[Vb,X0];omega
theorem QB{es:EE}{cs:List Nat}(p H:Nat):H<=(frL es cs p H).length+m6 es p:=by
 have s:=Hue.len_split (λ_=>true) (λh=>(m8 es cs p h).isNone) (VN H);simp only[XZ]at s;have e0:((VN H).filter λ_=>true).length=H:=by rw[Y0.mpr (λ_ _=>rfl),Vs]
 have f:∀ h∈(VN H).filter λh=>!(m8 es cs p h).isNone,AtP es ((m8 es cs p h).getD 0) p/\hu cs ((m8 es cs p h).getD 0)=h:=λh hh=>by
  have:=(W1.mp hh).2;cases ht:m8 es cs p h with
  | none=>rw[ht]at this;cases this
  | some u=>exact m7 ht
 have nd:(((VN H).filter λh=>!(m8 es cs p h).isNone).map λh=>(m8 es cs p h).getD 0).Nodup:=by
  rw[List.Nodup,XA];refine List.Pairwise.imp_of_mem (λ{a b} ha hb ne e=>ne ?_) (X1.filter _);rw[<-(f a ha).2,<-(f b hb).2,e]
 have sub:=List.Nodup.length_le_of_subset nd (l₂:=g8 es p es.length) λu hu'=>by
  obtain⟨h,hh,rfl⟩:=VZ.mp hu';exact mem_tiesAt.mpr (f h hh).1
 rw[VA]at sub;have:m6 es p=(g8 es p es.length).length:=rfl;show H<=((VN H).filter λh=>(m8 es cs p h).isNone).length+_;omega
theorem LK{n p y th:Nat}{es:EE}(hen:∀ e∈es,e.1<e.2/\e.2<n)(hth:∀ e,es.count e<=th){ts:List Nat}(nd:ts.Nodup)(at':∀ t∈ts,AtP es t p):(ts.filter λt=>decide (farT es p t=y)).length<=th:=by
 refine Vc ?_ (hth (if p<y then (p,y) else (y,p)))
 have e1:∀ t∈ts.filter λt=>decide (farT es p t=y),es[t]?=some (if p<y then (p,y) else (y,p)):=λt ht=>by
  obtain⟨h1,h2⟩:=W1.mp ht;have h2:=of_decide_eq_true h2;obtain⟨e,he,hp⟩:=at' t h1;have:=hen e (VC he);rw[he];unfold farT y0 at h2;rw[show es.getD t (0,0)=e by rw[VD,he];rfl]at h2
  congr 1
  obtain⟨e1,e2⟩:=e;dsimp only at *;split at h2<;>split<;>(first | (congr 1<;>omega) | (exfalso;omega))
 generalize (if p<y then (p,y) else (y,p))=e at *
 have cnt:es.count e=((VN es.length).filter λt=>decide (es[t]?=some e)).length:=by
  have:(VN es.length).map (λt=>es.getD t (0,0))=es:=by
   apply Wm;intro i;rw[VI];by_cases h:i<es.length
   ·rw[W2 h,VE h];show some (es.getD i (0,0))=_;rw[VD,VE h];rfl
   ·rw[Vu (by rw[Vs];omega),Vu (by omega)];rfl
  conv=>lhs;rw[<-this]
  rw[List.count,List.countP_map,XB]
  congr 1
  refine XX λt ht=>?_;have tl:=Va.mp ht;show(es.getD t (0,0) == e)=_;rw[VD,VE tl];show(es[t] == e)=_;rw[Vv];simp
 rw[cnt];exact List.Nodup.length_le_of_subset (nd.filter _) λt ht=>W1.mpr ⟨Va.mpr (gM (e1 t ht)).1,decide_eq_true (e1 t ht)⟩
theorem Ju{α:Type}{f:Nat->List α}{k:Nat}:∀(Y:List Nat),(∀ y∈Y,k<=(f y).length)->Y.length * k<=(Y.flatMap f).length
 | [],_=>by simp
 | y::Y,h=>by
   rw[XY,VB,Vb,X0];have:=h y (VQ ..);have:=Ju Y λy' hy'=>h y' (VL _ hy');omega
theorem Jv{f:Nat->List Nat}:∀(Y:List Nat),Y.Nodup->(∀ y∈Y,(f y).Nodup)->(∀ y∈Y,∀ z∈Y,∀ c,c∈f y->c∈f z->y=z)->(Y.flatMap f).Nodup
 | [],_,_,_=>by simp
 | y::Y,nd,h1,h2=>by
   obtain⟨n1,n2⟩:=Vz.mp nd;rw[XY,Wk];refine⟨h1 y (VQ ..),Jv Y n2 (λz hz=>h1 z (VL _ hz)) (λa ha b hb=>h2 a (VL _ ha) b (VL _ hb)),λa ha b hb e=>?_⟩;obtain⟨z,hz,hb⟩:=Xg.mp hb;subst e;exact n1 (h2 y (VQ ..) z (VL _ hz) a ha hb▸hz)
theorem R3:∀ L:List Nat,∃ Y:List Nat,Y.Nodup/\∀ y,y∈Y↔y∈L
 | []=>⟨[],.nil,λ_=>Iff.rfl⟩
 | a::L=>by
   obtain⟨Y,h1,h2⟩:=R3 L;by_cases m:a∈Y
   ·refine⟨Y,h1,λy=>?_⟩;rw[VW,h2];exact⟨.inr,λz=>z.elim (λe=>e▸(h2 a).mp m) id⟩
   ·refine⟨a::Y,Vz.mpr ⟨m,h1⟩,λy=>?_⟩;rw[VW,VW,h2]
theorem viz{n H p t0 th:Nat}{es:EE}{cs:List Nat}{F:Fan}(hen:∀ e∈es,e.1<e.2/\e.2<n)(hH:H<=1000)(I:FanI es cs p H t0 F)(M:Sy es cs p H F)(no:T6 es cs p H F)(b0:¬ hu cs t0<1000)(hc:∀ y,y<n->m6 es y+th<=H)(hth:∀ e,es.count e<=th)
 (un:∀ x∈F,∀ y∈F,∀ c,c∈frL es cs (farT es p x.1) H->c∈frL es cs (farT es p y.1) H->farT es p x.1=farT es p y.1):False:=by
 obtain⟨Y,ndY,memY'⟩:=R3 (F.map λx=>farT es p x.1);have memY:∀ y,y∈Y↔∃ x∈F,farT es p x.1=y:=λy=>by rw[memY',VZ]
 have lenF:F.length<=Y.length * th:=by
  have:=Jt (f:=farT es p) (k:=th) Y (F.map (·.1)) (λt ht=>by
   obtain⟨x,hx,rfl⟩:=VZ.mp ht;exact(memY _).mpr ⟨x,hx,rfl⟩) (λy hy=>LK hen hth I.nd λt ht=>by
   obtain⟨x,hx,rfl⟩:=VZ.mp ht;exact I.att x hx)
  rwa [VA]at this
 have lenL:=Ju (f:=λy=>frL es cs y H) (k:=th) Y λy hy=>by
  obtain⟨x,hx,rfl⟩:=(memY y).mp hy;have:=QB (es:=es) (cs:=cs) (farT es p x.1) H;have:=hc _ (Ci hen (I.att x hx)).2;omega
 have ndL:=Jv (f:=λy=>frL es cs y H) Y ndY (λy _=>X1.filter _) λa ha b hb c h1 h2=>by
  obtain⟨x,hx,rfl⟩:=(memY a).mp ha;obtain⟨y,hy,rfl⟩:=(memY b).mp hb;exact un x hx y hy c h1 h2
 have inL:∀ c∈Y.flatMap λy=>frL es cs y H,∃ u,m8 es cs p c=some u/\u∈F.map (·.1)/\u≠t0:=λc hc'=>by
  obtain⟨y,hy,hcy⟩:=Xg.mp hc';obtain⟨x,hx,rfl⟩:=(memY y).mp hy;have cH:=(mem_frL.mp hcy).1;cases ht:m8 es cs p c with
  | none=>exact absurd hcy (no x hx c (mem_frL.mpr ⟨cH,AB ht⟩))
  | some u=>
    obtain⟨q1,q2⟩:=m7 ht;refine⟨u,rfl,?_,λz=>by rw[z]at q2;omega⟩;by_cases m:u∈F.map (·.1)
    ·exact m
    ·exact absurd (q2▸hcy) (M u q1 m x hx)
 have nd2:(t0::(Y.flatMap λy=>frL es cs y H).map λc=>(m8 es cs p c).getD 0).Nodup:=by
  rw[Vz];refine⟨λz=>?_,?_⟩
  ·obtain⟨c,hc',e⟩:=VZ.mp z;obtain⟨u,u1,_,u3⟩:=inL c hc';rw[u1]at e;exact u3 e
  ·rw[List.Nodup,XA];refine List.Pairwise.imp_of_mem (λ{a b} ha hb ne e=>ne ?_) ndL;obtain⟨u,u1,_,_⟩:=inL a ha;obtain⟨v,v1,_,_⟩:=inL b hb;rw[u1,v1]at e;have e:u=v:=e;rw[<-(m7 u1).2,<-(m7 v1).2,e]
 have sub:=List.Nodup.length_le_of_subset nd2 (l₂:=F.map (·.1)) λu hu'=>by
  rcases VW.mp hu' with z | z
  ·rw[z];exact VZ.mpr ⟨_,VC I.fst,rfl⟩
  ·obtain⟨c,hc',rfl⟩:=VZ.mp z;obtain⟨u,u1,u2,_⟩:=inL c hc';rw[u1];exact u2
 rw[Vb,VA,VA]at sub;omega
def t7(L:EE)(h:Nat):Option Nat:=(L.find? λq=>decide (q.2=h)).map (·.1)
def shL(es:EE)(cs:List Nat)(p H:Nat)(F:Fan):EE:=F.flatMap λx=>(frL es cs (farT es p x.1) H).map λh=>(farT es p x.1,h)
def v6(es:EE)(cs:List Nat)(p H:Nat)(F:Fan):Option (Nat×Nat):=((shL es cs p H F).find? λq=>!decide (t7 (shL es cs p H F) q.2=some q.1)).bind λq=>(t7 (shL es cs p H F) q.2).map λf=>(q.2,f)
def Dm(es:EE)(cs:List Nat)(p H:Nat)(F:Fan)(i:Nat):List Nat:=(frL es cs p H).filter λh=>decide (h∈frL es cs (farT es p (F.getD i (0,none)).1) H)
def t3(es:EE)(cs:List Nat)(p H:Nat)(F:Fan):Option (List Sp3):=(VN F.length).findSome? λi=>(Dm es cs p H F i).head?.map λh=>AX (upF F (i+1) (some i)).reverse h
noncomputable def Am(es:EE)(cs:List Nat)(t H:Nat):List Sp3:=
 match t3 es cs (es.getD t (0,0)).1 H (Bs es cs (es.getD t (0,0)).1 H (es.length+1) [(t,none)]) with
 | some s=>s
 | none=>match v6 es cs (es.getD t (0,0)).1 H (Bs es cs (es.getD t (0,0)).1 H (es.length+1) [(t,none)]) with
   | none=>[]
   | some x => .row x.2 ((frL es cs (es.getD t (0,0)).1 H).headD 0) x.1::(t3 es (st3 es cs (.row x.2 ((frL es cs (es.getD t (0,0)).1 H).headD 0) x.1)) (es.getD t (0,0)).1 H (Bs es cs (es.getD t (0,0)).1 H (es.length+1) [(t,none)])).getD []
section
variable{n H p t0:Nat}{es:EE}{cs ds:List Nat}{F:Fan}
theorem AZ(L M:EE)(h:Nat):t7 (L++M) h=(t7 L h).or (t7 M h):=by
 unfold t7;rw[XW];cases L.find? λq=>decide (q.2=h)<;>simp
theorem Nk{f h:Nat}(l:List Nat):t7 (l.map λh=>(f,h)) h=if h∈l then some f else none:=by
 unfold t7;rw[List.find?_map];by_cases m:h∈l
 ·rw[iP m];cases hf:l.find? ((λq:Nat×Nat=>decide (q.2=h))∘λh=>(f,h)) with
  | none=>
    rw[WJ]at hf;exact absurd (decide_eq_true rfl) (hf h m)
  | some x=>rfl
 ·rw[iG m]
  have:l.find? ((λq:Nat×Nat=>decide (q.2=h))∘λh=>(f,h))=none:=by
   rw[WJ];intro x hx z;exact m (of_decide_eq_true (show decide (x=h)=true from z)▸hx)
  rw[this];rfl
theorem Nl(h:Nat):∀ F:Fan,t7 (shL es cs p H F) h=(F.find? λx=>decide (h∈frL es cs (farT es p x.1) H)).map λx=>farT es p x.1
 | []=>rfl
 | x::F=>by
   show t7 ((frL es cs (farT es p x.1) H).map (λh=>(farT es p x.1,h))++shL es cs p H F) h=_;rw[AZ,Nk,Nl h F,Vh];by_cases m:h∈frL es cs (farT es p x.1) H
   ·rw[iP m,decide_eq_true m];rfl
   ·rw[iG m,decide_eq_false m];rfl
theorem mem_sh{q:Nat×Nat}:q∈shL es cs p H F↔∃ x∈F,farT es p x.1=q.1/\q.2∈frL es cs (farT es p x.1) H:=by
 unfold shL;rw[Xg];constructor
 ·rintro⟨x,hx,hq⟩;obtain⟨h,hh,rfl⟩:=VZ.mp hq;exact⟨x,hx,rfl,hh⟩
 ·rintro⟨x,hx,e,hh⟩;exact⟨x,hx,VZ.mpr ⟨_,hh,by rw[e]⟩⟩
theorem HG{x:Nat×Nat}(h:v6 es cs p H F=some x):∃(k0 u0:Nat) (o0:Option Nat),F[k0]?=some (u0,o0)/\x.1∈frL es cs (farT es p u0) H/\farT es p u0=x.2/\(∀(k u:Nat) (o:Option Nat),k<k0->F[k]?=some (u,o)->x.1∉frL es cs (farT es p u) H)/\∃ z∈F,x.1∈frL es cs (farT es p z.1) H/\farT es p z.1≠farT es p u0:=by
 unfold v6 at h;cases hq:(shL es cs p H F).find? λq=>!decide (t7 (shL es cs p H F) q.2=some q.1) with
 | none=>rw[hq]at h;cases h
 | some q=>
   rw[hq]at h;replace h:(t7 (shL es cs p H F) q.2).map (λf=>(q.2,f))=some x:=h;cases ho:t7 (shL es cs p H F) q.2 with
   | none=>rw[ho]at h;cases h
   | some f=>
     rw[ho]at h;cases h;have nq:=YS hq;rw[ho]at nq;have nq:f≠q.1:=by simpa using nq
     obtain⟨z,hz,z1,z2⟩:=mem_sh.mp (X2 hq);rw[Nl]at ho;cases hx:F.find? λx=>decide (q.2∈frL es cs (farT es p x.1) H) with
     | none=>rw[hx]at ho;cases ho
     | some x0=>
       rw[hx]at ho;have ef:farT es p x0.1=f:=oj ho;obtain⟨a1,i,il,ei,mn⟩:=List.find?_eq_some_iff_getElem.mp hx;refine⟨i,x0.1,x0.2,by rw[VE il,ei],of_decide_eq_true a1,ef,λk u o hk e=>?_,z,hz,z2,?_⟩
       ·have:=mn k hk;obtain⟨kl,e⟩:=gM e;rw[e]at this;simpa using this
       ·rw[z1,ef];exact nq.symm
theorem HH(h:v6 es cs p H F=none):∀ x∈F,∀ y∈F,∀ c,c∈frL es cs (farT es p x.1) H->c∈frL es cs (farT es p y.1) H->farT es p x.1=farT es p y.1:=by
 have all:∀ q∈shL es cs p H F,t7 (shL es cs p H F) q.2=some q.1:=λq hq=>by
  unfold v6 at h;cases hf:(shL es cs p H F).find? λq=>!decide (t7 (shL es cs p H F) q.2=some q.1) with
  | none=>
    rw[WJ]at hf;simpa using hf q hq
  | some q'=>
    rw[hf]at h;replace h:(t7 (shL es cs p H F) q'.2).map (λf=>(q'.2,f))=none:=h;have m:=X2 hf
    have nn:t7 (shL es cs p H F) q'.2≠none:=λz=>by
     unfold t7 at z;rw[WR,WJ]at z;exact z q' m (decide_eq_true rfl)
    cases ho:t7 (shL es cs p H F) q'.2 with
    | none=>exact absurd ho nn
    | some f=>rw[ho]at h;cases h
 intro x hx y hy c h1 h2;have e1:=all (farT es p x.1,c) (mem_sh.mpr ⟨x,hx,rfl,h1⟩);have e2:=all (farT es p y.1,c) (mem_sh.mpr ⟨y,hy,rfl,h2⟩);exact oj (e1.symm.trans e2)
theorem HI{β:Type}{f:Nat->Option β}{y:β}:∀{m:Nat},(VN m).findSome? f=some y->∃ i,i<m/\f i=some y/\∀ j,j<i->f j=none
 | 0,h=>by cases h
 | m+1,h=>by
   rw[WG,List.findSome?_append]at h;cases hm:(VN m).findSome? f with
   | some z=>
     rw[hm]at h;cases h;obtain⟨i,i1,i2,i3⟩:=HI hm;exact⟨i,by omega,i2,i3⟩
   | none=>
     rw[hm]at h
     have h:f m=some y:=by
      cases hf:f m with
      | none=>simp[hf]at h
      | some z=>simpa[hf] using h
     rw[WU]at hm;exact⟨m,by omega,h,λj hj=>hm j (Va.mpr hj)⟩
theorem Do{i h:Nat}{x:Nat×Option Nat}(e:F[i]?=some x):h∈Dm es cs p H F i↔h∈frL es cs p H/\h∈frL es cs (farT es p x.1) H:=by
 unfold Dm;rw[W1,dQ,show F.getD i (0,none)=x by rw[VD,e];rfl]
theorem Bd{s:List Sp3}(h:t3 es ds p H F=some s):∃(i:Nat) (x:Nat×Option Nat) (h:Nat),F[i]?=some x/\h∈frL es ds p H/\h∈frL es ds (farT es p x.1) H/\s=AX (upF F (i+1) (some i)).reverse h/\∀(i':Nat) (x':Nat×Option Nat),i'<i->F[i']?=some x'->∀ h'∈frL es ds p H,h'∉frL es ds (farT es p x'.1) H:=by
 obtain⟨i,il,e1,e2⟩:=HI h;have ei:=VE il;cases hs:(Dm es ds p H F i).head? with
 | none=>rw[hs]at e1;cases e1
 | some h'=>
   rw[hs]at e1;have m:h'∈Dm es ds p H F i:=List.mem_of_head? hs;obtain⟨m1,m2⟩:=(Do ei).mp m;refine⟨i,_,h',ei,m1,m2,(oj e1).symm,λi' x' hi' e' h2 k1 k2=>?_⟩;have:=e2 i' hi';rw[WR,Xm]at this;have q:=(Do e').mpr ⟨k1,k2⟩;rw[this]at q;cases q
theorem Cp(h:t3 es ds p H F=none):T6 es ds p H F:=by
 unfold t3 at h;rw[WU]at h;intro x hx h1 m1 m2;obtain⟨i,ei⟩:=WY hx;have:=h i (Va.mpr (gM ei).1);rw[WR,Xm]at this;have q:=(Do ei).mpr ⟨m1,m2⟩;rw[this]at q;cases q
theorem Dp{th t:Nat}(hen:∀ e∈es,e.1<e.2/\e.2<n)(hH:H<=1000)(g:Hg H es cs)(tl:t<es.length)(b0:¬ hu cs t<1000)(hc:∀ y,y<n->m6 es y+th<=H)(hth:∀ e,es.count e<=th)(hp:p=(es.getD t (0,0)).1)(hF:F=Bs es cs p H (es.length+1) [(t,none)]):
 FanI es cs p H t F/\((∃ s,t3 es cs p H F=some s/\OkR3 n H es cs s/\LF H es cs (AI es cs s) t)\/
 (t3 es cs p H F=none/\frL es cs p H≠[]/\∃ x s,v6 es cs p H F=some x/\Ok3 n H es cs (.row x.2 ((frL es cs p H).headD 0) x.1)/\t3 es (st3 es cs (.row x.2 ((frL es cs p H).headD 0) x.1)) p H F=some s/\OkR3 n H es (st3 es cs (.row x.2 ((frL es cs p H).headD 0) x.1)) s/\LF H es cs (AI es (st3 es cs (.row x.2 ((frL es cs p H).headD 0) x.1)) s) t)):=by
 obtain⟨e,he⟩:∃ e,es[t]?=some e:=⟨_,VE tl⟩
 have ge:es.getD t (0,0)=e:=by rw[VD,he];rfl
 have at0:AtP es t p:=⟨e,he,.inl (by rw[hp,ge])⟩
 have en:=hen e (VC he);have pn:p<n:=by rw[hp,ge];omega
 obtain⟨I,M⟩:=FW (es:=es) (cs:=cs) (p:=p) (H:=H) (t0:=t) (es.length+1) [(t,none)] (FanI.one at0) (by show es.length<1+(es.length+1);omega);rw[<-hF]at I M;have bare:=g.bare tl b0 hH;refine⟨I,?_⟩
 have lnk:∀ m,Lnk es cs p H F m:=λm i t' b u q hi e1 e2=>by
  have i0:0<i:=XN λz=>by rw[z,I.fst]at e1;cases e1
  obtain⟨b2,u2,q2,e3,k1,k2,k3,k4⟩:=I.bk i t' _ i0 e1;cases e3;rw[e2]at k2;cases k2;exact k3
 cases ht:t3 es cs p H F with
 | some s=>
   obtain⟨i,x,h,e1,m1,m2,rfl,_⟩:=Bd ht;exact .inl ⟨_,rfl,Em hen hH I g bare e1 (lnk i) m1 m2⟩
 | none=>
   have no:=Cp ht;have nn:=Q8 (p:=p) hH at0 b0 (by have:=hc p pn;omega);refine .inr ⟨rfl,nn,?_⟩;cases hs:v6 es cs p H F with
   | none=>exact(viz hen hH I M no b0 hc hth (HH hs)).elim
   | some x=>
     obtain⟨k0,u0,o0,h0,c0,ef,mn,z,hz,cz,zf⟩:=HG hs;obtain⟨ok,⟨i,y,h,q1,q2,q3⟩,L⟩:=QA hen hH g I no (Nd nn) h0 c0 mn hz cz zf;rw[ef]at ok q2 q3 L;have g1:=C6 g hen hH ok
     have hr:∀ u,u<es.length->(hu (st3 es cs (.row x.2 ((frL es cs p H).headD 0) x.1)) u<H↔hu cs u<H)/\(¬ hu cs u<1000->hu (st3 es cs (.row x.2 ((frL es cs p H).headD 0) x.1)) u=hu cs u):=λu ul=>by
      obtain⟨aH,bH,ab,_,fb⟩:=ok;obtain⟨x',o1,o2,R,last⟩:=Bo g.P hen ab fb;show(hu (exL cs _ _ _) u<H↔_)/\(_->hu (exL cs _ _ _) u=_);rw[D5 g ul];by_cases m:u∈rwF es cs (es.length+1) x.2 ((frL es cs p H).headD 0) x.1
      ·rw[iP m];have tw:=CP R u m;have lt:hu cs u<H:=by rcases tw with y | y<;>rw[y]<;>assumption
       refine⟨⟨λ_=>lt,λ_=>by split<;>assumption⟩,λz=>by omega⟩
      ·rw[iG m];exact⟨Iff.rfl,λ_=>rfl⟩
     have bare1:hu (st3 es cs (.row x.2 ((frL es cs p H).headD 0) x.1)) t=1000+t:=((hr t tl).2 b0).trans bare;cases ht1:t3 es (st3 es cs (.row x.2 ((frL es cs p H).headD 0) x.1)) p H F with
     | none=>exact absurd q3 (Cp ht1 y (VC q1) h q2)
     | some s=>
       obtain⟨i2,x2,h2,e1,m1,m2,rfl,mn2⟩:=Bd ht1;obtain⟨r1,r2,r3⟩:=Em hen hH I g1 bare1 e1 (L i2 x2 h2 e1 m1 m2 mn2) m1 m2;refine⟨x,_,rfl,ok,ht1,r1,r2,λu ul ne=>?_⟩;rw[r3 u ul ne];exact(hr u ul).1
theorem En{th t:Nat}(hen:∀ e∈es,e.1<e.2/\e.2<n)(hH:H<=1000)(g:Hg H es cs)(tl:t<es.length)(b0:¬ hu cs t<1000)(hc:∀ y,y<n->m6 es y+th<=H)(hth:∀ e,es.count e<=th):OkR3 n H es cs (Am es cs t H)/\LF H es cs (AI es cs (Am es cs t H)) t:=by
 obtain⟨_,k⟩:=Dp hen hH g tl b0 hc hth rfl rfl;unfold Am;rcases k with⟨s,e,r⟩ | ⟨e,_,x,s,e1,ok,e2,r1,r2⟩
 ·rw[e];exact r
 ·rw[e];dsimp only;rw[e1];dsimp only;rw[e2];exact⟨⟨ok,r1⟩,r2⟩
end
def v7:Sp3->SV
 | .hue t h => .tup [.str "hue",.int (t:Nat),.int (h:Nat)]
 | .move t u => .tup [.str "move",.int (t:Nat),.int (u:Nat)]
 | .row p a b => .tup [.str "row",.int (p:Nat),.int (a:Nat),.int (b:Nat)]
def IsTh(es:EE)(m:Nat):Prop:=(∀ e,es.count e<=m)/\(m=0\/∃ e,e∈es/\es.count e=m)
theorem IsTh.uniq{es:EE}{m k:Nat}(a:IsTh es m)(b:IsTh es k):m=k:=by
 have le:∀{m k:Nat},IsTh es m->IsTh es k->m<=k:=λ{m k} a b=>by
  rcases a.2 with z | ⟨e,_,z⟩
  ·omega
  ·rw[<-z];exact b.1 e
 exact Nat.le_antisymm (le a b) (le b a)
theorem FX{es:EE}{m:Nat}(h:IsTh es m):m<=es.length:=by
 rcases h.2 with z | ⟨e,_,z⟩
 ·omega
 ·rw[<-z];exact List.count_le_length
theorem QC{es ks:EE}{m:Nat}(mem:∀ e,e∈ks↔e∈es)(h:Grt (ks.map λe=>((es.count e:Nat):Int)) (m:Int)):IsTh es m:=by
 obtain⟨h1,h2⟩:=h;obtain⟨e,he,ee⟩:=VZ.mp h1;refine⟨λe'=>?_,.inr ⟨e,(mem e).mp he,by omega⟩⟩;by_cases z:e'∈es
 ·have:=h2 _ (VZ.mpr ⟨e',(mem e').mpr z,rfl⟩);omega
 ·rw[XO.mpr z];omega
theorem HJ:IsTh [] 0:=⟨λe=>by simp,.inl rfl⟩
section
variable{Δ:Nat->Sn}
def AN(s:Sn)(args:Nat->Nat->Nat->List SV):Prop:=∀{n H p a b:Nat} {w:SV} {es:EE} {cs:List Nat} {S:Sto} {Q:QE},Hg H es cs->(∀ e∈es,e.1<e.2/\e.2<n)->es.length<=60->H<=1000->Ok3 n H es cs (.row p a b)->Hv S w cs->(∀(l:Nat) (S':Sto),Gw S S'->S.length<=l->S'[l]?=some (.lst (c8 (st3 es cs (.row p a b))))->Q (.loc l) S')->s (i5 n es::w::args p a b) S Q
theorem Nm{kh kr kx:Nat}(hh:Q4 (Δ kh))(hr:Bc (Δ kr))(hx:FU (Δ kx)){D:Df}(hb:D.body=Qx kh kr kx)(hN:D.N.length=5)(hp:D.ps.length=5):AN (f7 Δ D) λp a b=>[.int (p:Nat),.int (a:Nat),.int (b:Nat)]:=by
 intro n H p a b w es cs S Q g hen el hH ok hk q;have ok':=ok;obtain⟨a1,b1,ab,pn,no⟩:=ok;obtain⟨x,o1,o2,R,last⟩:=Bo g.P hen ab no;have rl:=R.len;unfold f7;rw[hb,hN];have gd:∀ c:Nat,c<H->Gd (VS S) 0 10 (.int (c:Nat)):=λc hc => .int ⟨by omega,by omega⟩;have i0:∀ c:Nat,Su (.int (c:Nat))=true:=λc=>(show decide ((0:Int)<=((c:Nat):Int))=true from decide_eq_true (by omega))
 refine⟨hp.symm,_,rfl,hh (gd _ a1) ⟨_,rfl,?_⟩⟩;rw[i0];refine ifF rfl ⟨_,rfl,hh (gd _ b1) ⟨_,rfl,?_⟩⟩;rw[i0];refine ifF rfl (c4 ?_);refine⟨_,rfl,_,rfl,_,rfl,_,rfl,_,rfl,_,rfl,_,rfl,hr hk (by omega) (by omega) g.P hen (by omega) pn ab no λl S1 G1 l1 h1=>⟨_,rfl,_,rfl,?_⟩⟩;exact hx (hk.gw G1) (by omega) (by omega) h1 g.P.len hen el ab R.lt (CP R) (by omega) (C6 g hen hH ok').P λl' S2 G2 l2 h2=>q l' S2 (G1.trans G2) (Vc G1.len l2) h2
theorem LL{kh kd km kr:Nat}(hr:AN (Δ kr) λp a b=>[.int (p:Nat),.int (a:Nat),.int (b:Nat)]){D:Df}(hb:D.body=NZ kh kd km kr)(hN:D.N.length=4)(hp:D.ps.length=3):AN (f7 Δ D) λp a b=>[v7 (.row p a b)]:=by
 intro n H p a b w es cs S Q g hen el hH ok hk q;unfold f7;rw[hb,hN];have no:∀ w:Str,w≠"row"->decide (("row":Str)=w)=false:=λw h=>decide_eq_false λz=>h z.symm;refine⟨hp.symm,_,rfl,_,nofun,rfl,_,rfl,ifF rfl ⟨_,rfl,true,rfl,ifF rfl (c4 ?_)⟩⟩;refine⟨_,rfl,_,_,rfl,rfl,?_⟩;refine⟨_,rfl,_,rfl,ifF (no "hue" (by decide)) (ifF rfl (c4 ?_))⟩;refine⟨_,rfl,_,rfl,ifF (no "drop" (by decide)) (ifF rfl (c4 ?_))⟩;refine⟨_,rfl,_,rfl,ifF (no "move" (by decide)) (ifF rfl (c4 ?_))⟩;refine⟨_,rfl,_,rfl,ifT (decide_eq_true rfl) ⟨_,rfl,_,rfl,_,rfl,ifT rfl ?_⟩⟩;exact⟨_,rfl,_,rfl,_,rfl,_,_,rfl,rfl,_,rfl,_,_,rfl,rfl,_,rfl,_,_,rfl,rfl,hr g hen el hH ok hk q⟩
theorem Nn{ka:Nat}(ha:AN (Δ ka) λp a b=>[v7 (.row p a b)]){D:Df}(hb:D.body=Qy ka)(hN:D.N.length=4)(hp:D.ps.length=3):AN (f7 Δ D) λp a b=>[v7 (.row p a b)]:=by
 intro n H p a b w es cs S Q g hen el hH ok hk q;unfold f7;rw[hb,hN];refine⟨hp.symm,_,rfl,_,rfl,_,rfl,ha g hen el hH ok hk λl S' G' l' h'=>?_⟩;exact⟨_,rfl,.inl ⟨rfl,_,rfl,ifF rfl (c4 ⟨_,rfl,q l S' G' l' h'⟩)⟩⟩
def No:List Stm:=[(.asg (.nm 1) .dnewl),(.loop (.nm 2) (.seq (.ix (.var 0) (.c (.int 1)))) [(.dputl (.var 1) (.var 2) (.op .Add (.dget2l (.var 1) (.var 2) (.c (.int 0))) (.c (.int 1))))]),(.ret (.maxd (.dvalsl (.var 1)) (.c (.int 0))))]
def B8(s:Sn):Prop:=∀{n:Nat} {es:EE} {S:Sto} {Q:QE},es.length<=1000->(∀(m:Nat) (S':Sto),IsTh es m->Gw S S'->Q (.int (m:Nat)) S')->s [i5 n es] S Q
def Bt(e:Nat×Nat):List Int:=[(e.1:Int),(e.2:Int)]
theorem Dq{a b:Nat×Nat}(h:Bt a=Bt b):a=b:=by
 unfold Bt at h;injection h with h1 h2;injection h2 with h2 _;exact Prod.ext (Vm.mp h1) (Vm.mp h2)
def C7(es ks:EE):List (List Int×SV):=ks.map λe=>(Bt e,SV.int ((es.count e:Nat):Int))
theorem HK{es:EE}(e:Nat×Nat):∀ ks:EE,DQ (C7 es ks) (Bt e)=if e∈ks then some (SV.int ((es.count e:Nat):Int)) else none
 | []=>rfl
 | k::ks=>by
   unfold C7 DQ;rw[Vk,Vh];by_cases z:k=e
   ·subst z;rw[decide_eq_true rfl,iP (VQ ..)];rfl
   ·rw[decide_eq_false (λy=>z (Dq y))];have:=HK (es:=es) e ks;unfold C7 DQ at this;dsimp only;rw[this];by_cases m:e∈ks
    ·rw[iP m,iP (VL _ m)]
    ·rw[iG m,iG (λy=>(VW.mp y).elim (λq=>z q.symm) m)]
theorem QD{es:EE}(e:Nat×Nat)(ks:EE):(C7 es ks).any (λp=>decide (p.1=Bt e))=decide (e∈ks):=by
 unfold C7;rw[XE,Vv,Wc,dQ];constructor
 ·rintro⟨x,hx,z⟩;exact Dq (of_decide_eq_true z)▸hx
 ·exact λh=>⟨e,h,decide_eq_true rfl⟩
theorem QF{es:EE}{e:Nat×Nat}{ks:EE}(mem:∀ e,e∈ks↔e∈es):EW (C7 es ks) (Bt e) (.int (((es.count e:Nat):Int)+1))=C7 (es++[e]) (if e∈ks then ks else ks++[e]):=by
 have c1:∀ k,(es++[e]).count k=es.count k+if k=e then 1 else 0:=λk=>by
  rw[YF,List.count_singleton];by_cases z:k=e
  ·subst z;simp
  ·rw[iG z,iG (by simpa using λy=>z y.symm)]
 unfold EW;rw[QD];by_cases m:e∈ks
 ·rw[iP (decide_eq_true m),iP m];unfold C7;rw[XF];refine XD λk _=>?_;show(if Bt k=Bt e then (Bt k,_) else (Bt k,_))=_;rw[c1];by_cases z:k=e
  ·subst z;rw[iP rfl,iP rfl];rfl
  ·rw[iG (λy=>z (Dq y)),iG z];rfl
 ·rw[iG (by simpa using m),iG m];unfold C7;rw[VR]
  congr 1
  ·refine XD λk hk=>?_;rw[c1,iG (show ¬ k=e from λz=>m (z▸hk))];rfl
  ·show[(Bt e,SV.int (((es.count e:Nat):Int)+1))]=[(Bt e,SV.int (((es++[e]).count e:Nat):Int))]
   rw[c1,iP rfl];rfl
theorem Np(hΔ:∀ f,MonoN (Δ f)){D:Df}(hb:D.body=No)(hN:D.N.length=3)(hp:D.ps.length=1):B8 (f7 Δ D):=by
 intro n es S Q el q;unfold f7;rw[hb,hN];have G0:Gw S (S++[SO.dtl []]):=(Gw.refl S).push;refine⟨hp.symm,_,rfl,_,_,rfl,rfl,_,rfl,?_⟩;refine v4 (g9 hΔ _) (λi ρ S'=>∃(ks:EE) (o2:Option SV),ρ=[some (i5 n es),some (.loc S.length),o2]/\Gw S S'/\S'[S.length]?=some (.dtl (C7 (es.take i) ks))/\ks.length<=i/\∀ e,e∈ks↔e∈es.take i) ⟨[],none,rfl,G0,a8,VH _,λe=>by simp⟩ (λ_ _ _ _=>trivial) ?_ ?_
 ·rintro i x ρ S' hx ⟨ks,o2,rfl,G,h1,kl,mem⟩;obtain⟨e,he,rfl⟩:=A8 hx;have il:=(gM he).1;have tk:es.take (i+1)=es.take i++[e]:=by rw[Vl,he];rfl
  refine⟨_,rfl,_,_,rfl,h1,_,rfl,Bt e,_,rfl,h1,?_⟩
  rw[show(DQ (C7 (es.take i) ks) (Bt e)).getD (SV.int 0)=SV.int (((es.take i).count e:Nat):Int) by
   rw[HK];by_cases m:e∈ks
   ·rw[iP m];rfl
   ·rw[iG m,XO.mpr (λz=>m ((mem e).mpr z))];rfl]
  refine⟨_,rfl,_,rfl,S.length,Bt e,_,rfl,rfl,h1,by unfold C7;rw[VA];show _<100000;omega,if e∈ks then ks else ks++[e],_,rfl,G.put (VH _),?_,?_,λe'=>?_⟩
  ·rw[n6 h1,tk,<-QF mem]
  ·split
   ·omega
   ·rw[VB];simp;omega
  ·rw[tk,VY,VU,<-mem];split
   ·next m=>exact⟨.inl,λz=>z.elim id λy=>y▸m⟩
   ·rw[VY,VU]
 ·rintro ρ S' ⟨ks,o2,rfl,G,h1,kl,mem⟩;rw[VA,Vf]at h1 mem
  have hv:(S'++[SO.lst ((C7 es ks).map (·.2))])[S'.length]?=some (SO.lst ((ks.map λe=>((es.count e:Nat):Int)).map SV.int)):=by
   rw[a8];unfold C7;rw[XF,XF];rfl
  refine⟨_,rfl,_,_,rfl,h1,S'.length,_,0,rfl,rfl,hv,λz=>?_,λm g=>?_⟩
  ·have kn:ks=[]:=by simpa using z
   have en:es=[]:=by
    cases es with
    | nil=>rfl
    | cons e es=>
      have:=(mem e).mpr (VQ ..);rw[kn]at this;cases this
   exact q 0 _ (by rw[en];exact HJ) G.push
  ·obtain⟨e,he,ee⟩:=VZ.mp g.1
   have key:∀ z:Nat,m=(z:Int)->Q (.int m) (S'++[SO.lst ((C7 es ks).map (·.2))]):=λz e=>by
    rw[e]at g ⊢;exact q z _ (QC mem g) G.push
   exact key _ ee.symm
def Jw(km kt:Nat):List Stm:=[(.ret (.op .Add (.call km (.cons (.var 0) .nil)) (.call kt (.cons (.var 0) .nil))))]
def Dr(s:Sn):Prop:=∀{n:Nat} {es:EE} {S:Sto} {Q:QE},(∀ e∈es,e.1<e.2/\e.2<n)->n<=1000->es.length<=1000->(∀(m:Nat) (S':Sto),IsTh es m->Gw S S'->Q (.int ((mostN es n+m:Nat):Int)) S')->s [i5 n es] S Q
theorem LM{km kt:Nat}(hm:Ic (Δ km))(ht:B8 (Δ kt)){D:Df}(hb:D.body=Jw km kt)(hN:D.N.length=1)(hp:D.ps.length=1):Dr (f7 Δ D):=by
 intro n es S Q hen nn el q;unfold f7;rw[hb,hN];refine⟨hp.symm,_,rfl,hm hen nn λS1 G1=>⟨_,rfl,ht el λm S2 h2 G2=>?_⟩⟩;have:=q m S2 h2 (G1.trans G2);rw[Int.natCast_add]at this;exact this
def R4(ke:Nat):List Stm:=[(.iff (.cmp .Lt (.var 1) (.call ke (.cons (.var 0) .nil))) [.no] [])]
def Ij(s:Sn):Prop:=∀{n H m:Nat} {es:EE} {S:Sto} {Q:QE},(∀ e∈es,e.1<e.2/\e.2<n)->n<=1000->es.length<=1000->IsTh es m->mostN es n+m<=H->(∀ S',Gw S S'->Q .non S')->s [i5 n es,.int (H:Nat)] S Q
theorem QG{ke:Nat}(he:Dr (Δ ke)){D:Df}(hb:D.body=R4 ke)(hN:D.N.length=2)(hp:D.ps.length=2):Ij (f7 Δ D):=by
 intro n H m es S Q hen nn el hm hH q;unfold f7;rw[hb,hN];refine⟨hp.symm,_,rfl,_,rfl,he hen nn el λm' S1 h1 G1=>⟨_,rfl,ifF (decide_eq_false ?_) (q S1 G1)⟩⟩;have:=h1.uniq hm;omega
end
def v9(x:Nat×Option Nat):SV := .tup [.int (x.1:Nat),HC x.2]
def Nq:Option (Nat×Option Nat)->SV
 | none => .non
 | some x=>v9 x
def pnd(r:Option (Nat×Nat)):Option (Nat×Option Nat):=r.map λx=>(x.1,some x.2)
theorem FY{F:Fan}{i:Nat}{x:SV}(h:(F.map v9)[i]?=some x):∃ y,F[i]?=some y/\x=v9 y:=by
 rw[VI]at h;cases he:F[i]? with
 | none=>rw[he]at h;cases h
 | some e=>rw[he]at h;exact⟨e,rfl,(oj h).symm⟩
theorem D6{F:Fan}{i:Nat}{y:Nat×Option Nat}(h:F[i]?=some y):(F.map v9)[i]?=some (v9 y):=by rw[VI,h];rfl
theorem Uf{c:Nat}{L:List Nat}(h:∀ x∈L,x<1000):inS (pS c) (f6 L)=decide (c∈L):=by
 by_cases z:c<1000
 ·rw[n8 z];exact Dh c L
 ·rw[u8 z,decide_eq_false (λm=>z (h c m))];unfold inS f6;rw[XE,Y7];intro x _ q;cases q
theorem Ug(c:Nat):y8 (pS c)=true:=by
 by_cases z:c<1000
 ·rw[n8 z];rfl
 ·rw[u8 z];rfl
theorem T7{es:EE}{cs:List Nat}{p H:Nat}(hH:H<=1000):∀ x∈frL es cs p H,x<1000:=λx hx=>by have:=(mem_frL.mp hx).1;omega
section
variable{Δ:Nat->Sn}
def nf1:Stm:=(.asg (.nm 4) (.comp ["tie","back"] [] [] (.tup (.cons (.nm 0) (.cons (.nm 1) .nil))) (.seq (.var 1)) .no (.var 0)))
def nfI:List Stm:=[(.iff (.cmp .In (.ix (.var 0) (.var 5)) (.var 7)) [(.ret (.tup (.cons (.var 5) (.cons (.var 6) .nil))))] [])]
def nfO:List Stm:=[(.iff (.cmp .NotIn (.var 5) (.var 4)) [(.loop (.tup (.cons (.nm 6) (.cons (.nm 7) .nil))) (.enum (.var 3)) nfI)] [])]
def R5:List Stm:=[nf1,(.loop (.nm 5) (.seq (.var 2)) nfO),(.ret (.c .non))]
def FrA(S:Sto)(es:EE)(cs:List Nat)(p H:Nat)(F:Fan)(ls:List Nat):Prop:=ls.length=F.length/\∀(i l:Nat) (x:Nat×Option Nat),ls[i]?=some l->F[i]?=some x->S[l]?=some (.lst (f6 (frL es cs (farT es p x.1) H)))
theorem FrA.gw{S S':Sto}{es:EE}{cs:List Nat}{p H:Nat}{F:Fan}{ls:List Nat}(h:FrA S es cs p H F ls)(G:Gw S S'):FrA S' es cs p H F ls:=⟨h.1,λi l x a b=>G.keep _ _ (h.2 i l x a b)⟩
def Ik(s:Sn):Prop:=∀{p H kf ka kr:Nat} {w:SV} {es:EE} {cs ls:List Nat} {F:Fan} {S:Sto} {Q:QE},Hv S w cs->cs.length=es.length->es.length<=60->H<=1000->S[kf]?=some (.lst (F.map v9))->F.length<=60->S[ka]?=some (.lst (f6 (g8 es p es.length)))->S[kr]?=some (.lst (ls.map SV.loc))->FrA S es cs p H F ls->(∀ S',Gw S S'->Q (Nq (pnd (Ax es cs p H F))) S')->s [w,.loc kf,.loc ka,.loc kr] S Q
theorem QH(hΔ:∀ f,MonoN (Δ f)){D:Df}(hb:D.body=R5)(hN:D.N.length=8)(hp:D.ps.length=4):Ik (f7 Δ D):=by
 intro p H kf ka kr w es cs ls F S Q hw cl el hH hF fl ha hr A q;unfold f7;rw[hb,hN];refine⟨hp.symm,_,rfl,_,a7 hF,?_⟩;refine i4 (j6 hΔ _).2 (a5 hΔ _).1 (λj ys S2=>S2=S/\ys=f6 ((F.map (·.1)).take j)) ⟨rfl,rfl⟩ (λ_ _ _ z=>by rw[z.1];exact rfl) ?_ ?_
 ·rintro j x ys S2 hx ⟨rfl,rfl⟩;obtain⟨y,hy,rfl⟩:=FY hx;have jl:=(gM hy).1;refine⟨_,rfl,by rw[j8,Vr,VA];show _<100000;omega,rfl,?_⟩;rw[Vl,VI,hy,t9];rfl
 rintro ys S2 ⟨rfl,rfl⟩;rw[VA,show(F.map (·.1)).take F.length=F.map (·.1) by rw[<-VA (f:=(·.1)),Vf]];have G1:Gw S2 (S2++[SO.lst (f6 (F.map (·.1)))]):=(Gw.refl S2).push;have h4:(S2++[SO.lst (f6 (F.map (·.1)))])[S2.length]?=some (SO.lst (f6 (F.map (·.1)))):=a8;have hw1:=hw.gw G1;have ha1:=G1.keep _ _ ha;have hr1:=G1.keep _ _ hr;have A1:=A.gw G1;show wSs Δ [(.loop (.nm 5) (.seq (.var 2)) nfO),(.ret (.c .non))] (w9 Q) [some w,some (.loc kf),some (.loc ka),some (.loc kr),some (.loc S2.length),none,none,none] (S2++[SO.lst (f6 (F.map (·.1)))]);generalize S2++[SO.lst (f6 (F.map (·.1)))]=S1 at *;generalize S2.length=k4 at *;refine⟨_,rfl,_,a7 ha1,?_⟩;refine r6 (g9 hΔ _) (λj ρ S3=>S3=S1/\(∃ o5 o6 o7:Option SV,ρ=[some w,some (.loc kf),some (.loc ka),some (.loc kr),some (.loc k4),o5,o6,o7])/\∀ u∈(g8 es p es.length).take j,(if u∈F.map (·.1) then none else (AY cs u (frs es cs p H F)).map λb=>(u,b))=none) ⟨rfl,⟨none,none,none,rfl⟩,λu hu'=>by simp at hu'⟩ (λ_ _ _ z=>by rw[z.1];exact rfl) ?_ ?_
 ·rintro j x ρ S3 E hE hR hx ⟨rfl,⟨o5,o6,o7,rfl⟩,no⟩;obtain⟨t,htj,rfl⟩:=B6 hx;have tl:t<es.length:=let ⟨e,he,_⟩:=mem_tiesAt.mp (VC htj);(gM he).1
  have hc:=u7 (cs:=cs) (t:=t) (by omega)
  have nx:(if t∈F.map (·.1) then none else (AY cs t (frs es cs p H F)).map λb=>(t,b))=none->∀ u∈(g8 es p es.length).take (j+1),(if u∈F.map (·.1) then none else (AY cs u (frs es cs p H F)).map λb=>(u,b))=none:=λz u hu'=>by
   rw[Vl,htj]at hu';rcases VY.mp hu' with y | y
   ·exact no u y
   ·have:u=t:=by simpa using y
    rw[this];exact z
  refine⟨_,rfl,_,rfl,?_⟩;show match BP (.loc k4) S3 with | some ms=>_ | none=>_
  rw[At h4];refine⟨rfl,_,a7 h4,Av _,_,rfl,?_⟩;show if (!inS (.int (t:Nat)) (f6 (F.map (·.1))))=true then _ else _
  rw[Dh];by_cases m:t∈F.map (·.1)
  ·rw[decide_eq_true m];exact ifF rfl (c4 (hE _ _ ⟨rfl,⟨_,_,_,rfl⟩,nx (iP m)⟩))
  ·rw[decide_eq_false m];refine ifT rfl ⟨_,rfl,_,a7 hr1,?_⟩;rw[iG m]at nx;refine r6 (g9 hΔ _) (λj2 ρ S4=>S4=S3/\(∃ o6 o7:Option SV,ρ=[some w,some (.loc kf),some (.loc ka),some (.loc kr),some (.loc k4),some (.int (t:Nat)),o6,o7])/\∀ l∈(frs es cs p H F).take j2,decide (hu cs t∈l)=false) ⟨rfl,⟨_,_,rfl⟩,λu hu'=>by simp at hu'⟩ (λ_ _ _ z=>by rw[z.1];exact rfl) ?_ ?_
   ·rintro j2 x2 ρ2 S4 E2 hE2 hR2 hx2 ⟨rfl,⟨o6,o7,rfl⟩,no2⟩;obtain⟨y2,hy2,rfl⟩:=BZ hx2;rw[VI]at hy2;cases hl:ls[j2]? with
    | none=>rw[hl]at hy2;cases hy2
    | some l=>
      rw[hl]at hy2;cases hy2;have jl:=(gM hl).1;have hFj:=VE (show j2<F.length by rw[<-A1.1];exact jl);have hl':=A1.2 j2 l _ hl hFj;refine⟨_,rfl,_,rfl,_,_,hw1.seq,f8 (p0 hc),_,rfl,?_⟩;show match BP (.loc l) S4 with | some ms=>_ | none=>_
      rw[At hl'];refine⟨Ug _,_,a7 hl',Av _,_,rfl,?_⟩;show if inS (pS (hu cs t)) (f6 (frL es cs (farT es p (F[j2]'(by rw[<-A1.1];exact jl)).1) H))=true then _ else _
      rw[Uf (T7 hH)];have ef:(frs es cs p H F)[j2]?=some (frL es cs (farT es p (F[j2]'(by rw[<-A1.1];exact jl)).1) H):=by unfold frs;rw[VI,hFj];rfl
      refine ifD (λz=>?_) (λz=>c4 (hE2 _ _ ⟨rfl,⟨_,_,rfl⟩,λl' hl2=>?_⟩))
      ·refine⟨_,rfl,_,rfl,by show 2<=100000;decide,hR2 _ _ (hR _ _ ?_)⟩
       have e1:AY cs t (frs es cs p H F)=some j2:=by
        unfold AY;refine X9.mpr ⟨(gM ef).1,?_,λk hk z2=>?_⟩
        ·rw[(gM ef).2];exact decide_eq_true z
        ·have kl:k<(frs es cs p H F).length:=by have:=(gM ef).1;omega
         have:=no2 (frs es cs p H F)[k] (List.mem_take_iff_getElem.mpr ⟨k,by omega,rfl⟩);rw[this]at z2;cases z2
       have e2:Ax es cs p H F=some (t,j2):=Nj htj (by rw[iG m,e1];rfl) no;have:=q S4 G1;rw[e2]at this;exact this
      ·rw[Vl,ef]at hl2;rcases VY.mp hl2 with y | y
       ·exact no2 l' y
       ·have:l'=frL es cs (farT es p (F[j2]'(by rw[<-A1.1];exact jl)).1) H:=by simpa using y
        rw[this];exact decide_eq_false z
   ·rintro ρ2 S4 ⟨rfl,⟨o6,o7,rfl⟩,no2⟩;refine hE _ _ ⟨rfl,⟨_,_,_,rfl⟩,nx ?_⟩;rw[Bm,VA,A1.1,show(frs es cs p H F).take F.length=frs es cs p H F by rw[<-VA (f:=λx:Nat×Option Nat=>frL es cs (farT es p x.1) H) (as:=F)];exact Vf]at no2
    have:AY cs t (frs es cs p H F)=none:=by
     unfold AY;rw[XR];exact no2
    rw[this];rfl
 ·rintro ρ S3 ⟨rfl,⟨o5,o6,o7,rfl⟩,no⟩;rw[j8,Vf]at no
  have e:Ax es cs p H F=none:=by
   unfold Ax;rw[WU];exact no
  have:=q S3 G1;rw[e]at this;exact this
def fo1(kf:Nat):List Stm:=[(.expr (.call kf (.cons (.var 0) (.cons (.var 2) (.cons (.var 3) .nil))))),(.iff (.cmp .IsNot (.ix (.var 1) (.var 2)) (.c .non)) [.no] [])]
def fo2(kt:Nat):List Stm:=[(.asg (.nm 5) (.call kt (.cons (.var 0) (.cons (.var 3) .nil)))),(.asg (.nm 6) (.lst .nil)),(.asg (.nm 7) (.lst .nil)),(.asg (.nm 8) (.tup (.cons (.var 2) (.cons (.c .non) .nil))))]
def foW(kf kr kn:Nat):List Stm:=[(.expr (.mt .append (.var 6) (.cons (.var 8) .nil))),(.asg (.nm 9) (.call kf (.cons (.var 0) (.cons (.ix (.var 8) (.c (.int 0))) (.cons (.var 3) .nil))))),(.expr (.mt .append (.var 7) (.cons (.call kr (.cons (.var 0) (.cons (.var 1) (.cons (.var 9) (.cons (.var 4) .nil))))) .nil))),(.asg (.nm 8) (.call kn (.cons (.var 1) (.cons (.var 6) (.cons (.var 5) (.cons (.var 7) .nil))))))]
def Nr(kf kt kr kn:Nat):List Stm:=fo1 kf++(fo2 kt++[(.whl (.cmp .IsNot (.var 8) (.c .non)) (foW kf kr kn)),(.ret (.var 6))])
def Nt(s:Sn):Prop:=∀{n H p t:Nat} {w:SV} {es:EE} {cs:List Nat} {S:Sto} {Q:QE},Hv S w cs->cs.length=es.length->(∀ e∈es,e.1<e.2/\e.2<n)->es.length<=60->H<=1000->AtP es t p->¬ hu cs t<1000->(∀(l:Nat) (S':Sto),Gw S S'->S'[l]?=some (.lst ((Bs es cs p H (es.length+1) [(t,none)]).map v9))->Q (.loc l) S')->s [i5 n es,w,.int (t:Nat),.int (p:Nat),.int (H:Nat)] S Q
theorem T8(hΔ:∀ f,MonoN (Δ f)){kf kt kr kn:Nat}(hf:Au (Δ kf))(ht:BY (Δ kt))(hr:Bp (Δ kr))(hn:Ik (Δ kn)){D:Df}(hb:D.body=Nr kf kt kr kn)(hN:D.N.length=10)(hp:D.ps.length=5):Nt (f7 Δ D):=by
 intro n H p t w es cs S Q hw cl hen el hH atp b0 q;obtain⟨e,he,hep⟩:=atp;have atp:AtP es t p:=⟨e,he,hep⟩
 have tl:=atp.lt;have pn:p<n:=by have:=hen e (VC he);omega
 have hc:=u7 (cs:=cs) (t:=t) (by omega);have hcp:(c8 cs)[t]?=some .non:=by rw[p0 hc,u8 b0]
 unfold f7;rw[hb,hN];refine⟨hp.symm,_,rfl,_,rfl,_,rfl,hf he (hep.imp Eq.symm Eq.symm) ?_⟩;refine⟨_,rfl,_,rfl,_,_,hw.seq,f8 hcp,.inl ⟨rfl,_,rfl,ifF rfl (c4 ?_)⟩⟩;refine⟨_,rfl,_,rfl,ht (by omega) pn ?_⟩;refine⟨by show 0<=100000;decide,by show 0<=100000;decide,_,rfl,by show 2<=100000;decide,?_⟩;have G0:Gw S (S++[SO.lst (f6 (g8 es p es.length))]++[SO.lst []]++[SO.lst []]):=(Gw.refl S).push.push.push;have c5:(S++[SO.lst (f6 (g8 es p es.length))]++[SO.lst []]++[SO.lst []])[S.length]?=some (SO.lst (f6 (g8 es p es.length))):=j4 (j4 a8);have e6:(S++[SO.lst (f6 (g8 es p es.length))]).length=S.length+1:=by simp
 have e7:(S++[SO.lst (f6 (g8 es p es.length))]++[SO.lst []]).length=S.length+2:=by simp
 have c6:(S++[SO.lst (f6 (g8 es p es.length))]++[SO.lst []]++[SO.lst []])[S.length+1]?=some (SO.lst []):=by rw[<-e6];exact j4 a8
 have c7:(S++[SO.lst (f6 (g8 es p es.length))]++[SO.lst []]++[SO.lst []])[S.length+2]?=some (SO.lst []):=by rw[<-e7];exact a8
 show wSs Δ [(.whl (.cmp .IsNot (.var 8) (.c .non)) (foW kf kr kn)),(.ret (.var 6))] (w9 Q) [some (i5 n es),some w,some (.int (t:Nat)),some (.int (p:Nat)),some (.int (H:Nat)),some (.loc S.length),some (.loc (S++[SO.lst (f6 (g8 es p es.length))]).length),some (.loc (S++[SO.lst (f6 (g8 es p es.length))]++[SO.lst []]).length),some (Nq (some (t,none))),none] (S++[SO.lst (f6 (g8 es p es.length))]++[SO.lst []]++[SO.lst []]);rw[e6,e7];generalize S++[SO.lst (f6 (g8 es p es.length))]++[SO.lst []]++[SO.lst []]=S0 at *;generalize hl:S.length=m0 at *;refine⟨λm ρ S'=>∃(G:Fan) (o:Option (Nat×Option Nat)) (ls:List Nat) (o9:Option SV),ρ=[some (i5 n es),some w,some (.int (t:Nat)),some (.int (p:Nat)),some (.int (H:Nat)),some (.loc m0),some (.loc (m0+1)),some (.loc (m0+2)),some (Nq o),o9]/\Gw S S'/\S'[m0]?=some (.lst (f6 (g8 es p es.length)))/\S'[m0+1]?=some (.lst (G.map v9))/\S'[m0+2]?=some (.lst (ls.map SV.loc))/\FrA S' es cs p H G ls/\(∀ l∈ls,m0+2<l)/\m+G.length=es.length+1/\match o with | none=>G=Bs es cs p H (es.length+1) [(t,none)] | some x=>FanI es cs p H t (G++[x])/\∃ k,es.length<(G++[x]).length+k/\Bs es cs p H k (G++[x])=Bs es cs p H (es.length+1) [(t,none)],⟨es.length+1,[],some (t,none),[],none,rfl,G0,c5,c6,c7,⟨rfl,λi l x z=>by simp at z⟩,(λ_ h=>nomatch h),rfl,FanI.one atp,es.length+1,by show es.length<1+(es.length+1);omega,rfl⟩,?_⟩;rintro m ρ S' ⟨G,o,ls,o9,rfl,GS,h5,h6,h7,A,lm,em,hm⟩;cases o with
 | none=>
   refine⟨_,rfl,.inl ⟨rfl,_,rfl,ifF rfl ⟨_,rfl,q _ S' GS ?_⟩⟩⟩;rw[h6,hm]
 | some x=>
   obtain⟨I,k,hk,ek⟩:=hm;have gl:=I.len;rw[VB]at gl hk;simp only[Vb,W6]at gl hk;obtain⟨ex,hex,hxp⟩:=I.att x (by simp);have fn:=Ci hen ⟨ex,hex,hxp⟩;have fe:y0 ex p=farT es p x.1:=by unfold farT;rw[show es.getD x.1 (0,0)=ex by rw[VD,hex];rfl]
   refine⟨_,rfl,.inl ⟨rfl,_,rfl,ifT rfl ?_⟩⟩;refine⟨_,rfl,⟨_,_,rfl,h6⟩,_,rfl,_,h6,by rw[VA];show _<100000;omega,?_⟩;have h61:(S'.set (m0+1) (.lst (G.map v9++[v9 x])))[m0+1]?=some (.lst ((G++[x]).map v9)):=by rw[n6 h6,VR];rfl
   have h51:(S'.set (m0+1) (.lst (G.map v9++[v9 x])))[m0]?=some (.lst (f6 (g8 es p es.length))):=by rw[AH (by omega)];exact h5
   have h71:(S'.set (m0+1) (.lst (G.map v9++[v9 x])))[m0+2]?=some (.lst (ls.map SV.loc)):=by rw[AH (by omega)];exact h7
   have GS1:Gw S (S'.set (m0+1) (.lst (G.map v9++[v9 x]))):=GS.put (by omega);have A1:FrA (S'.set (m0+1) (.lst (G.map v9++[v9 x]))) es cs p H G ls:=⟨A.1,λi l y a b=>by rw[AH (by have:=lm l (VC a);omega)];exact A.2 i l y a b⟩
   show wSs Δ [(.asg (.nm 9) (.call kf (.cons (.var 0) (.cons (.ix (.var 8) (.c (.int 0))) (.cons (.var 3) .nil))))),(.expr (.mt .append (.var 7) (.cons (.call kr (.cons (.var 0) (.cons (.var 1) (.cons (.var 9) (.cons (.var 4) .nil))))) .nil))),(.asg (.nm 8) (.call kn (.cons (.var 1) (.cons (.var 6) (.cons (.var 5) (.cons (.var 7) .nil))))))] _ [some (i5 n es),some w,some (.int (t:Nat)),some (.int (p:Nat)),some (.int (H:Nat)),some (.loc m0),some (.loc (m0+1)),some (.loc (m0+2)),some (v9 x),o9] (S'.set (m0+1) (.lst (G.map v9++[v9 x])));have s1l:m0+2<(S'.set (m0+1) (.lst (G.map v9++[v9 x]))).length:=(gM h71).1;generalize S'.set (m0+1) (.lst (G.map v9++[v9 x]))=S1 at *;refine⟨_,rfl,_,rfl,_,_,rfl,rfl,_,rfl,hf hex (hxp.imp Eq.symm Eq.symm) ?_⟩;rw[fe];refine⟨_,rfl,⟨_,_,rfl,h71⟩,_,rfl,_,rfl,_,rfl,_,rfl,hr (hw.gw GS1) cl el fn.2 hH λl2 S2 G2 l2l h2=>?_⟩;refine⟨_,G2.keep _ _ h71,by rw[VA,A.1];show _<100000;omega,?_⟩;have l2m:m0+2<l2:=by omega
   have h72:(S2.set (m0+2) (.lst (ls.map SV.loc++[.loc l2])))[m0+2]?=some (.lst ((ls++[l2]).map SV.loc)):=by rw[n6 (G2.keep _ _ h71),VR];rfl
   have h62:(S2.set (m0+2) (.lst (ls.map SV.loc++[.loc l2])))[m0+1]?=some (.lst ((G++[x]).map v9)):=by rw[AH (by omega)];exact G2.keep _ _ h61
   have h52:(S2.set (m0+2) (.lst (ls.map SV.loc++[.loc l2])))[m0]?=some (.lst (f6 (g8 es p es.length))):=by rw[AH (by omega)];exact G2.keep _ _ h51
   have GS2:Gw S (S2.set (m0+2) (.lst (ls.map SV.loc++[.loc l2]))):=(GS1.trans G2).put (by omega)
   have lm2:∀ l∈ls++[l2],m0+2<l:=λl hl=>by
    rcases VY.mp hl with z | z
    ·exact lm l z
    ·rw[VU.mp z];exact l2m
   have A2:FrA (S2.set (m0+2) (.lst (ls.map SV.loc++[.loc l2]))) es cs p H (G++[x]) (ls++[l2]):=⟨by rw[VB,VB,A.1];rfl,λi l y a b=>by
    rw[AH (by have:=lm2 l (VC a);omega)];rcases NQ a with⟨a1,a2⟩ | a
    ·rw[a1,A.1,Vd]at b;cases b;rw[a2];exact h2
    ·have il:=(gM a).1;rw[VP (by rw[<-A.1];exact il)]at b;exact G2.keep _ _ (A1.2 i l y a b)⟩
   show wSs Δ [(.asg (.nm 8) (.call kn (.cons (.var 1) (.cons (.var 6) (.cons (.var 5) (.cons (.var 7) .nil))))))] _ [some (i5 n es),some w,some (.int (t:Nat)),some (.int (p:Nat)),some (.int (H:Nat)),some (.loc m0),some (.loc (m0+1)),some (.loc (m0+2)),some (v9 x),some (.int (farT es p x.1:Nat))] (S2.set (m0+2) (.lst (ls.map SV.loc++[.loc l2])));generalize S2.set (m0+2) (.lst (ls.map SV.loc++[.loc l2]))=S3 at *;refine⟨_,rfl,_,rfl,_,rfl,_,rfl,hn (hw.gw GS2) cl el hH h62 (by rw[VB];simp;omega) h52 h72 A2 λS4 G4=>?_⟩;refine⟨es.length+1 - (G++[x]).length,by rw[VB];simp;omega,G++[x],pnd (Ax es cs p H (G++[x])),ls++[l2],_,rfl,GS2.trans G4,G4.keep _ _ h52,G4.keep _ _ h62,G4.keep _ _ h72,A2.gw G4,lm2,by rw[VB];simp;omega,?_⟩;obtain⟨k',rfl⟩:∃ k',k=k'+1:=⟨k - 1,by omega⟩
   unfold Bs at ek;cases hz:Ax es cs p H (G++[x]) with
   | none=>rw[hz]at ek;exact ek
   | some y=>
     rw[hz]at ek;exact⟨I.snoc hz,k',by rw[VB,VB];simp;omega,ek⟩
theorem QI{l:List Nat}(h:l≠[]):(f6 l)[0]?=some (.int (l.headD 0:Nat)):=by
 cases l with
 | nil=>exact absurd rfl h
 | cons a l=>rfl
end
theorem HL(h:Nat):∀(r:List Nat) (a:Nat),AX (a::r) h=(VN r.length).map (λk=>Sp3.move ((a::r).getD (k+1) 0) ((a::r).getD k 0))++[.hue ((a::r).getLastD 0) h]
 | [],a=>rfl
 | b::r,a=>by
   show Sp3.move b a::AX (b::r) h=_;rw[HL h r b,Vb,List.range_succ_eq_map,Vk,XF];rfl
theorem LN{xs:List SV}{x:SV}(h:xs[xs.length - 1]?=some x):atI xs (-1)=some x:=by
 have ne:xs≠[]:=λz=>by rw[z]at h;cases h
 have e:xs=xs.dropLast++[x]:=by
  have l:=Wr ne;rw[X3,h]at l;rw[oj l];exact(List.dropLast_concat_getLast ne).symm
 rw[e];exact Ly _ _
theorem Nu{xs:List SV}{i:Nat}{x:SV}(h:xs[i+1]?=some x):atI xs ((i:Int)+1)=some x:=by
 rw[show((i:Int)+1)=((i+1:Nat):Int) from rfl];exact f8 h
section
variable{Δ:Nat->Sn}
def tw1:List Stm:=[(.asg (.nm 3) (.lst (.cons (.ix (.ix (.var 0) (.var 1)) (.c (.int 0))) .nil))),(.asg (.nm 4) (.ix (.ix (.var 0) (.var 1)) (.c (.int 1))))]
def twW:List Stm:=[(.expr (.mt .append (.var 3) (.cons (.ix (.ix (.var 0) (.var 4)) (.c (.int 0))) .nil))),(.asg (.nm 4) (.ix (.ix (.var 0) (.var 4)) (.c (.int 1))))]
def tw2:List Stm:=[(.expr (.mt .reverse (.var 3) .nil)),(.asg (.nm 5) (.comp ["k"] ["way"] [3] (.nm 0) (.rng1 (.op .Sub (.bi .len (.cons (.var 3) .nil)) (.c (.int 1)))) .no (.tup (.cons (.c (.str "move")) (.cons (.ix (.var 1) (.op .Add (.var 0) (.c (.int 1)))) (.cons (.ix (.var 1) (.var 0)) .nil)))))),(.expr (.mt .append (.var 5) (.cons (.tup (.cons (.c (.str "hue")) (.cons (.ix (.var 3) (.neg (.c (.int 1)))) (.cons (.var 2) .nil)))) .nil))),(.ret (.var 5))]
def HM:List Stm:=tw1++((.whl (.cmp .IsNot (.var 4) (.c .non)) twW)::tw2)
def Cj(s:Sn):Prop:=∀{p H kf i h t0:Nat} {es:EE} {cs:List Nat} {F:Fan} {S:Sto} {Q:QE},FanI es cs p H t0 F->es.length<=60->S[kf]?=some (.lst (F.map v9))->i<F.length->(∀(l:Nat) (S':Sto),Gw S S'->S.length<=l->S'[l]?=some (.lst ((AX (upF F (i+1) (some i)).reverse h).map v7))->Q (.loc l) S')->s [.loc kf,.int (i:Nat),.int (h:Nat)] S Q
theorem Il(hΔ:∀ f,MonoN (Δ f)){D:Df}(hb:D.body=HM)(hN:D.N.length=6)(hp:D.ps.length=3):Cj (f7 Δ D):=by
 intro p H kf i h t0 es cs F S Q I el hF il q;have fl:=I.len;obtain⟨x,hx⟩:∃ x,F[i]?=some x:=⟨_,VE il⟩
 have dec:∀{j b:Nat} {y:Nat×Option Nat},F[j]?=some y->y.2=some b->b<j/\b<F.length:=λ{j b y} e1 e2=>by
  obtain⟨t,o⟩:=y;have j0:0<j:=XN λz=>by rw[z,I.fst]at e1;cases e1;cases e2
  obtain⟨b',u,c,k1,k2,k3,_⟩:=I.bk j t o j0 e1;rw[show o=some b from e2]at k1;cases k1;exact⟨k2,(gM k3).1⟩
 unfold f7;rw[hb,hN];have hF1:=j4 (o:=SO.lst [SV.int (x.1:Nat)]) hF;refine⟨hp.symm,_,rfl,_,rfl,_,_,a7 hF,f8 (D6 hx),_,_,rfl,rfl,by show 1<=100000;decide,?_⟩;refine⟨_,rfl,_,rfl,_,_,a7 hF1,f8 (D6 hx),_,_,rfl,rfl,?_⟩;have G0:Gw S (S++[SO.lst [SV.int (x.1:Nat)]]):=(Gw.refl S).push;have h30:(S++[SO.lst [SV.int (x.1:Nat)]])[S.length]?=some (SO.lst (f6 [x.1])):=a8;show wSs Δ ((.whl (.cmp .IsNot (.var 4) (.c .non)) twW)::tw2) (w9 Q) [some (.loc kf),some (.int (i:Nat)),some (.int (h:Nat)),some (.loc S.length),some (HC x.2),none] (S++[SO.lst [SV.int (x.1:Nat)]]);generalize S++[SO.lst [SV.int (x.1:Nat)]]=S0 at *;have fl':=(gM hF).1;generalize hl:S.length=k3 at *
 have ul:∀ m,(upF F m (some i)).length<=m:=λm=>by
  have go:∀(m:Nat) (o:Option Nat),(upF F m o).length<=m:=by
   intro m
   induction m with
   | zero=>intro o;cases o<;>exact VH _
   | succ m ih=>
     intro o;cases o with
     | none=>exact W8 _
     | some j=>
       show(match F[j]? with | none=>[] | some x=>x.1::upF F m x.2).length<=_;cases F[j]? with
       | none=>exact W8 _
       | some y=>exact Xh (ih y.2)
  exact go m _
 refine⟨λm ρ S'=>∃(acc:List Nat) (bk:Option Nat),ρ=[some (.loc kf),some (.int (i:Nat)),some (.int (h:Nat)),some (.loc k3),some (HC bk),none]/\acc++upF F m bk=upF F (i+1) (some i)/\(∀ b,bk=some b->b<m/\b<F.length)/\Gw S S'/\S'[k3]?=some (.lst (f6 acc))/\acc.length+m=i+1,⟨i,[x.1],x.2,rfl,?_,λb e=>dec hx e,G0,h30,by show 1+i=i+1;omega⟩,?_⟩
 ·show _=match F[i]? with | none=>[] | some x=>x.1::upF F i x.2
  rw[hx];rfl
 rintro m ρ S' ⟨acc,bk,rfl,ea,hbk,GS,h3,al⟩;have hF':=GS.keep _ _ hF;cases bk with
 | some b=>
   obtain⟨bm,bl⟩:=hbk b rfl;obtain⟨m',rfl⟩:∃ m',m=m'+1:=⟨m - 1,by omega⟩
   obtain⟨y,hy⟩:∃ y,F[b]?=some y:=⟨_,VE bl⟩
   have eu:upF F (m'+1) (some b)=y.1::upF F m' y.2:=by
    show(match F[b]? with | none=>[] | some x=>x.1::upF F m' x.2)=_;rw[hy]
   rw[eu]at ea;refine⟨_,rfl,.inl ⟨rfl,_,rfl,ifT rfl ?_⟩⟩;refine⟨_,rfl,⟨_,_,rfl,h3⟩,_,rfl,_,rfl,_,_,a7 hF',f8 (D6 hy),_,_,rfl,rfl,_,h3,by rw[j8];show _<100000;omega,?_⟩;have h31:(S'.set k3 (.lst (f6 acc++[.int (y.1:Nat)])))[k3]?=some (.lst (f6 (acc++[y.1]))):=by rw[n6 h3,t9];rfl
   have GS1:Gw S (S'.set k3 (.lst (f6 acc++[.int (y.1:Nat)]))):=GS.put (by omega);have hF1':=GS1.keep _ _ hF;refine⟨_,rfl,_,rfl,_,_,a7 hF1',f8 (D6 hy),_,_,rfl,rfl,?_⟩;exact⟨m',by omega,acc++[y.1],y.2,rfl,by rw[<-ea];simp,λb2 e2=>by have:=dec hy e2;omega,GS1,h31,by rw[VB];simp;omega⟩
 | none=>
   have e0:upF F m none=[]:=by cases m<;>rfl
   rw[e0,Vy]at ea;refine⟨_,rfl,.inl ⟨rfl,_,rfl,ifF rfl ?_⟩⟩;refine⟨_,rfl,⟨_,_,rfl,h3⟩,_,h3,?_⟩;rw[ea]at h3 al
   have h32:(S'.set k3 (.lst (f6 acc).reverse))[k3]?=some (.lst (f6 (upF F (i+1) (some i)).reverse)):=by
    rw[n6 h3,ea];unfold f6;rw[List.map_reverse]
   have GS2:Gw S (S'.set k3 (.lst (f6 acc).reverse)):=GS.put (by omega);have k3l:=(gM h32).1
   have ne:(upF F (i+1) (some i)).reverse≠[]:=by
    rw[Ne,List.reverse_eq_nil_iff];show(match F[i]? with | none=>[] | some x=>x.1::upF F i x.2)≠[];rw[hx];simp
   have wl:=ul (i+1);rw[<-X5]at wl;generalize S'.set k3 (.lst (f6 acc).reverse)=S2 at *;generalize (upF F (i+1) (some i)).reverse=W at *
   obtain⟨a,r,rfl⟩:∃ a r,W=a::r:=by
    cases W with
    | nil=>exact absurd rfl ne
    | cons a r=>exact⟨a,r,rfl⟩
   rw[Vb]at wl;have nl:(f6 (a::r)).length=r.length+1:=by rw[j8];rfl
   have gt:∀ j,j<r.length+1->(f6 (a::r))[j]?=some (.int ((a::r).getD j 0:Nat)):=λj hj=>by
    unfold f6;rw[VI,VD,VE (show j<(a::r).length by rw[Vb];exact hj)];rfl
   refine⟨_,rfl,_,a7 h32,_,rfl,⟨by rw[nl];omega,by rw[nl];omega⟩,?_⟩;rw[nl,show(((r.length+1:Nat):Int) - 1)=(r.length:Int) by omega];refine i4 (j6 hΔ _).2 (a5 hΔ _).1 (λj ys S3=>S3=S2/\ys=((VN j).map λk=>Sp3.move ((a::r).getD (k+1) 0) ((a::r).getD k 0)).map v7) ⟨rfl,rfl⟩ (λ_ _ _ _=>trivial) ?_ ?_
   ·rintro j x ys S3 hx ⟨rfl,rfl⟩;have jl:j<r.length:=by have:=(gM hx).1;rw[k8]at this;omega
    obtain⟨rfl,hj⟩:=p9 hx;rw[Wl]at hj ⊢;refine⟨_,rfl,_,rfl,_,_,a7 h32,Nu (gt (j+1) (by omega)),_,rfl,_,rfl,_,_,a7 h32,f8 (gt j (by omega)),by show 3<=100000;decide,by rw[VA,VA,Vs];show _<100000;omega,rfl,?_⟩;rw[WG,VR,VR];rfl
   ·rintro ys S3 ⟨rfl,rfl⟩;rw[k8,show((r.length:Int) - 0).toNat=r.length by omega];have h5:(S3++[SO.lst (((VN r.length).map λk=>Sp3.move ((a::r).getD (k+1) 0) ((a::r).getD k 0)).map v7)])[S3.length]?=_:=a8
    have lst:(f6 (a::r))[(f6 (a::r)).length - 1]?=some (.int ((a::r).getLastD 0:Nat)):=by
     rw[nl,show r.length+1 - 1=r.length by omega,gt r.length (by omega)]
     congr 3
     rw[XS,X3,VD];rfl
    refine⟨_,rfl,⟨_,_,rfl,h5⟩,_,rfl,_,_,a7 (j4 h32),LN lst,_,rfl,by show 3<=100000;decide,_,h5,by rw[VA,VA,Vs];show _<100000;omega,?_⟩;refine⟨_,rfl,q _ _ (GS2.push.put (Vc (Y8 hl) (by omega))) (by omega) ?_⟩;rw[n6 h5,HL,VR];rfl
def td1(kr:Nat):Stm:=(.asg (.nm 5) (.call kr (.cons (.var 0) (.cons (.var 1) (.cons (.var 3) (.cons (.var 4) .nil))))))
def td2(kr kf:Nat):Stm:=(.asg (.nm 9) (.call kr (.cons (.var 0) (.cons (.var 1) (.cons (.call kf (.cons (.var 0) (.cons (.var 7) (.cons (.var 3) .nil)))) (.cons (.var 4) .nil))))))
def td3:Stm:=(.asg (.nm 10) (.comp ["hue"] ["free"] [9] (.nm 0) (.seq (.var 5)) (.yes (.cmp .In (.var 0) (.var 1))) (.var 0)))
def td4(kt:Nat):Stm:=(.iff (.var 10) [(.ret (.call kt (.cons (.var 2) (.cons (.var 6) (.cons (.ix (.var 10) (.c (.int 0))) .nil)))))] [])
def Jx(kr kf kt:Nat):List Stm:=[td1 kr,(.loop (.tup (.cons (.nm 6) (.cons (.tup (.cons (.nm 7) (.cons (.nm 8) .nil))) .nil))) (.enum (.var 2)) [td2 kr kf,td3,td4 kt]),(.ret (.c .non))]
def Ds(s:Sn):Prop:=∀{n H p kf t0:Nat} {w:SV} {es:EE} {cs ds:List Nat} {F:Fan} {S:Sto} {Q:QE},Hv S w ds->ds.length=es.length->(∀ e∈es,e.1<e.2/\e.2<n)->es.length<=60->H<=1000->FanI es cs p H t0 F->S[kf]?=some (.lst (F.map v9))->(t3 es ds p H F=none->∀ S',Gw S S'->Q .non S')->(∀ s,t3 es ds p H F=some s->∀(l:Nat) (S':Sto),Gw S S'->S.length<=l->S'[l]?=some (.lst (s.map v7))->Q (.loc l) S')->s [i5 n es,w,.loc kf,.int (p:Nat),.int (H:Nat)] S Q
theorem LO(hΔ:∀ f,MonoN (Δ f)){kr kf kt:Nat}(hr:Bp (Δ kr))(hf:Au (Δ kf))(ht:Cj (Δ kt)){D:Df}(hb:D.body=Jx kr kf kt)(hN:D.N.length=11)(hp:D.ps.length=5):Ds (f7 Δ D):=by
 intro n H p k2 t0 w es cs ds F S Q hw cl hen el hH I hF q0 q1;have fl:=I.len;obtain⟨e0,he0,hp0⟩:=I.att _ (VC I.fst);have pn:p<n:=by have:=hen e0 (VC he0);omega
 unfold f7;rw[hb,hN];refine⟨hp.symm,_,rfl,_,rfl,_,rfl,_,rfl,hr hw cl el pn hH λl5 S1 G1 _ h5=>?_⟩;refine⟨_,rfl,_,a7 (G1.keep _ _ hF),?_⟩;refine r6 (g9 hΔ _) (λj ρ S2=>Gw S1 S2/\(∃ o6 o7 o8 o9 o10:Option SV,ρ=[some (i5 n es),some w,some (.loc k2),some (.int (p:Nat)),some (.int (H:Nat)),some (.loc l5),o6,o7,o8,o9,o10])/\∀ u∈(VN F.length).take j,((Dm es ds p H F u).head?.map λh=>AX (upF F (u+1) (some u)).reverse h)=none) ⟨Gw.refl _,⟨none,none,none,none,none,rfl⟩,λu hu'=>by simp at hu'⟩ (λ_ _ S2 z=>by show S2[k2]?=S1[k2]?;rw[G1.keep _ _ hF];exact z.1.keep _ _ (G1.keep _ _ hF)) ?_ ?_
 ·rintro j x ρ S2 E hE hR hx ⟨G2,⟨o6,o7,o8,o9,o10,rfl⟩,no⟩;obtain⟨y,hy,rfl⟩:=BZ hx;obtain⟨z,hz,rfl⟩:=FY hy;have jl:=(gM hz).1;obtain⟨ez,hez,hzp⟩:=I.att z (VC hz);have fn:=Ci hen ⟨ez,hez,hzp⟩;have fe:y0 ez p=farT es p z.1:=by unfold farT;rw[show es.getD z.1 (0,0)=ez by rw[VD,hez];rfl]
  refine⟨_,rfl,_,rfl,_,rfl,_,rfl,_,rfl,hf hez (hzp.imp Eq.symm Eq.symm) ?_⟩;rw[fe];refine⟨_,rfl,hr (hw.gw (G1.trans G2)) cl el fn.2 hH λl9 S3 G3 _ h9=>?_⟩;have h53:=(G2.trans G3).keep _ _ h5;show wSs Δ [td3,td4 kt] E [some (i5 n es),some w,some (.loc k2),some (.int (p:Nat)),some (.int (H:Nat)),some (.loc l5),some (.int (j:Nat)),some (.int (z.1:Nat)),some (HC z.2),some (.loc l9),o10] S3;refine⟨_,rfl,_,a7 h53,?_⟩;have fr1:∀ y,(frL es ds y H).length<=H:=λy=>CL _ _;have f1:=fr1 p;refine i4 (j6 hΔ _).2 (a5 hΔ _).1 (λi ys S4=>S4=S3/\ys=f6 (((frL es ds p H).take i).filter λh=>decide (h∈frL es ds (farT es p z.1) H))) ⟨rfl,rfl⟩ (λ_ _ _ z=>by rw[z.1];exact rfl) ?_ ?_
  ·rintro i x ys S4 hx ⟨rfl,rfl⟩;obtain⟨h,hi,rfl⟩:=B6 hx;have il:=(gM hi).1
   have es':((frL es ds p H).take (i+1)).filter (λh=>decide (h∈frL es ds (farT es p z.1) H))=((frL es ds p H).take i).filter (λh=>decide (h∈frL es ds (farT es p z.1) H))++if decide (h∈frL es ds (farT es p z.1) H)=true then [h] else []:=by
    rw[Vl,hi,Wu]
    congr 1
    show YQ _ [h]=_;rw[WN];rfl
   have ll:(((frL es ds p H).take i).filter λh=>decide (h∈frL es ds (farT es p z.1) H)).length<=H:=by
    have:=We (λh=>decide (h∈frL es ds (farT es p z.1) H)) ((frL es ds p H).take i);rw[Vr]at this;omega
   refine⟨_,rfl,_,rfl,?_⟩;show match BP (.loc l9) S4 with | some ms=>_ | none=>_
   rw[At h9];refine⟨rfl,_,a7 h9,Av _,_,rfl,?_⟩;show if inS (.int (h:Nat)) (f6 (frL es ds (farT es p z.1) H))=true then _ else _
   rw[Dh];refine ifD (λz=>?_) (λz=>⟨rfl,?_⟩)
   ·rw[iP (decide_eq_true z)]at es';exact⟨_,rfl,by rw[j8];show _<100000;omega,rfl,by rw[es',t9];rfl⟩
   ·rw[iG (by simpa using z),Vy]at es';rw[es']
  ·rintro ys S4 ⟨rfl,rfl⟩;rw[j8,Vf]
   have esh:(frL es ds p H).filter (λh=>decide (h∈frL es ds (farT es p z.1) H))=Dm es ds p H F j:=by
    unfold Dm;rw[show F.getD j (0,none)=z by rw[VD,hz];rfl]
   rw[esh];have G4:Gw S (S4++[SO.lst (f6 (Dm es ds p H F j))]):=((G1.trans G2).trans G3).push;have h10:(S4++[SO.lst (f6 (Dm es ds p H F j))])[S4.length]?=_:=a8;have hj:(VN F.length)[j]?=some j:=W2 jl;cases hs:Dm es ds p H F j with
   | nil=>
     rw[hs]at h10 G4;refine⟨_,rfl,_,JZ h10,ifF rfl (c4 (hE _ _ ⟨(G2.trans G3).push,⟨_,_,_,_,_,rfl⟩,λu hu'=>?_⟩))⟩;rw[Vl,hj]at hu';rcases VY.mp hu' with y | y
     ·exact no u y
     ·have:u=j:=by simpa using y
      rw[this,hs];rfl
   | cons h l=>
     rw[hs]at h10 G4;refine⟨_,rfl,_,JZ h10,ifT rfl ?_⟩;refine⟨_,rfl,_,rfl,_,rfl,_,_,a7 h10,(show atI (f6 (h::l)) (0:Int)=some (SV.int (h:Nat)) from f8 (j:=0) rfl),ht I el (G4.keep _ _ hF) jl λl' S5 G5 l5' h5'=>hR _ _ (q1 _ ?_ l' S5 (G4.trans G5) (Vc G4.len l5') h5')⟩;exact Nj hj (by rw[hs];rfl) no
 ·rintro ρ S2 ⟨G2,⟨o6,o7,o8,o9,o10,rfl⟩,no⟩;rw[Bm,VA]at no;refine q0 ?_ S2 (G1.trans G2);unfold t3;rw[WU];intro u hu';exact no u (by rw[Ws (by rw[Vs];exact VH _)];exact hu')
def shI:List Stm:=[(.iff (.cmp .NotEq (.setdi (.var 5) (.var 9) (.var 8)) (.var 8)) [(.ret (.tup (.cons (.var 9) (.cons (.dget (.var 5) (.var 9)) .nil))))] [])]
def shO(kf kr:Nat):List Stm:=[(.asg (.nm 8) (.call kf (.cons (.var 0) (.cons (.var 6) (.cons (.var 3) .nil))))),(.loop (.nm 9) (.seq (.call kr (.cons (.var 0) (.cons (.var 1) (.cons (.var 8) (.cons (.var 4) .nil)))))) shI)]
def Jy(kf kr:Nat):List Stm:=[(.asg (.nm 5) .dnew),(.loop (.tup (.cons (.nm 6) (.cons (.nm 7) .nil))) (.seq (.var 2)) (shO kf kr)),(.ret (.c .non))]
def OwnD(L:EE)(kvs:List (Int×SV)):Prop:=kvs.length<=L.length/\∀ h:Nat,CZ kvs (h:Nat)=(t7 L h).map λf=>SV.int (f:Nat)
def Dt(s:Sn):Prop:=∀{n H p kf t0:Nat} {w:SV} {es:EE} {cs:List Nat} {F:Fan} {x:Nat×Nat} {S:Sto} {Q:QE},Hv S w cs->cs.length=es.length->(∀ e∈es,e.1<e.2/\e.2<n)->es.length<=60->H<=1000->FanI es cs p H t0 F->S[kf]?=some (.lst (F.map v9))->v6 es cs p H F=some x->(∀ S',Gw S S'->Q (.tup [.int (x.1:Nat),.int (x.2:Nat)]) S')->s [i5 n es,w,.loc kf,.int (p:Nat),.int (H:Nat)] S Q
theorem HN{α:Type}{P:α->Bool}{q:α}:∀{A B:List α},(∀ a∈A,P a=false)->P q=true->(A++q::B).find? P=some q
 | [],B,_,h=>by rw[Xn,Vh,h]
 | a::A,B,no,h=>by
   rw[List.cons_append,Vh,no a (VQ ..)];exact HN (λb hb=>no b (VL _ hb)) h
theorem OwnD.put{L:EE}{kvs:List (Int×SV)}(O:OwnD L kvs){f h:Nat}(no:t7 L h=none):OwnD (L++[(f,h)]) (kvs++[((h:Int),SV.int (f:Nat))]):=by
 refine⟨by rw[VB,VB];have:=O.1;simp;omega,λg=>?_⟩
 have e1:CZ (kvs++[((h:Int),SV.int (f:Nat))]) (g:Nat)=(CZ kvs (g:Nat)).or (if h=g then some (SV.int (f:Nat)) else none):=by
  unfold CZ;rw[XW];cases kvs.find? λp=>decide (p.1=(g:Int)) with
  | some y=>rfl
  | none=>
    rw[YZ,Vh];by_cases z:h=g
    ·rw[iP z,decide_eq_true (show((h:Int),SV.int (f:Nat)).1=(g:Int) by rw[z])];rfl
    ·rw[iG z,decide_eq_false (show ¬ ((h:Int),SV.int (f:Nat)).1=(g:Int) from λy=>z (Vm.mp y))];rfl
 have e2:t7 (L++[(f,h)]) g=(t7 L g).or (if h=g then some f else none):=by
  rw[AZ]
  congr 1
  unfold t7;rw[Vh];by_cases z:h=g
  ·rw[iP z,decide_eq_true (show((f,h):Nat×Nat).2=g from z)];rfl
  ·rw[iG z,decide_eq_false (show ¬ ((f,h):Nat×Nat).2=g from z)];rfl
 rw[e1,e2,O.2];cases t7 L g with
 | some y=>rfl
 | none=>
   by_cases z:h=g
   ·rw[iP z,iP z];rfl
   ·rw[iG z,iG z];rfl
theorem OwnD.same{L:EE}{kvs:List (Int×SV)}(O:OwnD L kvs){f h:Nat}(yes:t7 L h=some f)(g:Nat):OwnD (L++[(g,h)]) kvs:=by
 refine⟨by rw[VB];have:=O.1;omega,λk=>?_⟩;rw[O.2,AZ];cases hk:t7 L k with
 | some y=>rfl
 | none=>
   have:t7 [(g,h)] k=none:=by
    unfold t7;rw[Vh];by_cases z:h=k
    ·rw[<-z,yes]at hk;cases hk
    ·rw[decide_eq_false (show ¬ ((g,h):Nat×Nat).2=k from z)];rfl
   rw[this];rfl
theorem HP{es:EE}{cs:List Nat}{p H j:Nat}{F:Fan}{x:Nat×Option Nat}(h:F[j]?=some x):shL es cs p H (F.take (j+1))=shL es cs p H (F.take j)++(frL es cs (farT es p x.1) H).map λh=>(farT es p x.1,h):=by
 unfold shL;rw[Vl,h,Y1];simp
theorem QJ{es:EE}{cs:List Nat}{p H j i c:Nat}{F:Fan}{x:Nat×Option Nat}(h:F[j]?=some x)(hc:(frL es cs (farT es p x.1) H)[i]?=some c):∃ B,shL es cs p H F=(shL es cs p H (F.take j)++((frL es cs (farT es p x.1) H).take i).map λh=>(farT es p x.1,h))++(farT es p x.1,c)::B:=by
 have e1:F=F.take j++x::F.drop (j+1):=by
  conv=>lhs;rw[<-Xs j F,Wf (gM h).1,(gM h).2]
 have e2:frL es cs (farT es p x.1) H=(frL es cs (farT es p x.1) H).take i++c::(frL es cs (farT es p x.1) H).drop (i+1):=by
  conv=>lhs;rw[<-Xs i (frL es cs (farT es p x.1) H),Wf (gM hc).1,(gM hc).2]
 refine⟨((frL es cs (farT es p x.1) H).drop (i+1)).map (λh=>(farT es p x.1,h))++shL es cs p H (F.drop (j+1)),?_⟩
 conv=>lhs;rw[e1]
 unfold shL;rw[Y1,XY]
 conv=>lhs;rw[e2]
 simp[XU]
theorem LP(hΔ:∀ f,MonoN (Δ f)){kf kr:Nat}(hf:Au (Δ kf))(hr:Bp (Δ kr)){D:Df}(hb:D.body=Jy kf kr)(hN:D.N.length=10)(hp:D.ps.length=5):Dt (f7 Δ D):=by
 intro n H p k2 t0 w es cs F x S Q hw cl hen el hH I hF hs q;have fl:=I.len;have frl:∀ y,(frL es cs y H).length<=H:=λy=>CL _ _
 have shl:∀ j,(shL es cs p H (F.take j)).length<=j * H:=λj=>by
  induction j with
  | zero=>simp[shL]
  | succ j ih=>
    cases hx:F[j]? with
    | none=>
      have:F.take (j+1)=F.take j:=by rw[Vl,hx];simp
      rw[this,X0];omega
    | some y=>
      rw[HP hx,VB,VA,X0];have:=frl (farT es p y.1);omega
 have bound:∀{j i:Nat} {y:Nat},j<F.length->(shL es cs p H (F.take j)++((frL es cs y H).take i).map λh=>(y,h)).length<100000:=λ{j i y} hj=>by
  rw[VB,VA,Vr];have a1:=shl j;have a2:=frl y;have:j * H<=60 * 1000:=Xw (by omega) hH;omega
 unfold f7;rw[hb,hN];have G0:Gw S (S++[SO.dct []]):=(Gw.refl S).push;refine⟨hp.symm,_,rfl,_,a7 (j4 hF),?_⟩;refine r6 (g9 hΔ _) (λj ρ S'=>Gw S S'/\(∃(kvs:List (Int×SV)) (o6 o7 o8 o9:Option SV),ρ=[some (i5 n es),some w,some (.loc k2),some (.int (p:Nat)),some (.int (H:Nat)),some (.loc S.length),o6,o7,o8,o9]/\S'[S.length]?=some (.dct kvs)/\OwnD (shL es cs p H (F.take j)) kvs)/\∀ q∈shL es cs p H (F.take j),t7 (shL es cs p H (F.take j)) q.2=some q.1) ⟨G0,⟨[],none,none,none,none,rfl,a8,W8 _,λh=>rfl⟩,(λ_ h=>nomatch h)⟩ (λ_ _ S' z=>by show S'[k2]?=(S++[SO.dct []])[k2]?;rw[j4 hF];exact z.1.keep _ _ hF) ?_ ?_
 ·rintro j y ρ S' E hE hR hy ⟨GS,⟨kvs,o6,o7,o8,o9,rfl,h5,O⟩,al⟩;obtain⟨z,hz,rfl⟩:=FY hy;have jl:=(gM hz).1;obtain⟨ez,hez,hzp⟩:=I.att z (VC hz);have fn:=Ci hen ⟨ez,hez,hzp⟩;have fe:y0 ez p=farT es p z.1:=by unfold farT;rw[show es.getD z.1 (0,0)=ez by rw[VD,hez];rfl]
  refine⟨_,rfl,_,rfl,_,rfl,hf hez (hzp.imp Eq.symm Eq.symm) ?_⟩;rw[fe];refine⟨_,rfl,_,rfl,_,rfl,_,rfl,hr (hw.gw GS) cl el fn.2 hH λl S1 G1 l1 h1=>⟨_,a7 h1,?_⟩⟩;have s5:=(gM h5).1;refine r6 (g9 hΔ _) (λi ρ S2=>Gw S S2/\S2[l]?=some (.lst (f6 (frL es cs (farT es p z.1) H)))/\(∃(kvs:List (Int×SV)) (o9:Option SV),ρ=[some (i5 n es),some w,some (.loc k2),some (.int (p:Nat)),some (.int (H:Nat)),some (.loc S.length),some (.int (z.1:Nat)),some (HC z.2),some (.int (farT es p z.1:Nat)),o9]/\S2[S.length]?=some (.dct kvs)/\OwnD (shL es cs p H (F.take j)++((frL es cs (farT es p z.1) H).take i).map λh=>(farT es p z.1,h)) kvs)/\∀ q∈shL es cs p H (F.take j)++((frL es cs (farT es p z.1) H).take i).map λh=>(farT es p z.1,h),t7 (shL es cs p H (F.take j)++((frL es cs (farT es p z.1) H).take i).map λh=>(farT es p z.1,h)) q.2=some q.1) ⟨GS.trans G1,h1,⟨kvs,_,rfl,G1.keep _ _ h5,by simpa using O⟩,by simpa using al⟩ (λ_ _ S2 z=>by show S2[l]?=S1[l]?;rw[h1];exact z.2.1) ?_ ?_
  ·rintro i y ρ S2 E2 hE2 hR2 hy2 ⟨GS2,hl2,⟨kv2,o9,rfl,h52,O2⟩,al2⟩;obtain⟨c,hci,rfl⟩:=B6 hy2
   have tk:shL es cs p H (F.take j)++((frL es cs (farT es p z.1) H).take (i+1)).map (λh=>(farT es p z.1,h))=(shL es cs p H (F.take j)++((frL es cs (farT es p z.1) H).take i).map λh=>(farT es p z.1,h))++[(farT es p z.1,c)]:=by
    rw[Vl,hci,VR,XU];rfl
   obtain⟨B,eB⟩:=QJ hz hci;have bd:=bound (j:=j) (i:=i) (y:=farT es p z.1) jl;have ol:=O2.1;generalize hA:shL es cs p H (F.take j)++((frL es cs (farT es p z.1) H).take i).map (λh=>(farT es p z.1,h))=A at *;refine⟨_,rfl,_,_,rfl,h52,_,rfl,_,rfl,(c:Int),kv2,rfl,h52,by show _<100000;omega,λv hv=>?_,λhv=>?_⟩
   ·rw[O2.2]at hv;cases ho:t7 A c with
    | none=>rw[ho]at hv;cases hv
    | some f=>
      rw[ho]at hv;cases hv;refine⟨_,rfl,_,rfl,?_⟩;show if (!decide (((f:Nat):Int)=((farT es p z.1:Nat):Int)))=true then _ else _
      by_cases ef:f=farT es p z.1
      ·rw[decide_eq_true (show((f:Nat):Int)=((farT es p z.1:Nat):Int) by rw[ef])];refine ifF rfl (c4 (hE2 _ _ ⟨GS2,hl2,⟨kv2,_,rfl,h52,by rw[tk];exact O2.same ho _⟩,λq hq=>?_⟩));rw[tk]at hq ⊢;rw[AZ];rcases VY.mp hq with y | y
       ·rw[al2 q y];rfl
       ·rw[VU.mp y,ho,ef];rfl
      ·rw[decide_eq_false (show ¬ ((f:Nat):Int)=((farT es p z.1:Nat):Int) from λy=>ef (Vm.mp y))];refine ifT rfl ?_;have ow:t7 (shL es cs p H F) c=some f:=by rw[eB,AZ,ho];rfl
       have fs:(shL es cs p H F).find? (λq=>!decide (t7 (shL es cs p H F) q.2=some q.1))=some (farT es p z.1,c):=by
        conv=>lhs;rw[eB]
        refine HN (λa ha=>?_) ?_
        ·have:t7 (shL es cs p H F) a.2=some a.1:=by rw[eB,AZ,al2 a ha];rfl
         rw[<-eB,this];simp
        ·rw[<-eB];show(!decide (t7 (shL es cs p H F) c=some (farT es p z.1)))=true;rw[ow];simpa using ef
       have:v6 es cs p H F=some (c,f):=by
        unfold v6;rw[fs];show(t7 (shL es cs p H F) c).map _=_;rw[ow];rfl
       rw[hs]at this;cases this;refine⟨_,rfl,_,rfl,_,rfl,kv2,(c:Int),_,by simp only[PH,h52],rfl,by rw[O2.2,ho];rfl,by show 2<=100000;decide,hR2 _ _ (hR _ _ (q S2 GS2))⟩
   ·rw[O2.2,WR]at hv;refine⟨_,rfl,_,rfl,?_⟩;show if (!decide (((farT es p z.1:Nat):Int)=((farT es p z.1:Nat):Int)))=true then _ else _
    rw[decide_eq_true rfl];have ne:l≠S.length:=λy=>by rw[y,h52]at hl2;cases hl2
    refine ifF rfl (c4 (hE2 _ _ ⟨GS2.put (VH _),by rw[AH ne.symm];exact hl2,⟨_,_,rfl,n6 h52,by rw[tk];exact O2.put hv⟩,λq hq=>?_⟩));rw[tk]at hq ⊢;rw[AZ];rcases VY.mp hq with y | y
    ·rw[al2 q y];rfl
    ·rw[VU.mp y,hv];unfold t7;rw[Vh,decide_eq_true rfl];rfl
  ·rintro ρ S2 ⟨GS2,hl2,⟨kv2,o9,rfl,h52,O2⟩,al2⟩;rw[j8,Vf,<-HP hz]at O2 al2;exact hE _ _ ⟨GS2,⟨kv2,_,_,_,_,rfl,h52,O2⟩,al2⟩
 ·rintro ρ S' ⟨GS,⟨kvs,o6,o7,o8,o9,rfl,h5,O⟩,al⟩;rw[VA,Vf]at al;exfalso;unfold v6 at hs
  have:(shL es cs p H F).find? (λq=>!decide (t7 (shL es cs p H F) q.2=some q.1))=none:=by
   rw[WJ];intro q hq;rw[al q hq];simp
  rw[this]at hs;cases hs
def HQ(ks kr:Nat):List Stm:=[(.asg (.tup (.cons (.nm 5) (.cons (.nm 6) .nil))) (.call ks (.cons (.var 0) (.cons (.var 1) (.cons (.var 2) (.cons (.var 3) (.cons (.var 4) .nil))))))),(.asg (.nm 7) (.ix (.call kr (.cons (.var 0) (.cons (.var 1) (.cons (.var 3) (.cons (.var 4) .nil))))) (.c (.int 0)))),(.ret (.tup (.cons (.c (.str "row")) (.cons (.var 6) (.cons (.var 7) (.cons (.var 5) .nil))))))]
def Ck(s:Sn):Prop:=∀{n H p kf t0:Nat} {w:SV} {es:EE} {cs:List Nat} {F:Fan} {x:Nat×Nat} {S:Sto} {Q:QE},Hv S w cs->cs.length=es.length->(∀ e∈es,e.1<e.2/\e.2<n)->es.length<=60->H<=1000->FanI es cs p H t0 F->S[kf]?=some (.lst (F.map v9))->v6 es cs p H F=some x->frL es cs p H≠[]->(∀ S',Gw S S'->Q (v7 (.row x.2 ((frL es cs p H).headD 0) x.1)) S')->s [i5 n es,w,.loc kf,.int (p:Nat),.int (H:Nat)] S Q
theorem Im{ks kr:Nat}(hs:Dt (Δ ks))(hr:Bp (Δ kr)){D:Df}(hb:D.body=HQ ks kr)(hN:D.N.length=8)(hp:D.ps.length=5):Ck (f7 Δ D):=by
 intro n H p k2 t0 w es cs F x S Q hw cl hen el hH I hF hx nn q;obtain⟨e0,he0,hp0⟩:=I.att _ (VC I.fst);have pn:p<n:=by have:=hen e0 (VC he0);omega
 unfold f7;rw[hb,hN];refine⟨hp.symm,_,rfl,_,rfl,_,rfl,_,rfl,_,rfl,hs hw cl hen el hH I hF hx λS1 G1=>?_⟩;refine⟨_,rfl,_,rfl,_,rfl,_,rfl,hr (hw.gw G1) cl el pn hH λl S2 G2 _ h2=>⟨_,_,a7 h2,f8 (QI nn),?_⟩⟩;exact⟨_,rfl,_,rfl,_,rfl,by show 4<=100000;decide,q S2 (G1.trans G2)⟩
end
noncomputable def Ep(es:EE)(cs:List Nat)(t H:Nat):List Sp3:=if hu cs t<1000 then [] else Am es cs t H
section
variable{Δ:Nat->Sn}
def sv1:Stm:=(.asg (.nm 4) (.ix (.ix (.ix (.var 0) (.c (.int 1))) (.var 2)) (.c (.int 0))))
def sv2(kf kd:Nat):List Stm:=[(.asg (.nm 5) (.call kf (.cons (.var 0) (.cons (.var 1) (.cons (.var 2) (.cons (.var 4) (.cons (.var 3) .nil))))))),(.asg (.nm 6) (.call kd (.cons (.var 0) (.cons (.var 1) (.cons (.var 5) (.cons (.var 4) (.cons (.var 3) .nil))))))),(.iff (.cmp .IsNot (.var 6) (.c .non)) [(.ret (.var 6))] [])]
def sv3(kz ko kd:Nat):List Stm:=[(.asg (.nm 7) (.call kz (.cons (.var 0) (.cons (.var 1) (.cons (.var 5) (.cons (.var 4) (.cons (.var 3) .nil))))))),(.ret (.op .Add (.lst (.cons (.var 7) .nil)) (.call kd (.cons (.var 0) (.cons (.call ko (.cons (.var 0) (.cons (.var 1) (.cons (.var 7) .nil)))) (.cons (.var 5) (.cons (.var 4) (.cons (.var 3) .nil))))))))]
def Jz(kf kd kz ko:Nat):List Stm:=sv1::(sv2 kf kd++sv3 kz ko kd)
noncomputable def Du(s:Sn):Prop:=∀{n H t m:Nat} {w:SV} {es:EE} {cs:List Nat} {S:Sto} {Q:QE},Hv S w cs->Hg H es cs->(∀ e∈es,e.1<e.2/\e.2<n)->es.length<=60->H<=1000->t<es.length->¬ hu cs t<1000->IsTh es m->mostN es n+m<=H->(∀(l:Nat) (S':Sto),Gw S S'->S.length<=l->S'[l]?=some (.lst ((Am es cs t H).map v7))->Q (.loc l) S')->s [i5 n es,w,.int (t:Nat),.int (H:Nat)] S Q
theorem Er:∀(ws:List Nat) (h:Nat),(AX ws h).length=ws.length
 | [],_=>rfl
 | [_],_=>rfl
 | a::b::r,h=>by
   show(AX (b::r) h).length+1=_;rw[Er];rfl
theorem Be{n H p t0:Nat}{es:EE}{cs ds:List Nat}{F:Fan}(fl:F.length<=es.length){s:List Sp3}(h:t3 es ds p H F=some s):s.length<=es.length:=by
 obtain⟨i,x,h,e,_,_,rfl,_⟩:=Bd h;have il:=(gM e).1;rw[Er,X5]
 have go:∀(m:Nat) (o:Option Nat),(upF F m o).length<=m:=by
  intro m
  induction m with
  | zero=>intro o;cases o<;>exact VH _
  | succ m ih=>
    intro o;cases o with
    | none=>exact W8 _
    | some j=>
      show(match F[j]? with | none=>[] | some x=>x.1::upF F m x.2).length<=_;cases F[j]? with
      | none=>exact W8 _
      | some y=>exact Xh (ih y.2)
 have:=go (i+1) (some i);omega
theorem LQ{kf kd kz ko:Nat}(hf:Nt (Δ kf))(hd:Ds (Δ kd))(hz:Ck (Δ kz))(ho:AN (Δ ko) λp a b=>[v7 (.row p a b)]){D:Df}(hb:D.body=Jz kf kd kz ko)(hN:D.N.length=8)(hp:D.ps.length=4):Du (f7 Δ D):=by
 intro n H t m w es cs S Q hw g hen el hH tl b0 hm hmH q;obtain⟨e,he⟩:∃ e,es[t]?=some e:=⟨_,VE tl⟩
 have ge:es.getD t (0,0)=e:=by rw[VD,he];rfl
 have ge2:(es.map pairS)[t]?=some (pairS e):=by rw[VI,he];rfl
 have hc:∀ y,y<n->m6 es y+m<=H:=λy hy=>by have:=Aw es hy;omega
 have cl:=g.P.len;have sv:∀ z,z=Am es cs t H->∀(l:Nat) (S':Sto),Gw S S'->S.length<=l->S'[l]?=some (.lst (z.map v7))->Q (.loc l) S':=λz ez l S' a b c=>q l S' a b (ez▸c);unfold Am at sv;rw[ge]at sv;have key:=Dp (p:=e.1) (F:=Bs es cs e.1 H (es.length+1) [(t,none)]) hen hH g tl b0 hc hm.1 (by rw[ge]) rfl;have atp:AtP es t e.1:=⟨e,he,.inl rfl⟩
 generalize hF:Bs es cs e.1 H (es.length+1) [(t,none)]=F at *;obtain⟨I,key⟩:=key;have fl:=I.len;unfold f7;rw[hb,hN];refine⟨hp.symm,_,rfl,_,_,rfl,rfl,_,rfl,_,_,rfl,f8 ge2,_,_,rfl,rfl,?_⟩;refine⟨_,rfl,_,rfl,_,rfl,_,rfl,_,rfl,hf hw cl hen el hH atp b0 λl5 S1 G1 h5=>?_⟩;rw[hF]at h5;refine⟨_,rfl,_,rfl,_,rfl,_,rfl,_,rfl,hd (hw.gw G1) cl hen el hH I h5 (λhn S2 G2=>?_) (λs hs l S2 G2 l2 h2=>?_)⟩
 ·refine⟨_,rfl,.inl ⟨rfl,_,rfl,ifF rfl (c4 ?_)⟩⟩;rcases key with⟨s,e1,_⟩ | ⟨_,nn,x,s,e1,ok,e2,r1,r2⟩
  ·rw[hn]at e1;cases e1
  ·rw[hn]at sv;dsimp only at sv;rw[e1]at sv;dsimp only at sv;rw[e2]at sv;have G12:=G1.trans G2;refine⟨_,rfl,_,rfl,_,rfl,_,rfl,_,rfl,hz (hw.gw G12) cl hen el hH I (G2.keep _ _ h5) e1 nn λS3 G3=>?_⟩;have G13:=G12.trans G3;refine⟨_,rfl,by show 1<=100000;decide,?_⟩;have G14:Gw S (S3++[SO.lst [v7 (.row x.2 ((frL es cs e.1 H).headD 0) x.1)]]):=G13.push;have h7:(S3++[SO.lst [v7 (.row x.2 ((frL es cs e.1 H).headD 0) x.1)]])[S3.length]?=some (SO.lst [v7 (.row x.2 ((frL es cs e.1 H).headD 0) x.1)]):=a8;have h54:(S3++[SO.lst [v7 (.row x.2 ((frL es cs e.1 H).headD 0) x.1)]])[l5]?=some (SO.lst (F.map v9)):=j4 (G3.keep _ _ (G2.keep _ _ h5));generalize S3++[SO.lst [v7 (.row x.2 ((frL es cs e.1 H).headD 0) x.1)]]=S4 at *;refine⟨_,rfl,_,rfl,_,rfl,_,rfl,ho g hen el hH ok (hw.gw G14) λl6 S5 G5 l6l h6=>?_⟩;have cl1:=(C6 g hen hH ok).P.len;refine⟨_,rfl,_,rfl,_,rfl,hd (Hv.loc h6) cl1 hen el hH I (G5.keep _ _ h54) (λhn2=>by rw[hn2]at e2;cases e2) λs2 hs2 l8 S6 G6 l8l h8=>?_⟩;rw[e2]at hs2;cases hs2;have ls:=Be (n:=n) (t0:=t) (cs:=cs) fl e2;refine⟨_,_,(G5.trans G6).keep _ _ h7,h8,by rw[VA];show 1+_<=100000;omega,?_⟩;refine sv _ rfl _ _ ((G14.trans G5).trans G6).push ((G14.trans G5).trans G6).len ?_;rw[a8];rfl
 ·refine⟨_,rfl,.inl ⟨rfl,_,rfl,ifT rfl ⟨_,rfl,?_⟩⟩⟩;rw[hs]at sv;exact sv _ rfl l S2 (G1.trans G2) (Vc G1.len l2) h2
def K0(kc ke ks:Nat):List Stm:=[(.expr (.call kc (.cons (.var 0) (.cons (.var 2) .nil)))),(.expr (.call ke (.cons (.var 0) (.cons (.var 3) .nil)))),(.iff (.cmp .IsNot (.ix (.var 1) (.var 2)) (.c .non)) [(.ret (.lst .nil))] []),(.ret (.call ks (.cons (.var 0) (.cons (.var 1) (.cons (.var 2) (.cons (.var 3) .nil))))))]
noncomputable def FZ(s:Sn):Prop:=∀{n H t m:Nat} {w:SV} {es:EE} {cs:List Nat} {S:Sto} {Q:QE},Hv S w cs->Hg H es cs->(∀ e∈es,e.1<e.2/\e.2<n)->n<=1000->es.length<=60->H<=1000->t<es.length->IsTh es m->mostN es n+m<=H->(∀(l:Nat) (S':Sto),Gw S S'->S.length<=l->S'[l]?=some (.lst ((Ep es cs t H).map v7))->Q (.loc l) S')->s [i5 n es,w,.int (t:Nat),.int (H:Nat)] S Q
theorem QK{kc ke ks:Nat}(hc:B5 (Δ kc))(he:Ij (Δ ke))(hs:Du (Δ ks)){D:Df}(hb:D.body=K0 kc ke ks)(hN:D.N.length=4)(hp:D.ps.length=4):FZ (f7 Δ D):=by
 intro n H t m w es cs S Q hw g hen nn el hH tl hm hmH q;have hcu:=u7 (cs:=cs) (t:=t) (by rw[g.P.len];exact tl);have pg:=p0 hcu;unfold Ep at q;unfold f7;rw[hb,hN];refine⟨hp.symm,_,rfl,_,rfl,hc tl ⟨_,rfl,_,rfl,he hen nn (by omega) hm hmH λS1 G1=>?_⟩⟩;by_cases z:hu cs t<1000
 ·rw[n8 z]at pg;rw[iP z]at q;exact⟨_,rfl,_,rfl,_,_,(hw.gw G1).seq,f8 pg,.inl ⟨rfl,_,rfl,ifT rfl ⟨by show 0<=100000;decide,q _ _ G1.push G1.len a8⟩⟩⟩
 ·rw[u8 z]at pg;rw[iG z]at q;refine⟨_,rfl,_,rfl,_,_,(hw.gw G1).seq,f8 pg,.inl ⟨rfl,_,rfl,ifF rfl (c4 ?_)⟩⟩;exact⟨_,rfl,_,rfl,_,rfl,_,rfl,hs (hw.gw G1) g hen el hH tl z hm hmH λl S' G' l' h'=>q l S' (G1.trans G') (Vc G1.len l') h'⟩
end
def Nv(cs:List Nat)(m h:Nat):List Nat:=(VN m).filter λt=>decide (hu cs t=h)
def CQ(es:EE)(x t:Nat):Bool:=match es[t]? with | some e=>(decide (e.1=x)||decide (e.2=x)) | none=>false
theorem hasE_iff{es:EE}{x t:Nat}:CQ es x t=true↔AtP es t x:=by
 unfold CQ AtP;cases es[t]? with
 | none=>simp
 | some e=>simp
theorem Nw{es:EE}{cs:List Nat}{x one:Nat}(P:Prp es cs):(Nv cs es.length one).filter (CQ es x)=(m8 es cs x one).toList:=by
 unfold Nv;rw[X7]
 have mem:∀ t,(CQ es x t&&decide (hu cs t=one))=true↔AtP es t x/\hu cs t=one:=λt=>by
  rw[V9,hasE_iff,dQ]
 cases hz:m8 es cs x one with
 | none=>
   rw[Option.toList_none,List.filter_eq_nil_iff];intro u hu' z;obtain⟨z1,z2⟩:=(mem u).mp z;exact AB hz u z1 z2
 | some t=>
   obtain⟨at',hc⟩:=m7 hz;refine Nb at'.lt ((mem t).mpr ⟨at',hc⟩) λu ul hu'=>?_;obtain⟨u1,u2⟩:=(mem u).mp hu';exact P.one u t x u1 at' (u2.trans hc.symm)
section
variable{Δ:Nat->Sn}
def K1(v:Str)(kc:Nat):List Stm:=[(.ret (.max1 (.op .Add (.lst (.cons (.c (.int 0)) .nil)) (.comp ["_law_place"] [v] [0] (.nm 0) (.rng1 (.ix (.var 0) (.c (.int 0)))) .no (.call kc (.cons (.var 1) (.cons (.var 0) .nil)))))))]
theorem LR(hΔ:∀ f,MonoN (Δ f)){v:Str}{kc:Nat}(hc:Dj (Δ kc)){D:Df}(hb:D.body=K1 v kc)(hN:D.N.length=1)(hp:D.ps.length=1):D4 (f7 Δ D):=by
 intro n es S Q hel hn q;unfold f7;rw[hb,hN];refine⟨hp.symm,by show 1<=big;decide,_,rfl,_,_,rfl,rfl,_,rfl,⟨by omega,by omega⟩,?_⟩;have h0:(S++[SO.lst [SV.int 0]])[S.length]?=some (.lst [SV.int 0]):=a8;have G0:Gw S (S++[SO.lst [SV.int 0]]):=(Gw.refl S).push;generalize hk:S.length=k at *;generalize S++[SO.lst [SV.int 0]]=S1 at *;refine i4 (j6 hΔ _).2 (a5 hΔ _).1 (λi ys S2=>Gw S1 S2/\ys=cS i (m6 es)) ⟨Gw.refl S1,rfl⟩ (λ_ _ _ _=>trivial) ?_ ?_
 ·rintro i x ys S2 hx ⟨G2,rfl⟩;obtain⟨rfl,hi⟩:=p9 hx;rw[Wl]at hi ⊢;refine⟨_,rfl,_,rfl,hc hel λS3 G3=>⟨by rw[Bb];show _<100000;omega,G2.trans G3,?_⟩⟩;unfold cS;rw[WG,VR];rfl
 ·rintro ys S2 ⟨G2,rfl⟩;rw[k8,show((n:Int) - 0).toNat=n by omega];refine⟨_,_,j4 (G2.keep _ _ h0),a8,by rw[Bb];show 1+n<=100000;omega,S2.length+1,(0::(VN n).map λp=>((m6 es p:Nat):Int)),?_,?_,Yj _,λm g=>?_⟩
  ·rw[VB];rfl
  ·rw[Jg,show S2.length+1=(S2++[SO.lst (((VN n).map λp=>((m6 es p:Nat):Int)).map SV.int)]).length by rw[VB];rfl,a8];rfl
  ·rw[LB g];exact q _ (G0.trans G2).push.push
theorem Nx{es:EE}{m:Int}(h:Grt (0::es.map λe=>((es.count e:Nat):Int)) m):∃ k:Nat,m=(k:Int)/\IsTh es k:=by
 obtain⟨h1,h2⟩:=h
 have le:∀ k:Nat,m=(k:Int)->∀ e,es.count e<=k:=λk ek e=>by
  by_cases z:e∈es
  ·have:=h2 _ (VL _ (VZ.mpr ⟨e,z,rfl⟩));omega
  ·rw[XO.mpr z];omega
 rcases VW.mp h1 with z | z
 ·exact⟨0,z,le 0 z,.inl rfl⟩
 ·obtain⟨e,he,ee⟩:=VZ.mp z;exact⟨es.count e,ee.symm,le _ ee.symm,.inr ⟨e,he,rfl⟩⟩
def thI:Ex:=(.comp ["_law_other"] ["_law_pair"] [0] (.nm 0) (.seq (.ix (.var 1) (.c (.int 1)))) (.yes (.eqp (.var 0) (.var 1))) (.var 0))
def K2:List Stm:=[(.ret (.max1 (.op .Add (.lst (.cons (.c (.int 0)) .nil)) (.comp ["_law_pair"] ["_law_web_here"] [0] (.nm 0) (.seq (.ix (.var 0) (.c (.int 1)))) .no (.bi .len (.cons thI .nil))))))]
theorem LS(hΔ:∀ f,MonoN (Δ f)){D:Df}(hb:D.body=K2)(hN:D.N.length=1)(hp:D.ps.length=1):B8 (f7 Δ D):=by
 intro n es S Q el q;unfold f7;rw[hb,hN];refine⟨hp.symm,by show 1<=big;decide,_,rfl,_,_,rfl,rfl,_,rfl,?_⟩;have h0:(S++[SO.lst [SV.int 0]])[S.length]?=some (.lst [SV.int 0]):=a8;have G0:Gw S (S++[SO.lst [SV.int 0]]):=(Gw.refl S).push;generalize hk:S.length=k at *;generalize S++[SO.lst [SV.int 0]]=S1 at *;refine i4 (j6 hΔ _).2 (a5 hΔ _).1 (λi ys S2=>Gw S1 S2/\ys=((es.take i).map λe=>((es.count e:Nat):Int)).map SV.int) ⟨Gw.refl S1,rfl⟩ (λ_ _ _ _=>trivial) ?_ ?_
 ·rintro i x ys S2 hx ⟨G2,rfl⟩;obtain⟨e,he,rfl⟩:=A8 hx;have il:=(gM he).1;refine⟨_,rfl,_,_,rfl,rfl,_,rfl,?_⟩;refine i4 (j6 hΔ _).2 (a5 hΔ _).1 (λj ys S3=>S3=S2/\ys=((es.take j).filter λf=>decide (f=e)).map pairS) ⟨rfl,rfl⟩ (λ_ _ _ _=>trivial) ?_ ?_
  ·rintro j x ys S3 hx ⟨rfl,rfl⟩;obtain⟨f,hf,rfl⟩:=A8 hx;have jl:=(gM hf).1
   have es':(es.take (j+1)).filter (λf=>decide (f=e))=(es.take j).filter (λf=>decide (f=e))++if decide (f=e)=true then [f] else []:=by
    rw[Vl,hf,Wu]
    congr 1
    show YQ _ [f]=_;rw[WN];rfl
   have ll:((es.take j).filter λf=>decide (f=e)).length<=j:=by
    have:=We (λf=>decide (f=e)) (es.take j);rw[Vr]at this;omega
   refine⟨_,rfl,_,rfl,(f.1:Int),(f.2:Int),(e.1:Int),(e.2:Int),rfl,rfl,_,rfl,?_⟩
   rw[show decide ((f.1:Int)=(e.1:Int)/\(f.2:Int)=(e.2:Int))=decide (f=e) by
    rw[decide_eq_decide];exact⟨λz=>Prod.ext (Vm.mp z.1) (Vm.mp z.2),λz=>by rw[z];exact⟨rfl,rfl⟩⟩]
   refine ifD (λz=>?_) (λz=>⟨rfl,?_⟩)
   ·rw[iP (decide_eq_true z)]at es';exact⟨_,rfl,by rw[VA];show _<100000;omega,rfl,by rw[es',VR];rfl⟩
   ·rw[iG (by simpa using z),Vy]at es';rw[es']
  ·rintro ys S3 ⟨rfl,rfl⟩;rw[VA,Vf];refine⟨_,a7 a8,by rw[VA,VA,Vr];show _<100000;omega,G2.push,?_⟩;rw[Vl,he,VR,VR,VA]
   congr 1
   show[SV.int ((((es.filter λf=>decide (f=e)).length:Nat):Int))]=[SV.int (((es.count e:Nat):Int))]
   rw[show es.count e=(es.filter λf=>decide (f=e)).length by
    show es.countP (· == e)=_;rw[XB]
    congr 1
    exact XX λf _=>by rw[Vv];simp]
 ·rintro ys S2 ⟨G2,rfl⟩;rw[VA,Vf];refine⟨_,_,j4 (G2.keep _ _ h0),a8,by rw[VA,VA];show 1+_<=100000;omega,S2.length+1,(0::es.map λe=>((es.count e:Nat):Int)),?_,?_,Yj _,λm g=>?_⟩
  ·rw[VB];rfl
  ·rw[show S2.length+1=(S2++[SO.lst ((es.map λe=>((es.count e:Nat):Int)).map SV.int)]).length by rw[VB];rfl,a8];rfl
  ·obtain⟨k',e,h'⟩:=Nx g;rw[e];exact q k' _ h' (G0.trans G2).push.push
def lrC:Stm:=(.asg (.nm 8) (.comp ["_law_tie","_law_pair"] ["_law_place","_law_hueing","_law_due"] [2,1,6] (.tup (.cons (.nm 0) (.cons (.nm 1) .nil))) (.enum (.ix (.var 0) (.c (.int 1)))) (.yes (.and (.cmp .In (.var 2) (.var 1)) (.cmp .Eq (.ix (.var 3) (.var 0)) (.var 4)))) (.var 0)))
def lrE:List Stm:=[(.iff (.cmp .Eq (.var 8) (.lst .nil)) [(.ret (.var 5))] []),(.expr (.mt .append (.var 5) (.cons (.ix (.var 8) (.c (.int 0))) .nil))),(.asg (.nm 2) (.op .Sub (.sum2 (.ix (.ix (.var 0) (.c (.int 1))) (.ix (.var 8) (.c (.int 0))))) (.var 2))),(.asg (.nm 6) (.op .Sub (.op .Add (.var 3) (.var 4)) (.var 6)))]
def Ny:List Stm:=[(.asg (.nm 5) (.lst .nil)),(.asg (.nm 6) (.var 3)),(.loop (.nm 7) (.rng1 (.bi .len (.cons (.ix (.var 0) (.c (.int 1))) .nil))) (lrC::lrE)),(.ret (.var 5))]
theorem Nz{es:EE}{cs:List Nat}{x one:Nat}(P:Prp es cs):(VN es.length).filter (λt=>CQ es x t&&decide (hu cs t=one))=(m8 es cs x one).toList:=by
 rw[<-Nw P];unfold Nv;rw[X7]
theorem O0(hΔ:∀ f,MonoN (Δ f)){D:Df}(hb:D.body=Ny)(hN:D.N.length=9)(hp:D.ps.length=5):Bc (f7 Δ D):=by
 intro n p a b w es cs S Q hk a9 b9 P hen hel hpn ab hno q;have hne:∀ e∈es,e.1≠e.2:=λe he=>VT (hen e he).1;have hl:=P.len;have ml:(es.map pairS).length=es.length:=VA ..;unfold f7;rw[hb,hN];refine⟨hp.symm,by show 0<=100000;decide,_,rfl,?_⟩;have h5:(S++[SO.lst []])[S.length]?=some (SO.lst []):=a8;have GS:=(Gw.refl S).push (o:=SO.lst []);refine⟨_,rfl,_,_,rfl,rfl,_,rfl,_,rfl,⟨by rw[ml];omega,by rw[ml];omega⟩,?_⟩;rw[ml];generalize S++[SO.lst []]=S4 at *;generalize hl5:S.length=l at *
 have done:∀(r:List Nat) (x one other:Nat) (S5:Sto),RwI es cs a b p r x one other->r++rwF es cs (es.length+1 - r.length) x one other=rwF es cs (es.length+1) p a b->m8 es cs x one=none->Gw S S5->S5[l]?=some (.lst (f6 r))->Q (.loc l) S5:=by
  intro r x one other S5 R er hz G hr;have rl:=R.len
  have e0:rwF es cs (es.length+1 - r.length) x one other=[]:=by
   rw[show es.length+1 - r.length=(es.length - r.length)+1 by omega];unfold rwF;rw[hz]
  rw[e0,Vy]at er;exact q l S5 G (VH _) (by rw[hr,er])
 refine r6 (g9 hΔ _) (λj ρ S5=>∃(r:List Nat) (x one other:Nat) (o7 o8:Option SV),ρ=[some (i5 n es),some w,some (.int (x:Nat)),some (.int (a:Nat)),some (.int (b:Nat)),some (.loc l),some (.int (one:Nat)),o7,o8]/\RwI es cs a b p r x one other/\x<n/\r++rwF es cs (es.length+1 - r.length) x one other=rwF es cs (es.length+1) p a b/\r.length=j/\Gw S S5/\S5[l]?=some (.lst (f6 r))) ⟨[],p,a,b,none,none,rfl,RwI.nil hno,hpn,rfl,rfl,GS,h5⟩ (λ_ _ _ _=>trivial) ?_ ?_
 ·rintro j z ρ S5 E hE hR hz ⟨r,x,one,other,o7,o8,rfl,R,xn,er,rj,G,hr⟩;have rl:=R.len;have hk':=hk.gw G;have o9':one<1000:=by rcases R.ab.1 with z | z<;>rw[z]<;>assumption
  refine⟨_,rfl,_,_,rfl,rfl,_,rfl,?_⟩;refine i4 (j6 hΔ _).2 (a5 hΔ _).1 (λj ys S6=>S6=S5/\ys=f6 ((VN j).filter λt=>CQ es x t&&decide (hu cs t=one))) ⟨rfl,rfl⟩ (λ_ _ _ _=>trivial) ?_ ?_
  ·rintro i y ys S6 hy ⟨rfl,rfl⟩;obtain⟨y',hy',rfl⟩:=BZ hy;obtain⟨e,he,rfl⟩:=A8 hy';have il:=(gM he).1;have fs:=Gz (λt=>CQ es x t&&decide (hu cs t=one)) i;have fl:=CL (λt=>CQ es x t&&decide (hu cs t=one)) i;have hc:=u7 (cs:=cs) (t:=i) (by omega);have hEe:CQ es x i=(decide (e.1=x)||decide (e.2=x)):=by unfold CQ;rw[he]
   refine⟨_,rfl,_,rfl,rfl,_,rfl,rfl,_,rfl,?_⟩;show if inS (.int x) [.int e.1,.int e.2]=true then _ else _
   rw[Bn,<-hEe];cases hh:CQ es x i with
   | false=>
     rw[hh,YU,iG (by decide),Vy]at fs;exact ifF rfl (ifF rfl ⟨rfl,by rw[fs]⟩)
   | true=>
     rw[hh,XZ]at fs;refine ifT rfl ⟨_,rfl,_,rfl,_,_,hk'.seq,f8 (p0 hc),_,rfl,Qz o9' ⟨_,rfl,ifD (λz=>?_) (λz=>⟨rfl,?_⟩)⟩⟩
     ·rw[iP (decide_eq_true z)]at fs;exact⟨_,rfl,by rw[j8];show _<100000;omega,rfl,by rw[fs,t9];rfl⟩
     ·rw[iG (by simpa using z),Vy]at fs;rw[fs]
  rintro ys S6 ⟨rfl,rfl⟩;rw[Bm,ml,Nz P];have hr2:=j4 (o:=SO.lst (f6 (m8 es cs x one).toList)) hr;have G2:=G.push (o:=SO.lst (f6 (m8 es cs x one).toList));have h8:(S6++[SO.lst (f6 (m8 es cs x one).toList)])[S6.length]?=_:=a8;have s7:l<S6.length:=(gM hr).1;show wSs Δ lrE _ [some (i5 n es),some w,some (.int (x:Nat)),some (.int (a:Nat)),some (.int (b:Nat)),some (.loc l),some (.int (one:Nat)),some z,some (.loc S6.length)] (S6++[SO.lst (f6 (m8 es cs x one).toList)]);generalize S6++[SO.lst (f6 (m8 es cs x one).toList)]=S8 at *;generalize S6.length=l8 at *;cases hz:m8 es cs x one with
  | none=>
    rw[hz]at h8;refine⟨_,rfl,by show 0<=100000;decide,_,_,j4 h8,a8,.inr (.inr rfl),_,rfl,ifT rfl ?_⟩;exact⟨_,rfl,hR _ _ (done r x one other _ R er hz G2.push (j4 hr2))⟩
  | some t=>
    rw[hz]at h8;obtain⟨⟨e,he,hx⟩,hcx⟩:=m7 hz;have hee:=hen e (VC he);have ge:es.getD t (0,0)=e:=by rw[VD,he];rfl
    have R':=R.step P ab he hx (hne e (VC he)) hcx;have fn:y0 e x<n:=by unfold y0;split<;>omega
    have e1:rwF es cs (es.length+1 - r.length) x one other=t::rwF es cs (es.length+1 - (r++[t]).length) (y0 e x) other one:=by
     rw[show es.length+1 - r.length=(es.length - r.length)+1 by omega,show es.length+1 - (r++[t]).length=es.length - r.length by rw[VB];simp]
     conv=>lhs;unfold rwF
     rw[hz];dsimp only;rw[ge]
    refine⟨_,rfl,by show 0<=100000;decide,_,_,j4 h8,a8,.inr (.inr rfl),_,rfl,ifF rfl (c4 ?_)⟩;have hr3:=j4 (o:=SO.lst []) hr2;have h83:=j4 (o:=SO.lst []) h8;have G3:=G2.push (o:=SO.lst []);generalize S8++[SO.lst []]=S9 at *;refine⟨_,rfl,⟨_,_,rfl,hr3⟩,_,rfl,_,_,a7 h83,rfl,_,hr3,by rw[j8];show _<100000;omega,?_⟩;have h3:(S9.set l (.lst (f6 r++[.int (t:Nat)])))[l]?=some (.lst (f6 (r++[t]))):=by rw[n6 hr3,t9];rfl
    have G4:Gw S (S9.set l (.lst (f6 r++[.int (t:Nat)]))):=G3.put (Y8 hl5);have h84:(S9.set l (.lst (f6 r++[.int (t:Nat)])))[l8]?=some (.lst [.int (t:Nat)]):=by rw[AH (by omega)];exact h83
    generalize S9.set l (.lst (f6 r++[.int (t:Nat)]))=S10 at *;have ge2:(es.map pairS)[t]?=some (pairS e):=by rw[VI,he];rfl
    refine⟨_,rfl,_,_,rfl,rfl,_,rfl,_,_,a7 h84,rfl,_,_,rfl,f8 ge2,(e.1:Int),(e.2:Int),rfl,_,rfl,?_⟩;refine⟨_,rfl,_,rfl,_,rfl,?_⟩
    have fin:∀ z1 z2:Int,z1=((y0 e x:Nat):Int)->z2=((other:Nat):Int)->E.nx [some (i5 n es),some w,some (.int z1),some (.int (a:Nat)),some (.int (b:Nat)),some (.loc l),some (.int z2),some z,some (.loc l8)] S10:=by
     rintro _ _ rfl rfl;exact hE _ _ ⟨r++[t],y0 e x,other,one,_,_,rfl,R',fn,by rw[<-er,e1];simp,by rw[VB,rj];rfl,G4,h3⟩
    refine fin _ _ ?_ ?_
    ·unfold y0;split<;>omega
    ·have:=R.d1;have:=R.d2;by_cases c:r.length % 2=0
     ·rw[iP c]at *;omega
     ·rw[iG c]at *;omega
 ·rintro ρ S5 ⟨r,x,one,other,o7,o8,rfl,R,xn,er,rj,G,hr⟩;rw[k8,show((es.length:Int) - 0).toNat=es.length by omega]at rj
  have hz:m8 es cs x one=none:=by
   cases hz:m8 es cs x one with
   | none=>rfl
   | some t=>
     obtain⟨⟨e,he,hx⟩,hcx⟩:=m7 hz;have:=(R.step P ab he hx (hne e (VC he)) hcx).len;rw[VB]at this;simp at this;omega
  exact⟨_,rfl,done r x one other _ R er hz G hr⟩
def O6:List Stm:=[(.ret (.comp ["_law_tie","_law_pair"] ["_law_place","_law_hueing"] [2,1] (.tup (.cons (.nm 0) (.cons (.nm 1) .nil))) (.enum (.ix (.var 0) (.c (.int 1)))) (.yes (.and (.cmp .In (.var 2) (.var 1)) (.cmp .IsNot (.ix (.var 3) (.var 0)) (.c .non)))) (.ix (.var 3) (.var 0))))]
def Fa(s:Sn):Prop:=∀{n p:Nat} {w:SV} {es:EE} {cs:List Nat} {S:Sto} {Q:QE},Hv S w cs->cs.length=es.length->es.length<=60->(∀(l:Nat) (L:List Nat) (S':Sto),Gw S S'->S'[l]?=some (.lst (f6 L))->(∀ h∈L,∃ u,AtP es u p/\hu cs u=h)->Q (.loc l) S')->s [i5 n es,w,.int (p:Nat)] S Q
theorem O7(hΔ:∀ f,MonoN (Δ f)){D:Df}(hb:D.body=O6)(hN:D.N.length=3)(hp:D.ps.length=3):Fa (f7 Δ D):=by
 intro n p w es cs S Q hk hl hel q;have ml:(es.map pairS).length=es.length:=VA ..;unfold f7;rw[hb,hN];refine⟨hp.symm,_,rfl,_,_,rfl,rfl,_,rfl,?_⟩;refine i4 (j6 hΔ _).2 (a5 hΔ _).1 (λj ys S2=>S2=S/\∃ L:List Nat,ys=f6 L/\L.length<=j/\∀ h∈L,∃ u,AtP es u p/\hu cs u=h) ⟨rfl,[],rfl,VH _,(λ_ h=>nomatch h)⟩ (λ_ _ _ _=>trivial) ?_ ?_
 ·rintro i y ys S2 hy ⟨rfl,L,rfl,ll,lm⟩;obtain⟨y',hy',rfl⟩:=BZ hy;obtain⟨e,he,rfl⟩:=A8 hy';have il:=(gM he).1;have hc:=u7 (cs:=cs) (t:=i) (by omega);have hEe:CQ es p i=(decide (e.1=p)||decide (e.2=p)):=by unfold CQ;rw[he]
  refine⟨_,rfl,_,rfl,rfl,_,rfl,rfl,_,rfl,?_⟩;show if inS (.int p) [.int e.1,.int e.2]=true then _ else _
  rw[Bn,<-hEe];cases hh:CQ es p i with
  | false=>exact ifF rfl (ifF rfl ⟨rfl,L,rfl,by omega,lm⟩)
  | true=>
    refine ifT rfl ⟨_,rfl,_,rfl,_,_,hk.seq,f8 (p0 hc),.inl ⟨rfl,_,rfl,?_⟩⟩;show if (if true=true then !y9 (pS (hu cs i)) else y9 (pS (hu cs i)))=true then _ else _
    rw[iP rfl,C5,YE];refine ifD (λz=>?_) (λz=>⟨rfl,L,rfl,by omega,lm⟩);refine⟨_,rfl,_,rfl,_,_,hk.seq,f8 (p0 hc),by rw[j8];show _<100000;omega,rfl,L++[hu cs i],?_,by rw[VB];simp;omega,λh hh'=>?_⟩
    ·rw[t9,n8 z];rfl
    ·rcases VY.mp hh' with y | y
     ·exact lm h y
     ·rw[VU.mp y];exact⟨i,hasE_iff.mp hh,rfl⟩
 ·rintro ys S2 ⟨rfl,L,rfl,ll,lm⟩;exact q _ L _ (Gw.refl S2).push a8 lm
def sA:List Stm:=[(.asg (.nm 3) (.bi .list (.cons (.var 1) .nil))),(.asg (.nm 4) (.bi .len (.cons (.ix (.var 0) (.c (.int 1))) .nil)))]
noncomputable def sR(kr kh:Nat):List Stm:=[(.asg (.tup (.cons (.nm 5) (.cons (.nm 6) (.cons (.nm 7) .nil)))) (.slc (.var 2) (.yes (.c (.int 1))) .no)),(.iff (.or (.not (.chn .LtE .Lt (.c (.int 0)) (.var 5) (.ix (.var 0) (.c (.int 0))))) (.or (.cmp .Eq (.var 6) (.var 7)) (.cmp .In (.var 7) (.call kh (.cons (.var 0) (.cons (.var 1) (.cons (.var 5) .nil))))))) [(.ret (.c .non))] []),(.loop (.nm 8) (.seq (.call kr (.cons (.var 0) (.cons (.var 1) (.cons (.var 5) (.cons (.var 6) (.cons (.var 7) .nil))))))) [(.put (.var 3) (.var 8) (.op .Sub (.op .Add (.var 6) (.var 7)) (.ix (.var 1) (.var 8))))]),(.ret (.var 3))]
def sW(w:Str):Ex:=(.cmp .Eq (.ix (.var 2) (.c (.int 0))) (.c (.str w)))
def sB:Stm:=(.iff (.or (.not (.chn .LtE .Lt (.c (.int 0)) (.ix (.var 2) (.c (.int 1))) (.var 4))) (.cmp .NotEq (.cmp .Is (.ix (.var 3) (.ix (.var 2) (.c (.int 1)))) (.c .non)) (sW "hue"))) [(.ret (.c .non))] [])
def sM(km:Nat):List Stm:=[(.iff (.or (.not (.chn .LtE .Lt (.c (.int 0)) (.ix (.var 2) (.c (.int 2))) (.var 4))) (.or (.cmp .IsNot (.ix (.var 3) (.ix (.var 2) (.c (.int 2)))) (.c .non)) (.not (.call km (.cons (.var 0) (.cons (.ix (.var 2) (.c (.int 1))) (.cons (.ix (.var 2) (.c (.int 2))) .nil))))))) [(.ret (.c .non))] []),(.put2 (.var 3) (.ix (.var 2) (.c (.int 1))) (.var 3) (.ix (.var 2) (.c (.int 2))) (.tup (.cons (.c .non) (.cons (.ix (.var 1) (.ix (.var 2) (.c (.int 1)))) .nil))))]
def sZ(ki:Nat):Stm:=(.ret (.ife (.call ki (.cons (.var 0) (.cons (.var 3) .nil))) (.var 3) (.c .non)))
noncomputable def HR(kr kh km ki:Nat):List Stm:=sA++[(.iff (sW "row") (sR kr kh) []),sB,(.iff (sW "hue") [(.put (.var 3) (.ix (.var 2) (.c (.int 1))) (.ix (.var 2) (.c (.int 2))))] []),(.iff (sW "drop") [(.put (.var 3) (.ix (.var 2) (.c (.int 1))) (.c .non))] []),(.iff (sW "move") (sM km) []),sZ ki]
def K3(s:Sn):Prop:=∀{n H k:Nat} {es:EE} {cs:List Nat} {st:Sp3} {S:Sto} {Q:QE},Hg H es cs->(∀ e∈es,e.1<e.2/\e.2<n)->es.length<=60->H<=1000->Ok3 n H es cs st->S[k]?=some (.lst (c8 cs))->(∀(l:Nat) (S':Sto),Gw S S'->S.length<=l->S'[l]?=some (.lst (c8 (st3 es cs st)))->Q (.loc l) S')->s [i5 n es,.loc k,v7 st] S Q
theorem R6{ki n H l:Nat}(hi:B7 (Δ ki)){es:EE}{cs:List Nat}{S0 S:Sto}{Q:QE}{o1 o2 o4 o5 o6 o7 o8:Option SV}(g:Hg H es cs)(hen:∀ e∈es,e.1<e.2/\e.2<n)(el:es.length<=60)(G:Gw S0 S)(l0:S0.length<=l)(h:S[l]?=some (.lst (c8 cs)))(q:∀(l:Nat) (S':Sto),Gw S0 S'->S0.length<=l->S'[l]?=some (.lst (c8 cs))->Q (.loc l) S'):wSs Δ [sZ ki] (w9 Q) [some (i5 n es),o1,o2,some (.loc l),o4,o5,o6,o7,o8] S:=by
 refine⟨_,rfl,_,rfl,hi hen el (Nc h (by rw[g.P.len];exact el)) λr S2 G2 e2=>?_⟩;have:r=true:=e2.mpr ⟨_,a7 h,Jp g.P⟩;subst this;exact⟨_,rfl,ifT rfl ⟨_,rfl,q l S2 (G.trans G2) l0 (G2.keep _ _ h)⟩⟩
theorem T9{es:EE}{t u:Nat}(h:∃ y,AtP es t y/\AtP es u y):Shr es t u:=by
 obtain⟨y,ht,hu'⟩:=h
 have go:∀ t,AtP es t y->endE es t y:=λt ⟨e,he,z⟩=>by
  have:AV es t=e:=by have:=CK (gM he).1;rw[he]at this;exact(oj this).symm
  unfold endE;rw[this];exact z.imp Eq.symm Eq.symm
 exact shr_end.mpr ⟨y,go t ht,go u hu'⟩
theorem Io(hΔ:∀ f,MonoN (Δ f)){kr kh km ki:Nat}(hr:Bc (Δ kr))(hh:Fa (Δ kh))(hm:HB (Δ km))(hi:B7 (Δ ki)){D:Df}(hb:D.body=HR kr kh km ki)(hN:D.N.length=9)(hp:D.ps.length=3):K3 (f7 Δ D):=by
 intro n H k es cs st S Q g hen el hH ok hk q;have kl:=(gM hk).1;have cl:=g.P.len;have ml:(es.map pairS).length=es.length:=VA ..;have g':=C6 g hen hH ok;unfold f7;rw[hb,hN];have lo:∀ c:Nat,decide ((0:Int)<=(c:Nat))=true:=λc=>decide_eq_true (by omega);have hi':∀ c d:Nat,c<d->decide (((c:Nat):Int)<(d:Nat))=true:=λc d h=>decide_eq_true (by omega);refine⟨hp.symm,_,rfl,_,a7 hk,_,rfl,_,_,rfl,rfl,_,rfl,?_⟩;rw[ml];have G1:Gw S (S++[SO.lst (c8 cs)]):=(Gw.refl S).push;have h3:(S++[SO.lst (c8 cs)])[S.length]?=some (SO.lst (c8 cs)):=a8;have hk1:=j4 (o:=SO.lst (c8 cs)) hk;have s1:(S++[SO.lst (c8 cs)]).length=S.length+1:=by simp
 cases st with
 | hue t h=>
   obtain⟨tl,h0,h1,h2⟩:=ok;have hc:=u7 (cs:=cs) (t:=t) (by omega);have hcp:(c8 cs)[t]?=some .non:=by rw[p0 hc,u8 h0]
   refine⟨_,rfl,_,_,rfl,rfl,_,rfl,ifF (decide_eq_false (by decide)) (c4 ?_)⟩;refine⟨_,rfl,_,_,rfl,rfl,_,rfl,ifT (lo t) ⟨_,rfl,_,rfl,?_⟩⟩;rw[hi' t es.length tl];refine ifF rfl ⟨_,rfl,_,rfl,_,_,rfl,rfl,_,_,a7 h3,f8 hcp,.inl ⟨rfl,_,rfl,_,_,rfl,rfl,_,rfl,ifF rfl (c4 ?_)⟩⟩;refine⟨_,rfl,_,_,rfl,rfl,_,rfl,ifT (decide_eq_true rfl) ?_⟩;refine⟨_,rfl,_,_,rfl,rfl,_,rfl,_,rfl,_,_,rfl,rfl,_,t,h3,Bk (by rw[k9];omega),?_⟩
   have h4:((S++[SO.lst (c8 cs)]).set S.length (.lst ((c8 cs).set t (.int (h:Nat)))))[S.length]?=some (.lst (c8 (st3 es cs (.hue t h)))):=by
    rw[n6 h3];show _=some (SO.lst (c8 (cs.set t h)));unfold c8;rw[XG,n8 (by omega)]
   have G2:Gw S ((S++[SO.lst (c8 cs)]).set S.length (.lst ((c8 cs).set t (.int (h:Nat))))):=G1.put (VH _);refine⟨_,rfl,_,_,rfl,rfl,_,rfl,ifF (decide_eq_false (by decide)) (c4 ?_)⟩;refine⟨_,rfl,_,_,rfl,rfl,_,rfl,ifF (decide_eq_false (by decide)) (c4 ?_)⟩;exact R6 hi g' hen el G2 (VH _) h4 q
 | move t u=>
   obtain⟨tl,ul,h1,h2,sh,h4⟩:=ok;have hc:=u7 (cs:=cs) (t:=t) (by omega);have hcp:(c8 cs)[t]?=some (.int (hu cs t:Nat)):=by rw[p0 hc,n8 (by omega)]
   have hcu:=u7 (cs:=cs) (t:=u) (by omega);have hup:(c8 cs)[u]?=some .non:=by rw[p0 hcu,u8 h2]
   refine⟨_,rfl,_,_,rfl,rfl,_,rfl,ifF (decide_eq_false (by decide)) (c4 ?_)⟩;refine⟨_,rfl,_,_,rfl,rfl,_,rfl,ifT (lo t) ⟨_,rfl,_,rfl,?_⟩⟩;rw[hi' t es.length tl];refine ifF rfl ⟨_,rfl,_,rfl,_,_,rfl,rfl,_,_,a7 h3,f8 hcp,.inl ⟨rfl,_,rfl,_,_,rfl,rfl,_,rfl,ifF rfl (c4 ?_)⟩⟩;refine⟨_,rfl,_,_,rfl,rfl,_,rfl,ifF (decide_eq_false (by decide)) (c4 ?_)⟩;refine⟨_,rfl,_,_,rfl,rfl,_,rfl,ifF (decide_eq_false (by decide)) (c4 ?_)⟩;refine⟨_,rfl,_,_,rfl,rfl,_,rfl,ifT (decide_eq_true rfl) ?_⟩;refine⟨_,rfl,_,_,rfl,rfl,_,rfl,ifT (lo u) ⟨_,rfl,_,rfl,?_⟩⟩;rw[hi' u es.length ul];refine ifF rfl ⟨_,rfl,_,rfl,_,_,rfl,rfl,_,_,a7 h3,f8 hup,.inl ⟨rfl,_,rfl,ifF rfl ?_⟩⟩;refine⟨_,rfl,_,rfl,_,_,rfl,rfl,_,rfl,_,_,rfl,rfl,hm tl ul λr er=>⟨_,rfl,?_⟩⟩;have:r=true:=er.mpr (T9 sh);subst this;refine ifF rfl (c4 ?_);refine⟨_,rfl,_,rfl,_,_,rfl,rfl,_,_,a7 hk1,f8 hcp,by show 2<=100000;decide,_,_,rfl,_,rfl,_,rfl,_,_,rfl,rfl,_,t,h3,Bk (by rw[k9];omega),?_⟩;have h31:((S++[SO.lst (c8 cs)]).set S.length (.lst ((c8 cs).set t .non)))[S.length]?=some (.lst ((c8 cs).set t .non)):=n6 h3;have G2:Gw S ((S++[SO.lst (c8 cs)]).set S.length (.lst ((c8 cs).set t .non))):=G1.put (VH _);generalize (S++[SO.lst (c8 cs)]).set S.length (.lst ((c8 cs).set t .non))=S2 at *;refine⟨_,rfl,_,rfl,_,_,rfl,rfl,_,u,h31,Bk (by rw[Vw,k9];omega),?_⟩
   have h5:(S2.set S.length (.lst (((c8 cs).set t .non).set u (.int (hu cs t:Nat)))))[S.length]?=some (.lst (c8 (st3 es cs (.move t u)))):=by
    rw[n6 h31];show _=some (SO.lst (c8 ((cs.set t (1000+t)).set u (hu cs t))));unfold c8;rw[XG,XG,n8 (show hu cs t<1000 by omega),u8 (show ¬ 1000+t<1000 by omega)]
   have G3:Gw S (S2.set S.length (.lst (((c8 cs).set t .non).set u (.int (hu cs t:Nat))))):=G2.put (VH _);exact R6 hi g' hen el G3 (VH _) h5 q
 | row p a b=>
   obtain⟨a1,b1,ab,pn,no⟩:=ok;obtain⟨x,o1,o2,R,last⟩:=Bo g.P hen ab no;have two:=CP R;refine⟨_,rfl,_,_,rfl,rfl,_,rfl,ifT (decide_eq_true rfl) ?_⟩;refine⟨_,rfl,1,rfl,?_⟩;have cut:BC [SV.str "row",.int (p:Nat),.int (a:Nat),.int (b:Nat)] (some 1) none=[.int (p:Nat),.int (a:Nat),.int (b:Nat)]:=rfl;show wTg _ (.tup (BC [SV.str "row",.int (p:Nat),.int (a:Nat),.int (b:Nat)] (some 1) none)) _ _;rw[cut];refine⟨_,rfl,_,rfl,ifT (lo p) ⟨_,rfl,_,_,rfl,rfl,_,rfl,?_⟩⟩;rw[hi' p n pn];refine ifF rfl ⟨_,rfl,_,rfl,_,rfl,ifF (decide_eq_false λz=>ab (Vm.mp z)) ⟨_,rfl,_,rfl,_,rfl,_,rfl,hh (Hv.loc hk1) cl el λl2 L S2 G2 h2 lm=>?_⟩⟩;show match BP (.loc l2) S2 with | some ms=>_ | none=>_
   rw[At h2];refine⟨rfl,_,a7 h2,Av _,_,rfl,?_⟩;show if inS (.int (b:Nat)) (f6 L)=true then _ else _
   rw[Dh,decide_eq_false (λz=>by obtain⟨u,u1,u2⟩:=lm b z;exact no u u1 u2)];refine ifF rfl (c4 ?_);have hk2:=G2.keep _ _ hk1;have h32:=G2.keep _ _ h3;refine⟨_,rfl,_,rfl,_,rfl,_,rfl,_,rfl,hr (Hv.loc hk2) (by omega) (by omega) g.P hen (by omega) pn ab no λl S4 G4 l4 h4=>⟨_,a7 h4,?_⟩⟩;have hrr:∃ r,rwF es cs (es.length+1) p a b=r:=⟨_,rfl⟩
   have f0:S4[S.length]?=some (SO.lst (c8 cs)):=G4.keep _ _ h32;have hk4:=G4.keep _ _ hk2;have GS4:Gw S S4:=(G1.trans G2).trans G4;have g2l:=G2.len;have q':∀(S':Sto),Gw S S'->S'[S.length]?=some (.lst (c8 (exL cs (rwF es cs (es.length+1) p a b) a b)))->Q (.loc S.length) S':=λS' G' h'=>q _ S' G' (VH _) h';clear q g';generalize rwF es cs (es.length+1) p a b=r at *;refine v4 (g9 hΔ _) (λi ρ S'=>∃ o8:Option SV,ρ=[some (i5 n es),some (.loc k),some (v7 (.row p a b)),some (.loc S.length),some (.int (es.length:Nat)),some (.int (p:Nat)),some (.int (a:Nat)),some (.int (b:Nat)),o8]/\On S.length S4 S'/\S'[S.length]?=some (.lst (c8 (exL cs (r.take i) a b)))) ⟨none,rfl,On.refl _ _,by rw[Ya,Jn];exact f0⟩ (λi ρ S' z=>?_) ?_ ?_
   ·obtain⟨_,_,O,_⟩:=z;show S'[l]?=S4[l]?;rw[h4];exact O.keep _ _ (by omega) h4
   ·rintro i y ρ S' hy ⟨o8,rfl,O,h5⟩;obtain⟨t,hti,rfl⟩:=B6 hy;have tr:=VC hti;have tl:=R.lt t tr;have e:r.take (i+1)=r.take i++[t]:=by rw[Vl,hti];rfl
    have hc9:hu cs t<1000:=by rcases two t tr with z | z<;>rw[z]<;>omega
    have hcp:(c8 cs)[t]?=some (.int (hu cs t:Nat)):=by rw[p0 (u7 (by omega)),n8 hc9]
    have hk5:=O.keep _ _ (by omega) hk4
    have fin:∀ z:Int,z=((if hu cs t=a then b else a:Nat):Int)->Ca (.loc S.length) (.int (t:Nat)) (.int z) S' λS6=>∃ o8:Option SV,[some (i5 n es),some (.loc k),some (v7 (.row p a b)),some (.loc S.length),some (.int (es.length:Nat)),some (.int (p:Nat)),some (.int (a:Nat)),some (.int (b:Nat)),some (.int (t:Nat))]=[some (i5 n es),some (.loc k),some (v7 (.row p a b)),some (.loc S.length),some (.int (es.length:Nat)),some (.int (p:Nat)),some (.int (a:Nat)),some (.int (b:Nat)),o8]/\On S.length S4 S6/\S6[S.length]?=some (.lst (c8 (exL cs (r.take (i+1)) a b))):=by
     rintro _ rfl;refine⟨_,t,h5,Bk (by rw[k9,AF];omega),_,rfl,O.tape,?_⟩;rw[n6 h5,e,HD (by omega)];unfold c8;rw[XG,n8 (by split<;>omega)]
    refine⟨_,rfl,_,rfl,_,rfl,_,rfl,_,_,a7 hk5,f8 hcp,_,rfl,_,rfl,fin _ ?_⟩;rcases two t tr with z | z
    ·rw[iP z];omega
    ·rw[iG (by omega)];omega
   ·rintro ρ S' ⟨o8,rfl,O,h5⟩;rw[j8,Vf]at h5;exact⟨_,rfl,q' S' (Jq GS4 O (VH _)) h5⟩
end
theorem Fb{sts:List Sp3}{i:Nat}{x:SV}(h:(sts.map v7)[i]?=some x):∃ s,sts[i]?=some s/\x=v7 s:=by
 rw[VI]at h;cases he:sts[i]? with
 | none=>rw[he]at h;cases h
 | some e=>rw[he]at h;exact⟨e,rfl,(oj h).symm⟩
theorem OkR3.at{n H:Nat}{es:EE}:∀{a:List Sp3} {cs:List Nat} {i:Nat} {s:Sp3},OkR3 n H es cs a->a[i]?=some s->Ok3 n H es (AI es cs (a.take i)) s
 | [],_,_,_,_,h=>by simp at h
 | s::a,cs,0,s',h,e=>by simp at e;subst e;exact h.1
 | s::a,cs,i+1,s',h,e=>OkR3.at (a:=a) h.2 (by simpa using e)
theorem Bq{es:EE}{cs:List Nat}{sts:List Sp3}{i:Nat}{s:Sp3}(h:sts[i]?=some s):AI es cs (sts.take (i+1))=st3 es (AI es cs (sts.take i)) s:=by
 unfold AI;rw[Vl,h];simp
theorem OkR3.hgAt{n H:Nat}{es:EE}(hen:∀ e∈es,e.1<e.2/\e.2<n)(hH:H<=1000):∀{a:List Sp3} {cs:List Nat} (i:Nat),Hg H es cs->OkR3 n H es cs a->Hg H es (AI es cs (a.take i))
 | [],_,_,g,_=>by rw[Ye];exact g
 | s::a,cs,0,g,h=>g
 | s::a,cs,i+1,g,h=>OkR3.hgAt hen hH (a:=a) i (C6 g hen hH h.1) h.2
theorem O8(n:Nat):blS (VM n (.bl true))=some (VM n true):=by
 induction n with
 | zero=>rfl
 | succ n ih=>rw[Vn,Vn];unfold blS;rw[ih];rfl
section
variable{Δ:Nat->Sn}
def wa1:Stm:=(.iff (.cmp .NotIn (.ix (.var 5) (.c (.int 0))) (.tup (.cons (.c (.str "hue")) (.cons (.c (.str "move")) (.cons (.c (.str "row")) .nil))))) [(.ret (.c .non))] [])
def wa2:Stm:=(.iff (.cmp .NotEq (.bi .len (.cons (.var 5) .nil)) (.op .Add (.c (.int 3)) (.bi .int (.cons (.cmp .Eq (.ix (.var 5) (.c (.int 0))) (.c (.str "row"))) .nil)))) [(.ret (.c .non))] [])
def wa4:Stm:=(.iff (.or (.cmp .Is (.var 4) (.c .non)) (.bi .any (.cons (.comp ["_law_hue"] ["_law_hues_here"] [3] (.nm 0) (.seq (.var 4)) .no (.and (.cmp .IsNot (.var 0) (.c .non)) (.cmp .GtE (.var 0) (.var 1)))) .nil))) [(.ret (.c .non))] [])
def waL(ks:Nat):List Stm:=[wa1,wa2,(.asg (.nm 4) (.call ks (.cons (.var 0) (.cons (.var 4) (.cons (.var 5) .nil))))),wa4]
def O9(ks:Nat):List Stm:=[(.asg (.nm 4) (.bi .list (.cons (.var 1) .nil))),(.loop (.nm 5) (.seq (.var 2)) (waL ks)),(.ret (.var 4))]
def Fc(s:Sn):Prop:=∀{n H k2:Nat} {w:SV} {es:EE} {cs:List Nat} {sts:List Sp3} {S:Sto} {Q:QE},Hv S w cs->Hg H es cs->(∀ e∈es,e.1<e.2/\e.2<n)->es.length<=60->H<=1000->S[k2]?=some (.lst (sts.map v7))->OkR3 n H es cs sts->(∀(l:Nat) (S':Sto),Gw S S'->S.length<=l->S'[l]?=some (.lst (c8 (AI es cs sts)))->Q (.loc l) S')->s [i5 n es,w,.loc k2,.int (H:Nat)] S Q
theorem OA(hΔ:∀ f,MonoN (Δ f)){ks:Nat}(hs:K3 (Δ ks)){D:Df}(hb:D.body=O9 ks)(hN:D.N.length=6)(hp:D.ps.length=4):Fc (f7 Δ D):=by
 intro n H k2 w es cs sts S Q hw g hen el hH h2 ok q;have k2l:=(gM h2).1;unfold f7;rw[hb,hN];refine⟨hp.symm,_,rfl,_,hw.seq,?_⟩;have G1:Gw S (S++[SO.lst (c8 cs)]):=(Gw.refl S).push;refine⟨_,rfl,_,a7 (j4 h2),?_⟩;refine v4 (g9 hΔ _) (λi ρ S'=>∃(c:Nat) (o5:Option SV),ρ=[some (i5 n es),some w,some (.loc k2),some (.int (H:Nat)),some (.loc c),o5]/\Gw S S'/\S.length<=c/\S'[c]?=some (.lst (c8 (AI es cs (sts.take i))))) ⟨S.length,none,rfl,G1,VH _,a8⟩ (λ_ _ S' z=>?_) ?_ ?_
 ·obtain⟨_,_,_,G,_⟩:=z;show S'[k2]?=(S++[SO.lst (c8 cs)])[k2]?;rw[j4 h2];exact G.keep _ _ h2
 ·rintro i x ρ S' hx ⟨c,o5,rfl,G,cl,hc⟩;obtain⟨s,hsi,rfl⟩:=Fb hx;have gi:=ok.hgAt hen hH i g;have oki:=ok.at hsi;have gs:=ok.hgAt hen hH (i+1) g;rw[Bq hsi]at gs
  have w1:∀(E:EndsS) (st:List Stm) (S1:Sto),wSs Δ st E [some (i5 n es),some w,some (.loc k2),some (.int (H:Nat)),some (.loc c),some (v7 s)] S1->wSs Δ (wa1::wa2::st) E [some (i5 n es),some w,some (.loc k2),some (.int (H:Nat)),some (.loc c),some (v7 s)] S1:=by
   intro E st S1 h;cases s with
   | hue t h'=>
     refine⟨_,rfl,_,_,rfl,rfl,by show 3<=100000;decide,rfl,_,rfl,rfl,_,rfl,ifF (by decide) (c4 ?_)⟩;exact⟨_,rfl,_,rfl,_,rfl,_,_,rfl,rfl,_,rfl,ifF (show(!decide (((3:Nat):Int)=3+if decide (("hue":Str)="row")=true then 1 else 0))=false by decide) (c4 h)⟩
   | move t u=>
     refine⟨_,rfl,_,_,rfl,rfl,by show 3<=100000;decide,rfl,_,rfl,rfl,_,rfl,ifF (by decide) (c4 ?_)⟩;exact⟨_,rfl,_,rfl,_,rfl,_,_,rfl,rfl,_,rfl,ifF (show(!decide (((3:Nat):Int)=3+if decide (("move":Str)="row")=true then 1 else 0))=false by decide) (c4 h)⟩
   | row p a b=>
     refine⟨_,rfl,_,_,rfl,rfl,by show 3<=100000;decide,rfl,_,rfl,rfl,_,rfl,ifF (by decide) (c4 ?_)⟩;exact⟨_,rfl,_,rfl,_,rfl,_,_,rfl,rfl,_,rfl,ifF (by simp only[Vb,W6];decide) (c4 h)⟩
  refine w1 _ _ _ ?_;refine⟨_,rfl,_,rfl,_,rfl,hs gi hen el hH oki hc λl S2 G2 l2 h3=>?_⟩;have dl:(st3 es (AI es cs (sts.take i)) s).length<=60:=by rw[gs.P.len];exact el
  have cd:∀ u,u<es.length->hu (st3 es (AI es cs (sts.take i)) s) u<1000->hu (st3 es (AI es cs (sts.take i)) s) u<H:=λu ul z=>by
   rcases gs.cod u ul with y | y<;>omega
  rw[<-Bq hsi]at h3 dl cd gs;generalize AI es cs (sts.take (i+1))=ds at *;refine⟨_,rfl,.inl ⟨rfl,_,rfl,ifF rfl ⟨_,rfl,_,a7 h3,?_⟩⟩⟩;refine i4 (j6 hΔ _).2 (a5 hΔ _).1 (λj ys S3=>S3=S2/\ys=VM j (.bl false)) ⟨rfl,rfl⟩ (λ_ _ _ z=>by rw[z.1];exact rfl) ?_ ?_
  ·rintro j x ys S3 hx ⟨rfl,rfl⟩;obtain⟨c',hc',rfl⟩:=CO hx;have jl:=(gM hc').1;have hj:hu ds j=c':=by show ds.getD j 0=_;rw[VD,hc'];rfl
   have ln:(VM j (SV.bl false)).length<big:=by rw[WW];show _<100000;omega
   refine⟨_,rfl,.inl ⟨rfl,_,rfl,?_⟩⟩;show if (if true=true then !y9 (pS c') else y9 (pS c'))=true then _ else _
   rw[iP rfl,C5,YE];refine ifD (λz=>?_) (λz=>⟨ln,rfl,by rw[Wy]⟩);have lt:=cd j (by rw[<-gs.P.len];exact jl) (by rw[hj];exact z);rw[hj]at lt;refine⟨_,rfl,_,rfl,?_⟩;rw[n8 z];refine⟨ln,rfl,?_⟩;show VM j (SV.bl false)++[SV.bl (decide (((H:Nat):Int)<=((c':Nat):Int)))]=_;rw[decide_eq_false (by omega),Wy]
  ·rintro ys S3 ⟨rfl,rfl⟩;refine⟨_,_,nofun,a7 a8,Q7 _,_,rfl,?_⟩;rw[show ∀ n,(VM n false).any id=false from λn=>by simp];exact ifF rfl (c4 ⟨l,_,rfl,(G.trans G2).push,Vc G.len l2,j4 h3⟩)
 ·rintro ρ S' ⟨c,o5,rfl,G,cl,hc⟩;rw[VA,Vf]at hc;exact⟨_,rfl,q c S' G cl hc⟩
def go1:Stm:=(.iff (.or (.not (.bi .isi (.cons (.var 3) (.cons (.tyc .list) .nil)))) (.not (.bi .all (.cons (.comp ["_law_step"] [] [] (.nm 0) (.seq (.var 3)) .no (.bi .isi (.cons (.var 0) (.cons (.tyc .tuple) .nil)))) .nil)))) [(.ret (.c .non))] [])
def go3:Stm:=(.iff (.or (.cmp .Is (.var 5) (.c .non)) (.cmp .Is (.ix (.var 5) (.var 2)) (.c .non))) [(.ret (.c .non))] [])
def goL:List Stm:=[(.iff (.and (.cmp .NotEq (.var 6) (.var 2)) (.cmp .NotEq (.cmp .Is (.var 7) (.c .non)) (.cmp .Is (.ix (.var 5) (.var 6)) (.c .non)))) [(.ret (.c .non))] [])]
def R7(kw:Nat):List Stm:=[go1,(.asg (.nm 5) (.call kw (.cons (.var 0) (.cons (.var 1) (.cons (.var 3) (.cons (.var 4) .nil)))))),go3,(.loop (.tup (.cons (.nm 6) (.cons (.nm 7) .nil))) (.enum (.var 1)) goL),(.ret (.var 5))]
def Fd(s:Sn):Prop:=∀{n H t k2:Nat} {w:SV} {es:EE} {cs:List Nat} {sts:List Sp3} {S:Sto} {Q:QE},Hv S w cs->Hg H es cs->(∀ e∈es,e.1<e.2/\e.2<n)->es.length<=60->H<=1000->S[k2]?=some (.lst (sts.map v7))->sts.length<=1000->OkR3 n H es cs sts->LF H es cs (AI es cs sts) t->t<es.length->(∀(l:Nat) (S':Sto),Gw S S'->S.length<=l->S'[l]?=some (.lst (c8 (AI es cs sts)))->Q (.loc l) S')->s [i5 n es,w,.int (t:Nat),.loc k2,.int (H:Nat)] S Q
theorem QL(hΔ:∀ f,MonoN (Δ f)){kw:Nat}(hw':Fc (Δ kw)){D:Df}(hb:D.body=R7 kw)(hN:D.N.length=8)(hp:D.ps.length=5):Fd (f7 Δ D):=by
 intro n H t k2 w es cs sts S Q hw g hen el hH h2 sl ok gets tl q;have g2:=OkR3.hg hen hH g ok;unfold f7;rw[hb,hN];refine⟨hp.symm,_,rfl,_,nofun,Dd h2,_,rfl,ifF rfl ⟨_,rfl,_,a7 h2,?_⟩⟩;refine i4 (j6 hΔ _).2 (a5 hΔ _).1 (λj ys S2=>S2=S/\ys=VM j (.bl true)) ⟨rfl,rfl⟩ (λ_ _ _ z=>by rw[z.1];exact rfl) ?_ ?_
 ·rintro j x ys S2 hx ⟨rfl,rfl⟩;obtain⟨s,hs,rfl⟩:=Fb hx;have jl:=(gM hs).1;have ln:(VM j (SV.bl true)).length<big:=by rw[WW];show _<100000;omega
  have e:VM j (SV.bl true)++[SV.bl true]=VM (j+1) (.bl true):=by rw[Wy]
  cases s<;>exact⟨_,rfl,_,nofun,rfl,ln,rfl,e⟩
 rintro ys S2 ⟨rfl,rfl⟩;refine⟨_,_,nofun,a7 a8,O8 _,_,rfl,?_⟩;rw[Je];refine ifF rfl (c4 ?_);have G1:=(Gw.refl S2).push (o:=SO.lst (VM (sts.map v7).length (.bl true)));have h21:=G1.keep _ _ h2;have hw1:=hw.gw G1;generalize S2++[SO.lst (VM (sts.map v7).length (.bl true))]=S1 at *;refine⟨_,rfl,_,rfl,_,rfl,_,rfl,hw' hw1 g hen el hH h21 ok λl S3 G3 l3 h3=>?_⟩;have ds:=g2.P.len;have q':∀ S',Gw S3 S'->Q (.loc l) S':=λS' G'=>q l S' ((G1.trans G3).trans G') (Vc G1.len l3) (G'.keep _ _ h3);generalize AI es cs sts=dd at *;have gt:∀ u,u<es.length->(c8 dd)[u]?=some (pS (hu dd u)):=λu ul=>p0 (u7 (by omega));have nt:y9 (pS (hu dd t))=false:=by rw[C5,decide_eq_true (show hu dd t<1000 by have:=gets.1;omega)];rfl
 refine⟨_,rfl,.inl ⟨rfl,_,rfl,ifF rfl ⟨_,rfl,_,rfl,_,_,a7 h3,f8 (gt t tl),.inl ⟨rfl,_,rfl,ifF nt (c4 ?_)⟩⟩⟩⟩;have hw3:=hw1.gw G3;refine⟨_,rfl,_,hw3.seq,?_⟩;refine r6 (g9 hΔ _) (λj ρ S4=>S4=S3/\∃ o6 o7:Option SV,ρ=[some (i5 n es),some w,some (.int (t:Nat)),some (.loc k2),some (.int (H:Nat)),some (.loc l),o6,o7]) ⟨rfl,none,none,rfl⟩ (λ_ _ _ z=>by rw[z.1];cases w<;>first | exact rfl | exact trivial) ?_ ?_
 ·rintro j x ρ S4 E hE hR hx ⟨rfl,o6,o7,rfl⟩;obtain⟨y,hy,rfl⟩:=BZ hx;obtain⟨c,hc,rfl⟩:=CO hy;have jl:j<es.length:=by have:=(gM hc).1;rw[g.P.len]at this;exact this
  have hj:hu cs j=c:=by show cs.getD j 0=_;rw[VD,hc];rfl
  refine⟨_,rfl,_,rfl,_,rfl,?_⟩;by_cases jt:j=t
  ·rw[decide_eq_true (show((j:Nat):Int)=((t:Nat):Int) by rw[jt])];exact ifF rfl (ifF rfl (c4 (hE _ _ ⟨rfl,_,_,rfl⟩)))
  ·rw[decide_eq_false (show ¬ ((j:Nat):Int)=((t:Nat):Int) from λz=>jt (Vm.mp z))];refine ifT rfl ⟨_,rfl,.inl ⟨rfl,_,rfl,_,rfl,_,_,a7 h3,f8 (gt j jl),.inl ⟨rfl,_,rfl,?_⟩⟩⟩
   have same:y9 (pS c)=y9 (pS (hu dd j)):=by
    rw[C5,C5,<-hj]
    congr 1
    rw[decide_eq_decide];have a1:=g.cod j jl;have a2:=g2.cod j jl;have a3:=gets.2 j jl jt;omega
   show if (!decide (y9 (pS c)=y9 (pS (hu dd j))))=true then _ else _
   rw[decide_eq_true same];exact ifF rfl (c4 (hE _ _ ⟨rfl,_,_,rfl⟩))
 ·rintro ρ S4 ⟨rfl,o6,o7,rfl⟩;exact⟨_,rfl,q' S4 (Gw.refl _)⟩
end
theorem Dv{n H t:Nat}{es:EE}{cs:List Nat}(tl:t<es.length):(Ep es cs t H).length<=es.length+1:=by
 unfold Ep;split
 ·exact W8 _
 obtain⟨e,he⟩:∃ e,es[t]?=some e:=⟨_,VE tl⟩
 have ge:es.getD t (0,0)=e:=by rw[VD,he];rfl
 obtain⟨I,M⟩:=FW (es:=es) (cs:=cs) (p:=e.1) (H:=H) (t0:=t) (es.length+1) [(t,none)] (FanI.one ⟨e,he,.inl rfl⟩) (by show es.length<1+(es.length+1);omega);have fl:=I.len;unfold Am;rw[ge];generalize Bs es cs e.1 H (es.length+1) [(t,none)]=F at *;cases h1:t3 es cs e.1 H F with
 | some s=>exact YC (Be (n:=n) (t0:=t) (cs:=cs) fl h1)
 | none=>
   dsimp only;cases h2:v6 es cs e.1 H F with
   | none=>exact W8 _
   | some x=>
     dsimp only;cases h3:t3 es (st3 es cs (.row x.2 ((frL es cs e.1 H).headD 0) x.1)) e.1 H F with
     | none=>show 1<=es.length+1;omega
     | some s=>exact Xh (Be (n:=n) (t0:=t) (cs:=cs) fl h3)
theorem Uh{c d:Nat}{S:Sto}{Q:QE}(q:∀ r:Bool,(c=d->r=true)->Q (.bl r) S):Ak .Eq (pS c) (pS d) S Q:=by
 by_cases z:c<1000
 ·by_cases y:d<1000
  ·rw[n8 z,n8 y];exact q _ λe=>decide_eq_true (by rw[e])
  ·rw[n8 z,u8 y];exact q false λe=>absurd (e▸z) y
 ·by_cases y:d<1000
  ·rw[u8 z,n8 y];exact q false λe=>absurd (e▸y) z
  ·rw[u8 z,u8 y];exact q true λ_=>rfl
def nm1(es:EE)(cs:List Nat):Sp3->List Nat
 | .hue t _=>[t]
 | .move t u=>[t,u]
 | .row p a b=>rwF es cs (es.length+1) p a b
theorem OB{n H:Nat}{es:EE}{cs:List Nat}(g:Hg H es cs){s:Sp3}(ok:Ok3 n H es cs s){u:Nat}(ul:u<es.length)(h:u∉nm1 es cs s):hu (st3 es cs s) u=hu cs u:=by
 have pl:=g.P.len;cases s with
 | hue t h'=>
   have e:hu (st3 es cs (.hue t h')) u=if u=t then h' else hu cs u:=Dl (by have:=ok.1;omega)
   rw[e,iG (λz=>h (by rw[z];exact VQ ..))]
 | move t v=>
   rw[FV (by have:=ok.1;omega) (by have:=ok.2.1;omega),iG (λz=>h (by rw[z];show v∈[t,v];simp)),iG (λz=>h (by rw[z];show t∈[t,v];simp))]
 | row p a b=>
   show hu (exL cs _ a b) u=_;rw[D5 g ul,iG (show ¬ u∈rwF es cs (es.length+1) p a b from h)]
section
variable{Δ:Nat->Sn}
def sd1(kr:Nat):Stm:=(.iff (.cmp .Eq (.ix (.var 6) (.c (.int 0))) (.c (.str "row"))) [(.asg (.nm 4) (.op .Add (.var 4) (.call kr (.cons (.var 3) (.cons (.var 5) (.cons (.ix (.var 6) (.c (.int 1))) (.cons (.ix (.var 6) (.c (.int 2))) (.cons (.ix (.var 6) (.c (.int 3))) .nil))))))))] [(.asg (.nm 4) (.op .Add (.var 4) (.comp ["_law_one"] [] [] (.nm 0) (.seq (.slc (.var 6) (.yes (.c (.int 1))) (.yes (.op .Sub (.c (.int 3)) (.bi .int (.cons (.cmp .Eq (.ix (.var 6) (.c (.int 0))) (.c (.str "hue"))) .nil)))))) .no (.var 0))))])
def K4(kr ks:Nat):List Stm:=[(.asg (.nm 4) (.lst .nil)),(.asg (.nm 5) (.bi .list (.cons (.var 0) .nil))),(.loop (.nm 6) (.seq (.var 2)) [sd1 kr,(.asg (.nm 5) (.call ks (.cons (.var 3) (.cons (.var 5) (.cons (.var 6) .nil)))))]),(.ret (.bi .all (.cons (.comp ["_law_tie"] ["_law_before","_law_here","_law_named"] [0,1,4] (.nm 0) (.rng1 (.bi .len (.cons (.var 1) .nil))) .no (.or (.cmp .Eq (.ix (.var 1) (.var 0)) (.ix (.var 2) (.var 0))) (.cmp .In (.var 0) (.var 3)))) .nil)))]
def Dw(s:Sn):Prop:=∀{n H k0 k1 k2:Nat} {es:EE} {cs:List Nat} {sts:List Sp3} {S:Sto} {Q:QE},Hg H es cs->(∀ e∈es,e.1<e.2/\e.2<n)->es.length<=60->H<=1000->S[k0]?=some (.lst (c8 cs))->S[k1]?=some (.lst (c8 (AI es cs sts)))->S[k2]?=some (.lst (sts.map v7))->sts.length<=1000->OkR3 n H es cs sts->(∀ S',Gw S S'->Q (.bl true) S')->s [.loc k0,.loc k1,.loc k2,i5 n es] S Q
theorem TB(hΔ:∀ f,MonoN (Δ f)){kr:Nat}(hr:Bc (Δ kr)){E:EndsS}{st:List Stm}{n H c k4:Nat}{es:EE}{cs L:List Nat}{s:Sp3}{S:Sto}{o0 o1 o2:Option SV}(g:Hg H es cs)(hen:∀ e∈es,e.1<e.2/\e.2<n)(el:es.length<=60)(hH:H<=1000)(ok:Ok3 n H es cs s)(hc:S[c]?=some (.lst (c8 cs)))(h4:S[k4]?=some (.lst (f6 L)))(ll:L.length<=62000)
 (q:∀(k:Nat) (S':Sto) (M:List Nat),Gw S S'->S'[k]?=some (.lst (f6 (L++M)))->M.length<=62->(∀ u∈nm1 es cs s,u∈M)->wSs Δ st E [o0,o1,o2,some (i5 n es),some (.loc k),some (.loc c),some (v7 s)] S'):wSs Δ (sd1 kr::st) E [o0,o1,o2,some (i5 n es),some (.loc k4),some (.loc c),some (v7 s)] S:=by
 cases s with
 | hue t h=>
   refine⟨_,rfl,_,_,rfl,rfl,_,rfl,ifF (decide_eq_false (by decide)) ?_⟩;refine⟨_,rfl,_,rfl,1,rfl,_,rfl,_,_,rfl,rfl,_,rfl,?_⟩;have cut:seqS (.tup (BC [SV.str "hue",.int (t:Nat),.int (h:Nat)] (some 1) (some (3 - if decide (("hue":Str)="hue")=true then 1 else 0)))) S=some [.int (t:Nat)]:=rfl;refine⟨_,cut,?_⟩;refine i4 (j6 hΔ _).2 (a5 hΔ _).1 (λj ys S2=>S2=S/\ys=f6 ([t].take j)) ⟨rfl,rfl⟩ (λ_ _ _ _=>trivial) ?_ ?_
   ·rintro j x ys S2 hx ⟨rfl,rfl⟩;have j0:j=0:=by have:=(gM hx).1;simp at this;omega
    subst j0;cases hx;exact⟨_,rfl,by show 0<100000;decide,rfl,rfl⟩
   ·rintro ys S2 ⟨rfl,rfl⟩;refine⟨_,_,j4 h4,a8,by rw[j8];show _<=100000;simp[f6];omega,?_⟩;refine q _ _ [t] (Gw.refl _).push.push ?_ (by simp) λu hu'=>hu';rw[a8,t9];rfl
 | move t h=>
   refine⟨_,rfl,_,_,rfl,rfl,_,rfl,ifF (decide_eq_false (by decide)) ?_⟩;refine⟨_,rfl,_,rfl,1,rfl,_,rfl,_,_,rfl,rfl,_,rfl,?_⟩;have cut:seqS (.tup (BC [SV.str "move",.int (t:Nat),.int (h:Nat)] (some 1) (some (3 - if decide (("move":Str)="hue")=true then 1 else 0)))) S=some [.int (t:Nat),.int (h:Nat)]:=rfl;refine⟨_,cut,?_⟩;refine i4 (j6 hΔ _).2 (a5 hΔ _).1 (λj ys S2=>S2=S/\ys=f6 ([t,h].take j)) ⟨rfl,rfl⟩ (λ_ _ _ _=>trivial) ?_ ?_
   ·rintro j x ys S2 hx ⟨rfl,rfl⟩;have j0:j=0\/j=1:=by have:=(gM hx).1;simp at this;omega
    rcases j0 with rfl | rfl<;>cases hx
    ·exact⟨_,rfl,by show 0<100000;decide,rfl,rfl⟩
    ·exact⟨_,rfl,by show 1<100000;decide,rfl,rfl⟩
   ·rintro ys S2 ⟨rfl,rfl⟩;refine⟨_,_,j4 h4,a8,by rw[j8];show _<=100000;simp[f6];omega,?_⟩;refine q _ _ [t,h] (Gw.refl _).push.push ?_ (by simp) λu hu'=>hu';rw[a8,t9];rfl
 | row p a b=>
   obtain⟨a1,b1,ab,pn,no⟩:=ok;obtain⟨x,o1',o2',R,last⟩:=Bo g.P hen ab no;have rl:=R.len;refine⟨_,rfl,_,_,rfl,rfl,_,rfl,ifT (decide_eq_true rfl) ?_⟩;refine⟨_,rfl,_,rfl,_,rfl,_,rfl,_,_,rfl,rfl,_,rfl,_,_,rfl,rfl,_,rfl,_,_,rfl,rfl,hr (Hv.loc hc) (by omega) (by omega) g.P hen (by omega) pn ab no λl S2 G2 l2 h2=>⟨_,_,G2.keep _ _ h4,h2,by rw[j8,j8];show _<=100000;omega,?_⟩⟩;refine q _ _ (rwF es cs (es.length+1) p a b) G2.push ?_ (by omega) λu hu'=>hu';rw[a8,t9]
theorem LU(hΔ:∀ f,MonoN (Δ f)){kr ks:Nat}(hr:Bc (Δ kr))(hs:K3 (Δ ks)){D:Df}(hb:D.body=K4 kr ks)(hN:D.N.length=7)(hp:D.ps.length=4):Dw (f7 Δ D):=by
 intro n H k0 k1 k2 es cs sts S Q g hen el hH h0 h1 h2 sl ok q;have cl:=g.P.len;have gr:=OkR3.hg hen hH g ok;unfold f7;rw[hb,hN];refine⟨hp.symm,by show 0<=100000;decide,_,rfl,_,a7 (j4 h0),?_⟩;have G1:Gw S (S++[SO.lst []]++[SO.lst (c8 cs)]):=(Gw.refl S).push.push;have h4:(S++[SO.lst []]++[SO.lst (c8 cs)])[S.length]?=some (SO.lst (f6 [])):=j4 a8;have h5:(S++[SO.lst []]++[SO.lst (c8 cs)])[(S++[SO.lst []]).length]?=some (SO.lst (c8 cs)):=a8;refine⟨_,rfl,_,a7 (G1.keep _ _ h2),?_⟩;refine v4 (g9 hΔ _) (λi ρ S'=>∃(k4 c:Nat) (L:List Nat) (o6:Option SV),ρ=[some (.loc k0),some (.loc k1),some (.loc k2),some (i5 n es),some (.loc k4),some (.loc c),o6]/\Gw S S'/\S'[k4]?=some (.lst (f6 L))/\S'[c]?=some (.lst (c8 (AI es cs (sts.take i))))/\L.length<=i * 62/\∀ u,u<es.length->u∉L->hu (AI es cs (sts.take i)) u=hu cs u) ⟨S.length,_,[],none,rfl,G1,h4,h5,W8 _,λ_ _ _=>rfl⟩ (λ_ _ S' z=>?_) ?_ ?_
 ·obtain⟨_,_,_,_,_,G,_⟩:=z;show S'[k2]?=(S++[SO.lst []]++[SO.lst (c8 cs)])[k2]?;rw[G1.keep _ _ h2];exact G.keep _ _ h2
 ·rintro i x ρ S' hx ⟨k4,c,L,o6,rfl,G,hk4,hc,ll,kp⟩;obtain⟨s,hsi,rfl⟩:=Fb hx;have il:=(gM hsi).1;have gi:=ok.hgAt hen hH i g;have oki:=ok.at hsi;refine TB hΔ hr gi hen el hH oki hc hk4 (by omega) λk S2 M G2 hk ml mm=>?_;refine⟨_,rfl,_,rfl,_,rfl,hs gi hen el hH oki (G2.keep _ _ hc) λl S3 G3 _ h3=>?_⟩;rw[<-Bq hsi]at h3;refine⟨k,l,L++M,_,rfl,(G.trans G2).trans G3,G3.keep _ _ hk,h3,by rw[VB,X0];omega,λu ul hn=>?_⟩;rw[Bq hsi,OB gi oki ul (λz=>hn (Vt _ (mm u z)))];exact kp u ul λz=>hn (Wh _ z)
 ·rintro ρ S' ⟨k4,c,L,o6,rfl,G,hk4,hc,ll,kp⟩;rw[VA,Vf]at kp;have h11:=G.keep _ _ h1;have h01:=G.keep _ _ h0;generalize AI es cs sts=ds at *;have dl:=gr.P.len;refine⟨_,rfl,_,a7 h11,_,rfl,⟨by rw[k9];omega,by rw[k9];omega⟩,?_⟩;refine i4 (j6 hΔ _).2 (a5 hΔ _).1 (λj ys S2=>S2=S'/\ys=VM j (.bl true)) ⟨rfl,rfl⟩ (λ_ _ _ _=>trivial) ?_ ?_
  ·rintro j x ys S2 hx ⟨rfl,rfl⟩;have jl:j<es.length:=by have:=(gM hx).1;rw[k8,k9]at this;omega
   obtain⟨rfl,_⟩:=p9 hx;rw[Wl];have g1:=p0 (u7 (cs:=cs) (t:=j) (by omega));have g2:=p0 (u7 (cs:=ds) (t:=j) (by omega));have ln:(VM j (SV.bl true)).length<big:=by rw[WW];show _<100000;omega
   have e:VM j (SV.bl true)++[SV.bl true]=VM (j+1) (.bl true):=by rw[Wy]
   refine⟨_,rfl,_,rfl,_,_,a7 h01,f8 g1,_,rfl,_,rfl,_,_,a7 h11,f8 g2,Uh λr hr'=>⟨_,rfl,?_⟩⟩;cases r with
   | true=>exact ifT rfl ⟨ln,rfl,e⟩
   | false=>
     refine ifF rfl ⟨_,rfl,_,rfl,?_⟩;show match BP (.loc k4) S2 with | some ms=>_ | none=>_
     rw[At hk4];refine⟨rfl,_,a7 hk4,Av _,?_⟩;have m:j∈L:=Classical.byContradiction λz=>by have:=hr' (kp j jl z).symm;cases this
     show _/\_/\_++[SV.bl (inS (.int (j:Nat)) (f6 L))]=_;rw[Dh,decide_eq_true m];exact⟨ln,rfl,e⟩
  ·rintro ys S2 ⟨rfl,rfl⟩;refine⟨_,_,nofun,a7 a8,O8 _,?_⟩;rw[Je];exact q _ G.push
end
theorem QM{es fs:EE}{f:Nat->Nat}(inj:∀ a b,a<es.length->b<es.length->f a=f b->a=b)(h:∀ t,t<es.length->fs[f t]?=es[t]?)(p:Nat):m6 es p<=m6 fs p:=by
 have nd:((g8 es p es.length).map f).Nodup:=by
  rw[List.Nodup,XA];refine List.Pairwise.imp_of_mem (λ{a b} ha hb ne e=>ne ?_) (X1.filter _);have la:AtP es a p:=mem_tiesAt.mp ha;have lb:AtP es b p:=mem_tiesAt.mp hb;exact inj a b la.lt lb.lt e
 have:=List.Nodup.length_le_of_subset nd (l₂:=g8 fs p fs.length) λu hu'=>by
  obtain⟨t,ht,rfl⟩:=VZ.mp hu';obtain⟨e,he,hp⟩:=mem_tiesAt.mp ht;exact mem_tiesAt.mpr ⟨e,by rw[h t (gM he).1];exact he,hp⟩
 rwa [VA]at this
theorem LV{n:Nat}{es fs:EE}(h:∀ p,m6 es p<=m6 fs p):mostN es n<=mostN fs n:=by
 rcases CM es n with z | ⟨p,hp,z⟩
 ·omega
 ·rw[z];exact Vc (h p) (Aw fs hp)
theorem LW{n m m':Nat}{es:EE}{e:Nat×Nat}(a:IsTh es m)(b:IsTh (es++[e]) m'):mostN es n+m<=mostN (es++[e]) n+m':=by
 have h1:=LV (n:=n) (es:=es) (fs:=es++[e]) (QM (f:=id) (λ_ _ _ _ z=>z) λt tl=>by show(es++[e])[t]?=_;rw[VP tl])
 have h2:m<=m':=by
  rcases a.2 with z | ⟨f,_,z⟩
  ·omega
  ·rw[<-z];refine Vc ?_ (b.1 f);rw[YF];omega
 omega
theorem K5{es:EE}{e:Nat×Nat}{t y:Nat}(h:AtP (es++[e]) t y)(tl:t<es.length):AtP es t y:=by
 obtain⟨f,hf,z⟩:=h;rw[VP tl]at hf;exact⟨f,hf,z⟩
theorem QN{H H':Nat}{es:EE}{cs:List Nat}{e:Nat×Nat}(g:Hg H es cs)(hH:H<=H')(h1:H'<=1000):Hg H' (es++[e]) (cs++[1000+es.length]):=by
 have pl:=g.P.len;have ll:(es++[e]).length=es.length+1:=by simp
 have old:∀ u,u<es.length->hu (cs++[1000+es.length]) u=hu cs u:=λu ul=>Ih (by omega);have new:hu (cs++[1000+es.length]) es.length=1000+es.length:=by rw[<-pl];exact FS
 have cd:∀ u,u<(es++[e]).length->hu (cs++[1000+es.length]) u<H'\/hu (cs++[1000+es.length]) u=1000+u:=λu ul=>by
  rw[ll]at ul;by_cases z:u=es.length
  ·rw[z];exact .inr new
  ·rw[old u (by omega)];rcases g.cod u (by omega) with y | y<;>omega
 refine⟨⟨by rw[VB,ll,pl];rfl,λt u y ht hu' q=>?_⟩,cd⟩;have tl:=ht.lt;have ul:=hu'.lt;have ct:=cd t tl;have cu:=cd u ul;rw[ll]at tl ul;by_cases z1:t=es.length
 ·by_cases z2:u=es.length
  ·omega
  ·have o:=old u (by omega);have:=g.cod u (by omega);rw[z1,new,o]at q;omega
 ·by_cases z2:u=es.length
  ·have o:=old t (by omega);have:=g.cod t (by omega);rw[z2,new,o]at q;omega
  ·rw[old t (by omega),old u (by omega)]at q;exact g.P.one t u y (K5 ht (by omega)) (K5 hu' (by omega)) q
def sh(j u:Nat):Nat:=if u<j then u else u+1
theorem Es{α:Type}{l:List α}{j u:Nat}:(l.eraseIdx j)[u]?=l[sh j u]?:=by
 unfold sh;rw[List.getElem?_eraseIdx];split<;>rfl
theorem HS{cs:List Nat}{j u:Nat}:hu (cs.eraseIdx j) u=hu cs (sh j u):=by
 show(cs.eraseIdx j).getD u 0=cs.getD (sh j u) 0;rw[VD,VD,Es]
theorem OC{H H' j:Nat}{es:EE}{cs ds:List Nat}(g:Hg H es cs)(hH:H<=1000)(hH':H'<=1000)(hj:j<es.length)(all:∀ u,u<es.length->hu cs u<H)(hl:ds.length=(es.eraseIdx j).length)(h:∀ u,u<(es.eraseIdx j).length->hu ds u=if hu cs (sh j u)<H' then hu cs (sh j u) else 1000+u):Hg H' (es.eraseIdx j) ds:=by
 have el:(es.eraseIdx j).length=es.length - 1:=Wz hj;have inj:∀ a b,sh j a=sh j b->a=b:=λa b z=>by unfold sh at z;split at z<;>split at z<;>omega
 have shl:∀ u,u<es.length - 1->sh j u<es.length:=λu ul=>by unfold sh;split<;>omega
 have atE:∀{t y},AtP (es.eraseIdx j) t y->AtP es (sh j t) y:=λ{t y} ⟨f,hf,z⟩=>⟨f,by rw[<-Es];exact hf,z⟩
 refine⟨⟨hl,λt u y ht hu' q=>?_⟩,λu ul=>?_⟩
 ·have tl:=ht.lt;have ul:=hu'.lt;rw[h t tl,h u ul]at q;rw[el]at tl ul;have at1:=all _ (shl t tl);have au:=all _ (shl u ul);have key:hu cs (sh j t)=hu cs (sh j u)->t=u:=λz=>inj _ _ (g.P.one _ _ y (atE ht) (atE hu') z);split at q<;>split at q
  ·exact key q
  ·omega
  ·omega
  ·omega
 ·rw[h u ul];split
  ·exact .inl (by assumption)
  ·exact .inr rfl
theorem Bf{n:Nat}{es:EE}:mostN es n<=es.length:=by
 rcases CM es n with z | ⟨p,_,z⟩
 ·omega
 ·have:m6 es p=(g8 es p es.length).length:=rfl;have:=Dg es p es.length;omega
structure FullH(n:Nat)(es:EE)(cs:List Nat)(m:Nat):Prop where
 th:IsTh es m
 g:Hg (mostN es n+m) es cs
 all:∀ u,u<es.length->hu cs u<mostN es n+m
theorem FullH.nil(n:Nat):FullH n [] [] 0:=⟨HJ,⟨⟨rfl,λt u y ht=>absurd ht.lt (by simp)⟩,λu ul=>by simp at ul⟩,λu ul=>by simp at ul⟩
section
variable{Δ:Nat->Sn}
def mr1(km kt:Nat):Stm:=(.asg (.nm 2) (.op .Add (.call km (.cons (.var 0) .nil)) (.call kt (.cons (.var 0) .nil))))
def mr2(kh kg:Nat):List Stm:=[(.asg (.nm 3) (.op .Sub (.bi .len (.cons (.ix (.var 0) (.c (.int 1))) .nil)) (.c (.int 1)))),(.asg (.nm 4) (.op .Add (.var 1) (.lst (.cons (.c .non) .nil)))),(.asg (.nm 5) (.call kh (.cons (.var 0) (.cons (.var 4) (.cons (.var 3) (.cons (.var 2) .nil)))))),(.asg (.nm 6) (.call kg (.cons (.var 0) (.cons (.var 4) (.cons (.var 3) (.cons (.var 5) (.cons (.var 2) .nil)))))))]
def mr3(ks:Nat):List Stm:=[(.iff (.or (.cmp .Is (.var 6) (.c .non)) (.not (.call ks (.cons (.var 4) (.cons (.var 6) (.cons (.var 5) (.cons (.var 0) .nil))))))) [(.ret (.c .non))] []),(.ret (.var 6))]
def OD(km kt kh kg ks:Nat):List Stm:=mr1 km kt::(mr2 kh kg++mr3 ks)
def K6(s:Sn):Prop:=∀{n k m:Nat} {es:EE} {e:Nat×Nat} {cs:List Nat} {S:Sto} {Q:QE},(∀ f∈es++[e],f.1<f.2/\f.2<n)->n<=12->es.length<=39->FullH n es cs m->S[k]?=some (.lst (c8 cs))->(∀(l m':Nat) (ds:List Nat) (S':Sto),Gw S S'->S.length<=l->S'[l]?=some (.lst (c8 ds))->FullH n (es++[e]) ds m'->Q (.loc l) S')->s [i5 n (es++[e]),.loc k] S Q
theorem OE{km kt kh kg ks:Nat}(hm:D4 (Δ km))(ht:B8 (Δ kt))(hh:FZ (Δ kh))(hg:Fd (Δ kg))(hs:Dw (Δ ks)){D:Df}(hb:D.body=OD km kt kh kg ks)(hN:D.N.length=7)(hp:D.ps.length=2):K6 (f7 Δ D):=by
 intro n k m es e cs S Q hen nn el F hk q;have ll:(es++[e]).length=es.length+1:=by simp
 have cl:=F.g.P.len;have tl:es.length<(es++[e]).length:=by omega
 unfold f7;rw[hb,hN];refine⟨hp.symm,_,rfl,hm (by omega) (by omega) λS1 G1=>⟨_,rfl,ht (by omega) λm' S2 hm' G2=>?_⟩⟩;have ms:=Bf (n:=n) (es:=es++[e]);have tls:=FX hm';have mono:=LW (n:=n) F.th hm'
 have fin:∀ z1 z2:Int,z1=((mostN (es++[e]) n+m':Nat):Int)->z2=((es.length:Nat):Int)->wSs Δ ([(.asg (.nm 4) (.op .Add (.var 1) (.lst (.cons (.c .non) .nil)))),(.asg (.nm 5) (.call kh (.cons (.var 0) (.cons (.var 4) (.cons (.var 3) (.cons (.var 2) .nil)))))),(.asg (.nm 6) (.call kg (.cons (.var 0) (.cons (.var 4) (.cons (.var 3) (.cons (.var 5) (.cons (.var 2) .nil)))))))]++mr3 ks) (w9 Q) [some (i5 n (es++[e])),some (.loc k),some (.int z1),some (.int z2),none,none,none] S2:=by
  rintro _ _ rfl rfl;have G12:=G1.trans G2;generalize hH':mostN (es++[e]) n+m'=H' at *;have g':Hg H' (es++[e]) (cs++[1000+es.length]):=QN F.g mono (by omega);have hc:∀ y,y<n->m6 (es++[e]) y+m'<=H':=λy hy=>by have:=Aw (es++[e]) hy;omega
  have bare:¬ hu (cs++[1000+es.length]) es.length<1000:=by rw[show hu (cs++[1000+es.length]) es.length=1000+es.length by rw[<-cl];exact FS];omega
  have ep:c8 cs++[SV.non]=c8 (cs++[1000+es.length]):=by unfold c8;rw[VR];show _=_++[pS (1000+es.length)];rw[u8 (by omega)]
  have old:∀ u,u<es.length->hu (cs++[1000+es.length]) u=hu cs u:=λu ul=>Ih (by omega);refine⟨_,rfl,by show 1<=100000;decide,_,_,j4 (G12.keep _ _ hk),a8,by rw[k9];show _<=100000;simp;omega,?_⟩;rw[ep];have h4:(S2++[SO.lst [SV.non]]++[SO.lst (c8 (cs++[1000+es.length]))])[(S2++[SO.lst [SV.non]]).length]?=some (SO.lst (c8 (cs++[1000+es.length]))):=a8;have G3:Gw S (S2++[SO.lst [SV.non]]++[SO.lst (c8 (cs++[1000+es.length]))]):=G12.push.push;generalize (S2++[SO.lst [SV.non]]).length=k4 at *;generalize S2++[SO.lst [SV.non]]++[SO.lst (c8 (cs++[1000+es.length]))]=S3 at *;generalize cs++[1000+es.length]=bs at *;obtain⟨ok,gt⟩:=En hen (show H'<=1000 by omega) g' tl bare hc hm'.1;have ef:Ep (es++[e]) bs es.length H'=Am (es++[e]) bs es.length H':=iG bare;have hl:=Dv (n:=n) (H:=H') (cs:=bs) tl;have gr:=OkR3.hg hen (show H'<=1000 by omega) g' ok;refine⟨_,rfl,_,rfl,_,rfl,_,rfl,hh (Hv.loc h4) g' hen (by omega) (by omega) (by omega) tl hm' (by omega) λl5 S5 G5 l5l h5=>?_⟩;rw[ef]at h5 hl;refine⟨_,rfl,_,rfl,_,rfl,_,rfl,_,rfl,hg (Hv.loc (G5.keep _ _ h4)) g' hen (by omega) (by omega) h5 (by omega) ok gt tl λl6 S6 G6 l6l h6=>?_⟩;refine⟨_,rfl,.inl ⟨rfl,_,rfl,ifF rfl ⟨_,rfl,_,rfl,_,rfl,_,rfl,hs g' hen (by omega) (by omega) ((G5.trans G6).keep _ _ h4) h6 (G6.keep _ _ h5) (by omega) ok λS7 G7=>⟨_,rfl,ifF rfl (c4 ⟨_,rfl,?_⟩)⟩⟩⟩⟩;have s3:=G3.len;have s5:=G5.len;refine q l6 m' _ S7 (((G3.trans G5).trans G6).trans G7) (by omega) (G7.keep _ _ h6) ⟨hm',by rw[hH'];exact gr,λu ul=>?_⟩;rw[hH'];by_cases z:u=es.length
  ·rw[z];exact gt.1
  ·rw[gt.2 u ul z,old u (by omega)];have:=F.all u (by omega);omega
 refine⟨_,rfl,_,_,rfl,rfl,_,rfl,?_⟩;exact fin _ _ (by omega) (by show(((es++[e]).map pairS).length:Int) - 1=_;rw[VA,ll];omega)
def fw2:Stm:=(.asg (.nm 3) (.comp ["_law_hue"] ["_law_hues_here"] [2] (.nm 0) (.seq (.var 1)) .no (.ife (.cmp .Lt (.var 0) (.var 1)) (.var 0) (.c .non))))
def fwL(kh kg:Nat):List Stm:=[(.iff (.cmp .Is (.ix (.var 3) (.var 4)) (.c .non)) [(.asg (.nm 3) (.call kg (.cons (.var 0) (.cons (.var 3) (.cons (.var 4) (.cons (.call kh (.cons (.var 0) (.cons (.var 3) (.cons (.var 4) (.cons (.var 2) .nil))))) (.cons (.var 2) .nil))))))),(.iff (.cmp .Is (.var 3) (.c .non)) [(.ret (.c .non))] [])] [])]
def K7(km kt kh kg:Nat):List Stm:=[mr1 km kt,fw2,(.loop (.nm 4) (.rng1 (.bi .len (.cons (.var 3) .nil))) (fwL kh kg)),(.ret (.var 3))]
def HU(s:Sn):Prop:=∀{n k:Nat} {es:EE} {cs:List Nat} {S:Sto} {Q:QE},(∀ f∈es,f.1<f.2/\f.2<n)->n<=12->es.length<=39->cs.length=es.length->(∀ u,u<es.length->hu cs u<1000)->(∀(H:Nat) (ds:List Nat),H<=1000->ds.length=es.length->(∀ u,u<es.length->hu ds u=if hu cs u<H then hu cs u else 1000+u)->Hg H es ds)->S[k]?=some (.lst (c8 cs))->(∀(l m':Nat) (ds:List Nat) (S':Sto),Gw S S'->S.length<=l->S'[l]?=some (.lst (c8 ds))->FullH n es ds m'->Q (.loc l) S')->s [i5 n es,.loc k] S Q
theorem LX(hΔ:∀ f,MonoN (Δ f)){km kt kh kg:Nat}(hm:D4 (Δ km))(ht:B8 (Δ kt))(hh:FZ (Δ kh))(hg:Fd (Δ kg)){D:Df}(hb:D.body=K7 km kt kh kg)(hN:D.N.length=5)(hp:D.ps.length=2):HU (f7 Δ D):=by
 intro n k es cs S Q hen nn el cl sm mk hk q;unfold f7;rw[hb,hN];refine⟨hp.symm,_,rfl,hm (by omega) (by omega) λS1 G1=>⟨_,rfl,ht (by omega) λm' S2 hm' G2=>?_⟩⟩;have ms:=Bf (n:=n) (es:=es);have tls:=FX hm'
 have fin:∀ z1:Int,z1=((mostN es n+m':Nat):Int)->wSs Δ [fw2,(.loop (.nm 4) (.rng1 (.bi .len (.cons (.var 3) .nil))) (fwL kh kg)),(.ret (.var 3))] (w9 Q) [some (i5 n es),some (.loc k),some (.int z1),none,none] S2:=by
  rintro _ rfl;have G12:=G1.trans G2;have hk2:=G12.keep _ _ hk;generalize hH':mostN es n+m'=H at *;have hc:∀ y,y<n->m6 es y+m'<=H:=λy hy=>by have:=Aw es hy;omega
  refine⟨_,rfl,_,a7 hk2,?_⟩;refine i4 (j6 hΔ _).2 (a5 hΔ _).1 (λj ys S3=>S3=S2/\∃ P:List Nat,ys=c8 P/\P.length=j/\∀ u,u<j->hu P u=if hu cs u<H then hu cs u else 1000+u) ⟨rfl,[],rfl,rfl,λu hu'=>by omega⟩ (λ_ _ S3 z=>by rw[z.1];exact rfl) ?_ ?_
  ·rintro j x ys S3 hx ⟨rfl,P,rfl,pl,pu⟩;obtain⟨c,hc',rfl⟩:=CO hx;have jl:=(gM hc').1;have hj:hu cs j=c:=by show cs.getD j 0=_;rw[VD,hc'];rfl
   have c9:c<1000:=by rw[<-hj];exact sm j (by omega)
   have ln:(c8 P).length<big:=by rw[k9];show _<100000;omega
   have fin:∀ c',(c'=if hu cs j<H then hu cs j else 1000+j)->∃ P':List Nat,c8 P++[pS c']=c8 P'/\P'.length=j+1/\∀ u,u<j+1->hu P' u=if hu cs u<H then hu cs u else 1000+u:=λc' hc'=>by
    refine⟨P++[c'],by unfold c8;rw[VR];rfl,by rw[VB,pl];rfl,λu hu'=>?_⟩;by_cases e:u=j
    ·rw[e,<-pl,FS,pl];exact hc'
    ·rw[Ih (by omega)];exact pu u (by omega)
   rw[n8 c9];refine⟨_,rfl,_,rfl,_,rfl,?_⟩;by_cases z:c<H
   ·have:=fin c (by rw[hj,iP z]);rw[n8 c9]at this;exact ifT (decide_eq_true (by omega)) ⟨_,rfl,ln,rfl,this⟩
   ·have:=fin (1000+j) (by rw[hj,iG z]);rw[u8 (by omega)]at this;exact ifF (decide_eq_false (by omega)) ⟨ln,rfl,this⟩
  rintro ys S3 ⟨rfl,P,rfl,pl,pu⟩;rw[k9]at pl pu;have g0:Hg H es P:=mk H P (by omega) (by omega) λu ul=>pu u (by omega);have h3:(S3++[SO.lst (c8 P)])[S3.length]?=some (SO.lst (c8 P)):=a8;have G3:Gw S (S3++[SO.lst (c8 P)]):=G12.push;refine⟨_,rfl,_,a7 h3,_,rfl,⟨by rw[k9];omega,by rw[k9];omega⟩,?_⟩;refine r6 (g9 hΔ _) (λj ρ S4=>∃(c:Nat) (ds:List Nat) (o4:Option SV),ρ=[some (i5 n es),some (.loc k),some (.int (H:Nat)),some (.loc c),o4]/\Gw S S4/\S.length<=c/\S4[c]?=some (.lst (c8 ds))/\Hg H es ds/\∀ u,u<j->hu ds u<H) ⟨S3.length,P,none,rfl,G3,G12.len,h3,g0,λu hu'=>by omega⟩ (λ_ _ _ _=>trivial) ?_ ?_
  ·rintro j x ρ S4 E hE hR hx ⟨c,ds,o4,rfl,G4,cS,hc4,g4,al⟩;have jl:j<es.length:=by have:=(gM hx).1;rw[k8,k9]at this;omega
   obtain⟨rfl,_⟩:=p9 hx;rw[Wl];have dl:=g4.P.len;have gj:=p0 (u7 (cs:=ds) (t:=j) (by omega));refine⟨_,rfl,_,rfl,_,_,a7 hc4,f8 gj,.inl ⟨rfl,_,rfl,?_⟩⟩;show if y9 (pS (hu ds j))=true then _ else _
   rw[C5];by_cases z:hu ds j<1000
   ·rw[decide_eq_true z];refine ifF rfl (c4 (hE _ _ ⟨c,ds,_,rfl,G4,cS,hc4,g4,λu hu'=>?_⟩));by_cases e:u=j
    ·rw[e];rcases g4.cod j jl with y | y<;>omega
    ·exact al u (by omega)
   ·rw[decide_eq_false z];obtain⟨ok,gt⟩:=En hen (show H<=1000 by omega) g4 jl z hc hm'.1;have ef:Ep es ds j H=Am es ds j H:=iG z;have hl:=Dv (n:=n) (H:=H) (cs:=ds) jl;have gr:=OkR3.hg hen (show H<=1000 by omega) g4 ok;refine ifT rfl ?_;refine⟨_,rfl,_,rfl,_,rfl,_,rfl,_,rfl,_,rfl,_,rfl,hh (Hv.loc hc4) g4 hen (by omega) (by omega) (by omega) jl hm' (by omega) λl6 S6 G6 l6l h66=>⟨_,rfl,?_⟩⟩;rw[ef]at h66 hl;refine hg (Hv.loc (G6.keep _ _ hc4)) g4 hen (by omega) (by omega) h66 (by omega) ok gt jl λl7 S7 G7 l7l h77=>?_;have s4:=G4.len;have s6:=G6.len;refine⟨_,rfl,.inl ⟨rfl,_,rfl,ifF rfl (c4 (Δ:=Δ) (c4 (Δ:=Δ) (hE _ _ ⟨l7,_,_,rfl,(G4.trans G6).trans G7,by omega,h77,gr,λu hu'=>?_⟩)))⟩⟩;by_cases e:u=j
    ·rw[e];exact gt.1
    ·rw[gt.2 u (by omega) e];exact al u (by omega)
  ·rintro ρ S4 ⟨c,ds,o4,rfl,G4,cS,hc4,g4,al⟩;rw[k8,k9]at al;exact⟨_,rfl,q c m' ds S4 G4 cS hc4 ⟨hm',by rw[hH'];exact g4,λu ul=>by rw[hH'];exact al u (by omega)⟩⟩
 exact fin _ (by omega)
end
end Rf
namespace Hue
open PySem L2 Rf
def top(i:Nat):Stmt:=PySem.Challenge.pw_huedties_k85_whole_webs_that_grow.main.body.getD i (.Pass ⟨0,0,0,0⟩)
def b0:List Stm:=Ib
def d0:Df:=⟨"is_number",top 9,["thing"],["thing"],b0⟩
def b1:List Stm:=Uc
def d1:Df:=⟨"is_listed",top 10,["thing"],["thing"],b1⟩
def b2:List Stm:=Ei 0
def d2:Df:=⟨"has_place",top 12,["web","place"],["web","place"],b2⟩
def b3:List Stm:=Jb 0
def d3:Df:=⟨"has_tie",top 13,["web","tie"],["web","tie"],b3⟩
def b4:List Stm:=FR 2
def d4:Df:=⟨"check_place",top 14,["web","place"],["web","place"],b4⟩
def b5:List Stm:=FR 3
def d5:Df:=⟨"check_tie",top 15,["web","tie"],["web","tie"],b5⟩
def b6:List Stm:=Jc 4
def d6:Df:=⟨"ties_at",top 16,["web","place"],["web","place"],b6⟩
def b7:List Stm:=Qq
def d7:Df:=⟨"most_at",top 17,["web"],["web","counts","one","other"],b7⟩
def b8:List Stm:=No
def d8:Df:=⟨"thickest",top 18,["web"],["web","counts","ends"],b8⟩
def b9:List Stm:=Jw 7 8
def d9:Df:=⟨"enough",top 19,["web"],["web"],b9⟩
def b10:List Stm:=Jd 5
def d10:Df:=⟨"far_end",top 20,["web","tie","place"],["web","tie","place","one","other"],b10⟩
def b11:List Stm:=[(.ret (.and (.cmp .NotEq (.var 1) (.var 2)) (.bi .any (.cons (.comp ["place"] ["web","other"] [0,2] (.nm 0) (.seq (.ix (.ix (.var 0) (.c (.int 1))) (.var 1))) .no (.cmp .In (.var 0) (.ix (.ix (.var 1) (.c (.int 1))) (.var 2)))) .nil))))]
def d11:Df:=⟨"meets",top 21,["web","one","other"],["web","one","other"],b11⟩
def b12:List Stm:=Qt 0
def d12:Df:=⟨"is_hue",top 23,["thing"],["thing"],b12⟩
def b13:List Stm:=Jj 1 12 14
def d13:Df:=⟨"is_hueing",top 24,["web","thing"],["web","thing"],b13⟩
def b14:List Stm:=NX
def d14:Df:=⟨"clash_of",top 25,["web","row"],["web","row","first","clashes","tie","ends","hue","place","earlier"],b14⟩
def b15:List Stm:=Jo 6
def d15:Df:=⟨"hues_at",top 26,["web","hueing","place"],["web","hueing","place"],b15⟩
def b16:List Stm:=Nf 15
def d16:Df:=⟨"free_at",top 27,["web","hueing","place","hues"],["web","hueing","place","hues","taken"],b16⟩
def b17:List Stm:=Qu 6
def d17:Df:=⟨"tie_of_hue",top 29,["web","hueing","place","hue"],["web","hueing","place","hue","tie"],b17⟩
def b18:List Stm:=Jl
def d18:Df:=⟨"check_unlike",top 30,["one","other"],["one","other"],b18⟩
def b19:List Stm:=Qv 4 18 17 10
def d19:Df:=⟨"row_from",top 31,["web","hueing","place","one","other"],["web","hueing","place","one","other","row","tie"],b19⟩
def b20:List Stm:=Qw 18 3 13
def d20:Df:=⟨"exchanged",top 32,["web","hueing","ties","one","other"],["web","hueing","ties","one","other","changed","tie"],b20⟩
def b21:List Stm:=[(.ret (.and (.call 3 (.cons (.var 0) (.cons (.var 2) .nil))) (.cmp .IsNot (.ix (.var 1) (.var 2)) (.c .non))))]
def d21:Df:=⟨"tie_has_hue",top 34,["web","hueing","tie"],["web","hueing","tie"],b21⟩
def b22:List Stm:=[(.ret (.and (.call 3 (.cons (.var 0) (.cons (.var 2) .nil))) (.cmp .Is (.ix (.var 1) (.var 2)) (.c .non))))]
def d22:Df:=⟨"tie_lacks_hue",top 35,["web","hueing","tie"],["web","hueing","tie"],b22⟩
def b23:List Stm:=[(.asg (.nm 3) (.bi .list (.cons (.var 1) .nil))),(.loop (.tup (.cons (.nm 4) (.cons (.nm 5) .nil))) (.seq (.var 2)) [(.put (.var 3) (.var 4) (.var 5))]),(.ret (.ife (.call 13 (.cons (.var 0) (.cons (.var 3) .nil))) (.var 3) (.c .non)))]
def d23:Df:=⟨"with_hues",top 36,["web","hueing","given"],["web","hueing","given","changed","tie","hue"],b23⟩
def b24:List Stm:=[(.iff (.or (.not (.call 22 (.cons (.var 0) (.cons (.var 1) (.cons (.var 2) .nil))))) (.not (.call 12 (.cons (.var 3) .nil)))) [(.ret (.c .non))] []),(.ret (.call 23 (.cons (.var 0) (.cons (.var 1) (.cons (.lst (.cons (.tup (.cons (.var 2) (.cons (.var 3) .nil))) .nil)) .nil)))))]
def d24:Df:=⟨"after_hue",top 37,["web","hueing","tie","hue"],["web","hueing","tie","hue"],b24⟩
def b25:List Stm:=[(.iff (.not (.call 21 (.cons (.var 0) (.cons (.var 1) (.cons (.var 2) .nil))))) [(.ret (.c .non))] []),(.ret (.call 23 (.cons (.var 0) (.cons (.var 1) (.cons (.lst (.cons (.tup (.cons (.var 2) (.cons (.c .non) .nil))) .nil)) .nil)))))]
def d25:Df:=⟨"after_drop",top 38,["web","hueing","tie"],["web","hueing","tie"],b25⟩
def b26:List Stm:=[(.iff (.or (.not (.call 21 (.cons (.var 0) (.cons (.var 1) (.cons (.var 2) .nil))))) (.not (.call 22 (.cons (.var 0) (.cons (.var 1) (.cons (.var 3) .nil)))))) [(.ret (.c .non))] []),(.iff (.not (.call 11 (.cons (.var 0) (.cons (.var 2) (.cons (.var 3) .nil))))) [(.ret (.c .non))] []),(.ret (.call 23 (.cons (.var 0) (.cons (.var 1) (.cons (.lst (.cons (.tup (.cons (.var 2) (.cons (.c .non) .nil))) (.cons (.tup (.cons (.var 3) (.cons (.ix (.var 1) (.var 2)) .nil))) .nil))) .nil)))))]
def d26:Df:=⟨"after_move",top 39,["web","hueing","tie","other"],["web","hueing","tie","other"],b26⟩
def b27:List Stm:=Qx 12 19 20
def d27:Df:=⟨"after_row",top 40,["web","hueing","place","one","other"],["web","hueing","place","one","other"],b27⟩
noncomputable def b28:List Stm:=NZ 24 25 26 27
noncomputable def d28:Df:=⟨"after_step",top 41,["web","hueing","step"],["web","hueing","step","word"],b28⟩
def b29:List Stm:=Qy 28
def d29:Df:=⟨"done_step",top 42,["web","hueing","step"],["web","hueing","step","changed"],b29⟩
def b30:List Stm:=R5
def d30:Df:=⟨"next_of_fan",top 44,["hueing","fan","around","free"],["hueing","fan","around","free","there","tie","back","hues"],b30⟩
def b31:List Stm:=Nr 10 6 16 30
def d31:Df:=⟨"fan_of",top 45,["web","hueing","tie","place","hues"],["web","hueing","tie","place","hues","around","fan","free","pair","far"],b31⟩
def b32:List Stm:=HM
def d32:Df:=⟨"turning",top 46,["fan","at","hue"],["fan","at","hue","way","back","steps"],b32⟩
def b33:List Stm:=Jx 16 10 32
def d33:Df:=⟨"turned",top 47,["web","hueing","fan","place","hues"],["web","hueing","fan","place","hues","own","at","tie","back","free","shared"],b33⟩
def b34:List Stm:=Jy 10 16
def d34:Df:=⟨"shared_hue",top 48,["web","hueing","fan","place","hues"],["web","hueing","fan","place","hues","owner","tie","back","far","hue"],b34⟩
def b35:List Stm:=HQ 34 16
def d35:Df:=⟨"freeing_row",top 49,["web","hueing","fan","place","hues"],["web","hueing","fan","place","hues","hue","first","own"],b35⟩
def b36:List Stm:=Jz 31 33 35 29
def d36:Df:=⟨"steps_to_hue",top 50,["web","hueing","tie","hues"],["web","hueing","tie","hues","place","fan","steps","row"],b36⟩
def b37:List Stm:=R4 9
def d37:Df:=⟨"check_enough",top 51,["web","hues"],["web","hues"],b37⟩
def b38:List Stm:=K0 5 37 36
def d38:Df:=⟨"hued_in",top 52,["web","hueing","tie","hues"],["web","hueing","tie","hues"],b38⟩
def b39:List Stm:=Qm
def d39:Df:=⟨"_law_tape",top 54,["_law_script","_law_k"],["_law_script","_law_k","_law_cell","_law_digits"],b39⟩
noncomputable def b40:List Stm:=Qn
noncomputable def d40:Df:=⟨"_law_draw",top 55,["_law_tape_here","_law_many"],["_law_tape_here","_law_many","_law_found","_law_once"],b40⟩
def b41:List Stm:=NN 40
def d41:Df:=⟨"_law_pairs_by",top 56,["_law_tape_here","_law_great"],["_law_tape_here","_law_great","_law_way","_law_many","_law_found","_law_turn","_law_one","_law_k","_law_sides"],b41⟩
def b42:List Stm:=Ub 40 41
def d42:Df:=⟨"_law_web",top 57,["_law_tape_here","_law_great"],["_law_tape_here","_law_great","_law_many","_law_pairs","_law_ties","_law_one","_law_other"],b42⟩
def b43:List Stm:=Qr
def d43:Df:=⟨"_law_meet",top 58,["_law_web_here","_law_one","_law_other"],["_law_web_here","_law_one","_law_other"],b43⟩
def b44:List Stm:=Jh
def d44:Df:=⟨"_law_count",top 59,["_law_web_here","_law_place"],["_law_web_here","_law_place"],b44⟩
def b45:List Stm:=K1 "_law_web_here" 44
def d45:Df:=⟨"_law_most",top 60,["_law_web_here"],["_law_web_here"],b45⟩
def b46:List Stm:=K2
def d46:Df:=⟨"_law_thickest",top 61,["_law_web_here"],["_law_web_here"],b46⟩
def b47:List Stm:=HE 43
def d47:Df:=⟨"_law_is_hueing",top 62,["_law_web_here","_law_row_here"],["_law_web_here","_law_row_here","_law_tie","_law_hue","_law_k"],b47⟩
def b48:List Stm:=Ny
def d48:Df:=⟨"_law_row",top 63,["_law_web_here","_law_hueing","_law_place","_law_one","_law_other"],["_law_web_here","_law_hueing","_law_place","_law_one","_law_other","_law_found","_law_due","_law_turn","_law_here"],b48⟩
def b49:List Stm:=O6
def d49:Df:=⟨"_law_hues",top 64,["_law_web_here","_law_hueing","_law_place"],["_law_web_here","_law_hueing","_law_place"],b49⟩
noncomputable def b50:List Stm:=HR 48 49 43 47
noncomputable def d50:Df:=⟨"_law_stepped",top 65,["_law_web_here","_law_hueing","_law_step"],["_law_web_here","_law_hueing","_law_step","_law_made","_law_many","_law_place","_law_one","_law_other","_law_tie"],b50⟩
def b51:List Stm:=O9 50
def d51:Df:=⟨"_law_walked",top 66,["_law_web_here","_law_hueing","_law_steps","_law_hues_here"],["_law_web_here","_law_hueing","_law_steps","_law_hues_here","_law_here","_law_step"],b51⟩
def b52:List Stm:=R7 51
def d52:Df:=⟨"_law_got",top 67,["_law_web_here","_law_hueing","_law_tie","_law_steps","_law_hues_here"],["_law_web_here","_law_hueing","_law_tie","_law_steps","_law_hues_here","_law_here","_law_other","_law_hue"],b52⟩
def b53:List Stm:=K4 48 50
def d53:Df:=⟨"_law_steady",top 68,["_law_before","_law_here","_law_steps","_law_web_here"],["_law_before","_law_here","_law_steps","_law_web_here","_law_named","_law_turned","_law_step"],b53⟩
def b54:List Stm:=OD 45 46 38 52 53
def d54:Df:=⟨"_law_more",top 69,["_law_web_here","_law_hueing"],["_law_web_here","_law_hueing","_law_hues_here","_law_tie","_law_bare","_law_steps","_law_here"],b54⟩
def b55:List Stm:=K7 45 46 38 52
def d55:Df:=⟨"_law_fewer",top 70,["_law_web_here","_law_hueing"],["_law_web_here","_law_hueing","_law_hues_here","_law_here","_law_tie"],b55⟩
noncomputable def b56:List Stm:=[(.loop (.nm 1) (.rng1 (.op .Add (.c (.int 1)) (.bi .min (.cons (.c (.int 3)) (.cons (.bi .len (.cons (.var 0) .nil)) .nil))))) [(.asg (.nm 2) (.call 39 (.cons (.var 0) (.cons (.var 1) .nil)))),(.asg (.tup (.cons (.nm 3) (.cons (.nm 4) .nil))) (.call 42 (.cons (.var 2) (.cons (.cmp .Eq (.call 40 (.cons (.var 2) (.cons (.c (.int 8)) .nil))) (.c (.int 0))) .nil)))),(.asg (.nm 5) (.lst .nil)),(.loop (.nm 6) (.rng1 (.bi .len (.cons (.var 4) .nil))) [(.asg (.nm 5) (.call 54 (.cons (.tup (.cons (.var 3) (.cons (.slc (.var 4) .no (.yes (.op .Add (.var 6) (.c (.int 1))))) .nil))) (.cons (.var 5) .nil)))),(.iff (.cmp .Is (.var 5) (.c .non)) [(.ret (.c (.bl false)))] [])]),(.loop (.nm 7) (.rng1 (.bi .min (.cons (.c (.int 8)) (.cons (.bi .len (.cons (.var 4) .nil)) .nil)))) [(.asg (.nm 8) (.call 40 (.cons (.var 2) (.cons (.bi .len (.cons (.var 4) .nil)) .nil)))),(.asg (.nm 4) (.op .Add (.slc (.var 4) .no (.yes (.var 8))) (.slc (.var 4) (.yes (.op .Add (.var 8) (.c (.int 1)))) .no))),(.asg (.nm 5) (.call 55 (.cons (.tup (.cons (.var 3) (.cons (.var 4) .nil))) (.cons (.op .Add (.slc (.var 5) .no (.yes (.var 8))) (.slc (.var 5) (.yes (.op .Add (.var 8) (.c (.int 1)))) .no)) .nil)))),(.iff (.cmp .Is (.var 5) (.c .non)) [(.ret (.c (.bl false)))] [])])]),(.ret (.c (.bl true)))]
noncomputable def d56:Df:=⟨"law",top 71,["_law_script"],["_law_script","_law_k","_law_tape_here","_law_many","_law_ties","_law_hueing","_law_far","_law_turn","_law_at"],b56⟩
noncomputable def prog:List Df:=[d0,d1,d2,d3,d4,d5,d6,d7,d8,d9,d10,d11,d12,d13,d14,d15,d16,d17,d18,d19,d20,d21,d22,d23,d24,d25,d26,d27,d28,d29,d30,d31,d32,d33,d34,d35,d36,d37,d38,d39,d40,d41,d42,d43,d44,d45,d46,d47,d48,d49,d50,d51,d52,d53,d54,d55,d56]
theorem HV:prog.all (Pw (prog.map (·.name)))=true:=by decide +kernel
theorem hW(d:Nat):∀ f,MonoN (W prog d f):=Dc d
theorem s0(d:Nat):D3 (W prog (d+1) 0):=NP (Δ:=W prog d) (D:=d0) rfl rfl rfl
theorem g0(d:Nat):Sr (W prog (d+1) 0):=Q1 (Δ:=W prog d) (D:=d0) rfl rfl rfl
theorem s1(d:Nat):Ss (W prog (d+1) 1):=Q3 (Δ:=W prog d) (D:=d1) rfl rfl rfl
theorem s2(d:Nat):C4 (W prog (d+2) 2):=Gx (Δ:=W prog (d+1)) (D:=d2) (s0 d) rfl rfl rfl
theorem s3(d:Nat):CJ (W prog (d+2) 3):=L7 (Δ:=W prog (d+1)) (D:=d3) (s0 d) rfl rfl rfl
theorem s4(d:Nat):AM (W prog (d+3) 4):=EF (Δ:=W prog (d+2)) (D:=d4) (s2 d) rfl rfl rfl
theorem s5(d:Nat):B5 (W prog (d+3) 5):=Gy (Δ:=W prog (d+2)) (D:=d5) (s3 d) rfl rfl rfl
theorem s6(d:Nat):BY (W prog (d+4) 6):=L8 (Δ:=W prog (d+3)) (D:=d6) (hW _) (s4 d) rfl rfl rfl
theorem s7(d:Nat):Ic (W prog (d+1) 7):=Q0 (Δ:=W prog d) (D:=d7) (hW _) rfl rfl rfl
theorem s8(d:Nat):B8 (W prog (d+1) 8):=Np (Δ:=W prog d) (D:=d8) (hW _) rfl rfl rfl
theorem s9(d:Nat):Dr (W prog (d+2) 9):=LM (Δ:=W prog (d+1)) (D:=d9) (s7 d) (s8 d) rfl rfl rfl
theorem s10(d:Nat):Au (W prog (d+4) 10):=L9 (Δ:=W prog (d+3)) (D:=d10) (s5 d) rfl rfl rfl
theorem s12(d:Nat):Q4 (W prog (d+2) 12):=Q5 (Δ:=W prog (d+1)) (D:=d12) (g0 d) rfl rfl rfl
theorem s14(d:Nat):Id (W prog (d+1) 14):=LC (Δ:=W prog d) (D:=d14) (hW _) rfl rfl rfl
theorem s13(d:Nat):B7 (W prog (d+3) 13):=Ie (Δ:=W prog (d+2)) (D:=d13) (hW _) (s1 (d+1)) (s12 d) (s14 (d+1)) rfl rfl rfl
theorem s15(d:Nat):Ch (W prog (d+5) 15):=Ii (Δ:=W prog (d+4)) (D:=d15) (hW _) (s6 d) rfl rfl rfl
theorem s16(d:Nat):Bp (W prog (d+6) 16):=Ni (Δ:=W prog (d+5)) (D:=d16) (hW _) (s15 d) rfl rfl rfl
theorem s17(d:Nat):FT (W prog (d+5) 17):=Ng (Δ:=W prog (d+4)) (D:=d17) (hW _) (s6 d) rfl rfl rfl
theorem s18(d:Nat):CN (W prog (d+1) 18):=LD (Δ:=W prog d) (D:=d18) rfl rfl rfl
theorem s19(d:Nat):Bc (W prog (d+6) 19):=Q9 (Δ:=W prog (d+5)) (D:=d19) (hW _) (s4 (d+2)) (s18 (d+4)) (s17 d) (s10 (d+1)) rfl rfl rfl
theorem s20(d:Nat):FU (W prog (d+4) 20):=Nh (Δ:=W prog (d+3)) (D:=d20) (hW _) (s18 (d+2)) (s3 (d+1)) (s13 d) rfl rfl rfl
theorem s27(d:Nat):AN (W prog (d+7) 27) λp a b=>[.int (p:Nat),.int (a:Nat),.int (b:Nat)]:=Nm (Δ:=W prog (d+6)) (D:=d27) (s12 (d+4)) (s19 d) (s20 (d+2)) rfl rfl rfl
theorem s28(d:Nat):AN (W prog (d+8) 28) λp a b=>[v7 (.row p a b)]:=LL (Δ:=W prog (d+7)) (D:=d28) (s27 d) rfl rfl rfl
theorem s29(d:Nat):AN (W prog (d+9) 29) λp a b=>[v7 (.row p a b)]:=Nn (Δ:=W prog (d+8)) (D:=d29) (s28 d) rfl rfl rfl
theorem s30(d:Nat):Ik (W prog (d+1) 30):=QH (Δ:=W prog d) (D:=d30) (hW _) rfl rfl rfl
theorem s31(d:Nat):Nt (W prog (d+7) 31):=T8 (Δ:=W prog (d+6)) (D:=d31) (hW _) (s10 (d+2)) (s6 (d+2)) (s16 d) (s30 (d+5)) rfl rfl rfl
theorem s32(d:Nat):Cj (W prog (d+1) 32):=Il (Δ:=W prog d) (D:=d32) (hW _) rfl rfl rfl
theorem s33(d:Nat):Ds (W prog (d+7) 33):=LO (Δ:=W prog (d+6)) (D:=d33) (hW _) (s16 d) (s10 (d+2)) (s32 (d+5)) rfl rfl rfl
theorem s34(d:Nat):Dt (W prog (d+7) 34):=LP (Δ:=W prog (d+6)) (D:=d34) (hW _) (s10 (d+2)) (s16 d) rfl rfl rfl
theorem s35(d:Nat):Ck (W prog (d+8) 35):=Im (Δ:=W prog (d+7)) (D:=d35) (s34 d) (s16 (d+1)) rfl rfl rfl
theorem s36(d:Nat):Du (W prog (d+10) 36):=LQ (Δ:=W prog (d+9)) (D:=d36) (s31 (d+2)) (s33 (d+2)) (s35 (d+1)) (s29 d) rfl rfl rfl
theorem s37(d:Nat):Ij (W prog (d+3) 37):=QG (Δ:=W prog (d+2)) (D:=d37) (s9 d) rfl rfl rfl
theorem s38(d:Nat):FZ (W prog (d+11) 38):=QK (Δ:=W prog (d+10)) (D:=d38) (s5 (d+7)) (s37 (d+7)) (s36 d) rfl rfl rfl
theorem s39(d:Nat):NM (W prog (d+1) 39):=Py (Δ:=W prog d) (D:=d39) rfl rfl rfl
theorem s40(d:Nat):AU (W prog (d+1) 40):=Px (Δ:=W prog d) (D:=d40) rfl rfl rfl
theorem s41(d:Nat):FP (W prog (d+2) 41):=NO (Δ:=W prog (d+1)) (D:=d41) (hW _) (s40 d) rfl rfl rfl
theorem s42(d:Nat):Qo (W prog (d+3) 42):=Sm (Δ:=W prog (d+2)) (D:=d42) (hW _) (s40 (d+1)) (s41 d) rfl rfl rfl
theorem s43(d:Nat):HB (W prog (d+1) 43):=NW (Δ:=W prog d) (D:=d43) rfl rfl rfl
theorem s44(d:Nat):Dj (W prog (d+1) 44):=LA (Δ:=W prog d) (D:=d44) (hW _) rfl rfl rfl
theorem s45(d:Nat):D4 (W prog (d+2) 45):=LR (Δ:=W prog (d+1)) (D:=d45) (hW _) (s44 d) rfl rfl rfl
theorem s46(d:Nat):B8 (W prog (d+1) 46):=LS (Δ:=W prog d) (D:=d46) (hW _) rfl rfl rfl
theorem s47(d:Nat):B7 (W prog (d+2) 47):=Ig (Δ:=W prog (d+1)) (D:=d47) (hW _) (s43 d) rfl rfl rfl
theorem s48(d:Nat):Bc (W prog (d+1) 48):=O0 (Δ:=W prog d) (D:=d48) (hW _) rfl rfl rfl
theorem s49(d:Nat):Fa (W prog (d+1) 49):=O7 (Δ:=W prog d) (D:=d49) (hW _) rfl rfl rfl
theorem s50(d:Nat):K3 (W prog (d+3) 50):=Io (Δ:=W prog (d+2)) (D:=d50) (hW _) (s48 (d+1)) (s49 (d+1)) (s43 (d+1)) (s47 d) rfl rfl rfl
theorem s51(d:Nat):Fc (W prog (d+4) 51):=OA (Δ:=W prog (d+3)) (D:=d51) (hW _) (s50 d) rfl rfl rfl
theorem s52(d:Nat):Fd (W prog (d+5) 52):=QL (Δ:=W prog (d+4)) (D:=d52) (hW _) (s51 d) rfl rfl rfl
theorem s53(d:Nat):Dw (W prog (d+4) 53):=LU (Δ:=W prog (d+3)) (D:=d53) (hW _) (s48 (d+2)) (s50 d) rfl rfl rfl
theorem s54(d:Nat):K6 (W prog (d+12) 54):=OE (Δ:=W prog (d+11)) (D:=d54) (s45 (d+9)) (s46 (d+10)) (s38 d) (s52 (d+6)) (s53 (d+7)) rfl rfl rfl
theorem s55(d:Nat):HU (W prog (d+12) 55):=LX (Δ:=W prog (d+11)) (D:=d55) (hW _) (s45 (d+9)) (s46 (d+10)) (s38 d) (s52 (d+6)) rfl rfl rfl
def P1:Stm:=(.loop (.nm 6) (.rng1 (.bi .len (.cons (.var 4) .nil))) [(.asg (.nm 5) (.call 54 (.cons (.tup (.cons (.var 3) (.cons (.slc (.var 4) .no (.yes (.op .Add (.var 6) (.c (.int 1))))) .nil))) (.cons (.var 5) .nil)))),(.iff (.cmp .Is (.var 5) (.c .non)) [(.ret (.c (.bl false)))] [])])
noncomputable def P2:Stm:=(.loop (.nm 7) (.rng1 (.bi .min (.cons (.c (.int 8)) (.cons (.bi .len (.cons (.var 4) .nil)) .nil)))) [(.asg (.nm 8) (.call 40 (.cons (.var 2) (.cons (.bi .len (.cons (.var 4) .nil)) .nil)))),(.asg (.nm 4) (.op .Add (.slc (.var 4) .no (.yes (.var 8))) (.slc (.var 4) (.yes (.op .Add (.var 8) (.c (.int 1)))) .no))),(.asg (.nm 5) (.call 55 (.cons (.tup (.cons (.var 3) (.cons (.var 4) .nil))) (.cons (.op .Add (.slc (.var 5) .no (.yes (.var 8))) (.slc (.var 5) (.yes (.op .Add (.var 8) (.c (.int 1)))) .no)) .nil)))),(.iff (.cmp .Is (.var 5) (.c .non)) [(.ret (.c (.bl false)))] [])])
theorem LY{xs:List SV}{i:Nat}:BC xs (some (i:Int)) none=xs.drop i:=by
 unfold BC;rw[HT.sIx_nat,HT.sIx_none];rcases Yi i xs.length with z | z
 ·rw[YT z,Ws (by rw[WL];exact VH _)]
 ·rw[YN z,Xe,List.drop_eq_nil_of_le z,Ye]
theorem OF{n j:Nat}{es:EE}{e:Nat×Nat}(he:es[j]?=some e):SV.tup [.int (n:Nat),.tup (BC (es.map pairS) none (some ((j:Int)+1)))]=i5 n (es.take j++[e]):=by
 rw[show((j:Int)+1)=((j+1:Nat):Int) from rfl,Ek,<-Y2,Vl,he];rfl
theorem OG{α β:Type}(f:α->β)(l:List α)(j:Nat):(l.map f).take j++(l.map f).drop (j+1)=(l.eraseIdx j).map f:=by
 rw[List.eraseIdx_eq_take_drop_succ,VR,Y2,Yd]
theorem OH{α:Type}{l:List α}{j:Nat}{x:α}(h:x∈l.eraseIdx j):x∈l:=List.mem_of_mem_eraseIdx h
theorem Ui{E:EndsS}{st:List Stm}{t n l0:Nat}{es:EE}{S:Sto}{o0 o1 o6 o7 o8:Option SV}(hen:∀ e∈es,e.1<e.2/\e.2<n)(nn:n<=12)(el:es.length<=39)(tl:t<S.length)(lt:l0≠t)(h0:S[l0]?=some (.lst []))
 (q:∀(l m:Nat) (cs:List Nat) (S':Sto) (o6:Option SV),Gw S S'->l≠t->S'[l]?=some (.lst (c8 cs))->FullH n es cs m->wSs (W prog 12) st E [o0,o1,some (.loc t),some (.int (n:Nat)),some (.tup (es.map pairS)),some (.loc l),o6,o7,o8] S'):
 wSs (W prog 12) (P1::st) E [o0,o1,some (.loc t),some (.int (n:Nat)),some (.tup (es.map pairS)),some (.loc l0),o6,o7,o8] S:=by
 have ml:(es.map pairS).length=es.length:=VA ..;refine⟨_,rfl,_,rfl,_,rfl,⟨by rw[ml];omega,by rw[ml];omega⟩,?_⟩;rw[ml];refine r6 (g9 (hW _) _) (λj ρ S'=>∃(l m:Nat) (cs:List Nat) (o6:Option SV),ρ=[o0,o1,some (.loc t),some (.int (n:Nat)),some (.tup (es.map pairS)),some (.loc l),o6,o7,o8]/\Gw S S'/\l≠t/\S'[l]?=some (.lst (c8 cs))/\FullH n (es.take j) cs m) ⟨l0,0,[],o6,rfl,Gw.refl S,lt,h0,FullH.nil n⟩ (λ_ _ _ _=>trivial) ?_ ?_
 ·rintro j x ρ S1 E1 hE hR hx ⟨l,m,cs,o6,rfl,G1,l1,h1,F⟩;have jl:j<es.length:=by have:=(gM hx).1;rw[k8]at this;omega
  obtain⟨rfl,_⟩:=p9 hx;rw[Wl];obtain⟨e,he⟩:∃ e,es[j]?=some e:=⟨_,VE jl⟩
  have tk:es.take (j+1)=es.take j++[e]:=by rw[Vl,he];rfl
  refine⟨_,rfl,_,rfl,_,rfl,_,rfl,by show 2<=100000;decide,_,rfl,?_⟩;rw[OF he];refine s54 0 (λf hf=>hen f (Xx (tk▸hf))) nn (by rw[Vr];omega) F h1 λl2 m2 ds S2 G2 l2l h2 F2=>?_;have:=G1.len;exact⟨_,rfl,.inl ⟨rfl,_,rfl,ifF rfl (c4 (hE _ _ ⟨l2,m2,ds,_,rfl,G1.trans G2,by omega,h2,by rw[tk];exact F2⟩))⟩⟩
 ·rintro ρ S1 ⟨l,m,cs,o6,rfl,G1,l1,h1,F⟩;rw[k8,show((es.length:Int) - 0).toNat=es.length by omega,Vf]at F;exact q l m cs S1 o6 G1 l1 h1 F
theorem Uj{E:EndsS}{t n l0 m0:Nat}{es:EE}{cs:List Nat}{S:Sto}{o0 o1 o6 o7 o8:Option SV}(T:TapeS S t)(hen:∀ e∈es,e.1<e.2/\e.2<n)(nn:n<=12)(el:es.length<=39)(lt:l0≠t)(h0:S[l0]?=some (.lst (c8 cs)))(F:FullH n es cs m0)
 (q:∀(S':Sto) (o4 o5 o7 o8:Option SV),E.nx [o0,o1,some (.loc t),some (.int (n:Nat)),o4,o5,o6,o7,o8] S'):
 wSs (W prog 12) [P2] E [o0,o1,some (.loc t),some (.int (n:Nat)),some (.tup (es.map pairS)),some (.loc l0),o6,o7,o8] S:=by
 have ml:(es.map pairS).length=es.length:=VA ..
 have hj:∃ m3:Nat,(if ((es.map pairS).length:Int)<(8:Int) then ((es.map pairS).length:Int) else 8)=(m3:Int)/\m3<=es.length/\m3<=8:=by
  rw[ml];refine⟨min 8 es.length,?_,by omega,by omega⟩;split<;>omega
 obtain⟨m3,hm3,m3l,m3b⟩:=hj;refine⟨_,rfl,_,rfl,m3,congrArg SV.int hm3,⟨by omega,by omega⟩,?_⟩;refine r6 (g9 (hW _) _) (λi ρ S'=>∃(fs:EE) (ds:List Nat) (l m:Nat) (o7 o8:Option SV),ρ=[o0,o1,some (.loc t),some (.int (n:Nat)),some (.tup (fs.map pairS)),some (.loc l),o6,o7,o8]/\TapeS S' t/\l≠t/\S'[l]?=some (.lst (c8 ds))/\FullH n fs ds m/\(∀ e∈fs,e.1<e.2/\e.2<n)/\fs.length+i=es.length) ⟨es,cs,l0,m0,o7,o8,rfl,T,lt,h0,F,hen,rfl⟩ (λ_ _ _ _=>trivial) ?_ ?_
 ·rintro i x ρ S1 E1 hE hR hx ⟨fs,ds,l,m,o7,o8,rfl,T1,l1,h1,F1,hen1,le⟩;have il:i<m3:=by have:=(gM hx).1;rw[k8]at this;omega
  have fp:0<fs.length:=by omega
  have fl:(fs.map pairS).length=fs.length:=VA ..;have dl:=F1.g.P.len;have ms:=Bf (n:=n) (es:=fs);have tls:=FX F1.th;refine⟨_,rfl,_,rfl,_,rfl,s40 11 T1 (by rw[fl];omega) (by rw[fl];omega) λr S2 r0 r1 T2 O2 _=>?_⟩;rw[fl]at r1;obtain⟨j,rfl⟩:=Int.eq_ofNat_of_zero_le r0;have jl:j<fs.length:=by omega
  have el2:(fs.eraseIdx j).length=fs.length - 1:=Wz jl;have dl2:(ds.eraseIdx j).length=ds.length - 1:=Wz (by omega);have h2:=O2.keep _ _ l1 h1;have c1:∀ xs:List SV,BC xs none (some ((j:Nat):Int))=xs.take j:=λxs=>Ek;have c2:∀ xs:List SV,BC xs (some (((j:Nat):Int)+1)) none=xs.drop (j+1):=λxs=>by rw[show(((j:Nat):Int)+1)=((j+1:Nat):Int) from rfl];exact LY
  refine⟨_,rfl,_,rfl,_,rfl,_,rfl,_,rfl,_,rfl,?_⟩;rw[c1];refine⟨by rw[c2,Vr,WL,fl];show _<=100000;omega,?_⟩;rw[c2,OG];refine⟨_,rfl,_,rfl,by show 2<=100000;decide,_,rfl,_,rfl,_,rfl,_,h2,_,rfl,_,rfl,_,rfl,_,j4 h2,?_⟩;refine⟨_,_,j4 a8,a8,by rw[c1,c2,Vr,WL,k9];show _<=100000;omega,?_⟩;rw[c1,c2];rw[show(c8 ds).take j++(c8 ds).drop (j+1)=c8 (ds.eraseIdx j) from OG pS ds j];have G3:Gw S2 (S2++[SO.lst ((c8 ds).take j)]++[SO.lst ((c8 ds).drop (j+1))]++[SO.lst (c8 (ds.eraseIdx j))]):=(Gw.refl S2).push.push.push;have h3:(S2++[SO.lst ((c8 ds).take j)]++[SO.lst ((c8 ds).drop (j+1))]++[SO.lst (c8 (ds.eraseIdx j))])[(S2++[SO.lst ((c8 ds).take j)]++[SO.lst ((c8 ds).drop (j+1))]).length]?=some (SO.lst (c8 (ds.eraseIdx j))):=a8;generalize (S2++[SO.lst ((c8 ds).take j)]++[SO.lst ((c8 ds).drop (j+1))]).length=k3 at *;generalize S2++[SO.lst ((c8 ds).take j)]++[SO.lst ((c8 ds).drop (j+1))]++[SO.lst (c8 (ds.eraseIdx j))]=S3 at *;have shl:∀ u,u<fs.length - 1->sh j u<fs.length:=λu ul=>by unfold sh;split<;>omega
  refine s55 0 (λf hf=>hen1 f (OH hf)) nn (by omega) (by omega) (λu ul=>by rw[HS];have:=F1.all _ (shl u (by omega));omega) (λH' es' h' hl hh=>?_) h3 λl4 m4 fs4 S4 G4 l4l h4 F4=>?_
  ·exact OC F1.g (by omega) h' jl F1.all hl λu ul=>by rw[hh u ul,HS]
  ·have t2:=T2.lt;have g3:=G3.len;exact⟨_,rfl,.inl ⟨rfl,_,rfl,ifF rfl (c4 (hE _ _ ⟨fs.eraseIdx j,fs4,l4,m4,_,_,rfl,(G3.trans G4).tape T2,by omega,h4,F4,λf hf=>hen1 f (OH hf),by omega⟩))⟩⟩
 ·rintro ρ S1 ⟨fs,ds,l,m,o7,o8,rfl,_⟩;exact q _ _ _ _ _
theorem law_main(ns:List Int)(h:ns.length<=63):W prog 13 56 [.ro (ns.map SV.int)] [] λx _=>x = .bl true:=by
 show f7 (W prog 12) d56 _ _ _
 have hj:∃ m:Nat,1+(if ((ns.map SV.int).length:Int)<(3:Int) then ((ns.map SV.int).length:Int) else 3)=(m:Int)/\m<=10:=by
  rw[VA];generalize ns.length=k;refine⟨1+min k 3,?_,by omega⟩;split<;>omega
 obtain⟨m,hm,hm4⟩:=hj;refine⟨rfl,_,rfl,_,rfl,m,congrArg SV.int hm,⟨by omega,by omega⟩,?_⟩;refine r6 (g9 (hW _) _) (λi ρ S'=>∃ o1 o2 o3 o4 o5 o6 o7 o8,ρ=[some (.ro (ns.map SV.int)),o1,o2,o3,o4,o5,o6,o7,o8]) ⟨none,none,none,none,none,none,none,none,rfl⟩ (λ_ _ _ _=>trivial) ?_ ?_
 ·rintro i x ρ S E hE hR hx ⟨o1,o2,o3,o4,o5,o6,o7,o8,rfl⟩;obtain⟨rfl,hi⟩:=p9 hx;rw[Wl]at hi ⊢;refine⟨_,rfl,_,rfl,s39 11 h (by omega) λa b ha hb hb2=>?_⟩;have T1:TapeS (S++[SO.lst [.int a,.int b]]) S.length:=⟨a,b,a8,ha,hb,hb2⟩
  refine⟨_,rfl,_,rfl,s40 11 T1 (by decide) (by decide) λr S2 r0 r1 T2 O2 _=>?_⟩;refine s42 9 T2 λn es S3 Wb T3 O3=>?_;have tl:=T3.lt;refine⟨by show 0<=100000;decide,?_⟩;refine Ui (st:=[P2]) Wb.en Wb.few Wb.len (T3.push (o:=SO.lst [])).lt (by omega) a8 λl m cs S4 o6 G4 lt h4 F=>?_;exact Uj (G4.tape T3.push) Wb.en Wb.few Wb.len lt h4 F λS' o4 o5 o7 o8=>hE _ _ ⟨_,_,_,_,_,_,_,_,rfl⟩
 ·rintro ρ S ⟨o1,o2,o3,o4,o5,o6,o7,o8,rfl⟩;exact rfl
end Hue
namespace PySem.W.Fast
theorem tw6830676346418302691:True:=⟨⟩
theorem tw11671899454679468966:True:=⟨⟩
theorem tw11922615186629532600:True:=⟨⟩
theorem tw3266318511134020955:True:=⟨⟩
theorem tw10828083900923219499:True:=⟨⟩
theorem tw6703939762420713066:True:=⟨⟩
theorem tw1169134444236461414:True:=⟨⟩
theorem tw1352770752364807389:True:=⟨⟩
theorem tw11737993800178534984:True:=⟨⟩
theorem tw8697122907442276725:True:=⟨⟩
theorem tw2644233583180915502:True:=⟨⟩
theorem tw17497452809107153100:True:=⟨⟩
theorem tw17254945173587891128:True:=⟨⟩
theorem tw10406541011458694926:True:=⟨⟩
theorem tw1326282971186750370:True:=⟨⟩
theorem tw3152523104750726826:True:=⟨⟩
theorem tw4514594930937382747:True:=⟨⟩
theorem tw1338260795906628679:True:=⟨⟩
theorem tw16114717920064041048:True:=⟨⟩
theorem tw14464174683030491324:True:=⟨⟩
theorem tw9506563715347161882:True:=⟨⟩
theorem tw13337490066124303522:True:=⟨⟩
theorem tw4252473436191182320:True:=⟨⟩
theorem tw8446457115302782470:True:=⟨⟩
theorem tw8662756798441299586:True:=⟨⟩
theorem tw670645927712552644:True:=⟨⟩
theorem tw14196969631446811123:True:=⟨⟩
theorem tw10316947016079881166:True:=⟨⟩
theorem tw9794404375064516332:True:=⟨⟩
theorem tw4429256712284646724:True:=⟨⟩
theorem tw3983371293269645277:True:=⟨⟩
theorem tw1374460781919079315:True:=⟨⟩
theorem tw4922516136568107792:True:=⟨⟩
theorem tw5798836126137934125:True:=⟨⟩
theorem tw15677858756717928573:True:=⟨⟩
theorem tw682701021941261702:True:=⟨⟩
theorem tw1694896175339380799:True:=⟨⟩
theorem tw10592749680610879981:True:=⟨⟩
theorem tw11263983852879925521:True:=⟨⟩
theorem tw58301708264871318:True:=⟨⟩
theorem tw9794918897004433085:True:=⟨⟩
theorem tw2003321804214514229:True:=⟨⟩
theorem tw14656834250904800081:True:=⟨⟩
theorem tw12495543034299953559:True:=⟨⟩
theorem tw1484769454029379323:True:=⟨⟩
theorem tw7882967576103212679:True:=⟨⟩
theorem tw3206732954216333364:True:=⟨⟩
theorem tw6247670533390578219:True:=⟨⟩
theorem tw16467117461580553450:True:=⟨⟩
theorem tw11281890586305997297:True:=⟨⟩
theorem tw13064602759422861764:True:=⟨⟩
theorem tw7574201935536482075:True:=⟨⟩
theorem tw14849322062141365683:True:=⟨⟩
theorem tw3679928171894629443:True:=⟨⟩
theorem tw11933366311607093036:True:=⟨⟩
theorem tw14761330692806913509:True:=⟨⟩
theorem tw16384368220225861441:True:=⟨⟩
theorem tw597248018672112987:True:=⟨⟩
theorem tw6481302720800428222:True:=⟨⟩
theorem tw5881713518429560002:True:=⟨⟩
theorem tw14006240023883526085:True:=⟨⟩
theorem tw12006505162498436510:True:=⟨⟩
theorem tw11329884204430338727:True:=⟨⟩
theorem tw8702400621158463132:True:=⟨⟩
theorem tw15990420686085267334:True:=⟨⟩
theorem tw2427289325938591943:True:=⟨⟩
theorem tw15387734915010610100:True:=⟨⟩
theorem tw16848781783493707866:True:=⟨⟩
theorem tw2789197930363018791:True:=⟨⟩
theorem tw17230506139095361058:True:=⟨⟩
theorem tw4567365342032135668:True:=⟨⟩
theorem tw14459610438824786873:True:=⟨⟩
theorem tw4782581203010953721:True:=⟨⟩
theorem tw14426299581619586425:True:=⟨⟩
theorem tw5473812244428712385:True:=⟨⟩
theorem tw6985880314254972646:True:=⟨⟩
theorem tw8844289661828195656:True:=⟨⟩
theorem tw748132427395020702:True:=⟨⟩
theorem tw2734085436704071876:True:=⟨⟩
theorem tw18172961038859266488:True:=⟨⟩
theorem tw13282186742826161526:True:=⟨⟩
theorem tw24597921209804496:True:=⟨⟩
theorem tw2841021376407196058:True:=⟨⟩
theorem tw7520595865652898758:True:=⟨⟩
theorem tw4597248576290551863:True:=⟨⟩
theorem tw1060070673817311858:True:=⟨⟩
theorem tw13921997912709085117:True:=⟨⟩
theorem tw15826519127196145379:True:=⟨⟩
theorem tw10691175509838686395:True:=⟨⟩
theorem tw8934325477781862330:True:=⟨⟩
theorem tw17992715155857028944:True:=⟨⟩
theorem tw1761371791668973242:True:=⟨⟩
theorem tw15418675497350306359:True:=⟨⟩
theorem tw2745995484611392038:True:=⟨⟩
theorem tw16533708024467860928:True:=⟨⟩
theorem tw11812904087623404581:True:=⟨⟩
theorem tw13902846166772878965:True:=⟨⟩
theorem tw13401576872478300237:True:=⟨⟩
theorem tw17477679899494193698:True:=⟨⟩
theorem tw10309938415025137053:True:=⟨⟩
theorem tw2255348872513990678:True:=⟨⟩
theorem tw9391600174803360012:True:=⟨⟩
theorem tw6546857150587342099:True:=⟨⟩
theorem tw12728694538670097356:True:=⟨⟩
theorem tw5328708451427388446:True:=⟨⟩
theorem tw12824044883279277875:True:=⟨⟩
theorem tw2099668143061895876:True:=⟨⟩
theorem tw5926597738900182357:True:=⟨⟩
theorem tw15142745215582004972:True:=⟨⟩
theorem tw6996506103094978637:True:=⟨⟩
theorem tw11389527263016771719:True:=⟨⟩
theorem tw636018259965414688:True:=⟨⟩
theorem tw6169447630460165481:True:=⟨⟩
theorem tw15557923057116489934:True:=⟨⟩
theorem tw3777504755147850445:True:=⟨⟩
theorem tw13851988768692550865:True:=⟨⟩
theorem tw11449585382297996168:True:=⟨⟩
theorem tw4690929607041586899:True:=⟨⟩
theorem tw17829455548137503530:True:=⟨⟩
theorem tw7519724206310179720:True:=⟨⟩
theorem tw11671728296621878588:True:=⟨⟩
theorem tw8243093488473883978:True:=⟨⟩
theorem tw1742997220583742242:True:=⟨⟩
theorem tw5851597650786517193:True:=⟨⟩
theorem tw1638910230575940849:True:=⟨⟩
theorem tw15157148330856857487:True:=⟨⟩
theorem tw12442593785447314107:True:=⟨⟩
theorem tw2399965468713439186:True:=⟨⟩
theorem tw9893615371011272778:True:=⟨⟩
theorem tw1628343935879532382:True:=⟨⟩
theorem tw14356482033857871400:True:=⟨⟩
theorem tw4517859738726119122:True:=⟨⟩
theorem tw5713891909154247405:True:=⟨⟩
theorem tw16348335924110396155:True:=⟨⟩
theorem tw9910791059839204008:True:=⟨⟩
theorem tw16051716028650212422:True:=⟨⟩
theorem tw16853214164540457839:True:=⟨⟩
theorem tw5612124841375822471:True:=⟨⟩
theorem tw2551382260096495233:True:=⟨⟩
theorem tw4174282009104441059:True:=⟨⟩
theorem tw11804204080147882862:True:=⟨⟩
theorem tw7863954838811444711:True:=⟨⟩
theorem tw7955861496986130515:True:=⟨⟩
theorem tw7150108688049000007:True:=⟨⟩
theorem tw918615551516798764:True:=⟨⟩
theorem tw10779659763554057678:True:=⟨⟩
theorem tw11273975870014856764:True:=⟨⟩
theorem tw13858362382621450744:True:=⟨⟩
theorem tw11863816287526071916:True:=⟨⟩
theorem tw15616057504733398305:True:=⟨⟩
theorem tw17421205032154251261:True:=⟨⟩
theorem tw15869888126037150693:True:=⟨⟩
theorem tw8615653628322779142:True:=⟨⟩
theorem tw12930495556971134400:True:=⟨⟩
theorem tw14915347804861440132:True:=⟨⟩
theorem tw6127942106089425493:True:=⟨⟩
theorem tw8529529404777977110:True:=⟨⟩
theorem tw6349074377232798848:True:=⟨⟩
theorem tw6009352237635477866:True:=⟨⟩
theorem tw9999585426268715160:True:=⟨⟩
theorem tw8354875041726319423:True:=⟨⟩
theorem tw3521667508623068749:True:=⟨⟩
theorem tw8308387547229259063:True:=⟨⟩
theorem tw17472042342583226742:True:=⟨⟩
theorem tw4480791383849278201:True:=⟨⟩
theorem tw15021637126776177817:True:=⟨⟩
theorem tw15131390803298893674:True:=⟨⟩
theorem tw10343917119690167528:True:=⟨⟩
theorem tw432203948075051091:True:=⟨⟩
theorem tw10367327073438414280:True:=⟨⟩
theorem tw10203366384402732351:True:=⟨⟩
theorem tw6483503116267370011:True:=⟨⟩
theorem tw533899706021150171:True:=⟨⟩
theorem tw12072888510973869416:True:=⟨⟩
theorem tw11097324662177669078:True:=⟨⟩
theorem tw8309028068284586818:True:=⟨⟩
theorem tw2125823569775495952:True:=⟨⟩
theorem tw16249585032600763582:True:=⟨⟩
theorem tw4610510552482160973:True:=⟨⟩
theorem tw14014702414253862954:True:=⟨⟩
theorem tw1840737578820033323:True:=⟨⟩
theorem tw5395008614389647330:True:=⟨⟩
theorem tw3049811760685362708:True:=⟨⟩
theorem tw10652789918722472580:True:=⟨⟩
theorem tw12595507575374731336:True:=⟨⟩
theorem tw9140200532510366655:True:=⟨⟩
theorem tw9898727776132973007:True:=⟨⟩
theorem tw3628700448735436427:True:=⟨⟩
theorem tw13399871157594557949:True:=⟨⟩
theorem tw1339481533922710817:True:=⟨⟩
theorem tw4779017284139274922:True:=⟨⟩
theorem tw8457040613970801302:True:=⟨⟩
theorem tw13669939596769642665:True:=⟨⟩
theorem tw1179738011204155489:True:=⟨⟩
theorem tw4902510076570547747:True:=⟨⟩
theorem tw18156571297265704845:True:=⟨⟩
theorem tw17646967377965596135:True:=⟨⟩
theorem tw3848671279509963849:True:=⟨⟩
theorem tw16346812163633764912:True:=⟨⟩
theorem tw9889552134216447397:True:=⟨⟩
theorem tw16530892653618245425:True:=⟨⟩
theorem tw6265671762275953958:True:=⟨⟩
theorem tw12089056167431746029:True:=⟨⟩
theorem tw10694034132410214858:True:=⟨⟩
theorem tw7221624950062150331:True:=⟨⟩
theorem tw14095452789543174346:True:=⟨⟩
theorem tw8188935882126718707:True:=⟨⟩
theorem tw11467453857786479314:True:=⟨⟩
theorem tw5802586611107008483:True:=⟨⟩
theorem tw8404052557774379312:True:=⟨⟩
theorem tw3834104891821042404:True:=⟨⟩
theorem tw14869061832177448111:True:=⟨⟩
theorem tw3804525387595938948:True:=⟨⟩
theorem tw10101303406283545305:True:=⟨⟩
theorem tw11227249033102598498:True:=⟨⟩
theorem tw8852370430957680172:True:=⟨⟩
theorem tw4744669146087278211:True:=⟨⟩
theorem tw2149206568182083367:True:=⟨⟩
theorem tw15591128126567211048:True:=⟨⟩
theorem tw14916082210227766563:True:=⟨⟩
theorem tw14489626609671830299:True:=⟨⟩
theorem tw870283810771475329:True:=⟨⟩
theorem tw3105408645068005645:True:=⟨⟩
theorem tw18193588937523533071:True:=⟨⟩
theorem tw10728981924187935410:True:=⟨⟩
theorem tw4271045357391378673:True:=⟨⟩
theorem tw3693630680291121038:True:=⟨⟩
theorem tw13628173494380302105:True:=⟨⟩
theorem tw1116150374314997786:True:=⟨⟩
theorem tw4342890884558310256:True:=⟨⟩
theorem tw15460535340230319237:True:=⟨⟩
theorem tw3673900570417254816:True:=⟨⟩
theorem tw2959390471946468824:True:=⟨⟩
theorem tw11728364374603750258:True:=⟨⟩
theorem tw9447346301575875879:True:=⟨⟩
theorem tw8634940972648926309:True:=⟨⟩
theorem tw2323087515554403808:True:=⟨⟩
end PySem.W.Fast
namespace Hue
open PySem L2 Rf
noncomputable def m5(K:V8)(nm:Str)(i:Nat):Prop:=∃(f:Yp) (od an:Option Yp) (sl:Array (Option Yn)) (oc kV dc pm cd ct:Yn),PySem.W.nsIn K Yv nm=some (some (.ref f))/\K.lookup f=some ⟨oc,od,.func (PySem.W.fnOf nm nm (defArgs (top i)) (defBody (top i)) (defScope (top i)) .none kV dc pm an cd ct),sl⟩/\PySem.W.codeIn K cd nm=true/\PySem.W.keepIn K (.ref f)=true
theorem lnkK_mk{K:V8}{nm:Str}{i:Nat}{f:Yp}{od an:Option Yp}{sl:Array (Option Yn)}{oc kV dc pm cd ct:Yn}(a:PySem.W.nsIn K Yv nm=some (some (.ref f)))(l:K.lookup f=some ⟨oc,od,.func (PySem.W.fnOf nm nm (defArgs (top i)) (defBody (top i)) (defScope (top i)) .none kV dc pm an cd ct),sl⟩)(c:PySem.W.codeIn K cd nm=true)(k:PySem.W.keepIn K (.ref f)=true):m5 K nm i:=⟨f,od,an,sl,oc,kV,dc,pm,cd,ct,a,l,c,k⟩
theorem e8{K:V8}{h:Heap}{mg:Str->Option Yn}(X:K.In h)(G:h.Ns Yv mg)(D:Df){i:Nat}(x:m5 K D.name i)(e:D.st=top i)(b:∀(kV doc pm:Yn) (an:Option Yp) (cdv ct:Yn) (us:List Yn),us.length=D.ps.length->bindArgs (PySem.W.fnOf D.name D.name (defArgs (top i)) (defBody (top i)) (defScope (top i)) .none kV doc pm an cdv ct) ⟨us,[]⟩=pure (D.ps.zip us)):PIn K mg D:=by
 obtain⟨_,_,_,_,_,_,_,_,_,_,a,l,c,k⟩:=x;exact⟨_,_,e▸Hl (st:=top i) l c k,PySem.W.mg_of X G a,k,(Hl (st:=top i) l c k).binds (ps:=D.ps) b⟩
theorem i6{P:Df->Prop}{D:Df}{l:List Df}(a:P D)(b:∀ x∈l,P x):∀ x∈D::l,P x:=List.forall_mem_cons.mpr ⟨a,b⟩
theorem all_mk{l:PySem.W.OpenLaw}{w:Yw}{K:V8}{h:Heap}{mg:Str->Option Yn}{fa:Yp}(X:K.In h)(G:h.Ns Yv mg)(hfa:mg "law"=some (.ref fa))
 (x0:m5 K "is_number" 9)
 (x1:m5 K "is_listed" 10)
 (x2:m5 K "has_place" 12)
 (x3:m5 K "has_tie" 13)
 (x4:m5 K "check_place" 14)
 (x5:m5 K "check_tie" 15)
 (x6:m5 K "ties_at" 16)
 (x7:m5 K "most_at" 17)
 (x8:m5 K "thickest" 18)
 (x9:m5 K "enough" 19)
 (x10:m5 K "far_end" 20)
 (x11:m5 K "meets" 21)
 (x12:m5 K "is_hue" 23)
 (x13:m5 K "is_hueing" 24)
 (x14:m5 K "clash_of" 25)
 (x15:m5 K "hues_at" 26)
 (x16:m5 K "free_at" 27)
 (x17:m5 K "tie_of_hue" 29)
 (x18:m5 K "check_unlike" 30)
 (x19:m5 K "row_from" 31)
 (x20:m5 K "exchanged" 32)
 (x21:m5 K "tie_has_hue" 34)
 (x22:m5 K "tie_lacks_hue" 35)
 (x23:m5 K "with_hues" 36)
 (x24:m5 K "after_hue" 37)
 (x25:m5 K "after_drop" 38)
 (x26:m5 K "after_move" 39)
 (x27:m5 K "after_row" 40)
 (x28:m5 K "after_step" 41)
 (x29:m5 K "done_step" 42)
 (x30:m5 K "next_of_fan" 44)
 (x31:m5 K "fan_of" 45)
 (x32:m5 K "turning" 46)
 (x33:m5 K "turned" 47)
 (x34:m5 K "shared_hue" 48)
 (x35:m5 K "freeing_row" 49)
 (x36:m5 K "steps_to_hue" 50)
 (x37:m5 K "check_enough" 51)
 (x38:m5 K "hued_in" 52)
 (x39:m5 K "_law_tape" 54)
 (x40:m5 K "_law_draw" 55)
 (x41:m5 K "_law_pairs_by" 56)
 (x42:m5 K "_law_web" 57)
 (x43:m5 K "_law_meet" 58)
 (x44:m5 K "_law_count" 59)
 (x45:m5 K "_law_most" 60)
 (x46:m5 K "_law_thickest" 61)
 (x47:m5 K "_law_is_hueing" 62)
 (x48:m5 K "_law_row" 63)
 (x49:m5 K "_law_hues" 64)
 (x50:m5 K "_law_stepped" 65)
 (x51:m5 K "_law_walked" 66)
 (x52:m5 K "_law_got" 67)
 (x53:m5 K "_law_steady" 68)
 (x54:m5 K "_law_more" 69)
 (x55:m5 K "_law_fewer" 70)
 (x56:m5 K "law" 71)
 (z0:PySem.W.nsIn K Yv "len"=some none)
 (z1:PySem.W.nsIn K Yv "abs"=some none)
 (z2:PySem.W.nsIn K Yv "min"=some none)
 (z3:PySem.W.nsIn K Yv "max"=some none)
 (z4:PySem.W.nsIn K Yv "int"=some none)
 (z5:PySem.W.nsIn K Yv "list"=some none)
 (z6:PySem.W.nsIn K Yv "tuple"=some none)
 (z7:PySem.W.nsIn K Yv "all"=some none)
 (z8:PySem.W.nsIn K Yv "any"=some none)
 (z9:PySem.W.nsIn K Yv "sorted"=some none)
 (z10:PySem.W.nsIn K Yv "isinstance"=some none)
 (z11:PySem.W.nsIn K Yv "str"=some none)
 (z12:PySem.W.nsIn K Yv "range"=some none)
 (z13:PySem.W.nsIn K Yv "enumerate"=some none)
 (z14:PySem.W.nsIn K Yv "zip"=some none)
 (z15:PySem.W.nsIn K Yv "set"=some none)
 (z16:PySem.W.nsIn K Yv "bool"=some none)
 (z17:PySem.W.nsIn K Yv "dict"=some none)
 (z18:PySem.W.nsIn K Yv "reversed"=some none)
 (z19:PySem.W.nsIn K Yv "repr"=some none)
 (z20:PySem.W.nsIn K Yv "sum"=some none)
 : ∃ fd:ZT,(∀(s:Yo) (v:Yn),BindsTo s fd ⟨[v],[]⟩ [("_law_script",v)])/\∀ base:Heap,K.In base->base.Ns Yv mg->FnOk l.prog w K mg base CX0 13 fa fd ["_law_script"] (spS K (W prog 13 56)):=by
 have y:=x56;obtain⟨f56,od56,an56,sl56,oc56,kV56,dc56,pm56,cd56,ct56,a56,l56,c56,k56⟩:=x56;have e:=hfa.symm.trans (PySem.W.mg_of X G a56);cases e
 have B:Bl mg:=by
  refine⟨λb=>?_,VX X G z12,VX X G z13,VX X G z18,VX X G z14,VX X G z20,VX X G z15,VX X G z17,λt ht=>?_⟩
  ·cases b with
   | len=>exact VX X G z0
   | abs=>exact VX X G z1
   | min=>exact VX X G z2
   | max=>exact VX X G z3
   | int=>exact VX X G z4
   | list=>exact VX X G z5
   | tuple=>exact VX X G z6
   | all=>exact VX X G z7
   | any=>exact VX X G z8
   | sorted=>exact VX X G z9
   | isi=>exact VX X G z10
   | str=>exact VX X G z11
   | repr=>exact VX X G z19
  ·cases t with
   | int=>exact VX X G z4
   | bool=>exact VX X G z16
   | str=>exact VX X G z11
   | list=>exact VX X G z5
   | tuple=>exact VX X G z6
   | none=>exact absurd rfl ht
 have hin:∀ D∈prog,PIn K mg D:=i6 (e8 X G d0 x0 rfl λ_ _ _ _ _ _=>EC λ_=>rfl) (i6 (e8 X G d1 x1 rfl λ_ _ _ _ _ _=>EC λ_=>rfl) (i6 (e8 X G d2 x2 rfl λ_ _ _ _ _ _=>BD λ_ _=>rfl) (i6 (e8 X G d3 x3 rfl λ_ _ _ _ _ _=>BD λ_ _=>rfl) (i6 (e8 X G d4 x4 rfl λ_ _ _ _ _ _=>BD λ_ _=>rfl) (i6 (e8 X G d5 x5 rfl λ_ _ _ _ _ _=>BD λ_ _=>rfl) (i6 (e8 X G d6 x6 rfl λ_ _ _ _ _ _=>BD λ_ _=>rfl) (i6 (e8 X G d7 x7 rfl λ_ _ _ _ _ _=>EC λ_=>rfl) (i6 (e8 X G d8 x8 rfl λ_ _ _ _ _ _=>EC λ_=>rfl) (i6 (e8 X G d9 x9 rfl λ_ _ _ _ _ _=>EC λ_=>rfl) (i6 (e8 X G d10 x10 rfl λ_ _ _ _ _ _=>CI λ_ _ _=>rfl) (i6 (e8 X G d11 x11 rfl λ_ _ _ _ _ _=>CI λ_ _ _=>rfl) (i6 (e8 X G d12 x12 rfl λ_ _ _ _ _ _=>EC λ_=>rfl) (i6 (e8 X G d13 x13 rfl λ_ _ _ _ _ _=>BD λ_ _=>rfl) (i6 (e8 X G d14 x14 rfl λ_ _ _ _ _ _=>BD λ_ _=>rfl) (i6 (e8 X G d15 x15 rfl λ_ _ _ _ _ _=>CI λ_ _ _=>rfl) (i6 (e8 X G d16 x16 rfl λ_ _ _ _ _ _=>ED λ_ _ _ _=>rfl) (i6 (e8 X G d17 x17 rfl λ_ _ _ _ _ _=>ED λ_ _ _ _=>rfl) (i6 (e8 X G d18 x18 rfl λ_ _ _ _ _ _=>BD λ_ _=>rfl) (i6 (e8 X G d19 x19 rfl λ_ _ _ _ _ _=>FO λ_ _ _ _ _=>rfl) (i6 (e8 X G d20 x20 rfl λ_ _ _ _ _ _=>FO λ_ _ _ _ _=>rfl) (i6 (e8 X G d21 x21 rfl λ_ _ _ _ _ _=>CI λ_ _ _=>rfl) (i6 (e8 X G d22 x22 rfl λ_ _ _ _ _ _=>CI λ_ _ _=>rfl) (i6 (e8 X G d23 x23 rfl λ_ _ _ _ _ _=>CI λ_ _ _=>rfl) (i6 (e8 X G d24 x24 rfl λ_ _ _ _ _ _=>ED λ_ _ _ _=>rfl) (i6 (e8 X G d25 x25 rfl λ_ _ _ _ _ _=>CI λ_ _ _=>rfl) (i6 (e8 X G d26 x26 rfl λ_ _ _ _ _ _=>ED λ_ _ _ _=>rfl) (i6 (e8 X G d27 x27 rfl λ_ _ _ _ _ _=>FO λ_ _ _ _ _=>rfl) (i6 (e8 X G d28 x28 rfl λ_ _ _ _ _ _=>CI λ_ _ _=>rfl) (i6 (e8 X G d29 x29 rfl λ_ _ _ _ _ _=>CI λ_ _ _=>rfl) (i6 (e8 X G d30 x30 rfl λ_ _ _ _ _ _=>ED λ_ _ _ _=>rfl) (i6 (e8 X G d31 x31 rfl λ_ _ _ _ _ _=>FO λ_ _ _ _ _=>rfl) (i6 (e8 X G d32 x32 rfl λ_ _ _ _ _ _=>CI λ_ _ _=>rfl) (i6 (e8 X G d33 x33 rfl λ_ _ _ _ _ _=>FO λ_ _ _ _ _=>rfl) (i6 (e8 X G d34 x34 rfl λ_ _ _ _ _ _=>FO λ_ _ _ _ _=>rfl) (i6 (e8 X G d35 x35 rfl λ_ _ _ _ _ _=>FO λ_ _ _ _ _=>rfl) (i6 (e8 X G d36 x36 rfl λ_ _ _ _ _ _=>ED λ_ _ _ _=>rfl) (i6 (e8 X G d37 x37 rfl λ_ _ _ _ _ _=>BD λ_ _=>rfl) (i6 (e8 X G d38 x38 rfl λ_ _ _ _ _ _=>ED λ_ _ _ _=>rfl) (i6 (e8 X G d39 x39 rfl λ_ _ _ _ _ _=>BD λ_ _=>rfl) (i6 (e8 X G d40 x40 rfl λ_ _ _ _ _ _=>BD λ_ _=>rfl) (i6 (e8 X G d41 x41 rfl λ_ _ _ _ _ _=>BD λ_ _=>rfl) (i6 (e8 X G d42 x42 rfl λ_ _ _ _ _ _=>BD λ_ _=>rfl) (i6 (e8 X G d43 x43 rfl λ_ _ _ _ _ _=>CI λ_ _ _=>rfl) (i6 (e8 X G d44 x44 rfl λ_ _ _ _ _ _=>BD λ_ _=>rfl) (i6 (e8 X G d45 x45 rfl λ_ _ _ _ _ _=>EC λ_=>rfl) (i6 (e8 X G d46 x46 rfl λ_ _ _ _ _ _=>EC λ_=>rfl) (i6 (e8 X G d47 x47 rfl λ_ _ _ _ _ _=>BD λ_ _=>rfl) (i6 (e8 X G d48 x48 rfl λ_ _ _ _ _ _=>FO λ_ _ _ _ _=>rfl) (i6 (e8 X G d49 x49 rfl λ_ _ _ _ _ _=>CI λ_ _ _=>rfl) (i6 (e8 X G d50 x50 rfl λ_ _ _ _ _ _=>CI λ_ _ _=>rfl) (i6 (e8 X G d51 x51 rfl λ_ _ _ _ _ _=>ED λ_ _ _ _=>rfl) (i6 (e8 X G d52 x52 rfl λ_ _ _ _ _ _=>FO λ_ _ _ _ _=>rfl) (i6 (e8 X G d53 x53 rfl λ_ _ _ _ _ _=>ED λ_ _ _ _=>rfl) (i6 (e8 X G d54 x54 rfl λ_ _ _ _ _ _=>BD λ_ _=>rfl) (i6 (e8 X G d55 x55 rfl λ_ _ _ _ _ _=>BD λ_ _=>rfl) (i6 (e8 X G d56 y rfl λ_ _ _ _ _ _=>EC λ_=>rfl) (λ_ h=>nomatch h)))))))))))))))))))))))))))))))))))))))))))))))))))))))));refine⟨PySem.W.fnOf "law" "law" (defArgs (top 71)) (defBody (top 71)) (defScope (top 71)) .none kV56 dc56 pm56 an56 cd56 ct56,λs v => .of_eq rfl,λbase _ _=>?_⟩
 exact NL (P:=l.prog) (w:=w) (base:=base) (k:=12) (Δ:=W prog 12) (D:=d56) (Hl (st:=top 71) l56 c56 k56) (Ve.mp HV d56 (VC (show prog[56]?=some d56 from rfl))) B (λg x hx=>by
  rw[VI]at hx;cases hg:prog[g]? with
  | none=>rw[hg]at hx;cases hx
  | some D'=>
    rw[hg]at hx;have:D'.name=x:=by simpa using hx
    subst this;exact⟨D'.ps,JY HV B hin 12 g D' hg⟩) (Dc 12)
theorem walkL{l:PySem.W.OpenLaw}{q:Yu}{loose:List Str}{XP:(Str->Option Yn)->Heap->Prop}{YP:Yw->Heap->Prop}{d:DefRec}{K:Params->V8}(hn:l.most=some 63)(hdf:d.params.defaults=[])
 (hY:∀(w:Yw) (h:Heap),YP w h->(K w.params).In h)
 (F:∀(w:Yw) (mg:Str->Option Yn) (fa:Yp) (h:Heap),(K w.params).In h->h.Ns Yv mg->mg d.name=some (.ref fa)->
   ∃ fd:ZT,(∀(s:Yo) (u:Yn),BindsTo s fd ⟨[u],[]⟩ [("_law_script",u)])/\∀ base:Heap,(K w.params).In base->base.Ns Yv mg->FnOk l.prog w (K w.params) mg base CX0 13 fa fd ["_law_script"] (spS (K w.params) (W prog 13 56))):
 PySem.W.WalkO q loose XP YP l.row.toRowW d [] (λf vs=>PySem.call f vs):=
 L2.walk_of (n:=63) (k:=13) (x:="_law_script") (CX:=λ_=>CX0) (sp:=λw=>spS (K w.params) (W prog 13 56)) hn (by decide) hdf ⟨rfl,by decide,by decide,rfl⟩ hY F (λ_ _ a ns hl hO hS=>Sl (law_main ns hl) hO hS) λ_ _ _ _ _ z=>z
end Hue
open PySem PySem.W PyProof.Rows
set_option maxRecDepth 100000 in
set_option maxHeartbeats 0 in
theorem PySem.Challenge.cw_huedties_k85_whole_webs_that_grow_holds : PySem.Challenge.rw_huedties_k85_whole_webs_that_grow.Holds := by
 w_on;o_law;k_head;(case hw=>w_witness2)
 k_fill
 refine Hue.walkL (l:=PySem.Challenge.rw_huedties_k85_whole_webs_that_grow) rfl rfl (λw h Y=>PySem.W.kIn_of Y) ?F
 case F=>
  intro w mg fa h KX G hmg;refine' Hue.all_mk KX G hmg ?_ ?_ ?_ ?_ ?_ ?_ ?_ ?_ ?_ ?_ ?_ ?_ ?_ ?_ ?_ ?_ ?_ ?_ ?_ ?_ ?_ ?_ ?_ ?_ ?_ ?_ ?_ ?_ ?_ ?_ ?_ ?_ ?_ ?_ ?_ ?_ ?_ ?_ ?_ ?_ ?_ ?_ ?_ ?_ ?_ ?_ ?_ ?_ ?_ ?_ ?_ ?_ ?_ ?_ ?_ ?_ ?_ ?_ ?_ ?_ ?_ ?_ ?_ ?_ ?_ ?_ ?_ ?_ ?_ ?_ ?_ ?_ ?_ ?_ ?_ ?_ ?_ ?_
  all_goals first | exact Hue.lnkK_mk (by k_is) (by k_is) (by k_is) (by k_is) | k_is
