import PyProof.Rows.All
import Wide.All
import OpenK.AllK
import PySem.Challenge.RW_huedties_k25_many_ties_between_two
set_option Elab.async false
set_option linter.all false
set_option maxRecDepth 100000
open PySem.W renaming Frag->Vl,mg_none_of->W9
open List renaming length_map->Vm,length_append->Vo,mem_of_getElem?->Vp,getD_eq_getElem?_getD->Vq,getElem?_eq_getElem->Vr,getElem?_map->Vu,size_toArray->Vw,replicate->Vx,mem_cons_of_mem->Vz,range->W4,mem_cons->W5,getElem?_append_left->W6,mem_cons_self->W7,mem_singleton->W8,map_append->WB,mem_map->WC,mem_range->WD,length_cons->WG,all_eq_true->WJ,getElem?_concat_length->WL,mem_append->WM,prefix_refl->WN,replicate_succ->WQ,find?_cons->WU,take_length->WV,map_cons->WX,getElem?_set_self->WY,take_succ->WZ,length_set->Wa,length_range->Wb,isEmpty_iff->Wc,getElem?_append_right->We,getElem?_eq_none->Wf,mem_append_right->Wi,length_replicate->Wj,length_singleton->Wk,append_nil->Wl,getElem?_range->Wm,mem_filter->Wn,nodup_cons->Wo,length_take->Wp,getElem?_set_ne->Wt,getElem?_of_mem->Wu,length_nil->Wv,flatten_cons->Wx,getD->Wz,all_cons->X0,any_cons->X1,find?_eq_none->X4,getElem?_replicate->X5,lookup_cons->X6,filter_cons->X7,findSome?_eq_none_iff->X9,not_mem_nil->XB,getElem_mem->XD,any_eq_true->XE,getLast?_eq_some_getLast->XG,ext_getElem?->XI,length_filter_le->XJ,drop_eq_getElem_cons->XM,getLast?_eq_getElem?->XN,of_mem_zip->XO,range_succ->XQ,mem_append_left->XR,reverse_cons->XS,nodup_append->XU,length_drop->XY,prefix_append->Xb,filter_append->Xd,mem_iff_getElem->Xf,replicate_succ'->Xg,map_map->Xh,mem_of_find?_eq_some->Xi,filterMap_cons->Xj,length_reverse->Xk,map_congr_left->Xl,filter_filter->Xo,findIdx?_eq_some_iff_getElem->Xp,any_map->Xq,map_set->Xr,getElem?_zipWith->Xs,nodup_range->Xt,countP_eq_length_filter->Xu,dropLast_concat_getLast->Xv,countP_append->Y0,count_eq_zero->Y1,findIdx?_eq_none_iff->Y3,getLastD_eq_getLast?->Y4,any_eq_false->Y5,length->Y6,append_assoc->Y7,find?_append->Y8,pairwise_map->Y9,filter_congr->YA,flatMap_cons->YB,filterMap_cons_none->YD,length_filterMap_le->YE,eq_of_mem_replicate->YF,cons_ne_nil->YH,length_eq_zero_iff->YI,countP_cons->YJ,mem_flatMap->YK,take_of_length_le->YN,all_map->YQ,find?_cons_of_pos->YR,find?_cons_of_neg->YS,range_succ_eq_map->YT,head?_eq_none_iff->YU,nil_append->YV,forIn_cons->YW,countP_nil->YX,dropLast_eq_take->YY,take_append_drop->Ya,lookup->Yb,forIn_nil->Yc,getElem_of_mem->Yf,findSome?_cons->Yg,filter_eq_self->Yh,flatMap_append->Yi,mem_filterMap->Yj,zip_cons_cons->Yk,pairwise_cons->Yl,getElem?_inj->Yq,foldl_append->Yv,zipIdx_cons->Z1,drop_length->Z2,countP->Z4,filter->Z5,zipIdx_nil->Z6,head?_drop->Z7,find?_some->Z8,foldl->ZA,nodup_nil->ZC,filterMap->ZD,tail_drop->ZE,take_zero->ZG,map_nil->ZL,any_nil->ZM
open Bool renaming and_eq_true->Vn,false_ne_true->Vy,not_eq_true'->WK,eq_iff_iff->Wd,or_eq_true->Wg,false_eq_true->X3,true_and->YC,true_or->Yr,not_not->Yt,noConfusion->Z3,false_and->Z9,false_or->ZI,or_false->ZJ
open PySem.Heap renaming get?_push_of_some->Vs,lt_size->Vv,get?_push_size->W3,size_push->Wh,get?_update_other->Wq,get?_update_self->Wr,SameBut->Ww,update->Ye,IsTuple->Yp,ExtBut->ZO
open Nat renaming le_refl->Vt,ne_of_lt->W0,le_trans->WH,lt_of_lt_of_le->WR,zero_le->Wy,le_add_right->XC,lt_succ_of_lt->XH,lt_or_ge->XT,lt_irrefl->XW,lt_succ_self->XZ,succ_mul->Xa,not_lt_zero->Xe,pos_of_ne_zero->Xn,add_le_add_left->Xw,lt_of_le_of_lt->Xy,succ_le_succ->YL,le_of_lt->YM,le_succ->Yd,ne_of_gt->Yn,le_of_eq->Yo,le_succ_of_le->Ys,lt_trichotomy->Yu,le_of_not_lt->Yx,succ_ne_self->Yz,not_lt_of_gt->Z0,mul_le_mul->ZH,succ_pos->ZN
open Int renaming natCast_inj->WW,toNat_natCast->Ws,zero_add->X2,emod_lt_of_pos->Xc,emod_nonneg->Xm,natCast_nonneg->Xz,le_refl->ZP
open Option renaming map_eq_none_iff->X8,map_some->XA,isSome_iff_exists->XF,isNone_iff_eq_none->Y2,bind_some->YG,map_eq_some_iff->YO,isSome_some->Ym,getD_none->Yw,getD_some->Yy,none_or->ZF
open Array renaming length_toList->XX,getElem?_eq_some_iff->Xx,getElem?_toList->YZ,toList->ZK
open PySem renaming wpAny_bind->ZQ,Value->ZR,Shared->ZS,Addr->ZT,wpAny_pure->ZU,wpAny->ZV,sizeLine->ZW,Program->ZX,model->ZY,mainGlobals->ZZ,World->Za,bootBuiltins->Zb,starEach->Zc,wpAny_newObj_type->Zd,Around->Ze,Scope->Zf,compareOp->Zg,wpAny_truthy_bool->Zh,wpAny_callSpecial?_slot->Zi,wpAny_seqItems->Zj,wpAny_field->Zk,swappedStores->Zl,wpAny_call_entry->Zm,wpAny_holding->Zn,sysModules->Zo,wpAny_tryCatch->Zp,wpAny_pyIter_tuple->Zr,NameKind->Zs,wpAny_typeNameOfWhole_valiter->Zt,cellsFrom->Zu,wpAny_mono->Zv,assignEach->Zw,wpAny_letGo->Zx,wpAny_passesOwn->Zy,wpAny_pyIter_list->Zz,plainId_quiet->A00,wpAny_typeNameOf_valiter->A01,swapsWith->A02,richCompare->A03,wpAny_Call_Name_kw->A04,wpAny_setField_rec->A05,Operator->A06,FuncData->A07,codeAny_builtin->A08,wpAny_updateSeq->A09,DictEntry->A0a,wpAny_rule->A0b,keywordEach->A0c,swapsWithSole->A0d,binaryOp->A0e,attributeBase->A0f,letOwnedTupleGo->A0g,tupleKind_room_in1->A0h,sliceBounds->A0i,foldedSetIterable->A0j,wpAny_pyIter_enum->A0k,wpAny_dictEntries->A0l,wpAny_isOneOf_valiter->A0m,seqItems?->A0n,wpAny_pyIter_zip->A0o,wpAny_standAt->A0p,wpAny_execs_nil->A0q,call_meetsIn->A0r,tupleKind->A0s,backToKw->A0u,call_meets->A0v,newFunctionEnv->A0w,wpAny_setField->A0x,firstArgMember->A0y,wpAny_letOwnedTupleGo_enum->A0z,wpAny_letOwnedTupleGo_zip->A0A,wpAny_Call_method->A0B,wpAny_comprehension_free->A0C,ExceptHandler->A0D,wpAny_attempt->A0E,wpAny_Call_method0_late->A0F,compEnvC->A0G,wpAny_pyNext_enum_itemD->A0H,SetTable->A0I,typeIs_int->A0K,wpAny_pyNext_enum_endD->A0L,pushCells_keeps->A0M,wpAny_dictEpoch->A0N,wpAny_notOrdered_dict->A0O,subscripted->A0P,wpAny_of_eq->A0Q,dictSetDefault->A0R,wpAny_updateSeq_pair->A0S,assignInOrder->A0U,behindInMarks->A0V,wpAny_onRaise->A0X,builtinsNs->A0Y,wpAny_assign_Name->A10,codeAny_mono->A12,wpAny_sequenceKey->A13,wpAny_typeOf->A14,seqIndex_neg->A15,PassesOwn->A16,pushCells->A17,wpAny_Dict_empty->A18,updateSeq->A19,wpAny_isInstance->A1a,seqIndex_of->A1b,entryOfKey->A1c,GenState->A1d,wpAny_Name->A1e,bindName->A1f,wpAny_bindName->A1g,recursionLimit->A1h,fitsIndex_both->A1k,wpAny_fieldsOf->A1l,isSubtype_stop->A1m,constantsAlone->A1n,lastMarks->A1o
open PyProof.Rows renaming assignInOrder_cons->A0t,subscriptTail_builtinR->A0J,entry_tuple_getitem->A0T,subscriptTail->A0W,args_tuple_getitem->A0Z,assignInOrder_nil->A11,slicePart_none->A1i,Subscript_->A1j
abbrev EE:=List (Nat×Nat)
theorem gM{α:Type}{l:List α}{i:Nat}{a:α}(h:l[i]?=some a):∃h:i<l.length,l[i]=a:=List.getElem?_eq_some_iff.mp h
theorem oj{α:Type}{a b:α}(h:some a=some b):a=b:=Option.some.inj h
theorem dQ{p:Prop}[Decidable p]:(decide p=true)=p:=decide_eq_true_eq
theorem iG{c:Prop}{h:Decidable c}(k:¬c){α:Sort u}{t e:α}:ite c t e=e:=if_neg k
theorem iP{c:Prop}{h:Decidable c}(k:c){α:Sort u}{t e:α}:ite c t e=t:=if_pos k
namespace L2
open PySem PySem.Spec PyProof.Rows
abbrev Key:=Sum Int Str
def EV:Key->ZR->Bool
 | .inl k,v=>Value.isInt k v
 | .inr x,v=>Value.isStrOf x v
def VV(w:Za):Key->Int
 | .inl k=>hashInt k
 | .inr x=>hashStr w x
theorem t8:∀{k:Key} {v:ZR},EV k v=true->(∃ i t,k=Sum.inl i/\v=Value.int i t)\/(∃ x t,k=Sum.inr x/\v=Value.str x t)
 | .inl i,v,h=>by
   obtain⟨t,e⟩:=Value.isInt_shape (k:=i) (v:=v) h;exact .inl ⟨i,t,rfl,e⟩
 | .inr x,v,h=>by
   obtain⟨t,e⟩:=Value.isStrOf_shape (x:=x) (v:=v) h;exact .inr ⟨x,t,rfl,e⟩
theorem Ka(i:Int)(t:Tok):EV (.inl i) (.int i t)=true:=by simp[EV,Value.isInt]
theorem Kb(x:Str)(t:Tok):EV (.inr x) (.str x t)=true:=by simp[EV,Value.isStrOf]
theorem Rm(a b:Int):decide ((Sum.inl a:Key)=Sum.inl b)=(a == b):=by
 by_cases e:a=b
 ·subst e;simp
 ·have h:¬ (Sum.inl a:Key)=Sum.inl b:=λq=>e (Sum.inl.inj q);rw[decide_eq_false h];exact(beq_eq_false_iff_ne.mpr e).symm
theorem Rn(a b:Str):decide ((Sum.inr a:Key)=Sum.inr b)=decide (a=b):=by
 by_cases e:a=b
 ·subst e;simp
 ·have h:¬ (Sum.inr a:Key)=Sum.inr b:=λq=>e (Sum.inr.inj q);rw[decide_eq_false h,decide_eq_false e]
theorem Ro(a:Int)(b:Str):decide ((Sum.inl a:Key)=Sum.inr b)=false:=decide_eq_false (λq=>nomatch q)
theorem Rp(a:Str)(b:Int):decide ((Sum.inr a:Key)=Sum.inl b)=false:=decide_eq_false (λq=>nomatch q)
noncomputable def t3(prog:ZX)(w:Za):PySem.KeyKind prog w Key where
 is:=EV
 hash:=VV w
 inj:=λv a b ha hb=>by
  rcases t8 ha with⟨i,t,rfl,rfl⟩ | ⟨x,t,rfl,rfl⟩
  ·rcases t8 hb with⟨j,u,rfl,e⟩ | ⟨y,u,rfl,e⟩
   ·injection e with e1 _;rw[e1]
   ·exact nomatch e
  ·rcases t8 hb with⟨j,u,rfl,e⟩ | ⟨y,u,rfl,e⟩
   ·exact nomatch e
   ·injection e with e1 _;rw[e1]
 byValue:=λk v h=>by
   rcases t8 h with⟨i,t,rfl,rfl⟩ | ⟨x,t,rfl,rfl⟩<;>rfl
 pyHash:=λhv h=>by
  rcases t8 hv with⟨i,t,rfl,rfl⟩ | ⟨x,t,rfl,rfl⟩
  ·exact wpAny_pyHash_int h
  ·exact wpAny_pyHash_str h
 eqBool:=λhu hv h=>by
  rcases t8 hu with⟨i,t,rfl,rfl⟩ | ⟨x,t,rfl,rfl⟩
  ·rcases t8 hv with⟨j,u,rfl,rfl⟩ | ⟨y,u,rfl,rfl⟩
   ·rw[Rm]at h;exact wpAny_eqBool_int h
   ·rw[Ro]at h;exact SeqAt.EqAt.int_str i t y u _ _ _ _ h
  ·rcases t8 hv with⟨j,u,rfl,rfl⟩ | ⟨y,u,rfl,rfl⟩
   ·rw[Rp]at h;exact SeqAt.EqAt.str_int x t j u _ _ _ _ h
   ·rw[Rn]at h;exact wpAny_eqBool_str h
 «strs»:=λk x t v h=>by
  rcases t8 h with⟨i,u,rfl,e⟩ | ⟨y,u,rfl,e⟩
  ·exact nomatch e
  ·injection e with e1 _;subst e1;cases v<;>rfl
theorem GC(prog:ZX)(w:Za)(i:Int)(t:Tok):(t3 prog w).is (.inl i) (.int i t)=true:=Ka i t
theorem GD(prog:ZX)(w:Za)(x:Str)(t:Tok):(t3 prog w).is (.inr x) (.str x t)=true:=Kb x t
inductive V where
 | non | bl (b:Bool) | int (i:Int) | str (x:Str) | byt (b:Array UInt8) | flt (b:UInt64) | ref (a:ZT) | ty (n:String)
 deriving DecidableEq
def RelV:V->ZR->Prop
 | .non,u=>u=Value.none
 | .bl b,u=>u=Value.bool b
 | .int i,u=>∃ t,u=Value.int i t
 | .str x,u=>∃ t,u=Value.str x t
 | .byt b,u=>∃ t,u=Value.bytes b t
 | .flt b,u=>∃ t,u=Value.float b t
 | .ref a,u=>u=Value.ref a
 | .ty n,u=>u=Value.type n
abbrev Vals:List V->List ZR->Prop:=Paired RelV
theorem Vals.length{xs:List V}{us:List ZR}(r:Vals xs us):xs.length=us.length:=Paired.length r
theorem Vals.get:∀{xs:List V} {us:List ZR} {i:Nat} {x:V},Vals xs us->xs[i]?=some x->∃ u,us[i]?=some u/\RelV x u
 | _,_,_,_,.nil,e=>by simp at e
 | _,_,0,_,.cons r _,e=>by simp at e;subst e;exact⟨_,rfl,r⟩
 | _,_,i+1,x,.cons _ t,e=>by
   obtain⟨u,h1,h2⟩:=Vals.get (i:=i) (x:=x) t (by simpa using e);exact⟨u,by simpa using h1,h2⟩
theorem Vals.set{x:V}{u:ZR}(r:RelV x u):∀{xs:List V} {us:List ZR} (i:Nat),Vals xs us->Vals (xs.set i x) (us.set i u)
 | _,_,_,.nil => .nil
 | _,_,0,.cons _ t => .cons r t
 | _,_,i+1,.cons q t => .cons q (Vals.set r i t)
theorem Vals.append:∀{xs ys:List V} {us ws:List ZR},Vals xs us->Vals ys ws->Vals (xs++ys) (us++ws)
 | _,_,_,_,.nil,s=>s
 | _,_,_,_,.cons r t,s => .cons r (Vals.append t s)
theorem Vals.take:∀{xs:List V} {us:List ZR} (n:Nat),Vals xs us->Vals (xs.take n) (us.take n)
 | _,_,0,_ => .nil
 | _,_,_+1,.nil => .nil
 | _,_,n+1,.cons r t => .cons r (Vals.take n t)
theorem Vals.drop:∀{xs:List V} {us:List ZR} (n:Nat),Vals xs us->Vals (xs.drop n) (us.drop n)
 | _,_,0,r=>r
 | _,_,_+1,.nil => .nil
 | _,_,n+1,.cons _ t=>Vals.drop n t
def RelO:Option V->Option ZR->Prop
 | some v,some u=>RelV v u
 | none,none=>True
 | _,_=>False
def KV{κ:Type}:List (κ×V)->List (κ×ZR)->Prop:=Paired λ(p:κ×V) (q:κ×ZR)=>p.1=q.1/\RelV p.2 q.2
def kV:Key->V
 | .inl i => .int i
 | .inr x => .str x
inductive HO where
 | lst (xs:List V)
 | tup (xs:List V)
 | dK (kvs:List (Key×V)) | dT (kvs:List (List Key×V))
 | set (S:Int->Bool) (n:Nat)
 | ins (C dx:ZT) (fs:List (Str×V))
 | own (x:ZT)
 | xd (fs:List (Str×V))
 | met (f x:ZT)
 | rng (lo hi:Int)
 | frz (o:Obj) (u:HO)
 | tbl (ps:Array ZR)
 | ext (φ:Heap->Prop)
abbrev Hp:=ZT->Option HO
def upd(H:Hp)(a:ZT)(o:HO):Hp:=λb=>if b=a then some o else H b
theorem p5{H:Hp}{a:ZT}{o:HO}:upd H a o a=some o:=by unfold upd;rw[iP rfl]
theorem j8{H:Hp}{a b:ZT}{o:HO}(h:b≠a):upd H a o b=H b:=by unfold upd;rw[iG h]
theorem M1{H:Hp}{a b:ZT}{o u:HO}(h:H a=some o)(h':H b=some u)(d:o≠u):a≠b:=by
 intro e;subst e;rw[h]at h';exact d (oj h')
theorem k9{H:Hp}{a b:ZT}{o:HO}(h:H a=some o)(h':H b=none):a≠b:=by
 intro e;subst e;rw[h]at h';cases h'
section
variable(P:ZX)(w:Za)
noncomputable def ObjOk(H:Hp)(h:Heap)(a:ZT):HO->Prop
 | .lst xs=>xs.length<=ZW/\∃(its:List ZR) (n:Nat),Vals xs its/\h.get? a=some {cls := .type "list",data := .seq its.toArray n}
 | .tup xs=>xs.length<=ZW/\∃ its:List ZR,Vals xs its/\IsTup h a its.toArray
 | .dK kvs=>kvs.length<=ZW/\(a == Zo)=false/\∃ vs,KV kvs vs/\h.DictOf (t3 P w) a vs
 | .dT kvs=>kvs.length<=ZW/\(a == Zo)=false/\∃ xs:List (List Key×ZT×ZR),
    Paired (λ(p:List Key×V) (q:List Key×ZT×ZR)=>p.1=q.1/\H q.2.1=some (.tup (p.1.map kV))/\RelV p.2 q.2.2) kvs xs/\
    ∃ o es ep,h.get? a=some o/\o.ExactDict/\o.data = .dict es ep/\es.toList=xs.map (A1c (A0s (t3 P w)))/\(xs.map (·.1)).Nodup
 | .set S n=>h.SetOf (intKind P w) a S n
 | .ins C dx fs=>H dx=some (.own a)/\fs.length<=1000/\dx≠a/\h.get? a=some (PySem.W.instObj C dx)/\
    ∃ mA,h.Ns1 dx mA/\(∀ f,RelO (fs.lookup f) (mA f))/\PySem.Within mA (fs.map (·.1))
 | .own _=>∃ o,h.get? a=some o
 | .xd fs=>∃ mA,h.Ns1 a mA/\∀ f,RelO (fs.lookup f) (mA f)
 | .rng lo hi=>∃ t u v,h.get? a=some {cls := .type "range",data := .fields #[.int lo t,.int hi u,.int 1 v]}
 | .frz o u=>h.get? a=some o/\ObjOk H h a u
 | .tbl ps=>h.get? a=some {cls := .none,data := .fields ps}
 | .met f x=>h.get? a=some (PySem.W.methodObj (.ref f) (.ref x))
 | .ext φ=>φ h/\(∃ o,h.get? a=some o)/\∀ h1 h2:Heap,φ h1->(∀ o,h1.get? a=some o->h2.get? a=some o)->φ h2
noncomputable def HOk(H:Hp)(h:Heap):Prop:=∀ a o,H a=some o->ObjOk P w H h a o
end
section
variable{P:ZX}{w:Za}{H H':Hp}{h h':Heap}{a:ZT}{o:HO}
theorem ObjOk.lt(x:ObjOk P w H h a o):a<h.objs.size:=by
 cases o with
 | lst xs=>obtain⟨_,_,_,_,e⟩:=x;exact Vv e
 | tup xs=>obtain⟨_,_,_,p⟩:=x;exact p.lt
 | dK kvs=>obtain⟨_,_,_,_,o,_,_,e,_⟩:=x;exact Vv e
 | dT kvs=>obtain⟨_,_,_,_,o,_,_,e,_⟩:=x;exact Vv e
 | set S n=>obtain⟨o,_,_,_,e,_⟩:=x;exact Vv e
 | ins C dx fs=>obtain⟨_,_,_,e,_⟩:=x;exact Vv e
 | own y=>obtain⟨_,e⟩:=x;exact Vv e
 | xd fs=>obtain⟨_,⟨_,_,_,e,_⟩,_⟩:=x;exact Vv e
 | rng lo hi=>obtain⟨_,_,_,e⟩:=x;exact Vv e
 | frz ob u=>obtain⟨e,_⟩:=x;exact Vv e
 | tbl ps=>exact Vv (show h.get? a=some _ from x)
 | met f y=>exact Vv (show h.get? a=some _ from x)
 | ext φ=>obtain⟨_,⟨_,e⟩,_⟩:=x;exact Vv e
theorem Paired.mapP{α β:Type}{F G:α->β->Prop}:∀{l₁:List α} {l₂:List β},Paired F l₁ l₂->(∀ a b,F a b->G a b)->Paired G l₁ l₂
 | _,_,.nil,_ => .nil
 | _,_,.cons r t,f => .cons (f _ _ r) (Paired.mapP t f)
theorem ObjOk.stay(x:ObjOk P w H h a o)(k:∀ b u,(b=a\/H b=some (.own a))->h.get? b=some u->h'.get? b=some u)
 (ho:∀ b,H b=some (.own a)->H' b=some (.own a)) (ht:∀ b xs,H b=some (.tup xs)->H' b=some (.tup xs)):ObjOk P w H' h' a o:=by
 induction o with
 | lst xs=>obtain⟨z,its,n,r,e⟩:=x;exact⟨z,its,n,r,k _ _ (.inl rfl) e⟩
 | tup xs=>obtain⟨z,its,r,ob,e,c⟩:=x;exact⟨z,its,r,ob,k _ _ (.inl rfl) e,c⟩
 | dK kvs=>obtain⟨z,y,vs,r,ob,es,ep,e,c⟩:=x;exact⟨z,y,vs,r,ob,es,ep,k _ _ (.inl rfl) e,c⟩
 | dT kvs=>
   obtain⟨z,y,xs,r,ob,es,ep,e,c⟩:=x;exact⟨z,y,xs,Paired.mapP r λp q z=>⟨z.1,ht _ _ z.2.1,z.2.2⟩,ob,es,ep,k _ _ (.inl rfl) e,c⟩
 | set S n=>obtain⟨ob,es,ep,t,e,c⟩:=x;exact⟨ob,es,ep,t,k _ _ (.inl rfl) e,c⟩
 | ins C dx fs=>
   obtain⟨d,z,ne,e,mA,⟨od,es,ep,e2,c⟩,r⟩:=x;exact⟨ho _ d,z,ne,k _ _ (.inl rfl) e,mA,⟨od,es,ep,k _ _ (.inr d) e2,c⟩,r⟩
 | own y=>obtain⟨ob,e⟩:=x;exact⟨ob,k _ _ (.inl rfl) e⟩
 | xd fs=>obtain⟨mA,⟨od,es,ep,e,c⟩,r⟩:=x;exact⟨mA,⟨od,es,ep,k _ _ (.inl rfl) e,c⟩,r⟩
 | rng lo hi=>obtain⟨t,u,v,e⟩:=x;exact⟨t,u,v,k _ _ (.inl rfl) e⟩
 | frz ob u ih=>obtain⟨e,q⟩:=x;exact⟨k _ _ (.inl rfl) e,ih q⟩
 | tbl ps=>
   have e:h.get? a=some {cls := .none,data := .fields ps}:=x;show h'.get? a=some {cls := .none,data := .fields ps};exact k a _ (.inl rfl) e
 | met f y=>
   have e:h.get? a=some (PySem.W.methodObj (.ref f) (.ref y)):=x;show h'.get? a=some (PySem.W.methodObj (.ref f) (.ref y));exact k a _ (.inl rfl) e
 | ext φ=>obtain⟨p,⟨o,e⟩,st⟩:=x;exact⟨st _ _ p λo q=>k _ _ (.inl rfl) q,⟨o,k _ _ (.inl rfl) e⟩,st⟩
theorem HOk.lt(x:HOk P w H h)(e:H a=some o):a<h.objs.size:=(x a o e).lt
theorem HOk.fresh(x:HOk P w H h)(e:h.objs.size<=a):H a=none:=by
 cases q:H a with
 | none=>rfl
 | some u=>exact absurd (WR (x.lt q) e) (XW _)
theorem HOk.kept(x:HOk P w H h)(k:∀ b u,h.get? b=some u->h'.get? b=some u):HOk P w H h':=λa o e=>
 (x a o e).stay (λb u _ q=>k b u q) (λ_ q=>q) λ_ _ q=>q
theorem HOk.laid(x:HOk P w H h)(k:∀ b u,h.get? b=some u->h'.get? b=some u)(hp:h.objs.size<=a)(new:ObjOk P w (upd H a o) h' a o):HOk P w (upd H a o) h':=λb u e=>by
 have hn:=x.fresh hp;by_cases hb:b=a
 ·subst hb;rw[p5]at e;cases e;exact new
 ·rw[j8 hb]at e;exact(x b u e).stay (λc v _ q=>k c v q) (λc q=>by rw[j8 (k9 q hn)];exact q) λc xs q=>by rw[j8 (k9 q hn)];exact q
end
def Rd(H:Hp)(a:ZT)(u:HO):Prop:=H a=some u\/∃ o,H a=some (.frz o u)
theorem Rd.ok{P:ZX}{w:Za}{H:Hp}{h:Heap}{a:ZT}{u:HO}(r:Rd H a u)(x:HOk P w H h):ObjOk P w H h a u:=by
 rcases r with r | ⟨o,r⟩
 ·exact x a u r
 ·obtain⟨_,q⟩:=x a _ r;exact q
def Mut:Option HO->Prop
 | some (.lst _)=>True
 | some (.dK _)=>True
 | some (.dT _)=>True
 | some (.set _ _)=>True
 | some (.ins _ _ _)=>True
 | some (.ext _)=>True
 | _=>False
section
variable{P:ZX}{w:Za}{H:Hp}{h h':Heap}{x e:ZT}{o':HO}
theorem HOk.write(ok:HOk P w H h)(mu:Mut (H x))(he:e=x\/H e=some (.own x))(k:∀ b u,b≠e->h.get? b=some u->h'.get? b=some u)(heo:∃ u,h'.get? e=some u)
 (new:ObjOk P w (upd H x o') h' x o'):HOk P w (upd H x o') h':=λb u q=>by
 have nown:∀ c y,H c=some (.own y)->c≠x:=λc y r z=>by subst z;rw[r]at mu;exact mu
 have ntup:∀ c xs,H c=some (.tup xs)->c≠x:=λc xs r z=>by subst z;rw[r]at mu;exact mu
 by_cases hb:b=x
 ·subst hb;rw[p5]at q;cases q;exact new
 ·rw[j8 hb]at q;by_cases hbe:b=e
  ·have q':H b=some (.own x):=by
    rcases he with z | z
    ·exact absurd (hbe.trans z) hb
    ·rw[hbe];exact z
   rw[q]at q';cases q';obtain⟨v,hv⟩:=heo;exact⟨v,by rw[hbe];exact hv⟩
  ·refine(ok b u q).stay (λc v hc r=>k c v ?_ r) (λc r=>by rw[j8 (nown c b r)];exact r) λc xs r=>by rw[j8 (ntup c xs r)];exact r
   rcases hc with rfl | hc
   ·exact hbe
   ·rintro rfl;rcases he with z | z
    ·exact nown c b hc z
    ·rw[hc]at z;cases z;exact hb rfl
end
structure Un(fs ex:List ZT)(H H':Hp)(h h':Heap):Prop where
 keep:∀ b o,h.get? b=some o->H b=none->b∉fs->b∉ex->h'.get? b=some o
 slot:∀ b o,h.get? b=some o->H b=none->b∈fs->b∉ex->∃ sl,h'.get? b=some {o with slots:=sl}
 free:∀ b o,h.get? b=some o->H b=none->b∉ex->H' b=none
 there:∀ b o,h.get? b=some o->b∉ex->∃ o',h'.get? b=some o'
 tups:∀ b xs,H b=some (.tup xs)->H' b=some (.tup xs)
 frzs:∀ b o u,H b=some (.frz o (.lst u))->H' b=some (.frz o (.lst u))
 tbls:∀ b ps,H b=some (.tbl ps)->∃ more,H' b=some (.tbl (ps++more))
section
variable{fs fs' ex ex':List ZT}{H H1 H2:Hp}{h h1 h2 h':Heap}{a x e:ZT}{o:HO}
theorem Un.any(u:Un fs ex H H1 h h1){b:ZT}{ob:Obj}(q:h.get? b=some ob)(n:H b=none)(hx:b∉ex):∃ sl,h1.get? b=some {ob with slots:=sl}:=by
 by_cases hb:b∈fs
 ·exact u.slot b ob q n hb hx
 ·exact⟨ob.slots,u.keep b ob q n hb hx⟩
theorem Un.kept(k:∀ b u,h.get? b=some u->h'.get? b=some u):Un fs ex H H h h':=
 ⟨λb ob q _ _ _=>k b ob q,λb ob q _ _ _=>⟨ob.slots,k b ob q⟩,λ_ _ _ n _=>n,λb ob q _=>⟨ob,k b ob q⟩,λ_ _ q=>q,λ_ _ _ q=>q,λ_ ps q=>⟨#[],by rw[q];simp⟩⟩
theorem Un.refl:Un fs ex H H h h:=Un.kept λ_ _ q=>q
theorem Un.laid(k:∀ b u,h.get? b=some u->h'.get? b=some u)(hp:h.objs.size<=a)(hn:H a=none):Un fs ex H (upd H a o) h h' where
 keep:=λb u q _ _ _=>k b u q
 slot:=λb u q _ _ _=>⟨u.slots,k b u q⟩
 free:=λb u q n _=>by rw[j8 (W0 (WR (Vv q) hp))];exact n
 there:=λb u q _=>⟨u,k b u q⟩
 tups:=λb xs q=>by rw[j8 (k9 q hn)];exact q
 frzs:=λb u xs q=>by rw[j8 (k9 q hn)];exact q
 tbls:=λb ps q=>⟨#[],by rw[j8 (k9 q hn),q];simp⟩
theorem Un.write(mu:Mut (H x))(he:e=x\/H e=some (.own x))(k:∀ b u,b≠e->h.get? b=some u->h'.get? b=some u)(heo:∃ u,h'.get? e=some u):Un fs ex H (upd H x o) h h':=by
 have hx:∀ b,H b=none->b≠x:=λb n z=>by subst z;rw[n]at mu;exact mu
 have hb:∀ b,H b=none->b≠e:=λb n z=>by
  subst z;rcases he with r | r
  ·exact hx b n r
  ·rw[n]at r;cases r
 have hm:∀ b u,H b=some u->¬ Mut (some u)->b≠x:=λb u q nm z=>by subst z;rw[q]at mu;exact nm mu
 refine⟨λb u q n _ _=>k b u (hb b n) q,λb u q n _ _=>⟨u.slots,k b u (hb b n) q⟩,λb u q n _=>by rw[j8 (hx b n)];exact n,λb u q _=>?_,
  λb xs q=>by rw[j8 (hm b _ q λz=>z)];exact q,λb u xs q=>by rw[j8 (hm b _ q λz=>z)];exact q,λb ps q=>⟨#[],by rw[j8 (hm b _ q λz=>z),q];simp⟩⟩
 by_cases hbe:b=e
 ·subst hbe;exact heo
 ·exact⟨u,k b u hbe q⟩
end
def trk(h:Heap)(H:Hp):List ZT:=(W4 h.objs.size).filter λa=>(H a).isSome
noncomputable def F9(h:Heap)(H:Hp):Heap:=PySem.W.hideAll h (trk h H)
theorem Kc(h:Heap)(H:Hp):(F9 h H).objs.size=h.objs.size:=PySem.W.hideAll_size _ _
theorem M3{h:Heap}{H:Hp}{b:ZT}{o:Obj}(e:h.get? b=some o)(n:H b=none):(F9 h H).get? b=some o:=
 PySem.W.hideAll_get _ e λhm=>by
  have q:(H b).isSome=true:=(Wn.mp hm).2;rw[n]at q;simp at q
theorem Os{h:Heap}{H:Hp}{b:ZT}{o:Obj}(e:(F9 h H).get? b=some o):h.get? b=some o/\H b=none:=by
 have e':h.get? b=some o:=PySem.W.of_hideAll (trk h H) e;refine⟨e',?_⟩;cases q:H b with
 | none=>rfl
 | some x=>
   have hm:b∈trk h H:=Wn.mpr ⟨WD.mpr (Vv e'),by simp[q]⟩;have z:(F9 h H).get? b=none:=PySem.W.hideAll_none (trk h H) hm;rw[z]at e;cases e
structure Mod(K:Vl)(mg:Str->Option ZR)(base:Heap):Prop where
 kin:K.In base
 glob:base.Ns ZZ mg
 blt:∃ mb,base.Ns A0Y mb/\∀ x:Str,x≠"__name__"->mb x=Zb x
 nolimit:base.NoLimit
structure Cx where
 prog:ZX
 w:Za
 K:Vl
 mg:Str->Option ZR
 base:Heap
 A:Ze
 N:List Str
 s₀:ZS
 H₀:Hp
 env:Env
 outer:List Env
 stack:List Env
 ex:List ZT
 fn:Str->Bool
 calm:Bool
 pn:List (ZT×Obj)
 xe:ZR->ZS->Prop
def frs(l:List Env):List ZT:=l.filterMap (·.frame)
abbrev Cx.fs(X:Cx):List ZT:=frs X.outer
def Vis(sc:Zf)(x:Str):Prop:=sc.names.lookup x=some .local\/sc.names.lookup x=some .cell\/sc.names.lookup x=some .free
def Loc(sc:Zf)(x:Str):Prop:=sc.names.lookup x=some .local\/sc.names.lookup x=some .cell
def Look(env:Env)(h:Heap)(m:Str->Option ZR)(x:Str)(u:ZR):Prop:=
 (env.kindOf x=some .local/\m x=some u)\/((env.kindOf x=some .cell\/env.kindOf x=some .free)/\∃ c,env.cells.lookup x=some c/\h.IsCell c (some u))
structure Cx.Ok(X:Cx):Prop where
 mod:Mod X.K X.mg X.base
 kind:X.env.scope.kind = .function
 glob:X.env.globals=ZZ
 blt:X.env.builtins=A0Y
 above:X.s₀.heap.objs.size<=X.env.locals
 inj:∀ x y c,X.env.cells.lookup x=some c->X.env.cells.lookup y=some c->x=y
 has:∀ x,(X.env.kindOf x=some .cell\/X.env.kindOf x=some .free)->∃ c,X.env.cells.lookup x=some c
 cab:∀ x c,X.fn x=true->X.env.cells.lookup x=some c->X.s₀.heap.objs.size<=c
 hd:X.calm=true->X.A.handled=none
 frames:X.A.frames=some X.stack
 stk:X.stack=X.outer\/(X.stack=X.env::X.outer/\X.env.frame=some X.env.locals)
 exf:∀ b∈X.ex,b≠X.env.locals/\∀ x c,X.env.cells.lookup x=some c->c≠b
 bs:∀ b o,X.base.get? b=some o->X.s₀.heap.get? b=some o/\X.H₀ b=none
 bsz:X.base.objs.size<=X.s₀.heap.objs.size
 noex:∀ b o,X.base.get? b=some o->b∉X.ex
 exfs:∀ b∈X.ex,b∉X.fs
 funs:X.s₀.heap.FunFrames X.base X.outer
 frf:∀ b∈X.fs,X.H₀ b=none
structure Inv(X:Cx)(pq:List (ZT×Obj))(σ:List (Option V))(H:Hp)(s:ZS):Prop where
 ok:X.Ok
 os:s.os=X.s₀.os
 bare:AllBare s.gens
 base:Un X.fs X.ex X.H₀ H X.s₀.heap s.heap
 loc:∃ m,s.heap.Ns X.env.locals m/\∀(i:Nat) (x:Str) (v:V),X.N[i]?=some x->σ[i]?=some (some v)->Vis X.env.scope x->∃ u,RelV v u/\Look X.env s.heap m x u
 cell:∀ x c,X.env.cells.lookup x=some c->∃ v,s.heap.IsCell c v
 free:H X.env.locals=none
 freeC:∀ x c,X.env.cells.lookup x=some c->H c=none
 pin:∀ p∈X.pn++pq,s.heap.get? p.1=some p.2/\H p.1=none/\p.1≠X.env.locals/\p.1∉X.fs/\∀ v,p.2.data ≠ .cell v
 hok:HOk X.prog X.w H s.heap
 len:σ.length=X.N.length
section
variable{X:Cx}{pq:List (ZT×Obj)}{σ:List (Option V)}{H H':Hp}{s:ZS}{h':Heap}
theorem Cx.Ok.nofr(ok:X.Ok){b:ZT}{o:Obj}(e:X.base.get? b=some o):b∉X.fs:=λhb=>by
 have:=(ok.funs.mem hb).1;rw[e]at this;cases this
theorem Inv.bs(I:Inv X pq σ H s):∀ b o,X.base.get? b=some o->s.heap.get? b=some o/\H b=none:=λb o e=>
 ⟨I.base.keep b o (I.ok.bs b o e).1 (I.ok.bs b o e).2 (I.ok.nofr e) (I.ok.noex b o e),I.base.free b o (I.ok.bs b o e).1 (I.ok.bs b o e).2 (I.ok.noex b o e)⟩
theorem Inv.bk(I:Inv X pq σ H s):∀ b o,X.base.get? b=some o->s.heap.get? b=some o:=λb o e=>(I.bs b o e).1
theorem Inv.mod(I:Inv X pq σ H s):Mod X.K X.mg X.base:=I.ok.mod
theorem Inv.kIn(I:Inv X pq σ H s):X.K.In s.heap:=I.ok.mod.kin.keeps I.bk
theorem Inv.fr(I:Inv X pq σ H s):∃ m,Fr X.base X.env.locals s.heap m:=
 let ⟨m,hn,_⟩:=I.loc
 ⟨m,hn,I.bk,WH I.ok.bsz I.ok.above⟩
theorem Inv.lt(I:Inv X pq σ H s):X.env.locals<s.heap.objs.size:=let ⟨_,hn,_⟩:=I.loc;hn.lt
theorem Inv.sz(I:Inv X pq σ H s):X.s₀.heap.objs.size<=s.heap.objs.size:=WH I.ok.above (YM I.lt)
theorem Inv.nofs(I:Inv X pq σ H s){a:ZT}(h:s.heap.objs.size<=a):a∉X.fs:=λhb=>by
 obtain⟨_,o,ho,_⟩:=I.ok.funs.mem hb;exact absurd (WR (Vv ho) (WH I.sz h)) (XW _)
theorem Inv.cne(I:Inv X pq σ H s):∀ x c,X.env.cells.lookup x=some c->c≠X.env.locals:=λx c e z=>by
 obtain⟨v,o,ho,hd⟩:=I.cell x c e;obtain⟨m,⟨o',es,ep,ho',hd',_⟩,_⟩:=I.loc;rw[z,ho']at ho;cases ho;rw[hd']at hd;cases hd
theorem Inv.funs(I:Inv X pq σ H s):s.heap.FunFrames X.base X.outer:=by
 have all:∀(l:List Env),(∀ b∈frs l,b∈X.fs)->X.s₀.heap.FunFrames X.base l->s.heap.FunFrames X.base l:=by
  intro l
  induction l with
  | nil=>intro _ _;trivial
  | cons env r ih=>
    intro hs hl;obtain⟨hk,⟨L,o,hf,hn,ho,hd⟩,hr⟩:=hl;have hL:L∈X.fs:=hs L (by unfold frs;rw[Xj,hf];exact W7);obtain⟨sl,e⟩:=I.base.slot L o ho (I.ok.frf L hL) hL λz=>I.ok.exfs L z hL;exact⟨hk,⟨L,_,hf,hn,e,hd⟩,ih (λb hb=>hs b (by unfold frs;rw[Xj,hf];exact Vz _ hb)) hr⟩
 exact all X.outer (λ_ hb=>hb) I.ok.funs
theorem Inv.stack(I:Inv X pq σ H s):s.heap.FunFrames X.base X.stack:=by
 rcases I.ok.stk with e | ⟨e,hf⟩
 ·rw[e];exact I.funs
 ·rw[e];obtain⟨m,hn,_⟩:=I.loc;refine .cons (by rw[I.ok.kind];decide) hf hn ?_ I.funs;exact Heap.get?_none_of_le (WH I.ok.bsz I.ok.above)
theorem Inv.stkSub(I:Inv X pq σ H s):∀ b∈frs X.stack,b∈X.env.locals::X.fs:=λb hb=>by
 rcases I.ok.stk with e | ⟨e,hf⟩
 ·rw[e]at hb;exact Vz _ hb
 ·rw[e]at hb;unfold frs at hb;rw[Xj,hf]at hb;exact hb
theorem Inv.stkFree(I:Inv X pq σ H s):∀ b∈frs X.stack,H b=none:=λb hb=>by
 rcases W5.mp (I.stkSub b hb) with e | hb
 ·rw[e];exact I.free
 ·obtain⟨_,o,ho,_⟩:=I.ok.funs.mem hb;exact I.base.free b o ho (I.ok.frf b hb) λz=>I.ok.exfs b z hb
theorem Inv.step{g':Array A1d}{t':Nat}{d':Drawn}{ch:List ZT}(I:Inv X pq σ H s)
 (hch:∀ b∈ch,(b∈X.ex\/X.s₀.heap.objs.size<=b)/\b≠X.env.locals/\(∀ x c,X.env.cells.lookup x=some c->c≠b)/\∀ p∈X.pn++pq,p.1≠b)
 (keep:∀ b o,b≠X.env.locals->b∉X.fs->b∉ch->s.heap.get? b=some o->H b=none->h'.get? b=some o)
 (slot:∀ b o,b≠X.env.locals->b∈X.fs->b∉ch->s.heap.get? b=some o->H b=none->∃ sl,h'.get? b=some {o with slots:=sl}) (free:∀ b o,b∉ch->s.heap.get? b=some o->H b=none->H' b=none)
 (there:∀ b o,b∉ch->s.heap.get? b=some o->∃ o',h'.get? b=some o')
 (tups:∀ b xs,H b=some (.tup xs)->H' b=some (.tup xs)) (frzs:∀ b o u,H b=some (.frz o (.lst u))->H' b=some (.frz o (.lst u))) (tbls:∀ b ps,H b=some (.tbl ps)->∃ more,H' b=some (.tbl (ps++more)))
 (ns:∀ m,s.heap.Ns X.env.locals m->h'.Ns X.env.locals m) (hok:HOk X.prog X.w H' h') (hg:AllBare g'):
 Inv X pq σ H' {s with heap:=h',gens:=g',drawn:=d',toks:=t'}:=by
 have neL:∀ b o,X.s₀.heap.get? b=some o->b≠X.env.locals:=λb o e=>W0 (WR (Vv e) I.ok.above)
 have neC:∀ b o,X.s₀.heap.get? b=some o->b∉X.ex->b∉ch:=λb o e hx hb=>by
  rcases(hch b hb).1 with z | z
  ·exact hx z
  ·exact absurd (WR (Vv e) z) (XW _)
 have cellK:∀ x c,X.env.cells.lookup x=some c->∀ v,s.heap.IsCell c v->h'.IsCell c v:=λx c e v ⟨o,ho,hd⟩=>by
  have nch:c∉ch:=λz=>(hch c z).2.2.1 x c e rfl;by_cases hc:c∈X.fs
  ·obtain⟨sl,q⟩:=slot c o (I.cne x c e) hc nch ho (I.freeC x c e);exact⟨_,q,hd⟩
  ·exact⟨o,keep c o (I.cne x c e) hc nch ho (I.freeC x c e),hd⟩
 refine⟨I.ok,I.os,hg,⟨λb o e n hb hx=>?_,λb o e n hb hx=>?_,λb o e n hx=>?_,λb o e hx=>?_,λb xs e=>tups b xs (I.base.tups b xs e),λb o xs e=>frzs b o xs (I.base.frzs b o xs e),λb ps e=>?_⟩,?_,λx c e=>?_,?_,λx c e=>?_,λp hp=>?_,hok,I.len⟩
 ·exact keep b o (neL b o e) hb (neC b o e hx) (I.base.keep b o e n hb hx) (I.base.free b o e n hx)
 ·obtain⟨sl,e1⟩:=I.base.slot b o e n hb hx;obtain⟨sl',e2⟩:=slot b _ (neL b o e) hb (neC b o e hx) e1 (I.base.free b o e n hx);exact⟨sl',e2⟩
 ·obtain⟨o',e1⟩:=I.base.there b o e hx;exact free b o' (neC b o e hx) e1 (I.base.free b o e n hx)
 ·obtain⟨o',e1⟩:=I.base.there b o e hx;exact there b o' (neC b o e hx) e1
 ·obtain⟨m1,e1⟩:=I.base.tbls b ps e;obtain⟨m2,e2⟩:=tbls b _ e1;exact⟨m1++m2,by rw[e2,Array.append_assoc]⟩
 ·obtain⟨m,hn,hl⟩:=I.loc;refine⟨m,ns m hn,λi x v e1 e2 e3=>?_⟩;obtain⟨u,r,l⟩:=hl i x v e1 e2 e3;refine⟨u,r,?_⟩;rcases l with l | ⟨k,c,e,z⟩
  ·exact .inl l
  ·exact .inr ⟨k,c,e,cellK x c e _ z⟩
 ·obtain⟨v,z⟩:=I.cell x c e;exact⟨v,cellK x c e v z⟩
 ·obtain⟨m,⟨o,_,_,ho,_⟩,_⟩:=I.loc;exact free _ o (λz=>(hch _ z).2.1 rfl) ho I.free
 ·obtain⟨v,o,ho,hd⟩:=I.cell x c e;exact free c o (λz=>(hch c z).2.2.1 x c e rfl) ho (I.freeC x c e)
 ·obtain⟨e,n,ne,nf,d⟩:=I.pin p hp;have nch:p.1∉ch:=λz=>(hch p.1 z).2.2.2 p hp rfl;exact⟨keep p.1 p.2 ne nf nch e n,free p.1 p.2 nch e n,ne,nf,d⟩
theorem Inv.un{t':Nat}(I:Inv X pq σ H s)(u:Un X.fs [] H H' s.heap h')(hok:HOk X.prog X.w H' h'):Inv X pq σ H' {s with heap:=h',toks:=t'}:=by
 obtain⟨m,⟨o,es,ep,ho,r⟩,_⟩:=id I.loc;obtain⟨sl,hL⟩:=u.any ho I.free (by simp)
 exact I.step (g':=s.gens) (d':=s.drawn) (ch:=[]) (λ_ z=>nomatch z) (λb o _ hb _ e n=>u.keep b o e n hb (by simp)) (λb o _ hb _ e n=>u.slot b o e n hb (by simp)) (λb o _ e n=>u.free b o e n (by simp)) (λb o _ e=>u.there b o e (by simp)) u.tups u.frzs u.tbls (λm' hm=>by
  obtain⟨o',es',ep',ho',r'⟩:=hm;rw[ho]at ho';cases ho';exact⟨_,es',ep',hL,r'⟩) hok I.bare
theorem Inv.call{g':Array A1d}{t':Nat}{d':Drawn}{ch:List ZT}(I:Inv X pq σ H s)(u:Un (frs X.stack) ch H H' s.heap h')(hok:HOk X.prog X.w H' h')(hg:AllBare g')
 (hch:∀ b∈ch,(b∈X.ex\/X.s₀.heap.objs.size<=b)/\b≠X.env.locals/\(∀ x c,X.env.cells.lookup x=some c->c≠b)/\∀ p∈X.pn++pq,p.1≠b):
 Inv X pq σ H' {s with heap:=h',gens:=g',drawn:=d',toks:=t'}:=by
 obtain⟨m,⟨o,es,ep,ho,r⟩,_⟩:=id I.loc;obtain⟨sl,hL⟩:=u.any ho I.free λz=>(hch _ z).2.1 rfl
 exact I.step (ch:=ch) hch (λb o hL hb hc e n=>u.keep b o e n (λz=>(W5.mp (I.stkSub b z)).elim hL hb) hc) (λb o _ _ hc e n=>u.any e n hc) (λb o hc e n=>u.free b o e n hc) (λb o hc e=>u.there b o e hc) u.tups u.frzs u.tbls (λm' hm=>by
  obtain⟨o',es',ep',ho',r'⟩:=hm;rw[ho]at ho';cases ho';exact⟨_,es',ep',hL,r'⟩) hok hg
theorem Inv.turned{t':Nat}{it:ZT}(I:Inv X pq σ H s)(k:∀ b o,b≠it->s.heap.get? b=some o->h'.get? b=some o)(hn:H it=none)(hL:it≠X.env.locals)
 (h1:it∈X.ex\/X.s₀.heap.objs.size<=it) (h2:∀ x c,X.env.cells.lookup x=some c->c≠it) (h3:∀ p∈X.pn++pq,p.1≠it):Inv X pq σ H {s with heap:=h',toks:=t'}:=by
 have nit:∀ b u,H b=some u->b≠it:=λb u e z=>by rw[z,hn]at e;cases e
 refine I.step (g':=s.gens) (d':=s.drawn) (ch:=[it]) (λb hb=>?_) (λb o _ _ hc e _=>k b o (λz=>hc (by simp[z])) e) (λb o _ _ hc e _=>⟨o.slots,k b o (λz=>hc (by simp[z])) e⟩) (λ_ _ _ _ n=>n)
  (λb o hc e=>⟨o,k b o (λz=>hc (by simp[z])) e⟩) (λ_ _ e=>e) (λ_ _ _ e=>e) (λb ps e=>⟨#[],by rw[e];simp⟩) (λm hm=>?_) (λb u e=>?_) I.bare
 ·have e:b=it:=by simpa using hb
  subst e;exact⟨h1,hL,h2,h3⟩
 ·obtain⟨o,es,ep,ho,r⟩:=hm;exact⟨o,es,ep,k _ o (Ne.symm hL) ho,r⟩
 ·refine(I.hok b u e).stay (λc v hc q=>k c v ?_ q) (λ_ q=>q) λ_ _ q=>q;rcases hc with z | z
  ·rw[z];exact nit b u e
  ·exact nit c _ z
theorem Inv.tok(I:Inv X pq σ H s)(t:Nat):Inv X pq σ H {s with toks:=t}:=I.un (h':=s.heap) (t':=t) Un.refl I.hok
theorem Inv.kept{t':Nat}(I:Inv X pq σ H s)(k:∀ b u,s.heap.get? b=some u->h'.get? b=some u):Inv X pq σ H {s with heap:=h',toks:=t'}:=I.un (Un.kept k) (I.hok.kept k)
theorem Inv.laid{a:ZT}{o:HO}{t':Nat}(I:Inv X pq σ H s)(k:∀ b u,s.heap.get? b=some u->h'.get? b=some u)(hp:s.heap.objs.size<=a)(new:ObjOk X.prog X.w (upd H a o) h' a o):
 Inv X pq σ (upd H a o) {s with heap:=h',toks:=t'}:=I.un (Un.laid k hp (I.hok.fresh hp)) (I.hok.laid k hp new)
theorem Inv.write{x e:ZT}{o:HO}{t':Nat}(I:Inv X pq σ H s)(mu:Mut (H x))(he:e=x\/H e=some (.own x))(k:∀ b u,b≠e->s.heap.get? b=some u->h'.get? b=some u)(heo:∃ u,h'.get? e=some u)
 (new:ObjOk X.prog X.w (upd H x o) h' x o):Inv X pq σ (upd H x o) {s with heap:=h',toks:=t'}:=I.un (Un.write mu he k heo) (I.hok.write mu he k heo new)
theorem Inv.weak{σ':List (Option V)}(I:Inv X pq σ H s)(hl:σ'.length=σ.length)(w:∀(i:Nat) v,σ'[i]?=some (some v)->σ[i]?=some (some v)):Inv X pq σ' H s:=
 ⟨I.ok,I.os,I.bare,I.base,let ⟨m,hn,hl'⟩:=I.loc;⟨m,hn,λi x v e1 e2 e3=>hl' i x v e1 (w i v e2) e3⟩,I.cell,I.free,I.freeC,I.pin,I.hok,hl.trans I.len⟩
theorem Inv.pins_of{pq':List (ZT×Obj)}(I:Inv X pq σ H s)(h:∀ p∈pq',s.heap.get? p.1=some p.2/\H p.1=none/\p.1≠X.env.locals/\p.1∉X.fs/\∀ v,p.2.data ≠ .cell v):Inv X pq' σ H s:=
 ⟨I.ok,I.os,I.bare,I.base,I.loc,I.cell,I.free,I.freeC,λp hp=>(WM.mp hp).elim (λz=>I.pin p (XR _ z)) (h p),I.hok,I.len⟩
theorem GE{N:List Str}(hN:N.Nodup){i j:Nat}{x:Str}(a:N[i]?=some x)(b:N[j]?=some x):i=j:=by
 obtain⟨h1,e1⟩:=gM a;obtain⟨h2,e2⟩:=gM b;exact(List.getElem_inj hN).mp (e1.trans e2.symm)
theorem EW{M:Model}{A:Ze}{E:ZR->ZS->Prop}{i:Nat}{x:Str}{v:V}{u:ZR}{Q:Unit->ZS->Prop}(I:Inv X pq σ H s)(hN:X.N.Nodup)(hi:X.N[i]?=some x)(hx:Loc X.env.scope x)(r:RelV v u)
 (h:∀ s',Inv X pq (σ.set i (some v)) H s'->(∃ a,Ww a s.heap s'.heap/\(a=X.env.locals\/X.env.cells.lookup x=some a))->Q () s') (hf:X.fn x=true\/X.env.scope.names.lookup x=some .local:=by first | exact .inl rfl | exact .inr rfl | assumption):ZV M A (storeName X.env x u) Q E s:=by
 obtain⟨m,hn,hl⟩:=id I.loc;have hcls:(X.env.scope.kind == .class||(X.env.scope.kind == .module&&X.env.locals != X.env.globals))=false:=by rw[I.ok.kind];rfl
 have hiσ:i<σ.length:=by rw[I.len];exact(gM hi).1
 have cne:=I.cne
 have tracked:∀{a:ZT} {h':Heap},(∃ o,s.heap.get? a=some o/\H a=none)->Ww a s.heap h'->HOk X.prog X.w H h':=λ{a h'} ha hs b ob e=>by
  obtain⟨_,_,hfree⟩:=ha;refine(I.hok b ob e).stay (λc w' hc q=>(hs.2 c ?_).trans q) (λ_ q=>q) λ_ _ q=>q;rintro rfl;rcases hc with rfl | hc
  ·rw[hfree]at e;cases e
  ·rw[hfree]at hc;cases hc
 rcases hx with hk | hk
 ·refine wpAny_storeName_local hk hn (λh' hn' hs=>?_) hcls;obtain⟨oL,_,_,hoL,_⟩:=id hn;refine h _ ⟨I.ok,I.os,I.bare,⟨λb o e n hb hx=>?_,λb o e n hb hx=>?_,I.base.free,λb o e hx=>?_,I.base.tups,I.base.frzs,I.base.tbls⟩,⟨_,hn',λj y v' e1 e2 e3=>?_⟩,λy c e=>?_,I.free,I.freeC,λp hp=>?_,tracked ⟨oL,hoL,I.free⟩ hs,by simpa using I.len⟩ ⟨_,hs,.inl rfl⟩
  ·exact(hs.2 b (W0 (WR (Vv e) I.ok.above))).trans (I.base.keep b o e n hb hx)
  ·obtain⟨sl,e1⟩:=I.base.slot b o e n hb hx;exact⟨sl,(hs.2 b (W0 (WR (Vv e) I.ok.above))).trans e1⟩
  ·obtain⟨o',e1⟩:=I.base.there b o e hx;exact⟨o',(hs.2 b (W0 (WR (Vv e) I.ok.above))).trans e1⟩
  ·by_cases hj:j=i
   ·subst hj;rw[hi]at e1;cases e1;rw[WY hiσ]at e2;cases e2;exact⟨u,r,.inl ⟨hk,by simp⟩⟩
   ·rw[Wt (Ne.symm hj)]at e2;obtain⟨u',r',q⟩:=hl j y v' e1 e2 e3;refine⟨u',r',?_⟩;rcases q with⟨k,e⟩ | ⟨k,c,e,z⟩
    ·refine .inl ⟨k,?_⟩;have:y≠x:=λe=>hj (GE hN e1 (e▸hi));simp[this,e]
    ·exact .inr ⟨k,c,e,z.sameBut hs (cne y c e)⟩
  ·obtain⟨w',z⟩:=I.cell y c e;exact⟨w',z.sameBut hs (cne y c e)⟩
  ·obtain⟨e,n,ne,nf,d⟩:=I.pin p hp;exact⟨(hs.2 p.1 ne).trans e,n,ne,nf,d⟩
 ·have hfn:X.fn x=true:=by
   rcases hf with z | z
   ·exact z
   ·rw[z]at hk;cases hk
  obtain⟨c,hc⟩:=I.ok.has x (.inl hk);obtain⟨w',z⟩:=I.cell x c hc;refine wpAny_storeName_cell I.ok.kind hk hc z (λh' hc' hs=>?_);obtain⟨oc,hoc,hocd⟩:=id z;refine h {s with heap:=h'} ⟨I.ok,I.os,I.bare,⟨λb o e n hb hx=>?_,λb o e n hb hx=>?_,I.base.free,λb o e hx=>?_,I.base.tups,I.base.frzs,I.base.tbls⟩,⟨m,hn.sameBut hs (Ne.symm (cne x c hc)),λj y v' e1 e2 e3=>?_⟩,λy c' e=>?_,I.free,I.freeC,λp hp=>?_,tracked ⟨oc,hoc,I.freeC x c hc⟩ hs,by simpa using I.len⟩ ⟨c,hs,.inr hc⟩
  ·exact(hs.2 b (W0 (WR (Vv e) (I.ok.cab x c hfn hc)))).trans (I.base.keep b o e n hb hx)
  ·obtain⟨sl,e1⟩:=I.base.slot b o e n hb hx;exact⟨sl,(hs.2 b (W0 (WR (Vv e) (I.ok.cab x c hfn hc)))).trans e1⟩
  ·obtain⟨o',e1⟩:=I.base.there b o e hx;exact⟨o',(hs.2 b (W0 (WR (Vv e) (I.ok.cab x c hfn hc)))).trans e1⟩
  ·by_cases hj:j=i
   ·subst hj;rw[hi]at e1;cases e1;rw[WY hiσ]at e2;cases e2;exact⟨u,r,.inr ⟨.inl hk,c,hc,hc'⟩⟩
   ·rw[Wt (Ne.symm hj)]at e2;obtain⟨u',r',q⟩:=hl j y v' e1 e2 e3;refine⟨u',r',?_⟩;rcases q with q | ⟨k,c',e,z'⟩
    ·exact .inl q
    ·refine .inr ⟨k,c',e,z'.sameBut hs ?_⟩;rintro rfl;exact hj (GE hN e1 (I.ok.inj _ _ _ e hc▸hi))
  ·by_cases hcc:c'=c
   ·subst hcc;exact⟨_,hc'⟩
   ·obtain⟨w2,z2⟩:=I.cell y c' e;exact⟨w2,z2.sameBut hs hcc⟩
  ·obtain⟨e,n,ne,nf,d⟩:=I.pin p hp;refine⟨(hs.2 p.1 ?_).trans e,n,ne,nf,d⟩;intro q;rw[q,hoc]at e;have q':oc=p.2:=oj e;exact d w' (by rw[<-q'];exact hocd)
theorem CO{M:Model}{A:Ze}{E:ZR->ZS->Prop}{i:Nat}{x:Str}{v:V}{u:ZR}{Q:Unit->ZS->Prop}(I:Inv X pq σ H s)(hN:X.N.Nodup)(hi:X.N[i]?=some x)(hx:Loc X.env.scope x)(r:RelV v u)
 (h:∀ s',Inv X pq (σ.set i (some v)) H s'->Q () s') (hf:X.fn x=true\/X.env.scope.names.lookup x=some .local:=by first | exact .inl rfl | exact .inr rfl | assumption):ZV M A (storeName X.env x u) Q E s:=
 EW I hN hi hx r (λs' I' _=>h s' I') hf
theorem Inv.call'{s':ZS}{ch:List ZT}(I:Inv X pq σ H s)(ho:s'.os=s.os)(u:Un (frs X.stack) ch H H' s.heap s'.heap)(hok:HOk X.prog X.w H' s'.heap)(hg:AllBare s'.gens)
 (hch:∀ b∈ch,(b∈X.ex\/X.s₀.heap.objs.size<=b)/\b≠X.env.locals/\(∀ x c,X.env.cells.lookup x=some c->c≠b)/\∀ p∈X.pn++pq,p.1≠b):Inv X pq σ H' s':=by
 obtain⟨h',g',d',t',o'⟩:=s';have e:o'=s.os:=ho;subst e;exact I.call (g':=g') (t':=t') (d':=d') u hok hg hch
end
abbrev XK:=ZR->Option ZT->Hp->Prop
abbrev St:=List (Option V)
abbrev VK:=V->Hp->Prop
abbrev TE:=St->Hp->VK->Prop
abbrev TT:=St->Hp->(Bool->Hp->Prop)->Prop
abbrev TA:=St->Hp->(List V->Hp->Prop)->Prop
structure Ends where
 nx:St->Hp->Prop
 rt:VK
 bk:St->Hp->Prop:=λ_ _=>False
 ct:St->Hp->Prop:=λ_ _=>False
abbrev TS:=Ends->St->Hp->Prop
def EP(X:Cx)(pq:List (ZT×Obj))(σ:St)(Q:VK)(u:ZR)(s':ZS):Prop:=∃ v H',Inv X pq σ H' s'/\RelV v u/\Q v H'
def TP(X:Cx)(pq:List (ZT×Obj))(σ:St)(Q:Bool->Hp->Prop)(b:Bool)(s':ZS):Prop:=∃ H',Inv X pq σ H' s'/\Q b H'
def AP(X:Cx)(pq:List (ZT×Obj))(σ:St)(Q:List V->Hp->Prop)(us:List ZR)(s':ZS):Prop:=∃ vs H',Inv X pq σ H' s'/\Vals vs us/\Q vs H'
def SP(X:Cx)(pq:List (ZT×Obj))(D:Ends)(f:Flow)(s':ZS):Prop:=
 match f with
 | .next=>∃ σ' H',Inv X pq σ' H' s'/\D.nx σ' H'
 | .brk=>∃ σ' H',Inv X pq σ' H' s'/\D.bk σ' H'
 | .cont=>∃ σ' H',Inv X pq σ' H' s'/\D.ct σ' H'
 | .ret u=>∃ v σ' H',Inv X pq σ' H' s'/\RelV v u/\D.rt v H'
noncomputable def PE(X:Cx)(e:Expr)(t:TE):Prop:=
 ∀(pq:List (ZT×Obj)) (s:ZS) (σ:St) (H:Hp) (Q:VK),Inv X pq σ H s->t σ H Q->ZV (ZY X.prog X.w) X.A (eval e X.env) (EP X pq σ Q) X.xe s
noncomputable def PT(X:Cx)(e:Expr)(t:TT):Prop:=
 ∀(pq:List (ZT×Obj)) (s:ZS) (σ:St) (H:Hp) (Q:Bool->Hp->Prop),Inv X pq σ H s->t σ H Q->ZV (ZY X.prog X.w) X.A (isTrue e X.env (eval e X.env)) (TP X pq σ Q) X.xe s
noncomputable def PW(X:Cx)(e:Expr)(t:TT):Prop:=
 ∀(whole:Sem ZR) (pq:List (ZT×Obj)) (s:ZS) (σ:St) (H:Hp) (Q:Bool->Hp->Prop),Inv X pq σ H s->t σ H Q->ZV (ZY X.prog X.w) X.A (isTrue e X.env whole) (TP X pq σ Q) X.xe s
theorem PW.pt{X:Cx}{e:Expr}{t:TT}(h:PW X e t):PT X e t:=h _
noncomputable def PA(X:Cx)(es:List Expr)(t:TA):Prop:=
 ∀(pos:Pos) (pq:List (ZT×Obj)) (s:ZS) (σ:St) (H:Hp) (Q:List V->Hp->Prop),Inv X pq σ H s->t σ H Q->ZV (ZY X.prog X.w) X.A (spliced (backTo pos (Zc es X.env))) (AP X pq σ Q) X.xe s
noncomputable def PS(X:Cx)(st:Stmt)(t:TS):Prop:=
 ∀(pq:List (ZT×Obj)) (s:ZS) (σ:St) (H:Hp) (D:Ends),Inv X pq σ H s->t D σ H->ZV (ZY X.prog X.w) X.A (exec st X.env) (SP X pq D) X.xe s
noncomputable def PSs(X:Cx)(st:List Stmt)(t:TS):Prop:=
 ∀(pq:List (ZT×Obj)) (s:ZS) (σ:St) (H:Hp) (D:Ends),Inv X pq σ H s->t D σ H->ZV (ZY X.prog X.w) X.A (execs st X.env) (SP X pq D) X.xe s
theorem thn{α:Type}{t:Sem α}{Q Q':α->ZS->Prop}{M:Model}{A:Ze}{E:ZR->ZS->Prop}{s:ZS}(h:ZV M A t Q E s)(hQ:∀ a s,Q a s->Q' a s):ZV M A t Q' E s:=Zv h hQ λ_ _ x=>x
section
variable{X:Cx}
def GF(i:Nat):TE:=λσ H Q=>∃ v,σ[i]?=some (some v)/\Q v H
def tC(v:V):TE:=λ_ H Q=>Q v H
theorem Rq{i:Nat}{x:Str}{pos:Pos}(hN:X.N[i]?=some x)(hv:Vis X.env.scope x)(hd:(x == ("__debug__":Str))=false:=by decide)(hcd:(x == ("__classdict__":Str))=false:=by decide):PE X (.Name x pos) (GF i):=by
 intro pq s σ H Q I h;obtain⟨v,e,h⟩:=h;obtain⟨m,hn,hl⟩:=I.loc;obtain⟨u,r,l⟩:=hl i x v hN e hv;have fin:EP X pq σ Q u s:=⟨v,H,I,r,h⟩
 rcases l with⟨hk,hm⟩ | ⟨hk,c,hc,hcell⟩
 ·exact A1e (wpAny_loadName_local I.ok.kind hk hn hm fin) hd
 ·rcases hk with hk | hk
  ·exact A1e (wpAny_loadName_cell I.ok.kind hk hc hcell fin) hd
  ·exact A1e (wpAny_loadName_free I.ok.kind hk hc hcell fin hcd) hd
theorem Rr{i j pos}:PE X (.Constant (.int i) j pos) (tC (.int i)):=λ_ _ _ H _ I h=>wpAny_Constant_int ⟨.int i,H,I.tok _,⟨_,rfl⟩,h⟩
theorem U6{b j pos}:PE X (.Constant (.bool b) j pos) (tC (.bl b)):=λ_ _ _ H _ I h=>Constant_bool ⟨.bl b,H,I,rfl,h⟩
theorem Rs{j pos}:PE X (.Constant .none j pos) (tC .non):=λ_ _ _ H _ I h=>Constant_none ⟨.non,H,I,rfl,h⟩
theorem Rt{x j pos}:PE X (.Constant (.str x) j pos) (tC (.str x)):=λ_ _ _ H _ I h=>Calls.Constant_str ⟨.str x,H,I.tok _,⟨_,rfl⟩,h⟩
def Gl(X:Cx)(x:Str):Prop:=X.env.kindOf x=some .globalImplicit
theorem Ot{E:ZR->ZS->Prop}{pq:List (ZT×Obj)}{s:ZS}{σ:St}{H:Hp}{x:Str}{u:ZR}{pos:Pos}{Q:ZR->ZS->Prop}(I:Inv X pq σ H s)(hg:Gl X x)(hm:X.mg x=some u)(h:Q u s)
 (hd:(x == ("__debug__":Str))=false:=by decide):ZV (ZY X.prog X.w) X.A (eval (.Name x pos) X.env) Q E s:=
 Calls.Name_function_global I.ok.kind hg (Calls.loadGlobal_global (by rw[I.ok.glob];exact I.mod.glob.keeps I.bk) hm h) hd
theorem BF{E:ZR->ZS->Prop}{pq:List (ZT×Obj)}{s:ZS}{σ:St}{H:Hp}{x:Str}{u:ZR}{pos:Pos}{Q:ZR->ZS->Prop}(I:Inv X pq σ H s)(hg:Gl X x)(hm:X.mg x=none)(hv:Zb x=some u)(h:Q u s)
 (hn:x≠"__name__":=by decide) (hd:(x == ("__debug__":Str))=false:=by decide):ZV (ZY X.prog X.w) X.A (eval (.Name x pos) X.env) Q E s:=by
 obtain⟨mb,h1,h2⟩:=I.mod.blt;exact Calls.Name_function_global I.ok.kind hg (Calls.loadGlobal_builtin (by rw[I.ok.glob];exact I.mod.glob.keeps I.bk) hm (by rw[I.ok.blt];exact h1.keeps I.bk) ((h2 x hn).trans hv) h) hd
theorem Ou{x:Str}{v:V}{u:ZR}{pos:Pos}(hg:Gl X x)(hm:X.mg x=none)(hv:Zb x=some u)(r:RelV v u)(hn:x≠"__name__":=by decide)(hd:(x == ("__debug__":Str))=false:=by decide):PE X (.Name x pos) (tC v):=
 λ_ _ _ H _ I h=>BF I hg hm hv ⟨v,H,I,r,h⟩ hn hd
variable{a b:Expr}{ta tb:TE}{pos:Pos}
variable{tA tB':TT}{rest:List Expr}
def U7(t u:TT):TT:=λσ H Q=>t σ H λc H1=>if c=true then u σ H1 Q else Q false H1
def tOr(t u:TT):TT:=λσ H Q=>t σ H λc H1=>if c=true then Q true H1 else u σ H1 Q
def U8(t:TT):TT:=λσ H Q=>t σ H λc H1=>Q (!c) H1
theorem Ov(ha:PT X a tA):PW X (.BoolOp .And [a] pos) tA:=by
 intro wh pq s σ H Q I h;refine isTrue_and (thn (ha pq s σ H Q I h) λc s1 e=>?_);cases c with
 | true=>exact isTrue_and_nil e
 | false=>exact e
theorem Ru(ha:PT X a tA):PW X (.BoolOp .Or [a] pos) tA:=by
 intro wh pq s σ H Q I h;refine isTrue_or (thn (ha pq s σ H Q I h) λc s1 e=>?_);cases c with
 | false=>exact isTrue_or_nil e
 | true=>exact e
theorem M4(ha:PT X a tA)(hb:PW X (.BoolOp .And (b::rest) pos) tB'):PW X (.BoolOp .And (a::b::rest) pos) (U7 tA tB'):=by
 intro wh pq s σ H Q I h;refine isTrue_and (thn (ha pq s σ H _ I h) λc s1 ⟨H1,I1,q1⟩=>?_);cases c with
 | true=>exact hb wh pq s1 σ H1 Q I1 q1
 | false=>exact⟨H1,I1,q1⟩
theorem Qt(ha:PT X a tA)(hb:PW X (.BoolOp .Or (b::rest) pos) tB'):PW X (.BoolOp .Or (a::b::rest) pos) (tOr tA tB'):=by
 intro wh pq s σ H Q I h;refine isTrue_or (thn (ha pq s σ H _ I h) λc s1 ⟨H1,I1,q1⟩=>?_);cases c with
 | true=>exact⟨H1,I1,q1⟩
 | false=>exact hb wh pq s1 σ H1 Q I1 q1
theorem Rv(ha:PT X a tA):PT X (.UnaryOp .Not a pos) (U8 tA):=by
 intro pq s σ H Q I h;exact isTrue_not (ha pq s σ H (λc H1=>Q (!c) H1) I h)
def Qu(ta tb:TE):TE:=λσ H Q=>ta σ H λx H1=>∃ c,x = .bl c/\if c=true then tb σ H1 Q else Q (.bl false) H1
def U9(ta tb:TE):TE:=λσ H Q=>ta σ H λx H1=>∃ c,x = .bl c/\if c=true then Q (.bl true) H1 else tb σ H1 Q
def Qv(ta:TE):TE:=λσ H Q=>ta σ H λx H1=>∃ c,x = .bl c/\Q (.bl (!c)) H1
theorem M5{op}{t:TE}(h:PE X a t):PE X (.BoolOp op [a] pos) t:=λpq s σ H Q I hw=>BoolOp_one (h pq s σ H Q I hw)
theorem M6(ha:PE X a ta)(hb:PE X (.BoolOp .And (b::rest) pos) tb):PE X (.BoolOp .And (a::b::rest) pos) (Qu ta tb):=by
 intro pq s σ H Q I h;refine BoolOp_and (thn (ha pq s σ H _ I h) λv s1 ⟨x,H1,I1,r1,q1⟩=>?_);obtain⟨c,rfl,q1⟩:=q1;cases r1;refine Zh ?_;cases c with
 | true=>exact hb pq s1 σ H1 Q I1 q1
 | false=>exact⟨.bl false,H1,I1,rfl,q1⟩
theorem Qw(ha:PE X a ta)(hb:PE X (.BoolOp .Or (b::rest) pos) tb):PE X (.BoolOp .Or (a::b::rest) pos) (U9 ta tb):=by
 intro pq s σ H Q I h;refine BoolOp_or (thn (ha pq s σ H _ I h) λv s1 ⟨x,H1,I1,r1,q1⟩=>?_);obtain⟨c,rfl,q1⟩:=q1;cases r1;refine Zh ?_;cases c with
 | false=>exact hb pq s1 σ H1 Q I1 q1
 | true=>exact⟨.bl true,H1,I1,rfl,q1⟩
theorem Rw(ha:PE X a ta):PE X (.UnaryOp .Not a pos) (Qv ta):=by
 intro pq s σ H Q I h;refine UnaryOp_ (thn (ha pq s σ H _ I h) λv s1 ⟨x,H1,I1,r1,q1⟩=>?_);obtain⟨c,rfl,q1⟩:=q1;cases r1;exact not_of (Zh ⟨.bl (!c),H1,I1,rfl,q1⟩)
def tIf(t:TT)(ta tb:TE):TE:=λσ H Q=>t σ H λc H1=>if c=true then ta σ H1 Q else tb σ H1 Q
theorem M7{c:Expr}(hc:PT X c tA)(ha:PE X a ta)(hb:PE X b tb):PE X (.IfExp c a b pos) (tIf tA ta tb):=by
 intro pq s σ H Q I h;refine wpAny_IfExp (thn (hc pq s σ H _ I h) λd s1 ⟨H1,I1,q1⟩=>?_);cases d with
 | true=>exact ha pq s1 σ H1 Q I1 q1
 | false=>exact hb pq s1 σ H1 Q I1 q1
end
def SqL(K:Vl)(H:Hp)(a:ZT)(xs:List V):Prop:=
 Rd H a (.lst xs)\/
  ∃(o:Obj) (its:Array ZR) (n:Nat),K.lookup a=some o/\o.cls = .type "list"/\o.dict=none/\o.data = .seq its n/\its.size<=ZW/\Vals xs its.toList
def SqT(K:Vl)(H:Hp)(a:ZT)(xs:List V):Prop:=
 Rd H a (.tup xs)\/
  ∃(o:Obj) (its:Array ZR) (n:Nat),K.lookup a=some o/\o.cls = .type "tuple"/\o.data = .seq its n/\its.size<=ZW/\Vals xs its.toList
def VW:ZR->Option V
 | .none=>some .non
 | .bool b=>some (.bl b)
 | .int i _=>some (.int i)
 | .str x _=>some (.str x)
 | .bytes b _=>some (.byt b)
 | .float b _=>some (.flt b)
 | .ref a=>some (.ref a)
 | .type n=>some (.ty n)
 | _=>none
theorem RelV.abs{x:V}{u:ZR}(r:RelV x u):VW u=some x:=by
 cases x with
 | non=>cases r;rfl
 | bl _=>cases r;rfl
 | int _=>obtain⟨t,rfl⟩:=r;rfl
 | str _=>obtain⟨t,rfl⟩:=r;rfl
 | byt _=>obtain⟨t,rfl⟩:=r;rfl
 | flt _=>obtain⟨t,rfl⟩:=r;rfl
 | ref _=>cases r;rfl
 | ty _=>cases r;rfl
theorem RelV.inj{x y:V}{u:ZR}(r:RelV x u)(q:RelV y u):x=y:=oj (r.abs.symm.trans q.abs)
theorem Vals.inj:∀{xs ys:List V} {us:List ZR},Vals xs us->Vals ys us->xs=ys
 | _,_,_,.nil,.nil=>rfl
 | _,_,_,.cons r t,.cons r' t'=>by rw[r.inj r',Vals.inj t t']
section
variable{X:Cx}{pq:List (ZT×Obj)}{σ:St}{H:Hp}{s:ZS}{a:ZT}{xs ys:List V}
theorem SqL.of{K:Vl}(h:H a=some (.lst xs)):SqL K H a xs := .inl (.inl h)
theorem SqT.of{K:Vl}(h:H a=some (.tup xs)):SqT K H a xs := .inl (.inl h)
theorem Inv.list(I:Inv X pq σ H s)(h:SqL X.K H a xs):∃ its:List ZR,Vals xs its/\PlainL s.heap a its.toArray/\xs.length<=ZW:=by
 rcases h with h | ⟨o,its,n,hk,hc,hd,hs,hz,r⟩
 ·obtain⟨z,its,n,r,e⟩:=h.ok I.hok;exact⟨its,r,⟨_,n,e,rfl,rfl,rfl⟩,z⟩
 ·refine⟨its.toList,r,⟨o,n,I.kIn a o hk,hc,hd,by simpa using hs⟩,?_⟩;have e:=r.length;simp only[XX]at e;omega
theorem Inv.tuple(I:Inv X pq σ H s)(h:SqT X.K H a xs):∃ its:List ZR,Vals xs its/\IsTup s.heap a its.toArray/\xs.length<=ZW:=by
 rcases h with h | ⟨o,its,n,hk,hc,hs,hz,r⟩
 ·obtain⟨z,its,r,p⟩:=h.ok I.hok;exact⟨its,r,p,z⟩
 ·refine⟨its.toList,r,⟨o,I.kIn a o hk,hc,n,by simpa using hs⟩,?_⟩;have e:=r.length;simp only[XX]at e;omega
theorem Inv.list_inj(I:Inv X pq σ H s)(h:SqL X.K H a xs)(h':SqL X.K H a ys):xs=ys:=by
 obtain⟨its,r,⟨o,n,e,_,_,d⟩,_⟩:=I.list h;obtain⟨its',r',⟨o',n',e',_,_,d'⟩,_⟩:=I.list h';rw[e]at e';cases e';rw[d]at d';injection d' with d1 _;have:its=its':=by simpa using congrArg ZK d1
 subst this;exact r.inj r'
theorem Inv.tuple_inj(I:Inv X pq σ H s)(h:SqT X.K H a xs)(h':SqT X.K H a ys):xs=ys:=by
 obtain⟨its,r,⟨o,e,_,n,d⟩,_⟩:=I.tuple h;obtain⟨its',r',⟨o',e',_,n',d'⟩,_⟩:=I.tuple h';rw[e]at e';cases e';rw[d]at d';injection d' with d1 _;have:its=its':=by simpa using congrArg ZK d1
 subst this;exact r.inj r'
end
abbrev Cx.wish(X:Cx)(E:ZR->ZS->Prop):Cx:={X with xe:=E}
abbrev Cx.nox(X:Cx):Cx:=X.wish λ_ _=>False
theorem Cx.Ok.wish{X:Cx}(ok:X.Ok)(E:ZR->ZS->Prop):(X.wish E).Ok:=
 ⟨ok.mod,ok.kind,ok.glob,ok.blt,ok.above,ok.inj,ok.has,ok.cab,ok.hd,ok.frames,ok.stk,ok.exf,ok.bs,ok.bsz,ok.noex,ok.exfs,ok.funs,ok.frf⟩
theorem Cx.Ok.unwish{X:Cx}{E:ZR->ZS->Prop}(ok:(X.wish E).Ok):X.Ok:=
 ⟨ok.mod,ok.kind,ok.glob,ok.blt,ok.above,ok.inj,ok.has,ok.cab,ok.hd,ok.frames,ok.stk,ok.exf,ok.bs,ok.bsz,ok.noex,ok.exfs,ok.funs,ok.frf⟩
section
variable{X:Cx}{pq:List (ZT×Obj)}{σ:St}{H:Hp}{s:ZS}{E:ZR->ZS->Prop}
theorem Inv.wish(I:Inv X pq σ H s)(E:ZR->ZS->Prop):Inv (X.wish E) pq σ H s:=⟨I.ok.wish E,I.os,I.bare,I.base,I.loc,I.cell,I.free,I.freeC,I.pin,I.hok,I.len⟩
theorem Inv.unwish(I:Inv (X.wish E) pq σ H s):Inv X pq σ H s:=⟨I.ok.unwish,I.os,I.bare,I.base,I.loc,I.cell,I.free,I.freeC,I.pin,I.hok,I.len⟩
theorem SP.unwish{D:Ends}{f:Flow}{s':ZS}(h:SP (X.wish E) pq D f s'):SP X pq D f s':=by
 cases f with
 | next=>obtain⟨σ',H',I,q⟩:=h;exact⟨σ',H',I.unwish,q⟩
 | brk=>obtain⟨σ',H',I,q⟩:=h;exact⟨σ',H',I.unwish,q⟩
 | cont=>obtain⟨σ',H',I,q⟩:=h;exact⟨σ',H',I.unwish,q⟩
 | ret u=>obtain⟨v,σ',H',I,r,q⟩:=h;exact⟨v,σ',H',I.unwish,r,q⟩
theorem PSs.nox{st:List Stmt}{t:TS}(h:PSs X.nox st t):PSs X st t:=λpq s σ H D I hw=>
 Zv (h pq s σ H D (I.wish _) hw) (λ_ _ q=>q.unwish) λ_ _ z=>False.elim z
end
section
variable{X:Cx}{st:Stmt}{rest:List Stmt}{t u:TS}{e:Expr}{te:TE}{pos:Pos}
def UA:TS:=λD σ H=>D.nx σ H
def VX(t u:TS):TS:=λD σ H=>t {D with nx:=u D} σ H
theorem Ow:PSs X [] UA:=λ_ _ σ H _ I h=>A0q ⟨σ,H,I,h⟩
theorem M8(h1:PS X st t)(h2:PSs X rest u):PSs X (st::rest) (VX t u):=by
 intro pq s σ H D I h;refine wpAny_execs_cons (thn (h1 pq s σ H {D with nx:=u D} I h) λf s1 q=>?_);cases f with
 | next=>
   obtain⟨σ',H',I',q⟩:=q;exact h2 pq s1 σ' H' D I' q
 | ret v=>exact q
 | brk=>exact q
 | cont=>exact q
theorem Inv.quiet{pq:List (ZT×Obj)}{σ:St}{H:Hp}{s:ZS}(I:Inv X pq σ H s):interactive X.env=false:=by simp[interactive,I.ok.kind]
def UB(te:TE):TS:=λD σ H=>te σ H λ_ H1=>D.nx σ H1
theorem Ox(he:PE X e te)(hs:A02 e none pos.line X.env=pure false:=by rfl):PS X (.Expr e pos) (UB te):=by
 intro pq s σ H D I h;exact wpAny_Expr_any (thn (he pq s σ H _ I h) λv s1 ⟨x,H1,I1,r1,q1⟩=>⟨σ,H1,I1,q1⟩) I.quiet hs
def VY(te:TE):TS:=λD σ H=>te σ H D.rt
theorem Rx(he:PE X e te):PS X (.Return (some e) pos) (VY te):=by
 intro pq s σ H D I h;exact wpAny_Return_some (thn (he pq s σ H _ I h) λv s1 ⟨x,H1,I1,r1,q1⟩=>⟨x,σ,H1,I1,r1,q1⟩)
def UC(c:TT)(t u:TS):TS:=λD σ H=>c σ H λb H1=>if b=true then t D σ H1 else u D σ H1
theorem UD{c:Expr}{a b:List Stmt}{tc:TT}(hc:PT X c tc)(ha:PSs X a t)(hb:PSs X b u):PS X (.If c a b pos) (UC tc t u):=by
 intro pq s σ H D I h;refine wpAny_If (thn (hc pq s σ H _ I h) λd s1 ⟨H1,I1,q1⟩=>?_);cases d with
 | true=>exact ha pq s1 σ H1 D I1 q1
 | false=>exact hb pq s1 σ H1 D I1 q1
end
abbrev TG:=V->St->Hp->(St->Hp->Prop)->Prop
abbrev TGs:=List V->St->Hp->(St->Hp->Prop)->Prop
noncomputable def PG(X:Cx)(target:Expr)(t:TG):Prop:=
 ∀(pq:List (ZT×Obj)) (s:ZS) (σ:St) (H:Hp) (v:V) (u:ZR) (Q:St->Hp->Prop),Inv X pq σ H s->RelV v u->t v σ H Q->
  ZV (ZY X.prog X.w) X.A (assign target X.env u) (λ_ s'=>∃ σ' H',Inv X pq σ' H' s'/\Q σ' H') X.xe s
noncomputable def PGs(X:Cx)(ts:List Expr)(t:TGs):Prop:=
 ∀(pq:List (ZT×Obj)) (s:ZS) (σ:St) (H:Hp) (vs:List V) (us:List ZR) (Q:St->Hp->Prop),Inv X pq σ H s->Vals vs us->t vs σ H Q->
  ZV (ZY X.prog X.w) X.A (A0U ((Zw ts X.env).map (·.2)) us) (λ_ s'=>∃ σ' H',Inv X pq σ' H' s'/\Q σ' H') X.xe s
abbrev M9:=V->V->V->Hp->(Hp->Prop)->Prop
noncomputable def Ry(X:Cx)(t:M9):Prop:=
 ∀(pq:List (ZT×Obj)) (s:ZS) (σ:St) (H:Hp) (o i v:V) (ov iv u:ZR) (Q:Hp->Prop),Inv X pq σ H s->RelV o ov->RelV i iv->RelV v u->t o i v H Q->
  ZV (ZY X.prog X.w) X.A (setItem ov iv u) (λ_ s'=>∃ H',Inv X pq σ H' s'/\Q H') X.xe s
abbrev TIp:=V->V->Hp->VK->Prop
noncomputable def PIp(X:Cx)(op:A06)(t:TIp):Prop:=
 ∀(pq:List (ZT×Obj)) (s:ZS) (σ:St) (H:Hp) (x y:V) (v u:ZR) (Q:VK),Inv X pq σ H s->RelV x v->RelV y u->t x y H Q->
  ZV (ZY X.prog X.w) X.A (inplaceOp op v u) (EP X pq σ Q) X.xe s
section
variable{X:Cx}{pos:Pos}
def JG(i:Nat):TG:=λv σ H Q=>Q (σ.set i (some v)) H
theorem Oy{i:Nat}{x:Str}(hN:X.N.Nodup)(hi:X.N[i]?=some x)(hx:Loc X.env.scope x)(hf:X.fn x=true\/X.env.scope.names.lookup x=some .local:=by first | exact .inl rfl | exact .inr rfl | assumption):PG X (.Name x pos) (JG i):=by
 intro pq s σ H v u Q I r h;exact A10 (CO I hN hi hx r (λs' I'=>⟨_,H,I',h⟩) hf)
def UE:TGs:=λvs σ H Q=>vs=[]/\Q σ H
def MA(t:TG)(u:TGs):TGs:=λvs σ H Q=>∃ v r,vs=v::r/\t v σ H λσ' H'=>u r σ' H' Q
theorem JH:PGs X [] UE:=by
 intro pq s σ H vs us Q I r h;obtain⟨e,h⟩:=h;subst e;cases r;exact A11 ⟨σ,H,I,h⟩
theorem DT{e:Expr}{es:List Expr}{t:TG}{u:TGs}(h1:PG X e t)(h2:PGs X es u)
 (hs:(Zw (e::es) X.env).map (·.2)=assign e X.env::(Zw es X.env).map (·.2):=by rfl):PGs X (e::es) (MA t u):=by
 intro pq s σ H vs us Q I r h;obtain⟨v,vr,e1,h⟩:=h;subst e1;cases r with
 | cons r rr=>
   rw[hs];refine A0t (thn (h1 pq s σ H _ _ _ I r h) λ_ s1 ⟨σ1,H1,I1,q1⟩=>?_);exact h2 pq s1 σ1 H1 _ _ Q I1 rr q1
def UF(K:Vl)(n:Nat)(t:TGs):TG:=λv σ H Q=>∃ a xs,v = .ref a/\SqT K H a xs/\xs.length=n/\t xs σ H Q
theorem MB{es:List Expr}{k:Nat}{t:TGs}{n:Nat}(hc:X.calm=true)(h:PGs X es t)
 (hn:(Zw es X.env).length=n:=by rfl) (hst:(Zw es X.env).findIdx? (·.1)=none:=by rfl):PG X (.Tuple es k pos) (UF X.K n t):=by
 intro pq s σ H v u Q I r hw;obtain⟨a,xs,e1,hq,hl,hw⟩:=hw;subst e1;cases r;obtain⟨its,rv,ht,hz⟩:=I.tuple hq;refine assign_Tuple_tuple (I.ok.hd hc) ht (by simp[hn,<-hl,rv.length]) hst λh' hx=>?_;have I1:Inv X pq σ H {s with heap:=h'}:=I.kept (t':=s.toks) λb o e=>hx b o (W0 (Vv e)) e;exact h pq _ σ H xs _ Q I1 (by simpa using rv) hw
def Oz(to ti:TE)(t:M9):TG:=λv σ H Q=>to σ H λo H1=>ti σ H1 λi H2=>t o i v H2 λH3=>Q σ H3
theorem Hq{o i:Expr}{to ti:TE}{t:M9}(ho:PE X o to)(hi:PE X i ti)(hs:Ry X t)
 (ha:∀ v,assign (.Subscript o i pos) X.env v=(do
   let ov <- holding [v] (eval o X.env)
   let iv <- holding [v,ov] (eval i X.env)
   standAt pos
   holding [v,ov,iv] (setItem ov iv v)
   release [v,ov,iv] []):=by intro _;rfl):PG X (.Subscript o i pos) (Oz to ti t):=by
 intro pq s σ H v u Q I r h;rw[ha];refine ZQ (Zn (thn (ho pq s σ H _ I h) λov s1 ⟨x,H1,I1,r1,q1⟩=>?_));refine ZQ (Zn (thn (hi pq s1 σ H1 _ I1 q1) λiv s2 ⟨y,H2,I2,r2,q2⟩=>?_));refine ZQ (A0p (ZQ (Zn (thn (hs pq s2 σ H2 x y v ov iv u _ I2 r1 r2 r q2) λ_ s3 ⟨H3,I3,q3⟩=>?_))));exact wpAny_release ⟨σ,H3,I3,q3⟩
def Hr(te:TE)(g:TG):TS:=λD σ H=>te σ H λx H1=>g x σ H1 D.nx
theorem Hs{tg e:Expr}{te:TE}{g:TG}(he:PE X e te)(hg:PG X tg g)(hs:A0d [tg] e pos.line X.env=pure false:=by rfl)(hw:Zl [tg] e X.env=pure none:=by rfl)
 (h1:(Zw [tg] X.env).map (·.2)=[assign tg X.env]:=by rfl):PS X (.Assign [tg] e pos) (Hr te g):=by
 intro pq s σ H D I h;refine wpAny_Assign_stores (thn (he pq s σ H _ I h) λv s1 ⟨x,H1,I1,r1,q1⟩=>?_) hs hw;rw[h1];exact thn (hg pq s1 σ H1 x v _ I1 r1 q1) λ_ s2 q=>q
theorem Rz{i:Nat}{x:Str}{e:Expr}{te:TE}{pos':Pos}(hN:X.N.Nodup)(hi:X.N[i]?=some x)(hx:Loc X.env.scope x)(he:PE X e te)(hs:A02 e (some (.Name x pos')) pos.line X.env=pure false:=by rfl)(hf:X.fn x=true\/X.env.scope.names.lookup x=some .local:=by first | exact .inl rfl | exact .inr rfl | assumption):
 PS X (.Assign [.Name x pos'] e pos) (Hr te (JG i)):=by
 intro pq s σ H D I h;refine wpAny_Assign_Name (thn (he pq s σ H _ I h) λv s1 ⟨y,H1,I1,r1,q1⟩=>?_) hs;exact CO I1 hN hi hx r1 (λs2 I2=>⟨_,H1,I2,q1⟩) hf
def UG(i j:Nat)(ta:TA):TS:=λD σ H=>ta σ H λvs H1=>∃ v w,vs=[v,w]/\D.nx ((σ.set i (some v)).set j (some w)) H1
theorem SA{i j:Nat}{x y:Str}{a b:Expr}{ta:TA}{px py pt:Pos}{kt k2 pt2}(hc:X.calm=true)(hN:X.N.Nodup)(hi:X.N[i]?=some x)(hj:X.N[j]?=some y)(hij:i≠j)
 (hx:X.env.scope.names.lookup x=some .local) (hy:X.env.scope.names.lookup y=some .local) (ha:PA X [a,b] ta)
 (hw:Zl [.Tuple [.Name x px,.Name y py] kt pt] (.Tuple [a,b] k2 pt2) X.env=pure (some [x,y]))
 (hs:A0d [.Tuple [.Name x px,.Name y py] kt pt] (.Tuple [a,b] k2 pt2) pos.line X.env=pure false:=by rfl):
 PS X (.Assign [.Tuple [.Name x px,.Name y py] kt pt] (.Tuple [a,b] k2 pt2) pos) (UG i j ta):=by
 intro pq s σ H D I h;rw[exec_Assign_arm];refine ZQ (A0p ?_);rw[hs];refine ZQ (ZU ?_);rw[iG (by decide)];refine ZQ (Tuple_ (thn (ha _ pq s σ H _ I h) λus s1 ⟨vs,H1,I1,r1,q1⟩=>?_));obtain⟨v,w,e1,q1⟩:=q1;subst e1
 obtain⟨u1,u2,rfl,rv,rw'⟩:∃ u1 u2,us=[u1,u2]/\RelV v u1/\RelV w u2:=by
  cases r1 with
  | cons p q=>
    cases q with
    | cons p' q'=>
      cases q';exact⟨_,_,rfl,p,p'⟩
 refine Zd ?_ (by show 2<=ZW;decide);have I2:Inv X pq σ H1 {s1 with heap:=s1.heap.push {cls := .type "tuple",data := .seq [u1,u2].toArray}}:=I1.kept (t':=s1.toks) λb o e=>Vs _ e;rw[hw];refine ZQ (ZU ?_);show ZV (ZY X.prog X.w) X.A (do rule "assign.swapped-stores";let items <- unpackItems (.ref s1.heap.objs.size) 2 none;A0U [λv=>A1f X.env y v,λv=>A1f X.env x v] items.reverse;pure Flow.next) _ _ _;refine ZQ (A0b (ZQ (unpackItems_tuple (items:=#[u1,u2]) (I.ok.hd hc) (IsTup.new s1.heap _) λh' hx'=>?_)));have I3:=I2.kept (h':=h') (t':=s1.toks) λb o e=>hx' b o (W0 (Vv e)) e;show ZV _ _ (A0U [λv=>A1f X.env y v,λv=>A1f X.env x v] [u2,u1] >>= λ_=>pure Flow.next) _ _ _;refine ZQ (A0t (A1g (CO I3 hN hj (.inl hy) rw' (λs2 I4=>?_) (.inr hy))));refine A0t (A1g (CO I4 hN hi (.inl hx) rv (λs3 I5=>A11 (ZU ?_)) (.inr hx)));rw[List.set_comm _ _ (Ne.symm hij)]at I5;exact⟨_,H1,I5,q1⟩
def Qx(to ti te:TE)(tget:V->V->Hp->VK->Prop)(tip:TIp)(tset:M9):TS:=λD σ H=>to σ H λo H1=>ti σ H1 λi H2=>tget o i H2 λx H3=>te σ H3 λy H4=>tip x y H4 λz H5=>tset o i z H5 λH6=>D.nx σ H6
noncomputable def UH(X:Cx)(t:V->V->Hp->VK->Prop):Prop:=
 ∀(pq:List (ZT×Obj)) (s:ZS) (σ:St) (H:Hp) (o i:V) (ov iv:ZR) (Q:VK),Inv X pq σ H s->RelV o ov->RelV i iv->t o i H Q->
  ZV (ZY X.prog X.w) X.A (getItem ov iv) (EP X pq σ Q) X.xe s
theorem P3{o i e:Expr}{to ti te:TE}{tget:V->V->Hp->VK->Prop}{tip:TIp}{tset:M9}{op:A06}{tpos:Pos}(ho:PE X o to)(hi:PE X i ti)(hg:UH X tget)(he:PE X e te)(hp:PIp X op tip)(hs:Ry X tset)
 (ha:∀ ov iv new,augStore i ov iv new=(do holding [new,ov,iv] (setItem ov iv new);release [new,ov,iv] [];pure .next):=by intros;rfl):PS X (.AugAssign (.Subscript o i tpos) op e pos) (Qx to ti te tget tip tset):=by
 intro pq s σ H D I h;refine wpAny_AugAssign_SubscriptAny (thn (ho pq s σ H _ I h) λov s1 ⟨x1,H1,I1,r1,q1⟩=>?_) ha;refine thn (hi pq s1 σ H1 _ I1 q1) λiv s2 ⟨x2,H2,I2,r2,q2⟩=>?_;refine thn (hg pq s2 σ H2 x1 x2 ov iv _ I2 r1 r2 q2) λold s3 ⟨x3,H3,I3,r3,q3⟩=>?_;refine thn (he pq s3 σ H3 _ I3 q3) λv s4 ⟨x4,H4,I4,r4,q4⟩=>?_;refine thn (hp pq s4 σ H4 x3 x4 old v _ I4 r3 r4 q4) λnew s5 ⟨x5,H5,I5,r5,q5⟩=>?_;exact thn (hs pq s5 σ H5 x1 x2 x5 ov iv new _ I5 r1 r2 r5 q5) λ_ s6 ⟨H6,I6,q6⟩=>⟨σ,H6,I6,q6⟩
def ipI(f:Int->Int->Int):TIp:=λx y H Q=>∃ i j,x = .int i/\y = .int j/\Q (.int (f i j)) H
theorem SB:PIp X .Add (ipI λi j=>i+j):=by
 intro pq s σ H x y v u Q I r1 r2 h;obtain⟨i,j,e1,e2,q⟩:=h;subst e1;subst e2;obtain⟨t,rfl⟩:=r1;obtain⟨t',rfl⟩:=r2;exact iadd_int ⟨.int _,H,I.tok _,⟨_,rfl⟩,q⟩
noncomputable def MC(c:TT)(tb:TS):TS:=λD σ H=>∃ W:Nat->St->Hp->Prop,(∃ m,W m σ H)/\∀ m σ H,W m σ H->
 c σ H λb H1=>if b=true then ∃ N:St->Hp->Prop,(∀ σ' H',N σ' H'->∃ m',m'<m/\W m' σ' H')/\tb {D with nx:=N,ct:=N,bk:=D.nx} σ H1 else D.nx σ H1
theorem MD{c:Expr}{body:List Stmt}{tc:TT}{tb:TS}(hp:A16 (ZY X.prog X.w) X.A X.env X.xe)(hc:PT X c tc)(hb:PSs X body tb):PS X (.While c body [] pos) (MC tc tb):=by
 intro pq s σ H D I h;obtain⟨W,⟨m0,w0⟩,turn⟩:=h;refine wpAny_While (codeAny_whileLoop (λn s'=>∃ σ' H',Inv X pq σ' H' s'/\W n σ' H') ?_ m0 ⟨σ,H,I,w0⟩);rintro n s1 ⟨σ1,H1,I1,w1⟩;refine Zy hp (thn (hc pq s1 σ1 H1 _ I1 (turn n σ1 H1 w1)) λb s2 ⟨H2,I2,q2⟩=>?_);cases b with
 | true=>
   obtain⟨N,hN,q2⟩:=q2;rw[iP rfl];refine Zy hp (thn (hb pq s2 σ1 H2 _ I2 q2) λf s3 q3=>?_);cases f with
   | next=>
     obtain⟨σ3,H3,I3,n3⟩:=q3;obtain⟨m',hm,w3⟩:=hN σ3 H3 n3;exact⟨m',hm,σ3,H3,I3,w3⟩
   | cont=>
     obtain⟨σ3,H3,I3,n3⟩:=q3;obtain⟨m',hm,w3⟩:=hN σ3 H3 n3;exact⟨m',hm,σ3,H3,I3,w3⟩
   | brk=>exact q3
   | ret v=>exact q3
 | false=>
   rw[iG Vy];exact A0q ⟨σ1,H2,I2,q2⟩
end
structure It where
 go:Nat->Hp->Prop
 yld:Nat->Hp->V->Hp->Prop
 stop:Nat->Hp->Prop
def FpOk(X:Cx)(pq:List (ZT×Obj))(H:Hp)(b:ZT):Prop:=
 H b=none/\b≠X.env.locals/\b∉X.fs/\(b∈X.ex\/X.s₀.heap.objs.size<=b)/\(∀ x c,X.env.cells.lookup x=some c->c≠b)/\∀ p∈X.pn++pq,p.1≠b
theorem Inv.fpOk{X:Cx}{pq:List (ZT×Obj)}{σ:St}{H H':Hp}{s:ZS}{b:ZT}(I:Inv X pq σ H s)(hb:s.heap.objs.size<=b)(hn:H' b=none):FpOk X pq H' b:=by
 refine⟨hn,Yn (WR I.lt hb),I.nofs hb,.inr (WH I.sz hb),λx c e z=>?_,λp hp z=>?_⟩
 ·obtain⟨v,q⟩:=I.cell x c e;exact absurd (WR q.lt (by rw[z];exact hb)) (XW _)
 ·exact absurd (WR (Vv (I.pin p hp).1) (by rw[z];exact hb)) (XW _)
structure Turn(P:ZX)(w:Za)(K:Vl)(tg:Expr)(J:It)(fp:List ZT)(it:ZT)(tn:Nat->Heap->Prop):Prop where
 mem:it∈fp
 obj:∀ i h,tn i h->∀ b∈fp,∃ o,h.get? b=some o/\∀ v,o.data ≠ .cell v
 keep:∀ i h h',tn i h->(∀ b∈fp,∀ o,h.get? b=some o->h'.get? b=some o)->tn i h'
 item:∀(X:Cx),X.prog=P->X.w=w->X.K=K->X.calm=true->∀(i:Nat) (pq:List (ZT×Obj)) (s:ZS) (σ:St) (H:Hp) (E:ZR->ZS->Prop),Inv X pq σ H s->(∀ b∈fp,FpOk X pq H b)->tn i s.heap->J.go i H->
  ZV (ZY P w) X.A (pyNext (.ref it)) (λr s1=>∃ u,r=some u/\
   ZV (ZY P w) X.A (A0g tg (.ref it) u) (λ_ s2=>∃ x H',Inv X pq σ H' s2/\RelV x u/\J.yld i H x H'/\tn (i+1) s2.heap/\∀ b∈fp,H' b=none) E s1) E s
 done:∀(X:Cx),X.prog=P->X.w=w->X.K=K->X.calm=true->∀(i:Nat) (pq:List (ZT×Obj)) (s:ZS) (σ:St) (H:Hp) (E:ZR->ZS->Prop),Inv X pq σ H s->(∀ b∈fp,FpOk X pq H b)->tn i s.heap->J.stop i H->
   ZV (ZY P w) X.A (pyNext (.ref it)) (λr s1=>r=none/\Inv X pq σ H s1) E s
 self:∀(A:Ze) (i:Nat) (s:ZS) (Q:ZR->ZS->Prop) (E:ZR->ZS->Prop),tn i s.heap->Q (.ref it) s->ZV (ZY P w) A (pyIter (.ref it)) Q E s
abbrev TI:=St->Hp->(It->Hp->Prop)->Prop
noncomputable def PIE(X:Cx)(pq:List (ZT×Obj))(σ:St)(tg:Expr)(R:It->Hp->Prop)(itv:ZR)(s2:ZS):Prop:=
 ∃(it:ZT) (fp:List ZT) (tn:Nat->Heap->Prop) (J:It) (H':Hp),itv = .ref it/\Inv X pq σ H' s2/\Turn X.prog X.w X.K tg J fp it tn/\tn 0 s2.heap/\(∀ b∈fp,FpOk X pq H' b)/\R J H'
noncomputable def PI(X:Cx)(tg iter:Expr)(wi:TI):Prop:=
 ∀(pq:List (ZT×Obj)) (s:ZS) (σ:St) (H:Hp) (R:It->Hp->Prop),Inv X pq σ H s->wi σ H R->
  ZV (ZY X.prog X.w) X.A (eval iter X.env) (λv s1=>ZV (ZY X.prog X.w) X.A (pyIter v) (PIE X pq σ tg R) X.xe s1) X.xe s
theorem ME{M:Model}{A:Ze}{E:ZR->ZS->Prop}{s:ZS}{tg:Expr}{it:ZT}{u:ZR}{o:Obj}{n:String}{vs:Array ZR}{Q:Unit->ZS->Prop}(ho:s.heap.get? it=some o)(hc:o.cls = .type n)(hd:o.data = .fields vs)
 (hn:["enumerate","zip","dict_itemiterator","dict_reverseitemiterator","odict_iterator","itertools.zip_longest","itertools.pairwise"].contains n=false) (hQ:Q () s):ZV M A (A0g tg (.ref it) u) Q E s:=by
 unfold A0g
 cases tg<;>first
  | exact ZU hQ
  | (cases u<;>first
      | exact ZU hQ
      | (refine ZQ (wpAny_load ho ?_)
         rw[hc,hd];show ZV M A (if (["enumerate","zip","dict_itemiterator","dict_reverseitemiterator","odict_iterator","itertools.zip_longest","itertools.pairwise"].contains n&&vs[0]? == some (rawInt _))=true then _ else _) Q E s;rw[iG (by intro h;rw[hn,Z9]at h;cases h)];exact ZU hQ))
def Itl(K:Vl)(a:ZT):It:=
 ⟨λi H=>∃ xs x,SqL K H a xs/\xs[i]?=some x,λi H x H'=>H'=H/\∀ xs,SqL K H a xs->xs[i]?=some x,λi H=>∃ xs,SqL K H a xs/\xs.length<=i⟩
def Itt(K:Vl)(a:ZT):It:=
 ⟨λi H=>∃ xs x,SqT K H a xs/\xs[i]?=some x,λi H x H'=>H'=H/\∀ xs,SqT K H a xs->xs[i]?=some x,λi H=>∃ xs,SqT K H a xs/\xs.length<=i⟩
def Itr(lo:Int)(n:Nat):It:=⟨λi _=>i<n,λi H x H'=>H'=H/\x = .int (lo+i),λi _=>n<=i⟩
theorem Kd{P:ZX}{w:Za}{K:Vl}{tg:Expr}(a it:ZT):Turn P w K tg (Itl K a) [it] it (λi h=>h.IsListIter it a i) where
 mem:=by simp
 obj:=λi h st b hb=>by
  have e:b=it:=by simpa using hb
  subst e;obtain⟨o,e,c,d⟩:=st;exact⟨o,e,λv z=>by rw[d]at z;cases z⟩
 keep:=λi h h' st k=>st.at λo e=>k it (by simp) o e
 item:=by
  intro X hP hw hK hc i pq s σ H E I hf st hg;subst hP hw hK;obtain⟨xs,x,hq,hx⟩:=hg;obtain⟨its,rv,p,hz⟩:=I.list hq;obtain⟨u,hu,ru⟩:=rv.get hx;obtain⟨f0,f1,f2,f3,f4,f5⟩:=hf it (by simp);refine wpAny_pyNext_list_item st p.isList (x:=u) (by simpa using hu) λh' st' sb=>?_;have I1:Inv X pq σ H {s with heap:=h'}:=I.turned (t':=s.toks) (λb o hb e=>(sb.2 b hb).trans e) f0 f1 f3 f4 f5;obtain⟨o,e,c,d⟩:=id st';exact⟨u,rfl,ME (s:={s with heap:=h'}) e c d (by decide) ⟨x,H,I1,ru,⟨rfl,λys hy=>by rw[I.list_inj hy hq];exact hx⟩,st',λb hb=>(hf b hb).1⟩⟩
 done:=by
   intro X hP hw hK hc i pq s σ H E I hf st hg;subst hP hw hK;obtain⟨xs,hq,hx⟩:=hg;obtain⟨its,rv,p,hz⟩:=I.list hq;obtain⟨f0,f1,f2,f3,f4,f5⟩:=hf it (by simp);have hl:=rv.length;exact wpAny_pyNext_list_end (I.ok.hd hc) st p.isList (by simp;omega) λh' eb=>⟨rfl,I.turned (t':=s.toks) (λb o hb e=>eb b o hb e) f0 f1 f3 f4 f5⟩
 self:=λ_ _ _ _ _ st h=>wpAny_pyIter_listiter st h
theorem Ht{P:ZX}{w:Za}{K:Vl}{tg:Expr}(a it:ZT):Turn P w K tg (Itt K a) [it] it (λi h=>h.IsTupleIter it a i) where
 mem:=by simp
 obj:=λi h st b hb=>by
  have e:b=it:=by simpa using hb
  subst e;obtain⟨o,e,c,d⟩:=st;exact⟨o,e,λv z=>by rw[d]at z;cases z⟩
 keep:=λi h h' st k=>st.at λo e=>k it (by simp) o e
 item:=by
  intro X hP hw hK hc i pq s σ H E I hf st hg;subst hP hw hK;obtain⟨xs,x,hq,hx⟩:=hg;obtain⟨its,rv,p,hz⟩:=I.tuple hq;obtain⟨u,hu,ru⟩:=rv.get hx;obtain⟨f0,f1,f2,f3,f4,f5⟩:=hf it (by simp);refine wpAny_pyNext_tuple_item st (show s.heap.IsTuple a its.toArray from p) (x:=u) (by simpa using hu) λh' st' sb=>?_;have I1:Inv X pq σ H {s with heap:=h'}:=I.turned (t':=s.toks) (λb o hb e=>(sb.2 b hb).trans e) f0 f1 f3 f4 f5;obtain⟨o,e,c,d⟩:=id st';exact⟨u,rfl,ME (s:={s with heap:=h'}) e c d (by decide) ⟨x,H,I1,ru,⟨rfl,λys hy=>by rw[I.tuple_inj hy hq];exact hx⟩,st',λb hb=>(hf b hb).1⟩⟩
 done:=by
   intro X hP hw hK hc i pq s σ H E I hf st hg;subst hP hw hK;obtain⟨xs,hq,hx⟩:=hg;obtain⟨its,rv,p,hz⟩:=I.tuple hq;obtain⟨f0,f1,f2,f3,f4,f5⟩:=hf it (by simp);have hl:=rv.length;exact wpAny_pyNext_tuple_end (I.ok.hd hc) st (show s.heap.IsTuple a its.toArray from p) (by simp;omega) λh' eb=>⟨rfl,I.turned (t':=s.toks) (λb o hb e=>eb b o hb e) f0 f1 f3 f4 f5⟩
 self:=λ_ _ _ _ _ st h=>wpAny_pyIter_tupleiter st h
theorem Hu{P:ZX}{w:Za}{K:Vl}{tg:Expr}(it:ZT)(lo:Int)(n:Nat):Turn P w K tg (Itr lo n) [it] it (λi h=>IsRangeIter h it (lo+(i:Nat) * 1) ((n:Int) - (i:Nat)) 1) where
 mem:=by simp
 obj:=λi h st b hb=>by
  have e:b=it:=by simpa using hb
  subst e
  exact⟨_,st,λv z=>by
   have z':Data.fields _=Data.cell v:=z;cases z'⟩
 keep:=λi h h' st k=>k it (by simp) _ st
 item:=by
  intro X hP hw hK hc i pq s σ H E I hf st hg;subst hP hw hK;obtain⟨f0,f1,f2,f3,f4,f5⟩:=hf it (by simp);have W:=Walks.range (prog:=X.prog) (w:=X.w) (I.ok.hd hc) it lo 1 n;refine W.item i s _ _ hg st λv h' tk hv st' kk=>?_;obtain⟨t,rfl⟩:=hv;have I1:Inv X pq σ H {s with heap:=h',toks:=tk}:=I.turned (λb o hb e=>kk b o (by simpa using hb) e) f0 f1 f3 f4 f5;refine⟨_,rfl,ME (s:={s with heap:=h',toks:=tk}) (n:="range_iterator") st' rfl rfl (by decide) ⟨.int (lo+i),H,I1,⟨t,?_⟩,⟨rfl,rfl⟩,st',λb hb=>(hf b hb).1⟩⟩;rw[Int.mul_one]
 done:=by
   intro X hP hw hK hc i pq s σ H E I hf st hg;subst hP hw hK;obtain⟨f0,f1,f2,f3,f4,f5⟩:=hf it (by simp);exact wpAny_pyNext_range_end (I.ok.hd hc) st (by have:n<=i:=hg;omega) λh' eb=>⟨rfl,I.turned (t':=s.toks) (λb o hb e=>eb b o hb e) f0 f1 f3 f4 f5⟩
 self:=λ_ _ _ _ _ st h=>wpAny_pyIter_rangeiter st h
section
variable{X:Cx}{tg:Expr}
theorem MF{pq:List (ZT×Obj)}{σ:St}{H:Hp}{s:ZS}{R:It->Hp->Prop}{E:ZR->ZS->Prop}{lo hi:Int}{t u v:Tok}{tk:Nat}(I:Inv X pq σ H s)(h1:-(2 ^ 62)<=lo)(h2:lo<2 ^ 62)(h3:-(2 ^ 62)<=hi)(h4:hi<2 ^ 62)
 (q:R (Itr lo (hi - lo).toNat) H):ZV (ZY X.prog X.w) X.A (pyIter (.ref s.heap.objs.size)) (PIE X pq σ tg R) E {s with heap:=s.heap.push {cls := .type "range",data := .fields #[.int lo t,.int hi u,.int 1 v]},toks:=tk}:=by
 refine wpAny_pyIter_range (IsRange.new ..) (small_one h1 h2 h3 h4) ?_;have I1:Inv X pq σ H {s with heap:=s.heap.push {cls := .type "range",data := .fields #[.int lo t,.int hi u,.int 1 v]},toks:=tk}:=I.kept λb o e=>Vs _ e
 refine⟨(s.heap.push {cls := .type "range",data := .fields #[.int lo t,.int hi u,.int 1 v]}).objs.size,[(s.heap.push {cls := .type "range",data := .fields #[.int lo t,.int hi u,.int 1 v]}).objs.size],_,_,H,rfl,
  I1.kept (t':=tk) λb o e=>Vs _ e,Hu _ lo (hi - lo).toNat,?_,λb hb=>?_,q⟩
 ·have e1:lo+((0:Nat):Int) * 1=lo:=by simp
  have e2:(((hi - lo).toNat:Nat):Int) - ((0:Nat):Int)=Builtin.Range.rangeSize lo hi 1:=by rw[rangeSize_one];split<;>omega
  show IsRangeIter _ _ (lo+((0:Nat):Int) * 1) ((((hi - lo).toNat:Nat):Int) - ((0:Nat):Int)) 1;rw[e1,e2];exact W3 _ rfl
 ·have e:b=(s.heap.push {cls := .type "range",data := .fields #[.int lo t,.int hi u,.int 1 v]}).objs.size:=by simpa using hb
  subst e;exact I1.fpOk (Vt _) (I1.hok.fresh (Vt _))
def UI(ta:TA):TI:=λσ H R=>ta σ H λvs H1=>∃ j:Int,vs=[.int j] /\ -(2 ^ 62)<=j/\j<2 ^ 62/\R (Itr 0 j.toNat) H1
theorem Ke{a:Expr}{ta:TA}{p pos:Pos}(hg:Gl X "range")(hm:X.mg "range"=none)(ha:PA X [a] ta)(hs:Zc [a] X.env=[(false,eval a X.env)]:=by rfl):PI X tg (.Call (.Name "range" p) [a] [] pos) (UI ta):=by
 intro pq s σ H R I h;refine Call_ (BF I hg hm boot_range (PyProof.Rows.callWith_type1 (thn (ha pos pq s σ H _ I h) λus s1 ⟨vs,H1,I1,r1,q1⟩=>?_) hs rfl));obtain⟨j,e,q1,q2,q⟩:=q1;subst e;cases r1 with
 | cons r rr=>
   cases rr;obtain⟨t,rfl⟩:=r;exact call_range_1 (MF I1 (by omega) (by omega) q1 q2 (by simpa using q))
noncomputable def UJ(wi:TI)(g:TG)(tb:TS):TS:=λD σ H=>wi σ H λJ H1=>∃ W:Nat->Nat->St->Hp->Prop,(∃ m,W 0 m σ H1)/\∀ i m σ H,W i m σ H->
 (J.stop i H/\D.nx σ H)\/(J.go i H/\∃ N:St->Hp->Prop,(∀ σ' H',N σ' H'->∃ m',m'<m/\W (i+1) m' σ' H')/\∀ x H',J.yld i H x H'->g x σ H' λσ2 H2=>tb {D with nx:=N,ct:=N,bk:=D.nx} σ2 H2)
def C8(fp:List ZT)(h:Heap):List (ZT×Obj):=fp.filterMap λb=>(h.get? b).map λo=>(b,o)
theorem BG{fp:List ZT}{h:Heap}{b:ZT}{o:Obj}(hb:b∈fp)(e:h.get? b=some o):(b,o)∈C8 fp h:=Yj.mpr ⟨b,hb,by rw[e];rfl⟩
theorem Kf{fp:List ZT}{h:Heap}{p:ZT×Obj}(hp:p∈C8 fp h):p.1∈fp/\h.get? p.1=some p.2:=by
 obtain⟨b,hb,e⟩:=Yj.mp hp;cases q:h.get? b with
 | none=>rw[q]at e;cases e
 | some o=>
   rw[q]at e;have e':(b,o)=p:=oj e;subst e';exact⟨hb,q⟩
theorem Inv.pinned{pq:List (ZT×Obj)}{σ:St}{H:Hp}{s:ZS}{fp:List ZT}(I:Inv X pq σ H s)(hf:∀ b∈fp,FpOk X pq H b)(ho:∀ b∈fp,∃ o,s.heap.get? b=some o/\∀ v,o.data ≠ .cell v):Inv X (pq++C8 fp s.heap) σ H s:=
 I.pins_of λp hp=>(WM.mp hp).elim (λz=>I.pin p (Wi _ z)) λz=>by
  obtain⟨hb,e⟩:=Kf z;obtain⟨f0,f1,f2,_⟩:=hf p.1 hb;obtain⟨o,e',d⟩:=ho p.1 hb;rw[e]at e';cases e';exact⟨e,f0,f1,f2,d⟩
theorem Inv.unpinned{pq pl:List (ZT×Obj)}{σ:St}{H:Hp}{s:ZS}(I:Inv X (pq++pl) σ H s):Inv X pq σ H s:=I.pins_of λp hp=>I.pin p (Wi _ (XR _ hp))
theorem SC{iter:Expr}{body:List Stmt}{wi:TI}{g:TG}{tb:TS}{pos:Pos}(hp:A16 (ZY X.prog X.w) X.A X.env X.xe)(hc:X.calm=true)(hi:PI X tg iter wi)(hg:PG X tg g)(hb:PSs X body tb)
 (hs:∀ x,A0j iter X.env x=pure x:=by intro _;rfl):PS X (.For tg iter body [] pos) (UJ wi g tb):=by
 intro pq s σ H D I h;refine wpAny_For (thn (hi pq s σ H _ I h) λv s1 h1=>thn h1 λitv s2 h2=>?_) hs;obtain⟨it,fp,tn,J,H2,e,I2,T,st2,f2,W,⟨m0,w0⟩,turn⟩:=h2;subst e;have stat:∀{H':Hp},(∀ b∈fp,H' b=none)->∀ b∈fp,FpOk X pq H' b:=λhn b hb=>⟨hn b hb,(f2 b hb).2⟩
 refine codeAny_forLoop_any (λn s'=>∃ i σ' H',Inv X pq σ' H' s'/\tn i s'.heap/\(∀ b∈fp,H' b=none)/\W i n σ' H') ?_ m0 ⟨0,σ,H2,I2,st2,λb hb=>(f2 b hb).1,w0⟩;rintro n s3 ⟨i,σ3,H3,I3,st3,fr3,w3⟩;rcases turn i n σ3 H3 w3 with⟨stop,qn⟩ | ⟨go,N,hN,step⟩
 ·refine Zy hp (thn (T.done X rfl rfl rfl hc i pq s3 σ3 H3 X.xe I3 (stat fr3) st3 stop) λr s4 ⟨hr,I4⟩=>?_);subst hr;exact A0q ⟨σ3,H3,I4,qn⟩
 ·refine Zy hp (thn (T.item X rfl rfl rfl hc i pq s3 σ3 H3 X.xe I3 (stat fr3) st3 go) λr s4 ⟨u,hr,h4⟩=>?_);subst hr;refine Zy hp (thn h4 λ_ s5 ⟨x,H5,I5,r5,y5,st5,fr5⟩=>?_);have I5':=I5.pinned (stat fr5) (T.obj _ _ st5);refine Zy hp (thn (hg _ s5 σ3 H5 x u _ I5' r5 (step x H5 y5)) λ_ s6 ⟨σ6,H6,I6,q6⟩=>?_);refine Zy hp (thn (hb _ s6 σ6 H6 _ I6 q6) λf s7 q7=>?_)
  have again:∀{σ7:St} {H7:Hp},Inv X (pq++C8 fp s5.heap) σ7 H7 s7->N σ7 H7->∃ m,m<n/\∃ i σ' H',Inv X pq σ' H' s7/\tn i s7.heap/\(∀ b∈fp,H' b=none)/\W i m σ' H':=λ{σ7 H7} I7 n7=>by
   obtain⟨m',hm,w7⟩:=hN σ7 H7 n7;refine⟨m',hm,i+1,σ7,H7,I7.unpinned,T.keep _ _ _ st5 λb hb o e=>(I7.pin (b,o) (Wi _ (Wi _ (BG hb e)))).1,λb hb=>?_,w7⟩;obtain⟨o,e,d⟩:=T.obj _ _ st5 b hb;exact(I7.pin (b,o) (Wi _ (Wi _ (BG hb e)))).2.1
  cases f with
  | next=>obtain⟨σ7,H7,I7,n7⟩:=q7;exact again I7 n7
  | cont=>obtain⟨σ7,H7,I7,n7⟩:=q7;exact again I7 n7
  | brk=>obtain⟨σ7,H7,I7,q7⟩:=q7;exact⟨σ7,H7,I7.unpinned,q7⟩
  | ret v=>obtain⟨x7,σ7,H7,I7,r7,q7⟩:=q7;exact⟨x7,σ7,H7,I7.unpinned,r7,q7⟩
end
abbrev R2:=V->V->Hp->VK->Prop
noncomputable def OpR(X:Cx)(f:ZR->ZR->Sem ZR)(r:R2):Prop:=
 ∀(pq:List (ZT×Obj)) (s:ZS) (σ:St) (H:Hp) (x y:V) (v u:ZR) (Q:VK),Inv X pq σ H s->RelV x v->RelV y u->r x y H Q->
  ZV (ZY X.prog X.w) X.A (f v u) (EP X pq σ Q) X.xe s
noncomputable def UnR(X:Cx)(f:ZR->Sem ZR)(r:V->Hp->VK->Prop):Prop:=
 ∀(pq:List (ZT×Obj)) (s:ZS) (σ:St) (H:Hp) (x:V) (v:ZR) (Q:VK),Inv X pq σ H s->RelV x v->r x H Q->
  ZV (ZY X.prog X.w) X.A (f v) (EP X pq σ Q) X.xe s
noncomputable def CallR(X:Cx)(f:ZR)(r:List V->Hp->VK->Prop):Prop:=
 ∀(pq:List (ZT×Obj)) (s:ZS) (σ:St) (H:Hp) (xs:List V) (us:List ZR) (Q:VK),Inv X pq σ H s->Vals xs us->r xs H Q->
  ZV (ZY X.prog X.w) X.A (call f us) (EP X pq σ Q) X.xe s
noncomputable def VZ(X:Cx)(r:V->Hp->(Bool->Hp->Prop)->Prop):Prop:=
 ∀(pq:List (ZT×Obj)) (s:ZS) (σ:St) (H:Hp) (x:V) (v:ZR) (Q:Bool->Hp->Prop),Inv X pq σ H s->RelV x v->r x H Q->
  ZV (ZY X.prog X.w) X.A (truthy v) (TP X pq σ Q) X.xe s
def tOp(r:R2)(ta tb:TE):TE:=λσ H Q=>ta σ H λx H1=>tb σ H1 λy H2=>r x y H2 Q
def tUn(r:V->Hp->VK->Prop)(ta:TE):TE:=λσ H Q=>ta σ H λx H1=>r x H1 Q
def rI(C:Int->Int->Prop)(g:Int->Int->V):R2:=λx y H Q=>∃ i j,x = .int i/\y = .int j/\C i j/\Q (g i j) H
def rI0(g:Int->Int->V):R2:=λx y H Q=>∃ i j,x = .int i/\y = .int j/\Q (g i j) H
def rU(g:Int->V):V->Hp->VK->Prop:=λx H Q=>∃ i,x = .int i/\Q (g i) H
section
variable{X:Cx}{a b c:Expr}{ta tb tc:TE}{pos:Pos}
theorem SD(ha:PE X a ta)(hb:PE X b tb){pq:List (ZT×Obj)}{s:ZS}{σ:St}{H:Hp}{R:V->V->Hp->Prop}(I:Inv X pq σ H s)
 (h:ta σ H λx H1=>tb σ H1 λy H2=>R x y H2) {Q:ZR->ZS->Prop} {f:ZR->ZR->Sem ZR}
 (hf:∀ v u s2 x y H2,Inv X pq σ H2 s2->RelV x v->RelV y u->R x y H2->ZV (ZY X.prog X.w) X.A (f v u) Q X.xe s2):
 ZV (ZY X.prog X.w) X.A (eval a X.env) (λv s₁=>ZV (ZY X.prog X.w) X.A (eval b X.env) (λu s₂=>ZV (ZY X.prog X.w) X.A (f v u) Q X.xe s₂) X.xe s₁) X.xe s:=by
 refine thn (ha pq s σ H _ I h) λv s1 ⟨x,H1,I1,r1,q1⟩=>?_;refine thn (hb pq s1 σ H1 _ I1 q1) λu s2 ⟨y,H2,I2,r2,q2⟩=>?_;exact hf v u s2 x y H2 I2 r1 r2 q2
theorem UK{op:A06}{r:R2}(ho:OpR X (A0e op) r)(ha:PE X a ta)(hb:PE X b tb):PE X (.BinOp a op b pos) (tOp r ta tb):=by
 intro pq s σ H Q I h;exact wpAny_BinOp (SD ha hb I h λv u s2 x y H2 I2 rx ry q=>ho pq s2 σ H2 x y v u Q I2 rx ry q)
theorem UL{op:UnaryOp}{r:V->Hp->VK->Prop}(ho:UnR X (unaryOp op) r)(ha:PE X a ta):PE X (.UnaryOp op a pos) (tUn r ta):=by
 intro pq s σ H Q I h;exact UnaryOp_ (thn (ha pq s σ H _ I h) λv s1 ⟨x,H1,I1,r1,q1⟩=>ho pq s1 σ H1 x v Q I1 r1 q1)
theorem opI{f:ZR->ZR->Sem ZR}{C:Int->Int->Prop}{g:Int->Int->Int}
 (rule:∀(i j:Int) (t u:Tok) (s:ZS) (Q:ZR->ZS->Prop) (E:ZR->ZS->Prop),C i j->Q (.int (g i j) s.toks) {s with toks:=s.toks+1}->ZV (ZY X.prog X.w) X.A (f (.int i t) (.int j u)) Q E s):
 OpR X f (rI C λi j => .int (g i j)):=by
 intro pq s σ H x y v u Q I rx ry h;obtain⟨i,j,rfl,rfl,hc,q⟩:=h;obtain⟨t,rfl⟩:=rx;obtain⟨t',rfl⟩:=ry;exact rule i j t t' s _ _ hc ⟨.int (g i j),H,I.tok _,⟨_,rfl⟩,q⟩
theorem UM{f:ZR->ZR->Sem ZR}{g:Int->Int->Int}
 (rule:∀(i j:Int) (t u:Tok) (s:ZS) (Q:ZR->ZS->Prop) (E:ZR->ZS->Prop),Q (.int (g i j) s.toks) {s with toks:=s.toks+1}->ZV (ZY X.prog X.w) X.A (f (.int i t) (.int j u)) Q E s):
 OpR X f (rI0 λi j => .int (g i j)):=by
 intro pq s σ H x y v u Q I rx ry h;obtain⟨i,j,rfl,rfl,q⟩:=h;obtain⟨t,rfl⟩:=rx;obtain⟨t',rfl⟩:=ry;exact rule i j t t' s _ _ ⟨.int (g i j),H,I.tok _,⟨_,rfl⟩,q⟩
theorem P4{f:ZR->ZR->Sem ZR}{g:Int->Int->Bool}
 (rule:∀(i j:Int) (t u:Tok) (s:ZS) (Q:ZR->ZS->Prop) (E:ZR->ZS->Prop),Q (.bool (g i j)) s->ZV (ZY X.prog X.w) X.A (f (.int i t) (.int j u)) Q E s):
 OpR X f (rI0 λi j => .bl (g i j)):=by
 intro pq s σ H x y v u Q I rx ry h;obtain⟨i,j,rfl,rfl,q⟩:=h;obtain⟨t,rfl⟩:=rx;obtain⟨t',rfl⟩:=ry;exact rule i j t t' s _ _ ⟨.bl (g i j),H,I,rfl,q⟩
def UN(i j:Int):Prop:=0<j/\j<1073741824
def UO(i j:Int):Prop:=0<=j/\j<=1000000/\i.natAbs<2 ^ 64
def CMul(i j:Int):Prop:=(-(2 ^ 64)<i/\i<2 ^ 64)\/(-(2 ^ 64)<j/\j<2 ^ 64)
theorem CMul.ok{i j:Int}(h:CMul i j):IntMulOk i j:=by
 rcases h with⟨h1,h2⟩ | ⟨h1,h2⟩
 ·exact .of_left (intBits_le_64 h1 h2)
 ·exact .of_right (intBits_le_64 h1 h2)
theorem op_add:OpR X (A0e .Add) (rI0 λi j => .int (i+j)):=UM λ_ _ _ _ _ _ _ q=>add_int q
theorem SE:OpR X (A0e .Sub) (rI0 λi j => .int (i - j)):=UM λ_ _ _ _ _ _ _ q=>sub_int q
theorem op_mul:OpR X (A0e .Mult) (rI CMul λi j => .int (i * j)):=opI λ_ _ _ _ _ _ _ hc q=>mul_int q hc.ok
theorem P5:OpR X (A0e .FloorDiv) (rI UN λi j => .int (i / j)):=opI λi j _ _ _ _ _ hc q=>by
 have h1:(0:Int)<j:=hc.1;have h2:j<1073741824:=hc.2;exact floordiv_int (by omega) (by rw[Int.fdiv_eq_ediv_of_nonneg i (by omega)];exact q) (.inl (PyProof.noPylong_small (by omega)))
theorem SF:OpR X (A0e .Mod) (rI (λ_ j=>0<j) λi j => .int (i % j)):=opI λi j _ _ _ _ _ hc q=>by
 have h1:(0:Int)<j:=hc;exact mod_int' (by omega) (by rw[Int.fmod_eq_emod_of_nonneg i (by omega)];exact q)
theorem SG:OpR X (A0e .Pow) (rI UO λi j => .int (i ^ j.toNat)):=opI λ_ _ _ _ _ _ _ hc q=>pow_int_small hc.1 hc.2.1 hc.2.2 q
theorem unI{f:ZR->Sem ZR}{g:Int->Int}
 (rule:∀(i:Int) (t:Tok) (s:ZS) (Q:ZR->ZS->Prop) (E:ZR->ZS->Prop),Q (.int (g i) s.toks) {s with toks:=s.toks+1}->ZV (ZY X.prog X.w) X.A (f (.int i t)) Q E s):
 UnR X f (rU λi => .int (g i)):=by
 intro pq s σ H x v Q I rx h;obtain⟨i,rfl,q⟩:=h;obtain⟨t,rfl⟩:=rx;exact rule i t s _ _ ⟨.int (g i),H,I.tok _,⟨_,rfl⟩,q⟩
theorem SH:UnR X (unaryOp .USub) (rU λi => .int (-i)):=unI λ_ _ _ _ _ q=>neg_int q
end
def SI:V->V->Bool
 | .non,.non=>true | .non,.int _=>true | .int _,.non=>true | .non,.bl _=>true | .bl _,.non=>true | .non,.str _=>true | .str _,.non=>true
 | .int _,.int _=>true | .bl _,.bl _=>true | .str _,.str _=>true | .byt _,.byt _=>true
 | .int _,.str _=>true | .str _,.int _=>true | .bl _,.str _=>true | .str _,.bl _=>true
 | _,_=>false
def rEq:R2:=λx y H Q=>SI x y=true/\Q (.bl (decide (x=y))) H
def rNe:R2:=λx y H Q=>SI x y=true/\Q (.bl (!decide (x=y))) H
theorem JI{i j:Int}:decide (V.int i=V.int j)=(i == j):=by
 rw[Wd];simp
theorem MG{i j:Bool}:decide (V.bl i=V.bl j)=(i == j):=by
 rw[Wd];simp
theorem JJ{i j:Str}:decide (V.str i=V.str j)=(i == j):=by
 rw[Wd];simp
theorem JK{i j:Array UInt8}:decide (V.byt i=V.byt j)=(i.toList == j.toList):=by
 rw[Wd];cases i;cases j;simp
section
variable{X:Cx}{a b c:Expr}{ta tb tc:TE}{pos:Pos}
theorem m8{pq:List (ZT×Obj)}{σ:St}{H:Hp}{s:ZS}{Q:VK}{k k':Bool}(I:Inv X pq σ H s)(q:Q (.bl k) H)(e:k=k'):EP X pq σ Q (.bool k') s:=by
 subst e;exact⟨.bl k,H,I,rfl,q⟩
theorem op_eq:OpR X (Zg .Eq) rEq:=by
 intro pq s σ H x y v u Q I rx ry h;obtain⟨hs,q⟩:=h;cases x with
 | non=>
   cases rx;cases y with
   | non=>cases ry;exact PySem.EqNone.eq_none_none (m8 I q (by simp))
   | bl j=>cases ry;exact PySem.EqNone.eq_none_bool (m8 I q (by simp))
   | int j=>obtain⟨t',rfl⟩:=ry;exact PySem.EqNone.eq_none_int (m8 I q (by simp))
   | str j=>obtain⟨t',rfl⟩:=ry;exact PySem.EqNone.eq_none_str (m8 I q (by simp))
   | _=>exact absurd (show false=true from hs) Vy
 | bl i=>
   cases rx;cases y with
   | non=>cases ry;exact PySem.EqNone.eq_bool_none (m8 I q (by simp))
   | bl j=>cases ry;exact eq_bool (m8 I q MG)
   | str j=>obtain⟨t',rfl⟩:=ry;exact PySem.EqMixed.eq_bool_str (m8 I q (by simp))
   | _=>exact absurd (show false=true from hs) Vy
 | int i=>
   obtain⟨t,rfl⟩:=rx;cases y with
   | non=>cases ry;exact PySem.EqNone.eq_int_none (m8 I q (by simp))
   | int j=>obtain⟨t',rfl⟩:=ry;exact eq_int (m8 I q JI)
   | str j=>obtain⟨t',rfl⟩:=ry;exact PySem.EqMixed.eq_int_str (m8 I q (by simp))
   | _=>exact absurd (show false=true from hs) Vy
 | str i=>
   obtain⟨t,rfl⟩:=rx;cases y with
   | non=>cases ry;exact PySem.EqNone.eq_str_none (m8 I q (by simp))
   | bl j=>cases ry;exact PySem.EqMixed.eq_str_bool (m8 I q (by simp))
   | int j=>obtain⟨t',rfl⟩:=ry;exact PySem.EqMixed.eq_str_int (m8 I q (by simp))
   | str j=>obtain⟨t',rfl⟩:=ry;exact eq_str (m8 I q JJ)
   | _=>exact absurd (show false=true from hs) Vy
 | byt i=>
   obtain⟨t,rfl⟩:=rx;cases y with
   | byt j=>obtain⟨t',rfl⟩:=ry;exact PySem.W.eq_bytes (m8 I q JK)
   | _=>exact absurd (show false=true from hs) Vy
 | _=>cases y<;>exact absurd (show false=true from hs) Vy
theorem op_ne:OpR X (Zg .NotEq) rNe:=by
 intro pq s σ H x y v u Q I rx ry h;obtain⟨hs,q⟩:=h;cases x with
 | non=>
   cases rx;cases y with
   | non=>cases ry;exact PySem.EqNone.ne_none_none (m8 I q (by simp))
   | bl j=>cases ry;exact PySem.EqNone.ne_none_bool (m8 I q (by simp))
   | int j=>obtain⟨t',rfl⟩:=ry;exact PySem.EqNone.ne_none_int (m8 I q (by simp))
   | str j=>obtain⟨t',rfl⟩:=ry;exact PySem.EqNone.ne_none_str (m8 I q (by simp))
   | _=>exact absurd (show false=true from hs) Vy
 | bl i=>
   cases rx;cases y with
   | non=>cases ry;exact PySem.EqNone.ne_bool_none (m8 I q (by simp))
   | bl j=>cases ry;exact ne_bool (m8 I q (congrArg not MG))
   | str j=>obtain⟨t',rfl⟩:=ry;exact PySem.EqMixed.ne_bool_str (m8 I q (by simp))
   | _=>exact absurd (show false=true from hs) Vy
 | int i=>
   obtain⟨t,rfl⟩:=rx;cases y with
   | non=>cases ry;exact PySem.EqNone.ne_int_none (m8 I q (by simp))
   | int j=>obtain⟨t',rfl⟩:=ry;exact ne_int (m8 I q (congrArg not JI))
   | str j=>obtain⟨t',rfl⟩:=ry;exact PySem.EqMixed.ne_int_str (m8 I q (by simp))
   | _=>exact absurd (show false=true from hs) Vy
 | str i=>
   obtain⟨t,rfl⟩:=rx;cases y with
   | non=>cases ry;exact PySem.EqNone.ne_str_none (m8 I q (by simp))
   | bl j=>cases ry;exact PySem.EqMixed.ne_str_bool (m8 I q (by simp))
   | int j=>obtain⟨t',rfl⟩:=ry;exact PySem.EqMixed.ne_str_int (m8 I q (by simp))
   | str j=>obtain⟨t',rfl⟩:=ry;exact ne_str (m8 I q (congrArg not JJ))
   | _=>exact absurd (show false=true from hs) Vy
 | byt i=>
   obtain⟨t,rfl⟩:=rx;cases y with
   | byt j=>obtain⟨t',rfl⟩:=ry;exact PySem.W.ne_bytes (m8 I q (congrArg not JK))
   | _=>exact absurd (show false=true from hs) Vy
 | _=>cases y<;>exact absurd (show false=true from hs) Vy
theorem UP:OpR X (Zg .Lt) (rI0 λi j => .bl (decide (i<j))):=P4 λ_ _ _ _ _ _ _ q=>lt_int q
theorem UQ:OpR X (Zg .LtE) (rI0 λi j => .bl (decide (i<=j))):=P4 λ_ _ _ _ _ _ _ q=>le_int q
theorem UR:OpR X (Zg .Gt) (rI0 λi j => .bl (decide (j<i))):=P4 λ_ _ _ _ _ _ _ q=>gt_int q
theorem US:OpR X (Zg .GtE) (rI0 λi j => .bl (decide (j<=i))):=P4 λ_ _ _ _ _ _ _ q=>ge_int q
theorem SJ:OpR X (Zg .Is) (λx y H Q=>y = .non/\Q (.bl (decide (x = .non))) H):=by
 intro pq s σ H x y v u Q I rx ry h;obtain⟨rfl,q⟩:=h;cases ry;refine is_none_gen (m8 I q ?_)
 cases x<;>first
  | (cases rx;rfl)
  | (obtain⟨t,rfl⟩:=rx;rfl)
theorem op_notN:OpR X (Zg .IsNot) (λx y H Q=>y = .non/\Q (.bl (!decide (x = .non))) H):=by
 intro pq s σ H x y v u Q I rx ry h;obtain⟨rfl,q⟩:=h;cases ry;refine isnot_none_gen (m8 I q ?_)
 cases x<;>first
  | (cases rx;rfl)
  | (obtain⟨t,rfl⟩:=rx;rfl)
theorem OpR.or{f:ZR->ZR->Sem ZR}{r r':R2}(h:OpR X f r)(h':OpR X f r'):OpR X f (λx y H Q=>r x y H Q\/r' x y H Q):=by
 intro pq s σ H x y v u Q I rx ry q;rcases q with q | q
 ·exact h pq s σ H x y v u Q I rx ry q
 ·exact h' pq s σ H x y v u Q I rx ry q
theorem JL{op:CmpOp}{r:R2}(ho:OpR X (Zg op) r)(ha:PE X a ta)(hb:PE X b tb)(hm:A0V op b=false):PE X (.Compare a [op] [b] pos) (tOp r ta tb):=by
 intro pq s σ H Q I h;exact wpAny_Compare1 (SD ha hb I h λv u s2 x y H2 I2 rx ry q=>ho pq s2 σ H2 x y v u Q I2 rx ry q) hm
def Qy(t:TE):TT:=λσ H Q=>t σ H λx H'=>∃ k,x = .bl k/\Q k H'
theorem JM{op:CmpOp}{r:R2}(ho:OpR X (Zg op) r)(ha:PE X a ta)(hb:PE X b tb)(hm:A0V op b=false):PT X (.Compare a [op] [b] pos) (Qy (tOp r ta tb)):=by
 intro pq s σ H Q I h
 refine wpAny_isTrue_Compare1 (thn (ha pq s σ H _ I h) λv s1 ⟨x,H1,I1,r1,q1⟩=>thn (hb pq s1 σ H1 _ I1 q1) λu s2 ⟨y,H2,I2,r2,q2⟩=>
  thn (ho pq s2 σ H2 x y v u _ I2 r1 r2 q2) λc s3 ⟨z,H3,I3,r3,k,e,q3⟩=>?_) hm
 subst e;cases r3;exact Zh ⟨H3,I3,q3⟩
def Hw(r r':R2)(ta tb tc:TE):TE:=λσ H Q=>ta σ H λx H1=>tb σ H1 λy H2=>r x y H2 λz H3=>∃ k,z = .bl k/\
 (if k=true then tc σ H3 λw' H4=>r' y w' H4 Q else Q (.bl false) H3)
theorem MH{op op':CmpOp}{r r':R2}(ho:OpR X (Zg op) r)(ho':OpR X (Zg op') r')(ha:PE X a ta)(hb:PE X b tb)(hc:PE X c tc)
 (hm:A1o [op,op'] [b,c]=false:=by with_unfolding_all rfl):PE X (.Compare a [op,op'] [b,c] pos) (Hw r r' ta tb tc):=by
 intro pq s σ H Q I h
 refine Compare_chain (thn (ha pq s σ H _ I h) λv s1 ⟨x,H1,I1,r1,q1⟩=>chain_link (thn (hb pq s1 σ H1 _ I1 q1) λu s2 ⟨y,H2,I2,r2,q2⟩=>
  thn (ho pq s2 σ H2 x y v u _ I2 r1 r2 q2) λd s3 ⟨z,H3,I3,r3,k,e,q3⟩=>?_)) hm
 subst e;cases r3;refine Zh ?_;cases k with
 | false=>exact ite_ff ⟨.bl false,H3,I3,rfl,q3⟩
 | true=>exact ite_tt (chain_last (thn (hc pq s3 σ H3 _ I3 q3) λw' s4 ⟨z',H4,I4,r4,q4⟩=>ho' pq s4 σ H4 y z' u w' Q I4 r2 r4 q4))
theorem MI{op op':CmpOp}{r r':R2}(ho:OpR X (Zg op) r)(ho':OpR X (Zg op') r')(ha:PE X a ta)(hb:PE X b tb)(hc:PE X c tc)
 (hm:A1o [op,op'] [b,c]=false:=by with_unfolding_all rfl):PT X (.Compare a [op,op'] [b,c] pos) (Qy (Hw r r' ta tb tc)):=by
 intro pq s σ H Q I h
 refine isTrue_chain (thn (ha pq s σ H _ I h) λv s1 ⟨x,H1,I1,r1,q1⟩=>test_link (thn (hb pq s1 σ H1 _ I1 q1) λu s2 ⟨y,H2,I2,r2,q2⟩=>
  thn (ho pq s2 σ H2 x y v u _ I2 r1 r2 q2) λd s3 ⟨z,H3,I3,r3,k,e,q3⟩=>?_)) hm
 subst e;cases r3;refine Zh ?_;cases k with
 | false=>
   obtain⟨k',e',q'⟩:=q3;cases e';exact ite_ff ⟨H3,I3,q'⟩
 | true=>
   refine ite_tt (test_last (thn (hc pq s3 σ H3 _ I3 q3) λw' s4 ⟨z',H4,I4,r4,q4⟩=>thn (ho' pq s4 σ H4 y z' u w' _ I4 r2 r4 q4) λd' s5 ⟨z2,H5,I5,r5,k2,e2,q5⟩=>?_));subst e2;cases r5;exact Zh ⟨H5,I5,q5⟩
def P6(K:Vl)(x:V)(H:Hp)(k:Bool):Prop:=
 match x with
 | .non=>k=false
 | .bl b=>k=b
 | .int i=>k=(i != 0)
 | .str y=>y.length<=ZW/\k=((y.length:Int) != 0)
 | .byt y=>y.size<=ZW/\k=((y.size:Int) != 0)
 | .ref p=>(∃ xs,SqL K H p xs/\k=!xs.isEmpty)\/(∃ xs,SqT K H p xs/\k=!xs.isEmpty)\/∃ kvs,H p=some (.dK kvs)/\k=!kvs.isEmpty
 | _=>False
theorem Hx{κ:Type}{kvs:List (κ×V)}{vs:List (κ×ZR)}(r:KV kvs vs):(!vs.isEmpty)=!kvs.isEmpty:=by
 cases r<;>rfl
theorem DU{xs:List V}{its:List ZR}(r:Vals xs its):(!its.toArray.isEmpty)=!xs.isEmpty:=by
 cases r<;>simp
theorem C9:(ZW:Nat)<2 ^ 63:=by rw[sizeLine_eq];decide
theorem SK:VZ X (λx H Q=>∃ k,P6 X.K x H k/\Q k H):=by
 intro pq s σ H x v Q I rx h;obtain⟨k,e,q⟩:=h;have hl:=C9;have hs:ZW=16777216:=sizeLine_eq;cases x with
 | non=>
   cases rx;have e':k=false:=e;subst e';exact truthy_none ⟨H,I,q⟩
 | bl b=>
   cases rx;have e':k=b:=e;subst e';exact Zh ⟨H,I,q⟩
 | int i=>
   obtain⟨t,rfl⟩:=rx;have e':k=(i != 0):=e;subst e';exact PySem.P.truthy_int ⟨H,I,q⟩
 | str y=>
   obtain⟨t,rfl⟩:=rx;obtain⟨hy,e'⟩:y.length<=ZW/\k=((y.length:Int) != 0):=e;subst e';exact PySem.P.truthy_str (by omega) ⟨H,I.tok _,q⟩
 | byt y=>
   obtain⟨t,rfl⟩:=rx;obtain⟨hy,e'⟩:y.size<=ZW/\k=((y.size:Int) != 0):=e;subst e';exact PySem.W.truthy_bytes (by omega) ⟨H,I.tok _,q⟩
 | ref p=>
   cases rx;have e':(∃ xs,SqL X.K H p xs/\k=!xs.isEmpty)\/(∃ xs,SqT X.K H p xs/\k=!xs.isEmpty)\/∃ kvs,H p=some (.dK kvs)/\k=!kvs.isEmpty:=e;rcases e' with⟨xs,hx,e'⟩ | ⟨xs,hx,e'⟩ | ⟨kvs,hx,e'⟩
   ·subst e';obtain⟨its,r,pl,hz⟩:=I.list hx;have hlen:=r.length;exact wpAny_truthy_list pl.isList (by simp only[Vw];omega) ⟨H,I.tok _,by rw[DU r];exact q⟩
   ·subst e';obtain⟨its,r,pl,hz⟩:=I.tuple hx;have hlen:=r.length;exact truthy_tuple pl (by simp only[Vw];omega) ⟨H,I.tok _,by rw[DU r];exact q⟩
   ·subst e';obtain⟨hz,hS,vs,r,m⟩:kvs.length<=ZW/\(p == Zo)=false/\∃ vs,KV kvs vs/\s.heap.DictOf (t3 X.prog X.w) p vs:=I.hok p _ hx;have hlen:kvs.length=vs.length:=Paired.length r;exact wpAny_truthy_dict hS m (by omega) ⟨H,I.tok _,by rw[Hx r];exact q⟩
 | _=>exact(show False from e).elim
theorem MJ(ha:PE X a ta)(he:∀ whole,isTrue a X.env whole=(do let v <- whole;standAt a.pos;holding [v] (truthy v))):
 PT X a (λσ H Q=>ta σ H λx H'=>∃ k,P6 X.K x H' k/\Q k H'):=by
 intro pq s σ H Q I h;exact isTrue_plain (thn (ha pq s σ H _ I h) λv s1 ⟨x,H1,I1,r1,q1⟩=>SK pq s1 σ H1 x v Q I1 r1 q1) (he _)
theorem Ad{x:V}{us:List ZR}(r:Vals [x] us):∃ u,us=[u]/\RelV x u:=by
 cases r with
 | cons r1 r2=>cases r2;exact⟨_,rfl,r1⟩
theorem Qz{x y:V}{us:List ZR}(r:Vals [x,y] us):∃ u w',us=[u,w']/\RelV x u/\RelV y w':=by
 cases r with
 | cons r1 r2=>
   cases r2 with
   | cons r3 r4=>cases r4;exact⟨_,_,rfl,r1,r3⟩
theorem MK:CallR X (.builtin "abs") (λxs H Q=>∃ i,xs=[.int i]/\Q (.int (if i<0 then -i else i)) H):=by
 intro pq s σ H xs us Q I r h;obtain⟨i,rfl,q⟩:=h;obtain⟨u,rfl,t,rfl⟩:=Ad r;exact call_abs_int λu tk=>⟨.int (if i<0 then -i else i),H,I.tok _,⟨_,rfl⟩,q⟩
theorem Kg(hc:X.calm=true):CallR X (.builtin "max") (λxs H Q=>∃ i j,xs=[.int i,.int j]/\Q (.int (if j>i then j else i)) H):=by
 intro pq s σ H xs us Q I r h;obtain⟨i,j,rfl,q⟩:=h;obtain⟨u,w',rfl,⟨t,rfl⟩,⟨t',rfl⟩⟩:=Qz r;refine max_two_ints (I.ok.hd hc) λh' tk k=>⟨_,H,I.kept k,?_,q⟩
 by_cases hj:j>i
 ·rw[iP hj,iP hj];exact⟨_,rfl⟩
 ·rw[iG hj,iG hj];exact⟨_,rfl⟩
theorem Kh(hc:X.calm=true):CallR X (.builtin "min") (λxs H Q=>∃ i j,xs=[.int i,.int j]/\Q (.int (if j<i then j else i)) H):=by
 intro pq s σ H xs us Q I r h;obtain⟨i,j,rfl,q⟩:=h;obtain⟨u,w',rfl,⟨t,rfl⟩,⟨t',rfl⟩⟩:=Qz r;refine min_two_ints (I.ok.hd hc) λh' tk k=>⟨_,H,I.kept k,?_,q⟩
 by_cases hj:j<i
 ·rw[iP hj,iP hj];exact⟨_,rfl⟩
 ·rw[iG hj,iG hj];exact⟨_,rfl⟩
theorem Ki:CallR X (.type "int") (λxs H Q=>(∃ i,xs=[.int i]/\Q (.int i) H)\/∃ k,xs=[.bl k]/\Q (.int (if k then 1 else 0)) H):=by
 intro pq s σ H xs us Q I r h;rcases h with⟨i,rfl,q⟩ | ⟨k,rfl,q⟩
 ·obtain⟨u,rfl,t,rfl⟩:=Ad r;exact call_int_int ⟨.int i,H,I,⟨_,rfl⟩,q⟩
 ·obtain⟨u,rfl,r1⟩:=Ad r;cases r1;exact call_int_bool ⟨.int (if k then 1 else 0),H,I.tok _,⟨_,rfl⟩,q⟩
end
structure ObjM(h:Heap)(x dx C:ZT)(mA:Str->Option ZR):Prop where
 obj:h.get? x=some (PySem.W.instObj C dx)
 ns:h.Ns1 dx mA
 ne:dx≠x
theorem Kj{h:Heap}{dx:ZT}{mA:Str->Option ZR}(n:h.Ns1 dx mA):∃ od,h.get? dx=some od/\∀ name,PySem.W.lookIn name od=some (mA name):=by
 obtain⟨o,es,ep,ho,hd,hk,_,hm⟩:=n;refine⟨o,ho,λname=>?_⟩;have e:=hm name;unfold nsFind findBy at e;rw[<-Array.find?_toList]at e;unfold PySem.W.lookIn;rw[hd];dsimp only;split
 ·rename_i y q;rw[q]at e;exact congrArg some e
 ·rename_i q;rw[q]at e
  have a:es.toList.any (·.refKey)=false:=by
   rw[Y5];intro y hy;obtain⟨z,t,hkey⟩:=hk y (Array.mem_toList_iff.mp hy);simp[DictEntry.refKey,hkey]
  have a':¬ es.toList.any (·.refKey)=true:=by rw[a];exact Vy
  rw[iG a'];exact congrArg some e
theorem ObjM.look{h:Heap}{x dx C:ZT}{mA:Str->Option ZR}(I:ObjM h x dx C mA):∃ od,PySem.W.InstAt h x (PySem.W.instObj C dx) C (some od)/\∀ name,PySem.W.lookIn name od=some (mA name):=
 let ⟨od,ho,hl⟩:=Kj I.ns
 ⟨od,⟨I.obj,rfl,rfl,ho⟩,hl⟩
theorem RelO.some_of{v:V}{o:Option ZR}(r:RelO (some v) o):∃ u,o=some u/\RelV v u:=by
 cases o with
 | none=>exact(show False from r).elim
 | some u=>exact⟨u,rfl,r⟩
section
variable{P:ZX}{w:Za}{H H':Hp}{h h':Heap}{a C dx:ZT}{fs fs':List (Str×V)}
theorem JN(hok:HOk P w H h)(e:H a=some (.ins C dx fs)):∃ mA,ObjM h a dx C mA/\(∀ f,RelO (fs.lookup f) (mA f))/\PySem.Within mA (fs.map (·.1))/\fs.length<=1000/\H dx=some (.own a):=by
 obtain⟨d,z,ne,ob,mA,n,r,q⟩:=(show ObjOk P w H h a (.ins C dx fs) from hok a _ e)
 exact⟨mA,⟨ob,n,ne⟩,r,q,z,d⟩
end
structure Cls(K:Vl)(C:ZT):Prop where
 pg:PySem.W.plainGet K C Str.empty=true
 hd:PySem.W.hasDictIn K C=true
 po:PySem.W.plainOver K C=true
 sa:PySem.W.findIn K (.ref C) "__setattr__"=some (some (.builtin "object.__setattr__"))
theorem Cls.get{K:Vl}{C:ZT}(c:Cls K C)(f:Str):PySem.W.plainGet K C f=true:=c.pg
section
variable{X:Cx}{pq:List (ZT×Obj)}{σ:St}{H:Hp}{s:ZS}{A:Ze}{E:ZR->ZS->Prop}{Q:ZR->ZS->Prop}{c:ZR}{b:Bool}
inductive TyOf(K:Vl)(H:Hp):V->ZR->Prop where
 | non:TyOf K H .non (.type "NoneType")
 | bl (x:Bool):TyOf K H (.bl x) (.type "bool")
 | int (i:Int):TyOf K H (.int i) (.type "int")
 | str (x:Str):TyOf K H (.str x) (.type "str")
 | flt (x:UInt64):TyOf K H (.flt x) (.type "float")
 | lst {a:ZT} {xs:List V} (e:H a=some (.lst xs)):TyOf K H (.ref a) (.type "list")
 | frz {a:ZT} {o:Obj} {xs:List V} (e:H a=some (.frz o (.lst xs))):TyOf K H (.ref a) (.type "list")
 | tup {a:ZT} {xs:List V} (e:H a=some (.tup xs)):TyOf K H (.ref a) (.type "tuple")
 | dK {a:ZT} {kvs:List (Key×V)} (e:H a=some (.dK kvs)):TyOf K H (.ref a) (.type "dict")
 | dT {a:ZT} {kvs:List (List Key×V)} (e:H a=some (.dT kvs)):TyOf K H (.ref a) (.type "dict")
 | ins {a C dx:ZT} {fs:List (Str×V)} (e:H a=some (.ins C dx fs)) (cl:Cls K C) (ha:PySem.W.findIn K (.ref C) "__class__"=some (some (.builtin "object.__class__")))
    (hn:PySem.W.specialIn K (.builtin "object.__class__") "__get__"=some (some (.builtin "getset_descriptor.__get__"))) (htk:PySem.W.takesIn K (.builtin "object.__class__")=some true)
    (hm:PySem.W.mroIn K C (.type "object")=some true):TyOf K H (.ref a) (.ref C)
theorem Kk{x:V}{u t:ZR}(I:Inv X pq σ H s)(rx:RelV x u)(ty:TyOf X.K H x t)(e:PySem.W.kitOne X.K t c=some b)(h:∀ tk,Q (.bool b) {s with toks:=tk}):
 ZV (ZY X.prog X.w) A (call (.builtin "isinstance") [u,c]) Q E s:=by
 cases ty with
 | non=>cases(show u=Value.none from rx);exact PySem.W.kia_one PySem.W.kitx_none I.kIn True.intro e (λz=>nomatch z) h
 | bl y=>cases(show u=Value.bool y from rx);exact PySem.W.kia_one PySem.W.kitx_bool I.kIn True.intro e (λz=>nomatch z) h
 | int i=>obtain⟨t,q⟩:=(show ∃ t,u=Value.int i t from rx);cases q;exact PySem.W.kia_one PySem.W.kitx_int I.kIn True.intro e (λz=>nomatch z) h
 | str y=>obtain⟨t,q⟩:=(show ∃ t,u=Value.str y t from rx);cases q;exact PySem.W.kia_one PySem.W.kitx_str I.kIn True.intro e (λz=>nomatch z) h
 | flt y=>obtain⟨t,q⟩:=(show ∃ t,u=Value.float y t from rx);cases q;exact PySem.W.kia_one PySem.W.kitx_float I.kIn True.intro e (λz=>nomatch z) h
 | @lst a xs ea=>
   cases(show u=Value.ref a from rx);obtain⟨_,_,n,_,h1⟩:=(show ObjOk X.prog X.w H s.heap a (.lst xs) from I.hok a _ ea)
   exact PySem.W.kia_one PySem.W.kitx_list I.kIn ⟨_,h1,rfl⟩ e (λz=>nomatch z) h
 | @frz a ob xs ea=>
   cases(show u=Value.ref a from rx);obtain⟨_,_,_,n,_,h1⟩:=(show ObjOk X.prog X.w H s.heap a (.frz ob (.lst xs)) from I.hok a _ ea)
   exact PySem.W.kia_one PySem.W.kitx_list I.kIn ⟨_,h1,rfl⟩ e (λz=>nomatch z) h
 | @tup a xs ea=>
   cases(show u=Value.ref a from rx);obtain⟨_,_,_,p⟩:=(show ObjOk X.prog X.w H s.heap a (.tup xs) from I.hok a _ ea)
   obtain⟨o,h1,h2,_⟩:=p;exact PySem.W.kia_one PySem.W.kitx_tuple I.kIn ⟨o,h1,h2⟩ e (λz=>nomatch z) h
 | @dK a kvs ea=>
   cases(show u=Value.ref a from rx);obtain⟨_,_,vs,_,p⟩:=(show ObjOk X.prog X.w H s.heap a (.dK kvs) from I.hok a _ ea)
   obtain⟨o,es,ep,h1,h2,_⟩:=p;exact PySem.W.kia_one PySem.W.kitx_dict I.kIn ⟨o,h1,h2.1⟩ e (λz=>nomatch z) h
 | @dT a kvs ea=>
   cases(show u=Value.ref a from rx);obtain⟨_,_,xs,_,o,es,ep,h1,h2,_⟩:=(show ObjOk X.prog X.w H s.heap a (.dT kvs) from I.hok a _ ea)
   exact PySem.W.kia_one PySem.W.kitx_dict I.kIn ⟨o,h1,h2.1⟩ e (λz=>nomatch z) h
 | @ins a C dx fs ea cl ha hn htk hm=>
   cases(show u=Value.ref a from rx);obtain⟨mA,O,_⟩:=JN I.hok ea;obtain⟨od,J,_⟩:=O.look;exact PySem.W.kia_one (PySem.W.kitx_own (cl.get _) cl.hd ha hn htk hm) I.kIn J e (λz=>nomatch z) h
end
structure Room(k:Nat)(A:Ze):Prop where
 hd:A.handled=none
 dp:A.depth+3 * k+5<A1h
 un:A.units+16 * k+200<cLine
 gd:A.guards=some []
theorem Room.deeper{k:Nat}{A:Ze}(r:Room (k+1) A)(env:Env):Room k (A.deeper env):=
 ⟨r.hd,by have:=r.dp;show A.depth+1+3 * k+5<_;omega,by have:=r.un;show A.units+3+16 * k+200<_;omega,r.gd⟩
theorem Room.depth{k:Nat}{A:Ze}(r:Room k A):A.depth<A1h:=by have:=r.dp;omega
def P7:TA:=λ_ H Q=>Q [] H
def DV(ta:TE)(tr:TA):TA:=λσ H Q=>ta σ H λx H1=>tr σ H1 λxs H2=>Q (x::xs) H2
section
variable{X:Cx}{e:Expr}{es:List Expr}{te:TE}{t:TA}{pos:Pos}
theorem BH:PA X [] P7:=λ_ _ _ _ H Q I h=>Calls.spliced_nil ⟨[],H,I,.nil,h⟩
theorem AH(ha:PE X e te)(hr:PA X es t)(hs:Zc (e::es) X.env=(false,eval e X.env)::Zc es X.env:=by rfl):PA X (e::es) (DV te t):=by
 intro pos pq s σ H Q I h;rw[hs];show ZV _ _ (spliced ((false,eval e X.env)::backTo pos (Zc es X.env))) _ _ s;refine Calls.spliced_cons (thn (ha pq s σ H _ I h) λu s1 ⟨x,H1,I1,r1,q1⟩=>?_);exact thn (hr pos pq s1 σ H1 _ I1 q1) λus s2 ⟨xs,H2,I2,r2,q2⟩=>⟨x::xs,H2,I2,.cons r1 r2,q2⟩
def UT(t:TA):TE:=λσ H Q=>t σ H λxs H1=>xs.length<=ZW/\∀ p,H1 p=none->Q (.ref p) (upd H1 p (.tup xs))
def UU(t:TA):TE:=λσ H Q=>t σ H λxs H1=>xs.length<=ZW/\∀ p,H1 p=none->Q (.ref p) (upd H1 p (.lst xs))
theorem SL{x1}(h:PA X es t):PE X (.Tuple es x1 pos) (UT t):=by
 intro pq s σ H Q I hq;refine wpAny_Tuple_spliced (thn (h pos pq s σ H _ I hq) λus s1 ⟨xs,H1,I1,r,z,q⟩=>⟨by rw[<-r.length];exact z,?_⟩);have hf:H1 s1.heap.objs.size=none:=I1.hok.fresh (Vt _);refine⟨.ref s1.heap.objs.size,upd H1 s1.heap.objs.size (.tup xs),I1.laid (t':=s1.toks) (λb u e=>Vs _ e) (Vt _) ?_,rfl,q _ hf⟩;exact⟨z,us,r,⟨_,W3 _ rfl,rfl,_,rfl⟩⟩
theorem SM(h:PA X es t):PE X (.List es pos) (UU t):=by
 intro pq s σ H Q I hq;refine wpAny_List_spliced (thn (h pos pq s σ H _ I hq) λus s1 ⟨xs,H1,I1,r,z,q⟩=>⟨by rw[<-r.length];exact z,?_⟩);have hf:H1 s1.heap.objs.size=none:=I1.hok.fresh (Vt _);refine⟨.ref s1.heap.objs.size,upd H1 s1.heap.objs.size (.lst xs),I1.laid (t':=s1.toks) (λb u e=>Vs _ e) (Vt _) ?_,rfl,q _ hf⟩;exact⟨z,us,0,r,W3 _ rfl⟩
end
abbrev Sp:=List V->Hp->VK->XK->Prop
abbrev CXT:=List Env->Hp->ZS->XK->ZR->ZS->Prop
structure Env0(P:ZX)(w:Za)(K:Vl)(mg:Str->Option ZR)(base:Heap)(A:Ze)(outer:List Env)(s:ZS)(H:Hp):Prop where
 frames:A.frames=some outer
 mod:Mod K mg base
 bs:∀ b o,base.get? b=some o->s.heap.get? b=some o/\H b=none
 bsz:base.objs.size<=s.heap.objs.size
 funs:s.heap.FunFrames base outer
 frf:∀ b∈frs outer,H b=none
 hok:HOk P w H s.heap
 bare:AllBare s.gens
noncomputable def CE(outer:List Env)(P:ZX)(w:Za)(H:Hp)(s:ZS)(Q:VK)(u:ZR)(s':ZS):Prop:=
 ∃ v H',s'.os=s.os/\AllBare s'.gens/\Un (frs outer) [] H H' s.heap s'.heap/\HOk P w H' s'.heap/\RelV v u/\Q v H'
noncomputable def CR(CX:CXT)(outer:List Env)(P:ZX)(w:Za)(H:Hp)(s:ZS)(Q:VK)(E:XK)(r:Result)(s':ZS):Prop:=
 match r with
 | .ok (.ret u)=>CE outer P w H s Q u s'
 | .ok _=>False
 | .error e=>CX outer H s E e s'
structure FnOk(P:ZX)(w:Za)(K:Vl)(mg:Str->Option ZR)(base:Heap)(CX:CXT)(k:Nat)(f:ZT)(fd:A07)(ps:List Str)(sp:Sp):Prop where
 len:∀ vs H Q E,sp vs H Q E->vs.length=ps.length
 run:∀(A:Ze) (outer:List Env) (s:ZS) (H:Hp) (args:Args) (us:List ZR) (vs:List V) (Q:VK) (E:XK),Room k A->Env0 P w K mg base A outer s H->BindsTo s fd args (ps.zip us)->Vals vs us->sp vs H Q E->
  codeAny (ZY P w) A (.call (.ref f) args) (CR CX outer P w H s Q E) s
section
variable{X:Cx}{pq:List (ZT×Obj)}{σ:St}{H:Hp}{s s':ZS}
theorem Inv.env0(I:Inv X pq σ H s):Env0 X.prog X.w X.K X.mg X.base X.A X.stack s H:=
 ⟨I.ok.frames,I.ok.mod,I.bs,WH I.ok.bsz I.sz,I.stack,I.stkFree,I.hok,I.bare⟩
theorem Inv.after{Q:VK}{u:ZR}(I:Inv X pq σ H s)(h:CE X.stack X.prog X.w H s Q u s'):EP X pq σ Q u s':=by
 obtain⟨v,H',os,bare,un,hok,r,q⟩:=h;obtain⟨hh,g,d,t,os'⟩:=s';obtain rfl:os'=s.os:=os;exact⟨v,H',I.call (h':=hh) (g':=g) (d':=d) (t':=t) (ch:=[]) un hok bare (λb z=>absurd z (by simp)),r,q⟩
end
def R0(sp:Sp)(dvs:List V)(E:XK)(t:TA):TE:=λσ H Q=>t σ H λvs H1=>sp (vs++dvs) H1 Q E
def Binds(K:Vl)(fd:A07)(ps:List Str)(ds:List ZR):Prop:=
 ∀(s:ZS) (us:List ZR),K.In s.heap->(us++ds).length=ps.length->BindsTo s fd ⟨us,[]⟩ (ps.zip (us++ds))
theorem Binds.all{K:Vl}{fd:A07}{ps:List Str}(h:∀ us:List ZR,us.length=ps.length->bindArgs fd ⟨us,[]⟩=pure (ps.zip us)):Binds K fd ps []:=λs us _ hl=>by
 rw[Wl]at hl ⊢;exact .of_eq (h us hl)
def Hy(CX:CXT)(X:Cx)(E:XK):Prop:=∀(pq:List (ZT×Obj)) (σ:St) (H:Hp) (s:ZS) (e:ZR) (s':ZS),Inv X pq σ H s->CX X.stack H s E e s'->X.xe e s'
section
variable{X:Cx}{CX:CXT}{k:Nat}{f C:ZT}{fd:A07}{ps:List Str}{sp:Sp}{dvs:List V}{ds:List ZR}{E:XK}{x m:Str}{p pos apos:Pos}{e o:Expr}{es:List Expr}{ta:TE}{t:TA}
theorem SN{pq:List (ZT×Obj)}{σ:St}{H:Hp}{s:ZS}{Q:VK}{us:List ZR}{vs:List V}(F:FnOk X.prog X.w X.K X.mg X.base CX k f fd ps sp)(hr:Room k X.A)(hb:Binds X.K fd ps ds)(hd:Vals dvs ds)(hx:Hy CX X E)
 (I:Inv X pq σ H s) (r:Vals vs us) (h:sp (vs++dvs) H Q E):ZV (ZY X.prog X.w) X.A (call (.ref f) us) (EP X pq σ Q) X.xe s:=by
 have r2:Vals (vs++dvs) (us++ds):=r.append hd;have hl:(us++ds).length=ps.length:=by rw[<-r2.length];exact F.len _ _ _ _ h
 refine wpAny_call (A12 (F.run X.A X.stack s H ⟨us,[]⟩ (us++ds) (vs++dvs) Q E hr I.env0 (hb s us I.kIn hl) r2 h) λr s' hq=>?_);cases r with
 | error e=>exact hx pq σ H s e s' I hq
 | ok fl=>
   cases fl with
   | ret u=>exact I.after hq
   | next=>exact False.elim hq
   | brk=>exact False.elim hq
   | cont=>exact False.elim hq
theorem P8(F:FnOk X.prog X.w X.K X.mg X.base CX k f fd ps sp)(hr:Room k X.A)(hg:Gl X x)(hm:X.mg x=some (.ref f))(hk:PySem.W.keepIn X.K (.ref f)=true)(hb:Binds X.K fd ps ds)(hd:Vals dvs ds)(hx:Hy CX X E)
 (ha:PA X (e::es) t) (hdb:(x == ("__debug__":Str))=false:=by decide) (he:Zc (e::es) X.env=(false,eval e X.env)::Zc es X.env:=by rfl) (hpl:(backTo pos (Zc es X.env)).any (·.1)=false:=by rfl):
 PE X (.Call (.Name x p) (e::es) [] pos) (R0 sp dvs E t):=by
 intro pq s σ H Q I h;refine A04 (Ot I hg hm ?_ hdb);refine PySem.W.callWith_K (h₀:=X.base) I.ok.mod.kin hk (thn (ha pos pq s σ H _ I h) λus s1 ⟨vs,H1,I1,r,q⟩=>⟨I1.kIn,?_⟩) he hpl;exact SN F hr hb hd hx I1 r q
end
noncomputable def PK(X:Cx)(kws:List Keyword)(t:TA):Prop:=
 ∀(pos:Pos) (pq:List (ZT×Obj)) (s:ZS) (σ:St) (H:Hp) (Q:List V->Hp->Prop),Inv X pq σ H s->t σ H Q->ZV (ZY X.prog X.w) X.A (evalAll ((A0u pos (A0c kws X.env)).map (·.2))) (AP X pq σ Q) X.xe s
section
variable{X:Cx}{CX:CXT}{k:Nat}{f C:ZT}{fd:A07}{ps ks:List Str}{sp:Sp}{E:XK}{x m:Str}{p pos apos kpos:Pos}{e o:Expr}{es:List Expr}{kws:List Keyword}{te ta:TE}{t tk:TA}{nm:Option Str}
theorem ML:PK X [] P7:=λ_ _ _ _ H Q I h=>wpAny_evalAll_nil ⟨[],H,I,.nil,h⟩
theorem JO(ha:PE X e te)(hr:PK X kws t):PK X (⟨nm,e,kpos⟩::kws) (DV te t):=by
 intro pos pq s σ H Q I h;show ZV _ _ (evalAll ((do let v <- eval e X.env;standAt pos;pure v)::(A0u pos (A0c kws X.env)).map (·.2))) _ _ s;refine wpAny_evalAll_cons (ZQ (thn (ha pq s σ H _ I h) λu s1 ⟨x,H1,I1,r1,q1⟩=>ZQ (A0p (ZU ?_))));exact thn (hr pos pq s1 σ H1 _ I1 q1) λus s2 ⟨xs,H2,I2,r2,q2⟩=>⟨x::xs,H2,I2,.cons r1 r2,q2⟩
variable{g:List ZR->List ZR->List ZR}{gV:List V->List V->List V}
end
structure FnScope(N P:List Str)(sc:Zf):Prop where
 kind:sc.kind = .function
 co:sc.isCoroutine=false
 gen:sc.isGenerator=false
 nd:N.Nodup
 pre:N.take P.length=P
 par:∀ x∈P,sc.names.lookup x=some .local\/sc.names.lookup x=some .cell
 nofree:∀ y∈sc.names,y.2 ≠ .free
theorem EX{kindOf:Str->Option Zs}{x:Str}:∀{binds:List (Str×ZR)} {m:Str->Option ZR},(∀ v,(x,v)∉binds)->bindL kindOf binds m x=m x
 | [],_,_=>rfl
 | (n,v)::r,m,h=>by
   unfold bindL;rw[EX λw hw=>h w (Vz _ hw)];split
   ·have:x≠n:=by rintro rfl;exact h v W7
    simp[this]
   ·rfl
theorem EY{kindOf:Str->Option Zs}{x:Str}:∀{binds:List (Str×ZR)} {m:Str->Option ZR},(∀ v,(x,v)∉binds)->bindC kindOf binds m x=m x
 | [],_,_=>rfl
 | (n,v)::r,m,h=>by
   unfold bindC;rw[EY λw hw=>h w (Vz _ hw)];split
   ·rfl
   ·have:x≠n:=by rintro rfl;exact h v W7
    simp[this]
theorem EZ{kindOf:Str->Option Zs}{x:Str}{v:ZR}:∀{P:List Str} {vs:List ZR} {i:Nat} {m:Str->Option ZR},P.Nodup->P[i]?=some x->vs[i]?=some v->kindOf x=some .local->
 bindL kindOf (P.zip vs) m x=some v
 | [],_,_,_,_,h,_,_=>by simp at h
 | _::_,[],_,_,_,_,h,_=>by simp at h
 | p::P,w::vs,0,m,nd,h1,h2,hk=>by
   simp at h1 h2;subst h1;subst h2;show bindL kindOf ((p,w)::P.zip vs) m p=_;unfold bindL;rw[EX λv hv=>(Wo.mp nd).1 (XO hv).1,iP hk];simp
 | p::P,w::vs,i+1,m,nd,h1,h2,hk=>by
   show bindL kindOf ((p,w)::P.zip vs) m x=_;unfold bindL;exact EZ (i:=i) (Wo.mp nd).2 (by simpa using h1) (by simpa using h2) hk
theorem Ea{kindOf:Str->Option Zs}{x:Str}{v:ZR}:∀{P:List Str} {vs:List ZR} {i:Nat} {m:Str->Option ZR},P.Nodup->P[i]?=some x->vs[i]?=some v->kindOf x≠some .local->
 bindC kindOf (P.zip vs) m x=some v
 | [],_,_,_,_,h,_,_=>by simp at h
 | _::_,[],_,_,_,_,h,_=>by simp at h
 | p::P,w::vs,0,m,nd,h1,h2,hk=>by
   simp at h1 h2;subst h1;subst h2;show bindC kindOf ((p,w)::P.zip vs) m p=_;unfold bindC;rw[EY λv hv=>(Wo.mp nd).1 (XO hv).1,iG hk];simp
 | p::P,w::vs,i+1,m,nd,h1,h2,hk=>by
   show bindC kindOf ((p,w)::P.zip vs) m x=_;unfold bindC;exact Ea (i:=i) (Wo.mp nd).2 (by simpa using h1) (by simpa using h2) hk
def start(N:List Str)(vs:List V):St:=vs.map some++Vx (N.length - vs.length) none
noncomputable def Hz(CX:CXT)(P:ZX)(w:Za)(K:Vl)(mg:Str->Option ZR)(base:Heap)(N:List Str)(qual:Str)(scope:Zf)(f:ZT)(cd:ZR)(A:Ze)(outer:List Env)(s:ZS)(H:Hp)(E:XK):Cx where
 prog:=P
 w:=w
 K:=K
 mg:=mg
 base:=base
 A:=A.deeper (envOfC qual scope s.heap.objs.size f cd)
 N:=N
 s₀:=s
 H₀:=H
 env:=envOfC qual scope s.heap.objs.size f cd
 outer:=outer
 stack:=envOfC qual scope s.heap.objs.size f cd::outer
 ex:=[]
 calm:=true
 fn:=λ_=>true
 pn:=[]
 xe:=λe s'=>ZV (ZY P w) (A.deeper (envOfC qual scope s.heap.objs.size f cd)) (leaving (envOfC qual scope s.heap.objs.size f cd) e) (λ_ s''=>CX outer H s E e s'') (λe' s''=>CX outer H s E e' s'') s'
theorem GG{sc:Zf}{n:Nat}{x:Str}(h:sc.names.lookup x=some .cell):∃ c,(Zu n sc.names []).lookup x=some c:=by
 have q:=PySem.W.cellsFrom_some sc.names n [] (.inl h);exact XF.mp q
theorem Kl{CX:CXT}{P:ZX}{w:Za}{K:Vl}{mg:Str->Option ZR}{base:Heap}{N ps:List Str}{qual:Str}{scope:Zf}{f:ZT}{cd:ZR}{A:Ze}{outer:List Env}{s s1:ZS}{H:Hp}{E:XK}{us:List ZR}{vs:List V}
 (S:FnScope N ps scope) (hd:A.handled=none) (e0:Env0 P w K mg base A outer s H) (hl:vs.length=ps.length) (r:Vals vs us)
 (x:InCallC s s.heap.objs.size (bindL (envOfC qual scope s.heap.objs.size f cd).kindOf (ps.zip us) λ_=>none) (Zu (s.heap.objs.size+1) scope.names []) (bindC (envOfC qual scope s.heap.objs.size f cd).kindOf (ps.zip us) λ_=>none) s1):
 Inv (Hz CX P w K mg base N qual scope f cd A outer s H E) [] (start N vs) H s1:=by
 have hpl:ps.length<=N.length:=by have:=congrArg Y6 S.pre;rw[Wp]at this;omega
 obtain⟨h1,tk,rfl,hk⟩:=x.done;have noA:∀ b:ZT,b∉(Hz CX P w K mg base N qual scope f cd A outer s H E).ex:=λb z=>absurd (show b∈([]:List ZT) from z) (by simp)
 refine⟨⟨e0.mod,S.kind,rfl,rfl,Vt _,λy z c h1 h2=>?_,λy hy=>?_,λy c _ h=>?_,λ_=>hd,Around.frames_deeper e0.frames,.inr ⟨rfl,rfl⟩,λb z=>absurd z (noA b),e0.bs,e0.bsz,λb _ _=>noA b,λb z=>absurd z (noA b),e0.funs,e0.frf⟩,
  rfl,e0.bare,Un.kept hk,⟨_,x.toInCall.ns,λi y v h1 h2 h3=>?_⟩,λy c h=>⟨_,x.cell y c h⟩,e0.hok.fresh (Vt _),λy c h=>?_,λp hp=>absurd (show p∈([]:List (ZT×Obj)) from hp) (by simp),e0.hok.kept hk,?_⟩
 ·exact name_of_addr x.apart (PySem.mem_of_lookup h1) (PySem.mem_of_lookup h2)
 ·have hy:scope.names.lookup y=some .cell\/scope.names.lookup y=some .free:=hy;rcases hy with hy | hy
  ·exact GG hy
  ·exact absurd rfl (S.nofree _ (PySem.mem_of_lookup hy))
 ·exact YM (x.above y c (PySem.mem_of_lookup h))
 ·have hi:i<vs.length:=by
   unfold start at h2;by_cases hi:i<vs.length
   ·exact hi
   ·rw[We (by simpa using hi)]at h2;rw[X5]at h2;split at h2<;>cases h2
  have ha:vs[i]?=some v:=by
   unfold start at h2;rw[W6 (by simpa using hi),Vu]at h2;cases e:vs[i]? with
   | none=>rw[e]at h2;cases h2
   | some a=>rw[e]at h2;cases h2;rfl
  obtain⟨u,hu,rv⟩:=r.get ha
  have hp:ps[i]?=some y:=by
   rw[<-S.pre,List.getElem?_take_of_lt (by omega)];exact h1
  have ndP:ps.Nodup:=by rw[<-S.pre];exact S.nd.sublist (List.take_sublist _ _)
  refine⟨u,rv,?_⟩;rcases S.par y (Vp hp) with k | k
  ·exact .inl ⟨k,EZ ndP hp hu k⟩
  ·obtain⟨c,e⟩:=GG (n:=s.heap.objs.size+1) k;refine .inr ⟨.inl k,c,e,?_⟩;have q:=x.cell y c e;rw[Ea ndP hp hu (by show scope.names.lookup y≠_;rw[k];decide)]at q;exact q
 ·exact e0.hok.fresh (YM (x.above y c (PySem.mem_of_lookup h)))
 ·unfold start;show _=N.length;rw[Vo,Vm,Wj];omega
theorem UV{CX:CXT}{P:ZX}{w:Za}{K:Vl}{mg:Str->Option ZR}{base:Heap}{k:Nat}{f:ZT}{name qual:Str}{params:Arguments}{body:List Stmt}{scope:Zf}{dV kV doc pm cdv ct oc:ZR}{an od:Option ZT}
 {osl:Array (Option ZR)} {N ps:List Str} {sp:Sp} (lk:K.lookup f=some ⟨oc,od,.func (PySem.W.fnOf name qual params body scope dV kV doc pm an cdv ct),osl⟩) (hcd:PySem.W.codeIn K cdv qual=true) (S:FnScope N ps scope)
 (len:∀ vs H Q E,sp vs H Q E->vs.length=ps.length)
 (hbody:∀(A:Ze) (outer:List Env) (s:ZS) (H:Hp) (vs:List V) (Q:VK) (E:XK),Room k (A.deeper (envOfC qual scope s.heap.objs.size f cdv))->sp vs H Q E->
   ∃ t,PSs (Hz CX P w K mg base N qual scope f cdv A outer s H E) body t/\t {nx:=λ_ H'=>Q .non H',rt:=Q} (start N vs) H):
 FnOk P w K mg base CX (k+1) f (PySem.W.fnOf name qual params body scope dV kV doc pm an cdv ct) ps sp:=by
 refine⟨len,λA outer s H args us vs Q E hr e0 hb r hsp=>?_⟩;have hl:=len _ _ _ _ hsp;have KX:K.In s.heap:=e0.mod.kin.keeps λb o e=>(e0.bs b o e).1;have lim:s.heap.NoLimit:=e0.mod.nolimit.keeps λb o e=>(e0.bs b o e).1
 have hkind:∀ y∈ps.zip us,scope.names.lookup y.1=some .local\/(scope.names.lookup y.1=some .cell/\((Zu (s.heap.objs.size+1) scope.names []).lookup y.1).isSome=true):=λ⟨n,v⟩ hy=>by
  rcases S.par n (XO hy).1 with q | q
  ·exact .inl q
  ·exact .inr ⟨q,PySem.W.cellsFrom_some _ _ _ (.inl q)⟩
 refine codeAny_call_function hr.depth (KX _ _ lk) rfl S.co S.gen rfl (PySem.W.codeRec_of KX hcd) (hb _ _ _ _ ?_);refine wpAny_newFunctionEnv_cells S.kind hkind λenv he s1 x=>?_;subst he;refine⟨lim.keeps x.toInCall.keep,codeAny_func ?_⟩;obtain⟨t,ht,hq⟩:=hbody A outer s H vs Q E (hr.deeper _) hsp;have I:Inv (Hz CX P w K mg base N qual scope f cdv A outer s H E) [] (start N vs) H s1:=Kl S hr.hd e0 hl r x;refine Zv (ht [] s1 (start N vs) H _ I hq) (λfl s' hs=>?_) λe s' hs=>hs
 have fin:∀{σ':St} {H':Hp} {v:V} {u:ZR},Inv (Hz CX P w K mg base N qual scope f cdv A outer s H E) [] σ' H' s'->RelV v u->Q v H'->CE outer P w H s Q u s':=
  λ{σ' H' v u} J rv q=>⟨v,H',J.os,J.bare,J.base,J.hok,rv,q⟩
 cases fl with
 | ret u=>
   obtain⟨v,σ',H',J,rv,q⟩:=hs;exact fin J rv q
 | next=>
   obtain⟨σ',H',J,q⟩:=hs;exact fin (v:=V.non) (u:=Value.none) J rfl q
 | brk=>
   obtain⟨_,_,_,q⟩:=hs;exact False.elim q
 | cont=>
   obtain⟨_,_,_,q⟩:=hs;exact False.elim q
section
variable{X:Cx}{x:Str}{p pos:Pos}{e:Expr}{es:List Expr}{t:TA}{id T:String}{r:List V->Hp->VK->Prop}
def tCB(r:List V->Hp->VK->Prop)(t:TA):TE:=λσ H Q=>t σ H λvs H1=>r vs H1 Q
theorem w4(hc:CallR X (.builtin id) r)(hg:Gl X x)(hm:X.mg x=none)(hv:Zb x=some (.builtin id))(ha:PA X (e::es) t)(hn:x≠"__name__":=by decide)(hdb:(x == ("__debug__":Str))=false:=by decide)
 (he:Zc (e::es) X.env=(false,eval e X.env)::Zc es X.env:=by rfl) (hpl:(backTo pos (Zc es X.env)).any (·.1)=false:=by rfl):PE X (.Call (.Name x p) (e::es) [] pos) (tCB r t):=by
 intro pq s σ H Q I h;refine A04 (BF I hg hm hv ?_ hn hdb);exact PyProof.Rows.callWith_builtin1 (thn (ha pos pq s σ H _ I h) λus s1 ⟨vs,H1,I1,r1,q1⟩=>hc pq s1 σ H1 vs us Q I1 r1 q1) he hpl
theorem Bu(hc:CallR X (.type T) r)(hg:Gl X x)(hm:X.mg x=none)(hv:Zb x=some (.type T))(ha:PA X (e::es) t)(hn:x≠"__name__":=by decide)(hdb:(x == ("__debug__":Str))=false:=by decide)
 (he:Zc (e::es) X.env=(false,eval e X.env)::Zc es X.env:=by rfl) (hpl:(backTo pos (Zc es X.env)).any (·.1)=false:=by rfl):PE X (.Call (.Name x p) (e::es) [] pos) (tCB r t):=by
 intro pq s σ H Q I h;refine A04 (BF I hg hm hv ?_ hn hdb);exact PyProof.Rows.callWith_type1 (thn (ha pos pq s σ H _ I h) λus s1 ⟨vs,H1,I1,r1,q1⟩=>hc pq s1 σ H1 vs us Q I1 r1 q1) he hpl
end
end L2
namespace HT
open PySem PyProof.Rows
def lexLt:List Int->List Int->Bool
 | [],[]=>false
 | [],_::_=>true
 | _::_,[]=>false
 | x::xs,y::ys=>if x=y then lexLt xs ys else decide (x<y)
theorem I0(x y:Int)(xs ys:List Int):lexLt (x::xs) (y::ys)=if x=y then lexLt xs ys else decide (x<y):=rfl
theorem EI:lexLt [] []=false:=rfl
theorem DW(y:Int)(ys:List Int):lexLt [] (y::ys)=true:=rfl
theorem DX(x:Int)(xs:List Int):lexLt (x::xs) []=false:=rfl
theorem MM(A:Ze)(s:ZS)(a:Int)(t:Tok)(c:Int)(u:Tok):∃ e,SeqAt.EqAt A s (.int a t) (.int c u) e/\(e=true↔a=c):=
 ⟨(a == c),SeqAt.EqAt.int_int a t c u,by simp⟩
theorem rcLt_int(A:Ze)(s:ZS)(a:Int)(t:Tok)(c:Int)(u:Tok)(prog:ZX)(w:Za)(E:ZR->ZS->Prop)(Q:ZR->ZS->Prop)(h:Q (.bool (decide (a<c))) s):
 ZV (ZY prog w) A (A03 .Lt (.int a t) (.int c u)) Q E s:=
 (PyProof.Rows.lt_int h:ZV (ZY prog w) A (Zg .Lt (.int a t) (.int c u)) Q E s)
section
open PySem.SeqAt
open PySem.AutoSeq1 (wpAny_loadPart')
open PySem.MeetsSeq PySem.MeetsSeq2 PySem.MeetsSeq3
theorem EJ(l b:ZT)(items items2:Array ZR)(n n2:Nat)(dd dd2:Option ZT)(sl sl2:Array (Option ZR))(ns ms:List Int)(hi:IntsAre items.toList ns)(hj:IntsAre items2.toList ms):
 Meets (Builtin.«tuple.__lt__» ⟨[.ref l,.ref b],[]⟩)
  (λ_ R s=>s.heap.get? l=some {cls := .type "tuple",dict:=dd,data := .seq items n,slots:=sl}/\s.heap.get? b=some {cls := .type "tuple",dict:=dd2,data := .seq items2 n2,slots:=sl2}/\
    R (.ok (.ret (.bool (lexLt ns ms)))) s):=
 .of_wp λprog w A R s h=>by
  obtain⟨hp,g,d,tk,os⟩:=s;obtain⟨hl,hb,h⟩:=h;have f2:=AutoSeq1.sub_tuple_tuple;have z1:items.size=ns.length:=by rw[<-hi.length];simp
  have z2:items2.size=ms.length:=by rw[<-hj.length];simp
  wp_walk using wpAny_loadPart' hl,wpAny_loadPart' hb,wpAny_forIn_list _ (λrest b s'=>b.1=none/\s'=⟨hp,g,d,tk,os⟩/\∃(vs ws:List ZR) (ns' ms':List Int),rest=vs.zip ws/\
   IntsAre vs ns'/\IntsAre ws ms'/\ns'.length+items2.size=ms'.length+items.size/\R (.ok (.ret (.bool (lexLt ns' ms')))) ⟨hp,g,d,tk,os⟩) _
  case turn=>
   rintro⟨y,x⟩ rest b s' ⟨hb',rfl,vs,ws,ns',ms',hz,hvi,hwi,hlen,hR⟩;cases hvi with
   | nil=>rw[List.zip_nil_left]at hz;cases hz
   | cons a t hvi'=>
     cases hwi with
     | nil=>rw[List.zip_nil_right]at hz;cases hz
     | cons c u hwi'=>
       rw[Yk]at hz;injection hz with hyx hrest;injection hyx with hy hx;subst hy hx;rw[I0]at hR;simp only[WG]at hlen;obtain⟨e,he,hiff⟩:=MM A.in1 ⟨hp,g,d,tk,os⟩ a t c u;refine ZQ (he prog w _ _ ?_);cases e with
       | true=>
         rw[iP (hiff.mp rfl)]at hR
         wp_walk
         exact⟨rfl,rfl,_,_,_,_,hrest,hvi',hwi',by omega,hR⟩
       | false=>
         rw[iG (λq=>absurd (hiff.mpr q) Vy)]at hR;have hri:=rcLt_int A.in1 ⟨hp,g,d,tk,os⟩ a t c u prog w
         wp_walk using hri
         exact⟨_,rfl,by simpa using hR⟩
  case fin=>
   rintro⟨b1,b2⟩ s' ⟨hb',rfl,vs,ws,ns',ms',hz,hvi,hwi,hlen,hR⟩;simp only at hb';subst hb'
   have hv:lexLt ns' ms'=decide (items.size<items2.size):=by
    cases hvi with
    | nil=>
      cases hwi with
      | nil=>
        simp only[Wv]at hlen;rw[EI];exact(decide_eq_false (by omega)).symm
      | cons c u hw=>
        simp only[Wv,WG]at hlen;rw[DW];exact(decide_eq_true (by omega)).symm
    | cons a t hv=>
      cases hwi with
      | nil=>
        simp only[Wv,WG]at hlen;rw[DX];exact(decide_eq_false (by omega)).symm
      | cons c u hw=>
        rw[Yk]at hz;cases hz
   rw[hv]at hR
   wp_walk
   exact⟨_,rfl,by simpa[Builtin.Tuple.tupleCompareSizes] using hR⟩
  case h=>
   exact⟨rfl,rfl,items.toList,items2.toList,ns,ms,rfl,hi,hj,by omega,h⟩
end
section
variable{prog:ZX}{w:Za}{A:Ze}{E:ZR->ZS->Prop}{s:ZS}
theorem lt_tupInts{l b:ZT}{items items2:Array ZR}{ns ms:List Int}{Q:ZR->ZS->Prop}(hl:IsTup s.heap l items)(hb:IsTup s.heap b items2)(hi:IntsAre items.toList ns)(hj:IntsAre items2.toList ms)
 (hu:A.units<cLine) (h:Q (.bool (lexLt ns ms)) s):ZV (ZY prog w) A (Zg .Lt (.ref l) (.ref b)) Q E s:=by
 obtain⟨⟨cls,dd,data,sl⟩,ho,hc,n,hd⟩:=id hl;obtain⟨⟨cls2,dd2,data2,sl2⟩,ho2,hc2,n2,hd2⟩:=id hb;simp only at hc hd hc2 hd2;subst hc hd hc2 hd2
 exact richCompare_meets_room (op := .Lt) ⟨_,ho,rfl⟩ ⟨_,ho2,rfl⟩ PySem.F.slot_tuple_lt PySem.F.entry_tuple_lt (PySem.F.args_tuple_lt_2 _ _) (EJ l b items items2 n n2 dd dd2 sl sl2 ns ms hi hj)
  ⟨ho,ho2,show Value.bool (lexLt ns ms)≠Value.notImplemented/\Q (.bool (lexLt ns ms)) s from ⟨(λx=>nomatch x),h⟩⟩ hu
def sIx(n d:Nat):Option Int->Nat
 | none=>d
 | some v=>if v<0 then (v+(n:Int)).toNat else min v.toNat n
theorem SQ(n d:Nat)(hd:d<=n)(o:Option Int):sIx n d o<=n:=by
 cases o with
 | none=>exact hd
 | some v=>
   show(if v<0 then (v+(n:Int)).toNat else min v.toNat n)<=n;by_cases hv:v<0
   ·rw[iP hv];omega
   ·rw[iG hv];exact Nat.min_le_right _ _
theorem JP(v:Int)(n d:Nat):(if v<0 then max (v+(n:Int)) 0 else min v (n:Int))=((sIx n d (some v):Nat):Int):=by
 show(if v<0 then max (v+(n:Int)) 0 else min v (n:Int))=(((if v<0 then (v+(n:Int)).toNat else min v.toNat n):Nat):Int)
 by_cases hv:v<0
 ·simp only[iP hv];omega
 ·simp only[iG hv];omega
theorem IA(lo hi:Option Int)(n:Nat):Builtin.Slice.sliceAdjust lo hi 1 (n:Int)=(((sIx n 0 lo:Nat):Int),((sIx n n hi:Nat):Int)):=by
 have h1:¬ ((1:Int)<0):=by omega
 unfold Builtin.Slice.sliceAdjust;simp only[h1,if_false];refine Prod.ext ?_ ?_
 ·cases lo with
  | none=>rfl
  | some v=>exact JP v n 0
 ·cases hi with
  | none=>rfl
  | some v=>exact JP v n n
theorem IB(i j:Nat):Builtin.Slice.slicePlaces (i:Int) (j:Int) 1=j - i:=by
 unfold Builtin.Slice.slicePlaces;have h1:(1:Int)>0:=by omega
 simp only[h1,if_true,Int.ediv_one];split<;>omega
theorem DY{v:ZR}{o:Option Int}{Q:Option Int->ZS->Prop}(p:IsPart v o)(h:Q o s):ZV (ZY prog w) A (Builtin.Slice.slicePartIndex v) Q E s:=by
 cases p with
 | none=>exact A1i h
 | int i t=>exact slicePart_int h
theorem B5{sl:ZT}{vl vu:ZR}{lo hi:Option Int}{n:Nat}{Q:Int×Int×Nat->ZS->Prop}(hs:s.heap.IsSliceOf sl vl vu .none)(pl:IsPart vl lo)(pu:IsPart vu hi)
 (h:Q (((sIx n 0 lo:Nat):Int),1,sIx n n hi - sIx n 0 lo) s):ZV (ZY prog w) A (Builtin.Slice.sliceApplied (.ref sl) (pure (n:Int))) Q E s:=by
 obtain⟨os,hos,hcs,hds⟩:=id hs;unfold Builtin.Slice.sliceApplied Builtin.Slice.sliceFields;refine ZQ (ZQ (Zk hos hds (x:=vl) rfl (ZQ (Zk hos hds (x:=vu) rfl (ZQ (Zk hos hds (x := .none) rfl (ZU ?_)))))));refine ZQ (A1i ?_);show ZV _ _ (if ((1:Int) == 0)=true then _ else _) _ _ s;rw[iG (by decide)];refine ZQ (DY pl (ZQ (DY pu (ZQ (ZU ?_)))));show ZV _ _ (match Builtin.Slice.sliceAdjust lo hi 1 (n:Int) with | (lo,hi)=>pure (lo,(1:Int),Builtin.Slice.slicePlaces lo hi 1)) _ _ s;rw[IA lo hi n];show ZV _ _ (pure (((sIx n 0 lo:Nat):Int),(1:Int),Builtin.Slice.slicePlaces ((sIx n 0 lo:Nat):Int) ((sIx n n hi:Nat):Int) 1)) _ _ s;rw[IB];exact ZU h
theorem MN(xs:Array ZR)(i k:Nat):((W4 k).filterMap λ(m:Nat)=>xs[((i:Int)+(m:Int) * 1).toNat]?).toArray=((xs.toList.drop i).take k).toArray:=by
 have e:(λ(m:Nat)=>xs[((i:Int)+(m:Int) * 1).toNat]?)=λm=>xs[i+m]?:=by
  funext m
  have:((i:Int)+(m:Int) * 1).toNat=i+m:=by omega
  rw[this]
 rw[e];have:=pick_run xs i k;rw[List.filterMap_map]at this;have e2:((λx=>xs[x]?)∘λx=>i+x)=λm=>xs[i+m]?:=rfl;rw[e2]at this;rw[this]
theorem getItem_tuple_cut{t sl:ZT}{items:Array ZR}{vl vu:ZR}{lo hi:Option Int}{Q:ZR->ZS->Prop}(ht:IsTup s.heap t items)(hs:s.heap.IsSliceOf sl vl vu .none)(pl:IsPart vl lo)(pu:IsPart vu hi)
 (hw:¬ (sIx items.size 0 lo=0/\sIx items.size items.size hi=items.size))
 (h:Q (.ref s.heap.objs.size) {s with heap:=s.heap.push {cls := .type "tuple",data := .seq ((items.toList.drop (sIx items.size 0 lo)).take (sIx items.size items.size hi - sIx items.size 0 lo)).toArray}})
 (hsz:items.size<=ZW):ZV (ZY prog w) A (getItem (.ref t) (.ref sl)) Q E s:=by
 have htake:sizeOk (.seq ((items.toList.drop (sIx items.size 0 lo)).take (sIx items.size items.size hi - sIx items.size 0 lo)).toArray):=by
  show((items.toList.drop (sIx items.size 0 lo)).take (sIx items.size items.size hi - sIx items.size 0 lo)).toArray.size<=ZW;rw[Vw,Wp,XY,XX];omega
 have hj:sIx items.size items.size hi<=items.size:=SQ _ _ (Vt _) hi;obtain⟨os,hos,hcs,hds⟩:=id hs;have hTs:s.TypeIs (.ref sl) "slice":=⟨os,hos,hcs⟩
 unfold getItem
 try with_reducible refine Zn ?_
 first | refine ZQ (ZU ?_) | skip
 refine ZQ (A13 ht.typeIs (by decide) ?_)
 refine ZQ (Zi (name:=Str.ofString "__getitem__") ht.typeIs PyProof.Rows.slot_tuple_getitem
  (Zm PyProof.Rows.slot_tuple_getitem ht.typeIs A0T ?_ (A0Z _ _)))
 show ZV _ _ (Builtin.Tuple.tupleItemsOf (.ref t) >>= _) _ _ s;refine ZQ (tupleItemsOf_ ht ?_);refine ZQ (A14 hTs ?_);rw[iP (by decide)];refine ZQ (B5 hs pl pu ?_)
 have hno:¬ ((((sIx items.size 0 lo:Nat):Int) == 0&&(1:Int) == 1&&(sIx items.size items.size hi - sIx items.size 0 lo) == items.size)=true):=by
  intro q;rw[Vn,Vn]at q;have q1:((sIx items.size 0 lo:Nat):Int)=0:=eq_of_beq q.1.1;have q2:sIx items.size items.size hi - sIx items.size 0 lo=items.size:=eq_of_beq q.2;exact hw ⟨by omega,by omega⟩
 show ZV _ _ (if (((sIx items.size 0 lo:Nat):Int) == 0&&(1:Int) == 1&&(sIx items.size items.size hi - sIx items.size 0 lo) == items.size)=true then _ else _) _ _ s;rw[iG hno,MN]
 first
  | exact ZQ (m:=Builtin.Tuple.tupleExact _) (Zd (ZU ⟨_,rfl,ZU h⟩) htake)
  | exact ZQ (m:=Builtin.Tuple.tupleExact _) (Zd (ZQ (ZU (ZU ⟨_,rfl,ZU h⟩))) htake)
  | exact ZQ (ZQ (m:=Builtin.Tuple.tupleExact _) (Zd (ZU (ZU ⟨_,rfl,ZU h⟩)) htake))
  | exact ZQ (ZQ (m:=Builtin.Tuple.tupleExact _) (Zd (ZU ⟨_,rfl,ZU h⟩) htake))
end
end HT
namespace L2
open PySem PySem.Spec PyProof.Rows
abbrev TO:=St->Hp->(Option Int->Hp->Prop)->Prop
noncomputable def PO(X:Cx)(e:Option Expr)(t:TO):Prop:=
 ∀(pq:List (ZT×Obj)) (s:ZS) (σ:St) (H:Hp) (Q:Option Int->Hp->Prop),Inv X pq σ H s->t σ H Q->
  ZV (ZY X.prog X.w) X.A (evalPart e X.env) (λu s'=>∃ o H',Inv X pq σ H' s'/\IsPart u o/\Q o H') X.xe s
def P9:TO:=λ_ H Q=>Q none H
def UW(t:TE):TO:=λσ H Q=>t σ H λx H1=>∃ i,x = .int i/\Q (some i) H1
section
variable{X:Cx}{e:Expr}{te:TE}{lo hi:Option Expr}{tl th:TO}{pos p2:Pos}
theorem PB:PO X none P9:=by
 intro pq s σ H Q I h;rw[evalPart_none];exact ZU ⟨none,H,I,.none,h⟩
theorem PC(h:PE X e te):PO X (some e) (UW te):=by
 intro pq s σ H Q I hw;rw[evalPart_some];refine thn (h pq s σ H _ I hw) λu s1 ⟨x,H1,I1,r1,q1⟩=>?_;obtain⟨i,rfl,q⟩:=q1;obtain⟨t,rfl⟩:=r1;exact⟨some i,H1,I1,.int i t,q⟩
noncomputable def SlR(X:Cx)(r:V->Option Int->Option Int->Hp->VK->Prop):Prop:=
 ∀(pq:List (ZT×Obj)) (s:ZS) (σ:St) (H:Hp) (x:V) (v vl vu:ZR) (lo hi:Option Int) (sl:ZT) (Q:VK),Inv X pq σ H s->RelV x v->s.heap.IsSliceOf sl vl vu .none->IsPart vl lo->IsPart vu hi->r x lo hi H Q->
  ∃ T id,typeLookup (.type T) "__getitem__"=pure (some (.builtin id))/\s.TypeIs v T/\ZV (ZY X.prog X.w) X.A (getItem v (.ref sl)) (EP X pq σ Q) X.xe s
theorem SlR.or{r r':V->Option Int->Option Int->Hp->VK->Prop}(h:SlR X r)(h':SlR X r'):SlR X (λx lo hi H Q=>r x lo hi H Q\/r' x lo hi H Q):=by
 intro pq s σ H x v vl vu lo hi sl Q I rx hs pl pu q;rcases q with q | q
 ·exact h pq s σ H x v vl vu lo hi sl Q I rx hs pl pu q
 ·exact h' pq s σ H x v vl vu lo hi sl Q I rx hs pl pu q
def tSl(r:V->Option Int->Option Int->Hp->VK->Prop)(te:TE)(tl th:TO):TE:=λσ H Q=>te σ H λx H1=>tl σ H1 λl H2=>th σ H2 λu H3=>r x l u H3 Q
theorem MO{r:V->Option Int->Option Int->Hp->VK->Prop}(hr:SlR X r)(he:PE X e te)(hl:PO X lo tl)(hu:PO X hi th):PE X (.Subscript e (.Slice lo hi none p2) pos) (tSl r te tl th):=by
 intro pq s σ H Q I h;refine A1j (thn (he pq s σ H _ I h) λv s1 ⟨x,H1,I1,r1,q1⟩=>?_);refine wpAny_Slice (thn (hl pq s1 σ H1 _ I1 q1) λvl s2 ⟨l,H2,I2,pl,q2⟩=>thn (hu pq s2 σ H2 _ I2 q2) λvu s3 ⟨u,H3,I3,pu,q3⟩=>?_);rw[evalPart_none];refine ZU ?_;have I4:Inv X pq σ H3 {s3 with heap:=s3.heap.push {cls := .type "slice",data := .fields #[vl,vu,.none]}}:=I3.kept (t':=s3.toks) λb ob q=>Vs _ q;obtain⟨T,id,hT,ht,hg⟩:=hr pq {s3 with heap:=s3.heap.push {cls := .type "slice",data := .fields #[vl,vu,.none]}} σ H3 x v vl vu l u s3.heap.objs.size Q I4 r1 (Heap.IsSliceOf.new ..) pl pu q3;show ZV (ZY X.prog X.w) X.A (A0W e (.Slice lo hi none p2) v (.ref s3.heap.objs.size)) (EP X pq σ Q) X.xe {s3 with heap:=s3.heap.push {cls := .type "slice",data := .fields #[vl,vu,.none]}};exact tail_any (ops:=[.ref s3.heap.objs.size,v]) ht hT hg (by with_unfolding_all rfl)
def GH(xs:List V)(lo hi:Option Int):List V:=(xs.drop (HT.sIx xs.length 0 lo)).take (HT.sIx xs.length xs.length hi - HT.sIx xs.length 0 lo)
theorem D7(xs:List V)(lo hi:Option Int):(GH xs lo hi).length<=xs.length:=by
 unfold GH;rw[Wp,XY];omega
def UX(K:Vl):V->Option Int->Option Int->Hp->VK->Prop:=λx lo hi H Q=>∃ a xs,x = .ref a/\SqT K H a xs/\
 ¬ (HT.sIx xs.length 0 lo=0/\HT.sIx xs.length xs.length hi=xs.length)/\∀ p,H p=none->Q (.ref p) (upd H p (.tup (GH xs lo hi)))
theorem sl_tup:SlR X (UX X.K):=by
 intro pq s σ H x v vl vu lo hi sl Q I rx hs pl pu h;obtain⟨a,xs,rfl,hx,hw,q⟩:=h;cases rx;obtain⟨its,r,ht,hz⟩:=I.tuple hx;have hlen:its.toArray.size=xs.length:=by rw[Vw];exact r.length.symm
 refine⟨"tuple",_,PyProof.Rows.slot_tuple_getitem.lookup,ht.typeIs,?_⟩;refine HT.getItem_tuple_cut ht hs pl pu (by rw[hlen];exact hw) ?_ (by rw[hlen];exact hz);rw[hlen];refine⟨.ref s.heap.objs.size,_,I.laid (t':=s.toks) (o := .tup (GH xs lo hi)) (λb ob q=>Vs _ q) (Vt _) ?_,rfl,q _ (I.hok.fresh (Vt _))⟩;exact⟨WH (D7 xs lo hi) hz,_,(r.drop (HT.sIx xs.length 0 lo)).take (HT.sIx xs.length xs.length hi - HT.sIx xs.length 0 lo),IsTup.new _ _⟩
end
def ixN(n:Nat)(i:Int):Option Nat:=if 0<=i then (if i<n then some i.toNat else none) else if -(n:Int)<=i then some (i+n).toNat else none
def atI{α:Type}(xs:List α)(i:Int):Option α:=(ixN xs.length i).bind λj=>xs[j]?
theorem JQ{n:Nat}{i:Int}{j:Nat}(h:ixN n i=some j):seqIndex? i n=some j/\j<n /\ -(n:Int)<=i/\i<n:=by
 unfold ixN at h;by_cases h0:0<=i
 ·rw[iP h0]at h;by_cases h1:i<n
  ·rw[iP h1]at h;have e:i.toNat=j:=oj h;exact⟨by rw[A1b h0 h1,e],by omega,by omega,h1⟩
  ·rw[iG h1]at h;cases h
 ·rw[iG h0]at h;by_cases h1:-(n:Int)<=i
  ·rw[iP h1]at h;have e:(i+n).toNat=j:=oj h;exact⟨by rw[A15 (by omega) h1,e],by omega,h1,by omega⟩
  ·rw[iG h1]at h;cases h
theorem JR{α:Type}{xs:List α}{i:Int}{v:α}(h:atI xs i=some v):∃ j,seqIndex? i xs.length=some j/\xs[j]?=some v/\j<xs.length /\ -(xs.length:Int)<=i/\i<xs.length:=by
 unfold atI at h;cases e:ixN xs.length i with
 | none=>rw[e]at h;cases h
 | some j=>
   rw[e]at h;obtain⟨h1,h2,h3,h4⟩:=JQ e;exact⟨j,h1,h,h2,h3,h4⟩
theorem i6{α:Type}{xs:List α}{j:Nat}{v:α}(h:xs[j]?=some v):atI xs (j:Int)=some v:=by
 have hj:j<xs.length:=(gM h).1
 have e:ixN xs.length (j:Int)=some j:=by
  unfold ixN;rw[iP (by omega),iP (by omega)];simp
 unfold atI;rw[e];exact h
theorem GI{α:Type}(xs:List α)(v:α):atI (xs++[v]) (-1)=some v:=by
 have hl:(xs++[v]).length=xs.length+1:=by simp
 have e:ixN (xs++[v]).length (-1)=some xs.length:=by
  unfold ixN;rw[hl,iG (by decide),iP (by omega)]
  congr 1
  omega
 unfold atI;rw[e];show(xs++[v])[xs.length]?=some v;simp
def JS(b:Expr):Prop:=∀ o i,A0P b false o i=operate [o,i] (getItem o i)
noncomputable def IxR(X:Cx)(r:R2):Prop:=
 ∀(value slice:Expr) (pq:List (ZT×Obj)) (s:ZS) (σ:St) (H:Hp) (x y:V) (v u:ZR) (Q:VK),Inv X pq σ H s->RelV x v->RelV y u->r x y H Q->
  A0P slice false v u=operate [v,u] (getItem v u)->ZV (ZY X.prog X.w) X.A (A0W value slice v u) (EP X pq σ Q) X.xe s
noncomputable def MtR(X:Cx)(id:String)(r:V->List V->Hp->VK->Prop):Prop:=
 ∀(pq:List (ZT×Obj)) (s:ZS) (σ:St) (H:Hp) (x:V) (xs:List V) (v:ZR) (us:List ZR) (Q:VK),Inv X pq σ H s->RelV x v->Vals xs us->r x xs H Q->
  ZV (ZY X.prog X.w) X.A (call (.builtin id) (v::us)) (EP X pq σ Q) X.xe s
section
variable{X:Cx}{a b:Expr}{ta tb:TE}{pos:Pos}
theorem IxR.or{r r':R2}(h:IxR X r)(h':IxR X r'):IxR X (λx y H Q=>r x y H Q\/r' x y H Q):=by
 intro value slice pq s σ H x y v u Q I rx ry q hs;rcases q with q | q
 ·exact h value slice pq s σ H x y v u Q I rx ry q hs
 ·exact h' value slice pq s σ H x y v u Q I rx ry q hs
theorem UY{r:R2}(hr:IxR X r)(ha:PE X a ta)(hb:PE X b tb)(hs:JS b):PE X (.Subscript a b pos) (tOp r ta tb):=by
 intro pq s σ H Q I h;exact A1j (SD ha hb I h λv u s2 x y H2 I2 rx ry q=>hr a b pq s2 σ H2 x y v u Q I2 rx ry q (hs _ _))
def UZ(K:Vl):R2:=λx y H Q=>∃ p xs i v,x = .ref p/\y = .int i/\SqL K H p xs/\atI xs i=some v/\Q v H
def Ua(K:Vl):R2:=λx y H Q=>∃ p xs i v,x = .ref p/\y = .int i/\SqT K H p xs/\atI xs i=some v/\Q v H
theorem ix_list:IxR X (UZ X.K):=by
 intro value slice pq s σ H x y v u Q I rx ry h hs;obtain⟨p,xs,i,z,rfl,rfl,hq,he,q⟩:=h;cases rx;obtain⟨t,rfl⟩:=ry;obtain⟨its,r,pl,hz⟩:=I.list hq;obtain⟨j,h1,h2,h3,h4,h5⟩:=JR he;obtain⟨w,ew,rw'⟩:=r.get h2;have hl:=r.length;have hn:=C9;have fin:EP X pq σ Q w s:=⟨z,H,I,rw',q⟩
 by_cases h0:0<=i
 ·have hj:i.toNat=j:=by
   rw[A1b h0 h5]at h1;exact oj h1
  exact item_listR pl.isList h0 (by omega) (by rw[hj];simpa using ew) fin hs
 ·have hj:(i+(its.toArray.size:Int)).toNat=j:=by
   rw[A15 (by omega) h4]at h1;rw[Vw,<-hl];exact oj h1
  exact A0J (x:=w) pl.isList.typeIs slot_list_getitem.lookup
   (wpAny_getItem_list_neg (Q:=λr s'=>r=w/\EP X pq σ Q r s') pl.isList (by omega) (by rw[Vw]<;>omega) (by omega) (by rw[hj];simpa using ew) ⟨rfl,fin⟩) hs
theorem SR:IxR X (Ua X.K):=by
 intro value slice pq s σ H x y v u Q I rx ry h hs;obtain⟨p,xs,i,z,rfl,rfl,hq,he,q⟩:=h;cases rx;obtain⟨t,rfl⟩:=ry;obtain⟨its,r,pl,hz⟩:=I.tuple hq;obtain⟨j,h1,h2,h3,h4,h5⟩:=JR he;obtain⟨w,ew,rw'⟩:=r.get h2;have hl:=r.length;have hn:=C9;have fin:EP X pq σ Q w s:=⟨z,H,I,rw',q⟩
 exact A0J (x:=w) pl.typeIs slot_tuple_getitem.lookup
  (getItem_tuple (j:=j) (Q:=λr s'=>r=w/\EP X pq σ Q r s') pl (by omega) (by omega) (by rw[Vw,<-hl];exact h1) (by simpa using ew) ⟨rfl,fin⟩) hs
theorem IC(its:List ZR)(n j:Nat)(u:ZR):Obj.mapSeq (·.setIfInBounds j u) {cls := .type "list",data := .seq its.toArray n}={cls := .type "list",data := .seq (its.set j u).toArray n}:=by
 simp[Obj.mapSeq]
theorem Inv.lst{pq:List (ZT×Obj)}{σ:St}{H:Hp}{s:ZS}{p:ZT}{xs:List V}(I:Inv X pq σ H s)(h:H p=some (.lst xs)):
 ∃(its:List ZR) (n:Nat),Vals xs its/\s.heap.get? p=some {cls := .type "list",data := .seq its.toArray n}/\xs.length<=ZW:=by
 obtain⟨z,its,n,r,e⟩:=I.hok p _ h;exact⟨its,n,r,e,z⟩
theorem Inv.lstUpd{pq:List (ZT×Obj)}{σ:St}{H:Hp}{s:ZS}{p:ZT}{xs ys:List V}{its its':List ZR}{n n':Nat}{f:Obj->Obj}(I:Inv X pq σ H s)(h:H p=some (.lst xs))
 (ho:s.heap.get? p=some {cls := .type "list",data := .seq its.toArray n}) (hf:f {cls := .type "list",data := .seq its.toArray n}={cls := .type "list",data := .seq its'.toArray n'}) (r:Vals ys its') (hz:ys.length<=ZW) (t:Nat):
 Inv X pq σ (upd H p (.lst ys)) {s with heap:=s.heap.update p f,toks:=t}:=by
 have e:(s.heap.update p f).get? p=some {cls := .type "list",data := .seq its'.toArray n'}:=by
  rw[Wr f ho (by rw[hf]<;>rfl),hf]
 refine I.write (x:=p) (e:=p) (by rw[h];trivial) (.inl rfl) (λb u hb q=>(Wq _ _ (Ne.symm hb)).trans q) ⟨_,e⟩ ?_;exact⟨hz,its',n',r,e⟩
def Eb:V->V->V->Hp->(Hp->Prop)->Prop:=λo i v H Q=>∃ p xs k j,o = .ref p/\i = .int k/\H p=some (.lst xs)/\ixN xs.length k=some j/\Q (upd H p (.lst (xs.set j v)))
theorem CP:Ry X Eb:=by
 intro pq s σ H o i v ov iv u Q I ro ri rv h;obtain⟨p,xs,k,j,rfl,rfl,hp,hj,q⟩:=h;cases ro;obtain⟨t,rfl⟩:=ri;obtain⟨its,n,r,ho,hz⟩:=I.lst hp;obtain⟨h1,h2,h3,h4⟩:=JQ hj;have hl:=r.length;have hn:=C9
 have I':Inv X pq σ (upd H p (.lst (xs.set j v))) {s with heap:=s.heap.update p (Obj.mapSeq (·.setIfInBounds j u))}:=
  I.lstUpd hp ho (IC its n j u) (r.set rv j) (by rw[Wa];exact hz) s.toks
 by_cases h0:0<=k
 ·have hk:k.toNat=j:=by
   rw[A1b h0 h4]at h1;exact oj h1
  exact PySem.W.ki_setAt ho h0 (by omega) (by rw[Vw,<-hl];exact h4) (by rw[hk];exact⟨_,I',q⟩)
 ·have hk:(k+(its.toArray.size:Int)).toNat=j:=by
   rw[A15 (by omega) h3]at h1;rw[Vw,<-hl];exact oj h1
  exact PySem.W.ki_setBack ho (by omega) (by rw[Vw,<-hl];exact h3) (by omega) (by rw[hk];exact⟨_,I',q⟩)
theorem FA(lo hi:Option Int)(n:Nat):(A0i lo hi none n).1=((HT.sIx n 0 lo:Nat):Int)/\(A0i lo hi none n).2.1=((HT.sIx n n hi:Nat):Int)/\(A0i lo hi none n).2.2=1:=by
 refine⟨?_,?_,rfl⟩
 ·cases lo with
  | none=>simp[A0i,HT.sIx]
  | some i=>
    simp only[A0i,HT.sIx,Yw,show(1:Int)>0 by decide,if_true];by_cases h:i<0
    ·simp only[h,if_true]<;>omega
    ·simp only[h,if_false]<;>omega
 ·cases hi with
  | none=>simp[A0i,HT.sIx]
  | some i=>
    simp only[A0i,HT.sIx,Yw,show(1:Int)>0 by decide,if_true];by_cases h:i<0
    ·simp only[h,if_true]<;>omega
    ·simp only[h,if_false]<;>omega
theorem EK(its:List ZR)(lo hi:Option Int):slicePick its.toArray lo hi none=((its.drop (HT.sIx its.length 0 lo)).take (HT.sIx its.length its.length hi - HT.sIx its.length 0 lo)).toArray:=by
 obtain⟨h1,h2,h3⟩:=FA lo hi its.toArray.size;unfold slicePick;rw[h1,h2,h3];simp only[sliceRange_one,pick_run,Vw]<;>rfl
def Ub(K:Vl):V->Option Int->Option Int->Hp->VK->Prop:=λx lo hi H Q=>∃ a xs,x = .ref a/\SqL K H a xs/\∀ p,H p=none->Q (.ref p) (upd H p (.lst (GH xs lo hi)))
theorem sl_list:SlR X (Ub X.K):=by
 intro pq s σ H x v vl vu lo hi sl Q I rx hs pl pu h;obtain⟨a,xs,rfl,hx,q⟩:=h;cases rx;obtain⟨its,r,ht,hz⟩:=I.list hx;have hlen:=r.length;refine⟨"list",_,slot_list_getitem.lookup,ht.isList.typeIs,?_⟩;refine wpAny_getItem_list_slice ht.isList hs pl pu .none (by simp) ?_ (by rw[Vw]<;>omega);rw[EK,<-hlen];refine⟨.ref s.heap.objs.size,_,I.laid (t':=s.toks) (o := .lst (GH xs lo hi)) (λb ob q=>Vs _ q) (Vt _) ?_,rfl,q _ (I.hok.fresh (Vt _))⟩;exact⟨WH (D7 xs lo hi) hz,_,0,(r.drop (HT.sIx xs.length 0 lo)).take (HT.sIx xs.length xs.length hi - HT.sIx xs.length 0 lo),W3 _ rfl⟩
def AQ:V->Bool
 | .non=>true
 | .bl _=>true
 | .int _=>true
 | .str _=>true
 | _=>false
def eqV:V->V->Bool
 | .non,.non=>true
 | .bl a,.bl b=>a == b
 | .bl a,.int b=>(if a then 1 else 0) == b
 | .int a,.bl b=>a == (if b then 1 else 0)
 | .int a,.int b=>a == b
 | .str a,.str b=>a == b
 | _,_=>false
theorem MP{A:Ze}{s:ZS}{y x:V}{u v:ZR}(ry:RelV y u)(rx:RelV x v)(fy:AQ y=true)(fx:AQ x=true):SeqAt.EqAt A s u v (eqV y x):=by
 cases y with
 | non=>
   cases ry;cases x with
   | non=>cases rx;exact SeqAt.EqAt.same _
   | bl b=>cases rx;exact SeqAt.EqAt.none_bool b
   | int b=>obtain⟨t,rfl⟩:=rx;exact SeqAt.EqAt.none_int b t
   | str b=>obtain⟨t,rfl⟩:=rx;exact SeqAt.EqAt.none_str b t
   | _=>exact absurd (show false=true from fx) Vy
 | bl a=>
   cases ry;cases x with
   | non=>cases rx;exact SeqAt.EqAt.bool_none a
   | bl b=>cases rx;exact SeqAt.EqAt.bool_bool a b
   | int b=>obtain⟨t,rfl⟩:=rx;exact SeqAt.EqAt.bool_int a b t
   | str b=>obtain⟨t,rfl⟩:=rx;exact SeqAt.EqAt.bool_str a b t
   | _=>exact absurd (show false=true from fx) Vy
 | int a=>
   obtain⟨t',rfl⟩:=ry;cases x with
   | non=>cases rx;exact SeqAt.EqAt.int_none a t'
   | bl b=>cases rx;exact SeqAt.EqAt.int_bool a t' b
   | int b=>obtain⟨t,rfl⟩:=rx;exact SeqAt.EqAt.int_int a t' b t
   | str b=>obtain⟨t,rfl⟩:=rx;exact SeqAt.EqAt.int_str a t' b t
   | _=>exact absurd (show false=true from fx) Vy
 | str a=>
   obtain⟨t',rfl⟩:=ry;cases x with
   | non=>cases rx;exact SeqAt.EqAt.str_none a t'
   | bl b=>cases rx;exact SeqAt.EqAt.str_bool a t' b
   | int b=>obtain⟨t,rfl⟩:=rx;exact SeqAt.EqAt.str_int a t' b t
   | str b=>obtain⟨t,rfl⟩:=rx;exact SeqAt.EqAt.str_str a t' b t
   | _=>exact absurd (show false=true from fx) Vy
 | _=>exact absurd (show false=true from fy) Vy
def eqU(x:V)(u:ZR):Bool:=match u with
 | .none=>eqV .non x
 | .bool b=>eqV (.bl b) x
 | .int i _=>eqV (.int i) x
 | .str z _=>eqV (.str z) x
 | _=>false
theorem MQ{x y:V}{u:ZR}(r:RelV y u)(f:AQ y=true):eqU x u=eqV y x:=by
 cases y with
 | non=>cases r;rfl
 | bl b=>cases r;rfl
 | int i=>obtain⟨t,rfl⟩:=r;rfl
 | str z=>obtain⟨t,rfl⟩:=r;rfl
 | _=>exact absurd (show false=true from f) Vy
theorem CQ{x:V}:∀{xs:List V} {us:List ZR},Vals xs us->xs.all AQ=true->us.any (eqU x)=xs.any λy=>eqV y x
 | _,_,.nil,_=>rfl
 | y::xs,u::us,.cons r t,f=>by
   rw[X0,Vn]at f;rw[X1,X1,MQ r f.1,CQ t f.2]
theorem BX{A:Ze}{s:ZS}{x:V}{v:ZR}(rx:RelV x v)(fx:AQ x=true):∀{xs:List V} {us:List ZR},Vals xs us->xs.all AQ=true->∀ u∈us,SeqAt.EqAt A s u v (eqU x u)
 | _,_,.nil,_=>λu hu=>by cases hu
 | y::xs,u::us,.cons r t,f=>λu' hu=>by
   rw[X0,Vn]at f;rcases W5.mp hu with rfl | hu
   ·rw[MQ r f.1];exact MP r rx f.1 fx
   ·exact BX rx fx t f.2 u' hu
def inV(x:V)(xs:List V):Bool:=xs.any λy=>eqV y x
def rIn(K:Vl)(neg:Bool):R2:=λx y H Q=>∃ p xs,y = .ref p/\(SqL K H p xs\/SqT K H p xs)/\AQ x=true/\xs.all AQ=true/\Q (.bl (if neg then !inV x xs else inV x xs)) H
theorem Km:OpR X (Zg .In) (rIn X.K false):=by
 intro pq s σ H x y v u Q I rx ry h;obtain⟨p,xs,rfl,hq,fx,fs,q⟩:=h;cases ry;rcases hq with hq | hq
 ·obtain⟨its,r,pl,hz⟩:=I.list hq;refine SeqAt.in_listAt (eqU x) pl.isList (λw hw=>BX rx fx r fs w (by simpa using hw)) ⟨.bl _,H,I,rfl,?_⟩;rw[show its.toArray.any (eqU x)=its.any (eqU x) by simp,CQ r fs];exact q
 ·obtain⟨its,r,pl,hz⟩:=I.tuple hq;refine SeqAt.in_tupleAt (eqU x) pl (λw hw=>BX rx fx r fs w (by simpa using hw)) ⟨.bl _,H,I,rfl,?_⟩;rw[show its.toArray.any (eqU x)=its.any (eqU x) by simp,CQ r fs];exact q
theorem FB:OpR X (Zg .NotIn) (rIn X.K true):=by
 intro pq s σ H x y v u Q I rx ry h;obtain⟨p,xs,rfl,hq,fx,fs,q⟩:=h;cases ry;rcases hq with hq | hq
 ·obtain⟨its,r,pl,hz⟩:=I.list hq;refine SeqAt.notIn_listAt (eqU x) pl.isList (λw hw=>BX rx fx r fs w (by simpa using hw)) ⟨.bl _,H,I,rfl,?_⟩;rw[show its.toArray.any (eqU x)=its.any (eqU x) by simp,CQ r fs];exact q
 ·obtain⟨its,r,pl,hz⟩:=I.tuple hq;refine SeqAt.notIn_tupleAt (eqU x) pl (λw hw=>BX rx fx r fs w (by simpa using hw)) ⟨.bl _,H,I,rfl,?_⟩;rw[show its.toArray.any (eqU x)=its.any (eqU x) by simp,CQ r fs];exact q
theorem FC:CallR X (.builtin "len") (λxs H Q=>∃ p ys,xs=[.ref p]/\(SqL X.K H p ys\/SqT X.K H p ys)/\Q (.int ys.length) H):=by
 intro pq s σ H xs us Q I r h;obtain⟨p,ys,rfl,hq,q⟩:=h;obtain⟨u,rfl,rx⟩:=Ad r;cases rx;have hn:=C9;rcases hq with hq | hq
 ·obtain⟨its,r',pl,hz⟩:=I.list hq;have hlen:=r'.length;exact Calls.call_len_list pl.isList (by simp only[Vw]<;>omega) ⟨.int ys.length,H,I.tok _,⟨s.toks+1,by rw[Vw,hlen]⟩,q⟩
 ·obtain⟨its,r',pl,hz⟩:=I.tuple hq;have hlen:=r'.length;exact len_tuple pl (by simp only[Vw]<;>omega) ⟨.int ys.length,H,I.tok _,⟨s.toks+1,by rw[Vw,hlen]⟩,q⟩
theorem CallR.or{f:ZR}{r r':List V->Hp->VK->Prop}(h:CallR X f r)(h':CallR X f r'):CallR X f (λxs H Q=>r xs H Q\/r' xs H Q):=by
 intro pq s σ H xs us Q I rs q;rcases q with q | q
 ·exact h pq s σ H xs us Q I rs q
 ·exact h' pq s σ H xs us Q I rs q
theorem FD:CallR X (.type "list") (λxs H Q=>∃ p ys,xs=[.ref p]/\(SqL X.K H p ys\/SqT X.K H p ys)/\∀ l,H l=none->Q (.ref l) (upd H l (.lst ys))):=by
 intro pq s σ H xs us Q I r h;obtain⟨p,ys,rfl,hq,q⟩:=h;obtain⟨u,rfl,rx⟩:=Ad r;cases rx
 have fin:∀(its:List ZR),Vals ys its->ys.length<=ZW->∀(h':Heap) (c':Nat),(∀ b o',s.heap.get? b=some o'->h'.get? b=some o')->
  h'.get? s.heap.objs.size=some {cls := .type "list",dict:=none,data := .seq its.toArray c',slots:=#[]}->EP X pq σ Q (.ref s.heap.objs.size) {s with heap:=h'}:=λits r' hz h' c' kp e=>
  ⟨.ref s.heap.objs.size,_,I.laid (t':=s.toks) kp (Vt _) (show ObjOk X.prog X.w _ h' _ (.lst ys) from ⟨hz,its,c',r',e⟩),rfl,q _ (I.hok.fresh (Vt _))⟩
 rcases hq with hq | hq
 ·obtain⟨its,r',pl,hz⟩:=I.list hq;have hlen:=r'.length;obtain⟨o,ho,hc,n,hd⟩:=pl.isList;exact call_list_seq p (.inl rfl) ho hc hd (λh' c' kp e=>fin its r' hz h' c' kp e) (by simp only[Vw]<;>omega)
 ·obtain⟨its,r',pl,hz⟩:=I.tuple hq;have hlen:=r'.length;obtain⟨o,ho,hc,n,hd⟩:=pl;exact call_list_seq p (.inr rfl) ho hc hd (λh' c' kp e=>fin its r' hz h' c' kp e) (by simp only[Vw]<;>omega)
theorem EL:CallR X (.type "tuple") (λxs H Q=>∃ p ys,xs=[.ref p]/\((SqL X.K H p ys/\∀ l,H l=none->Q (.ref l) (upd H l (.tup ys)))\/(SqT X.K H p ys/\Q (.ref p) H))):=by
 intro pq s σ H xs us Q I r h;obtain⟨p,ys,rfl,h⟩:=h;obtain⟨u,rfl,rx⟩:=Ad r;cases rx;rcases h with⟨hq,q⟩ | ⟨hq,q⟩
 ·obtain⟨its,r',pl,hz⟩:=I.list hq;have hlen:=r'.length;refine call_tuple_list pl.isList (λh' kp=>?_) (by simp only[Vw]<;>omega);have I1:Inv X pq σ H {s with heap:=h'}:=I.kept (t':=s.toks) kp
  have I2:Inv X pq σ (upd H h'.objs.size (.tup ys)) {s with heap:=h'.push {cls := .type "tuple",data := .seq its.toArray}}:=
   I1.laid (t':=s.toks) (λb o e=>Vs _ e) (Vt _) (show ObjOk X.prog X.w _ _ _ (.tup ys) from ⟨hz,its,r',IsTup.new _ _⟩)
  exact⟨.ref h'.objs.size,_,I2,rfl,q _ (I1.hok.fresh (Vt _))⟩
 ·obtain⟨its,r',pl,hz⟩:=I.tuple hq;exact call_tuple_same pl ⟨.ref p,H,I,rfl,q⟩
def tyV(K:Vl)(T:String)(x:V)(H:Hp):Prop:=match x with
 | .str _=>T="str"
 | .int _=>T="int"
 | .ref p=>(T="list"/\∃ xs,SqL K H p xs)\/(T="tuple"/\∃ o,K.lookup p=some o/\o.cls = .type "tuple"/\o.dict=none)\/
    (T="dict"/\((∃ kvs,H p=some (.dK kvs))\/∃ kvs,H p=some (.dT kvs)))\/(T="set"/\∃ S n,H p=some (.set S n))
 | _=>False
theorem MR{pq:List (ZT×Obj)}{σ:St}{H:Hp}{s:ZS}{T:String}{x:V}{v:ZR}(I:Inv X pq σ H s)(r:RelV x v)(ty:tyV X.K T x H):
 s.TypeIs v T/\∀ a,v = .ref a->∃ ob,s.heap.get? a=some ob/\ob.dict=none:=by
 cases x with
 | str z=>
   obtain⟨t,rfl⟩:=r;cases(show T="str" from ty);exact⟨typeIs_str s z t,λ_ e=>nomatch e⟩
 | int i=>
   obtain⟨t,rfl⟩:=r;cases(show T="int" from ty);exact⟨A0K s i t,λ_ e=>nomatch e⟩
 | ref p=>
   cases r;rcases ty with⟨rfl,xs,hq⟩ | ⟨rfl,o,hk,hc,hd⟩ | ⟨rfl,hk⟩ | ⟨rfl,S,n,hk⟩
   ·obtain⟨its,_,pl,_⟩:=I.list hq;refine⟨pl.isList.typeIs,λa e=>?_⟩;cases e;obtain⟨o,n,e,c,hd,_⟩:=pl;exact⟨o,e,hd⟩
   ·refine⟨⟨o,I.kIn p o hk,hc⟩,λa e=>?_⟩;cases e;exact⟨o,I.kIn _ o hk,hd⟩
   ·have z:∃ o,s.heap.get? p=some o/\o.ExactDict:=by
     rcases hk with⟨kvs,hk⟩ | ⟨kvs,hk⟩
     ·obtain⟨_,_,_,_,o,_,_,e,ex,_⟩:=I.hok p _ hk;exact⟨o,e,ex⟩
     ·obtain⟨_,_,_,_,o,_,_,e,ex,_⟩:=I.hok p _ hk;exact⟨o,e,ex⟩
    obtain⟨o,e,ex⟩:=z;refine⟨⟨o,e,ex.1⟩,λa e2=>?_⟩;cases e2;exact⟨o,e,ex.2.1⟩
   ·obtain⟨o,_,_,_,e,ex,_⟩:=I.hok p _ hk;refine⟨⟨o,e,ex.1⟩,λa e2=>?_⟩;cases e2;exact⟨o,e,ex.2.1⟩
 | _=>exact False.elim ty
def SS(K:Vl)(T:String)(r:V->List V->Hp->VK->Prop)(to:TE):TE:=λσ H Q=>to σ H λx H1=>tyV K T x H1/\r x [] H1 Q
def tBM(K:Vl)(T:String)(r:V->List V->Hp->VK->Prop)(to:TE)(t:TA):TE:=λσ H Q=>to σ H λx H1=>tyV K T x H1/\t σ H1 λxs H2=>r x xs H2 Q
variable{o e:Expr}{es:List Expr}{to:TE}{t:TA}{name:Str}{apos cpos:Pos}{T id:String}{r:V->List V->Hp->VK->Prop}
theorem FE(pa:PlainAttrs T)(slot:Slot T name id)(hty:typeOf (.builtin id)=pure (.type "method_descriptor"))(hm:MtR X id r)(ho:PE X o to)
 (hbase:A0f o name X.env (eval o X.env)=eval o X.env:=by rfl) (hline:(apos.endLine == cpos.line)=true:=by rfl):PE X (.Call (.Attribute o name apos) [] [] cpos) (SS X.K T r to):=by
 intro pq s σ H Q I h;refine A0F hbase hline (thn (ho pq s σ H _ I h) λv s1 ⟨x,H1,I1,r1,ty,q1⟩=>?_);obtain⟨h1,h2⟩:=MR I1 r1 ty;exact⟨T,id,pa,slot,hty,h1,h2,Calls.callWith_builtin rfl (PySem.evalArgs_none (hm pq s1 σ H1 x [] v [] Q I1 r1 .nil q1))⟩
theorem JT(pa:PlainAttrs T)(slot:Slot T name id)(hty:typeOf (.builtin id)=pure (.type "method_descriptor"))(hm:MtR X id r)(ho:PE X o to)(ha:PA X (e::es) t)
 (hbase:A0f o name X.env (eval o X.env)=eval o X.env:=by rfl)
 (hfew:((backTo cpos (Zc (e::es) X.env)).all (λx=>!x.1)&&(A0u cpos (A0c [] X.env)).all (λx=>x.1.isSome)
   && decide ((e::es).length+([]:List Keyword).length+(if ([]:List Keyword).isEmpty then 0 else 1)<30))=true:=by rfl)
 (hline:(apos.endLine == cpos.line)=true:=by rfl) (hs:Zc (e::es) X.env=(false,eval e X.env)::Zc es X.env:=by rfl) (hplain:(backTo cpos (Zc es X.env)).any (·.1)=false:=by rfl):
 PE X (.Call (.Attribute o name apos) (e::es) [] cpos) (tBM X.K T r to t):=by
 intro pq s σ H Q I h;refine wpAny_Call_method_late hbase hfew hline rfl (thn (ho pq s σ H _ I h) λv s1 ⟨x,H1,I1,r1,ty,q1⟩=>?_);obtain⟨h1,h2⟩:=MR I1 r1 ty;refine⟨T,id,pa,slot,hty,h1,h2,?_⟩;have hA:=ha cpos pq s1 σ H1 _ I1 q1;rw[hs]at hA ⊢;refine Calls.callWith_builtin (by show(false||(backTo cpos (Zc es X.env)).any (·.1))=false;rw[hplain]<;>rfl) (Calls.evalArgs_plain ?_);exact thn hA λus s2 ⟨vs,H2,I2,r2,q2⟩=>hm pq s2 σ H2 x vs v us Q I2 r1 r2 q2
end
noncomputable def MtM(X:Cx)(id:String)(r:V->List V->Hp->VK->Prop):Prop:=
 ∀(pq:List (ZT×Obj)) (s:ZS) (σ:St) (H:Hp) (x:V) (xs:List V) (v:ZR) (us:List ZR) (Q:VK),Inv X pq σ H s->RelV x v->Vals xs us->r x xs H Q->
  ZV (ZY X.prog X.w) X.A (call (.builtin id) (v::us)) (EP X pq σ Q) X.xe s
theorem Vals.one{x:V}{us:List ZR}(h:Vals [x] us):∃ u,us=[u]/\RelV x u:=by
 cases h with
 | cons r q=>cases q;exact⟨_,rfl,r⟩
theorem Vals.two{x y:V}{us:List ZR}(h:Vals [x,y] us):∃ u v,us=[u,v]/\RelV x u/\RelV y v:=by
 cases h with
 | cons r q=>
   obtain⟨v,rfl,s⟩:=Vals.one q;exact⟨_,v,rfl,r,s⟩
theorem Vals.zero:∀{us:List ZR},Vals [] us->us=[]
 | _,.nil=>rfl
theorem Vals.dropLast{xs:List V}{us:List ZR}(h:Vals xs us):Vals xs.dropLast us.dropLast:=by
 induction h with
 | nil=>exact .nil
 | cons r t ih=>
   cases t with
   | nil=>exact .nil
   | cons q t'=>exact .cons r ih
theorem Vals.reverse{xs:List V}{us:List ZR}(h:Vals xs us):Vals xs.reverse us.reverse:=by
 induction h with
 | nil=>exact .nil
 | cons r t ih=>rw[XS,XS];exact Vals.append ih (.cons r .nil)
theorem Vals.rep{xs:List V}{us:List ZR}(h:Vals xs us):∀ k:Nat,Vals (Vx k xs).flatten (Vx k us).flatten
 | 0 => .nil
 | k+1=>by
   rw[WQ,WQ,Wx,Wx];exact Vals.append h (Vals.rep h k)
theorem Ec(its:List ZR):∀(k:Nat) (acc:List ZR),
 ZA (λx1 x2=>x1++x2) acc.toArray (Vx k its.toArray)=(acc++(Vx k its).flatten).toArray
 | 0,acc=>by simp
 | k+1,acc=>by
   have e:acc.toArray++its.toArray=(acc++its).toArray:=by simp
   have e2:(acc++its)++(Vx k its).flatten=acc++(Vx (k+1) its).flatten:=by
    rw[WQ,Wx,Y7]
   rw[<-e2,<-Ec its k (acc++its),<-e,WQ,List.foldl_cons]
section
variable{X:Cx}{pq:List (ZT×Obj)}{σ:St}{H:Hp}{s:ZS}{l b:ZT}{xs ys zs:List V}
theorem Inv.lset{its its':List ZR}{n:Nat}{f:Array ZR->Array ZR}{t':Nat}(I:Inv X pq σ H s)(hH:H l=some (.lst xs))
 (e:s.heap.get? l=some {cls := .type "list",data := .seq its.toArray n}) (hf:f its.toArray=its'.toArray) (hv:Vals ys its') (hz:ys.length<=ZW):
 Inv X pq σ (upd H l (.lst ys)) {s with heap:=s.heap.update l (Obj.mapSeq f),toks:=t'}:=by
 have q:=PySem.IsL.update e f;rw[hf]at q;refine I.write (x:=l) (e:=l) (by rw[hH];exact trivial) (.inl rfl) (λb' u hb hu=>(Wq s.heap (Obj.mapSeq f) (Ne.symm hb)).trans hu) ⟨_,q⟩ ?_;exact⟨hz,its',_,hv,q⟩
theorem Inv.lnew{its:List ZR}{t':Nat}(I:Inv X pq σ H s)(hv:Vals ys its)(hz:ys.length<=ZW):
 Inv X pq σ (upd H s.heap.objs.size (.lst ys)) {s with heap:=s.heap.push {cls := .type "list",data := .seq its.toArray},toks:=t'}:=
 I.laid (λ_ _ q=>Vs _ q) (Vt _) ⟨hz,its,0,hv,W3 _ rfl⟩
theorem Inv.fresh(I:Inv X pq σ H s):H s.heap.objs.size=none:=I.hok.fresh (Vt _)
theorem Inv.lstM(I:Inv X pq σ H s)(hH:H l=some (.lst xs)):xs.length<=ZW/\∃(its:List ZR) (n:Nat),Vals xs its/\xs.length=its.length/\s.heap.get? l=some {cls := .type "list",data := .seq its.toArray n}:=by
 obtain⟨z,its,n,r,e⟩:=I.hok l _ hH;exact⟨z,its,n,r,r.length,e⟩
theorem GJ{n:Nat}(h:n<=ZW):Builtin.List.listTooLong n=false:=by
 unfold Builtin.List.listTooLong;exact decide_eq_false (by omega)
end
section
variable{X:Cx}
def JU:V->List V->Hp->VK->Prop:=λx vs H Q=>∃ l xs y,x = .ref l/\vs=[y]/\H l=some (.lst xs)/\xs.length<ZW/\Q .non (upd H l (.lst (xs++[y])))
theorem Ci:MtM X "list.append" JU:=by
 intro pq s σ H x vs v us Q I rx rv h;obtain⟨l,xs,y,rfl,rfl,hH,hz,q⟩:=h;cases rx;obtain⟨u,rfl,ru⟩:=rv.one;obtain⟨z,its,n,r,hl,e⟩:=I.lstM hH;refine A0v F.slot_list_append ⟨_,e,rfl⟩ F.entry_list_append (F.args_list_append_2 _ _) (PySem.list_append l its.toArray n u (by rw[Vw];omega)) ⟨e,?_⟩;refine⟨.non,_,I.lset (its':=its++[u]) hH e (by simp) (r.append (.cons ru .nil)) ?_,rfl,q⟩;rw[Vo,Wk];omega
def JV:V->List V->Hp->VK->Prop:=λx vs H Q=>∃ l b xs zs,x = .ref l/\vs=[.ref b]/\H l=some (.lst xs)/\H b=some (.lst zs)/\xs.length+zs.length<=ZW/\Q .non (upd H l (.lst (xs++zs)))
theorem Ed:MtM X "list.extend" JV:=by
 intro pq s σ H x vs v us Q I rx rv h;obtain⟨l,b,xs,zs,rfl,rfl,hH,hB,hz,q⟩:=h;cases rx;obtain⟨u,rfl,ru⟩:=rv.one;cases ru;obtain⟨z,its,n,r,hl,e⟩:=I.lstM hH;obtain⟨z2,its2,n2,r2,hl2,e2⟩:=I.lstM hB;have hsz:its.toArray.size+its2.toArray.size<=ZW:=by rw[Vw,Vw];omega
 have hlong:¬ (!its.toArray.isEmpty&&Builtin.List.listTooLong (its.toArray.size+its2.toArray.size))=true:=by
  rw[GJ hsz,Bool.and_false];exact Vy
 refine A0v F.slot_list_extend ⟨_,e,rfl⟩ F.entry_list_extend (F.args_list_extend_2 _ _)
  (AutoSeq1.list_extend_list_list_0 l its.toArray n b its2.toArray n2 hlong (by rw[Vw];omega) (by omega)) ⟨e,e2,?_⟩
 refine⟨.non,_,I.lset (its':=its++its2) hH e (by simp) (r.append r2) ?_,rfl,q⟩;rw[Vo];omega
def GK:V->List V->Hp->VK->Prop:=λx vs H Q=>∃ l xs,x = .ref l/\vs=[]/\H l=some (.lst xs)/\Q .non (upd H l (.lst xs.reverse))
theorem DZ:MtM X "list.reverse" GK:=by
 intro pq s σ H x vs v us Q I rx rv h;obtain⟨l,xs,rfl,rfl,hH,q⟩:=h;cases rx;have hus:=rv.zero;subst hus;obtain⟨z,its,n,r,hl,e⟩:=I.lstM hH;refine A0v F.slot_list_reverse ⟨_,e,rfl⟩ F.entry_list_reverse (F.args_list_reverse_1 _) (AutoSeq1.list_reverse_list_0 l its.toArray n (by rw[Vw];omega)) ⟨e,?_⟩;refine⟨.non,_,I.lset (its':=its.reverse) hH e (by simp) r.reverse ?_,rfl,q⟩;rw[Xk];omega
def Uc:R2:=λx y H Q=>∃ l b xs zs,x = .ref l/\y = .ref b/\H l=some (.lst xs)/\H b=some (.lst zs)/\xs.length+zs.length<=ZW/\∀ p,H p=none->Q (.ref p) (upd H p (.lst (xs++zs)))
theorem ST:OpR X (A0e .Add) Uc:=by
 intro pq s σ H x y v u Q I rx ry h;obtain⟨l,b,xs,zs,rfl,rfl,hH,hB,hz,q⟩:=h;cases rx;cases ry;obtain⟨z,its,n,r,hl,e⟩:=I.lstM hH;obtain⟨z2,its2,n2,r2,hl2,e2⟩:=I.lstM hB;refine PySem.P.add_list e e2 ?_ (by rw[Vw,Vw];omega);have ea:its.toArray++its2.toArray=(its++its2).toArray:=by simp
 rw[ea];exact⟨.ref _,_,I.lnew (t':=s.toks) (r.append r2) (by rw[Vo];omega),rfl,q _ I.fresh⟩
def Ud:R2:=λx y H Q=>∃ l k xs,x = .ref l/\y = .int k/\H l=some (.lst xs) /\ -(2 ^ 63)<=k/\k<2 ^ 63/\xs.length * k.toNat<=ZW/\
 ∀ p,H p=none->Q (.ref p) (upd H p (.lst (Vx k.toNat xs).flatten))
theorem PD{α:Type}(xs:List α)(k:Nat):(Vx k xs).flatten.length=k * xs.length:=by
 induction k with
 | zero=>simp
 | succ k ih=>rw[WQ,Wx,Vo,ih,Xa,Nat.add_comm]
theorem SU:OpR X (A0e .Mult) Ud:=by
 intro pq s σ H x y v u Q I rx ry h;obtain⟨l,k,xs,rfl,rfl,hH,h1,h2,hz,q⟩:=h;cases rx;obtain⟨t,rfl⟩:=ry;obtain⟨z,its,n,r,hl,e⟩:=I.lstM hH;have hlen:its.toArray.size * k.toNat<=ZW:=by rw[Vw,<-hl];exact hz
 have hcap:¬ its.toArray.size * k.toNat>(2 ^ 63 - 1) / 8:=by
  have:(ZW:Nat)<=(2 ^ 63 - 1) / 8:=by decide
  omega
 have hfit:¬ (!Builtin.List.listFitsIndex k)=true:=by
  rw[A1k h1 h2];exact Vy
 have hlong:¬ Builtin.List.listTooLong (its.toArray.size * k.toNat)=true:=by
  rw[GJ hlen];exact Vy
 have hnew:ZA (λx1 x2=>x1++x2) #[] (Vx (if its.toArray.isEmpty=true then 0 else k.toNat) its.toArray)=(Vx k.toNat its).flatten.toArray:=by
  have f0:∀ m:Nat,ZA (λx1 x2=>x1++x2) #[] (Vx m its.toArray)=(Vx m its).flatten.toArray:=λm=>by
   have:=Ec its m [];rw[YV]at this;exact this
  rw[f0];cases its with
  | nil=>simp
  | cons a r'=>rw[iG (by simp)]
 refine wpAny_binaryOp_repeat_ref (T:="list") (U:="int") (by decide) ⟨_,e,rfl⟩ (λs'=>A0K s' k t) noFill_list_mul F.fills_int_mul F.slot_int_rmul repeat_list F.slot_int_index.lookup
  (A0v F.slot_int_rmul (A0K s k t) F.entry_int_rmul (F.args_int_rmul_2 _ _) (int___rmul___int_list k t l its.toArray n)
    ⟨e,rfl,⟨_,e,rfl⟩,A0v F.slot_list_mul ⟨_,e,rfl⟩ F.entry_list_mul (F.args_list_mul_2 _ _) (AutoListH.list___mul___list_int_3 l its.toArray n k t hfit hcap hlong) ⟨e,?_⟩⟩)
 rw[hnew];exact⟨.ref _,_,I.lnew (t':=s.toks) (r.rep k.toNat) (by rw[PD,Nat.mul_comm];exact hz),rfl,q _ I.fresh⟩
end
end L2
namespace Att
open PySem PySem.W PySem.Calls PyProof.Rows
theorem DB{P:Params}{h:Heap}:∀(ns:List Int) (vs:List ZR),WellAll P h vs (ns.map WData.int)->IntsAre vs ns:=by
 intro ns
 induction ns with
 | nil=>
   intro vs w;rw[ZL]at w;cases w;exact .nil
 | cons n ns ih=>
   intro vs w;rw[WX]at w;cases w with
   | cons a b=>
     cases a;exact .cons _ _ (ih _ b)
theorem Kn{l:OpenLaw}{n:Nat}(hn:l.most=some n){P:Params}{h:Heap}{args:List WData}{vals:List ZR}
 (hpre:l.row.toRowW.claim.pre args=true) (hwl:WellAll P h vals args):
 ∃ a vs ns,vals=[Value.ref a]/\args=[WData.list (ns.map WData.int)]/\h.get? a=some {cls := .type "list",data := .seq vs.toArray}/\IntsAre vs ns/\ns.length<=n:=by
 have hsh:WShape.hasAll [] args [.list .int]=true:=(pre_splitW hpre).1;have hc:l.pre.holds [] {args:=args}=true:=(pre_splitW hpre).2;obtain⟨d,r,rfl,h1,h2⟩:=hasAllW_cons hsh;obtain rfl:=hasAllW_nil h2;obtain⟨xs,rfl,h3⟩:=hasW_list h1;obtain⟨ns,rfl⟩:=items_int h3
 have hlen:ns.length<=n:=by
  unfold OpenLaw.pre at hc
  have h4:(WTm.not (.lt (.lit (.int (n:Int))) (.len (.arg 0)))).holds [] {args:=[.list (ns.map .int)]}=true:=by
   have h4:=(holds_andW hc).1;rw[hn]at h4;exact h4
  have h5:=condW_of h4 (w_not (w_lt w_lit (w_len_list (w_arg rfl))));rw[Vm]at h5;refine Yx λq=>?_;have q':(n:Int)<((ns.length:Nat):Int):=by omega
  first
   | (rw[decide_eq_true q']at h5;exact absurd h5 (by decide))
   | (simp at h5;omega)
 cases hwl with
 | cons w1 w2=>
   cases w2;cases w1 with
   | list ho hall=>exact⟨_,_,ns,rfl,rfl,ho,DB ns _ hall,hlen⟩
theorem Ko(l:OpenLaw)(args:List WData):l.row.toRowW.claim.post args (.bool true) args=true:=
 postW_of (r:=l.row.toRowW) (X:=(true == true))
  (show WShape.has [] (.bool true) .bool=true by first | rfl | decide | simp[WShape.has,WShape.arms,WShape.armsAll])
  (show(WTm.eq .res (.lit (.bool true))).value [] {args:=args,res:=some (.bool true),after:=args}=some (.bool (true == true)) from w_eq_bool (w_res rfl) w_lit) rfl
theorem attach_call{l:OpenLaw}{n:Nat}{q:ZX}{loose:List Str}{XP:(Str->Option ZR)->Heap->Prop}{YP:Za->Heap->Prop}{d:DefRec}
 (hn:l.most=some n) (hdf:d.params.defaults=[])
 (call:∀(w:Za) (s₀ s₁:ZS) (mg mb:Str->Option ZR) (fa:ZT) (o:Obj) (pm cd doc:ZR) (a:ZT) (vs:List ZR) (ns:List Int),
   Ground q loose [] XP w s₀ mg mb s₁.heap->YP w s₁.heap->
   s₁.heap.get? fa=some o->o.data = .func (docDef d.name d.params d.body d.scope pm cd doc)->s₁.heap.CodeRec cd d.name->mg d.name=some (.ref fa)->
   s₁.heap.get? a=some {cls := .type "list",data := .seq vs.toArray}->IntsAre vs ns->ns.length<=n->s₁.gens=#[]->
   codeAny (ZY l.prog w) callerA (.call (.ref fa) ⟨[.ref a],[]⟩) (λr s'=>r = .ok (.ret (.bool true))/\OldK s₁.heap s'.heap/\s'.os=s₁.os/\AllBare s'.gens) s₁):
 WalkO q loose XP YP l.row.toRowW d [] (λf vs=>PySem.call f vs):=by
 intro w s₀ s₁ mg mb G Y fa o pm cd doc dV kV ho hd hcd hD hmg hg args vals as hpre hlay hrd hwl hlo;obtain rfl:dV = .none:=Dflts.none hD hdf;obtain rfl:kV = .none:=Dflts.noKw hD;obtain⟨a,vs,ns,rfl,rfl,hobj,hints,hlen⟩:=Kn hn hpre hwl;refine enter_call (A12 (call w s₀ s₁ mg mb fa o pm cd doc a vs ns G Y ho (fd_plain hd) hcd hmg hobj hints hlen hg) λr s' hq=>?_);obtain⟨rfl,h2,h3,h4⟩:=hq;exact⟨.inl ⟨.bool true,.bool true,[],rfl,λ_=>rfl,.bool true,Ko l _,λ_=>⟨List.Pairwise.nil,λ_ hm=>(nomatch hm)⟩⟩,h2,h3,h4⟩
end Att
namespace L2
open PySem PySem.Spec PyProof.Rows
theorem Ee:∀{vs:List ZR} {ns:List Int},IntsAre vs ns->Vals (ns.map V.int) vs
 | _,_,.nil => .nil
 | _,_,.cons n t h => .cons ⟨t,rfl⟩ (Ee h)
def PF(H:Hp):Prop:=∀ b,H b=none\/∃ o xs,H b=some (.frz o (.lst xs))
theorem MS{P:ZX}{w:Za}{K:Vl}{mg mb:Str->Option ZR}{CX:CXT}{k:Nat}{fa a:ZT}{fd:A07}{x:Str}{sp:Sp}{s₁:ZS}{vs:List ZR}{ns:List Int}
 (KX:K.In s₁.heap) (hns:s₁.heap.Ns ZZ mg) (hb:s₁.heap.Ns A0Y mb) (hbb:∀ x:Str,x≠"__name__"->mb x=Zb x) (hlim:s₁.heap.NoLimit) (hg:s₁.gens=#[])
 (ha:s₁.heap.get? a=some {cls := .type "list",data := .seq vs.toArray}) (hi:IntsAre vs ns) (hl:ns.length<=ZW) (hr:Room k callerA)
 (F:∀ base:Heap,K.In base->base.Ns ZZ mg->FnOk P w K mg base CX k fa fd [x] sp) (hbind:∀(s:ZS) (u:ZR),BindsTo s fd ⟨[u],[]⟩ [(x,u)])
 (hsp:∀ H:Hp,PF H->SqL K H a (ns.map V.int)->sp [.ref a] H (λv _=>v = .bl true) λ_ _ _=>False)
 (hCX:∀ H e s',CX [] H s₁ (λ_ _ _=>False) e s'->False):
 codeAny (ZY P w) callerA (.call (.ref fa) ⟨[.ref a],[]⟩) (λr s'=>r = .ok (.ret (.bool true))/\OldK s₁.heap s'.heap/\s'.os=s₁.os/\AllBare s'.gens) s₁:=by
 have rv:=Ee hi;have lenV:=hi.length
 have core:∀ H:Hp,PF H->SqL K H a (ns.map V.int)->HOk P w H s₁.heap->(∀ b,H b≠none->b=a)->(H a≠none->K.lookup a=none)->
  codeAny (ZY P w) callerA (.call (.ref fa) ⟨[.ref a],[]⟩) (λr s'=>r = .ok (.ret (.bool true))/\OldK s₁.heap s'.heap/\s'.os=s₁.os/\AllBare s'.gens) s₁:=by
  intro H hO hS hok hA hK;have v4:∀{b:ZT} {o:Obj},s₁.heap.get? b=some o->H b=none->(F9 s₁.heap H).get? b=some o:=λe n=>M3 e n
  have noA:∀{b:ZT} {o:Obj} {es:Array A0a} {ep:Nat},s₁.heap.get? b=some o->o.data = .dict es ep->H b=none:=λ{b o es ep} e d=>by
   cases q:H b with
   | none=>rfl
   | some u=>
     have e':b=a:=hA b (by rw[q];simp);subst e';rw[ha]at e;cases e;have d':Data.seq vs.toArray _=Data.dict es ep:=d;cases d'
  have nsK:∀{b:ZT} {m:Str->Option ZR},s₁.heap.Ns b m->(F9 s₁.heap H).Ns b m:=λ{b m} ⟨o,es,ep,e,d,r⟩=>⟨o,es,ep,v4 e (noA e d),d,r⟩
  have hKb:K.In (F9 s₁.heap H):=λb o e=>v4 (KX b o e) (by
   cases q:H b with
   | none=>rfl
   | some u=>
     have e':b=a:=hA b (by rw[q];simp);subst e';rw[hK (by rw[q];simp)]at e;cases e)
  have hM:Mod K mg (F9 s₁.heap H):=⟨hKb,nsK hns,⟨mb,nsK hb,hbb⟩,let ⟨mc,h1,h2⟩:=hlim;⟨mc,nsK h1,h2⟩⟩
  have e0:Env0 P w K mg (F9 s₁.heap H) callerA [] s₁ H:=⟨rfl,hM,λb o e=>Os e,Yo (Kc _ _),trivial,λb hb=>absurd (show b∈([]:List ZT) from hb) (by simp),hok,.of_eq hg⟩
  refine A12 ((F _ hKb (nsK hns)).run callerA [] s₁ H ⟨[.ref a],[]⟩ [.ref a] [.ref a] _ _ hr e0 (hbind s₁ (.ref a)) (.cons rfl .nil) (hsp H hO hS)) λr s' h=>?_;cases r with
  | error e=>exact(hCX H e s' h).elim
  | ok fl=>
    cases fl with
    | next=>exact False.elim h
    | brk=>exact False.elim h
    | cont=>exact False.elim h
    | ret u=>
      obtain⟨v,H',os,bare,un,hok',r',q⟩:=h;have q':v = .bl true:=q;subst q';obtain rfl:u=Value.bool true:=r';refine⟨rfl,OldK.of_keep λb o e=>?_,os,bare⟩;cases q:H b with
      | none=>exact un.keep b o e q (by intro z;exact absurd (show b∈([]:List ZT) from z) (by simp)) (by simp)
      | some u=>
        rcases hO b with z | ⟨ob,xs,z⟩
        ·rw[q]at z;cases z
        ·have z2:=un.frzs b ob _ z;obtain⟨e1,_⟩:=hok b _ z;obtain⟨e2,_⟩:=hok' b _ z2;rw[e]at e1;cases e1;exact e2
 cases hk:K.lookup a with
 | some o=>
   have e:=KX a o hk;rw[ha]at e;cases e;refine core (λ_=>none) (λ_ => .inl rfl) (.inr ⟨_,vs.toArray,_,hk,rfl,rfl,rfl,by rw[Vw,lenV];exact hl,by simpa using rv⟩) (λb u z=>by have z':(none:Option HO)=some u:=z;cases z') (λb z=>absurd rfl z) λz=>absurd rfl z
 | none=>
   refine core (λb=>if b=a then some (.frz {cls := .type "list",data := .seq vs.toArray} (.lst (ns.map V.int))) else none) (λb=>?_) (.inl (.inr ⟨{cls := .type "list",data := .seq vs.toArray},iP rfl⟩)) (λb u z=>?_) (λb z=>?_) λ_=>hk
   ·by_cases hb:b=a
    ·exact .inr ⟨_,_,iP hb⟩
    ·exact .inl (iG hb)
   ·by_cases hb:b=a
    ·have z':=(iP hb).symm.trans z;cases z';subst hb;exact⟨ha,by rw[Vm];exact hl,vs,_,rv,ha⟩
    ·have z':=(iG hb).symm.trans z;cases z'
   ·by_cases hb:b=a
    ·exact hb
    ·exact absurd (iG hb) z
theorem walk_of{l:PySem.W.OpenLaw}{n k:Nat}{q:ZX}{loose:List Str}{XP:(Str->Option ZR)->Heap->Prop}{YP:Za->Heap->Prop}{d:DefRec}{K:Params->Vl}{CX:Za->CXT}{sp:Za->Sp}{x:Str}
 (hn:l.most=some n) (hn2:n<=ZW) (hdf:d.params.defaults=[]) (hr:Room k callerA)
 (hY:∀(w:Za) (h:Heap),YP w h->(K w.params).In h)
 (F:∀(w:Za) (mg:Str->Option ZR) (fa:ZT) (h:Heap),(K w.params).In h->h.Ns ZZ mg->mg d.name=some (.ref fa)->
   ∃ fd:A07,(∀(s:ZS) (u:ZR),BindsTo s fd ⟨[u],[]⟩ [(x,u)])/\
    ∀ base:Heap,(K w.params).In base->base.Ns ZZ mg->FnOk l.prog w (K w.params) mg base (CX w) k fa fd [x] (sp w))
 (hsp:∀(w:Za) (H:Hp) (a:ZT) (ns:List Int),ns.length<=n->PF H->SqL (K w.params) H a (ns.map V.int)->sp w [.ref a] H (λv _=>v = .bl true) λ_ _ _=>False)
 (hCX:∀(w:Za) (H:Hp) (s:ZS) (e:ZR) (s':ZS),CX w [] H s (λ_ _ _=>False) e s'->False):
 PySem.W.WalkO q loose XP YP l.row.toRowW d [] (λf vs=>PySem.call f vs):=by
 refine Att.attach_call hn hdf λw s₀ s₁ mg mb fa o pm cd doc a vs ns G Y ho hd hcd hmg hobj hints hlen hg=>?_;have KX:=hY w _ Y;obtain⟨fd,hb,hF⟩:=F w mg fa _ KX G.T.g hmg;exact MS KX G.T.g G.T.b G.T.builtins G.T.nolimit hg hobj hints (WH hlen hn2) hr hF hb (λH hO hS=>hsp w H a ns hlen hO hS) λH e s'=>hCX w H s₁ e s'
def defArgs(s:Stmt):Arguments:=match s with
 | .FunctionDef _ a _ _ _ _ _ _ _ _=>a
 | _=>{posonlyargs:=[],args:=[],vararg:=none,kwonlyargs:=[],kw_defaults:=[],kwarg:=none,defaults:=[]}
def defBody(s:Stmt):List Stmt:=match s with
 | .FunctionDef _ _ b _ _ _ _ _ _ _=>b
 | _=>[]
def defScope(s:Stmt):Zf:=match s with
 | .FunctionDef _ _ _ _ _ _ sc _ _ _=>sc
 | _=>{kind := .function,names:=[],isGenerator:=false,isCoroutine:=false}
abbrev CX0:CXT:=λ_ _ _ _ _ _=>False
abbrev E0:XK:=λ_ _ _=>False
theorem Ue{X:Cx}:Hy CX0 X E0:=λ_ _ _ _ _ _ _ h=>h.elim
structure Fun(K:Vl)(x qual:Str)(st:Stmt)(f:ZT)(fd:A07):Prop where
 ex:∃(oc:ZR) (od:Option ZT) (kV doc pm:ZR) (an:Option ZT) (cdv ct:ZR) (osl:Array (Option ZR)),
  fd=PySem.W.fnOf x qual (defArgs st) (defBody st) (defScope st) .none kV doc pm an cdv ct/\K.lookup f=some ⟨oc,od,.func fd,osl⟩/\PySem.W.codeIn K cdv qual=true
 kp:PySem.W.keepIn K (.ref f)=true
section
variable{P:ZX}{w:Za}{K:Vl}{mg:Str->Option ZR}{base:Heap}
theorem Fun.ok{x qual:Str}{st:Stmt}{f:ZT}{fd:A07}{N ps:List Str}{k:Nat}{sp:Sp}(F:Fun K x qual st f fd)(S:FnScope N ps (defScope st))(len:∀ vs H Q E,sp vs H Q E->vs.length=ps.length)
 (hbody:∀(cdv:ZR) (A:Ze) (outer:List Env) (s:ZS) (H:Hp) (vs:List V) (Q:VK) (E:XK),Room k (A.deeper (envOfC qual (defScope st) s.heap.objs.size f cdv))->sp vs H Q E->
   ∃ t,PSs (Hz CX0 P w K mg base N qual (defScope st) f cdv A outer s H E).nox (defBody st) t/\t {nx:=λ_ H'=>Q .non H',rt:=Q} (start N vs) H):FnOk P w K mg base CX0 (k+1) f fd ps sp:=by
 obtain⟨oc,od,kV,doc,pm,an,cdv,ct,osl,rfl,lk,hcd⟩:=F.ex;refine UV lk hcd S len λA outer s H vs Q E hr hsp=>?_;obtain⟨t,h,q⟩:=hbody cdv A outer s H vs Q E hr hsp;exact⟨t,h.nox,q⟩
theorem Fun.binds{x qual:Str}{st:Stmt}{f:ZT}{fd:A07}{ps:List Str}(F:Fun K x qual st f fd)
 (h:∀(kV doc pm:ZR) (an:Option ZT) (cdv ct:ZR) (us:List ZR),us.length=ps.length->bindArgs (PySem.W.fnOf x qual (defArgs st) (defBody st) (defScope st) .none kV doc pm an cdv ct) ⟨us,[]⟩=pure (ps.zip us)):Binds K fd ps []:=by
 obtain⟨oc,od,kV,doc,pm,an,cdv,ct,osl,rfl,lk,hcd⟩:=F.ex;exact .all (h kV doc pm an cdv ct)
theorem ID{x qual:Str}{st:Stmt}{f:ZT}{oc:ZR}{od an:Option ZT}{osl:Array (Option ZR)}{kV doc pm cdv ct:ZR}(l:K.lookup f=some ⟨oc,od,.func (PySem.W.fnOf x qual (defArgs st) (defBody st) (defScope st) .none kV doc pm an cdv ct),osl⟩)
 (c:PySem.W.codeIn K cdv qual=true) (k:PySem.W.keepIn K (.ref f)=true):Fun K x qual st f (PySem.W.fnOf x qual (defArgs st) (defBody st) (defScope st) .none kV doc pm an cdv ct):=⟨⟨oc,od,kV,doc,pm,an,cdv,ct,osl,rfl,l,c⟩,k⟩
end
end L2
set_option maxHeartbeats 4000000
namespace L2
open PySem PySem.Spec PyProof.Rows
def AI(env:Env):List (Str×Zs)->List (Str×ZT)->List (Str×ZT)
 | [],acc=>acc
 | (n,k)::r,acc=>if k == .free then AI env r ((n,(env.cells.lookup n).getD 0)::acc) else AI env r acc
theorem B6{env:Env}{scope:Zf}(h:∀ x∈scope.names,x.2 = .free->∃ c,env.cells.lookup x.1=some c):closureFor scope env=pure (AI env scope.names []):=by
 unfold closureFor
 have go:∀(names:List (Str×Zs)) (acc:List (Str×ZT)),(∀ x∈names,x.2 = .free->∃ c,env.cells.lookup x.1=some c)->
  (forIn names acc λx r=>match x with
    | (name,kind)=>if (kind == NameKind.free)=true then do let __do_lift <- cellOf env name;pure (ForInStep.yield ((name,__do_lift)::r)) else pure (ForInStep.yield r):Sem (List (Str×ZT)))=pure (AI env names acc):=by
  intro names
  induction names with
  | nil=>intro acc _;rfl
  | cons x r ih=>
    intro acc hx;obtain⟨n,k⟩:=x;rw[YW];have hr:=λy hy=>hx y (Vz _ hy);by_cases hk:k = .free
    ·subst hk;obtain⟨c,hc⟩:=hx (n,.free) W7 rfl;have hc':env.cells.lookup n=some c:=hc;unfold AI;simp only[beq_self_eq_true,if_true,cellOf,hc',Yy,pure_bind];exact ih _ hr
    ·have hb:(k == NameKind.free)=false:=by simpa using hk
     unfold AI;simp only[hb,X3,if_false,pure_bind];exact ih _ hr
 have:=go scope.names [] h;simp only[this]
 first | rfl | simp
theorem Cj{env:Env}:∀(names:List (Str×Zs)) (acc:List (Str×ZT)),(∀ x∈names,x.2 = .free->∃ c,env.cells.lookup x.1=some c)->(∀ p∈acc,env.cells.lookup p.1=some p.2)->
 ∀ p∈AI env names acc,env.cells.lookup p.1=some p.2
 | [],_,_,ha,p,hp=>ha p hp
 | (n,k)::r,acc,h,ha,p,hp=>by
   unfold AI at hp;have hr:=λy hy=>h y (Vz _ hy);split at hp
   ·rename_i hk;have hk:k = .free:=by simpa using hk
    obtain⟨c,hc⟩:=h (n,k) W7 hk;have hc':env.cells.lookup n=some c:=hc;refine Cj r _ hr (λq hq=>?_) p hp;rcases W5.mp hq with rfl | hq
    ·show env.cells.lookup n=some ((env.cells.lookup n).getD 0);rw[hc'];rfl
    ·exact ha q hq
   ·exact Cj r acc hr ha p hp
theorem Ck{env:Env}:∀(names:List (Str×Zs)) (acc:List (Str×ZT)),∀ p∈acc,p∈AI env names acc
 | [],_,_,hp=>hp
 | (n,k)::r,acc,p,hp=>by
   unfold AI;split
   ·exact Ck r _ p (Vz _ hp)
   ·exact Ck r acc p hp
theorem Cl{env:Env}:∀(names:List (Str×Zs)) (acc:List (Str×ZT)) (n:Str),(n,NameKind.free)∈names->∃ c,(n,c)∈AI env names acc
 | (m,k)::r,acc,n,hn=>by
   unfold AI;rcases W5.mp hn with e | hn
   ·cases e;simp only[beq_self_eq_true,if_true];exact⟨_,Ck r _ _ W7⟩
   ·split
    ·exact Cl r _ n hn
    ·exact Cl r _ n hn
theorem BY{env:Env}:∀(names:List (Str×Zs)) (acc:List (Str×ZT)),∀ p∈AI env names acc,p∈acc\/(p.1,NameKind.free)∈names
 | [],_,_,hp => .inl hp
 | (n,k)::r,acc,p,hp=>by
   unfold AI at hp;split at hp
   ·rename_i hk;have hk:k = .free:=by simpa using hk
    subst hk;rcases BY r _ p hp with z | z
    ·rcases W5.mp z with rfl | z
     ·exact .inr W7
     ·exact .inl z
    ·exact .inr (Vz _ z)
   ·rcases BY r _ p hp with z | z
    ·exact .inl z
    ·exact .inr (Vz _ z)
theorem AT:∀(names:List (Str×Zs)) (n:Nat) (acc:List (Str×ZT)),∀ p∈Zu n names acc,p∈acc\/(n<=p.2/\(p.1,NameKind.cell)∈names)
 | [],_,_,_,hp => .inl hp
 | (x,k)::r,n,acc,p,hp=>by
   unfold Zu at hp;split at hp
   ·rename_i hk;have hk:k = .cell:=by simpa using hk
    subst hk;rcases AT r (n+1) _ p hp with z | ⟨z,w⟩
    ·rcases W5.mp z with rfl | z
     ·exact .inr ⟨Vt _,W7⟩
     ·exact .inl z
    ·exact .inr ⟨Nat.le_of_succ_le z,Vz _ w⟩
   ·rcases AT r n acc p hp with z | ⟨z,w⟩
    ·exact .inl z
    ·exact .inr ⟨z,Vz _ w⟩
theorem AU:∀(names:List (Str×Zs)) (n:Nat) (acc:List (Str×ZT)),∀ p∈acc,p∈Zu n names acc
 | [],_,_,_,hp=>hp
 | (x,k)::r,n,acc,p,hp=>by
   unfold Zu;split
   ·exact AU r _ _ p (Vz _ hp)
   ·exact AU r _ _ p hp
theorem Ay:∀(names:List (Str×Zs)) (n:Nat) (acc:List (Str×ZT)) (x:Str),(x,NameKind.cell)∈names->∃ c,(x,c)∈Zu n names acc
 | (y,k)::r,n,acc,x,hx=>by
   unfold Zu;rcases W5.mp hx with e | hx
   ·cases e;simp only[beq_self_eq_true,if_true];exact⟨_,AU r _ _ _ W7⟩
   ·split
    ·exact Ay r _ _ x hx
    ·exact Ay r _ _ x hx
theorem Az:∀(names:List (Str×Zs)) (h:Heap) (acc:List (Str×ZT)),∀ p∈Zu h.objs.size names acc,p∈acc\/(A17 h names).IsCell p.2 none
 | [],_,_,_,hp => .inl hp
 | (x,k)::r,h,acc,p,hp=>by
   unfold Zu at hp;unfold A17;split at hp
   ·rename_i hk;rw[iP hk];have:=Az r (h.push {cls := .type "cell",data := .cell none}) ((x,h.objs.size)::acc) p (by rw[Wh];exact hp);rcases this with z | z
    ·rcases W5.mp z with rfl | z
     ·exact .inr ⟨_,A0M _ _ _ _ (W3 _ rfl),rfl⟩
     ·exact .inl z
    ·exact .inr z
   ·rename_i hk;rw[iG hk];exact Az r h acc p hp
theorem AZ:∀(names:List (Str×Zs)) (n:Nat) (acc:List (Str×ZT)),(acc.Pairwise λx y=>x.2≠y.2)->(∀ p∈acc,p.2<n)->(Zu n names acc).Pairwise λx y=>x.2≠y.2
 | [],_,_,h,_=>h
 | (x,k)::r,n,acc,h,hl=>by
   unfold Zu;split
   ·refine AZ r (n+1) _ (Yl.mpr ⟨λy hy e=>?_,h⟩) λp hp=>?_
    ·have h1:=hl y hy;have e':n=y.2:=e;exact absurd h1 (by rw[<-e'];exact XW _)
    ·rcases W5.mp hp with rfl | hp
     ·exact XZ _
     ·exact XH (hl p hp)
   ·exact AZ r n acc h hl
theorem BZ{env:Env}(inj:∀ x y c,env.cells.lookup x=some c->env.cells.lookup y=some c->x=y):∀(names:List (Str×Zs)) (acc:List (Str×ZT)),(names.map (·.1)).Nodup->
 (∀ x∈names,x.2 = .free->∃ c,env.cells.lookup x.1=some c)->(acc.Pairwise λx y=>x.2≠y.2)->(∀ p∈acc,env.cells.lookup p.1=some p.2/\p.1∉names.map (·.1))->(AI env names acc).Pairwise λx y=>x.2≠y.2
 | [],_,_,_,h,_=>h
 | (n,k)::r,acc,nd,hf,h,ha=>by
   unfold AI;have nd':=Wo.mp nd;have hr:=λy hy=>hf y (Vz _ hy);split
   ·rename_i hk;have hk:k = .free:=by simpa using hk
    obtain⟨c,hc⟩:=hf (n,k) W7 hk;have hc':env.cells.lookup n=some c:=hc;refine BZ inj r _ nd'.2 hr (Yl.mpr ⟨λy hy e=>?_,h⟩) λp hp=>?_
    ·have e':(env.cells.lookup n).getD 0=y.2:=e;rw[hc']at e';have e2:c=y.2:=e';have q:=(ha y hy).1;have:=inj n y.1 c hc' (by rw[e2];exact q);exact(ha y hy).2 (by rw[<-this];exact W7)
    ·rcases W5.mp hp with rfl | hp
     ·refine⟨?_,nd'.1⟩;show env.cells.lookup n=some ((env.cells.lookup n).getD 0);rw[hc'];rfl
     ·exact⟨(ha p hp).1,λz=>(ha p hp).2 (Vz _ z)⟩
   ·exact BZ inj r acc nd'.2 hr h λp hp=>⟨(ha p hp).1,λz=>(ha p hp).2 (Vz _ z)⟩
theorem AJ{env:Env}:∀(names:List (Str×Zs)) (x:Str),
 (names.map λ(n,k)=>if (k == NameKind.free&&env.scope.kind == .function&&env.kindOf n == some .cell) then (n,NameKind.cell) else (n,k)).lookup x=
   (names.lookup x).map λk=>if (k == NameKind.free&&env.scope.kind == .function&&env.kindOf x == some .cell) then NameKind.cell else k
 | [],x=>rfl
 | (n,k)::r,x=>by
   have ih:=AJ (env:=env) r x;rw[WX];show Yb x ((if (k == NameKind.free&&env.scope.kind == .function&&env.kindOf n == some .cell)=true then (n,NameKind.cell) else (n,k))::_)=_;split
   ·rename_i hc;rw[X6,X6];cases hx:x == n with
    | false=>exact ih
    | true=>
      have e:x=n:=by simpa using hx
      subst e;simp only[XA];rw[iP hc]
   ·rename_i hc;rw[X6,X6];cases hx:x == n with
    | false=>exact ih
    | true=>
      have e:x=n:=by simpa using hx
      subst e;simp only[XA];rw[iG hc]
theorem t5{α:Type}:∀{l:List (Str×α)} {n:Str} {c:α},(l.map (·.1)).Nodup->(n,c)∈l->l.lookup n=some c
 | (k,v)::r,n,c,nd,h=>by
   have nd':=Wo.mp nd;rw[X6];rcases W5.mp h with e | h2
   ·cases e;simp
   ·cases hb:n == k with
    | true=>
      have e:n=k:=by simpa using hb
      exact absurd (WC.mpr ⟨(n,c),h2,e⟩:k∈r.map (·.1)) nd'.1
    | false=>exact t5 nd'.2 h2
theorem C6{α:Type}:∀{l:List (Str×α)} {n:Str} {c:α},(n,c)∈l->∃ d,l.lookup n=some d
 | (k,v)::r,n,c,h=>by
   rw[X6];cases hb:n == k with
   | true=>exact⟨v,rfl⟩
   | false=>
     rcases W5.mp h with e | h
     ·cases e;simp at hb
     ·exact C6 h
noncomputable abbrev n8(X:Cx)(scope:Zf)(N':List Str)(s2:ZS)(H2:Hp)(cs:List (Str×ZT))(C:ZT)(fp:List ZT):Cx where
 prog:=X.prog
 w:=X.w
 K:=X.K
 mg:=X.mg
 base:=X.base
 A:=X.A
 N:=N'
 s₀:=s2
 H₀:=H2
 env:=A0G scope cs C X.env
 outer:=X.stack
 stack:=X.stack
 ex:=fp
 fn:=λx=>scope.names.lookup x == some .cell
 calm:=X.calm
 pn:=X.pn
 xe:=λ_ _=>False
def AR(sc0 sc:Zf)(own cn N:List Str)(js:List Nat):Bool:=
 (decide (sc.kind = .function))&&(sc.names.all λx=>!decide (x.2 = .free)||decide (sc0.names.lookup x.1=some .cell)||decide (sc0.names.lookup x.1=some .free))
 && decide ((sc.names.map (·.1)).Nodup)&&(own.all λx=>decide (sc.names.lookup x=some .local)||decide (sc.names.lookup x=some .cell))&&(cn.all λx=>decide (sc.names.lookup x=some .free))
 && decide ((own++cn).Nodup)&&decide (js.map (λj=>N[j]?)=cn.map some)
def BV(k:Nat)(js:List Nat)(σ:St):St:=Vx k none++js.map λj=>(σ[j]?).join
noncomputable def EM(X:Cx)(ifs:List Expr)(t:TT):Prop:=
 ∀(pq:List (ZT×Obj)) (s:ZS) (σ:St) (H:Hp) (Q:Bool->Hp->Prop),Inv X pq σ H s->t σ H Q->
  ZV (ZY X.prog X.w) X.A (forIn ifs true λc r=>if r=true then do let ok <- isTrue c X.env (eval c X.env);pure (ForInStep.yield ok) else pure (ForInStep.yield r)) (TP X pq σ Q) X.xe s
theorem MU{X:Cx}:EM X [] (λ_ H Q=>Q true H):=λ_ _ _ H _ I h=>wpAny_tests_nil ⟨H,I,h⟩
theorem MV{X:Cx}{c:Expr}{t:TT}(h:PT X c t):EM X [c] t:=λpq s σ H Q I hw=>wpAny_tests_one (h pq s σ H Q I hw)
theorem MW{M:Model}{A:Ze}{E:ZR->ZS->Prop}{s:ZS}{scope:Zf}{env:Env}{cl:List (Str×ZT)}{Q:Env->ZS->Prop}
 (h:Q (newEnv scope s.heap.objs.size env.globals (Zu (s.heap.objs.size+1) scope.names cl) env.qual none .none (some env) A0Y) {s with heap:=A17 (s.heap.push {cls := .type "dict",data := .dict #[]}) scope.names}):
 ZV M A (A0w scope env.globals cl [] env.qual none .none (some env)) Q E s:=by
 simp only[A0w,Ym,if_true];refine ZQ (wpAny_alloc ?_);refine ZQ (wpAny_layCells _ (λname kind cells=>by cases hkc:kind == NameKind.cell<;>simp[hkc]) _ _ _ _ ?_);rw[show({s with heap:=s.heap.push {cls := .type "dict",data := .dict #[]}}:ZS).heap.objs.size=s.heap.objs.size+1 from Wh ..];refine ZQ ?_;rw[Yc];exact ZU (ZU h)
structure CForm(prog:ZX)(w:Za)(A:Ze)(E tg iter:Expr)(ifs:List Expr)(emit:ZR->Env->Sem Unit)(dp:Nat:=0):Prop where
 turn:∀(it:ZR) (D:ZT) (env:Env),compTurn E dp it (.ref D) env=(do
  standAt iter.pos
  match <- pyNext it with
  | none=>pure (.done .next)
  | some v=>
    A0g tg it v
    assign tg env v
    let mut ok:=true
    for c in ifs do
     if ok then ok <- isTrue c env (eval c env)
    if ok then emit (.ref D) env
    again (.compLoop E dp it (.ref D) env))
 und:∀(it acc:ZR) (env:Env),A.under (.compLoop E dp it acc env)=A
 den:∀(it acc:ZR) (env:Env),(ZY prog w).den (.compLoop E dp it acc env)=(compTurn E dp it acc env).onRaise (λx=>do noteFrame x env;theTreesLotGoes x)
 start:∀{R:Result->ZS->Prop} {s:ZS} {it acc:ZR} {env:Env},codeAny (ZY prog w) A (.compLoop E dp it acc env) R s->ZV (ZY prog w) A (pyIter it) (λit' s'=>codeAny (ZY prog w) A (.compLoop E dp it' acc env) R s') (notedBy (ZY prog w) A env λx s'=>R (.error x) s') s->
  codeAny (ZY prog w) A (.compStart E dp it acc env) R s
theorem CForm.loop{prog:ZX}{w:Za}{A:Ze}{E tg iter:Expr}{ifs:List Expr}{emit:ZR->Env->Sem Unit}{dp:Nat}(F:CForm prog w A E tg iter ifs emit dp){R:Result->ZS->Prop}{s:ZS}{it:ZR}{D:ZT}{env:Env}(I:Nat->ZS->Prop)
 (turn:∀ n s,I n s->ZV (ZY prog w) A (pyNext it) (λr s₁=>match r with
   | none=>R (.ok .next) s₁
   | some v=>ZV (ZY prog w) A (A0g tg it v) (λ_ s₁'=>ZV (ZY prog w) A (assign tg env v) (λ_ s₂=>
      ZV (ZY prog w) A (forIn ifs true λc r=>if r=true then do let ok <- isTrue c env (eval c env);pure (ForInStep.yield ok) else pure (ForInStep.yield r)) (λok s₃=>
       if ok=true then ZV (ZY prog w) A (emit (.ref D) env) (λ_ s₅=>∃ m,m<n/\I m s₅) (λ_ _=>False) s₃
       else ∃ m,m<n/\I m s₃) (λ_ _=>False) s₂) (λ_ _=>False) s₁') (λ_ _=>False) s₁) (λ_ _=>False) s)
 (n:Nat) (h:I n s):
 codeAny (ZY prog w) A (.compLoop E dp it (.ref D) env) R s:=by
 refine codeAny_loop rfl I (λn s hI=>?_) n h;rw[F.und,F.den];refine wpAny_noted ?_;rw[F.turn];refine ZQ (A0p (ZQ (Zv (turn n s hI) (λr s₁ h₁=>?_) λ_ _ h'=>False.elim h')));cases r with
 | none=>exact ZU h₁
 | some v=>
   refine ZQ (Zv h₁ (λ_ s₁' h₁'=>?_) λ_ _ h'=>False.elim h');refine ZQ (Zv h₁' (λ_ s₂ h₂=>ZQ (Zv h₂ (λok s₃ h₃=>?_) λ_ _ h'=>False.elim h')) λ_ _ h'=>False.elim h');cases ok with
   | false=>exact ZU ⟨rfl,h₃⟩
   | true=>exact ZQ (Zv h₃ (λ_ s₅ h₅=>ZU ⟨rfl,h₅⟩) λ_ _ h'=>False.elim h')
noncomputable def SW{α:Type}(J:It)(g:TG)(tt:TT)(tem:α->St->Hp->(α->Hp->Prop)->Prop)(σ':St)(Q:Hp->Prop)(W:Nat->Nat->α->Hp->Prop):Prop:=
 ∀ i m a H,W i m a H->(J.stop i H/\Q H)\/(J.go i H/\∃ N:α->Hp->Prop,(∀ a' H',N a' H'->∃ m',m'<m/\W (i+1) m' a' H')/\∀ x H',J.yld i H x H'->g x σ' H' λσ2 H2=>tt σ2 H2 λb H3=>if b=true then tem a σ2 H3 N else N a H3)
def Uf(elt:Expr)(acc:ZR)(env:Env):Sem Unit:=do
 let x <- eval elt env
 let _ <- call (.builtin "list.append") [acc,x]
theorem IE{prog:ZX}{w:Za}{A:Ze}{elt tg iter:Expr}{ifs:List Expr}{scope:Zf}{pos:Pos}:CForm prog w A (.ListComp elt [⟨tg,iter,ifs,0⟩] scope pos) tg iter ifs (Uf elt) where
 turn:=λ_ _ _=>compTurn_list ..
 und:=λ_ _ _=>rfl
 den:=λ_ _ _=>rfl
 start:=λh0 h=>codeAny_compStart_list h0 h
def Va(te:TE)(D:ZT)(ys:List V)(σ:St)(H:Hp)(N:List V->Hp->Prop):Prop:=te σ H λv H4=>H4 D=some (.lst ys)/\ys.length<ZW/\N (ys++[v]) (upd H4 D (.lst (ys++[v])))
noncomputable def R1(J:It)(g:TG)(tt:TT)(te:TE)(D:ZT)(σ':St)(Q:List V->Hp->Prop)(W:Nat->Nat->List V->Hp->Prop):Prop:=
 ∀ i m ys H,W i m ys H->(J.stop i H/\Q ys H)\/(J.go i H/\∃ N:List V->Hp->Prop,(∀ ys' H',N ys' H'->∃ m',m'<m/\W (i+1) m' ys' H')/\∀ x H',J.yld i H x H'->g x σ' H' λσ2 H2=>tt σ2 H2 λb H3=>
  if b=true then te σ2 H3 λv H4=>H4 D=some (.lst ys)/\ys.length<ZW/\N (ys++[v]) (upd H4 D (.lst (ys++[v]))) else N ys H3)
noncomputable def MX(wi:TI)(g:TG)(tt:TT)(te:TE)(k:Nat)(js:List Nat):TE:=λσ H Q=>wi σ H λJ H1=>∀ D,H1 D=none->
 ∃ W:Nat->Nat->List V->Hp->Prop,(∃ m,W 0 m [] (upd H1 D (.lst [])))/\R1 J g tt te D (BV k js σ) (λ_ H=>Q (.ref D) H) W
section
variable{X:Cx}{pq:List (ZT×Obj)}{σ:St}{H2:Hp}{s2:ZS}{tg elt iter:Expr}{ifs:List Expr}{scope:Zf}{pos:Pos}{own cn:List Str}{js:List Nat}{g:TG}{tt:TT}{te:TE}
theorem GL{α:Type}{E:Expr}{emit:ZR->Env->Sem Unit}{mk:Sem ZR}{o0:Obj}{u0:HO}{a0:α}{tem:ZT->α->St->Hp->(α->Hp->Prop)->Prop}(F:CForm X.prog X.w X.A E tg iter ifs emit)(hmk:∀{Q:ZR->ZS->Prop},Q (.ref s2.heap.objs.size) {s2 with heap:=s2.heap.push o0}->ZV (ZY X.prog X.w) X.A mk Q X.xe s2)(nf0:o0.isFreed=false)(new0:∀(H:Hp) (h:Heap),h.get? s2.heap.objs.size=some o0->ObjOk X.prog X.w H h s2.heap.objs.size u0)(hok:AR X.env.scope scope own cn X.N js=true)(hc:X.calm=true)
 (hg:∀ s2 H2 cs C fp,PG (n8 X scope (own++cn) s2 H2 cs C fp) tg g) (ht:∀ s2 H2 cs C fp,EM (n8 X scope (own++cn) s2 H2 cs C fp) ifs tt) (hem:∀ D s2 H2 cs C fp pq s σ H (a:α) (N:α->Hp->Prop),Inv (n8 X scope (own++cn) s2 H2 cs C fp) pq σ H s->tem D a σ H N->ZV (ZY X.prog X.w) X.A (emit (.ref D) (A0G scope cs C X.env)) (λ_ s1=>∃ σ1 a1 H1,Inv (n8 X scope (own++cn) s2 H2 cs C fp) pq σ1 H1 s1/\N a1 H1) (λ_ _=>False) s)
 (I2:Inv X pq σ H2 s2) {it:ZT} {fp:List ZT} {tn:Nat->Heap->Prop} {J:It} (T:Turn X.prog X.w X.K tg J fp it tn) (st2:tn 0 s2.heap) (f2:∀ b∈fp,FpOk X pq H2 b)
 {Qe:Hp->Prop} (hW:∃ W:Nat->Nat->α->Hp->Prop,(∃ m,W 0 m a0 (upd H2 s2.heap.objs.size u0))/\SW J g tt (tem s2.heap.objs.size) (BV own.length js σ) Qe W)
 {RR:ZR->ZT->Result->ZS->Prop}
 (hRR:∀ C H' s',Inv X pq σ H' s'->FpOk X pq H' C->(∃ m,s'.heap.Ns C m)->Qe H'->RR (.ref s2.heap.objs.size) C (.ok .next) s'):
 ZV (ZY X.prog X.w) X.A mk (λacc s₃=>ZV (ZY X.prog X.w) X.A (A0w scope X.env.globals (AI X.env scope.names []) [] X.env.qual none .none (some X.env)) (λcenv s₄=>
  codeAny (ZY X.prog X.w) X.A (.compStart E 0 (.ref it) acc {cenv with scope:=relabel scope X.env}) (RR acc cenv.locals) s₄) X.xe s₃) X.xe s2:=by
 unfold AR at hok;simp only[Vn,dQ,WJ,Wg,WK,decide_eq_false_iff_not]at hok;obtain⟨⟨⟨⟨⟨⟨k1,k2⟩,k3⟩,k4⟩,k5⟩,k6⟩,k7⟩:=hok
 have hfreeK:∀ x∈scope.names,x.2 = .free->X.env.kindOf x.1=some .cell\/X.env.kindOf x.1=some .free:=λx hx hf=>by
  rcases k2 x hx with(z | z) | z
  ·exact absurd hf z
  ·exact .inl z
  ·exact .inr z
 have hfree:∀ x∈scope.names,x.2 = .free->∃ c,X.env.cells.lookup x.1=some c:=λx hx hf=>I2.ok.has x.1 (hfreeK x hx hf);refine hmk (MW ?_);have hsz3:(s2.heap.push o0).objs.size=s2.heap.objs.size+1:=Wh ..;dsimp only;generalize hh3:s2.heap.push o0=h3 at hsz3 ⊢;have old3:∀ b o,s2.heap.get? b=some o->h3.get? b=some o:=λb o e=>hh3▸Vs _ e;have hD3:h3.get? s2.heap.objs.size=some o0:=hh3▸W3 _ nf0;generalize hcs:Zu (h3.objs.size+1) scope.names (AI X.env scope.names [])=cs;generalize hh4:A17 (h3.push {cls := .type "dict",data := .dict #[]}) scope.names=h4;have old4:∀ b o,h3.get? b=some o->h4.get? b=some o:=λb o e=>hh4▸A0M _ _ b o (Vs _ e);have old:∀ b o,s2.heap.get? b=some o->h4.get? b=some o:=λb o e=>old4 b o (old3 b o e);have hD4:h4.get? s2.heap.objs.size=some o0:=old4 _ _ hD3;have hNs:h4.Ns h3.objs.size (λ_=>none):=hh4▸(Heap.Ns.new h3 (.type "dict")).keeps (A0M _ _);generalize hC:h3.objs.size=C at hNs hcs ⊢;have hCD:@Eq Nat C (s2.heap.objs.size+1):=by rw[<-hC];exact hsz3
 have clM:=Cj (env:=X.env) scope.names [] hfree (λp hp=>absurd hp (by simp));have cellLt:∀ x c,X.env.cells.lookup x=some c->@LT.lt Nat _ c s2.heap.objs.size:=λx c e=>by obtain⟨v,z⟩:=I2.cell x c e;exact z.lt
 have apart:cs.Pairwise λx y=>x.2≠y.2:=by
  rw[<-hcs];refine AZ _ _ _ (BZ I2.ok.inj scope.names [] k3 hfree List.Pairwise.nil λp hp=>absurd hp (by simp)) λp hp=>?_;have:=cellLt _ _ (clM p hp);show @LT.lt Nat _ p.2 (C+1);omega
 have csM:∀ p∈cs,X.env.cells.lookup p.1=some p.2\/(C+1<=p.2/\(p.1,NameKind.cell)∈scope.names/\h4.IsCell p.2 none):=λp hp=>by
  have hp0:=hp;rw[<-hcs]at hp;rcases AT _ _ _ p hp with z | ⟨z,y⟩
  ·exact .inl (clM p z)
  ·have e:h3.objs.size+1=(h3.push {cls := .type "dict",data := .dict #[]}).objs.size:=by rw[Wh]
   have hp':=hp;rw[<-hC,e]at hp';rcases Az _ _ _ p hp' with q | q
   ·exact .inl (clM p q)
   ·exact .inr ⟨z,y,hh4▸q⟩
 have hX:(n8 X scope (own++cn) s2 H2 cs C fp).Ok:=by
  refine⟨I2.ok.mod,k1,I2.ok.glob,I2.ok.blt,by show @LE.le Nat _ s2.heap.objs.size C;omega,λx y c h1 h2=>name_of_addr apart (PySem.mem_of_lookup h1) (PySem.mem_of_lookup h2),λx hx=>?_,λx c hf hx=>?_,I2.ok.hd,I2.ok.frames,.inl rfl,λb hb=>?_,I2.bs,WH I2.ok.bsz I2.sz,λb o e hb=>?_,λb hb hf=>?_,I2.stack,I2.stkFree⟩
  ·have hx':(relabel scope X.env).names.lookup x=some .cell\/(relabel scope X.env).names.lookup x=some .free:=hx
   have hl:scope.names.lookup x=some .cell\/scope.names.lookup x=some .free:=by
    unfold relabel at hx';dsimp only at hx';rw[AJ]at hx';cases e:scope.names.lookup x with
    | none=>rw[e]at hx';simp at hx'
    | some k=>
      rw[e]at hx';cases k<;>simp_all
   have:∃ c,(x,c)∈cs:=by
    rw[<-hcs];rcases hl with hl | hl
    ·exact Ay _ _ _ x (PySem.mem_of_lookup hl)
    ·obtain⟨c,hc'⟩:=Cl (env:=X.env) scope.names [] x (PySem.mem_of_lookup hl);exact⟨c,AU _ _ _ _ hc'⟩
   obtain⟨c,hm⟩:=this;exact C6 hm
  ·have hf':scope.names.lookup x=some .cell:=by simpa using hf
   have hm:=PySem.mem_of_lookup (show cs.lookup x=some c from hx);rcases csM _ hm with z | ⟨z,_⟩
   ·
    rw[<-hcs]at hm;rcases AT _ _ _ _ hm with q | ⟨q,_⟩
    ·rcases BY (env:=X.env) scope.names [] _ q with q' | q'
     ·exact absurd q' (by simp)
     ·have:=t5 k3 q';have h2:scope.names.lookup x=some .free:=this;rw[hf']at h2;cases h2
    ·show @LE.le Nat _ s2.heap.objs.size c;have q2:@LE.le Nat _ (C+1) c:=q;omega
   ·show @LE.le Nat _ s2.heap.objs.size c;have z2:@LE.le Nat _ (C+1) c:=z;omega
  ·obtain⟨f0,f1,f2',f3,f4,f5⟩:=f2 b hb;obtain⟨o,ho,_⟩:=T.obj 0 _ st2 b hb;have hb2:@LT.lt Nat _ b s2.heap.objs.size:=Vv ho;refine⟨?_,λx c e=>?_⟩
   ·show @Ne Nat b C;omega
   ·rcases csM _ (PySem.mem_of_lookup (show cs.lookup x=some c from e)) with z | ⟨z,_⟩
    ·exact f4 x c z
    ·have z2:@LE.le Nat _ (C+1) c:=z;show @Ne Nat c b;omega
  ·obtain⟨f0,f1,f2',f3,f4,f5⟩:=f2 b hb;rcases f3 with z | z
   ·exact I2.ok.noex b o e z
   ·exact absurd (WR (Vv e) (WH I2.ok.bsz z)) (XW _)
  ·obtain⟨f0,f1,f2',_⟩:=f2 b hb;rcases W5.mp (I2.stkSub b hf) with z | z
   ·exact f1 z
   ·exact f2' z
 have hDn:H2 s2.heap.objs.size=none:=I2.fresh;have hCn:H2 C=none:=I2.hok.fresh (show @LE.le Nat _ s2.heap.objs.size C by omega)
 have stkNe:∀ b,b≠X.env.locals->b∉X.fs->b∉frs X.stack:=λb h1 h2 hb=>by
  rcases W5.mp (I2.stkSub b hb) with z | z
  ·exact h1 z
  ·exact h2 z
 have I4:Inv (n8 X scope (own++cn) s2 H2 cs C fp) pq (BV own.length js σ) (upd H2 s2.heap.objs.size u0) {s2 with heap:=h4}:=by
  refine⟨hX,rfl,I2.bare,Un.laid old (Vt _) hDn,⟨λ_=>none,hNs,λi x v e1 e2 e3=>?_⟩,λx c e=>?_,?_,λx c e=>?_,λp hp=>?_,I2.hok.laid old (Vt _) (new0 _ _ hD4),?_⟩
  ·
   have hi:own.length<=i:=by
    rcases XT i own.length with z | z
    ·exfalso;unfold BV at e2;rw[W6 (by simpa using z),X5,iP z]at e2;cases e2
    ·exact z
   have e1':cn[i - own.length]?=some x:=by
    have:(own++cn)[i]?=some x:=e1;rw[We hi]at this;exact this
   have e2':(js.map λj=>(σ[j]?).join)[i - own.length]?=some (some v):=by
    unfold BV at e2;rw[We (by simpa using hi)]at e2;simpa using e2
   rw[Vu]at e2';cases hj:js[i - own.length]? with
   | none=>rw[hj]at e2';cases e2'
   | some j=>
     rw[hj]at e2';have e2'':(σ[j]?).join=some v:=by simpa using e2'
     have hσ:σ[j]?=some (some v):=by
      cases q:σ[j]? with
      | none=>rw[q]at e2'';cases e2''
      | some z=>rw[q]at e2'';simp at e2'';rw[e2'']
     have hNx:X.N[j]?=some x:=by
      have:=congrArg (λl=>l[i - own.length]?) k7;simp only[Vu,hj,e1',XA]at this;exact oj this
     have hfx:scope.names.lookup x=some .free:=k5 x (Vp e1');have hK:=hfreeK (x,.free) (PySem.mem_of_lookup hfx) rfl;have hK':X.env.kindOf x=some .cell\/X.env.kindOf x=some .free:=hK;obtain⟨m,hn,hl⟩:=I2.loc
     have hvis:Vis X.env.scope x:=by
      rcases hK' with z | z
      ·exact .inr (.inl z)
      ·exact .inr (.inr z)
     obtain⟨u,r,l⟩:=hl j x v hNx hσ hvis;refine⟨u,r,.inr ?_⟩;rcases l with⟨l1,_⟩ | ⟨l1,c,l2,l3⟩
     ·rcases hK' with z | z
      ·rw[z]at l1;cases l1
      ·rw[z]at l1;cases l1
     ·have hrl:(A0G scope cs C X.env).kindOf x=some .cell\/(A0G scope cs C X.env).kindOf x=some .free:=by
       show(relabel scope X.env).names.lookup x=_\/(relabel scope X.env).names.lookup x=_;unfold relabel;dsimp only;rw[AJ,hfx];simp only[XA];split
       ·exact .inl rfl
       ·exact .inr rfl
      refine⟨hrl,c,?_,l3.keeps λb o e=>old b o e⟩;show cs.lookup x=some c;obtain⟨c',hc'⟩:=hX.has x hrl;have hc2:cs.lookup x=some c':=hc';rw[hc2];have hm:=PySem.mem_of_lookup hc2
      have:X.env.cells.lookup x=some c':=by
       rcases csM _ hm with z | ⟨_,z,_⟩
       ·exact z
       ·have:=t5 k3 z;have h2:scope.names.lookup x=some .cell:=this;rw[hfx]at h2;cases h2
      rw[l2]at this;exact this.symm
  ·rcases csM _ (PySem.mem_of_lookup (show cs.lookup x=some c from e)) with z | ⟨_,_,z⟩
   ·obtain⟨v,q⟩:=I2.cell _ _ z;exact⟨v,q.keeps λb o e=>old b o e⟩
   ·exact⟨none,z⟩
  ·show upd H2 s2.heap.objs.size u0 C=none;rw[j8 (show @Ne Nat C s2.heap.objs.size by omega)];exact hCn
  ·have hne:c≠s2.heap.objs.size/\H2 c=none:=by
    rcases csM _ (PySem.mem_of_lookup (show cs.lookup x=some c from e)) with z | ⟨z,_,_⟩
    ·exact⟨W0 (cellLt _ _ z),I2.freeC _ _ z⟩
    ·have z2:@LE.le Nat _ (C+1) c:=z;exact⟨show @Ne Nat c s2.heap.objs.size by omega,I2.hok.fresh (show @LE.le Nat _ s2.heap.objs.size c by omega)⟩
   rw[j8 hne.1];exact hne.2
  ·obtain⟨e,n,ne,nf,d⟩:=I2.pin p hp;have hlt:@LT.lt Nat _ p.1 s2.heap.objs.size:=Vv e;refine⟨old _ _ e,?_,?_,stkNe _ ne nf,d⟩
   ·rw[j8 (W0 hlt)];exact n
   ·show @Ne Nat p.1 C;omega
  ·show(BV own.length js σ).length=(own++cn).length;unfold BV;have hl:=congrArg Y6 k7;simp only[Vm]at hl;simp[hl]
 have stat:∀{H':Hp},(∀ b∈fp,H' b=none)->∀ b∈fp,FpOk (n8 X scope (own++cn) s2 H2 cs C fp) pq H' b:=λhn b hb=>by
  obtain⟨f0,f1,f2',f3,f4,f5⟩:=f2 b hb;exact⟨hn b hb,(hX.exf b hb).1,stkNe b f1 f2',.inl hb,λx c e=>(hX.exf b hb).2 x c e,f5⟩
 have back:∀{σ':St} {H':Hp} {s':ZS},Inv (n8 X scope (own++cn) s2 H2 cs C fp) pq σ' H' s'->Inv X pq σ H' s':=λ{σ' H' s'} J'=>
  I2.call' (ch:=fp) J'.os J'.base J'.hok J'.bare λb hb=>by
   obtain⟨f0,f1,f2',f3,f4,f5⟩:=f2 b hb;exact⟨f3,f1,f4,f5⟩
 obtain⟨W,⟨m0,w0⟩,turn⟩:=hW
 have loop:codeAny (ZY X.prog X.w) X.A (.compLoop E 0 (.ref it) (.ref s2.heap.objs.size) (A0G scope cs C X.env)) (RR (.ref s2.heap.objs.size) C) {s2 with heap:=h4}:=by
  refine F.loop (λn s'=>∃ i ys H',Inv (n8 X scope (own++cn) s2 H2 cs C fp) pq (BV own.length js σ) H' s'/\tn i s'.heap/\(∀ b∈fp,H' b=none)/\W i n ys H') ?_ m0
   ⟨0,a0,_,I4,T.keep _ _ _ st2 λb hb o e=>old b o e,λb hb=>?_,w0⟩
  ·rintro n s3 ⟨i,ys,H3,I3,st3,fr3,w3⟩;rcases turn i n ys H3 w3 with⟨stop,q⟩ | ⟨go,N,hN,step⟩
   ·refine thn (T.done (n8 X scope (own++cn) s2 H2 cs C fp) rfl rfl rfl hc i pq s3 _ H3 _ I3 (stat fr3) st3 stop) λr s4 ⟨hr,I5⟩=>?_;subst hr;obtain⟨m,hn,_⟩:=I5.loc;exact hRR C H3 s4 (back I5) (I2.fpOk (show @LE.le Nat _ s2.heap.objs.size C by omega) I5.free) ⟨m,hn⟩ q
   ·refine thn (T.item (n8 X scope (own++cn) s2 H2 cs C fp) rfl rfl rfl hc i pq s3 _ H3 _ I3 (stat fr3) st3 go) λr s4 ⟨u,hr,h4'⟩=>?_;subst hr;refine thn h4' λ_ s5 ⟨x,H5,I5,r5,y5,st5,fr5⟩=>?_;have I5':=I5.pinned (stat fr5) (T.obj _ _ st5);refine thn (hg s2 H2 cs C fp _ s5 _ H5 x u _ I5' r5 (step x H5 y5)) λ_ s6 ⟨σ6,H6,I6,q6⟩=>?_;refine thn (ht s2 H2 cs C fp _ s6 σ6 H6 _ I6 q6) λb s7 ⟨H7,I7,q7⟩=>?_
    have again:∀{σ8:St} {H8:Hp} {s8:ZS} {ys8:α},Inv (n8 X scope (own++cn) s2 H2 cs C fp) (pq++C8 fp s5.heap) σ8 H8 s8->(∀(j:Nat) v,(BV own.length js σ)[j]?=some (some v)->σ8[j]?=some (some v))->(∃ m',m'<n/\W (i+1) m' ys8 H8)->
     ∃ m,m<n/\∃ i ys H',Inv (n8 X scope (own++cn) s2 H2 cs C fp) pq (BV own.length js σ) H' s8/\tn i s8.heap/\(∀ b∈fp,H' b=none)/\W i m ys H':=λ{σ8 H8 s8 ys8} I8 hw8 ⟨m',hm,w8⟩=>by
     refine⟨m',hm,i+1,ys8,H8,I8.unpinned.weak (by rw[I8.len,I4.len]) hw8,T.keep _ _ _ st5 λb hb o e=>(I8.pin (b,o) (Wi _ (Wi _ (BG hb e)))).1,λb hb=>?_,w8⟩;obtain⟨o,e,d⟩:=T.obj _ _ st5 b hb;exact(I8.pin (b,o) (Wi _ (Wi _ (BG hb e)))).2.1
    have capK:∀{σ8:St} {H8:Hp} {s8:ZS},Inv (n8 X scope (own++cn) s2 H2 cs C fp) (pq++C8 fp s5.heap) σ8 H8 s8->Inv (n8 X scope (own++cn) s2 H2 cs C fp) (pq++C8 fp s5.heap) (BV own.length js σ) H8 s8:=λ{σ8 H8 s8} I8=>by
     have IX:=back I8.unpinned;refine⟨I8.ok,I8.os,I8.bare,I8.base,?_,I8.cell,I8.free,I8.freeC,I8.pin,I8.hok,I4.len⟩;obtain⟨m,hn,_⟩:=I8.loc;refine⟨m,hn,λi x v e1 e2 e3=>?_⟩;obtain⟨mx,hnx,hlx⟩:=IX.loc
     have hi:own.length<=i:=by
      rcases XT i own.length with z | z
      ·exfalso;unfold BV at e2;rw[W6 (by simpa using z),X5,iP z]at e2;cases e2
      ·exact z
     have e1':cn[i - own.length]?=some x:=by
      have:(own++cn)[i]?=some x:=e1;rw[We hi]at this;exact this
     have e2':(js.map λj=>(σ[j]?).join)[i - own.length]?=some (some v):=by
      unfold BV at e2;rw[We (by simpa using hi)]at e2;simpa using e2
     rw[Vu]at e2';cases hj:js[i - own.length]? with
     | none=>rw[hj]at e2';cases e2'
     | some j=>
       rw[hj]at e2';have e2'':(σ[j]?).join=some v:=by simpa using e2'
       have hσ:σ[j]?=some (some v):=by
        cases q:σ[j]? with
        | none=>rw[q]at e2'';cases e2''
        | some z=>rw[q]at e2'';simp at e2'';rw[e2'']
       have hNx:X.N[j]?=some x:=by
        have:=congrArg (λl=>l[i - own.length]?) k7;simp only[Vu,hj,e1',XA]at this;exact oj this
       have hfx:scope.names.lookup x=some .free:=k5 x (Vp e1');have hK':X.env.kindOf x=some .cell\/X.env.kindOf x=some .free:=hfreeK (x,.free) (PySem.mem_of_lookup hfx) rfl
       have hvis:Vis X.env.scope x:=by
        rcases hK' with z | z
        ·exact .inr (.inl z)
        ·exact .inr (.inr z)
       obtain⟨u,r,l⟩:=hlx j x v hNx hσ hvis;refine⟨u,r,.inr ?_⟩;rcases l with⟨l1,_⟩ | ⟨l1,c,l2,l3⟩
       ·rcases hK' with z | z
        ·rw[z]at l1;cases l1
        ·rw[z]at l1;cases l1
       ·have hrl:(A0G scope cs C X.env).kindOf x=some .cell\/(A0G scope cs C X.env).kindOf x=some .free:=by
         show(relabel scope X.env).names.lookup x=_\/(relabel scope X.env).names.lookup x=_;unfold relabel;dsimp only;rw[AJ,hfx];simp only[XA];split
         ·exact .inl rfl
         ·exact .inr rfl
        refine⟨hrl,c,?_,l3⟩;show cs.lookup x=some c;obtain⟨c',hc'⟩:=hX.has x hrl;have hc2:cs.lookup x=some c':=hc';rw[hc2];have hm:=PySem.mem_of_lookup hc2
        have:X.env.cells.lookup x=some c':=by
         rcases csM _ hm with z | ⟨_,z,_⟩
         ·exact z
         ·have:=t5 k3 z;have h2:scope.names.lookup x=some .cell:=this;rw[hfx]at h2;cases h2
        rw[l2]at this;exact this.symm
    cases b with
    | false=>
      rw[iG Vy];rw[iG Vy]at q7;exact again (capK I7) (λ_ _ e=>e) (hN _ _ q7)
    | true=>
      rw[iP rfl];rw[iP rfl]at q7;exact thn (hem _ s2 H2 cs C fp _ s7 σ6 H7 _ _ I7 q7) λ_ s9 ⟨σ9,a9,H9,I9,q9⟩=>again (capK I9) (λ_ _ e=>e) (hN _ _ q9)
  ·obtain⟨f0,_⟩:=f2 b hb;obtain⟨o,ho,_⟩:=T.obj 0 _ st2 b hb;rw[j8 (W0 (Vv ho))];exact f0
 exact F.start loop (T.self _ 0 _ _ _ (T.keep _ _ _ st2 λb hb o e=>old b o e) loop)
theorem Da(hok:AR X.env.scope scope own cn X.N js=true)(hc:X.calm=true)
 (hg:∀ s2 H2 cs C fp,PG (n8 X scope (own++cn) s2 H2 cs C fp) tg g) (ht:∀ s2 H2 cs C fp,EM (n8 X scope (own++cn) s2 H2 cs C fp) ifs tt) (he:∀ s2 H2 cs C fp,PE (n8 X scope (own++cn) s2 H2 cs C fp) elt te)
 (I2:Inv X pq σ H2 s2) {it:ZT} {fp:List ZT} {tn:Nat->Heap->Prop} {J:It} (T:Turn X.prog X.w X.K tg J fp it tn) (st2:tn 0 s2.heap) (f2:∀ b∈fp,FpOk X pq H2 b)
 {Qe:Hp->Prop} (hW:∃ W:Nat->Nat->List V->Hp->Prop,(∃ m,W 0 m [] (upd H2 s2.heap.objs.size (.lst [])))/\R1 J g tt te s2.heap.objs.size (BV own.length js σ) (λ_ H=>Qe H) W)
 {RR:ZR->ZT->Result->ZS->Prop}
 (hRR:∀ C H' s',Inv X pq σ H' s'->FpOk X pq H' C->(∃ m,s'.heap.Ns C m)->Qe H'->RR (.ref s2.heap.objs.size) C (.ok .next) s'):
 ZV (ZY X.prog X.w) X.A (newList []) (λacc s₃=>ZV (ZY X.prog X.w) X.A (A0w scope X.env.globals (AI X.env scope.names []) [] X.env.qual none .none (some X.env)) (λcenv s₄=>
  codeAny (ZY X.prog X.w) X.A (.compStart (.ListComp elt [⟨tg,iter,ifs,0⟩] scope pos) 0 (.ref it) acc {cenv with scope:=relabel scope X.env}) (RR acc cenv.locals) s₄) X.xe s₃) X.xe s2:=by
 obtain⟨W,w0,hw⟩:=hW;refine GL (RR:=RR) (a0:=[]) (o0:={cls := .type "list",dict:=none,data := .seq ([]:List ZR).toArray}) (u0 := .lst []) (tem:=Va te) IE (λhq=>Zd hq) rfl (λ_ _ hD=>⟨Wy _,[],0,.nil,hD⟩) hok hc hg ht (λD s2 H2 cs C fp pq s σ H ys N I h=>?_) I2 T st2 f2 ⟨W,w0,hw⟩ hRR;refine ZQ (thn (he s2 H2 cs C fp _ s σ H _ I h) λy s8 ⟨v,H8,I8,r8,hD8,hz8,q8⟩=>?_);refine ZQ (thn (Ci (X:=n8 X scope (own++cn) s2 H2 cs C fp) _ s8 σ H8 (.ref D) [v] (.ref D) [y] (λ_ H9=>H9=upd H8 D (.lst (ys++[v]))) I8 rfl (.cons r8 .nil) ⟨_,ys,v,rfl,rfl,hD8,hz8,rfl⟩) λ_ s9 ⟨z,H9,I9,r9,e9⟩=>?_);subst e9;exact ZU ⟨_,_,_,I9,q8⟩
theorem PH{wi:TI}(own cn:List Str)(js:List Nat)(hi:PI X tg iter wi)(hg:∀ s2 H2 cs C fp,PG (n8 X scope (own++cn) s2 H2 cs C fp) tg g)(ht:∀ s2 H2 cs C fp,EM (n8 X scope (own++cn) s2 H2 cs C fp) ifs tt)
 (he:∀ s2 H2 cs C fp,PE (n8 X scope (own++cn) s2 H2 cs C fp) elt te) (hc:X.calm=true:=by rfl) (hok:AR X.env.scope scope own cn X.N js=true:=by kernel_rfl)
 (hs:∀ x,A0j iter X.env x=pure x:=by intro _;rfl):PE X (.ListComp elt [⟨tg,iter,ifs,0⟩] scope pos) (MX wi g tt te own.length js):=by
 intro pq s σ H Q I h;have hok':=hok;unfold AR at hok';simp only[Vn,dQ,WJ,Wg,WK,decide_eq_false_iff_not]at hok';obtain⟨⟨⟨⟨⟨⟨k1,k2⟩,k3⟩,k4⟩,k5⟩,k6⟩,k7⟩:=hok'
 have hfree:∀ x∈scope.names,x.2 = .free->∃ c,X.env.cells.lookup x.1=some c:=λx hx hf=>I.ok.has x.1 (by
  rcases k2 x hx with(z | z) | z
  ·exact absurd hf z
  ·exact .inl z
  ·exact .inr z)
 rw[eval_ListComp];refine A0C (use:=none) rfl hs (B6 hfree) k1 (λx hx hl=>?_) (thn (hi pq s σ H _ I h) λv s1 h1=>thn h1 λitv s2 h2=>?_)
 ·have:=t5 k3 (show(x.1,x.2)∈scope.names from hx);rw[this,hl]
 ·obtain⟨it,fp,tn,J,H2,e,I2,T,st2,f2,q⟩:=h2;subst e;refine Da (RR:=λacc C=>compPost (ZY X.prog X.w) X.A X.xe none (EP X pq σ Q) acc C) hok hc hg ht he I2 T st2 f2 (q _ I2.fresh) ?_;intro C H' s' I' fC ⟨m,hn⟩ q';obtain⟨f0,f1,f2',f3,f4,f5⟩:=fC;refine⟨m,hn,λh' hs'=>⟨.ref s2.heap.objs.size,H',?_,rfl,q'⟩⟩;exact I'.turned (t':=s'.toks) (λb o hb e=>(hs'.2 b hb).trans e) f0 f1 f3 f4 f5
theorem IF{wi:TI}{i:Nat}{x:Str}{px spos:Pos}(own cn:List Str)(js:List Nat)(hN:X.N.Nodup)(hix:X.N[i]?=some x)(hx:X.env.scope.names.lookup x=some .local)(hi:PI X tg iter wi)
 (hg:∀ s2 H2 cs C fp,PG (n8 X scope (own++cn) s2 H2 cs C fp) tg g) (ht:∀ s2 H2 cs C fp,EM (n8 X scope (own++cn) s2 H2 cs C fp) ifs tt)
 (he:∀ s2 H2 cs C fp,PE (n8 X scope (own++cn) s2 H2 cs C fp) elt te) (hc:X.calm=true:=by rfl) (hok:AR X.env.scope scope own cn X.N js=true:=by kernel_rfl)
 (hsw:A02 (.ListComp elt [⟨tg,iter,ifs,0⟩] scope pos) (some (.Name x px)) spos.line X.env=pure true:=by rfl)
 (hs:∀ x,A0j iter X.env x=pure x:=by intro _;rfl):PS X (.Assign [.Name x px] (.ListComp elt [⟨tg,iter,ifs,0⟩] scope pos) spos) (Hr (MX wi g tt te own.length js) (JG i)):=by
 intro pq s σ H D I h;have hok':=hok;unfold AR at hok';simp only[Vn,dQ,WJ,Wg,WK,decide_eq_false_iff_not]at hok';obtain⟨⟨⟨⟨⟨⟨k1,k2⟩,k3⟩,k4⟩,k5⟩,k6⟩,k7⟩:=hok'
 have hfree:∀ x∈scope.names,x.2 = .free->∃ c,X.env.cells.lookup x.1=some c:=λx hx hf=>I.ok.has x.1 (by
  rcases k2 x hx with(z | z) | z
  ·exact absurd hf z
  ·exact .inl z
  ·exact .inr z)
 rw[exec_Assign_Name_used _ _ _ _ hsw];refine ZQ (A0p (ZQ ?_));show ZV _ X.A (do let _ <- comprehension (.ListComp elt [⟨tg,iter,ifs,0⟩] scope pos) scope X.env _ (newList []) false (eval iter X.env) (some (assign (.Name x px) X.env))) _ _ s
 refine ZQ (Zv (A0C (use:=some (assign (.Name x px) X.env)) (Q:=λ_ s'=>SP X pq D .next s') rfl hs (B6 hfree) k1 (λx hx hl=>?_)
  (thn (hi pq s σ H _ I h) λv s1 h1=>thn h1 λitv s2 h2=>?_)) (λ_ s' hq=>ZU (ZU hq)) λ_ _ e=>e)
 ·have:=t5 k3 (show(x.1,x.2)∈scope.names from hx);rw[this,hl]
 ·obtain⟨it,fp,tn,J,H2,e,I2,T,st2,f2,q⟩:=h2;subst e;refine Da (RR:=λacc C=>compPost (ZY X.prog X.w) X.A X.xe (some (assign (.Name x px) X.env)) (λ_ s'=>SP X pq D .next s') acc C) hok hc hg ht he I2 T st2 f2 (q _ I2.fresh) ?_;intro C H' s' I' fC ⟨m,hn⟩ q';obtain⟨f0,f1,f2',f3,f4,f5⟩:=fC;show ZV _ X.A (assign (.Name x px) X.env (.ref s2.heap.objs.size)) _ _ _;refine A10 (EW I' hN hix (.inl hx) (v := .ref s2.heap.objs.size) rfl (λs3 I3 hch=>?_) (.inr hx));obtain⟨a,hsb,ha⟩:=hch
  have hCa:C≠a:=by
   rcases ha with z | z
   ·rw[z];exact f1
   ·exact λe=>f4 x a z e.symm
  refine⟨m,hn.sameBut hsb hCa,λh' hs'=>?_⟩;exact⟨_,H',I3.turned (t':=s3.toks) (λb o hb e=>(hs'.2 b hb).trans e) f0 f1 f3 f4 f5,q'⟩
end
end L2
namespace PySem
open AutoSeq1 (wpAny_loadPart')
section
variable{prog:ZX}{w:Za}{A:Ze}{E:ZR->ZS->Prop}{s:ZS}
theorem BW{it l:ZT}{i:Nat}{items}{x:ZR}{Q:ZR->ZS->Prop}(hit:s.heap.IsTupleIter it l i)
 (hl:s.heap.IsTuple l items) (hx:items[i]?=some x)
 (hQ:∀ h',h'.IsTupleIter it l (i+1)->Ww it s.heap h'->Q x {s with heap:=h'}):
 ZV (ZY prog w) A (Builtin.SmallTypes.nextOf (.ref it)) Q E s:=by
 obtain⟨o,ho,hc,hd⟩:=id hit;obtain⟨ol,hol,_,nl,hdl⟩:=hl;unfold Builtin.SmallTypes.nextOf
 refine ZQ (Zi (name:=Str.ofString "__next__") hit.typeIs F.slot_tuple_iterator_next
  (Zm F.slot_tuple_iterator_next hit.typeIs F.entry_tuple_iterator_next ?_ (F.args_tuple_iterator_next_1 _)))
 show ZV _ _ (field (.ref it) 0 >>= _) _ _ s;refine ZQ (Zk ho hd (x := .ref l) rfl ?_);show ZV _ _ (if (Value.ref l == Value.none)=true then _ else _) _ _ s;rw[iG (show ¬ ((Value.ref l == Value.none)=true) from Vy)];show ZV _ _ (field (.ref it) 1 >>= _) _ _ s;refine ZQ (Zk ho hd (x := .int i 0) rfl ?_);show ZV _ _ (A0n (.ref l) >>= _) _ _ s;refine ZQ (Zj hol hdl ?_);simp only[Ws,hx];refine ZQ (A0x ho hd (by simp) (ZU ⟨x,rfl,ZU (hQ _ ?_ (Ww.update ..))⟩))
 exact⟨_,Wr _ ho (Obj.isFreed_of_fields (Obj.data_mapFields hd _)),(Obj.cls_mapFields ..).trans hc,by
  rw[Obj.data_mapFields hd];simp[rawInt]⟩
theorem Ba{it l:ZT}{i:Nat}{items}{Q:ZR->ZS->Prop}(hh:A.handled=none)
 (hit:s.heap.IsTupleIter it l i) (hl:s.heap.IsTuple l items) (hx:items[i]?=none)
 (hE:∀ h' e,ZO it s.heap h'->(∃ o,h'.get? e=some o/\o.cls = .type "StopIteration")->E (.ref e) {s with heap:=h'}):
 ZV (ZY prog w) A (Builtin.SmallTypes.nextOf (.ref it)) Q E s:=by
 obtain⟨o,ho,hc,hd⟩:=id hit;obtain⟨ol,hol,_,nl,hdl⟩:=hl;unfold Builtin.SmallTypes.nextOf
 refine ZQ (Zi (name:=Str.ofString "__next__") hit.typeIs F.slot_tuple_iterator_next
  (Zm F.slot_tuple_iterator_next hit.typeIs F.entry_tuple_iterator_next ?_ (F.args_tuple_iterator_next_1 _)))
 show ZV _ _ (field (.ref it) 0 >>= _) _ _ s;refine ZQ (Zk ho hd (x := .ref l) rfl ?_);show ZV _ _ (if (Value.ref l == Value.none)=true then _ else _) _ _ s;rw[iG (show ¬ ((Value.ref l == Value.none)=true) from Vy)];show ZV _ _ (field (.ref it) 1 >>= _) _ _ s;refine ZQ (Zk ho hd (x := .int i 0) rfl ?_);show ZV _ _ (A0n (.ref l) >>= _) _ _ s;refine ZQ (Zj hol hdl ?_);simp only[Ws,hx];refine ZQ (A0b (ZQ (A0x ho hd (by simp) ?_)))
 first
  | refine ZQ (Zx ?_)
  | skip
 show ZV _ _ (newExc (.type "StopIteration") [] >>= _) _ _ _;refine ZQ ?_;simp only[newExc,newTuple];refine ZQ (Zd ?_ (by size_fits));refine ZQ (m:=A0y _ _) (A0Q (a:=Value.none) (by first | rfl | (simp only[A0y];rfl)) ?_);refine Zd ?_ (by size_fits);simp only[raiseNew];refine ZQ (wpAny_handled ?_)
 first | rw[show A.in1.handled=none from hh] | rw[hh]
 refine ZQ (ZU (wpAny_throw ?_));exact hE _ _ (((Ww.update ..).extBut.push _).push _) ⟨_,W3 _ rfl,rfl⟩
end
theorem v6{prog:ZX}{w:Za}{A:Ze}(hh:A.handled=none)(it l:ZT)(hne:l≠it)(items:Array ZR):
 Draws prog w A it [it,l] items.size (λi v=>items[i]?=some v) (λi h=>h.IsTupleIter it l i/\h.IsTuple l items) where
 live:=λ_ _ st=>let ⟨o,ho,_⟩:=st.1;⟨o,ho⟩
 frame:=λ_ _ _ st hk=>⟨st.1.at λo e=>hk it (by simp) o e,let ⟨o,ho,r⟩:=st.2;⟨o,hk l (by simp) o ho,r⟩⟩
 item:=λi s Q E hi st hQ=>by
  refine BW st.1 st.2 (x:=items[i]) (by simp[hi]) λh' hit' hs'=>?_;exact hQ _ h' s.toks (by simp[hi]) ⟨hit',st.2.extBut hs'.extBut hne⟩ hs'
 done:=λs Q E st hE=>Ba hh st.1 st.2 (by simp) hE
theorem CA(l:ZT)(items:Array ZR)(n:Nat)(dct:Option ZT)(sl:Array (Option ZR)):
 Meets (Builtin.«enumerate.__new__» ⟨[.type "enumerate",.ref l],[]⟩) (λ_ R s=>s.heap.get? l=some {cls := .type "tuple",dict:=dct,data := .seq items n,slots:=sl}/\
  R (.ok (.ret (.ref (s.heap.push {cls := .type "tuple_iterator",data := .fields #[.ref l,.int 0 0]}).objs.size)))
   {s with heap:=(s.heap.push {cls := .type "tuple_iterator",data := .fields #[.ref l,.int 0 0]}).push {cls := .type "enumerate",data := .fields #[.none,.bool false,.ref s.heap.objs.size,rawInt 0,.none,.none]}}):=
 .of_wp λprog w A R s h=>by
  obtain⟨hp,g,d,tk,os⟩:=s;obtain⟨hl,h⟩:=h;have hsub:=sub_enumerate;have hL:Yp (Shared.heap ⟨hp,g,d,tk,os⟩) l items:=⟨_,hl,rfl,n,rfl⟩
  wp_walk using wpAny_loadPart' hl
  refine wpAny_stack_any λst=>ZU ?_;split
  ·rename_i c _ _ _ _ _;cases(c == Value.type "enumerate")
   ·wp_walk using wpAny_loadPart' hl,Zr hL
    exact⟨_,rfl,h⟩
   ·wp_walk using wpAny_loadPart' hl,Zr hL
    exact⟨_,rfl,h⟩
  ·wp_walk using wpAny_loadPart' hl,Zr hL
   exact⟨_,rfl,h⟩
section
variable{prog:ZX}{w:Za}{A:Ze}{E:ZR->ZS->Prop}{s:ZS}
theorem B0{l:ZT}{items:Array ZR}{Q:ZR->ZS->Prop}(hL:s.heap.IsTuple l items)
 (h:∀ h',IsEnum h' (s.heap.objs.size+1) s.heap.objs.size 0 .none->h'.IsTupleIter s.heap.objs.size l 0->h'.objs.size=s.heap.objs.size+2->
   (∀ b o,s.heap.get? b=some o->h'.get? b=some o)->Q (.ref (s.heap.objs.size+1)) {s with heap:=h'}):
 ZV (ZY prog w) A (call (.type "enumerate") [.ref l]) Q E s:=by
 obtain⟨⟨c,dct,dt,sl⟩,hl,hc,n,hd⟩:=hL;replace hc:c = .type "tuple":=hc;replace hd:dt = .seq items n:=hd;subst hc hd
 refine callType_new F.called_enumerate (by decide) (F.typeCall_enumerate_1 _) (F.newCall_enumerate_1 _) (λobj=>F.args_object_init_2 obj _) F.entry_enumerate_new
  (CA l items n dct sl) ⟨hl,?_⟩
 have hz:(s.heap.push {cls := .type "tuple_iterator",data := .fields #[.ref l,.int 0 0]}).objs.size=s.heap.objs.size+1:=Wh ..;show _/\_;rw[hz]
 have he:IsEnum ((s.heap.push {cls := .type "tuple_iterator",data := .fields #[.ref l,.int 0 0]}).push
  {cls := .type "enumerate",data := .fields #[.none,.bool false,.ref s.heap.objs.size,rawInt 0,.none,.none]}) (s.heap.objs.size+1) s.heap.objs.size 0 .none:=by
  have:=W3 (s.heap.push {cls := .type "tuple_iterator",data := .fields #[.ref l,.int 0 0]})
   (o:={cls := .type "enumerate",data := .fields #[.none,.bool false,.ref s.heap.objs.size,rawInt 0,.none,.none]}) rfl
  rw[hz]at this;exact this
 refine⟨⟨_,he,rfl⟩,h _ he ⟨_,Vs _ (W3 _ rfl),rfl,rfl⟩ (by rw[Wh,hz]) λb o x=>Vs _ (Vs _ x)⟩
end
end PySem
namespace L2
open PySem PySem.Spec PyProof.Rows
section
variable{X:Cx}{pq:List (ZT×Obj)}{σ:St}{H:Hp}{s:ZS}{h':Heap}
theorem Inv.turnedL{t':Nat}{ch:List ZT}(I:Inv X pq σ H s)(k:∀ b o,b∉ch->s.heap.get? b=some o->h'.get? b=some o)(hf:∀ b∈ch,FpOk X pq H b):Inv X pq σ H {s with heap:=h',toks:=t'}:=by
 have nit:∀ b u,H b=some u->b∉ch:=λb u e z=>by rw[(hf b z).1]at e;cases e
 refine I.step (g':=s.gens) (d':=s.drawn) (ch:=ch) (λb hb=>?_) (λb o _ _ hc e _=>k b o hc e) (λb o _ _ hc e _=>⟨o.slots,k b o hc e⟩) (λ_ _ _ _ n=>n)
  (λb o hc e=>⟨o,k b o hc e⟩) (λ_ _ e=>e) (λ_ _ _ e=>e) (λb ps e=>⟨#[],by rw[e];simp⟩) (λm hm=>?_) (λb u e=>?_) I.bare
 ·obtain⟨f0,f1,f2,f3,f4,f5⟩:=hf b hb;exact⟨f3,f1,f4,f5⟩
 ·obtain⟨o,es,ep,ho,r⟩:=hm;exact⟨o,es,ep,k _ o (λz=>(hf _ z).2.1 rfl) ho,r⟩
 ·refine(I.hok b u e).stay (λc v hc q=>k c v ?_ q) (λ_ q=>q) λ_ _ q=>q;rcases hc with z | z
  ·rw[z];exact nit b u e
  ·exact nit c _ z
theorem Inv.turnLay{t':Nat}{ch:List ZT}{o:HO}(I:Inv X pq σ H s)(k:∀ b u,b∉ch->s.heap.get? b=some u->h'.get? b=some u)(hf:∀ b∈ch,FpOk X pq H b)
 (new:ObjOk X.prog X.w (upd H s.heap.objs.size o) h' s.heap.objs.size o):Inv X pq σ (upd H s.heap.objs.size o) {s with heap:=h',toks:=t'}:=by
 have hT:H s.heap.objs.size=none:=I.fresh;have nit:∀ b u,H b=some u->b∉ch:=λb u e z=>by rw[(hf b z).1]at e;cases e
 have lt:∀ b u,s.heap.get? b=some u->b≠s.heap.objs.size:=λb u e=>W0 (Vv e)
 refine I.step (g':=s.gens) (d':=s.drawn) (ch:=ch) (λb hb=>?_) (λb o _ _ hc e _=>k b o hc e) (λb o _ _ hc e _=>⟨o.slots,k b o hc e⟩) (λb u _ e n=>by rw[j8 (lt b u e)];exact n)
  (λb o hc e=>⟨o,k b o hc e⟩) (λb xs e=>by rw[j8 (k9 e hT)];exact e) (λb u xs e=>by rw[j8 (k9 e hT)];exact e) (λb ps e=>⟨#[],by rw[j8 (k9 e hT),e];simp⟩) (λm hm=>?_) (λb u e=>?_) I.bare
 ·obtain⟨f0,f1,f2,f3,f4,f5⟩:=hf b hb;exact⟨f3,f1,f4,f5⟩
 ·obtain⟨o,es,ep,ho,r⟩:=hm;exact⟨o,es,ep,k _ o (λz=>(hf _ z).2.1 rfl) ho,r⟩
 ·by_cases hb:b=s.heap.objs.size
  ·subst hb;rw[p5]at e;cases e;exact new
  ·rw[j8 hb]at e;refine(I.hok b u e).stay (λc v hc q=>k c v ?_ q) (λc q=>by rw[j8 (k9 q hT)];exact q) λc xs q=>by rw[j8 (k9 q hT)];exact q
   rcases hc with z | z
   ·rw[z];exact nit b u e
   ·exact nit c _ z
end
def SX(K:Vl)(a:ZT):It:=
 ⟨λi H=>∃ xs x,SqL K H a xs/\xs[i]?=some x,λi H x H'=>∃ p v,H p=none/\x = .ref p/\(∀ xs,SqL K H a xs->xs[i]?=some v)/\H'=upd H p (.tup [.int i,v]),λi H=>∃ xs,SqL K H a xs/\xs.length=i⟩
def SY(K:Vl)(a:ZT):It:=
 ⟨λi H=>∃ xs x,SqT K H a xs/\xs[i]?=some x,λi H x H'=>∃ p v,H p=none/\x = .ref p/\(∀ xs,SqT K H a xs->xs[i]?=some v)/\H'=upd H p (.tup [.int i,v]),λi H=>∃ xs,SqT K H a xs/\xs.length=i⟩
theorem FF:2<=ZW:=by decide
theorem IG{P:ZX}{w:Za}{K:Vl}{elts:List Expr}{kx:Nat}{tp:Pos}(a e it:ZT)(hei:e≠it)(hae:a≠e)(hai:a≠it):Turn P w K (.Tuple elts kx tp) (SX K a) [e,it] e (λi h=>(∃ old,IsEnum h e it i old)/\h.IsListIter it a i) where
 mem:=by simp
 obj:=λi h st b hb=>by
  rcases W5.mp hb with rfl | hb
  ·obtain⟨⟨old,z⟩,_⟩:=st;exact⟨_,z,λv q=>by cases q⟩
  ·have e':b=it:=by simpa using hb
   subst e';obtain⟨o,q,c,d⟩:=st.2;exact⟨o,q,λv z=>by rw[d]at z;cases z⟩
 keep:=λi h h' st k=>⟨let ⟨old,z⟩:=st.1;⟨old,k e (by simp) _ z⟩,st.2.at λo q=>k it (by simp) o q⟩
 item:=by
  intro X hP hw hK hc i pq s σ H E I hf st hg;subst hP hw hK;obtain⟨xs,x,hq,hx⟩:=hg;obtain⟨its,rv,p,hz⟩:=I.list hq;obtain⟨u,hu,ru⟩:=rv.get hx;obtain⟨⟨old,he⟩,hli⟩:=st
  have hil:i<its.toArray.size:=by
   have:=(gM hu).1;simpa using this
  refine A0H (Draws.list (prog:=X.prog) (w:=X.w) (A:=X.A.in1) (show X.A.in1.handled=none from I.ok.hd hc) it a hai its.toArray) he ⟨hli,p.isList⟩ hil hei (by simp[hei,Ne.symm hae]) λy h' tk hy ho hs' hT hsz hk=>?_
  have hyu:y=u:=by
   have:its.toArray[i]?=some u:=by simpa using hu
   rw[this]at hy;exact(oj hy).symm
  subst hyu;refine⟨_,rfl,?_⟩
  have I1:Inv X pq σ (upd H s.heap.objs.size (.tup [.int i,x])) {s with heap:=h',toks:=tk+1}:=
   I.turnLay (ch:=[e,it]) (λb o hb q=>hk b o (λz=>hb (by simp[z])) (λz=>hb (by simp[z])) q) hf ⟨FF,[.int i tk,y],.cons ⟨tk,rfl⟩ (.cons ru .nil),⟨_,hT,rfl,_,rfl⟩⟩
  refine A0z ho λh2 he2 hs2=>?_
  have hfp1:∀ b∈[e,it],FpOk X pq (upd H s.heap.objs.size (.tup [.int i,x])) b:=λb hb=>by
   obtain⟨f0,f1⟩:=hf b hb
   have hbl:b≠s.heap.objs.size:=by
    rcases W5.mp hb with rfl | hb
    ·exact W0 (Vv he)
    ·have e':b=it:=by simpa using hb
     subst e';obtain⟨o,q,_⟩:=hli;exact W0 (Vv q)
   exact⟨by rw[j8 hbl];exact f0,f1⟩
  have I2:Inv X pq σ (upd H s.heap.objs.size (.tup [.int i,x])) {s with heap:=h2,toks:=tk+1}:=
   Inv.turnedL (s:={s with heap:=h',toks:=tk+1}) (t':=tk+1) (ch:=[e,it]) I1 (λb o hb q=>(hs2.2 b (λz=>hb (by simp[z]))).trans q) hfp1
  refine⟨.ref s.heap.objs.size,_,I2,rfl,⟨_,x,I.fresh,rfl,λys hy=>by rw[I.list_inj hy hq];exact hx,rfl⟩,⟨⟨y,by simpa using he2⟩,hs'.1.extBut hs2.extBut (Ne.symm hei)⟩,λb hb=>(hfp1 b hb).1⟩
 done:=by
   intro X hP hw hK hc i pq s σ H E I hf st hg;subst hP hw hK;obtain⟨xs,hq,hx⟩:=hg;obtain⟨its,rv,p,hz⟩:=I.list hq;obtain⟨⟨old,he⟩,hli⟩:=st;have hl:=rv.length;have hn:its.toArray.size=i:=by simp;omega
   refine A0L (Draws.list (prog:=X.prog) (w:=X.w) (A:=X.A.in1) (show X.A.in1.handled=none from I.ok.hd hc) it a hai its.toArray) he (by rw[hn];exact⟨hli,p.isList⟩) λh' eb=>⟨rfl,I.turnedL (t':=s.toks) (ch:=[e,it]) (λb o hb q=>eb b o (λz=>hb (by simp[z])) q) hf⟩
 self:=λ_ _ _ _ _ st h=>let ⟨old,z⟩:=st.1;A0k z h
theorem IH{P:ZX}{w:Za}{K:Vl}{elts:List Expr}{kx:Nat}{tp:Pos}(a e it:ZT)(hei:e≠it)(hae:a≠e)(hai:a≠it):Turn P w K (.Tuple elts kx tp) (SY K a) [e,it] e (λi h=>(∃ old,IsEnum h e it i old)/\h.IsTupleIter it a i) where
 mem:=by simp
 obj:=λi h st b hb=>by
  rcases W5.mp hb with rfl | hb
  ·obtain⟨⟨old,z⟩,_⟩:=st;exact⟨_,z,λv q=>by cases q⟩
  ·have e':b=it:=by simpa using hb
   subst e';obtain⟨o,q,c,d⟩:=st.2;exact⟨o,q,λv z=>by rw[d]at z;cases z⟩
 keep:=λi h h' st k=>⟨let ⟨old,z⟩:=st.1;⟨old,k e (by simp) _ z⟩,st.2.at λo q=>k it (by simp) o q⟩
 item:=by
  intro X hP hw hK hc i pq s σ H E I hf st hg;subst hP hw hK;obtain⟨xs,x,hq,hx⟩:=hg;obtain⟨its,rv,p,hz⟩:=I.tuple hq;obtain⟨u,hu,ru⟩:=rv.get hx;obtain⟨⟨old,he⟩,hli⟩:=st
  have hil:i<its.toArray.size:=by
   have:=(gM hu).1;simpa using this
  refine A0H (v6 (prog:=X.prog) (w:=X.w) (A:=X.A.in1) (show X.A.in1.handled=none from I.ok.hd hc) it a hai its.toArray) he ⟨hli,p⟩ hil hei (by simp[hei,Ne.symm hae]) λy h' tk hy ho hs' hT hsz hk=>?_
  have hyu:y=u:=by
   have:its.toArray[i]?=some u:=by simpa using hu
   rw[this]at hy;exact(oj hy).symm
  subst hyu;refine⟨_,rfl,?_⟩
  have I1:Inv X pq σ (upd H s.heap.objs.size (.tup [.int i,x])) {s with heap:=h',toks:=tk+1}:=
   I.turnLay (ch:=[e,it]) (λb o hb q=>hk b o (λz=>hb (by simp[z])) (λz=>hb (by simp[z])) q) hf ⟨FF,[.int i tk,y],.cons ⟨tk,rfl⟩ (.cons ru .nil),⟨_,hT,rfl,_,rfl⟩⟩
  refine A0z ho λh2 he2 hs2=>?_
  have hfp1:∀ b∈[e,it],FpOk X pq (upd H s.heap.objs.size (.tup [.int i,x])) b:=λb hb=>by
   obtain⟨f0,f1⟩:=hf b hb
   have hbl:b≠s.heap.objs.size:=by
    rcases W5.mp hb with rfl | hb
    ·exact W0 (Vv he)
    ·have e':b=it:=by simpa using hb
     subst e';obtain⟨o,q,_⟩:=hli;exact W0 (Vv q)
   exact⟨by rw[j8 hbl];exact f0,f1⟩
  have I2:Inv X pq σ (upd H s.heap.objs.size (.tup [.int i,x])) {s with heap:=h2,toks:=tk+1}:=
   Inv.turnedL (s:={s with heap:=h',toks:=tk+1}) (t':=tk+1) (ch:=[e,it]) I1 (λb o hb q=>(hs2.2 b (λz=>hb (by simp[z]))).trans q) hfp1
  refine⟨.ref s.heap.objs.size,_,I2,rfl,⟨_,x,I.fresh,rfl,λys hy=>by rw[I.tuple_inj hy hq];exact hx,rfl⟩,⟨⟨y,by simpa using he2⟩,hs'.1.extBut hs2.extBut (Ne.symm hei)⟩,λb hb=>(hfp1 b hb).1⟩
 done:=by
   intro X hP hw hK hc i pq s σ H E I hf st hg;subst hP hw hK;obtain⟨xs,hq,hx⟩:=hg;obtain⟨its,rv,p,hz⟩:=I.tuple hq;obtain⟨⟨old,he⟩,hli⟩:=st;have hl:=rv.length;have hn:its.toArray.size=i:=by simp;omega
   refine A0L (v6 (prog:=X.prog) (w:=X.w) (A:=X.A.in1) (show X.A.in1.handled=none from I.ok.hd hc) it a hai its.toArray) he (by rw[hn];exact⟨hli,p⟩) λh' eb=>⟨rfl,I.turnedL (t':=s.toks) (ch:=[e,it]) (λb o hb q=>eb b o (λz=>hb (by simp[z])) q) hf⟩
 self:=λ_ _ _ _ _ st h=>let ⟨old,z⟩:=st.1;A0k z h
section
variable{X:Cx}
def Ug(K:Vl)(ta:TA):TI:=λσ H R=>ta σ H λvs H1=>∃ a,vs=[.ref a]/\(((∃ xs,SqL K H1 a xs)/\R (SX K a) H1)\/((∃ xs,SqT K H1 a xs)/\R (SY K a) H1))
theorem Db:Zb "enumerate"=some (.type "enumerate"):=by decide +kernel
theorem GM:Zb "zip"=some (.type "zip"):=by decide +kernel
theorem PJ{a:Expr}{ta:TA}{p pos:Pos}{elts:List Expr}{kx:Nat}{tp:Pos}(hg:Gl X "enumerate")(hm:X.mg "enumerate"=none)(ha:PA X [a] ta)(hs:Zc [a] X.env=[(false,eval a X.env)]:=by rfl):
 PI X (.Tuple elts kx tp) (.Call (.Name "enumerate" p) [a] [] pos) (Ug X.K ta):=by
 intro pq s σ H R I h;refine Call_ (BF I hg hm Db (PyProof.Rows.callWith_type1 (thn (ha pos pq s σ H _ I h) λus s1 ⟨vs,H1,I1,r1,q1⟩=>?_) hs rfl));obtain⟨l,e,q1⟩:=q1;subst e;cases r1 with
 | cons r rr=>
   cases rr;cases r;rcases q1 with⟨⟨xs,hq⟩,q⟩ | ⟨⟨xs,hq⟩,q⟩
   ·obtain⟨its,rv,pl,hz⟩:=I1.list hq;have hlt:@LT.lt Nat _ l s1.heap.objs.size:=by obtain⟨o,n,e,_⟩:=pl;exact Vv e
    refine call_enumerate_list pl.isList λh' he hli hsz hk=>?_;refine A0k he ?_;have I2:Inv X pq σ H1 {s1 with heap:=h'}:=I1.kept (t':=s1.toks) hk;refine⟨s1.heap.objs.size+1,[s1.heap.objs.size+1,s1.heap.objs.size],_,_,H1,rfl,I2,IG l _ s1.heap.objs.size (show @Ne Nat _ _ by omega) (show @Ne Nat _ _ by omega) (show @Ne Nat _ _ by omega),⟨⟨_,he⟩,hli⟩,λb hb=>?_,q⟩
    have hb2:@LE.le Nat _ s1.heap.objs.size b:=by
     rcases W5.mp hb with rfl | hb
     ·exact Yd _
     ·have e:b=s1.heap.objs.size:=by simpa using hb
      rw[e];exact Vt _
    exact I1.fpOk hb2 (I1.hok.fresh hb2)
   ·obtain⟨its,rv,pl,hz⟩:=I1.tuple hq;have hlt:@LT.lt Nat _ l s1.heap.objs.size:=by obtain⟨o,e,_⟩:=pl;exact Vv e
    refine B0 (show s1.heap.IsTuple l its.toArray from pl) λh' he hli hsz hk=>?_;refine A0k he ?_;have I2:Inv X pq σ H1 {s1 with heap:=h'}:=I1.kept (t':=s1.toks) hk;refine⟨s1.heap.objs.size+1,[s1.heap.objs.size+1,s1.heap.objs.size],_,_,H1,rfl,I2,IH l _ s1.heap.objs.size (show @Ne Nat _ _ by omega) (show @Ne Nat _ _ by omega) (show @Ne Nat _ _ by omega),⟨⟨_,he⟩,hli⟩,λb hb=>?_,q⟩
    have hb2:@LE.le Nat _ s1.heap.objs.size b:=by
     rcases W5.mp hb with rfl | hb
     ·exact Yd _
     ·have e:b=s1.heap.objs.size:=by simpa using hb
      rw[e];exact Vt _
    exact I1.fpOk hb2 (I1.hok.fresh hb2)
end
def Itz(K:Vl)(a b:ZT):It:=
 ⟨λi H=>∃ xs ys x y,SqL K H a xs/\SqL K H b ys/\xs[i]?=some x/\ys[i]?=some y,
  λi H x H'=>∃ p v u,H p=none/\x = .ref p/\(∀ xs,SqL K H a xs->xs[i]?=some v)/\(∀ ys,SqL K H b ys->ys[i]?=some u)/\H'=upd H p (.tup [v,u]),
  λi H=>∃ xs ys,SqL K H a xs/\SqL K H b ys/\(xs.length<=i\/ys.length<=i)⟩
theorem MY{P:ZX}{w:Za}{K:Vl}{elts:List Expr}{kx:Nat}{tp:Pos}(z TI TO i1 i2 l1 l2:ZT)(D:ZipApart z TI TO i1 i2 l1 l2):Turn P w K (.Tuple elts kx tp) (Itz K l1 l2) [z,TI,TO,i1,i2] z
 (λi h=>IsZip h z TI TO .none/\IsPair h TI (.ref i1) (.ref i2)/\(∃ a b,IsPair h TO a b)/\h.IsListIter i1 l1 i/\h.IsListIter i2 l2 i) where
 mem:=by simp
 obj:=λi h st b hb=>by
  obtain⟨hz,hTI,⟨a',b',hTO⟩,⟨o1,e1,c1,d1⟩,⟨o2,e2,c2,d2⟩⟩:=st;simp only[W5,XB,or_false]at hb;rcases hb with rfl | rfl | rfl | rfl | rfl
  ·exact⟨_,hz,λv q=>by cases q⟩
  ·exact⟨_,hTI,λv q=>by cases q⟩
  ·exact⟨_,hTO,λv q=>by cases q⟩
  ·exact⟨o1,e1,λv q=>by rw[d1]at q;cases q⟩
  ·exact⟨o2,e2,λv q=>by rw[d2]at q;cases q⟩
 keep:=λi h h' st k=>by
  obtain⟨hz,hTI,⟨a',b',hTO⟩,h1,h2⟩:=st;exact⟨k z (by simp) _ hz,k TI (by simp) _ hTI,⟨a',b',k TO (by simp) _ hTO⟩,h1.at λo q=>k i1 (by simp) o q,h2.at λo q=>k i2 (by simp) o q⟩
 item:=by
  intro X hP hw hK hc i pq s σ H E I hf st hg;subst hP hw hK;obtain⟨xs,ys,x,y,hq1,hq2,hx,hy⟩:=hg;obtain⟨its1,rv1,p1,hz1⟩:=I.list hq1;obtain⟨its2,rv2,p2,hz2⟩:=I.list hq2;obtain⟨u1,hu1,ru1⟩:=rv1.get hx;obtain⟨u2,hu2,ru2⟩:=rv2.get hy;obtain⟨hz,hTI,⟨a',b',hTO⟩,h1,h2⟩:=st;refine wpAny_pyNext_zip_item D hz hTI hTO h1 h2 p1.isList p2.isList (x:=u1) (y:=u2) (by simpa using hu1) (by simpa using hu2) λh' b1 b2 b3 b4 b5 b6 hk=>?_;refine⟨_,rfl,?_⟩
  have I1:Inv X pq σ (upd H s.heap.objs.size (.tup [x,y])) {s with heap:=h'}:=
   I.turnLay (t':=s.toks) (ch:=[z,TI,TO,i1,i2]) (λb o hb q=>hk b o (λe=>hb (by simp[e])) (λe=>hb (by simp[e])) (λe=>hb (by simp[e])) (λe=>hb (by simp[e])) q) hf ⟨FF,[u1,u2],.cons ru1 (.cons ru2 .nil),⟨_,b5,rfl,_,rfl⟩⟩
  have lt1:i1<s.heap.objs.size:=by obtain⟨_,q,_⟩:=h1;exact Vv q
  have lt2:i2<s.heap.objs.size:=by obtain⟨_,q,_⟩:=h2;exact Vv q
  have hfp1:∀ b∈[z,TI,TO,i1,i2],FpOk X pq (upd H s.heap.objs.size (.tup [x,y])) b:=λb hb=>by
   obtain⟨f0,f1⟩:=hf b hb
   have hbl:b≠s.heap.objs.size:=by
    simp only[W5,XB,or_false]at hb;rcases hb with rfl | rfl | rfl | rfl | rfl
    ·exact W0 (Vv hz)
    ·exact W0 (Vv hTI)
    ·exact W0 (Vv hTO)
    ·exact W0 lt1
    ·exact W0 lt2
   exact⟨by rw[j8 hbl];exact f0,f1⟩
  refine A0A b1 λh2' hz' hs'=>?_
  have I2:Inv X pq σ (upd H s.heap.objs.size (.tup [x,y])) {s with heap:=h2'}:=
   Inv.turnedL (s:={s with heap:=h'}) (t':=s.toks) (ch:=[z,TI,TO,i1,i2]) I1 (λb o hb q=>(hs'.2 b (λe=>hb (by simp[e]))).trans q) hfp1
  refine⟨.ref s.heap.objs.size,_,I2,rfl,⟨_,x,y,I.fresh,rfl,λzs hy'=>by rw[I.list_inj hy' hq1];exact hx,λzs hy'=>by rw[I.list_inj hy' hq2];exact hy,rfl⟩,
   ⟨hz',hs'.extBut _ _ D.TIz (hk _ _ D.TIz D.TITO D.TIi1 D.TIi2 hTI),⟨_,_,hs'.extBut _ _ D.TOz b2⟩,b3.extBut hs'.extBut D.i1z,b4.extBut hs'.extBut D.i2z⟩,λb hb=>(hfp1 b hb).1⟩
 done:=by
   intro X hP hw hK hc i pq s σ H E I hf st hg;subst hP hw hK;obtain⟨xs,ys,hq1,hq2,hx⟩:=hg;obtain⟨its1,rv1,p1,hz1⟩:=I.list hq1;obtain⟨its2,rv2,p2,hz2⟩:=I.list hq2;obtain⟨hz,hTI,⟨a',b',hTO⟩,h1,h2⟩:=st;have hl1:=rv1.length;have hl2:=rv2.length
   have hend:its1.toArray[i]?=none\/its2.toArray[i]?=none:=by
    rcases hx with h | h
    ·exact .inl (by simp;omega)
    ·exact .inr (by simp;omega)
   exact wpAny_pyNext_zip_end (I.ok.hd hc) D hz hTI hTO h1 h2 p1.isList p2.isList hend λh' hk=>⟨rfl,I.turnedL (t':=s.toks) (ch:=[z,TI,TO,i1,i2]) (λb o hb q=>hk b o (λe=>hb (by simp[e])) (λe=>hb (by simp[e])) (λe=>hb (by simp[e])) (λe=>hb (by simp[e])) q) hf⟩
 self:=λ_ _ _ _ _ st h=>A0o st.1 h
section
variable{X:Cx}
def Vb(K:Vl)(ta:TA):TI:=λσ H R=>ta σ H λvs H1=>∃ a b,vs=[.ref a,.ref b]/\(∃ xs,SqL K H1 a xs)/\(∃ ys,SqL K H1 b ys)/\R (Itz K a b) H1
theorem SZ{a b:Expr}{ta:TA}{p pos:Pos}{elts:List Expr}{kx:Nat}{tp:Pos}(hg:Gl X "zip")(hm:X.mg "zip"=none)(ha:PA X [a,b] ta)(hs:Zc [a,b] X.env=[(false,eval a X.env),(false,eval b X.env)]:=by rfl)
 (hs2:Zc [b] X.env=[(false,eval b X.env)]:=by rfl):PI X (.Tuple elts kx tp) (.Call (.Name "zip" p) [a,b] [] pos) (Vb X.K ta):=by
 intro pq s σ H R I h;refine Call_ (BF I hg hm GM (PyProof.Rows.callWith_type1 (thn (ha pos pq s σ H _ I h) λus s1 ⟨vs,H1,I1,r1,q1⟩=>?_) (by rw[hs,hs2]) (by rw[hs2];rfl)));obtain⟨l1,l2,e,⟨xs,hq1⟩,⟨ys,hq2⟩,q⟩:=q1;subst e;obtain⟨u1,u2,rfl,r1',r2'⟩:=Vals.two r1;cases r1';cases r2';obtain⟨its1,rv1,p1,hz1⟩:=I1.list hq1;obtain⟨its2,rv2,p2,hz2⟩:=I1.list hq2;have hl1:@LT.lt Nat _ l1 s1.heap.objs.size:=by obtain⟨o,n,e,_⟩:=p1;exact Vv e
 have hl2:@LT.lt Nat _ l2 s1.heap.objs.size:=by obtain⟨o,n,e,_⟩:=p2;exact Vv e
 refine call_zip_2 p1.isList p2.isList λh' c1 c2 c3 c4 c5 c6 hk=>?_;refine A0o c1 ?_;have I2:Inv X pq σ H1 {s1 with heap:=h'}:=I1.kept (t':=s1.toks) hk;refine⟨s1.heap.objs.size+4,[s1.heap.objs.size+4,s1.heap.objs.size+2,s1.heap.objs.size+3,s1.heap.objs.size,s1.heap.objs.size+1],_,_,H1,rfl,I2,MY _ _ _ _ _ l1 l2 ?_,⟨c1,c2,⟨_,_,c3⟩,c4,c5⟩,λb hb=>?_,q⟩
 ·constructor<;>(show @Ne Nat _ _)<;>omega
 ·have hb2:@LE.le Nat _ s1.heap.objs.size b:=by
   simp only[W5,XB,or_false]at hb;rcases hb with rfl | rfl | rfl | rfl | rfl
   ·exact XC _ _
   ·exact XC _ _
   ·exact XC _ _
   ·exact Vt _
   ·exact XC _ _
  exact I1.fpOk hb2 (I1.hok.fresh hb2)
end
theorem Kp(its:List ZR)(k:Nat)(y:ZR):(its.toArray.extract 0 k).push y++its.toArray.extract k=(its.take k++y::its.drop k).toArray:=by
 apply Array.toList_inj.mp;simp
 first
  | done
  | exact YN (by simp)
section
variable{X:Cx}
def JW:V->List V->Hp->VK->Prop:=λx vs H Q=>∃ l xs i y,x = .ref l/\vs=[.int i,y]/\H l=some (.lst xs)/\0<=i/\i<=xs.length/\xs.length<ZW/\Q .non (upd H l (.lst (xs.take i.toNat++y::xs.drop i.toNat)))
theorem Ef:MtM X "list.insert" JW:=by
 intro pq s σ H x vs v us Q I rx rv h;obtain⟨l,xs,i,y,rfl,rfl,hH,h0,h1,hz,q⟩:=h;cases rx;obtain⟨u1,u2,rfl,⟨t,rfl⟩,ru⟩:=Vals.two rv;obtain⟨z,its,n,r,hl,e⟩:=I.lstM hH;have hn:=C9;refine A0v F.slot_list_insert ⟨_,e,rfl⟩ F.entry_list_insert (F.args_list_insert_3 _ _ _) (AutoSeq1.list_insert_list_int_val_1 l its.toArray n i t u2 (by rw[A1k (by omega) (by omega)];exact Vy) (by rw[Vw];omega)) ⟨e,?_⟩;refine⟨.non,_,I.lset (its':=its.take i.toNat++u2::its.drop i.toNat) hH e ?_ (Vals.append (r.take _) (.cons ru (r.drop _))) ?_,rfl,q⟩
 ·have hk:(if i<0 then (i+(its.toArray.size:Int)).toNat else min i.toNat its.toArray.size)=i.toNat:=by
   rw[iG (by omega),Vw];omega
  show(let k:=if i<0 then (i+(its.toArray.size:Int)).toNat else min i.toNat its.toArray.size;(its.toArray.extract 0 k).push u2++its.toArray.extract k)=_;rw[hk];exact Kp its i.toNat u2
 ·rw[Vo,Wp,WG,XY];omega
def B1(xs ys:List V):Bool:=xs.length == ys.length&&(xs.zip ys).all λp=>eqV p.1 p.2
def PL(K:Vl)(neg:Bool):R2:=λx y H Q=>∃ a b xs ys,x = .ref a/\y = .ref b/\SqL K H a xs/\SqL K H b ys/\((xs.all AQ=true/\ys.all AQ=true)\/xs=[]\/ys=[])/\Q (.bl (if neg then !B1 xs ys else B1 xs ys)) H
theorem Dc{xs ys:List V}(hl:xs.length=ys.length):(W4 xs.length).all (λj=>eqV (xs.getD j .non) (ys.getD j .non))=B1 xs ys:=by
 have e1:B1 xs ys=(xs.zip ys).all λp=>eqV p.1 p.2:=by unfold B1;simp[hl]
 rw[e1,Wd,WJ,WJ];constructor
 ·intro h p hp;obtain⟨j,hj,e⟩:=Xf.mp hp;have hj1:j<xs.length:=by simp at hj;omega
  have hj2:j<ys.length:=by omega
  have:=h j (WD.mpr hj1);rw[<-e];simpa[Wz,hj1,hj2] using this
 ·intro h j hj;have hj1:j<xs.length:=WD.mp hj;have hj2:j<ys.length:=by omega
  have:=h (xs[j],ys[j]) (Xf.mpr ⟨j,by simp;omega,by simp⟩);simpa[Wz,hj1,hj2] using this
theorem CB{xs ys:List V}{us ws:List ZR}{A:Ze}{s:ZS}(r1:Vals xs us)(r2:Vals ys ws)(f:(xs.all AQ=true/\ys.all AQ=true)\/xs=[]\/ys=[]):
 ∀ j (h1:j<us.toArray.size) (h2:j<ws.toArray.size),SeqAt.EqAt A s us.toArray[j] ws.toArray[j] (eqV (xs.getD j .non) (ys.getD j .non)):=by
 intro j h1 h2;have l1:=r1.length;have l2:=r2.length;simp only[Vw]at h1 h2;have hj1:j<xs.length:=by omega
 have hj2:j<ys.length:=by omega
 obtain⟨f1,f2⟩:xs.all AQ=true/\ys.all AQ=true:=by
  rcases f with f | f | f
  ·exact f
  ·subst f;simp at hj1
  ·subst f;simp at hj2
 obtain⟨u,eu,ru⟩:=r1.get (i:=j) (x:=xs[j]) (by simp[hj1]);obtain⟨w',ew,rw'⟩:=r2.get (i:=j) (x:=ys[j]) (by simp[hj2])
 have e1:us.toArray[j]=u:=by
  have:=gM eu;obtain⟨_,q⟩:=this;simpa using q
 have e2:ws.toArray[j]=w':=by
  obtain⟨_,q⟩:=gM ew;simpa using q
 rw[e1,e2];have g1:xs.getD j .non=xs[j]:=by simp[Wz,hj1]
 have g2:ys.getD j .non=ys[j]:=by simp[Wz,hj2]
 rw[g1,g2];exact MP ru rw' (WJ.mp f1 _ (XD hj1)) (WJ.mp f2 _ (XD hj2))
theorem Sa(hu:X.A.units<cLine):OpR X (Zg .Eq) (PL X.K false):=by
 intro pq s σ H x y v u Q I rx ry h;obtain⟨a,b,xs,ys,rfl,rfl,h1,h2,f,q⟩:=h;cases rx;cases ry;obtain⟨its1,r1,p1,_⟩:=I.list h1;obtain⟨its2,r2,p2,_⟩:=I.list h2;have l1:=r1.length;have l2:=r2.length;by_cases hl:xs.length=ys.length
 ·refine SeqAt.eq_listAt p1.isList p2.isList (by simp;omega) hu (CB r1 r2 f) ⟨.bl _,H,I,rfl,?_⟩;rw[Vw,<-l1,Dc hl];exact q
 ·refine SeqAt.eq_list_lengthsAt p1.isList p2.isList (by simp;omega) hu ⟨.bl false,H,I,rfl,?_⟩;have e:B1 xs ys=false:=by unfold B1;simp[hl]
  rw[show(if false=true then !B1 xs ys else B1 xs ys)=B1 xs ys from rfl,e]at q;exact q
theorem Sb(hu:X.A.units<cLine):OpR X (Zg .NotEq) (PL X.K true):=by
 intro pq s σ H x y v u Q I rx ry h;obtain⟨a,b,xs,ys,rfl,rfl,h1,h2,f,q⟩:=h;cases rx;cases ry;obtain⟨its1,r1,p1,_⟩:=I.list h1;obtain⟨its2,r2,p2,_⟩:=I.list h2;have l1:=r1.length;have l2:=r2.length;by_cases hl:xs.length=ys.length
 ·refine(SeqAt.RcNeAt.lists p1.isList p2.isList (by simp;omega) hu (CB r1 r2 f)) _ _ _ _ ?_;refine⟨.bl _,H,I,rfl,?_⟩;rw[Vw,<-l1,Dc hl];exact q
 ·refine(SeqAt.RcNeAt.lists_lengths p1.isList p2.isList (by simp;omega) hu) _ _ _ _ ?_;refine⟨.bl true,H,I,rfl,?_⟩;have e:B1 xs ys=false:=by unfold B1;simp[hl]
  rw[show(if true=true then !B1 xs ys else B1 xs ys)=!B1 xs ys from rfl,e]at q;exact q
theorem call_isi1:CallR X (.builtin "isinstance") (λxs H Q=>∃ x T t b,xs=[x,.ty T]/\TyOf X.K H x t/\PySem.W.kitOne X.K t (.type T)=some b/\Q (.bl b) H):=by
 intro pq s σ H xs us Q I r h;obtain⟨x,T,t,b,rfl,ty,e,q⟩:=h;obtain⟨u1,u2,rfl,r1,r2⟩:=Vals.two r;cases r2;exact Kk I r1 ty e λtk=>⟨.bl b,H,I.tok tk,rfl,q⟩
theorem II{pq:List (ZT×Obj)}{σ:St}{H:Hp}{s:ZS}{A:Ze}{E:ZR->ZS->Prop}{Q:ZR->ZS->Prop}{b:Bool}{x:V}{u t:ZR}{tp:ZT}{dd:Option ZT}{its:List ZR}{n:Nat}{sl:Array (Option ZR)}(I:Inv X pq σ H s)(rx:RelV x u)(ty:TyOf X.K H x t)
 (htp:s.heap.get? tp=some ⟨.type "tuple",dd,.seq its.toArray n,sl⟩) (e:PySem.W.kitAny X.K t its=some b) (h:∀ tk,Q (.bool b) {s with toks:=tk}):
 ZV (ZY X.prog X.w) A (call (.builtin "isinstance") [u,.ref tp]) Q E s:=by
 cases ty with
 | non=>cases(show u=Value.none from rx);exact PySem.W.kia_tup PySem.W.kitx_none I.kIn True.intro htp e (λz=>nomatch z) h
 | bl y=>cases(show u=Value.bool y from rx);exact PySem.W.kia_tup PySem.W.kitx_bool I.kIn True.intro htp e (λz=>nomatch z) h
 | int i=>obtain⟨t,q⟩:=(show ∃ t,u=Value.int i t from rx);cases q;exact PySem.W.kia_tup PySem.W.kitx_int I.kIn True.intro htp e (λz=>nomatch z) h
 | str y=>obtain⟨t,q⟩:=(show ∃ t,u=Value.str y t from rx);cases q;exact PySem.W.kia_tup PySem.W.kitx_str I.kIn True.intro htp e (λz=>nomatch z) h
 | flt y=>obtain⟨t,q⟩:=(show ∃ t,u=Value.float y t from rx);cases q;exact PySem.W.kia_tup PySem.W.kitx_float I.kIn True.intro htp e (λz=>nomatch z) h
 | @lst a xs ea=>
   cases(show u=Value.ref a from rx);obtain⟨_,_,n,_,h1⟩:=(show ObjOk X.prog X.w H s.heap a (.lst xs) from I.hok a _ ea)
   exact PySem.W.kia_tup PySem.W.kitx_list I.kIn ⟨_,h1,rfl⟩ htp e (λz=>nomatch z) h
 | @frz a ob xs ea=>
   cases(show u=Value.ref a from rx);obtain⟨_,_,_,n,_,h1⟩:=(show ObjOk X.prog X.w H s.heap a (.frz ob (.lst xs)) from I.hok a _ ea)
   exact PySem.W.kia_tup PySem.W.kitx_list I.kIn ⟨_,h1,rfl⟩ htp e (λz=>nomatch z) h
 | @tup a xs ea=>
   cases(show u=Value.ref a from rx);obtain⟨_,_,_,p⟩:=(show ObjOk X.prog X.w H s.heap a (.tup xs) from I.hok a _ ea)
   obtain⟨o,h1,h2,_⟩:=p;exact PySem.W.kia_tup PySem.W.kitx_tuple I.kIn ⟨o,h1,h2⟩ htp e (λz=>nomatch z) h
 | @dK a kvs ea=>
   cases(show u=Value.ref a from rx);obtain⟨_,_,vs,_,p⟩:=(show ObjOk X.prog X.w H s.heap a (.dK kvs) from I.hok a _ ea)
   obtain⟨o,es,ep,h1,h2,_⟩:=p;exact PySem.W.kia_tup PySem.W.kitx_dict I.kIn ⟨o,h1,h2.1⟩ htp e (λz=>nomatch z) h
 | @dT a kvs ea=>
   cases(show u=Value.ref a from rx);obtain⟨_,_,xs,_,o,es,ep,h1,h2,_⟩:=(show ObjOk X.prog X.w H s.heap a (.dT kvs) from I.hok a _ ea)
   exact PySem.W.kia_tup PySem.W.kitx_dict I.kIn ⟨o,h1,h2.1⟩ htp e (λz=>nomatch z) h
 | @ins a C dx fs ea cl ha hn htk hm=>
   cases(show u=Value.ref a from rx);obtain⟨mA,O,_⟩:=JN I.hok ea;obtain⟨od,J,_⟩:=O.look;exact PySem.W.kia_tup (PySem.W.kitx_own (cl.get _) cl.hd ha hn htk hm) I.kIn J htp e (λz=>nomatch z) h
theorem JX:∀(Ts:List String) {us:List ZR},Vals (Ts.map V.ty) us->us=Ts.map Value.type
 | [],_,.nil=>rfl
 | T::r,_,.cons h t=>by cases h;rw[JX r t];rfl
theorem Kq:CallR X (.builtin "isinstance") (λxs H Q=>∃(x:V) (p:ZT) (Ts:List String) (t:ZR) (b:Bool),xs=[x,.ref p]/\H p=some (.tup (Ts.map V.ty))/\TyOf X.K H x t/\PySem.W.kitAny X.K t (Ts.map Value.type)=some b/\Q (.bl b) H):=by
 intro pq s σ H xs us Q I r h;obtain⟨x,p,Ts,t,b,rfl,hp,ty,e,q⟩:=h;obtain⟨u1,u2,rfl,r1,r2⟩:=Vals.two r;cases r2;obtain⟨_,its,rv,⟨⟨c,dd,dt,sl⟩,h1,h2,n,h3⟩⟩:=(show ObjOk X.prog X.w H s.heap p (.tup (Ts.map V.ty)) from I.hok p _ hp)
 have ei:=JX Ts rv;subst ei;replace h2:c = .type "tuple":=h2;replace h3:dt = .seq (Ts.map Value.type).toArray n:=h3;subst h2 h3;exact II I r1 ty h1 e λtk=>⟨.bl b,H,I.tok tk,rfl,q⟩
theorem Kr(hc:X.calm=true):CallR X (.builtin "all") (λxs H Q=>∃(a:ZT) (bs:List Bool),xs=[.ref a]/\SqL X.K H a (bs.map V.bl)/\Q (.bl (bs.all id)) H):=by
 intro pq s σ H xs us Q I r h;obtain⟨a,bs,rfl,hq,q⟩:=h;obtain⟨u,rfl,ru⟩:=Ad r;cases ru;obtain⟨its,rv,pl,hz⟩:=I.list hq;have hl:=rv.length;rw[Vm]at hl;refine call_all_walk (Zz pl.isList ?_);have hlt:a<s.heap.objs.size:=by obtain⟨o,n,e,_⟩:=pl;exact Vv e
 refine⟨s.heap.objs.size,_,_,_,_,_,λi=>bs.getD i false,rfl,Walks.list (by exact I.ok.hd hc) s.heap.objs.size a (W0 hlt) its.toArray,⟨⟨_,W3 _ rfl,rfl,rfl⟩,pl.isList.push _⟩,?_,λh' tk hk=>?_⟩
 ·intro i v s' Q' E' hv hQ';have hv':its[i]?=some v:=by simpa using hv
  have hi:i<its.length:=(gM hv').1;have hb:(bs.map V.bl)[i]?=some (.bl (bs[i]'(by omega))):=by simp
  obtain⟨u',eu,ru'⟩:=rv.get hb;rw[hv']at eu;cases eu;cases ru';have hg:bs.getD i false=bs[i]'(by omega):=by simp[Wz,show i<bs.length by omega]
  have hQ2:Q' (bs.getD i false) s':=hQ';rw[hg]at hQ2;exact Zh hQ2
 ·have I1:Inv X pq σ H {s with heap:=h',toks:=tk}:=I.kept λb o e=>hk b o (by simp;exact W0 (Vv e)) (Vs _ e);refine⟨.bl _,H,I1,rfl,?_⟩
  have e:(W4 its.toArray.size).all (λi=>bs.getD i false)=bs.all id:=by
   rw[Vw,<-hl,Wd,WJ,WJ];constructor
   ·intro h b hb;obtain⟨j,hj,e⟩:=Xf.mp hb;have:=h j (WD.mpr hj);simpa[Wz,hj,e] using this
   ·intro h j hj;have hj1:j<bs.length:=WD.mp hj;have:=h bs[j] (XD hj1);simpa[Wz,hj1] using this
  rw[e];exact q
end
def srt(ns:List Int):List Int:=ns.mergeSort (λa b=>decide (a<=b))
theorem MZ(ns:List Int):(srt ns).Perm ns:=List.mergeSort_perm _ _
theorem Sc(ns:List Int):(srt ns).Pairwise (·<=·):=by
 have h:=List.pairwise_mergeSort (le:=λ(a b:Int)=>decide (a<=b)) (λa b c h1 h2=>by simp only[dQ]at *;omega) (λa b=>by simp only[Wg,dQ];omega) ns;exact h.imp λh=>of_decide_eq_true h
theorem Sd{ns ns':List Int}(hp:ns'.Perm ns)(hs:ns'.Pairwise (·<=·)):ns'=srt ns:=
 List.Perm.eq_of_pairwise (λ_ _ _ _ a b=>Int.le_antisymm a b) hs (Sc ns) (hp.trans (MZ ns).symm)
theorem BJ:∀{ns:List Int} {us:List ZR},Vals (ns.map V.int) us->IntsAre us ns
 | [],_,.nil => .nil
 | _::_,_,.cons ⟨_,e⟩ t=>by subst e;exact .cons _ _ (BJ t)
theorem Eg:∀{ns:List Int} {us:List ZR},IntsAre us ns->Vals (ns.map V.int) us
 | _,_,.nil => .nil
 | _,_,.cons _ _ t => .cons ⟨_,rfl⟩ (Eg t)
theorem Ma:Zb "sorted"=some (.builtin "sorted"):=by decide +kernel
section
variable{X:Cx}
theorem GN:CallR X (.builtin "sorted") (λxs H Q=>∃ p ns,xs=[.ref p]/\SqL X.K H p (ns.map V.int)/\ns.length<64/\∀ l,H l=none->Q (.ref l) (upd H l (.lst ((srt ns).map V.int)))):=by
 intro pq s σ H xs us Q I r h;obtain⟨p,ns,rfl,hq,h64,q⟩:=h;obtain⟨u,rfl,rx⟩:=Ad r;cases rx;obtain⟨its,r',pl,hz⟩:=I.list hq;have hlen:=r'.length;rw[Vm]at hlen;refine sorted_ints pl.isList (BJ r') (by omega) λout ns' a1 a2 a3=>?_;obtain⟨e,he⟩:=sortedAll_at s.heap its out;have en:=Sd a2 a3;subst en;refine⟨.ref (s.heap.objs.size+1),_,I.laid (t':=s.toks) (λb o h=>sortedAll_old h) (Yd _) (show ObjOk X.prog X.w _ _ _ (.lst ((srt ns).map V.int)) from ⟨?_,out.toList,e,Eg a1,by simpa using he⟩),rfl,q _ (I.hok.fresh (Yd _))⟩;rw[Vm,a2.length_eq];exact WH (YM h64) (by decide)
end
end L2
set_option maxHeartbeats 1000000
namespace Rf
open PySem L2
inductive TyN where
 | int | bool | str | list | tuple | none
 deriving DecidableEq
def TyN.nm:TyN->String
 | .int=>"int" | .bool=>"bool" | .str=>"str" | .list=>"list" | .tuple=>"tuple" | .none=>"NoneType"
inductive SV where
 | non | bl (b:Bool) | int (i:Int) | str (x:Str) | tup (xs:List SV) | loc (k:Nat) | ro (xs:List SV) | ty (t:TyN)
inductive SO where
 | lst (xs:List SV)
 | iset (ms:List Int)
 | dtp (kvs:List ((Int×Int)×Int)) | dtl (kvs:List (List Int×SV)) | dtf (o:Obj) (us:List (List Key×V)) (kvs:List (List Int×SV)) | dct (kvs:List (Int×SV)) | dcf (o:Obj) (ks:List (Key×V)) (kvs:List (Int×SV))
abbrev Sto:=List SO
abbrev EnvS:=List (Option SV)
def FzL(K:Vl)(H:Hp)(a:ZT)(vs:List V):Prop:=(∃ o,H a=some (.frz o (.lst vs)))\/
 ∃(o:Obj) (its:Array ZR) (n:Nat),K.lookup a=some o/\o.cls = .type "list"/\o.dict=none/\o.data = .seq its n/\its.size<=ZW/\Vals vs its.toList
theorem FzL.sq{K:Vl}{H:Hp}{a:ZT}{vs:List V}(h:FzL K H a vs):SqL K H a vs:=h.imp (λ⟨o,e⟩ => .inr ⟨o,e⟩) id
mutual
noncomputable def Rl(K:Vl)(as:List ZT)(H:Hp):V->SV->Prop
 | v,.non=>v = .non
 | v,.bl b=>v = .bl b
 | v,.int i=>v = .int i
 | v,.str x=>v = .str x
 | v,.tup xs=>∃ p vs,v = .ref p/\H p=some (.tup vs)/\RlAll K as H vs xs
 | v,.loc k=>∃ a,as[k]?=some a/\v = .ref a
 | v,.ro xs=>∃ a vs,v = .ref a/\FzL K H a vs/\RlAll K as H vs xs
 | v,.ty t=>v = .ty t.nm
noncomputable def RlAll(K:Vl)(as:List ZT)(H:Hp):List V->List SV->Prop
 | vs,[]=>vs=[]
 | vs,x::xs=>∃ v r,vs=v::r/\Rl K as H v x/\RlAll K as H r xs
end
def imm:HO->Bool
 | .tup _=>true
 | .frz _ (.lst _)=>true
 | _=>false
def KeepU(H H':Hp):Prop:=∀ b o,H b=some o->imm o=true->H' b=some o
theorem KeepU.refl(H:Hp):KeepU H H:=λ_ _ h _=>h
theorem KeepU.trans{H H' H'':Hp}(a:KeepU H H')(b:KeepU H' H''):KeepU H H'':=λx o h i=>b x o (a x o h i) i
theorem y0{H:Hp}{p:ZT}{o:HO}(hp:H p=none):KeepU H (upd H p o):=λb u h _=>by
 rw[j8 (k9 h hp)];exact h
theorem Cn{H:Hp}{a:ZT}{u o:HO}(h:H a=some u)(i:imm u=false):KeepU H (upd H a o):=λb v hb iv=>by
 rw[j8 (M1 hb h (by intro z;rw[z,i]at iv;cases iv))];exact hb
theorem FzL.mono{K:Vl}{H H':Hp}{a:ZT}{vs:List V}(k:KeepU H H')(h:FzL K H a vs):FzL K H' a vs:=h.imp (λ⟨o,e⟩=>⟨o,k _ _ e rfl⟩) id
theorem BK{α:Type}{as as':List α}(h:as <+: as'){k:Nat}{a:α}(e:as[k]?=some a):as'[k]?=some a:=by
 obtain⟨t,rfl⟩:=h;rw[W6 ((gM e).1)];exact e
mutual
theorem Rl.mono{K:Vl}{as as':List ZT}{H H':Hp}(ha:as <+: as')(hH:KeepU H H'):∀(x:SV) (v:V),Rl K as H v x->Rl K as' H' v x
 | .non,v,h=>by unfold Rl at h ⊢;exact h
 | .bl _,v,h=>by unfold Rl at h ⊢;exact h
 | .int _,v,h=>by unfold Rl at h ⊢;exact h
 | .str _,v,h=>by unfold Rl at h ⊢;exact h
 | .tup xs,v,h=>by
   unfold Rl at h ⊢;obtain⟨p,vs,e,hp,h⟩:=h;exact⟨p,vs,e,hH p _ hp rfl,RlAll.mono ha hH xs vs h⟩
 | .ro xs,v,h=>by
   unfold Rl at h ⊢;obtain⟨p,vs,e,hp,h⟩:=h;exact⟨p,vs,e,hp.mono hH,RlAll.mono ha hH xs vs h⟩
 | .ty _,v,h=>by unfold Rl at h ⊢;exact h
 | .loc k,v,h=>by
   unfold Rl at h ⊢;obtain⟨a,e,z⟩:=h;exact⟨a,BK ha e,z⟩
theorem RlAll.mono{K:Vl}{as as':List ZT}{H H':Hp}(ha:as <+: as')(hH:KeepU H H'):∀(xs:List SV) (vs:List V),RlAll K as H vs xs->RlAll K as' H' vs xs
 | [],vs,h=>by unfold RlAll at h ⊢;exact h
 | x::xs,vs,h=>by
   unfold RlAll at h ⊢;obtain⟨v,r,e,h1,h2⟩:=h;exact⟨v,r,e,Rl.mono ha hH x v h1,RlAll.mono ha hH xs r h2⟩
end
section
variable{K:Vl}{as:List ZT}{H:Hp}
theorem rl_non{v:V}:Rl K as H v .non↔v = .non:=by unfold Rl;exact Iff.rfl
theorem rl_bl{v:V}{b:Bool}:Rl K as H v (.bl b)↔v = .bl b:=by unfold Rl;exact Iff.rfl
theorem rl_int{v:V}{i:Int}:Rl K as H v (.int i)↔v = .int i:=by unfold Rl;exact Iff.rfl
theorem rl_str{v:V}{x:Str}:Rl K as H v (.str x)↔v = .str x:=by unfold Rl;exact Iff.rfl
theorem rl_tup{v:V}{xs:List SV}:Rl K as H v (.tup xs)↔∃ p vs,v = .ref p/\H p=some (.tup vs)/\RlAll K as H vs xs:=by rw[Rl]
theorem rl_loc{v:V}{k:Nat}:Rl K as H v (.loc k)↔∃ a,as[k]?=some a/\v = .ref a:=by unfold Rl;exact Iff.rfl
theorem rl_ro{v:V}{xs:List SV}:Rl K as H v (.ro xs)↔∃ a vs,v = .ref a/\FzL K H a vs/\RlAll K as H vs xs:=by rw[Rl]
theorem rl_ty{v:V}{n:TyN}:Rl K as H v (.ty n)↔v = .ty n.nm:=by unfold Rl;exact Iff.rfl
theorem rla_nil{vs:List V}:RlAll K as H vs []↔vs=[]:=by unfold RlAll;exact Iff.rfl
theorem rla_cons{vs:List V}{x:SV}{xs:List SV}:RlAll K as H vs (x::xs)↔∃ v r,vs=v::r/\Rl K as H v x/\RlAll K as H r xs:=by rw[RlAll]
theorem RlAll.nil:RlAll K as H [] []:=rla_nil.mpr rfl
theorem RlAll.cons{v:V}{x:SV}{vs:List V}{xs:List SV}(h:Rl K as H v x)(t:RlAll K as H vs xs):RlAll K as H (v::vs) (x::xs):=rla_cons.mpr ⟨v,vs,rfl,h,t⟩
theorem RlAll.length:∀{xs:List SV} {vs:List V},RlAll K as H vs xs->vs.length=xs.length
 | [],_,h=>by rw[rla_nil.mp h];rfl
 | x::xs,_,h=>by
   obtain⟨v,r,rfl,_,t⟩:=rla_cons.mp h;simp[t.length]
theorem RlAll.get:∀{xs:List SV} {vs:List V} {i:Nat} {x:SV},RlAll K as H vs xs->xs[i]?=some x->∃ v,vs[i]?=some v/\Rl K as H v x
 | [],_,i,_,_,e=>by simp at e
 | y::xs,_,0,_,h,e=>by
   obtain⟨v,r,rfl,a,_⟩:=rla_cons.mp h;simp at e;subst e;exact⟨v,rfl,a⟩
 | y::xs,_,i+1,_,h,e=>by
   obtain⟨v,r,rfl,_,t⟩:=rla_cons.mp h;simpa using t.get (by simpa using e)
theorem RlAll.append:∀{xs ys:List SV} {vs us:List V},RlAll K as H vs xs->RlAll K as H us ys->RlAll K as H (vs++us) (xs++ys)
 | [],_,_,_,h,h'=>by rw[rla_nil.mp h];exact h'
 | x::xs,_,_,_,h,h'=>by
   obtain⟨v,r,rfl,a,t⟩:=rla_cons.mp h;exact .cons a (t.append h')
theorem RlAll.take:∀{xs:List SV} {vs:List V} (n:Nat),RlAll K as H vs xs->RlAll K as H (vs.take n) (xs.take n)
 | _,_,0,_=>by simpa using RlAll.nil
 | [],_,n+1,h=>by rw[rla_nil.mp h];exact .nil
 | x::xs,_,n+1,h=>by
   obtain⟨v,r,rfl,a,t⟩:=rla_cons.mp h;exact .cons a (t.take n)
theorem RlAll.drop:∀{xs:List SV} {vs:List V} (n:Nat),RlAll K as H vs xs->RlAll K as H (vs.drop n) (xs.drop n)
 | _,_,0,h=>h
 | [],_,n+1,h=>by rw[rla_nil.mp h];exact .nil
 | x::xs,_,n+1,h=>by
   obtain⟨v,r,rfl,a,t⟩:=rla_cons.mp h;exact t.drop n
theorem RlAll.set{x:SV}{v:V}(hx:Rl K as H v x):∀{xs:List SV} {vs:List V} (n:Nat),RlAll K as H vs xs->RlAll K as H (vs.set n v) (xs.set n x)
 | [],_,n,h=>by rw[rla_nil.mp h];exact .nil
 | y::xs,_,0,h=>by
   obtain⟨_,r,rfl,_,t⟩:=rla_cons.mp h;exact .cons hx t
 | y::xs,_,n+1,h=>by
   obtain⟨_,r,rfl,a,t⟩:=rla_cons.mp h;exact .cons a (t.set hx n)
theorem RlAll.rev:∀{xs:List SV} {vs:List V},RlAll K as H vs xs->RlAll K as H vs.reverse xs.reverse
 | [],_,h=>by rw[rla_nil.mp h];exact .nil
 | x::xs,_,h=>by
   obtain⟨v,r,rfl,a,t⟩:=rla_cons.mp h;rw[XS,XS];exact t.rev.append (.cons a .nil)
theorem RlAll.ins{x:SV}{v:V}(hx:Rl K as H v x){xs:List SV}{vs:List V}(h:RlAll K as H vs xs)(n:Nat):RlAll K as H (vs.take n++v::vs.drop n) (xs.take n++x::xs.drop n):=(h.take n).append (.cons hx (h.drop n))
theorem RlAll.ints{is:List Int}:RlAll K as H (is.map V.int) (is.map SV.int):=by
 induction is with
 | nil=>exact .nil
 | cons i is ih=>exact .cons (rl_int.mpr rfl) ih
end
noncomputable def RlD(K:Vl)(as:List ZT)(H:Hp):List (Key×V)->List (Int×SV)->Prop
 | ks,[]=>ks=[]
 | ks,p::r=>∃ v t,ks=(.inl p.1,v)::t/\Rl K as H v p.2/\RlD K as H t r
theorem RlD.mono{K:Vl}{as as':List ZT}{H H':Hp}(ha:as <+: as')(hH:KeepU H H'):∀(kvs:List (Int×SV)) (ks:List (Key×V)),RlD K as H ks kvs->RlD K as' H' ks kvs
 | [],_,h=>h
 | p::r,_,⟨v,t,e,h1,h2⟩=>⟨v,t,e,Rl.mono ha hH p.2 v h1,RlD.mono ha hH r t h2⟩
noncomputable def RlT(K:Vl)(as:List ZT)(H:Hp):List (List Key×V)->List (List Int×SV)->Prop
 | us,[]=>us=[]
 | us,p::r=>∃ v t,us=(p.1.map Sum.inl,v)::t/\Rl K as H v p.2/\RlT K as H t r
theorem RlT.mono{K:Vl}{as as':List ZT}{H H':Hp}(ha:as <+: as')(hH:KeepU H H'):∀(kvs:List (List Int×SV)) (us:List (List Key×V)),RlT K as H us kvs->RlT K as' H' us kvs
 | [],_,h=>h
 | p::r,_,⟨v,t,e,h1,h2⟩=>⟨v,t,e,Rl.mono ha hH p.2 v h1,RlT.mono ha hH r t h2⟩
def dtV(kvs:List ((Int×Int)×Int)):List (List Key×V):=kvs.map λp=>([.inl p.1.1,.inl p.1.2],V.int p.2)
noncomputable def RlO(K:Vl)(as:List ZT)(H:Hp)(a:ZT):SO->Prop
 | .lst xs=>∃ vs,H a=some (.lst vs)/\RlAll K as H vs xs
 | .iset ms=>∃ F,H a=some (.set F ms.length)/\∀ k,F k=decide (k∈ms)
 | .dtp kvs=>H a=some (.dT (dtV kvs))
 | .dtl kvs=>∃ us,H a=some (.dT us)/\RlT K as H us kvs
 | .dtf o us kvs=>H a=some (.frz o (.dT us))/\RlT K as H us kvs
 | .dct kvs=>∃ ks,H a=some (.dK ks)/\RlD K as H ks kvs
 | .dcf o ks kvs=>H a=some (.frz o (.dK ks))/\RlD K as H ks kvs
structure Ok(K:Vl)(as:List ZT)(H:Hp)(S:Sto):Prop where
 len:as.length=S.length
 nd:as.Nodup
 obj:∀(k:Nat) (o:SO) (a:ZT),S[k]?=some o->as[k]?=some a->RlO K as H a o
noncomputable def EnvOk(K:Vl)(as:List ZT)(H:Hp)(σ:St)(ρ:EnvS):Prop:=σ.length=ρ.length/\∀(i:Nat) (x:SV),ρ[i]?=some (some x)->∃ v,σ[i]?=some (some v)/\Rl K as H v x
theorem EnvOk.mono{K:Vl}{as as':List ZT}{H H':Hp}{σ:St}{ρ:EnvS}(h:EnvOk K as H σ ρ)(ha:as <+: as')(hH:KeepU H H'):EnvOk K as' H' σ ρ:=⟨h.1,λi x e=>let ⟨v,a,b⟩:=h.2 i x e;⟨v,a,Rl.mono ha hH x v b⟩⟩
theorem EnvOk.set{K:Vl}{as:List ZT}{H:Hp}{σ:St}{ρ:EnvS}(h:EnvOk K as H σ ρ){i:Nat}{v:V}{x:SV}(hx:Rl K as H v x):EnvOk K as H (σ.set i (some v)) (ρ.set i (some x)):=⟨by rw[Wa,Wa];exact h.1,λj y e=>by
 by_cases hij:i=j
 ·subst hij;have hi:i<ρ.length:=by have:=(gM e).1;rwa [Wa]at this
  rw[WY hi]at e;rw[WY (by rw[h.1];exact hi)];cases e;exact⟨v,rfl,hx⟩
 ·rw[Wt hij]at e ⊢;exact h.2 j y e⟩
section
variable{K:Vl}{as:List ZT}{H:Hp}{S:Sto}
theorem RlO.mono{as':List ZT}{H':Hp}{a:ZT}(ha:as <+: as')(hH:KeepU H H')(e:∀ u,H a=some u->H' a=some u):∀{o:SO},RlO K as H a o->RlO K as' H' a o
 | .lst xs,⟨vs,h1,h2⟩=>⟨vs,e _ h1,RlAll.mono ha hH xs vs h2⟩
 | .iset ms,⟨F,h1,h2⟩=>⟨F,e _ h1,h2⟩
 | .dtp kvs,h1=>e _ h1
 | .dtl kvs,⟨us,h1,h2⟩=>⟨us,e _ h1,RlT.mono ha hH kvs us h2⟩
 | .dtf _ us kvs,⟨h1,h2⟩=>⟨e _ h1,RlT.mono ha hH kvs us h2⟩
 | .dct kvs,⟨ks,h1,h2⟩=>⟨ks,e _ h1,RlD.mono ha hH kvs ks h2⟩
 | .dcf _ ks kvs,⟨h1,h2⟩=>⟨e _ h1,RlD.mono ha hH kvs ks h2⟩
theorem RlO.some{a:ZT}:∀{o:SO},RlO K as H a o->∃ u,H a=some u/\imm u=false
 | .lst _,⟨_,h,_⟩=>⟨_,h,rfl⟩
 | .iset _,⟨_,h,_⟩=>⟨_,h,rfl⟩
 | .dtp _,h=>⟨_,h,rfl⟩
 | .dtl _,⟨_,h,_⟩=>⟨_,h,rfl⟩
 | .dtf _ _ _,⟨h,_⟩=>⟨_,h,rfl⟩
 | .dct _,⟨_,h,_⟩=>⟨_,h,rfl⟩
 | .dcf _ _ _,⟨h,_⟩=>⟨_,h,rfl⟩
theorem Ok.of(h:Ok K as H S){k:Nat}{a:ZT}(e:as[k]?=some a):∃ o,S[k]?=some o/\RlO K as H a o:=by
 have hk:k<S.length:=by rw[<-h.len];exact(gM e).1
 exact⟨S[k],Vr hk,h.obj k _ a (Vr hk) e⟩
theorem Ok.new(h:Ok K as H S){p:ZT}{o:HO}(hp:H p=none):Ok K as (upd H p o) S:=⟨h.len,h.nd,λk u a e ea=>by
 have r:=h.obj k u a e ea;obtain⟨z,hz,_⟩:=r.some;exact r.mono (WN as) (y0 hp) λvs hv=>by rw[j8 (k9 hz hp)];exact hv⟩
theorem Ok.free(h:Ok K as H S){p:ZT}(hp:H p=none):p∉as:=λhm=>by
 obtain⟨k,hk⟩:=Wu hm;obtain⟨o,_,r⟩:=h.of hk;obtain⟨z,hz,_⟩:=r.some;rw[hp]at hz;cases hz
theorem Ok.pushO(h:Ok K as H S){p:ZT}(hp:H p=none){u:HO}{x:SO}(r:RlO K (as++[p]) (upd H p u) p x):Ok K (as++[p]) (upd H p u) (S++[x]):=by
 have pre:as <+: as++[p]:=Xb _ _;refine⟨by rw[Vo,Vo,h.len];rfl,?_,λk o a e ea=>?_⟩
 ·rw[XU];refine⟨h.nd,by simp,λa ha b hb=>?_⟩;rw[W8.mp hb];intro z;subst z;exact h.free hp ha
 ·by_cases hk:k<S.length
  ·rw[W6 hk]at e;rw[W6 (by rw[h.len];exact hk)]at ea;exact((h.new (o:=u) hp).obj k o a e ea).mono pre (KeepU.refl _) λ_ z=>z
  ·have hk':k=S.length:=by
    have:=(gM e).1;rw[Vo,Wk]at this;omega
   subst hk';rw[WL]at e;rw[<-h.len,WL]at ea;cases e;cases ea;exact r
theorem Ok.push(h:Ok K as H S){p:ZT}(hp:H p=none){vs:List V}{xs:List SV}(r:RlAll K as H vs xs):Ok K (as++[p]) (upd H p (.lst vs)) (S++[.lst xs]):=h.pushO hp ⟨vs,p5,RlAll.mono (Xb _ _) (y0 hp) xs vs r⟩
theorem Ok.writeO(h:Ok K as H S){k:Nat}{a:ZT}{y x:SO}{u:HO}(e:S[k]?=some y)(ea:as[k]?=some a)(r:KeepU H (upd H a u)->RlO K as (upd H a u) a x):Ok K as (upd H a u) (S.set k x)/\KeepU H (upd H a u):=by
 obtain⟨z,h1,iz⟩:=(h.obj k _ a e ea).some;have ku:KeepU H (upd H a u):=Cn h1 iz;refine⟨⟨by rw[Wa];exact h.len,h.nd,λj o b eo eb=>?_⟩,ku⟩;by_cases hj:k=j
 ·subst hj;rw[WY ((gM e).1)]at eo;rw[ea]at eb;cases eo;cases eb;exact r ku
 ·rw[Wt hj]at eo
  have hab:b≠a:=λz=>by
   subst z;exact hj ((Yq ((gM ea).1) h.nd).mp (ea.trans eb.symm))
  exact(h.obj j o b eo eb).mono (WN as) ku λws hw=>by rw[j8 hab];exact hw
theorem Ok.write(h:Ok K as H S){k:Nat}{a:ZT}{ys xs:List SV}{vs:List V}(e:S[k]?=some (.lst ys))(ea:as[k]?=some a)(r:RlAll K as H vs xs):Ok K as (upd H a (.lst vs)) (S.set k (.lst xs))/\KeepU H (upd H a (.lst vs)):=h.writeO e ea λku=>⟨vs,p5,RlAll.mono (WN as) ku xs vs r⟩
end
structure Go(as:List ZT)(H:Hp)(as':List ZT)(H':Hp):Prop where
 pre:as <+: as'
 keep:∀ b o,H b=some o->b∉as->H' b=some o/\b∉as'
theorem Go.refl(as:List ZT)(H:Hp):Go as H as H:=⟨WN _,λ_ _ h n=>⟨h,n⟩⟩
theorem Go.trans{as as1 as2:List ZT}{H H1 H2:Hp}(a:Go as H as1 H1)(b:Go as1 H1 as2 H2):Go as H as2 H2:=⟨a.pre.trans b.pre,λx o h n=>let ⟨h1,n1⟩:=a.keep x o h n;b.keep x o h1 n1⟩
theorem Go.new{as:List ZT}{H:Hp}{p:ZT}{o:HO}(hp:H p=none):Go as H as (upd H p o):=⟨WN _,λb u h n=>⟨by rw[j8 (k9 h hp)];exact h,n⟩⟩
theorem Go.push{as:List ZT}{H:Hp}{p:ZT}{o:HO}(hp:H p=none):Go as H (as++[p]) (upd H p o):=⟨Xb _ _,λb u h n=>⟨by rw[j8 (k9 h hp)];exact h,by
 rw[WM,W8];rintro(z | z)
 ·exact n z
 ·exact k9 h hp z⟩⟩
theorem Go.write{as:List ZT}{H:Hp}{a:ZT}{o:HO}(ha:a∈as):Go as H as (upd H a o):=⟨WN _,λb u h n=>⟨by rw[j8 (λz=>n (by rw[z];exact ha))];exact h,n⟩⟩
section
variable{K:Vl}{as as':List ZT}{H H':Hp}{S:Sto}
theorem Ok.away(h:Ok K as H S){b:ZT}{o:HO}(e:H b=some o)(i:imm o=true):b∉as:=λhm=>by
 obtain⟨k,hk⟩:=Wu hm;obtain⟨_,_,r⟩:=h.of hk;obtain⟨z,hz,iz⟩:=r.some;rw[e]at hz;cases hz;rw[i]at iz;cases iz
theorem Go.ku(g:Go as H as' H')(ok:Ok K as H S):KeepU H H':=λb o h i=>(g.keep b o h (ok.away h i)).1
theorem Ok.other(h:Ok K as H S){b:ZT}{vs us:List V}(hb:H b=some (.lst vs))(n:b∉as):Ok K as (upd H b (.lst us)) S:=⟨h.len,h.nd,λk o a e ea=>(h.obj k o a e ea).mono (WN as) (Cn hb rfl) λws hw=>by
 rw[j8 (λz=>n (by rw[<-z];exact Vp ea))];exact hw⟩
end
end Rf
namespace L2
open PySem PySem.Spec PyProof.Rows
section
variable{κ:Type}[DecidableEq κ]
def A8(kvs:List (κ×V))(k:κ):Option V:=(kvs.find? λkv=>decide (kv.1=k)).map (·.2)
def Aq(kvs:List (κ×V))(k:κ)(v:V):List (κ×V):=
 if (kvs.any λkv=>decide (kv.1=k))=true then kvs.map (λkv=>if kv.1=k then (kv.1,v) else kv) else kvs++[(k,v)]
theorem Bb{p:κ×V}{r:List (κ×V)}{k:κ}(e:p.1=k):A8 (p::r) k=some p.2:=by simp[A8,WU,e]
theorem Bc{p:κ×V}{r:List (κ×V)}{k:κ}(e:¬ p.1=k):A8 (p::r) k=A8 r k:=by simp[A8,WU,e]
theorem Dd(k:κ):∀ kvs:List (κ×V),(kvs.any λkv=>decide (kv.1=k))=(A8 kvs k).isSome
 | []=>rfl
 | p::r=>by
   rw[X1];by_cases e:p.1=k
   ·simp only[Bb e,decide_eq_true e,Yr,Ym]
   ·rw[Bc e,decide_eq_false e,ZI];exact Dd k r
theorem As(kvs:List (κ×V))(k:κ)(v:V):(Aq kvs k v).length<=kvs.length+1:=by
 unfold Aq;split
 ·rw[Vm];omega
 ·rw[Vo,WG,Wv];omega
theorem GO{kvs:List (κ×V)}{k:κ}(v:V)(h:A8 kvs k=none):Aq kvs k v=kvs++[(k,v)]:=by
 unfold Aq;rw[Dd,h];exact iG (by decide)
theorem RelO.isSome_eq{o:Option V}{u:Option ZR}(r:RelO o u):o.isSome=u.isSome:=by
 cases o with
 | none=>cases u with
   | none=>rfl
   | some _=>exact(show False from r).elim
 | some _=>cases u with
   | none=>exact(show False from r).elim
   | some _=>rfl
theorem RelO.getD{o:Option V}{u:Option ZR}{d:V}{d':ZR}(r:RelO o u)(rd:RelV d d'):RelV (o.getD d) (u.getD d'):=by
 cases o with
 | none=>cases u with
   | none=>exact rd
   | some _=>exact(show False from r).elim
 | some _=>cases u with
   | none=>exact(show False from r).elim
   | some _=>exact r
theorem KV.val{kvs:List (κ×V)}{vs:List (κ×ZR)}(r:KV kvs vs)(k:κ):RelO (A8 kvs k) (valueAt vs k):=by
 unfold KV at r
 induction r with
 | nil=>exact True.intro
 | @cons p q ps qs h t ih=>
   obtain⟨h1,h2⟩:=h;by_cases e:p.1=k
   ·have e':q.1=k:=h1.symm.trans e;have b:valueAt (q::qs) k=some q.2:=by simp[valueAt,WU,e']
    rw[Bb e,b];exact h2
   ·have e':¬ q.1=k:=λz=>e (h1.trans z);have b:valueAt (q::qs) k=valueAt qs k:=by simp[valueAt,WU,e']
    rw[Bc e,b];exact ih
theorem KV.any{kvs:List (κ×V)}{vs:List (κ×ZR)}(r:KV kvs vs)(k:κ):(kvs.any λkv=>decide (kv.1=k))=vs.any λkv=>decide (kv.1=k):=by
 unfold KV at r
 induction r with
 | nil=>rfl
 | cons h t ih=>rw[X1,X1,ih,h.1]
theorem KV.repl{kvs:List (κ×V)}{vs:List (κ×ZR)}(r:KV kvs vs)(k:κ){y:V}{u:ZR}(ry:RelV y u):
 KV (kvs.map λkv=>if kv.1=k then (kv.1,y) else kv) (vs.map λkv=>if kv.1=k then (kv.1,u) else kv):=by
 unfold KV at r ⊢
 induction r with
 | nil=>exact .nil
 | @cons p q ps qs h t ih=>
   rw[WX,WX];refine .cons ?_ ih;obtain⟨h1,h2⟩:=h;by_cases e:p.1=k
   ·rw[iP e,iP (h1.symm.trans e)];exact⟨h1,ry⟩
   ·rw[iG e,iG (λz=>e (h1.trans z))];exact⟨h1,h2⟩
theorem KV.put{kvs:List (κ×V)}{vs:List (κ×ZR)}(r:KV kvs vs)(k:κ){y:V}{u:ZR}(ry:RelV y u):KV (Aq kvs k y) (stored vs k u):=by
 unfold Aq stored;rw[r.any k];by_cases e:(vs.any λkv=>decide (kv.1=k))=true
 ·rw[iP e,iP e];exact r.repl k ry
 ·rw[iG e,iG e];exact Paired.snoc r ⟨rfl,ry⟩
theorem KV.keys{kvs:List (κ×V)}{vs:List (κ×ZR)}(r:KV kvs vs):kvs.map (·.1)=vs.map (·.1):=by
 unfold KV at r
 induction r with
 | nil=>rfl
 | cons h t ih=>rw[WX,WX,ih,h.1]
theorem KV.length{kvs:List (κ×V)}{vs:List (κ×ZR)}(r:KV kvs vs):kvs.length=vs.length:=Paired.length r
end
theorem GP{P:ZX}{w:Za}{k:Key}{u:ZR}(r:RelV (kV k) u):(t3 P w).is k u=true:=by
 cases k with
 | inl i=>obtain⟨t,e⟩:=(show ∃ t,u=Value.int i t from r);subst e;exact GC P w i t
 | inr x=>obtain⟨t,e⟩:=(show ∃ t,u=Value.str x t from r);subst e;exact GD P w x t
theorem Eh{P:ZX}{w:Za}:∀{ks:List Key} {us:List ZR},Vals (ks.map kV) us->ItemsAre (t3 P w) ks us
 | [],_,r=>by rw[ZL]at r;cases r;exact .nil
 | k::ks,_,r=>by
   rw[WX]at r;cases r with
   | cons h t=>exact .cons (GP h) (Eh t)
abbrev KT(H:Hp):List (List Key×V)->List (List Key×ZT×ZR)->Prop:=Paired λp q=>p.1=q.1/\H q.2.1=some (.tup (p.1.map kV))/\RelV p.2 q.2.2
theorem KT.val{H:Hp}{kvs:List (List Key×V)}{xs:List (List Key×ZT×ZR)}(r:KT H kvs xs)(k:List Key):RelO (A8 kvs k) ((atKey xs k).map (·.2)):=by
 induction r with
 | nil=>exact True.intro
 | @cons p q ps qs h t ih=>
   obtain⟨h1,_,h2⟩:=h;by_cases e:p.1=k
   ·have e':q.1=k:=h1.symm.trans e;have b:atKey (q::qs) k=some q.2:=by simp[atKey,WU,e']
    rw[Bb e,b];exact h2
   ·have e':¬ q.1=k:=λz=>e (h1.trans z);have b:atKey (q::qs) k=atKey qs k:=by simp[atKey,WU,e']
    rw[Bc e,b];exact ih
theorem KT.repl{H:Hp}{kvs:List (List Key×V)}{xs:List (List Key×ZT×ZR)}(r:KT H kvs xs)(k:List Key){y:V}{u:ZR}(ry:RelV y u):
 KT H (kvs.map λkv=>if kv.1=k then (kv.1,y) else kv) (xs.map (putAt k u)):=by
 induction r with
 | nil=>exact .nil
 | @cons p q ps qs h t ih=>
   rw[WX,WX];refine .cons ?_ ih;obtain⟨h1,h2,h3⟩:=h;unfold putAt;by_cases e:p.1=k
   ·rw[iP e,iP (h1.symm.trans e)];exact⟨h1,h2,ry⟩
   ·rw[iG e,iG (λz=>e (h1.trans z))];exact⟨h1,h2,h3⟩
theorem KT.put{H:Hp}{kvs:List (List Key×V)}{xs:List (List Key×ZT×ZR)}(r:KT H kvs xs)(k:List Key){b:ZT}{y:V}{u:ZR}(hb:H b=some (.tup (k.map kV)))(ry:RelV y u):
 KT H (Aq kvs k y) (storedH xs k b u):=by
 have e:(kvs.any λkv=>decide (kv.1=k))=(atKey xs k).isSome:=by
  rw[Dd,(r.val k).isSome_eq,Option.isSome_map]
 unfold Aq storedH;rw[e];by_cases q:(atKey xs k).isSome=true
 ·rw[iP q,iP q];exact r.repl k ry
 ·rw[iG q,iG q];exact Paired.snoc r ⟨rfl,hb,ry⟩
theorem KT.keeps{H H':Hp}{kvs:List (List Key×V)}{xs:List (List Key×ZT×ZR)}(r:KT H kvs xs)(ht:∀ b ys,H b=some (.tup ys)->H' b=some (.tup ys)):KT H' kvs xs:=
 Paired.mapP r λ_ _ z=>⟨z.1,ht _ _ z.2.1,z.2.2⟩
section
variable{P:ZX}{w:Za}{H:Hp}{h:Heap}{a:ZT}
theorem R3{u:HO}(ok:HOk P w H h)(e:Rd H a u):ObjOk P w H h a u:=e.ok ok
theorem GQ{kvs:List (Key×V)}(ok:HOk P w H h)(e:Rd H a (.dK kvs)):kvs.length<=ZW/\(a == Zo)=false/\∃ vs,KV kvs vs/\h.DictOf (t3 P w) a vs:=
 show ObjOk P w H h a (.dK kvs) from R3 ok e
theorem R4{kvs:List (Key×V)}(ok:HOk P w H h)(e:H a=some (.dK kvs)):kvs.length<=ZW/\(a == Zo)=false/\∃ vs,KV kvs vs/\h.DictOf (t3 P w) a vs:=GQ ok (.inl e)
theorem De{ks:List Key}(ok:HOk P w H h)(e:H a=some (.tup (ks.map kV))):(A0s (t3 P w)).is h ks a:=by
 obtain⟨_,its,r,o,h1,h2,n,h3⟩:=(show ObjOk P w H h a (.tup (ks.map kV)) from ok a _ e)
 exact⟨o,its.toArray,n,h1,h2,h3,by simpa using Eh r⟩
theorem GR{kvs:List (List Key×V)}(ok:HOk P w H h)(e:Rd H a (.dT kvs)):kvs.length<=ZW/\(a == Zo)=false/\
 ∃ xs,KT H kvs xs/\h.DictOfH (A0s (t3 P w)) a xs:=by
 obtain⟨z,y,xs,r,o,es,ep,h1,h2,h3,h4,h5⟩:=(show ObjOk P w H h a (.dT kvs) from R3 ok e)
 refine⟨z,y,xs,r,o,es,ep,h1,h2,h3,h4,λx hx=>?_,h5⟩
 have all:∀{l:List (List Key×V)} {m:List (List Key×ZT×ZR)},KT H l m->∀ x∈m,(A0s (t3 P w)).is h x.1 x.2.1:=by
  intro l m q
  induction q with
  | nil=>intro x hx;exact nomatch hx
  | @cons p q ps qs hq t ih=>
    intro x hx;rcases W5.mp hx with e | hx
    ·subst e;exact De ok (by rw[<-hq.1];exact hq.2.1)
    ·exact ih x hx
 exact all r x hx
theorem Mb{kvs:List (List Key×V)}(ok:HOk P w H h)(e:H a=some (.dT kvs)):kvs.length<=ZW/\(a == Zo)=false/\
 ∃ xs,KT H kvs xs/\h.DictOfH (A0s (t3 P w)) a xs:=GR ok (.inl e)
end
def DGet(H:Hp)(a:ZT)(y:V)(r:Option V):Prop:=
 (∃ kvs k,Rd H a (.dK kvs)/\y=kV k/\r=A8 kvs k)\/∃ kvs k b,Rd H a (.dT kvs)/\y = .ref b/\H b=some (.tup (k.map kV))/\r=A8 kvs k
def DPut(H:Hp)(a:ZT)(y v:V)(H':Hp):Prop:=
 (∃ kvs k,H a=some (.dK kvs)/\y=kV k/\kvs.length<ZW/\H'=upd H a (.dK (Aq kvs k v)))\/
 ∃ kvs k b,H a=some (.dT kvs)/\y = .ref b/\H b=some (.tup (k.map kV))/\kvs.length<ZW/\H'=upd H a (.dT (Aq kvs k v))
theorem DGet.t{H:Hp}{a b:ZT}{kvs:List (List Key×V)}{k:List Key}(e:H a=some (.dT kvs))(eb:H b=some (.tup (k.map kV))):DGet H a (.ref b) (A8 kvs k) := .inr ⟨kvs,k,b,.inl e,rfl,eb,rfl⟩
theorem DPut.t{H:Hp}{a b:ZT}{kvs:List (List Key×V)}{k:List Key}{v:V}(e:H a=some (.dT kvs))(eb:H b=some (.tup (k.map kV)))(hl:kvs.length<ZW):
 DPut H a (.ref b) v (upd H a (.dT (Aq kvs k v))) := .inr ⟨kvs,k,b,e,rfl,eb,hl,rfl⟩
section
variable{X:Cx}{pq:List (ZT×Obj)}{σ:St}{H:Hp}{s:ZS}{a:ZT}{y v:V}{u r:ZR}{o:Option V}{A:Ze}{E:ZR->ZS->Prop}
theorem Inv.big(I:Inv X pq σ H s):Zo<s.heap.objs.size:=by
 have h:ZZ<s.heap.objs.size:=(I.mod.glob.keeps I.bk).lt;exact Nat.lt_trans (by decide) h
theorem Ks{Q:ZR->ZS->Prop}(hu:A.units+1<cLine)(I:Inv X pq σ H s)(g:DGet H a y (some v))(ry:RelV y u)(h:∀ w' s',Inv X pq σ H s'->RelV v w'->Q w' s'):
 ZV (ZY X.prog X.w) A (getItem (.ref a) u) Q E s:=by
 rcases g with⟨kvs,k,e,ey,l⟩ | ⟨kvs,k,b,e,ey,eb,l⟩
 ·subst ey;obtain⟨z,hd,vs,rel,dd⟩:=GQ I.hok e;obtain⟨w',hw,rw'⟩:=RelO.some_of (v:=v) (o:=valueAt vs k) (by rw[l];exact rel.val k);exact wpAny_getItem_of (GP ry) dd.mapOf hw (h w' _ (I.tok _) rw')
 ·subst ey;cases(show u=Value.ref b from ry);obtain⟨z,hd,xs,rel,dd⟩:=GR I.hok e;obtain⟨w',hw,rw'⟩:=RelO.some_of (v:=v) (o:=(atKey xs k).map (·.2)) (by rw[l];exact rel.val k);obtain⟨p,hp,hp2⟩:=YO.mp hw;refine wpAny_getItem_heap (A0h hu) (De I.hok eb) dd hp ?_;rw[hp2];exact h w' _ (I.tok _) rw'
theorem DH{h':Heap}{t':Nat}{ob:HO}(I:Inv X pq σ H s)(mu:Mut (H a))(hs:Ww a s.heap h')(he:∃ q,h'.get? a=some q)(new:ObjOk X.prog X.w (upd H a ob) h' a ob):
 Inv X pq σ (upd H a ob) {s with heap:=h',toks:=t'}:=
 I.write (x:=a) (e:=a) mu (.inl rfl) (λb q hb z=>(hs.2 b hb).trans z) he new
theorem Mc{P:ZX}{w:Za}{H':Hp}{h':Heap}{kvs:List (Key×V)}{vs:List (Key×ZR)}(z:kvs.length<=ZW)(hd:(a == Zo)=false)(rel:KV kvs vs)(dd:h'.DictOf (t3 P w) a vs):
 ObjOk P w H' h' a (.dK kvs):=⟨z,hd,vs,rel,dd⟩
theorem Kt{H':Hp}{Q:Unit->ZS->Prop}(hu:A.units+1<cLine)(I:Inv X pq σ H s)(g:DPut H a y v H')(ry:RelV y u)(rv:RelV v r)(h:∀ s',Inv X pq σ H' s'->Q () s'):
 ZV (ZY X.prog X.w) A (setItem (.ref a) u r) Q E s:=by
 rcases g with⟨kvs,k,e,ey,l,eH⟩ | ⟨kvs,k,b,e,ey,eb,l,eH⟩
 ·subst ey eH;obtain⟨z,hd,vs,rel,dd⟩:=R4 I.hok e;have hz:vs.length<=ZW:=by rw[<-rel.length];exact z
  have hl:(Aq kvs k v).length<=ZW:=by have:=As kvs k v;omega
  refine wpAny_setItem_pairs (hsz:=hz) (GP ry) dd λh' dd' hs=>h _ ?_;have he:∃ q,h'.get? a=some q:=let ⟨q,_,_,hq,_⟩:=dd';⟨q,hq⟩
  exact DH I (by rw[e];exact True.intro) hs he (Mc hl hd (rel.put k rv) dd')
 ·subst ey eH;cases(show u=Value.ref b from ry);obtain⟨z,hd,xs,rel,dd⟩:=Mb I.hok e;have hz:xs.length<=ZW:=by rw[<-Paired.length rel];exact z
  have hl:(Aq kvs k v).length<=ZW:=by have:=As kvs k v;omega
  refine wpAny_setItem_heap (hsz:=hz) (A0h hu) (De I.hok eb) dd λh' dd' hs=>h _ ?_;obtain⟨q,es,ep,hq,h2,h3,h4,_,h5⟩:=dd';refine DH I (by rw[e];exact True.intro) hs ⟨q,hq⟩ ⟨hl,hd,_,(rel.put k eb rv).keeps λc ys ec=>?_,q,es,ep,hq,h2,h3,h4,h5⟩;rw[j8 (M1 ec e (λz=>nomatch z))];exact ec
end
def Uh(i:Expr):Prop:=∀ ov iv,A0P i false ov iv=operate [ov,iv] (getItem ov iv)
theorem PM{prog:ZX}{w:Za}{A:Ze}{E:ZR->ZS->Prop}{s:ZS}{env:Env}{value slice:Expr}{pos:Pos}{T id:String}{Q:ZR->ZS->Prop}
 (hl:typeLookup (.type T) "__getitem__"=pure (some (.builtin id))) (hs:Uh slice)
 (h:ZV (ZY prog w) A (eval value env) (λo s₁=>ZV (ZY prog w) A (eval slice env) (λi s₂=>s₂.TypeIs o T/\ZV (ZY prog w) A (getItem o i) Q E s₂) E s₁) E s):
 ZV (ZY prog w) A (eval (.Subscript value slice pos) env) Q E s:=by
 refine A1j (Zv h (λo s₁ h₁=>Zv h₁ (λi s₂ h₂=>?_) λ_ _ x=>x) λ_ _ x=>x);obtain⟨hT,h₂⟩:=h₂;unfold A0W;refine ZQ ?_;rw[getitemInPython_of_ne hT.not_modules];refine ZQ (wpAny_specialOf hT hl ?_)
 have fin:ZV (ZY prog w) A (A0P slice false o i) (λr s₃=>ZV (ZY prog w) A (letTemporaryGo value o r >>= λ_=>pure r) Q E s₃) E s₂:=by
  rw[hs o i];exact wpAny_operating (Zv h₂ (λr s₃ h₃=>ZQ (wpAny_letTemporaryGo (ZU h₃))) λ_ _ x=>x)
 first
  | exact ZU (ZQ fin)
  | exact ZQ (ZU (ZQ fin))
  | exact ZQ fin
theorem GT{X:Cx}{pq:List (ZT×Obj)}{σ:St}{H:Hp}{s:ZS}{a:ZT}{y:V}{o:Option V}(I:Inv X pq σ H s)(g:DGet H a y o):s.TypeIs (.ref a) "dict":=by
 rcases g with⟨kvs,k,e,_,_⟩ | ⟨kvs,k,b,e,_,_,_⟩
 ·obtain⟨_,_,vs,_,dd⟩:=GQ I.hok e;exact dd.typeIs
 ·obtain⟨_,_,xs,_,dd⟩:=GR I.hok e;exact dd.typeIs
def Ui(td ty:TE):TE:=λσ H Q=>td σ H λx H1=>ty σ H1 λy H2=>∃ a v,x = .ref a/\DGet H2 a y (some v)/\Q v H2
def R5(td ty tv:TE):TS:=λD σ H=>tv σ H λv H1=>td σ H1 λx H2=>ty σ H2 λy H3=>∃ a H4,x = .ref a/\DPut H3 a y v H4/\D.nx σ H4
section
variable{X:Cx}{o i e value:Expr}{pos pos' tpos:Pos}{td ty tv:TE}
theorem PN(hu:X.A.units+1<cLine)(ho:PE X o td)(hi:PE X i ty)(hs:Uh i):PE X (.Subscript o i pos) (Ui td ty):=by
 intro pq s σ H Q I h;refine PM PySem.F.slot_dict_getitem.lookup hs (thn (ho pq s σ H _ I h) λu s1 ⟨x,H1,I1,rx,q1⟩=>thn (hi pq s1 σ H1 _ I1 q1) λiv s2 ⟨y,H2,I2,ry,a,v,ex,g,q2⟩=>?_);subst ex;obtain rfl:u=Value.ref a:=rx;exact⟨GT I2 g,Ks hu I2 g ry λw' s3 I3 rw'=>⟨v,H2,I3,rw',q2⟩⟩
theorem PP(hu:X.A.units+1<cLine)(ho:PE X o td)(hi:PE X i ty)(hv:PE X value tv)(hs:A02 value (some (.Subscript o i pos')) pos.line X.env=pure false):
 PS X (.Assign [.Subscript o i pos'] value pos) (R5 td ty tv):=by
 intro pq s σ H D I h;refine wpAny_Assign_Subscript (thn (hv pq s σ H _ I h) λr s1 ⟨v,H1,I1,rv,q1⟩=>thn (ho pq s1 σ H1 _ I1 q1) λu s2 ⟨x,H2,I2,rx,q2⟩=>thn (hi pq s2 σ H2 _ I2 q2) λiv s3 ⟨y,H3,I3,ry,a,H4,ex,g,q3⟩=>?_) hs;subst ex;obtain rfl:u=Value.ref a:=rx;exact Kt hu I3 g ry rv λs4 I4=>⟨σ,H4,I4,q3⟩
end
theorem Md{P:ZX}{w:Za}{H:Hp}(h:Heap)(hb:Zo<h.objs.size):ObjOk P w H (h.push {cls := .type "dict",data := .dict #[]}) h.objs.size (.dK []):=
 ⟨Wy _,beq_eq_false_iff_ne.mpr (Ne.symm (W0 hb)),[],.nil,Heap.DictOf.new h⟩
theorem Me{P:ZX}{w:Za}{H:Hp}(h:Heap)(hb:Zo<h.objs.size):ObjOk P w H (h.push {cls := .type "dict",data := .dict #[]}) h.objs.size (.dT []):=
 ⟨Wy _,beq_eq_false_iff_ne.mpr (Ne.symm (W0 hb)),[],.nil,_,#[],0,W3 _ rfl,⟨rfl,rfl,rfl⟩,rfl,rfl,ZC⟩
def Se:TE:=λ_ H Q=>∀ p,H p=none->Q (.ref p) (upd H p (.dK []))
def Sf:TE:=λ_ H Q=>∀ p,H p=none->Q (.ref p) (upd H p (.dT []))
section
variable{X:Cx}{pos:Pos}
theorem Mf:PE X (.Dict [] [] pos) Se:=λpq s σ H Q I h=>
 A18 ⟨.ref s.heap.objs.size,_,I.laid (a:=s.heap.objs.size) (o := .dK []) (t':=s.toks) (λ_ _ q=>Vs _ q) (Vt _) (Md s.heap I.big),rfl,h _ (I.hok.fresh (Vt _))⟩
theorem GU:PE X (.Dict [] [] pos) Sf:=λpq s σ H Q I h=>
 A18 ⟨.ref s.heap.objs.size,_,I.laid (a:=s.heap.objs.size) (o := .dT []) (t':=s.toks) (λ_ _ q=>Vs _ q) (Vt _) (Me s.heap I.big),rfl,h _ (I.hok.fresh (Vt _))⟩
end
structure M2(X:Cx)(o:Expr)(m:Str)(apos:Pos)(e f:Expr)(cpos:Pos):Prop where
 base:A0f o m X.env (eval o X.env)=eval o X.env
 few:((backTo cpos (Zc [e,f] X.env)).all (λx=>!x.1)&&(A0u cpos (A0c [] X.env)).all (λx=>x.1.isSome)
  && decide (([e,f]:List Expr).length+([]:List Keyword).length+(if ([]:List Keyword).isEmpty then 0 else 1)<30))=true
 line:(apos.endLine == cpos.line)=true
 trees:backTo cpos (Zc [e,f] X.env)=[(false,eval e X.env),(false,eval f X.env)]
def IsD(H:Hp)(a:ZT):Prop:=(∃ kvs,Rd H a (.dK kvs))\/∃ kvs,Rd H a (.dT kvs)
theorem IJ{X:Cx}{pq:List (ZT×Obj)}{σ:St}{H:Hp}{s:ZS}{a:ZT}(I:Inv X pq σ H s)(d:IsD H a):
 s.TypeIs (.ref a) "dict"/\(∀ b,Value.ref a = .ref b->∃ ob,s.heap.get? b=some ob/\ob.dict=none)/\(a == Zo)=false:=by
 rcases d with⟨kvs,e⟩ | ⟨kvs,e⟩
 ·obtain⟨_,hd,vs,_,dd⟩:=GQ I.hok e;refine⟨dd.typeIs,λb q=>?_,hd⟩;cases q;obtain⟨ob,_,_,h1,h2,_⟩:=dd;exact⟨ob,h1,h2.2.1⟩
 ·obtain⟨_,hd,xs,_,dd⟩:=GR I.hok e;refine⟨dd.typeIs,λb q=>?_,hd⟩;cases q;obtain⟨ob,_,_,h1,h2,_⟩:=dd;exact⟨ob,h1,h2.2.1⟩
section
variable{X:Cx}{pq:List (ZT×Obj)}{σ:St}{H:Hp}{s:ZS}{a:ZT}{y d:V}{u r:ZR}{o:Option V}{A:Ze}{E:ZR->ZS->Prop}
theorem Sg{Q:ZR->ZS->Prop}(hu:A.units+1<cLine)(I:Inv X pq σ H s)(g:DGet H a y o)(ry:RelV y u)(rd:RelV d r)(h:∀ w' s',Inv X pq σ H s'->RelV (o.getD d) w'->Q w' s'):
 ZV (ZY X.prog X.w) A (call (.builtin "dict.get") [.ref a,u,r]) Q E s:=by
 rcases g with⟨kvs,k,e,ey,l⟩ | ⟨kvs,k,b,e,ey,eb,l⟩
 ·subst ey;obtain⟨z,hd,vs,rel,dd⟩:=GQ I.hok e;refine A0r PySem.F.slot_dict_get dd.typeIs PySem.F.entry_dict_get (PySem.F.args_dict_get_3 _ _ _) (meets_dict_get_default (t3 X.prog X.w) a (GP ry) hd r) ⟨_,dd.mapOf,h _ _ (I.tok _) ?_⟩;rw[l];exact(rel.val k).getD rd
 ·subst ey;cases(show u=Value.ref b from ry);obtain⟨z,hd,xs,rel,dd⟩:=GR I.hok e;refine A0r PySem.F.slot_dict_get dd.typeIs PySem.F.entry_dict_get (PySem.F.args_dict_get_3 _ _ _) (meetsH_dict_get_default (A0s (t3 X.prog X.w)) a b hd r) ⟨A0h hu,k,xs,De I.hok eb,dd,h _ _ (I.tok _) ?_⟩;rw[l];exact(rel.val k).getD rd
end
def Sh(td ty tx:TE):TE:=λσ H Q=>td σ H λx H1=>∃ a,x = .ref a/\IsD H1 a/\ty σ H1 λy H2=>tx σ H2 λz H3=>∃ o,DGet H3 a y o/\Q (o.getD z) H3
section
variable{X:Cx}{o e f:Expr}{apos cpos:Pos}{td ty tx:TE}
theorem Mg(hu:X.A.units+1<cLine)(ho:PE X o td)(he:PE X e ty)(hf:PE X f tx)(m:M2 X o "get" apos e f cpos):PE X (.Call (.Attribute o "get" apos) [e,f] [] cpos) (Sh td ty tx):=by
 intro pq s σ H Q I h;refine A0B m.base m.few m.line PySem.F.plainAttrs_dict PySem.F.slot_dict_get PySem.F.type_dict_get (thn (ho pq s σ H _ I h) λu s1 ⟨x,H1,I1,rx,a,ex,d,q1⟩=>?_);subst ex;obtain rfl:u=Value.ref a:=rx;obtain⟨t1,t2,_⟩:=IJ I1 d;refine⟨t1,t2,?_⟩;rw[m.trees]
 refine Calls.callWith_builtin rfl (Calls.evalArgs_plain (Calls.spliced_cons (thn (he pq s1 σ H1 _ I1 q1) λiv s2 ⟨y,H2,I2,ry,q2⟩=>
  Calls.spliced_cons (thn (hf pq s2 σ H2 _ I2 q2) λfv s3 ⟨z,H3,I3,rz,ov,g,q3⟩=>Calls.spliced_nil ?_))))
 exact Sg hu I3 g ry rz λw' s4 I4 rw'=>⟨_,H3,I4,rw',q3⟩
end
mutual
noncomputable def Dat(H:Hp):V->PyData->Prop
 | x,.none=>x = .non
 | x,.bool b=>x = .bl b
 | x,.int i=>x = .int i
 | x,.str s=>x = .str s
 | x,.list ds=>∃ a xs,x = .ref a/\H a=some (.lst xs)/\DatAll H xs ds
 | x,.tuple ds=>∃ a xs,x = .ref a/\H a=some (.tup xs)/\DatAll H xs ds
 | _,.dict _=>False
noncomputable def DatAll(H:Hp):List V->List PyData->Prop
 | [],[]=>True
 | x::xs,d::ds=>Dat H x d/\DatAll H xs ds
 | [],_::_=>False
 | _::_,[]=>False
end
mutual
theorem Dat.mono{H H':Hp}(k:∀ b o,H b=some o->H' b=some o):∀(x:V) (d:PyData),Dat H x d->Dat H' x d
 | _,.none,h=>by unfold Dat at h ⊢;exact h
 | _,.bool _,h=>by unfold Dat at h ⊢;exact h
 | _,.int _,h=>by unfold Dat at h ⊢;exact h
 | _,.str _,h=>by unfold Dat at h ⊢;exact h
 | x,.list ds,h=>by
   unfold Dat at h ⊢;obtain⟨a,xs,e,h1,h2⟩:=h;exact⟨a,xs,e,k _ _ h1,DatAll.mono k xs ds h2⟩
 | x,.tuple ds,h=>by
   unfold Dat at h ⊢;obtain⟨a,xs,e,h1,h2⟩:=h;exact⟨a,xs,e,k _ _ h1,DatAll.mono k xs ds h2⟩
 | _,.dict _,h=>by unfold Dat at h;exact h.elim
theorem DatAll.mono{H H':Hp}(k:∀ b o,H b=some o->H' b=some o):∀(xs:List V) (ds:List PyData),DatAll H xs ds->DatAll H' xs ds
 | [],[],_=>by unfold DatAll;trivial
 | x::xs,d::ds,h=>by
   unfold DatAll at h ⊢;exact⟨Dat.mono k x d h.1,DatAll.mono k xs ds h.2⟩
 | [],_::_,h=>by unfold DatAll at h;exact h.elim
 | _::_,[],h=>by unfold DatAll at h;exact h.elim
end
section
variable{X:Cx}{a b:Expr}{ta:TE}{pos:Pos}
theorem Ku:OpR X (Zg .IsNot) (λx y H Q=>∃ c d,x = .bl c/\y = .bl d/\Q (.bl (c != d)) H):=by
 intro pq s σ H x y v u Q I rx ry h;obtain⟨c,d,rfl,rfl,q⟩:=h;cases rx;cases ry;exact isnot_bool ⟨.bl (c != d),H,I,rfl,q⟩
end
section
variable{prog:ZX}{w:Za}{A:Ze}{E:ZR->ZS->Prop}{s:ZS}
open HT in
theorem EN{t sl:ZT}{items:Array ZR}{vl vu:ZR}{lo hi:Option Int}{Q:ZR->ZS->Prop}(ht:IsTup s.heap t items)(hs:s.heap.IsSliceOf sl vl vu .none)(pl:IsPart vl lo)(pu:IsPart vu hi)
 (hw:sIx items.size 0 lo=0/\sIx items.size items.size hi=items.size) (h:Q (.ref t) s):ZV (ZY prog w) A (getItem (.ref t) (.ref sl)) Q E s:=by
 obtain⟨os,hos,hcs,hds⟩:=id hs;have hTs:s.TypeIs (.ref sl) "slice":=⟨os,hos,hcs⟩
 unfold getItem
 try with_reducible refine Zn ?_
 first | refine ZQ (ZU ?_) | skip
 refine ZQ (A13 ht.typeIs (by decide) ?_)
 refine ZQ (Zi (name:=Str.ofString "__getitem__") ht.typeIs PyProof.Rows.slot_tuple_getitem
  (Zm PyProof.Rows.slot_tuple_getitem ht.typeIs A0T ?_ (A0Z _ _)))
 show ZV _ _ (Builtin.Tuple.tupleItemsOf (.ref t) >>= _) _ _ s;refine ZQ (tupleItemsOf_ ht ?_);refine ZQ (A14 hTs ?_);rw[iP (by decide)];refine ZQ (B5 hs pl pu ?_)
 have hyes:(((sIx items.size 0 lo:Nat):Int) == 0&&(1:Int) == 1&&(sIx items.size items.size hi - sIx items.size 0 lo) == items.size)=true:=by
  rw[hw.1,hw.2];simp
 show ZV _ _ (if (((sIx items.size 0 lo:Nat):Int) == 0&&(1:Int) == 1&&(sIx items.size items.size hi - sIx items.size 0 lo) == items.size)=true then _ else _) _ _ s;rw[iP hyes];unfold Builtin.Tuple.tupleIsExact;refine ZQ (ZQ (A14 ht.typeIs (ZU ?_)));rw[iP (by decide)];exact ZQ (A0b (ZU ⟨_,rfl,ZU h⟩))
end
section
variable{X:Cx}
def Uj(K:Vl):V->Option Int->Option Int->Hp->VK->Prop:=λx lo hi H Q=>∃ a xs,x = .ref a/\SqT K H a xs/\(HT.sIx xs.length 0 lo=0/\HT.sIx xs.length xs.length hi=xs.length)/\Q (.ref a) H
theorem PQ:SlR X (Uj X.K):=by
 intro pq s σ H x v vl vu lo hi sl Q I rx hs pl pu h;obtain⟨a,xs,rfl,hx,hw,q⟩:=h;cases rx;obtain⟨its,r,ht,hz⟩:=I.tuple hx;have hlen:its.toArray.size=xs.length:=by rw[Vw];exact r.length.symm
 exact⟨"tuple",_,PyProof.Rows.slot_tuple_getitem.lookup,ht.typeIs,EN ht hs pl pu (by rw[hlen];exact hw) ⟨.ref a,H,I,rfl,q⟩⟩
end
section
variable{prog:ZX}{w:Za}{A:Ze}{E:ZR->ZS->Prop}{s:ZS}
def IsPr(h:Heap)(v:ZR)(a b:Int):Prop:=∃ p o n t u,v = .ref p/\h.get? p=some o/\o.cls = .type "tuple"/\o.data = .seq #[.int a t,.int b u] n
theorem IsPr.at{h h':Heap}{v:ZR}{a b:Int}(x:IsPr h v a b)(k:∀ p o,h.get? p=some o->o.cls = .type "tuple"->h'.get? p=some o):IsPr h' v a b:=by
 obtain⟨p,o,n,t1,t2,e,ho,hc,hd⟩:=x;exact⟨p,o,n,t1,t2,e,k p o ho hc,hc,hd⟩
end
def Up(xs:Array Nat):Prop:=∀ i j (hi:i<xs.size) (hj:j<xs.size),i<j->xs[i]<xs[j]
structure Tab(w:Za)(t:A0I):Prop where
 up:Up t.place
 no:t.dummies=#[]
 led:t.led=!w.params.followText "set-order"
noncomputable def SetX(prog:ZX)(w:Za)(h:Heap)(a:ZT)(L:List Int):Prop:=
 ∃ o es ep t,h.get? a=some o/\o.ExactSet/\o.data = .set es ep t/\ElemsOf (intKind prog w) es.toList/\es.size<scanBound/\t.fits es.size=true/\Tab w t/\(es.toList.map λe=>numOf e.2).Perm L
section
variable{prog:ZX}{w:Za}{A:Ze}{E:ZR->ZS->Prop}{s:ZS}
theorem SetX.keep{h h':Heap}{a:ZT}{L:List Int}(x:SetX prog w h a L)(k:∀ o,h.get? a=some o->h'.get? a=some o):SetX prog w h' a L:=by
 obtain⟨o,es,ep,t,ho,r⟩:=x;exact⟨o,es,ep,t,k o ho,r⟩
theorem JY{k:Int}{v:ZR}(h:(intKind prog w).is k v=true):numOf v=k:=by
 obtain⟨t,rfl⟩:=Value.isInt_shape (k:=k) (v:=v) h;rfl
end
end L2
set_option maxHeartbeats 400000
namespace L2
open PySem PySem.Spec PyProof.Rows
def SetAt(w:Za)(h:Heap)(a:ZT)(es:Array (Int×ZR))(ep:Nat)(t:A0I):Prop:=∃ o,h.get? a=some o/\o.cls = .type "set"/\o.data = .set es ep t/\t.fits es.size=true/\Tab w t
theorem SetAt.keep{w:Za}{h h':Heap}{a:ZT}{es:Array (Int×ZR)}{ep:Nat}{t:A0I}(x:SetAt w h a es ep t)(k:∀ o,h.get? a=some o->h'.get? a=some o):SetAt w h' a es ep t:=let ⟨o,e,r⟩:=x;⟨o,k o e,r⟩
def slotAt(t:A0I)(i:Nat):Nat:=if i=0 then 0 else t.place.getD (i - 1) 0+1
inductive Way(w:Za)(h:Heap)(T0 S:ZT)(es:Array (Int×ZR))(ep:Nat)(t:A0I)(fs:List (Int×ZR))(i:Nat):ZR->Prop where
 | text (hw:w.params.followText "set-order"=true) (hf:fs=(pickOrder (w.params.setOrder S ep) es).toList):Way w h T0 S es ep t fs i (.int 0 0)
 | table (hw:w.params.followText "set-order"=false) (hd:(!t.plain&&decide (es.size>1))=false) (hf:fs=es.toList):Way w h T0 S es ep t fs i (.int (slotAt t i:Nat) 0)
 | drawn (hw:w.params.followText "set-order"=false) (pl:List Nat) (o:Obj) (n:Nat) (ho:h.get? T0=some o) (hd:o.data = .seq (pl.map λk=>Value.int (k:Nat) 0).toArray n) (hl:pl.length=fs.length)
    (hf:∀(k:Nat) p,pl[k]?=some p->es[p]?=fs[k]?):Way w h T0 S es ep t fs i (.ref T0)
def Sit(w:Za)(h:Heap)(T0 I S:ZT)(es:Array (Int×ZR))(ep:Nat)(t:A0I)(fs:List (Int×ZR))(i:Nat):Prop:=
 ∃ o first,h.get? I=some o/\o.cls = .type "set_iterator"/\o.data = .fields #[first,.int (i:Nat) 0,.ref S,.int (es.size:Nat) 0,.int (ep:Nat) 0]/\Way w h T0 S es ep t fs i first
section
variable{prog:ZX}{w:Za}{A:Ze}{E:ZR->ZS->Prop}{s:ZS}{T0 I S:ZT}{es:Array (Int×ZR)}{ep:Nat}{t:A0I}{fs:List (Int×ZR)}{i:Nat}
theorem Sit.typeIs(x:Sit w s.heap T0 I S es ep t fs i):s.TypeIs (.ref I) "set_iterator":=let ⟨o,_,e,c,_⟩:=x;⟨o,e,c⟩
theorem Sit.keep{h h':Heap}(x:Sit w h T0 I S es ep t fs i)(k:∀ b,b=I\/b=T0->∀ o,h.get? b=some o->h'.get? b=some o):Sit w h' T0 I S es ep t fs i:=by
 obtain⟨o,first,ho,hc,hd,W⟩:=x;refine⟨o,first,k I (.inl rfl) _ ho,hc,hd,?_⟩;cases W with
 | text hw hf=>exact .text hw hf
 | table hw hp hf=>exact .table hw hp hf
 | drawn hw pl oT n hoT hdT hl hf=>exact .drawn hw pl oT n (k T0 (.inr rfl) _ hoT) hdT hl hf
end
end L2
set_option maxHeartbeats 800000
namespace L2
open PySem PySem.Spec PyProof.Rows
theorem _root_.L2.Inv.dr{X:Cx}{pq:List (ZT×Obj)}{σ:St}{H:Hp}{s:ZS}(I:Inv X pq σ H s)(d:Drawn):Inv X pq σ H {s with drawn:=d}:=
 ⟨I.ok,I.os,I.bare,I.base,I.loc,I.cell,I.free,I.freeC,I.pin,I.hok,I.len⟩
theorem Uk:Zb "sum"=some (.builtin "sum"):=by decide +kernel
section
variable{X:Cx}
theorem Kv(hc:X.calm=true):CallR X (.builtin "sum") (λxs H Q=>∃(p:ZT) (a b:Int),xs=[.ref p]/\SqT X.K H p [.int a,.int b]/\Q (.int (a+b)) H):=by
 intro pq s σ H xs us Q I r h;obtain⟨p,a,b,rfl,hq,q⟩:=h;obtain⟨u,rfl,ru⟩:=Ad r;cases ru;obtain⟨its,rv,pt,hz⟩:=I.tuple hq;have hI:=BJ (ns:=[a,b]) rv;have hl:=rv.length;have hlt:p<s.heap.objs.size:=by obtain⟨o,e,_⟩:=pt;exact Vv e
 have hpt:s.heap.IsTuple p its.toArray:=pt;refine call_sum_walkG (Zr hpt ?_);refine⟨s.heap.objs.size,_,_,_,_,_,λi=>[a,b].getD i 0,rfl,Walks.tuple (by exact I.ok.hd hc) s.heap.objs.size p (W0 hlt) its.toArray,⟨⟨_,W3 _ rfl,rfl,rfl⟩,hpt.at λo e=>Vs _ e⟩,?_,?_,?_⟩
 ·intro b hb;rw[Wh];rcases W5.mp hb with z | z
  ·rw[z];exact XZ _
  ·rw[W8.mp z];exact XH hlt
 ·intro i v hv;exact IntsAre.int_at hI i v (by simpa using hv)
 ·intro h' tk t' hk;have I1:Inv X pq σ H {s with heap:=h',toks:=tk}:=I.kept λb o e=>hk b o (by simp;exact W0 (Vv e)) (Vs _ e);refine⟨.int (a+b),H,I1,⟨t',?_⟩,q⟩;have e:its.toArray.size=2:=by rw[Vw,<-hl];rfl
  rw[e];show Value.int (0+a+b) t'=_;rw[X2]
end
end L2
set_option maxHeartbeats 2000000
namespace L2
open PySem PySem.Spec PyProof.Rows
open PySem.AutoSeq1 (wpAny_loadPart')
open PySem.MeetsSeq PySem.MeetsSeq2 PySem.MeetsSeq3
theorem rcLt_int{prog:ZX}{w:Za}{A:Ze}{E:ZR->ZS->Prop}{s:ZS}{a b:Int}{t u:Tok}{Q:ZR->ZS->Prop}(h:Q (.bool (decide (a<b))) s):ZV (ZY prog w) A (A03 .Lt (.int a t) (.int b u)) Q E s:=by
 exact wpAny_richCompare_same (A0K s a t) (A0K s b u) slot_int_lt (call_int_lt ⟨(λx=>nomatch x),h⟩)
section
variable{prog:ZX}{w:Za}{A:Ze}{E:ZR->ZS->Prop}{s:ZS}{a₀:Array Keyed}
structure SBk(κ:SortKind)(a₀:Array Keyed)(st:SortSt):Prop where
 perm:(arrOf st).Perm a₀
 kind:kindOf st=κ
 failed:failedOf st=none
 pend:pendingOf st=#[]
theorem SBk.size{κ:SortKind}{st:SortSt}(h:SBk κ a₀ st):(arrOf st).size=a₀.size:=h.perm.size_eq
variable{κ:SortKind}
end
section
variable{X:Cx}
theorem Ul:Zb "any"=some (.builtin "any"):=by decide +kernel
theorem Kw(hc:X.calm=true):CallR X (.builtin "any") (λxs H Q=>∃(a:ZT) (bs:List Bool),xs=[.ref a]/\SqL X.K H a (bs.map V.bl)/\Q (.bl (bs.any id)) H):=by
 intro pq s σ H xs us Q I r h;obtain⟨a,bs,rfl,hq,q⟩:=h;obtain⟨u,rfl,ru⟩:=Ad r;cases ru;obtain⟨its,rv,pl,hz⟩:=I.list hq;have hl:=rv.length;rw[Vm]at hl;refine call_any_walk (Zz pl.isList ?_);have hlt:a<s.heap.objs.size:=by obtain⟨o,n,e,_⟩:=pl;exact Vv e
 refine⟨s.heap.objs.size,_,_,_,_,_,λi=>bs.getD i false,rfl,Walks.list (by exact I.ok.hd hc) s.heap.objs.size a (W0 hlt) its.toArray,⟨⟨_,W3 _ rfl,rfl,rfl⟩,pl.isList.push _⟩,?_,λh' tk hk=>?_⟩
 ·intro i v s' Q' E' hv hQ';have hv':its[i]?=some v:=by simpa using hv
  have hi:i<its.length:=(gM hv').1;have hb:(bs.map V.bl)[i]?=some (.bl (bs[i]'(by omega))):=by simp
  obtain⟨u',eu,ru'⟩:=rv.get hb;rw[hv']at eu;cases eu;cases ru';have hg:bs.getD i false=bs[i]'(by omega):=by simp[Wz,show i<bs.length by omega]
  have hQ2:Q' (bs.getD i false) s':=hQ';rw[hg]at hQ2;exact Zh hQ2
 ·have I1:Inv X pq σ H {s with heap:=h',toks:=tk}:=I.kept λb o e=>hk b o (by simp;exact W0 (Vv e)) (Vs _ e);refine⟨.bl _,H,I1,rfl,?_⟩
  have e:(W4 its.toArray.size).any (λi=>bs.getD i false)=bs.any id:=by
   rw[Vw,<-hl,Wd,XE,XE];constructor
   ·rintro⟨j,hj,e⟩;have hj1:j<bs.length:=WD.mp hj;exact⟨bs[j],XD hj1,by simpa[Wz,hj1] using e⟩
   ·rintro⟨b,hb,e⟩;obtain⟨j,hj,e2⟩:=Xf.mp hb;exact⟨j,WD.mpr hj,by simpa[Wz,hj,e2] using e⟩
  rw[e];exact q
end
end L2
namespace Rf
open PySem L2
abbrev QE:=SV->Sto->Prop
abbrev WE:=EnvS->Sto->QE->Prop
abbrev WA:=EnvS->Sto->(List SV->Sto->Prop)->Prop
abbrev WT:=EnvS->Sto->(Bool->Sto->Prop)->Prop
noncomputable def Post(K:Vl)(as:List ZT)(H:Hp)(Q:VK):QE:=λx S'=>∀ as' H' v,Go as H as' H'->Ok K as' H' S'->Rl K as' H' v x->Q v H'
noncomputable def Um(K:Vl)(as:List ZT)(H:Hp)(Q:List V->Hp->Prop):List SV->Sto->Prop:=λxs S'=>∀ as' H' vs,Go as H as' H'->Ok K as' H' S'->RlAll K as' H' vs xs->Q vs H'
def PostT(K:Vl)(as:List ZT)(H:Hp)(Q:Bool->Hp->Prop):Bool->Sto->Prop:=λb S'=>∀ as' H',Go as H as' H'->Ok K as' H' S'->Q b H'
noncomputable def lift(K:Vl)(w:WE):TE:=λσ H Q=>∃ as ρ S,Ok K as H S/\EnvOk K as H σ ρ/\w ρ S (Post K as H Q)
noncomputable def liftA(K:Vl)(w:WA):TA:=λσ H Q=>∃ as ρ S,Ok K as H S/\EnvOk K as H σ ρ/\w ρ S (Um K as H Q)
noncomputable def liftT(K:Vl)(w:WT):TT:=λσ H Q=>∃ as ρ S,Ok K as H S/\EnvOk K as H σ ρ/\w ρ S (PostT K as H Q)
def Mono(w:WE):Prop:=∀ ρ S (P P':QE),(∀ x S',P x S'->P' x S')->w ρ S P->w ρ S P'
def MonoA(w:WA):Prop:=∀ ρ S (P P':List SV->Sto->Prop),(∀ x S',P x S'->P' x S')->w ρ S P->w ρ S P'
def MonoT(w:WT):Prop:=∀ ρ S (P P':Bool->Sto->Prop),(∀ x S',P x S'->P' x S')->w ρ S P->w ρ S P'
theorem j9{X:Cx}{e:Expr}{t:TE}(t':TE)(h:PE X e t)(imp:∀ σ H Q,t' σ H Q->t σ H Q):PE X e t':=λpq s σ H Q I hw=>h pq s σ H Q I (imp σ H Q hw)
theorem Dg{X:Cx}{e:Expr}{t:TT}(t':TT)(h:PT X e t)(imp:∀ σ H Q,t' σ H Q->t σ H Q):PT X e t':=λpq s σ H Q I hw=>h pq s σ H Q I (imp σ H Q hw)
theorem Mh{X:Cx}{e:List Expr}{t:TA}(t':TA)(h:PA X e t)(imp:∀ σ H Q,t' σ H Q->t σ H Q):PA X e t':=λp pq s σ H Q I hw=>h p pq s σ H Q I (imp σ H Q hw)
section
variable{K:Vl}{as as1 as2:List ZT}{H H1 H2:Hp}
theorem Post.mono{Q:VK}{x:SV}{S:Sto}(h:Post K as H Q x S)(g:Go as H as1 H1):Post K as1 H1 Q x S:=λas' H' v g'=>h as' H' v (g.trans g')
end
abbrev S2:=SV->SV->Sto->QE->Prop
abbrev S1:=SV->Sto->QE->Prop
abbrev Sn:=List SV->Sto->QE->Prop
def w2(s:S2)(a b:WE):WE:=λρ S Q=>a ρ S λx S1=>b ρ S1 λy S2=>s x y S2 Q
def w1(s:S1)(a:WE):WE:=λρ S Q=>a ρ S λx S1=>s x S1 Q
def wn(s:Sn)(a:WA):WE:=λρ S Q=>a ρ S λxs S1=>s xs S1 Q
def Mono2(s:S2):Prop:=∀ x y S (P P':QE),(∀ x S',P x S'->P' x S')->s x y S P->s x y S P'
def GV(s:S1):Prop:=∀ x S (P P':QE),(∀ x S',P x S'->P' x S')->s x S P->s x S P'
def MonoN(s:Sn):Prop:=∀ x S (P P':QE),(∀ x S',P x S'->P' x S')->s x S P->s x S P'
theorem Mono.two{s:S2}{a b:WE}(hs:Mono2 s)(ha:Mono a)(hb:Mono b):Mono (w2 s a b):=λρ S P P' i h=>ha _ _ _ _ (λ_ _ h=>hb _ _ _ _ (λ_ _ h=>hs _ _ _ _ _ i h) h) h
theorem Mono.one{s:S1}{a:WE}(hs:GV s)(ha:Mono a):Mono (w1 s a):=λρ S P P' i h=>ha _ _ _ _ (λ_ _ h=>hs _ _ _ _ i h) h
theorem Mono.n{s:Sn}{a:WA}(hs:MonoN s)(ha:MonoA a):Mono (wn s a):=λρ S P P' i h=>ha _ _ _ _ (λ_ _ h=>hs _ _ _ _ i h) h
noncomputable def Bd(K:Vl)(s:S2)(r:R2):Prop:=∀ as H S x y v u Q,Ok K as H S->Rl K as H v x->Rl K as H u y->s x y S (Post K as H Q)->r v u H Q
noncomputable def Vc(K:Vl)(s:S1)(r:V->Hp->VK->Prop):Prop:=∀ as H S x v Q,Ok K as H S->Rl K as H v x->s x S (Post K as H Q)->r v H Q
noncomputable def Uo(K:Vl)(s:Sn)(r:List V->Hp->VK->Prop):Prop:=∀ as H S xs vs Q,Ok K as H S->RlAll K as H vs xs->s xs S (Post K as H Q)->r vs H Q
theorem BL{K:Vl}{s:S2}{r:R2}{wa wb:WE}(sim:Bd K s r)(ms:Mono2 s)(ma:Mono wa)(mb:Mono wb):∀ σ H Q,lift K (w2 s wa wb) σ H Q->tOp r (lift K wa) (lift K wb) σ H Q:=by
 rintro σ H Q ⟨as,ρ,S,ok,en,h⟩;refine⟨as,ρ,S,ok,en,ma _ _ _ _ (λx S1 hb as1 H1 v g1 ok1 rv=>?_) h⟩;refine⟨as1,ρ,S1,ok1,en.mono g1.pre (g1.ku ok),mb _ _ _ _ (λy S2 hs as2 H2 u g2 ok2 ru=>?_) hb⟩;exact sim as2 H2 S2 x y v u Q ok2 (Rl.mono g2.pre (g2.ku ok1) x v rv) ru (ms _ _ _ _ _ (λz S3 hz=>hz.mono (g1.trans g2)) hs)
theorem Si{K:Vl}{s:S1}{r:V->Hp->VK->Prop}{wa:WE}(sim:Vc K s r)(ms:GV s)(ma:Mono wa):∀ σ H Q,lift K (w1 s wa) σ H Q->tUn r (lift K wa) σ H Q:=by
 rintro σ H Q ⟨as,ρ,S,ok,en,h⟩;refine⟨as,ρ,S,ok,en,ma _ _ _ _ (λx S1 hs as1 H1 v g1 ok1 rv=>?_) h⟩;exact sim as1 H1 S1 x v Q ok1 rv (ms _ _ _ _ (λz S3 hz=>hz.mono g1) hs)
theorem Uq{K:Vl}{s:Sn}{r:List V->Hp->VK->Prop}{wa:WA}(sim:Uo K s r)(ms:MonoN s)(ma:MonoA wa):∀ σ H Q,lift K (wn s wa) σ H Q->tCB r (liftA K wa) σ H Q:=by
 rintro σ H Q ⟨as,ρ,S,ok,en,h⟩;refine⟨as,ρ,S,ok,en,ma _ _ _ _ (λx S1 hs as1 H1 v g1 ok1 rv=>?_) h⟩;exact sim as1 H1 S1 x v Q ok1 rv (ms _ _ _ _ (λz S3 hz=>hz.mono g1) hs)
def Ei:WA:=λ_ S Q=>Q [] S
def Dh(a:WE)(b:WA):WA:=λρ S Q=>a ρ S λx S1=>b ρ S1 λxs S2=>Q (x::xs) S2
theorem MonoA.nil:MonoA Ei:=λ_ _ _ _ i h=>i _ _ h
theorem MonoA.cons{a:WE}{b:WA}(ha:Mono a)(hb:MonoA b):MonoA (Dh a b):=λ_ _ _ _ i h=>ha _ _ _ _ (λ_ _ h=>hb _ _ _ _ (λ_ _ h=>i _ _ h) h) h
theorem PR{X:Cx}{K:Vl}:PA X [] (liftA K Ei):=Mh _ BH λσ H Q ⟨as,ρ,S,ok,en,h⟩=>h as H [] (Go.refl _ _) ok .nil
theorem Mi{K:Vl}{a:WE}{b:WA}(ma:Mono a)(mb:MonoA b):∀ σ H Q,liftA K (Dh a b) σ H Q->DV (lift K a) (liftA K b) σ H Q:=by
 rintro σ H Q ⟨as,ρ,S,ok,en,h⟩;refine⟨as,ρ,S,ok,en,ma _ _ _ _ (λx S1 hs as1 H1 v g1 ok1 rv=>?_) h⟩;refine⟨as1,ρ,S1,ok1,en.mono g1.pre (g1.ku ok),mb _ _ _ _ (λxs S2 hq as2 H2 vs g2 ok2 rs=>?_) hs⟩;exact hq as2 H2 _ (g1.trans g2) ok2 (.cons (Rl.mono g2.pre (g2.ku ok1) x v rv) rs)
theorem Mj{X:Cx}{K:Vl}{e:Expr}{es:List Expr}{a:WE}{b:WA}(ma:Mono a)(mb:MonoA b)(h1:PE X e (lift K a))(h2:PA X es (liftA K b))(hs:Zc (e::es) X.env=(false,eval e X.env)::Zc es X.env):PA X (e::es) (liftA K (Dh a b)):=Mh _ (AH h1 h2 hs) (Mi ma mb)
def Sj(i:Nat):WE:=λρ S Q=>∃ x,ρ[i]?=some (some x)/\Q x S
def wC(x:SV):WE:=λ_ S Q=>Q x S
theorem Mono.var{i:Nat}:Mono (Sj i):=λ_ _ _ _ i ⟨x,a,b⟩=>⟨x,a,i _ _ b⟩
theorem Mono.c{x:SV}:Mono (wC x):=λ_ _ _ _ i h=>i _ _ h
theorem PU{K:Vl}{i:Nat}:∀ σ H Q,lift K (Sj i) σ H Q->GF i σ H Q:=λσ H Q ⟨as,ρ,S,ok,en,x,e,h⟩=>let ⟨v,ev,rv⟩:=en.2 i x e;⟨v,ev,h as H v (Go.refl _ _) ok rv⟩
theorem GW{K:Vl}{x:SV}{v:V}(hx:∀ as H,Rl K as H v x):∀ σ H Q,lift K (wC x) σ H Q->tC v σ H Q:=λσ H Q ⟨as,ρ,S,ok,en,h⟩=>h as H v (Go.refl _ _) ok (hx as H)
def big:Nat:=100000
theorem Ae{n:Nat}(h:n<=big):n<=ZW:=WH h (by decide)
theorem FG{n:Nat}(h:n<big):n<ZW:=WR h (by decide)
def PV:Sn:=λxs S Q=>xs.length<=big/\Q (.tup xs) S
def Mk:Sn:=λxs S Q=>xs.length<=big/\Q (.loc S.length) (S++[.lst xs])
theorem MonoN.tup:MonoN PV:=λ_ _ _ _ i h=>⟨h.1,i _ _ h.2⟩
theorem MonoN.lst:MonoN Mk:=λ_ _ _ _ i h=>⟨h.1,i _ _ h.2⟩
theorem Sl{K:Vl}{as:List ZT}{H:Hp}{S:Sto}{p:ZT}(ok:Ok K as H S):Rl K (as++[p]) (upd H p (.lst vs)) (.ref p) (.loc S.length):=rl_loc.mpr ⟨p,by rw[<-ok.len,WL],rfl⟩
theorem Af{K:Vl}{as:List ZT}{H:Hp}{S:Sto}{Q:VK}{xs:List SV}{vs:List V}(ok:Ok K as H S)(r:RlAll K as H vs xs)(h:Post K as H Q (.loc S.length) (S++[.lst xs])):∀ p,H p=none->Q (.ref p) (upd H p (.lst vs)):=λp hp=>
 h (as++[p]) _ (.ref p) (Go.push hp) (ok.push hp r) (Sl ok)
theorem CS{K:Vl}{as:List ZT}{H:Hp}{S:Sto}{Q:VK}{xs:List SV}{vs:List V}(ok:Ok K as H S)(r:RlAll K as H vs xs)(h:Post K as H Q (.tup xs) S):∀ p,H p=none->Q (.ref p) (upd H p (.tup vs)):=λp hp=>
 h as _ (.ref p) (Go.new hp) (ok.new hp) (rl_tup.mpr ⟨p,vs,rfl,p5,RlAll.mono (WN _) (y0 hp) xs vs r⟩)
theorem PX{K:Vl}{wa:WA}(ma:MonoA wa):∀ σ H Q,lift K (wn PV wa) σ H Q->UT (liftA K wa) σ H Q:=by
 rintro σ H Q ⟨as,ρ,S,ok,en,h⟩;refine⟨as,ρ,S,ok,en,ma _ _ _ _ (λxs S1 hs as1 H1 vs g1 ok1 rv=>?_) h⟩;exact⟨by rw[rv.length];exact Ae hs.1,CS ok1 rv (hs.2.mono g1)⟩
theorem PY{K:Vl}{wa:WA}(ma:MonoA wa):∀ σ H Q,lift K (wn Mk wa) σ H Q->UU (liftA K wa) σ H Q:=by
 rintro σ H Q ⟨as,ρ,S,ok,en,h⟩;refine⟨as,ρ,S,ok,en,ma _ _ _ _ (λxs S1 hs as1 H1 vs g1 ok1 rv=>?_) h⟩;exact⟨by rw[rv.length];exact Ae hs.1,Af ok1 rv (hs.2.mono g1)⟩
end Rf
namespace L2
open PySem PySem.Spec PyProof.Rows
section
variable{prog:ZX}{w:Za}{A:Ze}{E:ZR->ZS->Prop}{s:ZS}
theorem SetX.kind{h:Heap}{a:ZT}{L:List Int}(x:SetX prog w h a L):h.SetOf (intKind prog w) a (λk=>decide (k∈L)) L.length:=by
 obtain⟨o,es,ep,t,ho,hx,hd,hel,hb,hf,hT,hp⟩:=x;refine⟨o,es,ep,t,ho,hx,hd,hel,λk=>?_,hb,hf,by rw[<-hp.length_eq];simp⟩;rw[dQ,<-hp.mem_iff,WC];constructor
 ·rintro⟨e,he,rfl⟩;obtain⟨⟨k,hk,_⟩,_⟩:=hel e he;exact⟨e,he,by rw[JY hk];exact hk⟩
 ·rintro⟨e,he,hk⟩;exact⟨e,he,JY hk⟩
end
section
variable{X:Cx}
theorem Ml:OpR X (Zg .In) (λx y H Q=>∃(k:Int) (p:ZT) (S:Int->Bool) (n:Nat),x = .int k/\y = .ref p/\H p=some (.set S n)/\Q (.bl (S k)) H):=by
 intro pq s σ H x y v u Q I rx ry h;obtain⟨k,p,S,n,rfl,rfl,hp,q⟩:=h;obtain⟨t,rfl⟩:=rx;cases ry;have hS:s.heap.SetOf (intKind X.prog X.w) p S n:=I.hok p _ hp;exact wpAny_inSet_of (k:=k) (intKind_is _ _ _ _) rfl hS ⟨.bl _,H,I.tok _,rfl,q⟩
end
theorem Vals.rev:∀{xs:List V} {us:List ZR},Vals xs us->Vals xs.reverse us.reverse
 | _,_,.nil => .nil
 | _,_,.cons r rr=>by
   rw[XS,XS];exact(Vals.rev rr).append (.cons r .nil)
open PySem PySem.Spec PyProof.Rows PySem.SeqAt
section
variable{X:Cx}
def R6(K:Vl):R2:=λx y H Q=>∃ a t,x = .ref a/\y = .str t/\((∃ xs,SqL K H a xs)\/∃ xs,SqT K H a xs)/\Q (.bl false) H
theorem PZ(hu:X.A.units<cLine):OpR X (Zg .Eq) (R6 X.K):=by
 intro pq s σ H x y v u Q I rx ry h;obtain⟨a,t,rfl,rfl,h1,q⟩:=h;cases rx;obtain⟨tk,rfl⟩:=ry
 have e:ZV (ZY X.prog X.w) X.A (A03 .Eq (.ref a) (.str t tk)) (EP X pq σ Q) X.xe s:=by
  rcases h1 with⟨xs,h1⟩ | ⟨xs,h1⟩
  ·obtain⟨its,r1,p1,_⟩:=I.list h1;exact RcAt.list_str t tk p1.isList hu _ _ _ _ ⟨.bl false,H,I,rfl,q⟩
  ·obtain⟨its,r1,p1,_⟩:=I.tuple h1;exact RcAt.tuple_str (items:=its.toArray) t tk p1 hu _ _ _ _ ⟨.bl false,H,I,rfl,q⟩
 exact e
end
end L2
namespace Rf
open PySem L2
def AG:SV->Bool
 | .non=>true | .bl _=>true | .int _=>true | .str _=>true | _=>false
def toV:SV->V
 | .non => .non | .bl b => .bl b | .int i => .int i | .str x => .str x | _ => .non
def eqF:SV->SV->Bool
 | .non,.non=>true
 | .bl a,.bl b=>a == b
 | .bl a,.int b=>(if a then 1 else 0) == b
 | .int a,.bl b=>a == (if b then 1 else 0)
 | .int a,.int b=>a == b
 | .str a,.str b=>a == b
 | _,_=>false
def IK(xs ys:List SV):Bool:=xs.length == ys.length&&(xs.zip ys).all λp=>eqF p.1 p.2
def inS(x:SV)(xs:List SV):Bool:=xs.any λy=>eqF y x
section
variable{K:Vl}{as:List ZT}{H:Hp}
theorem JZ{x:SV}{v:V}(f:AG x=true)(r:Rl K as H v x):v=toV x:=by
 cases x with
 | non=>exact rl_non.mp r
 | bl _=>exact rl_bl.mp r
 | int _=>exact rl_int.mp r
 | str _=>exact rl_str.mp r
 | _=>cases f
theorem B7:∀{xs:List SV} {vs:List V},xs.all AG=true->RlAll K as H vs xs->vs=xs.map toV
 | [],_,_,r=>rla_nil.mp r
 | x::xs,_,f,r=>by
   rw[X0,Vn]at f;obtain⟨v,vs,rfl,r1,r2⟩:=rla_cons.mp r;rw[JZ f.1 r1,B7 f.2 r2];rfl
theorem GX{x:SV}(f:AG x=true):AQ (toV x)=true:=by cases x<;>first | rfl | cases f
theorem Co{xs:List SV}(f:xs.all AG=true):(xs.map toV).all AQ=true:=by
 rw[WJ]at f ⊢;intro v hv;obtain⟨x,hx,rfl⟩:=WC.mp hv;exact GX (f x hx)
theorem FH{x y:SV}(fx:AG x=true)(fy:AG y=true):eqV (toV x) (toV y)=eqF x y:=by
 cases x<;>first | cases fx;done | (cases y<;>first | rfl | cases fy)
theorem Sm{x:SV}{xs:List SV}(fx:AG x=true)(f:xs.all AG=true):inV (toV x) (xs.map toV)=inS x xs:=by
 unfold inV inS;rw[Xq];rw[WJ]at f;rw[Wd,XE,XE];constructor
 ·rintro⟨y,hy,e⟩;exact⟨y,hy,by rw[<-FH (f y hy) fx];exact e⟩
 ·rintro⟨y,hy,e⟩;exact⟨y,hy,by show eqV (toV y) (toV x)=true;rw[FH (f y hy) fx];exact e⟩
theorem Pa:∀{xs ys:List SV},xs.all AG=true->ys.all AG=true->B1 (xs.map toV) (ys.map toV)=IK xs ys:=by
 intro xs ys fx fy;unfold B1 IK;rw[Vm,Vm,List.zip_map,YQ]
 congr 1
 rw[Wd,WJ,WJ];rw[WJ]at fx fy;constructor
 ·rintro h ⟨a,b⟩ hm;have:=h (a,b) hm;rw[<-FH (fx a (XO hm).1) (fy b (XO hm).2)];exact this
 ·rintro h ⟨a,b⟩ hm;have:=h (a,b) hm;show eqV (toV a) (toV b)=true;rw[FH (fx a (XO hm).1) (fy b (XO hm).2)];exact this
def seqS:SV->Sto->Option (List SV)
 | .tup xs,_=>some xs
 | .ro xs,_=>some xs
 | .loc k,S=>match S[k]? with | some (.lst xs)=>some xs | _=>none
 | _,_=>none
theorem FI{x:SV}{v:V}{S:Sto}{xs:List SV}(ok:Ok K as H S)(r:Rl K as H v x)(h:seqS x S=some xs):∃ a vs,v = .ref a/\(SqL K H a vs\/SqT K H a vs)/\RlAll K as H vs xs:=by
 cases x with
 | tup ys=>
   cases h;obtain⟨p,vs,rfl,hp,rr⟩:=rl_tup.mp r;exact⟨p,vs,rfl,.inr (SqT.of hp),rr⟩
 | ro ys=>
   cases h;obtain⟨p,vs,rfl,hp,rr⟩:=rl_ro.mp r;exact⟨p,vs,rfl,.inl hp.sq,rr⟩
 | loc k=>
   obtain⟨a,ea,rfl⟩:=rl_loc.mp r;unfold seqS at h;cases hs:S[k]? with
   | none=>simp only[hs]at h;cases h
   | some o=>
     cases o with
     | lst ys=>
       simp only[hs]at h;cases h;obtain⟨vs,h1,rr⟩:=ok.obj k _ a hs ea;exact⟨a,vs,rfl,.inl (SqL.of h1),rr⟩
     | iset _=>simp only[hs]at h;cases h
     | dtl _=>simp only[hs]at h;cases h
     | dtf _ _ _=>simp only[hs]at h;cases h
     | dtp _=>simp only[hs]at h;cases h
     | dct _=>simp only[hs]at h;cases h
     | dcf _ _ _=>simp only[hs]at h;cases h
 | _=>cases h
theorem v3{k:Nat}{v:V}{S:Sto}{xs:List SV}(ok:Ok K as H S)(r:Rl K as H v (.loc k))(h:S[k]?=some (.lst xs)):∃ a vs,v = .ref a/\as[k]?=some a/\H a=some (.lst vs)/\RlAll K as H vs xs:=by
 obtain⟨a,ea,rfl⟩:=rl_loc.mp r;obtain⟨vs,h1,rr⟩:=ok.obj k _ a h ea;exact⟨a,vs,rfl,ea,h1,rr⟩
end
def Mm:S2
 | .int i,.int j,S,Q=>Q (.int (i+j)) S
 | .loc k,.loc l,S,Q=>∃ xs ys,S[k]?=some (.lst xs)/\S[l]?=some (.lst ys)/\xs.length+ys.length<=big/\Q (.loc S.length) (S++[.lst (xs++ys)])
 | _,_,_,_=>False
def IL(C:Int->Int->Prop)(g:Int->Int->SV):S2
 | .int i,.int j,S,Q=>C i j/\Q (g i j) S
 | _,_,_,_=>False
def CT(g:Int->Int->SV):S2
 | .int i,.int j,S,Q=>Q (g i j) S
 | _,_,_,_=>False
def Mn:S2
 | .int i,.int j,S,Q=>CMul i j/\Q (.int (i * j)) S
 | .loc k,.int j,S,Q=>∃ xs,S[k]?=some (.lst xs)/\(-1000000<j/\j<1000000)/\xs.length * j.toNat<=big/\Q (.loc S.length) (S++[.lst (Vx j.toNat xs).flatten])
 | _,_,_,_=>False
theorem Mono2.add:Mono2 Mm:=λx y S P P' i h=>by
 unfold Mm at h ⊢
 split at h<;>first
  | exact i _ _ h
  | exact⟨h.1,i _ _ h.2⟩
  | (obtain⟨xs,ys,a,b,c,d⟩:=h;exact⟨xs,ys,a,b,c,i _ _ d⟩)
  | exact h.elim
theorem Mono2.int{C:Int->Int->Prop}{g:Int->Int->SV}:Mono2 (IL C g):=λx y S P P' i h=>by
 unfold IL at h ⊢;split at h
 ·exact⟨h.1,i _ _ h.2⟩
 ·exact h.elim
theorem Mono2.int0{g:Int->Int->SV}:Mono2 (CT g):=λx y S P P' i h=>by
 unfold CT at h ⊢;split at h
 ·exact i _ _ h
 ·exact h.elim
theorem Mono2.mul:Mono2 Mn:=λx y S P P' i h=>by
 unfold Mn at h ⊢;split at h
 ·exact⟨h.1,i _ _ h.2⟩
 ·obtain⟨xs,a,b,c,d⟩:=h;exact⟨xs,a,b,c,i _ _ d⟩
 ·exact h.elim
section
variable{K:Vl}
theorem Post.here{as:List ZT}{H:Hp}{Q:VK}{x:SV}{S:Sto}{v:V}(h:Post K as H Q x S)(ok:Ok K as H S)(r:Rl K as H v x):Q v H:=h as H v (Go.refl _ _) ok r
theorem FJ{C:Int->Int->Prop}{g:Int->Int->SV}{g':Int->Int->V}(hg:∀ as H i j,Rl K as H (g' i j) (g i j)):Bd K (IL C g) (rI C g'):=λas H S x y v u Q ok rx ry h=>by
 unfold IL at h;split at h
 ·rw[rl_int]at rx ry;exact⟨_,_,rx,ry,h.1,h.2.here ok (hg _ _ _ _)⟩
 ·exact h.elim
theorem Be{g:Int->Int->SV}{g':Int->Int->V}(hg:∀ as H i j,Rl K as H (g' i j) (g i j)):Bd K (CT g) (rI0 g'):=λas H S x y v u Q ok rx ry h=>by
 unfold CT at h;split at h
 ·rw[rl_int]at rx ry;exact⟨_,_,rx,ry,h.here ok (hg _ _ _ _)⟩
 ·exact h.elim
def Ur(K:Vl):R2:=λx y H Q=>(rI0 λi j => .int (i+j)) x y H Q\/Uc x y H Q
theorem Pb{X:Cx}:OpR X (A0e .Add) (Ur X.K):=op_add.or ST
theorem Pc:Bd K Mm (Ur K):=λas H S x y v u Q ok rx ry h=>by
 unfold Mm at h;split at h
 ·rw[rl_int]at rx ry;exact .inl ⟨_,_,rx,ry,h.here ok (rl_int.mpr rfl)⟩
 ·obtain⟨xs,ys,h1,h2,h3,h4⟩:=h;obtain⟨a,vs,rfl,_,ha,ra⟩:=v3 ok rx h1;obtain⟨b,us,rfl,_,hb,rb⟩:=v3 ok ry h2;exact(.inr (⟨a,b,vs,us,rfl,rfl,ha,hb,by rw[ra.length,rb.length];exact Ae h3,Af ok (ra.append rb) h4⟩))
 ·exact h.elim
theorem RlAll.rep{as:List ZT}{H:Hp}{vs:List V}{xs:List SV}(h:RlAll K as H vs xs):∀ n,RlAll K as H (Vx n vs).flatten (Vx n xs).flatten
 | 0=>by simpa using RlAll.nil
 | n+1=>by
   rw[WQ,WQ,Wx,Wx];exact h.append (RlAll.rep h n)
theorem Pd:Bd K Mn (λx y H Q=>(rI CMul λi j => .int (i * j)) x y H Q\/Ud x y H Q):=λas H S x y v u Q ok rx ry h=>by
 unfold Mn at h;split at h
 ·rw[rl_int]at rx ry;exact .inl ⟨_,_,rx,ry,h.1,h.2.here ok (rl_int.mpr rfl)⟩
 ·rename_i k j;obtain⟨xs,h1,h2,h3,h4⟩:=h;obtain⟨a,vs,rfl,_,ha,ra⟩:=v3 ok rx h1;rw[rl_int]at ry;subst ry;exact .inr (⟨a,j,vs,rfl,rfl,ha,by omega,by omega,by rw[ra.length];exact Ae h3,Af ok (ra.rep _) h4⟩)
 ·exact h.elim
end
def scS:SV->SV->Option Bool
 | .int i,.int j=>some (decide (i=j))
 | .bl i,.bl j=>some (decide (i=j))
 | .str i,.str j=>some (decide (i=j))
 | .non,.non=>some true
 | .non,.int _=>some false | .int _,.non=>some false | .non,.bl _=>some false | .bl _,.non=>some false | .non,.str _=>some false | .str _,.non=>some false
 | .int _,.str _=>some false | .str _,.int _=>some false | .bl _,.str _=>some false | .str _,.bl _=>some false
 | _,_=>none
def IM:SV->SV->Sto->(Bool->Prop)->Prop
 | .loc k,.loc l,S,Q=>∃ xs ys,S[k]?=some (.lst xs)/\S[l]?=some (.lst ys)/\((xs.all AG=true/\ys.all AG=true)\/xs=[]\/ys=[])/\Q (IK xs ys)
 | _,_,_,_=>False
def Kx:SV->SV->Sto->(Bool->Prop)->Prop
 | .loc k,.loc l,S,Q=>∃ xs ys,S[k]?=some (.lst xs)/\S[l]?=some (.lst ys)/\((xs.all AG=true/\ys.all AG=true)\/xs=[]\/ys=[])/\Q (IK xs ys)
 | .loc k,.str _,S,Q=>(∃ xs,S[k]?=some (.lst xs))/\Q false
 | .tup _,.str _,_,Q=>Q false
 | _,_,_,_=>False
theorem So{x y:SV}{S:Sto}{Q:Bool->Prop}(h:Kx x y S Q):IM x y S Q\/(∃ t,y = .str t/\((∃ k xs,x = .loc k/\S[k]?=some (.lst xs))\/∃ xs,x = .tup xs)/\Q false):=by
 unfold Kx at h;split at h
 ·exact .inl h
 ·obtain⟨⟨xs,e⟩,q⟩:=h;exact .inr ⟨_,rfl,.inl ⟨_,xs,rfl,e⟩,q⟩
 ·exact .inr ⟨_,rfl,.inr ⟨_,rfl⟩,h⟩
 ·exact h.elim
theorem Ky{x y:SV}{S:Sto}{P P':Bool->Prop}(i:∀ b,P b->P' b)(h:Kx x y S P):Kx x y S P':=by
 unfold Kx at h ⊢;split at h
 ·obtain⟨xs,ys,a,b,c,d⟩:=h;exact⟨xs,ys,a,b,c,i _ d⟩
 ·exact⟨h.1,i _ h.2⟩
 ·exact i _ h
 ·exact h.elim
def sEq:S2:=λx y S Q=>match scS x y with | some b=>Q (.bl b) S | none=>Kx x y S λb=>Q (.bl b) S
def sNe:S2:=λx y S Q=>match scS x y with | some b=>Q (.bl (!b)) S | none=>IM x y S λb=>Q (.bl (!b)) S
def BU:SV->Sto->Option (List Int)
 | .loc k,S=>match S[k]? with | some (.iset ms)=>some ms | _=>none
 | _,_=>none
def sIn(neg:Bool):S2:=λx y S Q=>match BU y S with
 | some ms=>∃ i,x = .int i/\neg=false/\Q (.bl (decide (i∈ms))) S
 | none=>AG x=true/\∃ ys,seqS y S=some ys/\ys.all AG=true/\Q (.bl (if neg then !inS x ys else inS x ys)) S
def A9:SV->Bool
 | .non=>true
 | _=>false
def Mo(neg:Bool):S2:=λx y S Q=>(y = .non/\Q (.bl (if neg then !A9 x else A9 x)) S)\/∃ c d,neg=true/\x = .bl c/\y = .bl d/\Q (.bl (c != d)) S
theorem Kz{x y:SV}{S:Sto}{P P':Bool->Prop}(i:∀ b,P b->P' b)(h:IM x y S P):IM x y S P':=by
 unfold IM at h ⊢;split at h
 ·obtain⟨xs,ys,a,b,c,d⟩:=h;exact⟨xs,ys,a,b,c,i _ d⟩
 ·exact h.elim
theorem Mono2.eq:Mono2 sEq:=λx y S P P' i h=>by
 unfold sEq at h ⊢;split at h
 ·exact i _ _ h
 ·exact Ky (λ_=>i _ _) h
theorem Mono2.ne:Mono2 sNe:=λx y S P P' i h=>by
 unfold sNe at h ⊢;split at h
 ·exact i _ _ h
 ·exact Kz (λ_=>i _ _) h
theorem Mono2.in'{n:Bool}:Mono2 (sIn n):=λx y S P P' i h=>by
 unfold sIn at h ⊢;split at h
 ·obtain⟨j,e,z,h⟩:=h;exact⟨j,e,z,i _ _ h⟩
 ·obtain⟨f,ys,a,b,h⟩:=h;exact⟨f,ys,a,b,i _ _ h⟩
theorem Mono2.isN{n:Bool}:Mono2 (Mo n):=λx y S P P' i h=>h.imp (λh=>⟨h.1,i _ _ h.2⟩) λ⟨c,d,z,a,b,h⟩=>⟨c,d,z,a,b,i _ _ h⟩
section
variable{K:Vl}
theorem Mp{as:List ZT}{H:Hp}{x y:SV}{v u:V}{b:Bool}(e:scS x y=some b)(rx:Rl K as H v x)(ry:Rl K as H u y):SI v u=true/\decide (v=u)=b:=by
 cases x<;>first | (unfold scS at e;cases e;done) | (cases y<;>first | (unfold scS at e;cases e;done) | (simp only[rl_non,rl_bl,rl_int,rl_str]at rx ry;subst rx ry;unfold scS at e;injection e with e;subst e;exact⟨rfl,by simp⟩))
theorem Ja{as:List ZT}{H:Hp}{S:Sto}{x y:SV}{v u:V}{Q:Bool->Prop}(ok:Ok K as H S)(rx:Rl K as H v x)(ry:Rl K as H u y)(h:IM x y S Q):∃ a b xs ys,v = .ref a/\u = .ref b/\SqL K H a xs/\SqL K H b ys/\((xs.all AQ=true/\ys.all AQ=true)\/xs=[]\/ys=[])/\Q (B1 xs ys):=by
 unfold IM at h;split at h
 ·obtain⟨xs,ys,h1,h2,h3,h4⟩:=h;obtain⟨a,vs,rfl,_,ha,ra⟩:=v3 ok rx h1;obtain⟨b,us,rfl,_,hb,rb⟩:=v3 ok ry h2;refine⟨a,b,vs,us,rfl,rfl,SqL.of ha,SqL.of hb,?_,?_⟩
  ·rcases h3 with⟨f1,f2⟩ | h3 | h3
   ·rw[B7 f1 ra,B7 f2 rb];exact .inl ⟨Co f1,Co f2⟩
   ·subst h3;exact .inr (.inl (rla_nil.mp ra))
   ·subst h3;exact .inr (.inr (rla_nil.mp rb))
  ·have e:B1 vs us=IK xs ys:=by
    rcases h3 with⟨f1,f2⟩ | h3 | h3
    ·rw[B7 f1 ra,B7 f2 rb,Pa f1 f2]
    ·subst h3;have:=rla_nil.mp ra;subst this;have l:=rb.length;unfold B1 IK;simp[l]
    ·subst h3;have:=rla_nil.mp rb;subst this;have l:=ra.length;unfold B1 IK;simp[l]
   rw[e];exact h4
 ·exact h.elim
theorem Sq:Bd K sEq (λx y H Q=>rEq x y H Q\/(PL K false x y H Q\/R6 K x y H Q)):=λas H S x y v u Q ok rx ry h=>by
 unfold sEq at h;split at h
 ·rename_i b e;obtain⟨h1,h2⟩:=Mp e rx ry;exact .inl ⟨h1,by rw[h2];exact h.here ok (rl_bl.mpr rfl)⟩
 ·rcases So h with h | ⟨t,rfl,h,q⟩
  ·obtain⟨a,b,xs,ys,e1,e2,h1,h2,h3,h4⟩:=Ja ok rx ry h;exact .inr (.inl ⟨a,b,xs,ys,e1,e2,h1,h2,h3,h4.here ok (rl_bl.mpr rfl)⟩)
  ·rw[rl_str]at ry;subst ry;rcases h with⟨k,xs,rfl,hk⟩ | ⟨xs,rfl⟩
   ·obtain⟨a,vs,rfl,_,ha,_⟩:=v3 ok rx hk;exact .inr (.inr ⟨a,t,rfl,rfl,.inl ⟨vs,SqL.of ha⟩,Post.here q ok (rl_bl.mpr rfl)⟩)
   ·obtain⟨p,vs,rfl,hp,_⟩:=rl_tup.mp rx;exact .inr (.inr ⟨p,t,rfl,rfl,.inr ⟨vs,SqT.of hp⟩,Post.here q ok (rl_bl.mpr rfl)⟩)
theorem Sr:Bd K sNe (λx y H Q=>rNe x y H Q\/PL K true x y H Q):=λas H S x y v u Q ok rx ry h=>by
 unfold sNe at h;split at h
 ·rename_i b e;obtain⟨h1,h2⟩:=Mp e rx ry;exact .inl ⟨h1,by rw[h2];exact h.here ok (rl_bl.mpr rfl)⟩
 ·obtain⟨a,b,xs,ys,e1,e2,h1,h2,h3,h4⟩:=Ja ok rx ry h;exact .inr ⟨a,b,xs,ys,e1,e2,h1,h2,h3,h4.here ok (rl_bl.mpr rfl)⟩
theorem Pe{as:List ZT}{H:Hp}{S:Sto}{y:SV}{u:V}{ms:List Int}(ok:Ok K as H S)(r:Rl K as H u y)(h:BU y S=some ms):∃ a k F,y = .loc k/\u = .ref a/\as[k]?=some a/\S[k]?=some (.iset ms)/\H a=some (.set F ms.length)/\∀ k,F k=decide (k∈ms):=by
 cases y with
 | loc k=>
   obtain⟨a,ea,rfl⟩:=rl_loc.mp r;unfold BU at h;cases hs:S[k]? with
   | none=>simp only[hs]at h;cases h
   | some o=>
     cases o with
     | lst ys=>simp only[hs]at h;cases h
     | iset ns=>
       simp only[hs]at h;cases h;obtain⟨F,h1,h2⟩:=ok.obj k _ a hs ea;exact⟨a,k,F,rfl,rfl,ea,hs,h1,h2⟩
     | dtl _=>simp only[hs]at h;cases h
     | dtf _ _ _=>simp only[hs]at h;cases h
     | dtp _=>simp only[hs]at h;cases h
     | dct _=>simp only[hs]at h;cases h
     | dcf _ _ _=>simp only[hs]at h;cases h
 | _=>cases h
def Ss(K:Vl)(neg:Bool):R2:=λx y H Q=>rIn K neg x y H Q\/(neg=false/\∃(k:Int) (p:ZT) (S:Int->Bool) (n:Nat),x = .int k/\y = .ref p/\H p=some (.set S n)/\Q (.bl (S k)) H)
theorem Su{X:Cx}:OpR X (Zg .In) (Ss X.K false):=λpq s σ H x y v u Q I rx ry h=>h.elim (Km pq s σ H x y v u Q I rx ry) λh=>Ml pq s σ H x y v u Q I rx ry h.2
theorem L0{X:Cx}:OpR X (Zg .NotIn) (Ss X.K true):=λpq s σ H x y v u Q I rx ry h=>h.elim (FB pq s σ H x y v u Q I rx ry) λh=>by cases h.1
theorem Mq{n:Bool}:Bd K (sIn n) (Ss K n):=λas H S x y v u Q ok rx ry h=>by
 unfold sIn at h;split at h
 ·rename_i ms hi;obtain⟨i,rfl,rfl,h⟩:=h;obtain⟨a,k,F,rfl,rfl,ea,es,hF,hk⟩:=Pe ok ry hi;rw[rl_int]at rx;exact .inr ⟨rfl,i,a,F,_,rx,rfl,hF,by rw[hk];exact h.here ok (rl_bl.mpr rfl)⟩
 ·obtain⟨f,ys,hs,fs,h⟩:=h;obtain⟨a,vs,rfl,hq,rr⟩:=FI ok ry hs;have ev:=JZ f rx;have es:=B7 fs rr;subst ev es;exact .inl ⟨a,_,rfl,hq,GX f,Co fs,by rw[Sm f fs];exact h.here ok (rl_bl.mpr rfl)⟩
theorem GY{as:List ZT}{H:Hp}{x:SV}{v:V}(r:Rl K as H v x):decide (v=V.non)=A9 x:=by
 cases x with
 | non=>rw[rl_non.mp r];rfl
 | bl _=>rw[rl_bl.mp r];rfl
 | int _=>rw[rl_int.mp r];rfl
 | str _=>rw[rl_str.mp r];rfl
 | tup _=>obtain⟨p,vs,rfl,_⟩:=rl_tup.mp r;rfl
 | loc _=>obtain⟨p,_,rfl⟩:=rl_loc.mp r;rfl
 | ro _=>obtain⟨p,vs,rfl,_⟩:=rl_ro.mp r;rfl
 | ty _=>rw[rl_ty.mp r];rfl
theorem Pf:Bd K (Mo false) (λx y H Q=>y = .non/\Q (.bl (decide (x = .non))) H):=λas H S x y v u Q ok rx ry h=>by
 rcases h with⟨e,h⟩ | ⟨c,d,z,_⟩
 ·subst e;exact⟨rl_non.mp ry,by rw[GY rx];exact h.here ok (rl_bl.mpr rfl)⟩
 ·cases z
theorem Mr:Bd K (Mo true) (λx y H Q=>(y = .non/\Q (.bl (!decide (x = .non))) H)\/∃ c d,x = .bl c/\y = .bl d/\Q (.bl (c != d)) H):=λas H S x y v u Q ok rx ry h=>by
 rcases h with⟨e,h⟩ | ⟨c,d,_,rfl,rfl,h⟩
 ·subst e;exact .inl ⟨rl_non.mp ry,by rw[GY rx];exact h.here ok (rl_bl.mpr rfl)⟩
 ·exact .inr ⟨c,d,rl_bl.mp rx,rl_bl.mp ry,h.here ok (rl_bl.mpr rfl)⟩
end
def sIx:S2
 | x,.int i,S,Q=>∃ xs y,seqS x S=some xs/\atI xs i=some y/\Q y S
 | _,_,_,_=>False
theorem Mono2.ix:Mono2 sIx:=λx y S P P' i h=>by
 unfold sIx at h ⊢;split at h
 ·obtain⟨xs,z,a,b,c⟩:=h;exact⟨xs,z,a,b,i _ _ c⟩
 ·exact h.elim
section
variable{K:Vl}
theorem RlAll.atI{as:List ZT}{H:Hp}{xs:List SV}{vs:List V}{i:Int}{y:SV}(h:RlAll K as H vs xs)(e:L2.atI xs i=some y):∃ v,L2.atI vs i=some v/\Rl K as H v y:=by
 unfold L2.atI at e ⊢;rw[h.length];cases hj:ixN xs.length i with
 | none=>rw[hj]at e;cases e
 | some j=>
   rw[hj]at e;exact h.get e
theorem Sv:Bd K sIx (λx y H Q=>UZ K x y H Q\/Ua K x y H Q):=λas H S x y v u Q ok rx ry h=>by
 unfold sIx at h;split at h
 ·obtain⟨xs,z,h1,h2,h3⟩:=h;obtain⟨a,vs,rfl,hq,rr⟩:=FI ok rx h1;obtain⟨w,hw,rw'⟩:=rr.atI h2;rw[rl_int]at ry;rcases hq with hq | hq
  ·exact .inl ⟨a,vs,_,w,rfl,ry,hq,hw,h3.here ok rw'⟩
  ·exact .inr ⟨a,vs,_,w,rfl,ry,hq,hw,h3.here ok rw'⟩
 ·exact h.elim
end
end Rf
namespace L2
open PySem PySem.Spec PyProof.Rows
section
variable{prog:ZX}{w:Za}{A:Ze}{R:Result->ZS->Prop}{I:ZT}{fp wr:List ZT}{n:Nat}{P:Nat->ZR->Prop}{St:Nat->Heap->Prop}
structure CmpIn(prog:ZX)(w:Za)(A:Ze)(wr:List ZT)(S:ZT)(P:Nat->ZR->Prop)(bt:Nat->Nat->Bool)(G:Heap->Prop):Prop where
 keep:∀ h h',G h->(∀ b o,b∉wr->b≠S->h.get? b=some o->h'.get? b=some o)->G h'
 cmp:∀(s:ZS),G s.heap->∀(i j:Nat) (vi vj:ZR) (Q:ZR->ZS->Prop) (E:ZR->ZS->Prop),P i vi->P j vj->Q (.bool (bt i j)) s->ZV (ZY prog w) A (A03 .Lt vi vj) Q E s
theorem FK{kw:List (Str×ZR)}(W:Walks prog w A.in1 I fp wr n P St){bt:Nat->Nat->Bool}{S:ZT}{G:Heap->Prop}(C:CmpIn prog w A.in1 wr S P bt G)(hSf:S∉fp)(k:Nat):
 ∀(j:Nat) (s:ZS) (vb:ZR) (c:Nat),n=j+1+k->St (j+1) s.heap->G s.heap->P (argBest bt j) vb->
 s.heap.get? S=some {cls := .type "list",dict:=none,data := .seq #[vb,vb] c,slots:=#[]}->
 (∀ v h' tk,P (argBest bt (n - 1)) v->(∀ b o,b∉wr->b≠S->s.heap.get? b=some o->h'.get? b=some o)->R (.ok (.ret v)) {s with heap:=h',toks:=tk})->
 codeAny (ZY prog w) A (.builtin "min.loop" ⟨[.ref I,.none,.ref S],kw⟩) R s:=by
 have hSw:S∉wr:=λz=>hSf (W.sub _ z);have nm:(toString "min"++toString ".loop":String)="min.loop":=by decide
 induction k with
 | zero=>
   intro j s vb c hk hst hG hPb hS hR;refine A08 F.entry_min_loop ?_;rw[Around.under_plainId F.plain_min_loop _];refine ZQ (m:=A0n (.ref S)) (Zj hS rfl ?_);have hst':St n s.heap:=by rw[hk];exact hst
   refine ZQ (m:=tryCatch (pyNext (.ref I)) _) (Zp (W.done s _ _ hst' λh1 tk k1=>?_));have hS1:=k1 S _ hSw hS;refine ZQ (m:=A19 S (λ_=>#[])) (A09 hS1 rfl (ZQ (Zx (ZU ?_))));exact hR vb _ tk (by rw[hk];exact hPb) λb o hb hn e=>(Wq _ _ (Ne.symm hn)).trans (k1 b o hb e)
 | succ k ih=>
   intro j s vb c hk hst hG hPb hS hR;refine A08 F.entry_min_loop ?_;rw[Around.under_plainId F.plain_min_loop _];refine ZQ (m:=A0n (.ref S)) (Zj hS rfl ?_);refine ZQ (m:=tryCatch (pyNext (.ref I)) _) (Zp (W.item (j+1) s _ _ (by omega) hst λv h1 tk hP st1 k1=>?_));have hS1:=k1 S _ hSw hS;have hG1:=C.keep _ _ hG λb o hb _ e=>k1 b o hb e;refine ZQ (m:=tryCatch (holding [v,v] (A03 .Lt v vb >>= _)) _) (Zp (Zn (ZQ (C.cmp _ hG1 (j+1) (argBest bt j) v vb _ _ hP hPb ?_))));refine ZQ (Zn (Zh (ZQ (Zx (ZU ?_)))));cases hb:bt (j+1) (argBest bt j) with
   | true=>
     simp only[if_true];refine ZQ (A09 hS1 rfl (ZQ (Zx ?_)));rw[nm];have up:∀ b o,b≠S->h1.get? b=some o->(Ye h1 S (Obj.mapSeq λ_=>#[v,v])).get? b=some o:=λb o hn e=>(Wq _ _ (Ne.symm hn)).trans e;refine ZU ⟨A00 F.plain_min_loop _,ih (j+1) _ v _ (by omega) (W.frame _ _ _ st1 λb hbf o e=>up b o (λz=>hSf (z▸hbf)) e) (C.keep _ _ hG1 λb o _ hn e=>up b o hn e) ?_ (Wr _ hS1 rfl) λv' h2 tk2 hP' k2=>?_⟩
     ·simp only[argBest,hb,if_true];exact hP
     ·exact hR v' h2 tk2 hP' λb o hbw hn e=>k2 b o hbw hn (up b o hn (k1 b o hbw e))
   | false=>
     simp only[X3,if_false];refine ZQ (Zx ?_);rw[nm];refine ZU ⟨A00 F.plain_min_loop _,ih (j+1) _ vb c (by omega) st1 hG1 ?_ hS1 λv' h2 tk2 hP' k2=>?_⟩
     ·simp only[argBest,hb,X3,if_false];exact hPb
     ·exact hR v' h2 tk2 hP' λb o hbw hn e=>k2 b o hbw hn (k1 b o hbw e)
theorem EO{d:ZR}(W:Walks prog w A.in1 I fp wr n P St){bt:Nat->Nat->Bool}{S:ZT}{G:Heap->Prop}(C:CmpIn prog w A.in1 wr S P bt G)(hSf:S∉fp){s:ZS}{c:Nat}(hst:St 0 s.heap)(hG:G s.heap)
 (hS:s.heap.get? S=some {cls := .type "list",dict:=none,data := .seq #[] c,slots:=#[]})
 (h0:n=0->∀ h' tk,(∀ b o,b∉wr->b≠S->s.heap.get? b=some o->h'.get? b=some o)->R (.ok (.ret d)) {s with heap:=h',toks:=tk})
 (hR:0<n->∀ v h' tk,P (argBest bt (n - 1)) v->(∀ b o,b∉wr->b≠S->s.heap.get? b=some o->h'.get? b=some o)->R (.ok (.ret v)) {s with heap:=h',toks:=tk}):
 codeAny (ZY prog w) A (.builtin "min.loop" ⟨[.ref I,.none,.ref S],[(Str.ofString "default",d)]⟩) R s:=by
 have hSw:S∉wr:=λz=>hSf (W.sub _ z);have nm:(toString "min"++toString ".loop":String)="min.loop":=by decide
 refine A08 F.entry_min_loop ?_;rw[Around.under_plainId F.plain_min_loop _];refine ZQ (m:=A0n (.ref S)) (Zj hS rfl ?_);by_cases hn:n=0
 ·subst hn;refine ZQ (m:=tryCatch (pyNext (.ref I)) _) (Zp (W.done s _ _ hst λh1 tk k1=>?_));exact ZQ (A0b (ZU (h0 rfl h1 tk λb o hb _ e=>k1 b o hb e)))
 ·refine ZQ (m:=tryCatch (pyNext (.ref I)) _) (Zp (W.item 0 s _ _ (by omega) hst λv h1 tk hP st1 k1=>?_));have hS1:=k1 S _ hSw hS;have up:∀ b o,b≠S->h1.get? b=some o->(Ye h1 S (Obj.mapSeq λ_=>#[v,v])).get? b=some o:=λb o hn e=>(Wq _ _ (Ne.symm hn)).trans e;refine ZQ (m:=A19 S (λ_=>#[v,v])) (A09 hS1 rfl ?_);rw[nm];refine ZU ⟨A00 F.plain_min_loop _,FK W C hSf (n - 1) 0 _ v _ (by omega) (W.frame _ _ _ st1 λb hbf o e=>up b o (λz=>hSf (z▸hbf)) e) (C.keep _ _ (C.keep _ _ hG λb o hb _ e=>k1 b o hb e) λb o _ hn e=>up b o hn e) hP (Wr _ hS1 rfl) λv' h2 tk2 hP' k2=>?_⟩;exact hR (by omega) v' h2 tk2 hP' λb o hbw hn e=>k2 b o hbw hn (up b o hn (k1 b o hbw e))
end
theorem EQ{a b:Int}{us:List ZR}(r:Vals [V.int a,V.int b] us):IntsAre us [a,b]:=by
 cases r with
 | cons r1 r2=>
   obtain⟨t1,rfl⟩:=r1;cases r2 with
   | cons r2 r3=>
     obtain⟨t2,rfl⟩:=r2;cases r3;exact .cons _ _ (.cons _ _ .nil)
theorem FL(a v:ZR):argsOk "min" ⟨[a],[(Str.ofString "default",v)]⟩:=by unfold argsOk;kernel_rfl
section
variable{prog:ZX}{w:Za}{A:Ze}{E:ZR->ZS->Prop}{s:ZS}
theorem FM{l:ZT}{items:Array ZR}{d:ZR}{Q:ZR->ZS->Prop}(hh:A.handled=none)(hl:s.heap.IsList l items)(bt:Nat->Nat->Bool)(G:Heap->Prop)(hG:G s.heap)
 (hkeep:∀ h h',G h->(∀ b o,b<s.heap.objs.size->h.get? b=some o->h'.get? b=some o)->G h')
 (hcmp:∀(s':ZS),G s'.heap->∀(i j:Nat) (vi vj:ZR) (Q:ZR->ZS->Prop) (E:ZR->ZS->Prop),items[i]?=some vi->items[j]?=some vj->Q (.bool (bt i j)) s'->ZV (ZY prog w) A.in1 (A03 .Lt vi vj) Q E s')
 (h0:items.size=0->∀ h' tk,(∀ b o,s.heap.get? b=some o->h'.get? b=some o)->Q d {s with heap:=h',toks:=tk})
 (hR:0<items.size->∀ v h' tk,items[argBest bt (items.size - 1)]?=some v->(∀ b o,s.heap.get? b=some o->h'.get? b=some o)->Q v {s with heap:=h',toks:=tk}):
 ZV (ZY prog w) A (call (.builtin "min") [.ref l] [(Str.ofString "default",d)]) Q E s:=by
 have nm:(toString "min"++toString ".loop":String)="min.loop":=by decide
 have hlt:l<s.heap.objs.size:=by obtain⟨o,ho,_⟩:=hl;exact Vv ho
 refine kmb_tree F.kind_min F.plain_min F.entry_min (FL _ _) ?_;refine ZQ (m:=Builtin.Builtins.bindParams "min" ["key","default"] 0 ⟨[],[(Str.ofString "default",d)]⟩) (A0Q (show Builtin.Builtins.bindParams "min" ["key","default"] 0 ⟨[],[(Str.ofString "default",d)]⟩=pure [none,some d] from rfl) ?_);refine ZQ (ZU ?_);refine ZQ (Zz hl ?_);refine ZQ (Zd ?_);rw[nm];have W:=Walks.list (prog:=prog) (w:=w) (A:=A.in1) hh s.heap.objs.size l (W0 hlt) items;have k1:∀ b o,s.heap.get? b=some o->((s.heap.push {cls := .type "list_iterator",data := .fields #[.ref l,.int 0 0]}).push {cls := .type "list",data := .seq ([]:List ZR).toArray}).get? b=some o:=λb o e=>Vs _ (Vs _ e);have nS:(s.heap.push {cls := .type "list_iterator",data := .fields #[.ref l,.int 0 0]}).objs.size=s.heap.objs.size+1:=by simp[Wh]
 have C:CmpIn prog w A.in1 [s.heap.objs.size] (s.heap.push {cls := .type "list_iterator",data := .fields #[.ref l,.int 0 0]}).objs.size (λi v=>items[i]?=some v) bt G:=⟨λh h' g k=>hkeep h h' g λb o hb e=>k b o (by simp;exact W0 hb) (by rw[nS];exact W0 (XH hb)) e,hcmp⟩
 have old:∀(h:Heap),(∀ b o,b∉[s.heap.objs.size]->b≠(s.heap.push {cls := .type "list_iterator",data := .fields #[.ref l,.int 0 0]}).objs.size->((s.heap.push {cls := .type "list_iterator",data := .fields #[.ref l,.int 0 0]}).push {cls := .type "list",data := .seq ([]:List ZR).toArray}).get? b=some o->h.get? b=some o)->∀ b o,s.heap.get? b=some o->h.get? b=some o:=λh k b o e=>k b o (by simp;exact W0 (Vv e)) (by rw[nS];have:=Vv e;exact W0 (XH this)) (k1 b o e);refine ZU ⟨A00 F.plain_min_loop _,EO (d:=d) W C ?_ ?_ (hkeep _ _ hG λb o _ e=>k1 b o e) (W3 _ rfl) (λhz h' tk k=>h0 hz h' tk (old h' k)) (λhz v h' tk hv k=>hR hz v h' tk hv (old h' k))⟩
 ·rw[nS];simp only[W5,XB,or_false,not_or];exact⟨Yz _,λz=>absurd hlt (by rw[<-z];exact Z0 (XZ _))⟩
 ·exact⟨⟨_,Vs _ (W3 _ rfl),rfl,rfl⟩,hl.at λo e=>k1 _ _ e⟩
end
section
variable{X:Cx}
noncomputable def IN(X:Cx)(f:ZR)(ks:List Str)(r:List V->List V->Hp->VK->Prop):Prop:=
 ∀(pq:List (ZT×Obj)) (s:ZS) (σ:St) (H:Hp) (vs zs:List V) (us ws:List ZR) (Q:VK),Inv X pq σ H s->Vals vs us->Vals zs ws->r vs zs H Q->ZV (ZY X.prog X.w) X.A (call f us (ks.zip ws)) (EP X pq σ Q) X.xe s
def Vd(r:List V->List V->Hp->VK->Prop)(t tk:TA):TE:=λσ H Q=>t σ H λvs H1=>tk σ H1 λzs H2=>r vs zs H2 Q
theorem Ej{id:String}{ks:List Str}{r:List V->List V->Hp->VK->Prop}{x:Str}{p pos:Pos}{e:Expr}{es:List Expr}{kws:List Keyword}{t tk:TA}(hc:IN X (.builtin id) ks r)(hg:Gl X x)(hm:X.mg x=none)(hv:Zb x=some (.builtin id))(ha:PA X (e::es) t)(hkw:PK X kws tk)
 (hks:(A0u pos (A0c kws X.env)).filterMap (·.1)=ks:=by rfl) (hn:x≠"__name__":=by decide) (hdb:(x == ("__debug__":Str))=false:=by decide)
 (he:backTo pos (Zc (e::es) X.env)=(false,eval e X.env)::backTo pos (Zc es X.env):=by rfl) (hpl:(backTo pos (Zc (e::es) X.env)).any (·.1)=false:=by rfl)
 (hall:(A0u pos (A0c kws X.env)).all (·.1.isSome)=true:=by rfl) (hno:(A0u pos (A0c kws X.env)).any (·.1.isNone)=false:=by rfl):PE X (.Call (.Name x p) (e::es) kws pos) (Vd r t tk):=by
 intro pq s σ H Q I h;refine A04 (BF I hg hm hv ?_ hn hdb);refine callWith_kw (thn (ha pos pq s σ H _ I h) λus s1 ⟨vs,H1,I1,r1,q1⟩=>thn (hkw pos pq s1 σ H1 _ I1 q1) λws s2 ⟨zs,H2,I2,r2,q2⟩=>?_) he hpl hall hno;rw[hks];exact hc pq s2 σ H2 vs zs us ws Q I2 r1 r2 q2
def Pg(H:Hp)(vs:List V)(ps:List (Int×Int)):Prop:=vs.length=ps.length/\∀(i:Nat) (p:Int×Int),ps[i]?=some p->∃ q,vs[i]?=some (.ref q)/\H q=some (.tup [.int p.1,.int p.2])
def lt2(p q:Int×Int):Bool:=HT.lexLt [p.1,p.2] [q.1,q.2]
def Us:List V->List V->Hp->VK->Prop:=λxs zs H Q=>∃ l vs ps,xs=[.ref l]/\zs=[.non]/\H l=some (.lst vs)/\Pg H vs ps/\(ps=[]->Q .non H)/\
 ∀(i:Nat) p q,ps[i]?=some p->vs[i]?=some (.ref q)->i=argBest (λa b=>lt2 (ps.getD a (0,0)) (ps.getD b (0,0))) (ps.length - 1)->0<ps.length->Q (.ref q) H
theorem L1(hc:X.calm=true)(hu:X.A.units+1<cLine):IN X (.builtin "min") ["default"] Us:=by
 intro pq s σ H xs zs us ws Q I r rz h;obtain⟨l,vs,ps,rfl,rfl,hl,⟨hlen,hps⟩,q0,q1⟩:=h;obtain⟨u,rfl,ru⟩:=Ad r;cases ru;obtain⟨z,rfl,rz'⟩:=Ad rz;cases rz';obtain⟨its,rv,pl,hz⟩:=I.list (SqL.of hl);have hl2:=rv.length
 have tup:∀(i:Nat) (v:ZR),its.toArray[i]?=some v->∃ q p,v = .ref q/\ps[i]?=some p/\vs[i]?=some (.ref q)/\H q=some (.tup [.int p.1,.int p.2])/\∃ ti:List ZR,IsTup s.heap q ti.toArray/\IntsAre ti [p.1,p.2]:=λi v hv=>by
  have hv':its[i]?=some v:=by simpa using hv
  have hi:i<ps.length:=by have:=(gM hv').1;omega
  obtain⟨q,e1,e2⟩:=hps i ps[i] (by simp[hi]);obtain⟨u',eu,ru'⟩:=rv.get e1;rw[hv']at eu;cases eu;cases ru';obtain⟨ti,rt,pt,_⟩:=I.tuple (SqT.of e2);exact⟨q,ps[i],rfl,by simp[hi],e1,e2,ti,pt,EQ rt⟩
 refine FM (I.ok.hd hc) pl.isList (λa b=>lt2 (ps.getD a (0,0)) (ps.getD b (0,0))) (λh=>∀(i:Nat) (v:ZR),its.toArray[i]?=some v->∃ q p,v = .ref q/\q<s.heap.objs.size/\ps[i]?=some p/\∃ ti:List ZR,IsTup h q ti.toArray/\IntsAre ti [p.1,p.2]) ?_ ?_ ?_ ?_ ?_
 ·intro i v hv;obtain⟨q,p,e1,e2,_,_,ti,e3,e4⟩:=tup i v hv;obtain⟨o,ho,_⟩:=e3;exact⟨q,p,e1,Vv ho,e2,ti,⟨o,ho,by assumption⟩,e4⟩
 ·intro h h' g k i v hv;obtain⟨q,p,e1,e2,e3,ti,⟨o,ho,hr⟩,e5⟩:=g i v hv;exact⟨q,p,e1,e2,e3,ti,⟨o,k q o e2 ho,hr⟩,e5⟩
 ·intro s' g i j vi vj Q' E' hi hj q;obtain⟨qi,pi,rfl,_,ei,ti,ti1,ti2⟩:=g i vi hi;obtain⟨qj,pj,rfl,_,ej,tj,tj1,tj2⟩:=g j vj hj;refine HT.lt_tupInts ti1 tj1 (by simpa using ti2) (by simpa using tj2) (show X.A.units+1<cLine from hu) ?_;have e1:ps.getD i (0,0)=pi:=by simp[Wz,ei]
  have e2:ps.getD j (0,0)=pj:=by simp[Wz,ej]
  rw[e1,e2]at q;exact q
 ·intro hz' h' tk k
  have:ps=[]:=by
   cases ps with
   | nil=>rfl
   | cons p r=>rw[Vw]at hz';simp at hlen;omega
  exact⟨.non,H,I.kept (t':=tk) k,rfl,q0 this⟩
 ·intro hp v h' tk hv k;obtain⟨q,p,rfl,e2,e3,e4,_⟩:=tup _ v hv;have hsz:its.toArray.size=ps.length:=by rw[Vw];omega
  rw[hsz]at e2 e3 hp;exact⟨.ref q,H,I.kept (t':=tk) k,rfl,q1 _ p q e2 e3 rfl hp⟩
end
section
variable{prog:ZX}{w:Za}{κ:Type}[DecidableEq κ]{knd:HeapKind prog w κ}{A:Ze}{E:ZR->ZS->Prop}{s:ZS}
theorem IO{d a:ZT}{o:Obj}{es:Array A0a}{ep:Nat}{xs:List (κ×ZT×ZR)}{k:κ}{v:ZR}(hkey:knd.is s.heap k a)(ho:s.heap.get? d=some o)(hc:o.ExactDict)(hd:o.data = .dict es ep)(he:es.toList=xs.map (A1c knd))(his:∀ x∈xs,knd.is s.heap x.1 x.2.1)(hn:(xs.map (·.1)).Nodup)
 (hno:atKey xs k=none) (hnot:k∉xs.map (·.1)):(s.heap.update d (Obj.mapDictKeys (·.push ⟨knd.hash k,.ref a,v⟩))).DictOfH knd d (storedH xs k a v):=by
 have same:Ww d s.heap (s.heap.update d (Obj.mapDictKeys (·.push ⟨knd.hash k,.ref a,v⟩))):=Ww.update ..;rw[storedH_new hno];refine⟨_,_,ep+1,Wr _ ho (Obj.isFreed_of_dict (Obj.data_mapDictKeys hd _)),hc.mapDictKeys _,Obj.data_mapDictKeys hd _,by simp[he,A1c],λx hx=>?_,?_⟩
 ·have hx':x∈xs\/x=(k,a,v):=by simpa using hx
  rcases hx' with hx' | rfl
  ·exact knd.keeps (his x hx') ho hd same
  ·exact knd.keeps hkey ho hd same
 ·rw[WB];exact XU.mpr ⟨hn,by simp,λx hx y hy z=>hnot (by simp at hy;subst hy;rw[<-z];exact hx)⟩
theorem Ms{d a:ZT}{xs:List (κ×ZT×ZR)}{k:κ}{v:ZR}{Q:ZR->ZS->Prop}(hu:knd.room A)(hkey:knd.is s.heap k a)(hm:s.heap.DictOfH knd d xs)
 (h1:∀ p,atKey xs k=some p->∀ tk,Q p.2 {s with toks:=tk})
 (h2:atKey xs k=none->∀ h' tk,h'.DictOfH knd d (storedH xs k a v)->Ww d s.heap h'->Q v {s with heap:=h',toks:=tk}) (hsz:xs.length<=ZW):ZV (ZY prog w) A (A0R d (.ref a) v) Q E s:=by
 obtain⟨o,es,ep,ho,hc,hd,he,his,hn⟩:=id hm;unfold A0R
 try with_reducible refine Zn ?_
 refine ZQ (knd.pyHash hu hkey (ZQ (wpAny_dictFind_heap (s:={s with toks:=s.toks+knd.draws k}) hu hkey ho hd he his hn (λhno=>?_) (λj p hj=>?_))))
 ·have e0:=atKey_none_of_get hno;refine ZQ (A0b (ZQ (wpAny_updateDictKeys (hz:=by have e:=size_of_entries he;omega) (s:={s with toks:=s.toks+knd.draws k}) ho hd (ZU ?_))));exact h2 e0 _ _ (IO hkey ho hc hd he his hn e0 (not_mem_keys_of_get hno)) (Ww.update ..)
 ·refine ZQ (A0l (s:={s with toks:=s.toks+knd.draws k}) ho hd ?_);rw[entry_at he j,hj];exact ZQ (A0b (ZU (h1 p (atKey_of_get hn hj) _)))
theorem Di(d a:ZT)(hd:(d == Zo)=false)(v:ZR):
 MeetsIn prog w (Builtin.«dict.setdefault» ⟨[.ref d,.ref a,v],[]⟩) (λA R s=>knd.room A.in1/\∃ k xs,knd.is s.heap k a/\s.heap.DictOfH knd d xs/\xs.length<=ZW/\s.TypeIs (.ref d) "dict"/\
  (∀ p,atKey xs k=some p->∀ tk,R (.ok (.ret p.2)) {s with toks:=tk})/\
  (atKey xs k=none->∀ h' tk,h'.DictOfH knd d (storedH xs k a v)->Ww d s.heap h'->R (.ok (.ret v)) {s with heap:=h',toks:=tk})):=
 .of_wp λA R s ⟨hu,k,xs,hkey,hm,hz,ht,h1,h2⟩=>by
  unfold Builtin.«dict.setdefault»;refine ZQ ?_;unfold Builtin.Dict.keyAndDefault;refine ZQ (A0O ht ?_);refine ZU ?_;show ZV _ _ (if (d == Zo)=true then _ else (A0R d (.ref a) v >>= _)) _ _ s;rw[hd];rw[iG Vy];exact ZQ (Ms hu hkey hm (λp e tk=>ZU ⟨p.2,rfl,h1 p e tk⟩) (λe h' tk m' b'=>ZU ⟨v,rfl,h2 e h' tk m' b'⟩) hz)
end
section
variable{X:Cx}{o e f:Expr}{apos cpos:Pos}{td ty tx:TE}
def Ut(td ty tx:TE):TE:=λσ H Q=>td σ H λx H1=>∃ a,x = .ref a/\IsD H1 a/\ty σ H1 λy H2=>tx σ H2 λz H3=>∃ kvs k b,y = .ref b/\H3 a=some (.dT kvs)/\H3 b=some (.tup (k.map kV))/\kvs.length<ZW/\
 (∀ v,A8 kvs k=some v->Q v H3)/\(A8 kvs k=none->Q z (upd H3 a (.dT (Aq kvs k z))))
theorem Ph(hu:X.A.units+1<cLine)(ho:PE X o td)(he:PE X e ty)(hf:PE X f tx)(m:M2 X o "setdefault" apos e f cpos):PE X (.Call (.Attribute o "setdefault" apos) [e,f] [] cpos) (Ut td ty tx):=by
 intro pq s σ H Q I h;refine A0B m.base m.few m.line PySem.F.plainAttrs_dict PySem.F.slot_dict_setdefault PySem.F.type_dict_setdefault (thn (ho pq s σ H _ I h) λu s1 ⟨x,H1,I1,rx,a,ex,d,q1⟩=>?_);subst ex;obtain rfl:u=Value.ref a:=rx;obtain⟨t1,t2,_⟩:=IJ I1 d;refine⟨t1,t2,?_⟩;rw[m.trees]
 refine Calls.callWith_builtin rfl (Calls.evalArgs_plain (Calls.spliced_cons (thn (he pq s1 σ H1 _ I1 q1) λiv s2 ⟨y,H2,I2,ry,q2⟩=>
  Calls.spliced_cons (thn (hf pq s2 σ H2 _ I2 q2) λfv s3 ⟨z,H3,I3,rz,kvs,k,b,ey,ha,hb,hz,qs,qn⟩=>Calls.spliced_nil ?_))))
 subst ey;cases ry;obtain⟨hl,hd,xs,rel,dd⟩:=Mb I3.hok ha;have hxl:xs.length<=ZW:=by rw[<-Paired.length rel];exact hl
 refine A0r PySem.F.slot_dict_setdefault dd.typeIs PySem.F.entry_dict_setdefault (PySem.F.args_dict_setdefault_3 _ _ _) (Di (knd:=A0s (t3 X.prog X.w)) a b hd fv) ⟨A0h hu,k,xs,De I3.hok hb,dd,hxl,dd.typeIs,λp e tk=>?_,λe h' tk dd' hs=>?_⟩
 ·have rv:=rel.val k;rw[e]at rv;cases hv:A8 kvs k with
  | none=>rw[hv]at rv;exact rv.elim
  | some v=>rw[hv]at rv;exact⟨v,H3,I3.tok tk,rv,qs v hv⟩
 ·have hv:A8 kvs k=none:=by
   have rv:=rel.val k;rw[e]at rv;cases hv:A8 kvs k with
   | none=>rfl
   | some v=>rw[hv]at rv;exact rv.elim
  refine⟨z,_,?_,rz,qn hv⟩;obtain⟨q,es,ep,hq,h2,h3,h4,_,h5⟩:=dd';have hl2:(Aq kvs k z).length<=ZW:=by have:=As kvs k z;omega
  refine DH I3 (by rw[ha];exact True.intro) hs ⟨q,hq⟩ ⟨hl2,hd,_,(rel.put k hb rz).keeps λc ys ec=>?_,q,es,ep,hq,h2,h3,h4,h5⟩;rw[j8 (M1 ec ha (λz=>nomatch z))];exact ec
end
section
variable{prog:ZX}{w:Za}{A:Ze}{R:Result->ZS->Prop}{I:ZT}{fp wr:List ZT}{n:Nat}{P:Nat->ZR->Prop}{St:Nat->Heap->Prop}
structure CmpMx(prog:ZX)(w:Za)(A:Ze)(wr:List ZT)(S:ZT)(P:Nat->ZR->Prop)(bt:Nat->Nat->Bool)(G:Heap->Prop):Prop where
 keep:∀ h h',G h->(∀ b o,b∉wr->b≠S->h.get? b=some o->h'.get? b=some o)->G h'
 cmp:∀(s:ZS),G s.heap->∀(i j:Nat) (vi vj:ZR) (Q:ZR->ZS->Prop) (E:ZR->ZS->Prop),P i vi->P j vj->Q (.bool (bt i j)) s->ZV (ZY prog w) A (A03 .Gt vi vj) Q E s
theorem FN{kw:List (Str×ZR)}(W:Walks prog w A.in1 I fp wr n P St){bt:Nat->Nat->Bool}{S:ZT}{G:Heap->Prop}(C:CmpMx prog w A.in1 wr S P bt G)(hSf:S∉fp)(k:Nat):
 ∀(j:Nat) (s:ZS) (vb:ZR) (c:Nat),n=j+1+k->St (j+1) s.heap->G s.heap->P (argBest bt j) vb->
 s.heap.get? S=some {cls := .type "list",dict:=none,data := .seq #[vb,vb] c,slots:=#[]}->
 (∀ v h' tk,P (argBest bt (n - 1)) v->(∀ b o,b∉wr->b≠S->s.heap.get? b=some o->h'.get? b=some o)->R (.ok (.ret v)) {s with heap:=h',toks:=tk})->
 codeAny (ZY prog w) A (.builtin "max.loop" ⟨[.ref I,.none,.ref S],kw⟩) R s:=by
 have hSw:S∉wr:=λz=>hSf (W.sub _ z);have nm:(toString "max"++toString ".loop":String)="max.loop":=by decide
 induction k with
 | zero=>
   intro j s vb c hk hst hG hPb hS hR;refine A08 F.entry_max_loop ?_;rw[Around.under_plainId F.plain_max_loop _];refine ZQ (m:=A0n (.ref S)) (Zj hS rfl ?_);have hst':St n s.heap:=by rw[hk];exact hst
   refine ZQ (m:=tryCatch (pyNext (.ref I)) _) (Zp (W.done s _ _ hst' λh1 tk k1=>?_));have hS1:=k1 S _ hSw hS;refine ZQ (m:=A19 S (λ_=>#[])) (A09 hS1 rfl (ZQ (Zx (ZU ?_))));exact hR vb _ tk (by rw[hk];exact hPb) λb o hb hn e=>(Wq _ _ (Ne.symm hn)).trans (k1 b o hb e)
 | succ k ih=>
   intro j s vb c hk hst hG hPb hS hR;refine A08 F.entry_max_loop ?_;rw[Around.under_plainId F.plain_max_loop _];refine ZQ (m:=A0n (.ref S)) (Zj hS rfl ?_);refine ZQ (m:=tryCatch (pyNext (.ref I)) _) (Zp (W.item (j+1) s _ _ (by omega) hst λv h1 tk hP st1 k1=>?_));have hS1:=k1 S _ hSw hS;have hG1:=C.keep _ _ hG λb o hb _ e=>k1 b o hb e;refine ZQ (m:=tryCatch (holding [v,v] (A03 .Gt v vb >>= _)) _) (Zp (Zn (ZQ (C.cmp _ hG1 (j+1) (argBest bt j) v vb _ _ hP hPb ?_))));refine ZQ (Zn (Zh (ZQ (Zx (ZU ?_)))));cases hb:bt (j+1) (argBest bt j) with
   | true=>
     simp only[if_true];refine ZQ (A09 hS1 rfl (ZQ (Zx ?_)));rw[nm];have up:∀ b o,b≠S->h1.get? b=some o->(Ye h1 S (Obj.mapSeq λ_=>#[v,v])).get? b=some o:=λb o hn e=>(Wq _ _ (Ne.symm hn)).trans e;refine ZU ⟨A00 F.plain_max_loop _,ih (j+1) _ v _ (by omega) (W.frame _ _ _ st1 λb hbf o e=>up b o (λz=>hSf (z▸hbf)) e) (C.keep _ _ hG1 λb o _ hn e=>up b o hn e) ?_ (Wr _ hS1 rfl) λv' h2 tk2 hP' k2=>?_⟩
     ·simp only[argBest,hb,if_true];exact hP
     ·exact hR v' h2 tk2 hP' λb o hbw hn e=>k2 b o hbw hn (up b o hn (k1 b o hbw e))
   | false=>
     simp only[X3,if_false];refine ZQ (Zx ?_);rw[nm];refine ZU ⟨A00 F.plain_max_loop _,ih (j+1) _ vb c (by omega) st1 hG1 ?_ hS1 λv' h2 tk2 hP' k2=>?_⟩
     ·simp only[argBest,hb,X3,if_false];exact hPb
     ·exact hR v' h2 tk2 hP' λb o hbw hn e=>k2 b o hbw hn (k1 b o hbw e)
theorem ER{d:ZR}(W:Walks prog w A.in1 I fp wr n P St){bt:Nat->Nat->Bool}{S:ZT}{G:Heap->Prop}(C:CmpMx prog w A.in1 wr S P bt G)(hSf:S∉fp){s:ZS}{c:Nat}(hst:St 0 s.heap)(hG:G s.heap)
 (hS:s.heap.get? S=some {cls := .type "list",dict:=none,data := .seq #[] c,slots:=#[]})
 (h0:n=0->∀ h' tk,(∀ b o,b∉wr->b≠S->s.heap.get? b=some o->h'.get? b=some o)->R (.ok (.ret d)) {s with heap:=h',toks:=tk})
 (hR:0<n->∀ v h' tk,P (argBest bt (n - 1)) v->(∀ b o,b∉wr->b≠S->s.heap.get? b=some o->h'.get? b=some o)->R (.ok (.ret v)) {s with heap:=h',toks:=tk}):
 codeAny (ZY prog w) A (.builtin "max.loop" ⟨[.ref I,.none,.ref S],[(Str.ofString "default",d)]⟩) R s:=by
 have hSw:S∉wr:=λz=>hSf (W.sub _ z);have nm:(toString "max"++toString ".loop":String)="max.loop":=by decide
 refine A08 F.entry_max_loop ?_;rw[Around.under_plainId F.plain_max_loop _];refine ZQ (m:=A0n (.ref S)) (Zj hS rfl ?_);by_cases hn:n=0
 ·subst hn;refine ZQ (m:=tryCatch (pyNext (.ref I)) _) (Zp (W.done s _ _ hst λh1 tk k1=>?_));exact ZQ (A0b (ZU (h0 rfl h1 tk λb o hb _ e=>k1 b o hb e)))
 ·refine ZQ (m:=tryCatch (pyNext (.ref I)) _) (Zp (W.item 0 s _ _ (by omega) hst λv h1 tk hP st1 k1=>?_));have hS1:=k1 S _ hSw hS;have up:∀ b o,b≠S->h1.get? b=some o->(Ye h1 S (Obj.mapSeq λ_=>#[v,v])).get? b=some o:=λb o hn e=>(Wq _ _ (Ne.symm hn)).trans e;refine ZQ (m:=A19 S (λ_=>#[v,v])) (A09 hS1 rfl ?_);rw[nm];refine ZU ⟨A00 F.plain_max_loop _,FN W C hSf (n - 1) 0 _ v _ (by omega) (W.frame _ _ _ st1 λb hbf o e=>up b o (λz=>hSf (z▸hbf)) e) (C.keep _ _ (C.keep _ _ hG λb o hb _ e=>k1 b o hb e) λb o _ hn e=>up b o hn e) hP (Wr _ hS1 rfl) λv' h2 tk2 hP' k2=>?_⟩;exact hR (by omega) v' h2 tk2 hP' λb o hbw hn e=>k2 b o hbw hn (up b o hn (k1 b o hbw e))
end
theorem FO(a v:ZR):argsOk "max" ⟨[a],[(Str.ofString "default",v)]⟩:=by unfold argsOk;kernel_rfl
section
variable{prog:ZX}{w:Za}{A:Ze}{E:ZR->ZS->Prop}{s:ZS}
theorem FP{l:ZT}{items:Array ZR}{d:ZR}{Q:ZR->ZS->Prop}(hh:A.handled=none)(hl:s.heap.IsList l items)(bt:Nat->Nat->Bool)(G:Heap->Prop)(hG:G s.heap)
 (hkeep:∀ h h',G h->(∀ b o,b<s.heap.objs.size->h.get? b=some o->h'.get? b=some o)->G h')
 (hcmp:∀(s':ZS),G s'.heap->∀(i j:Nat) (vi vj:ZR) (Q:ZR->ZS->Prop) (E:ZR->ZS->Prop),items[i]?=some vi->items[j]?=some vj->Q (.bool (bt i j)) s'->ZV (ZY prog w) A.in1 (A03 .Gt vi vj) Q E s')
 (h0:items.size=0->∀ h' tk,(∀ b o,s.heap.get? b=some o->h'.get? b=some o)->Q d {s with heap:=h',toks:=tk})
 (hR:0<items.size->∀ v h' tk,items[argBest bt (items.size - 1)]?=some v->(∀ b o,s.heap.get? b=some o->h'.get? b=some o)->Q v {s with heap:=h',toks:=tk}):
 ZV (ZY prog w) A (call (.builtin "max") [.ref l] [(Str.ofString "default",d)]) Q E s:=by
 have nm:(toString "max"++toString ".loop":String)="max.loop":=by decide
 have hlt:l<s.heap.objs.size:=by obtain⟨o,ho,_⟩:=hl;exact Vv ho
 refine kmb_tree F.kind_max F.plain_max F.entry_max (FO _ _) ?_;refine ZQ (m:=Builtin.Builtins.bindParams "max" ["key","default"] 0 ⟨[],[(Str.ofString "default",d)]⟩) (A0Q (show Builtin.Builtins.bindParams "max" ["key","default"] 0 ⟨[],[(Str.ofString "default",d)]⟩=pure [none,some d] from rfl) ?_);refine ZQ (ZU ?_);refine ZQ (Zz hl ?_);refine ZQ (Zd ?_);rw[nm];have W:=Walks.list (prog:=prog) (w:=w) (A:=A.in1) hh s.heap.objs.size l (W0 hlt) items;have k1:∀ b o,s.heap.get? b=some o->((s.heap.push {cls := .type "list_iterator",data := .fields #[.ref l,.int 0 0]}).push {cls := .type "list",data := .seq ([]:List ZR).toArray}).get? b=some o:=λb o e=>Vs _ (Vs _ e);have nS:(s.heap.push {cls := .type "list_iterator",data := .fields #[.ref l,.int 0 0]}).objs.size=s.heap.objs.size+1:=by simp[Wh]
 have C:CmpMx prog w A.in1 [s.heap.objs.size] (s.heap.push {cls := .type "list_iterator",data := .fields #[.ref l,.int 0 0]}).objs.size (λi v=>items[i]?=some v) bt G:=⟨λh h' g k=>hkeep h h' g λb o hb e=>k b o (by simp;exact W0 hb) (by rw[nS];exact W0 (XH hb)) e,hcmp⟩
 have old:∀(h:Heap),(∀ b o,b∉[s.heap.objs.size]->b≠(s.heap.push {cls := .type "list_iterator",data := .fields #[.ref l,.int 0 0]}).objs.size->((s.heap.push {cls := .type "list_iterator",data := .fields #[.ref l,.int 0 0]}).push {cls := .type "list",data := .seq ([]:List ZR).toArray}).get? b=some o->h.get? b=some o)->∀ b o,s.heap.get? b=some o->h.get? b=some o:=λh k b o e=>k b o (by simp;exact W0 (Vv e)) (by rw[nS];have:=Vv e;exact W0 (XH this)) (k1 b o e);refine ZU ⟨A00 F.plain_max_loop _,ER (d:=d) W C ?_ ?_ (hkeep _ _ hG λb o _ e=>k1 b o e) (W3 _ rfl) (λhz h' tk k=>h0 hz h' tk (old h' k)) (λhz v h' tk hv k=>hR hz v h' tk hv (old h' k))⟩
 ·rw[nS];simp only[W5,XB,or_false,not_or];exact⟨Yz _,λz=>absurd hlt (by rw[<-z];exact Z0 (XZ _))⟩
 ·exact⟨⟨_,Vs _ (W3 _ rfl),rfl,rfl⟩,hl.at λo e=>k1 _ _ e⟩
end
section
variable{X:Cx}
def gtB(ns:List Int)(a b:Nat):Bool:=decide (ns.getD a 0>ns.getD b 0)
theorem Jb(ns:List Int):∀ k j,j<=k->ns.getD j 0<=ns.getD (argBest (gtB ns) k) 0
 | 0,j,hj=>by
   have:j=0:=by omega
   subst this;exact ZP _
 | k+1,j,hj=>by
   have ih:=Jb ns k;simp only[argBest];split
   ·rename_i hb;have hb:=of_decide_eq_true hb;by_cases e:j=k+1
    ·subst e;exact ZP _
    ·have:=ih j (by omega);omega
   ·rename_i hb;have hb:¬ ns.getD (k+1) 0>ns.getD (argBest (gtB ns) k) 0:=λz=>hb (decide_eq_true z);by_cases e:j=k+1
    ·subst e;omega
    ·exact ih j (by omega)
theorem GZ(bt:Nat->Nat->Bool):∀ k,argBest bt k<=k
 | 0=>Vt _
 | k+1=>by
   simp only[argBest];split
   ·exact Vt _
   ·exact Ys (GZ bt k)
def Grt(ns:List Int)(m:Int):Prop:=m∈ns/\∀ n∈ns,n<=m
theorem Ga{ns:List Int}(h:0<ns.length):Grt ns (ns.getD (argBest (gtB ns) (ns.length - 1)) 0):=by
 have hb:=GZ (gtB ns) (ns.length - 1);have hlt:argBest (gtB ns) (ns.length - 1)<ns.length:=by omega
 refine⟨by rw[show ns.getD (argBest (gtB ns) (ns.length - 1)) 0=ns[argBest (gtB ns) (ns.length - 1)] by simp[Wz,hlt]];exact XD hlt,λn hn=>?_⟩;obtain⟨j,hj⟩:=Wu hn;have hjl:=(gM hj).1;have:=Jb ns (ns.length - 1) j (by omega);rw[show ns.getD j 0=n by simp[Wz,hj]]at this;exact this
def Uu:List V->List V->Hp->VK->Prop:=λxs zs H Q=>∃ l ns d,xs=[.ref l]/\zs=[.int d]/\H l=some (.lst (ns.map V.int))/\(ns=[]->Q (.int d) H)/\∀ m,Grt ns m->Q (.int m) H
theorem DK{ns:List Int}{its:List ZR}(rv:Vals (ns.map V.int) its){i:Nat}{v:ZR}(h:its[i]?=some v):∃ n t,ns[i]?=some n/\v = .int n t:=by
 have hl:=rv.length;rw[Vm]at hl;have hi:i<ns.length:=by have:=(gM h).1;omega
 have e:(ns.map V.int)[i]?=some (.int ns[i]):=by simp[hi]
 obtain⟨u,eu,ru⟩:=rv.get e;rw[h]at eu;cases eu;obtain⟨t,rfl⟩:=ru;exact⟨_,t,by simp[hi],rfl⟩
theorem L3(hc:X.calm=true):IN X (.builtin "max") ["default"] Uu:=by
 intro pq s σ H xs zs us ws Q I r rz h;obtain⟨l,ns,d,rfl,rfl,hl,q0,q1⟩:=h;obtain⟨u,rfl,ru⟩:=Ad r;cases ru;obtain⟨z,rfl,rz'⟩:=Ad rz;obtain⟨t,rfl⟩:=rz';obtain⟨its,rv,pl,hz⟩:=I.list (SqL.of hl);have hl2:ns.length=its.length:=by have:=rv.length;rwa [Vm]at this
 refine FP (I.ok.hd hc) pl.isList (gtB ns) (λ_=>True) trivial (λ_ _ _ _=>trivial) ?_ ?_ ?_
 ·intro s' _ i j vi vj Q' E' hi hj q
  exact CmpOf.ints_gt (P:=λi v=>its.toArray[i]?=some v) (λi=>ns.getD i 0) (λi v h=>by
   obtain⟨n,t1,e1,rfl⟩:=DK rv (show its[i]?=some v by simpa using h);exact⟨t1,by simp[Wz,e1]⟩) i j vi vj s' Q' E' hi hj q
 ·intro hz' h' tk k
  have:ns=[]:=by
   cases ns with
   | nil=>rfl
   | cons p r=>rw[Vw]at hz';simp at hl2;omega
  exact⟨.int d,H,I.kept (t':=tk) k,⟨t,rfl⟩,q0 this⟩
 ·intro hp v h' tk hv k;obtain⟨n,t1,e1,rfl⟩:=DK rv (show its[argBest (gtB ns) (its.toArray.size - 1)]?=some v by simpa using hv);have hsz:its.toArray.size=ns.length:=by rw[Vw];omega
  rw[hsz]at e1 hp;have g:=Ga hp;rw[show ns.getD (argBest (gtB ns) (ns.length - 1)) 0=n by simp[Wz,e1]]at g;exact⟨.int n,H,I.kept (t':=tk) k,⟨t1,rfl⟩,q1 n g⟩
theorem L4(hc:X.calm=true):CallR X (.builtin "max") (λxs H Q=>∃ l ns,xs=[.ref l]/\H l=some (.lst (ns.map V.int))/\0<ns.length/\∀ m,Grt ns m->Q (.int m) H):=by
 intro pq s σ H xs us Q I r h;obtain⟨l,ns,rfl,hl,hn,q1⟩:=h;obtain⟨u,rfl,ru⟩:=Ad r;cases ru;obtain⟨its,rv,pl,hz⟩:=I.list (SqL.of hl);have hl2:ns.length=its.length:=by have:=rv.length;rwa [Vm]at this
 have hlt:l<s.heap.objs.size:=by obtain⟨o,ho,_⟩:=pl.isList;exact Vv ho
 have hne:l≠s.heap.objs.size:=W0 hlt;refine call_max_walk (Zz pl.isList ⟨s.heap.objs.size,[s.heap.objs.size,l],[s.heap.objs.size],its.toArray.size,_,_,gtB ns,rfl,Walks.list (prog:=X.prog) (w:=X.w) (A:=X.A.in1) (I.ok.hd hc) s.heap.objs.size l hne its.toArray,?_,?_,?_,?_,?_⟩)
 ·exact⟨⟨_,W3 _ rfl,rfl,rfl⟩,pl.isList.at λo e=>Vs _ e⟩
 ·intro b hb;rcases W5.mp hb with rfl | hb
  ·show _<(s.heap.push _).objs.size;rw[Wh];exact XZ _
  ·rw[W8.mp hb];show _<(s.heap.push _).objs.size;rw[Wh];exact XH hlt
 ·rw[Vw];omega
 ·exact CmpOf.ints_gt (λi=>ns.getD i 0) (λi v h=>by
   obtain⟨n,t1,e1,rfl⟩:=DK rv (show its[i]?=some v by simpa using h);exact⟨t1,by simp[Wz,e1]⟩)
 ·intro v h' tk hv k;obtain⟨n,t1,e1,rfl⟩:=DK rv (show its[argBest (gtB ns) (its.toArray.size - 1)]?=some v by simpa using hv);have hsz:its.toArray.size=ns.length:=by rw[Vw];omega
  rw[hsz]at e1;have g:=Ga hn;rw[show ns.getD (argBest (gtB ns) (ns.length - 1)) 0=n by simp[Wz,e1]]at g;refine⟨.int n,H,I.kept (t':=tk) (λb o e=>k b o (λz=>?_) (Vs _ e)),⟨t1,rfl⟩,q1 n g⟩;rw[W8.mp z]at e;exact XW _ (Vv e)
theorem Pi{body:List Stmt}{h₀:A0D}{hs:List A0D}{pos:Pos}{t:TS}(hx:∀ e s,¬ X.xe e s)(hb:PSs X body t):PS X (.Try body (h₀::hs) [] [] pos) t:=by
 intro pq s σ H D I hw;refine wpAny_Try_except (Zv (hb pq s σ H D I hw) (λf s1 q=>?_) λe s1 z=>(hx e s1 z).elim);cases f with
 | next=>exact A0q q
 | _=>exact q
end
end L2
namespace Rf
open PySem L2
inductive BI where
 | len | abs | min | max | int | list | tuple | all | any | sorted | isi | str | repr
 deriving DecidableEq
def BI.name:BI->Str
 | .len=>"len" | .abs=>"abs" | .min=>"min" | .max=>"max" | .int=>"int" | .list=>"list" | .tuple=>"tuple" | .all=>"all" | .any=>"any" | .sorted=>"sorted" | .isi=>"isinstance" | .str=>"str" | .repr=>"repr"
def blS:List SV->Option (List Bool)
 | []=>some []
 | .bl b::xs=>(blS xs).map (b::·)
 | _::_=>none
def IP:List SV->Option (List Int)
 | []=>some []
 | .int i::xs=>(IP xs).map (i::·)
 | _::_=>none
def tyS:SV->Sto->Option TyN
 | .non,_=>some .none
 | .bl _,_=>some .bool
 | .int _,_=>some .int
 | .str _,_=>some .str
 | .tup _,_=>some .tuple
 | .loc k,S=>match S[k]? with | some (.lst _)=>some .list | _=>none
 | _,_=>none
def Gb:TyN->TyN->Bool
 | .bool,.int=>true
 | a,b=>decide (a=b)
def L5:List SV->Option (List TyN)
 | []=>some []
 | .ty t::xs=>(L5 xs).map (t::·)
 | _::_=>none
def a0(f:Sto->QE->Prop):Sn:=λxs S Q=>match xs with | []=>f S Q | _=>False
def a1(f:S1):Sn:=λxs S Q=>match xs with | [x]=>f x S Q | _=>False
def a2(f:S2):Sn:=λxs S Q=>match xs with | [x,y]=>f x y S Q | _=>False
def oI(f:Int->Sto->QE->Prop):S1:=λx S Q=>match x with | .int i=>f i S Q | _=>False
theorem Uv{f:Sto->QE->Prop}{xs:List SV}{S:Sto}{Q:QE}(h:a0 f xs S Q):xs=[]/\f S Q:=match xs,h with | [],h=>⟨rfl,h⟩
theorem Dj{f:S1}{xs:List SV}{S:Sto}{Q:QE}(h:a1 f xs S Q):∃ x,xs=[x]/\f x S Q:=match xs,h with | [x],h=>⟨x,rfl,h⟩
theorem Mt{f:S2}{xs:List SV}{S:Sto}{Q:QE}(h:a2 f xs S Q):∃ x y,xs=[x,y]/\f x y S Q:=match xs,h with | [x,y],h=>⟨x,y,rfl,h⟩
theorem DC{f:Int->Sto->QE->Prop}{x:SV}{S:Sto}{Q:QE}(h:oI f x S Q):∃ i,x = .int i/\f i S Q:=match x,h with | .int i,h=>⟨i,rfl,h⟩
theorem AV{f:S1}(m:GV f):MonoN (a1 f):=λxs S P P' i h=>by
 replace h:=Dj h;obtain⟨x,rfl,h⟩:=h;exact m x S P P' i h
theorem DL{f:S2}(m:Mono2 f):MonoN (a2 f):=λxs S P P' i h=>by
 replace h:=Mt h;obtain⟨x,y,rfl,h⟩:=h;exact m x y S P P' i h
theorem Pj{f:Int->Sto->QE->Prop}(m:∀ k S P P',(∀ x S',P x S'->P' x S')->f k S P->f k S P'):GV (oI f):=λx S P P' i h=>by
 replace h:=DC h;obtain⟨k,rfl,h⟩:=h;exact m k S P P' i h
def Uw:S1
 | .int i,S,Q=>Q (.int i) S
 | .bl b,S,Q=>Q (.int (if b then 1 else 0)) S
 | _,_,_=>False
theorem R7{x:SV}{S:Sto}{Q:QE}(h:Uw x S Q):(∃ i,x = .int i/\Q (.int i) S)\/∃ b,x = .bl b/\Q (.int (if b then 1 else 0)) S:=match x,h with
 | .int i,h => .inl ⟨i,rfl,h⟩
 | .bl b,h => .inr ⟨b,rfl,h⟩
def Ux:S2:=λx y S Q=>match y with
 | .ty t=>∃ a,t ≠ .none/\tyS x S=some a/\Q (.bl (Gb a t)) S
 | .tup ts=>∃ a bs,TyN.none∉bs/\tyS x S=some a/\L5 ts=some bs/\Q (.bl (bs.any (Gb a))) S
 | _=>False
theorem R8{x y:SV}{S:Sto}{Q:QE}(h:Ux x y S Q):(∃ t a,y = .ty t/\t ≠ .none/\tyS x S=some a/\Q (.bl (Gb a t)) S)\/∃ ts a bs,y = .tup ts/\TyN.none∉bs/\tyS x S=some a/\L5 ts=some bs/\Q (.bl (bs.any (Gb a))) S:=match y,h with
 | .ty t,⟨a,h⟩ => .inl ⟨t,a,rfl,h⟩
 | .tup ts,⟨a,bs,h⟩ => .inr ⟨ts,a,bs,rfl,h⟩
def Ve:S1:=λx S Q=>∃ xs,seqS x S=some xs/\Q (.int xs.length) S
def Vf:S1:=oI λi S Q=>Q (.int (if i<0 then -i else i)) S
def Vg:S2:=λx y S Q=>oI (λi S Q=>oI (λj S Q=>Q (.int (if j<i then j else i)) S) y S Q) x S Q
def Vh:S2:=λx y S Q=>oI (λi S Q=>oI (λj S Q=>Q (.int (if j>i then j else i)) S) y S Q) x S Q
def Uy:S1:=λx S Q=>∃ xs,seqS x S=some xs/\Q (.loc S.length) (S++[.lst xs])
def Sw:S1:=λx S Q=>∃ xs,seqS x S=some xs/\Q (.tup xs) S
def Vi:S1:=λx S Q=>∃ xs bs,x ≠ .tup xs/\seqS x S=some xs/\blS xs=some bs/\Q (.bl (bs.all id)) S
def Vj:S1:=λx S Q=>∃ xs bs,x ≠ .tup xs/\seqS x S=some xs/\blS xs=some bs/\Q (.bl (bs.any id)) S
def Pk:S1:=λx S Q=>∃ xs ns,x ≠ .tup xs/\seqS x S=some xs/\IP xs=some ns/\ns.length<64/\Q (.loc S.length) (S++[.lst ((srt ns).map SV.int)])
def sBi:BI->Sn
 | .len=>a1 Ve
 | .abs=>a1 Vf
 | .min=>a2 Vg
 | .max=>a2 Vh
 | .int=>a1 Uw
 | .list=>a1 Uy
 | .tuple=>a1 Sw
 | .all=>a1 Vi
 | .any=>a1 Vj
 | .sorted=>a1 Pk
 | .isi=>a2 Ux
 | .str=>λ_ _ _=>False
 | .repr=>λ_ _ _=>False
theorem MonoN.bi:∀{b:BI},MonoN (sBi b)
 | .len=>AV λ_ _ _ _ i ⟨a,c,d⟩=>⟨a,c,i _ _ d⟩
 | .abs=>AV (Pj λ_ _ _ _ i h=>i _ _ h)
 | .min=>DL λx y S P P' i h=>by
   replace h:=DC h;obtain⟨k,rfl,h1⟩:=h;obtain⟨l,rfl,h2⟩:=DC h1;exact i _ _ h2
 | .max=>DL λx y S P P' i h=>by
   replace h:=DC h;obtain⟨k,rfl,h1⟩:=h;obtain⟨l,rfl,h2⟩:=DC h1;exact i _ _ h2
 | .int=>AV λx S P P' i h=>by
   replace h:=R7 h;rcases h with⟨k,rfl,h⟩ | ⟨b,rfl,h⟩
   ·exact i _ _ h
   ·exact i _ _ h
 | .list=>AV λ_ _ _ _ i ⟨a,c,d⟩=>⟨a,c,i _ _ d⟩
 | .tuple=>AV λ_ _ _ _ i ⟨a,c,d⟩=>⟨a,c,i _ _ d⟩
 | .all=>AV λ_ _ _ _ i ⟨a,b,c,d,e,f⟩=>⟨a,b,c,d,e,i _ _ f⟩
 | .any=>AV λ_ _ _ _ i ⟨a,b,c,d,e,f⟩=>⟨a,b,c,d,e,i _ _ f⟩
 | .sorted=>AV λ_ _ _ _ i ⟨a,b,c,d,e,f,g⟩=>⟨a,b,c,d,e,f,i _ _ g⟩
 | .isi=>DL λx y S P P' i h=>by
   replace h:=R8 h;rcases h with⟨t,a,rfl,h1,h2,h⟩ | ⟨ts,a,bs,rfl,h1,h2,h3,h⟩
   ·exact⟨a,h1,h2,i _ _ h⟩
   ·exact⟨a,bs,h1,h2,h3,i _ _ h⟩
 | .str=>λ_ _ _ _ _ h=>h
 | .repr=>λ_ _ _ _ _ h=>h
section
variable{K:Vl}{as:List ZT}{H:Hp}{S:Sto}
theorem IQ:∀{xs:List SV} {bs:List Bool} {vs:List V},blS xs=some bs->RlAll K as H vs xs->vs=bs.map V.bl
 | [],_,_,e,r=>by cases e;exact rla_nil.mp r
 | .bl b::xs,_,_,e,r=>by
   obtain⟨v,vs,rfl,r1,r2⟩:=rla_cons.mp r;unfold blS at e;cases h:blS xs with
   | none=>rw[h]at e;cases e
   | some cs=>
     rw[h]at e;cases e;rw[rl_bl.mp r1,IQ h r2];rfl
 | .non::_,_,_,e,_=>by cases e
 | .int _::_,_,_,e,_=>by cases e
 | .str _::_,_,_,e,_=>by cases e
 | .tup _::_,_,_,e,_=>by cases e
 | .loc _::_,_,_,e,_=>by cases e
 | .ro _::_,_,_,e,_=>by cases e
 | .ty _::_,_,_,e,_=>by cases e
theorem Jc:∀{xs:List SV} {bs:List Int} {vs:List V},IP xs=some bs->RlAll K as H vs xs->vs=bs.map V.int
 | [],_,_,e,r=>by cases e;exact rla_nil.mp r
 | .int b::xs,_,_,e,r=>by
   obtain⟨v,vs,rfl,r1,r2⟩:=rla_cons.mp r;unfold IP at e;cases h:IP xs with
   | none=>rw[h]at e;cases e
   | some cs=>
     rw[h]at e;cases e;rw[rl_int.mp r1,Jc h r2];rfl
 | .non::_,_,_,e,_=>by cases e
 | .bl _::_,_,_,e,_=>by cases e
 | .str _::_,_,_,e,_=>by cases e
 | .tup _::_,_,_,e,_=>by cases e
 | .loc _::_,_,_,e,_=>by cases e
 | .ro _::_,_,_,e,_=>by cases e
 | .ty _::_,_,_,e,_=>by cases e
theorem y6{x:SV}{v:V}{xs:List SV}(ok:Ok K as H S)(r:Rl K as H v x)(n:x ≠ .tup xs)(h:seqS x S=some xs):∃ a vs,v = .ref a/\SqL K H a vs/\RlAll K as H vs xs:=by
 cases x with
 | tup ys=>cases h;exact absurd rfl n
 | ro ys=>
   cases h;obtain⟨p,vs,rfl,hp,rr⟩:=rl_ro.mp r;exact⟨p,vs,rfl,hp.sq,rr⟩
 | loc k=>
   obtain⟨a,ea,rfl⟩:=rl_loc.mp r;unfold seqS at h;cases hs:S[k]? with
   | none=>simp only[hs]at h;cases h
   | some o=>
     cases o with
     | lst ys=>
       simp only[hs]at h;cases h;obtain⟨vs,h1,rr⟩:=ok.obj k _ a hs ea;exact⟨a,vs,rfl,SqL.of h1,rr⟩
     | iset _=>simp only[hs]at h;cases h
     | dtl _=>simp only[hs]at h;cases h
     | dtf _ _ _=>simp only[hs]at h;cases h
     | dtp _=>simp only[hs]at h;cases h
     | dct _=>simp only[hs]at h;cases h
     | dcf _ _ _=>simp only[hs]at h;cases h
 | _=>cases h
theorem Dk{vs:List V}{x:SV}(r:RlAll K as H vs [x]):∃ v,vs=[v]/\Rl K as H v x:=by
 obtain⟨v,t,rfl,r1,r2⟩:=rla_cons.mp r;rw[rla_nil.mp r2];exact⟨v,rfl,r1⟩
theorem IR{vs:List V}{x y:SV}(r:RlAll K as H vs [x,y]):∃ v u,vs=[v,u]/\Rl K as H v x/\Rl K as H u y:=by
 obtain⟨v,t,rfl,r1,r2⟩:=rla_cons.mp r;obtain⟨u,rfl,r3⟩:=Dk r2;exact⟨v,u,rfl,r1,r3⟩
end
theorem Mu{K:Vl}{as:List ZT}{H:Hp}{S:Sto}{Q:VK}{x:SV}{v:V}{ys:List SV}(ok:Ok K as H S)(r1:Rl K as H v x)(h1:seqS x S=some ys)(h2:Post K as H Q (.tup ys) S):∃ p us,v = .ref p/\((SqL K H p us/\∀ l,H l=none->Q (.ref l) (upd H l (.tup us)))\/(SqT K H p us/\Q (.ref p) H)):=by
 cases x with
 | tup zs=>
   cases h1;obtain⟨p,us,rfl,hp,rr⟩:=rl_tup.mp r1;exact⟨p,us,rfl,.inr ⟨SqT.of hp,h2.here ok r1⟩⟩
 | loc k=>
   obtain⟨a,us,rfl,hq,rr⟩:=y6 ok r1 (by intro z;cases z) h1;exact⟨a,us,rfl,.inl ⟨hq,CS ok rr h2⟩⟩
 | ro k=>
   obtain⟨a,us,rfl,hq,rr⟩:=y6 ok r1 (by intro z;cases z) h1;exact⟨a,us,rfl,.inl ⟨hq,CS ok rr h2⟩⟩
 | _=>cases h1
section
variable{K:Vl}{as:List ZT}{H:Hp}{S:Sto}
theorem R9{x:SV}{v:V}{a:TyN}(ok:Ok K as H S)(r:Rl K as H v x)(h:tyS x S=some a):TyOf K H v (.type a.nm):=by
 cases x with
 | non=>cases h;rw[rl_non.mp r];exact .non
 | bl b=>cases h;rw[rl_bl.mp r];exact .bl b
 | int b=>cases h;rw[rl_int.mp r];exact .int b
 | str b=>cases h;rw[rl_str.mp r];exact .str b
 | tup xs=>cases h;obtain⟨p,vs,rfl,hp,_⟩:=rl_tup.mp r;exact .tup hp
 | loc k=>
   obtain⟨b,eb,rfl⟩:=rl_loc.mp r;unfold tyS at h;cases hs:S[k]? with
   | none=>simp only[hs]at h;cases h
   | some o=>
     cases o with
     | lst ys=>
       simp only[hs]at h;cases h;obtain⟨vs,h1,_⟩:=ok.obj k _ b hs eb;exact .lst h1
     | iset _=>simp only[hs]at h;cases h
     | dtl _=>simp only[hs]at h;cases h
     | dtf _ _ _=>simp only[hs]at h;cases h
     | dtp _=>simp only[hs]at h;cases h
     | dct _=>simp only[hs]at h;cases h
     | dcf _ _ _=>simp only[hs]at h;cases h
 | _=>cases h
noncomputable def ktn(t c:String):Option Bool:=if (Value.type t == Value.type c)=true then some true else if PySem.W.kitMeta c=true then (fastBuiltinMro t).map (·.contains (.type c)) else none
theorem Jd{K:Vl}(a:TyN)(t:TyN)(ht:t ≠ .none):PySem.W.kitOne K (.type a.nm) (.type t.nm)=some (Gb a t):=by
 have e:PySem.W.kitOne K (.type a.nm) (.type t.nm)=ktn a.nm t.nm:=rfl;rw[e];cases a<;>cases t<;>first | exact absurd rfl ht | decide +kernel
theorem Je{K:Vl}(a:TyN):∀(bs:List TyN),TyN.none∉bs->PySem.W.kitAny K (.type a.nm) ((bs.map TyN.nm).map Value.type)=some (bs.any (Gb a))
 | [],_=>rfl
 | b::bs,h=>by
   rw[WX,WX,PySem.W.kitAny,Jd a b (λz=>h (by rw[z];simp)),X1];cases Gb a b with
   | true=>rfl
   | false=>exact Je a bs (λz=>h (Vz _ z))
theorem Mv:∀{xs:List SV} {bs:List TyN} {vs:List V},L5 xs=some bs->RlAll K as H vs xs->vs=(bs.map TyN.nm).map V.ty
 | [],_,_,e,r=>by cases e;exact rla_nil.mp r
 | .ty b::xs,_,_,e,r=>by
   obtain⟨v,vs,rfl,r1,r2⟩:=rla_cons.mp r;unfold L5 at e;cases h:L5 xs with
   | none=>rw[h]at e;cases e
   | some cs=>
     rw[h]at e;cases e;rw[rl_ty.mp r1,Mv h r2];rfl
 | .non::_,_,_,e,_=>by cases e
 | .bl _::_,_,_,e,_=>by cases e
 | .str _::_,_,_,e,_=>by cases e
 | .tup _::_,_,_,e,_=>by cases e
 | .loc _::_,_,_,e,_=>by cases e
 | .ro _::_,_,_,e,_=>by cases e
 | .int _::_,_,_,e,_=>by cases e
end
noncomputable def rBi(K:Vl):BI->List V->Hp->VK->Prop
 | .len=>λxs H Q=>∃ p ys,xs=[.ref p]/\(SqL K H p ys\/SqT K H p ys)/\Q (.int ys.length) H
 | .abs=>λxs H Q=>∃ i,xs=[.int i]/\Q (.int (if i<0 then -i else i)) H
 | .min=>λxs H Q=>∃ i j,xs=[.int i,.int j]/\Q (.int (if j<i then j else i)) H
 | .max=>λxs H Q=>∃ i j,xs=[.int i,.int j]/\Q (.int (if j>i then j else i)) H
 | .int=>λxs H Q=>(∃ i,xs=[.int i]/\Q (.int i) H)\/∃ k,xs=[.bl k]/\Q (.int (if k then 1 else 0)) H
 | .list=>λxs H Q=>∃ p ys,xs=[.ref p]/\(SqL K H p ys\/SqT K H p ys)/\∀ l,H l=none->Q (.ref l) (upd H l (.lst ys))
 | .tuple=>λxs H Q=>∃ p ys,xs=[.ref p]/\((SqL K H p ys/\∀ l,H l=none->Q (.ref l) (upd H l (.tup ys)))\/(SqT K H p ys/\Q (.ref p) H))
 | .all=>λxs H Q=>∃(a:ZT) (bs:List Bool),xs=[.ref a]/\SqL K H a (bs.map V.bl)/\Q (.bl (bs.all id)) H
 | .any=>λxs H Q=>∃(a:ZT) (bs:List Bool),xs=[.ref a]/\SqL K H a (bs.map V.bl)/\Q (.bl (bs.any id)) H
 | .sorted=>λxs H Q=>∃ p ns,xs=[.ref p]/\SqL K H p (ns.map V.int)/\ns.length<64/\∀ l,H l=none->Q (.ref l) (upd H l (.lst ((srt ns).map V.int)))
 | .isi=>λxs H Q=>(∃ x T t b,xs=[x,.ty T]/\TyOf K H x t/\PySem.W.kitOne K t (.type T)=some b/\Q (.bl b) H)\/(∃(x:V) (p:ZT) (Ts:List String) (t:ZR) (b:Bool),xs=[x,.ref p]/\H p=some (.tup (Ts.map V.ty))/\TyOf K H x t/\PySem.W.kitAny K t (Ts.map Value.type)=some b/\Q (.bl b) H)
 | .str=>λ_ _ _=>False
 | .repr=>λ_ _ _=>False
theorem Sx{K:Vl}:∀{b:BI},Uo K (sBi b) (rBi K b)
 | .len=>λas H S xs vs Q ok r h=>by
   replace h:=Dj h;obtain⟨x,rfl,ys,h1,h2⟩:=h;obtain⟨v,rfl,r1⟩:=Dk r;obtain⟨a,us,rfl,hq,rr⟩:=FI ok r1 h1;exact⟨a,us,rfl,hq,by rw[rr.length];exact h2.here ok (rl_int.mpr rfl)⟩
 | .abs=>λas H S xs vs Q ok r h=>by
   replace h:=Dj h;obtain⟨x,rfl,h⟩:=h;replace h:=DC h;obtain⟨i,rfl,h⟩:=h;obtain⟨v,rfl,r1⟩:=Dk r;exact⟨_,by rw[rl_int.mp r1],Post.here h ok (rl_int.mpr rfl)⟩
 | .min=>λas H S xs vs Q ok r h=>by
   replace h:=Mt h;obtain⟨x,y,rfl,h⟩:=h;replace h:=DC h;obtain⟨i,rfl,h⟩:=h;replace h:=DC h;obtain⟨j,rfl,h⟩:=h;obtain⟨v,u,rfl,r1,r2⟩:=IR r;exact⟨_,_,by rw[rl_int.mp r1,rl_int.mp r2],Post.here h ok (rl_int.mpr rfl)⟩
 | .max=>λas H S xs vs Q ok r h=>by
   replace h:=Mt h;obtain⟨x,y,rfl,h⟩:=h;replace h:=DC h;obtain⟨i,rfl,h⟩:=h;replace h:=DC h;obtain⟨j,rfl,h⟩:=h;obtain⟨v,u,rfl,r1,r2⟩:=IR r;exact⟨_,_,by rw[rl_int.mp r1,rl_int.mp r2],Post.here h ok (rl_int.mpr rfl)⟩
 | .int=>λas H S xs vs Q ok r h=>by
   replace h:=Dj h;obtain⟨x,rfl,h⟩:=h;obtain⟨v,rfl,r1⟩:=Dk r;replace h:=R7 h;rcases h with⟨k,rfl,h⟩ | ⟨b,rfl,h⟩
   ·exact .inl ⟨_,by rw[rl_int.mp r1],Post.here h ok (rl_int.mpr rfl)⟩
   ·exact .inr ⟨_,by rw[rl_bl.mp r1],Post.here h ok (rl_int.mpr rfl)⟩
 | .list=>λas H S xs vs Q ok r h=>by
   replace h:=Dj h;obtain⟨x,rfl,ys,h1,h2⟩:=h;obtain⟨v,rfl,r1⟩:=Dk r;obtain⟨a,us,rfl,hq,rr⟩:=FI ok r1 h1;exact⟨a,us,rfl,hq,Af ok rr h2⟩
 | .tuple=>λas H S xs vs Q ok r h=>by
   replace h:=Dj h;obtain⟨x,rfl,ys,h1,h2⟩:=h;obtain⟨v,rfl,r1⟩:=Dk r;obtain⟨p,us,rfl,z⟩:=Mu ok r1 h1 h2;exact⟨p,us,rfl,z⟩
 | .all=>λas H S xs vs Q ok r h=>by
   replace h:=Dj h;obtain⟨x,rfl,ys,bs,h0,h1,h2,h3⟩:=h;obtain⟨v,rfl,r1⟩:=Dk r;obtain⟨a,us,rfl,hq,rr⟩:=y6 ok r1 h0 h1;rw[IQ h2 rr]at hq;exact⟨a,bs,rfl,hq,h3.here ok (rl_bl.mpr rfl)⟩
 | .any=>λas H S xs vs Q ok r h=>by
   replace h:=Dj h;obtain⟨x,rfl,ys,bs,h0,h1,h2,h3⟩:=h;obtain⟨v,rfl,r1⟩:=Dk r;obtain⟨a,us,rfl,hq,rr⟩:=y6 ok r1 h0 h1;rw[IQ h2 rr]at hq;exact⟨a,bs,rfl,hq,h3.here ok (rl_bl.mpr rfl)⟩
 | .sorted=>λas H S xs vs Q ok r h=>by
   replace h:=Dj h;obtain⟨x,rfl,ys,ns,h0,h1,h2,h3,h4⟩:=h;obtain⟨v,rfl,r1⟩:=Dk r;obtain⟨a,us,rfl,hq,rr⟩:=y6 ok r1 h0 h1;rw[Jc h2 rr]at hq;exact⟨a,ns,rfl,hq,h3,Af ok RlAll.ints h4⟩
 | .isi=>λas H S xs vs Q ok r h=>by
   replace h:=Mt h;obtain⟨x,y,rfl,h⟩:=h;obtain⟨v,u,rfl,r1,r2⟩:=IR r;replace h:=R8 h;rcases h with⟨t,a,rfl,h0,h1,h2⟩ | ⟨ts,a,bs,rfl,h0,h1,h2,h3⟩
   ·rw[rl_ty.mp r2];exact .inl ⟨v,_,_,_,rfl,R9 ok r1 h1,Jd _ _ h0,h2.here ok (rl_bl.mpr rfl)⟩
   ·obtain⟨p,vs,rfl,hp,rr⟩:=rl_tup.mp r2;rw[Mv h2 rr]at hp;exact .inr ⟨v,p,_,_,_,rfl,hp,R9 ok r1 h1,Je _ _ h0,h3.here ok (rl_bl.mpr rfl)⟩
 | .str=>λ_ _ _ _ _ _ _ _ h=>False.elim h
 | .repr=>λ_ _ _ _ _ _ _ _ h=>False.elim h
theorem FQ{K:Vl}{as:List ZT}{H:Hp}:∀{ns:List Int} {vs:List V},RlAll K as H vs (ns.map SV.int)->vs=ns.map V.int
 | [],vs,h=>rla_nil.mp h
 | n::ns,vs,h=>by
   obtain⟨v,r,rfl,h1,h2⟩:=rla_cons.mp h;rw[rl_int.mp h1,FQ h2];rfl
inductive MT where
 | append | extend | insert | reverse
 deriving DecidableEq
def MT.name:MT->Str
 | .append=>"append" | .extend=>"extend" | .insert=>"insert" | .reverse=>"reverse"
def oL(f:Nat->Sto->QE->Prop):S1:=λx S Q=>match x with | .loc k=>f k S Q | _=>False
theorem ES{f:Nat->Sto->QE->Prop}{x:SV}{S:Sto}{Q:QE}(h:oL f x S Q):∃ k,x = .loc k/\f k S Q:=match x,h with | .loc k,h=>⟨k,rfl,h⟩
def Pl(x:SV):S1:=λy S Q=>oL (λk S Q=>∃ xs,S[k]?=some (.lst xs)/\xs.length<big/\Q .non (S.set k (.lst (xs++[y])))) x S Q
def Pm(x:SV):S1:=λy S Q=>oL (λk S Q=>oL (λl S Q=>∃ xs ys,S[k]?=some (.lst xs)/\S[l]?=some (.lst ys)/\xs.length+ys.length<=big/\Q .non (S.set k (.lst (xs++ys)))) y S Q) x S Q
def Pn(x:SV):S2:=λz y S Q=>oL (λk S Q=>oI (λi S Q=>∃ xs,S[k]?=some (.lst xs)/\(0<=i/\i<=xs.length)/\xs.length<big/\Q .non (S.set k (.lst (xs.take i.toNat++y::xs.drop i.toNat)))) z S Q) x S Q
def Mw(x:SV):Sto->QE->Prop:=λS Q=>oL (λk S Q=>∃ xs,S[k]?=some (.lst xs)/\Q .non (S.set k (.lst xs.reverse))) x S Q
def sMt:MT->SV->Sn
 | .append,x=>a1 (Pl x)
 | .extend,x=>a1 (Pm x)
 | .insert,x=>a2 (Pn x)
 | .reverse,x=>a0 (Mw x)
theorem FR:∀{m:MT} {x:SV},MonoN (sMt m x)
 | .append,x=>AV λy S P P' i h=>by
   replace h:=ES h;obtain⟨k,rfl,a,c,d,e⟩:=h;exact⟨a,c,d,i _ _ e⟩
 | .extend,x=>AV λy S P P' i h=>by
   replace h:=ES h;obtain⟨k,rfl,h⟩:=h;replace h:=ES h;obtain⟨l,rfl,a,c,d,e,f,g⟩:=h;exact⟨a,c,d,e,f,i _ _ g⟩
 | .insert,x=>DL λz y S P P' i h=>by
   replace h:=ES h;obtain⟨k,rfl,h⟩:=h;replace h:=DC h;obtain⟨j,rfl,a,c,d,e,f⟩:=h;exact⟨a,c,d,e,i _ _ f⟩
 | .reverse,x=>λxs S P P' i h=>by
   replace h:=Uv h;obtain⟨rfl,h⟩:=h;replace h:=ES h;obtain⟨k,rfl,a,c,d⟩:=h;exact⟨a,c,i _ _ d⟩
def rMt:MT->V->List V->Hp->VK->Prop
 | .append=>JU
 | .extend=>JV
 | .insert=>JW
 | .reverse=>GK
section
variable{K:Vl}{as:List ZT}{H:Hp}{S:Sto}
theorem RlAll.dropLast{xs:List SV}{vs:List V}(h:RlAll K as H vs xs):RlAll K as H vs.dropLast xs.dropLast:=by
 rw[YY,YY,h.length];exact h.take _
theorem BM{Q:VK}{k:Nat}{a:ZT}{xs ys:List SV}{us:List V}{x:SV}{v:V}(ok:Ok K as H S)(e:S[k]?=some (.lst xs))(ea:as[k]?=some a)(r:RlAll K as H us ys)(h:Post K as H Q x (S.set k (.lst ys)))(rx:Rl K as H v x):Q v (upd H a (.lst us)):=by
 obtain⟨ok',ku⟩:=ok.write e ea r;exact h as _ v (Go.write (Vp ea)) ok' (Rl.mono (WN _) ku x v rx)
theorem Mx:∀{m:MT} {Q:VK} {x:SV} {v:V} {xs:List SV} {vs:List V} (ok:Ok K as H S) (rx:Rl K as H v x) (r:RlAll K as H vs xs) (h:sMt m x xs S (Post K as H Q)),rMt m v vs H Q
 | .append,Q,x,v,xs,vs,ok,rx,r,h=>by
   replace h:=Dj h;obtain⟨y,rfl,h⟩:=h;replace h:=ES h;obtain⟨k,rfl,ys,h1,h2,h3⟩:=h;obtain⟨a,us,rfl,ea,ha,ra⟩:=v3 ok rx h1;obtain⟨u,rfl,ru⟩:=Dk r;exact⟨a,us,u,rfl,rfl,ha,by rw[ra.length];exact FG h2,BM ok h1 ea (ra.append (.cons ru .nil)) h3 (rl_non.mpr rfl)⟩
 | .extend,Q,x,v,xs,vs,ok,rx,r,h=>by
   replace h:=Dj h;obtain⟨y,rfl,h⟩:=h;replace h:=ES h;obtain⟨k,rfl,h⟩:=h;replace h:=ES h;obtain⟨l,rfl,ys,zs,h1,h2,h3,h4⟩:=h;obtain⟨a,us,rfl,ea,ha,ra⟩:=v3 ok rx h1;obtain⟨u,rfl,ru⟩:=Dk r;obtain⟨b,ws,rfl,eb,hb,rb⟩:=v3 ok ru h2;exact⟨a,b,us,ws,rfl,rfl,ha,hb,by rw[ra.length,rb.length];exact Ae h3,BM ok h1 ea (ra.append rb) h4 (rl_non.mpr rfl)⟩
 | .insert,Q,x,v,xs,vs,ok,rx,r,h=>by
   replace h:=Mt h;obtain⟨z,y,rfl,h⟩:=h;replace h:=ES h;obtain⟨k,rfl,h⟩:=h;replace h:=DC h;obtain⟨i,rfl,ys,h1,h2,h3,h4⟩:=h;obtain⟨a,us,rfl,ea,ha,ra⟩:=v3 ok rx h1;obtain⟨u,w,rfl,ru,rw'⟩:=IR r;rw[rl_int.mp ru];exact⟨a,us,i,w,rfl,rfl,ha,h2.1,by rw[ra.length];exact h2.2,by rw[ra.length];exact FG h3,BM ok h1 ea (ra.ins rw' _) h4 (rl_non.mpr rfl)⟩
 | .reverse,Q,x,v,xs,vs,ok,rx,r,h=>by
   replace h:=Uv h;obtain⟨rfl,h⟩:=h;replace h:=ES h;obtain⟨k,rfl,ys,h1,h2⟩:=h;obtain⟨a,us,rfl,ea,ha,ra⟩:=v3 ok rx h1;rw[rla_nil.mp r];exact⟨a,us,rfl,rfl,ha,BM ok h1 ea ra.rev h2 (rl_non.mpr rfl)⟩
end
mutual
inductive Tg where
 | nm (i:Nat) | tup (ts:Tgs)
inductive Tgs where
 | nil | cons (t:Tg) (ts:Tgs)
end
mutual
inductive Ex where
 | var (i:Nat) | c (x:SV) | op (o:A06) (a b:Ex) | neg (a:Ex) | cmp (o:CmpOp) (a b:Ex) | chn (o p:CmpOp) (a b c:Ex)
 | and (a b:Ex) | or (a b:Ex) | not (a:Ex) | ife (t a b:Ex) | tup (es:Exs) | lst (es:Exs) | ix (a b:Ex) | slc (a:Ex) (lo hi:Eo)
 | call (f:Nat) (es:Exs) | bi (b:BI) (es:Exs) | mt (m:MT) (a:Ex) (es:Exs) | comp (own cn:List Str) (js:List Nat) (g:Tg) (it:Itb) (t:Eo) (e:Ex) | tyc (t:TyN) | max1 (a:Ex) | sum2 (a:Ex) | maxd (a d:Ex) | dnewl | dget2l (d e v:Ex) | dvalsl (a:Ex) | setdi (d e v:Ex) | mind (a d:Ex) | dnewp | setd (d e v:Ex) | eqp (a b:Ex) | dnew | dget (a b:Ex) | no
inductive Exs where
 | nil | cons (e:Ex) (es:Exs)
inductive Eo where
 | no | yes (e:Ex)
inductive Itb where
 | seq (e:Ex) | rng1 (a:Ex) | enum (e:Ex) | zip (i j:Nat)
end
inductive Stm where
 | asg (t:Tg) (e:Ex) | par (i j:Nat) (a b:Ex) | put (o i e:Ex) | augS (o i e:Ex) | dputl (o i e:Ex) | put2 (o i p j e:Ex) | expr (e:Ex) | iff (t:Ex) (a b:List Stm) | loop (g:Tg) (it:Itb) (b:List Stm) | whl (t:Ex) (b:List Stm) | tri (b:List Stm)
 | ret (e:Ex) | no
def sOp:A06->S2
 | .Add=>Mm
 | .Sub=>CT λi j => .int (i - j)
 | .Mult=>Mn
 | .FloorDiv=>IL UN λi j => .int (i / j)
 | .Mod=>IL (λ_ j=>0<j) λi j => .int (i % j)
 | .Pow=>IL UO λi j => .int (i ^ j.toNat)
 | _=>λ_ _ _ _=>False
def B8:CmpOp->S2
 | .Eq=>sEq
 | .NotEq=>sNe
 | .Lt=>CT λi j => .bl (decide (i<j))
 | .LtE=>CT λi j => .bl (decide (i<=j))
 | .Gt=>CT λi j => .bl (decide (j<i))
 | .GtE=>CT λi j => .bl (decide (j<=i))
 | .In=>sIn false
 | .NotIn=>sIn true
 | .Is=>Mo false
 | .IsNot=>Mo true
def My:S1
 | .int i,S,Q=>Q (.int (-i)) S
 | _,_,_=>False
def Mz:SV->Sto->Option Bool
 | .bl b,_=>some b
 | .tup xs,_=>some (!xs.isEmpty)
 | .loc k,S=>match S[k]? with | some (.lst xs)=>some (!xs.isEmpty) | _=>none
 | _,_=>none
def Sy(w:WE):WT:=λρ S Q=>w ρ S λx S'=>∃ b,Mz x S'=some b/\Q b S'
def N0(a b:WE):WE:=λρ S Q=>a ρ S λx S1=>∃ c,x = .bl c/\if c=true then b ρ S1 Q else Q (.bl false) S1
def wOr(a b:WE):WE:=λρ S Q=>a ρ S λx S1=>∃ c,x = .bl c/\if c=true then Q (.bl true) S1 else b ρ S1 Q
def Po(a:WE):WE:=λρ S Q=>a ρ S λx S1=>∃ c,x = .bl c/\Q (.bl (!c)) S1
def Dl(a b:WT):WT:=λρ S Q=>a ρ S λc S1=>if c=true then b ρ S1 Q else Q false S1
def IS(a b:WT):WT:=λρ S Q=>a ρ S λc S1=>if c=true then Q true S1 else b ρ S1 Q
def Jf(a:WT):WT:=λρ S Q=>a ρ S λc S1=>Q (!c) S1
def Pp(t:WT)(a b:WE):WE:=λρ S Q=>t ρ S λc S1=>if c=true then a ρ S1 Q else b ρ S1 Q
def N1(s s':S2)(a b c:WE):WE:=λρ S Q=>a ρ S λx S1=>b ρ S1 λy S2=>s x y S2 λz S3=>∃ k,z = .bl k/\if k=true then c ρ S3 λu S4=>s' y u S4 Q else Q (.bl false) S3
abbrev WO:=EnvS->Sto->(Option Int->Sto->Prop)->Prop
def T4:WO:=λ_ S Q=>Q none S
def N2(w:WE):WO:=λρ S Q=>w ρ S λx S1=>∃ i,x = .int i/\Q (some i) S1
def FS(xs:List SV)(lo hi:Option Int):List SV:=(xs.drop (HT.sIx xs.length 0 lo)).take (HT.sIx xs.length xs.length hi - HT.sIx xs.length 0 lo)
def N3:SV->Option Int->Option Int->Sto->QE->Prop
 | .loc k,lo,hi,S,Q=>∃ xs,S[k]?=some (.lst xs)/\Q (.loc S.length) (S++[.lst (FS xs lo hi)])
 | .tup xs,lo,hi,S,Q=>Q (.tup (FS xs lo hi)) S
 | _,_,_,_,_=>False
def T9(a:WE)(lo hi:WO):WE:=λρ S Q=>a ρ S λx S1=>lo ρ S1 λl S2=>hi ρ S2 λh S3=>N3 x l h S3 Q
abbrev WI:=EnvS->Sto->((Sto->Prop)->List SV->Sto->Prop)->Prop
def keepS:SV->Sto->Sto->Prop
 | .loc k,S,S'=>S'[k]?=S[k]?
 | _,_,_=>True
def RA(w:WE):WI:=λρ S R=>w ρ S λx S1=>∃ xs,seqS x S1=some xs/\R (keepS x S1) xs S1
def CC(lo hi:Int):List SV:=(W4 (hi - lo).toNat).map λ(i:Nat) => .int (lo+i)
def N4(w:WE):WI:=λρ S R=>w ρ S λx S1=>∃ j,x = .int j/\(-(2 ^ 62)<=j/\j<2 ^ 62)/\R (λ_=>True) (CC 0 j) S1
def Bf(xs:List SV):List SV:=(W4 xs.length).zipWith (λ(i:Nat) x => .tup [.int i,x]) xs
def N5(w:WE):WI:=λρ S R=>w ρ S λx S1=>∃ xs,seqS x S1=some xs/\R (keepS x S1) (Bf xs) S1
def FT:SV->Bool
 | .tup _=>true
 | _=>false
def IT(xs ys:List SV):List SV:=xs.zipWith (λx y => .tup [x,y]) ys
def RB(i j:Nat):WI:=λρ S R=>∃ x y xs ys,ρ[i]?=some (some x)/\ρ[j]?=some (some y)/\seqS x S=some xs/\seqS y S=some ys/\FT x=FT y/\xs.length=ys.length/\R (λS'=>keepS x S S'/\keepS y S S') (IT xs ys) S
def N6(a:WE):WE:=λρ S Q=>a ρ S λx S1=>∃ i j,x = .tup [.int i,.int j]/\Q (.int (i+j)) S1
def N7(a:WE):WE:=λρ S Q=>a ρ S λx S1=>∃ k ns,x = .loc k/\S1[k]?=some (.lst (ns.map SV.int))/\0<ns.length/\∀ m,Grt ns m->Q (.int m) S1
def N8(a d:WE):WE:=λρ S Q=>a ρ S λx S1=>d ρ S1 λy S2=>∃ k ps,x = .loc k/\y = .non/\S2[k]?=some (.lst (ps.map λp:Int×Int=>SV.tup [.int p.1,.int p.2]))/\(ps=[]->Q .non S2)/\∀ p∈ps,Q (.tup [.int p.1,.int p.2]) S2
def dpv(kvs:List ((Int×Int)×Int))(k:Int×Int):Option Int:=(kvs.find? λp=>decide (p.1=k)).map (·.2)
def N9(d e v:WE):WE:=λρ S Q=>d ρ S λx S1=>∃ k kv0,x = .loc k/\S1[k]?=some (.dtp kv0)/\e ρ S1 λy S2=>v ρ S2 λz S3=>∃ i j m kvs,y = .tup [.int i,.int j]/\z = .int m/\S3[k]?=some (.dtp kvs)/\kvs.length<big/\
 (∀ n,dpv kvs (i,j)=some n->Q (.int n) S3)/\(dpv kvs (i,j)=none->Q (.int m) (S3.set k (.dtp (kvs++[((i,j),m)]))))
def Dm(kvs:List (List Int×SV))(k:List Int):Option SV:=(kvs.find? λp=>decide (p.1=k)).map (·.2)
def FU(d e v:WE):WE:=λρ S Q=>d ρ S λx S1=>∃ k kv0,x = .loc k/\S1[k]?=some (.dtl kv0)/\e ρ S1 λy S2=>v ρ S2 λz S3=>∃(ks:List Int) (kvs:List (List Int×SV)),y = .tup (ks.map SV.int)/\S3[k]?=some (.dtl kvs)/\Q ((Dm kvs ks).getD z) S3
def FV(a:WE):WE:=λρ S Q=>a ρ S λx S1=>∃ k kvs,x = .loc k/\S1[k]?=some (.dtl kvs)/\Q (.loc S1.length) (S1++[.lst (kvs.map (·.2))])
def Ek(kvs:List (List Int×SV))(k:List Int)(x:SV):List (List Int×SV):=if (kvs.any λp=>decide (p.1=k))=true then kvs.map (λp=>if p.1=k then (p.1,x) else p) else kvs++[(k,x)]
def Jg:SV->SV->SV->Sto->(Sto->Prop)->Prop:=λx y v S Q=>∃(k:Nat) (ks:List Int) (kvs:List (List Int×SV)),x = .loc k/\y = .tup (ks.map SV.int)/\S[k]?=some (.dtl kvs)/\kvs.length<big/\Q (S.set k (.dtl (Ek kvs ks v)))
def NA(a d:WE):WE:=λρ S Q=>a ρ S λx S1=>d ρ S1 λy S2=>∃ k ns i,x = .loc k/\y = .int i/\S2[k]?=some (.lst (ns.map SV.int))/\(ns=[]->Q (.int i) S2)/\∀ m,Grt ns m->Q (.int m) S2
def Cp(kvs:List (Int×SV))(i:Int):Option SV:=(kvs.find? λp=>decide (p.1=i)).map (·.2)
def RC(kvs:List (Int×SV))(i:Int)(x:SV):List (Int×SV):=if (kvs.any λp=>decide (p.1=i))=true then kvs.map (λp=>if p.1=i then (p.1,x) else p) else kvs++[(i,x)]
def Pq:SV->Sto->Option (List (Int×SV))
 | .loc k,S=>match S[k]? with | some (.dct kvs)=>some kvs | some (.dcf _ _ kvs)=>some kvs | _=>none
 | _,_=>none
def IU(d e v:WE):WE:=λρ S Q=>d ρ S λx S1=>∃ k kv0,x = .loc k/\S1[k]?=some (.dct kv0)/\e ρ S1 λy S2=>v ρ S2 λz S3=>∃(i:Int) (kvs:List (Int×SV)),y = .int i/\S3[k]?=some (.dct kvs)/\kvs.length<big/\
 (∀ n,Cp kvs i=some n->Q n S3)/\(Cp kvs i=none->Q z (S3.set k (.dct (kvs++[(i,z)]))))
def Jh:S2:=λx y S Q=>∃ kvs i v,Pq x S=some kvs/\y = .int i/\Cp kvs i=some v/\Q v S
def NB:S2:=λx y S Q=>∃ i j k l:Int,x = .tup [.int i,.int j]/\y = .tup [.int k,.int l]/\Q (.bl (decide (i=k/\j=l))) S
def IV:WE:=λ_ S Q=>Q (.loc S.length) (S++[.dtp []])
def IW:WE:=λ_ S Q=>Q (.loc S.length) (S++[.dtl []])
def NC:WE:=λ_ S Q=>Q (.loc S.length) (S++[.dct []])
def wMt(m:MT)(a:WE)(b:WA):WE:=λρ S Q=>a ρ S λx S1=>(∃ k xs,x = .loc k/\S1[k]?=some (.lst xs))/\b ρ S1 λxs S2=>sMt m x xs S2 Q
mutual
noncomputable def wTg:Tg->SV->EnvS->(EnvS->Prop)->Prop
 | .nm i,x,ρ,Q=>Q (ρ.set i (some x))
 | .tup ts,.tup xs,ρ,Q=>Ar ts xs ρ Q
 | .tup _,_,_,_=>False
noncomputable def Ar:Tgs->List SV->EnvS->(EnvS->Prop)->Prop
 | .nil,[],ρ,Q=>Q ρ
 | .cons t ts,x::xs,ρ,Q=>wTg t x ρ λρ'=>Ar ts xs ρ' Q
 | _,_,_,_=>False
end
def Gc(k:Nat)(js:List Nat)(ρ:EnvS):EnvS:=Vx k none++js.map λj=>(ρ[j]?).join
noncomputable def A0(keep:Sto->Prop)(g:Tg)(t:WT)(e:WE)(ρ:EnvS)(Q:List SV->Sto->Prop):List SV->List SV->Sto->Prop
 | [],ys,S=>keep S/\Q ys S
 | x::xs,ys,S=>keep S/\wTg g x ρ λρ2=>t ρ2 S λb S1=>if b=true then e ρ2 S1 λy S2=>ys.length<big/\A0 keep g t e ρ Q xs (ys++[y]) S2 else A0 keep g t e ρ Q xs ys S1
noncomputable def Ji(k:Nat)(js:List Nat)(g:Tg)(i:WI)(t:WT)(e:WE):WE:=λρ S Q=>i ρ S λkeep xs S1=>A0 keep g t e (Gc k js ρ) (λys S2=>Q (.loc S2.length) (S2++[.lst ys])) xs [] S1
def tt1(w:WE):WE×WT:=(w,Sy w)
def wBl(w:WE):WT:=λρ S Q=>w ρ S λx S'=>∃ b,x = .bl b/\Q b S'
def tt2(w:WE):WE×WT:=(w,wBl w)
def Uz:WT:=λ_ S Q=>Q true S
mutual
noncomputable def wEx(Δ:Nat->Sn):Ex->WE×WT
 | .var i=>tt1 (Sj i)
 | .c x=>tt1 (wC x)
 | .op o a b=>tt1 (w2 (sOp o) (wEx Δ a).1 (wEx Δ b).1)
 | .neg a=>tt1 (w1 My (wEx Δ a).1)
 | .cmp o a b=>tt2 (w2 (B8 o) (wEx Δ a).1 (wEx Δ b).1)
 | .chn o p a b c=>tt2 (N1 (B8 o) (B8 p) (wEx Δ a).1 (wEx Δ b).1 (wEx Δ c).1)
 | .and a b=>(N0 (wEx Δ a).1 (wEx Δ b).1,Dl (wEx Δ a).2 (wEx Δ b).2)
 | .or a b=>(wOr (wEx Δ a).1 (wEx Δ b).1,IS (wEx Δ a).2 (wEx Δ b).2)
 | .not a=>(Po (wEx Δ a).1,Jf (wEx Δ a).2)
 | .ife t a b=>(Pp (wEx Δ t).2 (wEx Δ a).1 (wEx Δ b).1,λ_ _ _=>False)
 | .tup es=>tt1 (wn PV (Ge Δ es))
 | .lst es=>tt1 (wn Mk (Ge Δ es))
 | .ix a b=>tt1 (w2 sIx (wEx Δ a).1 (wEx Δ b).1)
 | .slc a lo hi=>tt1 (T9 (wEx Δ a).1 (wEo Δ lo).1 (wEo Δ hi).1)
 | .call f es=>tt1 (wn (Δ f) (Ge Δ es))
 | .bi b es=>tt1 (wn (sBi b) (Ge Δ es))
 | .mt m a es=>tt1 (wMt m (wEx Δ a).1 (Ge Δ es))
 | .comp own _ js g it t e=>tt1 (Ji own.length js g (Pr Δ it) (wEo Δ t).2 (wEx Δ e).1)
 | .tyc t=>tt1 (wC (.ty t))
 | .max1 a=>tt1 (N7 (wEx Δ a).1)
 | .sum2 a=>tt1 (N6 (wEx Δ a).1)
 | .maxd a d=>tt1 (NA (wEx Δ a).1 (wEx Δ d).1)
 | .eqp a b=>tt2 (w2 NB (wEx Δ a).1 (wEx Δ b).1)
 | .dnew=>tt1 NC
 | .dnewl=>tt1 IW
 | .dget2l d e v=>tt1 (FU (wEx Δ d).1 (wEx Δ e).1 (wEx Δ v).1)
 | .dvalsl a=>tt1 (FV (wEx Δ a).1)
 | .setdi d e v=>tt1 (IU (wEx Δ d).1 (wEx Δ e).1 (wEx Δ v).1)
 | .dnewp=>tt1 IV
 | .setd d e v=>tt1 (N9 (wEx Δ d).1 (wEx Δ e).1 (wEx Δ v).1)
 | .mind a d=>tt1 (N8 (wEx Δ a).1 (wEx Δ d).1)
 | .dget a b=>tt1 (w2 Jh (wEx Δ a).1 (wEx Δ b).1)
 | .no=>(λ_ _ _=>False,λ_ _ _=>False)
noncomputable def Ge(Δ:Nat->Sn):Exs->WA
 | .nil=>Ei
 | .cons e es=>Dh (wEx Δ e).1 (Ge Δ es)
noncomputable def wEo(Δ:Nat->Sn):Eo->WO×WT
 | .no=>(T4,Uz)
 | .yes e=>(N2 (wEx Δ e).1,(wEx Δ e).2)
noncomputable def Pr(Δ:Nat->Sn):Itb->WI
 | .seq e=>RA (wEx Δ e).1
 | .rng1 a=>N4 (wEx Δ a).1
 | .enum e=>N5 (wEx Δ e).1
 | .zip i j=>RB i j
end
structure EndsS where
 nx:EnvS->Sto->Prop
 rt:SV->Sto->Prop
 bk:EnvS->Sto->Prop:=λ_ _=>False
 ct:EnvS->Sto->Prop:=λ_ _=>False
abbrev WS:=EndsS->EnvS->Sto->Prop
def Cq:SV->SV->SV->Sto->(Sto->Prop)->Prop
 | .loc k,.int i,v,S,Q=>∃ xs j,S[k]?=some (.lst xs)/\ixN xs.length i=some j/\Q (S.set k (.lst (xs.set j v)))
 | _,_,_,_,_=>False
def AA(keep:Sto->Prop)(g:Tg)(b:WS)(D:EndsS):List SV->EnvS->Sto->Prop
 | [],ρ,S=>keep S/\D.nx ρ S
 | x::xs,ρ,S=>keep S/\wTg g x ρ λρ2=>b {D with nx:=AA keep g b D xs,ct:=AA keep g b D xs,bk:=D.nx} ρ2 S
noncomputable def TB(t:WT)(b:WS):WS:=λD ρ S=>∃ W:Nat->EnvS->Sto->Prop,(∃ m,W m ρ S)/\∀ m ρ S,W m ρ S->t ρ S λc S1=>if c=true then
 b {D with nx:=λρ' S'=>∃ m',m'<m/\W m' ρ' S',ct:=λρ' S'=>∃ m',m'<m/\W m' ρ' S',bk:=D.nx} ρ S1 else D.nx ρ S1
mutual
noncomputable def wSt(Δ:Nat->Sn):Stm->WS
 | .asg t e=>λD ρ S=>(wEx Δ e).1 ρ S λx S1=>wTg t x ρ λρ'=>D.nx ρ' S1
 | .par i j a b=>λD ρ S=>(wEx Δ a).1 ρ S λx S1=>(wEx Δ b).1 ρ S1 λy S2=>D.nx ((ρ.set i (some x)).set j (some y)) S2
 | .put o i e=>λD ρ S=>(wEx Δ e).1 ρ S λv S1=>(wEx Δ o).1 ρ S1 λx S2=>(wEx Δ i).1 ρ S2 λy S3=>Cq x y v S3 λS4=>D.nx ρ S4
 | .augS o i e=>λD ρ S=>(wEx Δ o).1 ρ S λx S1=>(wEx Δ i).1 ρ S1 λy S2=>∃(k:Nat) (j:Nat) (xs:List SV) (a:Int),x = .loc k/\y = .int j/\S2[k]?=some (.lst xs)/\xs[j]?=some (.int a)/\(wEx Δ e).1 ρ S2 λv S4=>∃(b:Int) (ys:List SV),v = .int b/\S4[k]?=some (.lst ys)/\j<ys.length/\D.nx ρ (S4.set k (.lst (ys.set j (.int (a+b)))))
 | .dputl o i e=>λD ρ S=>(wEx Δ e).1 ρ S λv S1=>(wEx Δ o).1 ρ S1 λx S2=>(wEx Δ i).1 ρ S2 λy S3=>Jg x y v S3 λS4=>D.nx ρ S4
 | .put2 o i p j e=>λD ρ S=>(wEx Δ e).1 ρ S λu S1=>∃ v w,u = .tup [v,w]/\(wEx Δ o).1 ρ S1 λx S2=>(wEx Δ i).1 ρ S2 λy S3=>Cq x y v S3 λS4=>(wEx Δ p).1 ρ S4 λx S5=>(wEx Δ j).1 ρ S5 λy S6=>Cq x y w S6 λS7=>D.nx ρ S7
 | .expr e=>λD ρ S=>(wEx Δ e).1 ρ S λ_ S1=>D.nx ρ S1
 | .iff t a b=>λD ρ S=>(wEx Δ t).2 ρ S λc S1=>if c=true then wSs Δ a D ρ S1 else wSs Δ b D ρ S1
 | .loop g it b=>λD ρ S=>Pr Δ it ρ S λkeep xs S1=>AA keep g (wSs Δ b) D xs ρ S1
 | .whl t b=>TB (wEx Δ t).2 (wSs Δ b)
 | .tri b=>wSs Δ b
 | .ret e=>λD ρ S=>(wEx Δ e).1 ρ S D.rt
 | .no=>λ_ _ _=>False
noncomputable def wSs(Δ:Nat->Sn):List Stm->WS
 | []=>λD ρ S=>D.nx ρ S
 | s::ss=>λD ρ S=>wSt Δ s {D with nx:=wSs Δ ss D} ρ S
end
theorem v9{α:Type}{P:Prop}{x:α}(h:(none:Option α)=some x):P:=nomatch h
def Gf(scope sc:Zf):Zf:={scope with names:=scope.names.map λ(n,k)=>if (k == .free&&sc.kind == .function&&sc.names.lookup n == some .cell) then (n,.cell) else (n,k)}
def i4:Expr->Bool
 | .Starred ..=>false
 | _=>true
theorem j4{e:Expr}{es:List Expr}{env:Env}(h:i4 e=true):Zc (e::es) env=(false,eval e env)::Zc es env:=by
 cases e<;>first | rfl | cases h
theorem CU{env:Env}{pos:Pos}:∀{es:List Expr},es.all i4=true->(backTo pos (Zc es env)).any (·.1)=false
 | [],_=>rfl
 | e::es,h=>by
   rw[X0,Vn]at h;rw[j4 h.1];exact CU (es:=es) h.2
theorem El{env:Env}{pos:Pos}:∀{es:List Expr},es.all i4=true->(backTo pos (Zc es env)).all (λx=>!x.1)=true
 | [],_=>rfl
 | e::es,h=>by
   rw[X0,Vn]at h;rw[j4 h.1];exact El (es:=es) h.2
def glo(sc:Zf)(x:Str):Bool:=sc.names.lookup x == some .globalImplicit&&!(x == ("__name__":Str))&&!(x == ("__debug__":Str))
def vis(sc:Zf)(x:Str):Bool:=sc.names.lookup x == some .local||sc.names.lookup x == some .cell||sc.names.lookup x == some .free
def loc(sc:Zf)(x:Str):Bool:=sc.names.lookup x == some .local||sc.names.lookup x == some .cell
def TC:SV->Const->Bool
 | .non,.none=>true
 | .bl a,.bool b=>a == b
 | .int i,.int j=>decide (i=j)
 | .str x,.str y=>decide (x=y)
 | _,_=>false
def v7:Expr->Bool
 | .Slice ..=>false
 | _=>true
def Aa:Expr->Bool
 | .Set ..=>false
 | _=>true
def ND:Expr->Bool
 | .UnaryOp .Not _ _=>false
 | .BoolOp ..=>false
 | .IfExp ..=>false
 | .Compare ..=>false
 | _=>true
def AD:Expr->Bool
 | .Call (.Name _ _) [] [] _=>false
 | _=>true
def B9:Expr->Option Str
 | .Name x _=>some x
 | _=>none
def NE:Expr->Option Const
 | .Constant k _ _=>some k
 | _=>none
def V0:Expr->Option (Expr×A06×Expr)
 | .BinOp a o b _=>some (a,o,b)
 | _=>none
def vUn:Expr->Option (UnaryOp×Expr)
 | .UnaryOp o a _=>some (o,a)
 | _=>none
def Ps:Expr->Option (Expr×List CmpOp×List Expr)
 | .Compare a os bs _=>some (a,os,bs)
 | _=>none
def NF:Expr->Option (BoolOp×List Expr×Pos)
 | .BoolOp o vs p=>some (o,vs,p)
 | _=>none
def V1:Expr->Option (Expr×Expr×Expr)
 | .IfExp t a b _=>some (t,a,b)
 | _=>none
def DD:Expr->Option (List Expr)
 | .Tuple es _ _=>some es
 | _=>none
def V2:Expr->Option (List Expr)
 | .List es _=>some es
 | _=>none
def FW:Expr->Option (Expr×Expr)
 | .Subscript a b _=>some (a,b)
 | _=>none
def V3:Expr->Option (Option Expr×Option Expr×Option Expr)
 | .Slice l h s _=>some (l,h,s)
 | _=>none
def Do:Expr->Option (Expr×List Expr×List Keyword)
 | .Call f as ks _=>some (f,as,ks)
 | _=>none
def IY:Expr->Nat
 | .Call _ _ _ p=>p.line
 | _=>0
def NG:Expr->Option (Expr×Str×Nat)
 | .Attribute o n p=>some (o,n,p.endLine)
 | _=>none
def NH:Expr->Option (Expr×List Comprehension×Zf)
 | .ListComp e gs s _=>some (e,gs,s)
 | _=>none
def Jj:Expr->Option (List (Option Expr)×List Expr)
 | .Dict ks vs _=>some (ks,vs)
 | _=>none
theorem Dp{r:Expr}{x:List (Option Expr)×List Expr}(h:Jj r=some x):∃ p,r = .Dict x.1 x.2 p:=by cases r<;>first | (cases h;exact⟨_,rfl⟩) | exact v9 h
theorem Ag{r:Expr}{x:Str}(h:B9 r=some x):∃ p,r = .Name x p:=by cases r<;>first | (cases h;exact⟨_,rfl⟩) | exact v9 h
theorem L6{r:Expr}{x:Const}(h:NE r=some x):∃ j p,r = .Constant x j p:=by cases r<;>first | (cases h;exact⟨_,_,rfl⟩) | exact v9 h
theorem Pt{r:Expr}{x:Expr×A06×Expr}(h:V0 r=some x):∃ p,r = .BinOp x.1 x.2.1 x.2.2 p:=by cases r<;>first | (cases h;exact⟨_,rfl⟩) | exact v9 h
theorem NI{r:Expr}{x:UnaryOp×Expr}(h:vUn r=some x):∃ p,r = .UnaryOp x.1 x.2 p:=by cases r<;>first | (cases h;exact⟨_,rfl⟩) | exact v9 h
theorem FX{r:Expr}{x:Expr×List CmpOp×List Expr}(h:Ps r=some x):∃ p,r = .Compare x.1 x.2.1 x.2.2 p:=by cases r<;>first | (cases h;exact⟨_,rfl⟩) | exact v9 h
theorem Gg{r:Expr}{x:BoolOp×List Expr×Pos}(h:NF r=some x):r = .BoolOp x.1 x.2.1 x.2.2:=by cases r<;>first | (cases h;exact rfl) | exact v9 h
theorem Pu{r:Expr}{x:Expr×Expr×Expr}(h:V1 r=some x):∃ p,r = .IfExp x.1 x.2.1 x.2.2 p:=by cases r<;>first | (cases h;exact⟨_,rfl⟩) | exact v9 h
theorem At{r:Expr}{x:List Expr}(h:DD r=some x):∃ j p,r = .Tuple x j p:=by cases r<;>first | (cases h;exact⟨_,_,rfl⟩) | exact v9 h
theorem Pv{r:Expr}{x:List Expr}(h:V2 r=some x):∃ p,r = .List x p:=by cases r<;>first | (cases h;exact⟨_,rfl⟩) | exact v9 h
theorem Au{r:Expr}{x:Expr×Expr}(h:FW r=some x):∃ p,r = .Subscript x.1 x.2 p:=by cases r<;>first | (cases h;exact⟨_,rfl⟩) | exact v9 h
theorem Pw{r:Expr}{x:Option Expr×Option Expr×Option Expr}(h:V3 r=some x):∃ p,r = .Slice x.1 x.2.1 x.2.2 p:=by cases r<;>first | (cases h;exact⟨_,rfl⟩) | exact v9 h
theorem Dq{r:Expr}{x:Expr×List Expr×List Keyword}(h:Do r=some x):∃ p,r = .Call x.1 x.2.1 x.2.2 p/\IY r=p.line:=by cases r<;>first | (cases h;exact⟨_,rfl,rfl⟩) | exact v9 h
theorem NJ{r:Expr}{x:Expr×Str×Nat}(h:NG r=some x):∃ p,r = .Attribute x.1 x.2.1 p/\x.2.2=p.endLine:=by cases r<;>first | (cases h;exact⟨_,rfl,rfl⟩) | exact v9 h
theorem Gh{r:Expr}{x:Expr×List Comprehension×Zf}(h:NH r=some x):∃ p,r = .ListComp x.1 x.2.1 x.2.2 p:=by cases r<;>first | (cases h;exact⟨_,rfl⟩) | exact v9 h
theorem c8{α:Type}{o:Option α}{p:α->Bool}(h:o.any p=true):∃ x,o=some x/\p x=true:=by
 cases o with
 | none=>cases h
 | some x=>exact⟨x,rfl,h⟩
theorem Av{α:Type}{l:List α}{x:α}(h:l.head?=some x):l=x::l.tail:=by
 cases l with
 | nil=>cases h
 | cons y r=>cases h;rfl
def l1{α:Type}:List α->Option α
 | [x]=>some x
 | _=>none
def l2{α:Type}:List α->Option (α×α)
 | [x,y]=>some (x,y)
 | _=>none
theorem AK{α:Type}{l:List α}{x:α}(h:l1 l=some x):l=[x]:=by
 match l,h with
 | [y],h=>cases h;rfl
theorem CV{α:Type}{l:List α}{x:α×α}(h:l2 l=some x):l=[x.1,x.2]:=by
 match l,h with
 | [y,z],h=>cases h;rfl
def l3{α:Type}:List α->Option (α×α×α)
 | [x,y,z]=>some (x,y,z)
 | _=>none
def Px(r:Expr):Option (Str×List Expr×Keyword):=(Do r).bind λc=>match c.2.2 with
 | [kw]=>(B9 c.1).map λx=>(x,c.2.1,kw)
 | _=>none
theorem Jk{r:Expr}{x:Str×List Expr×Keyword}(h:Px r=some x):∃ p q,r = .Call (.Name x.1 p) x.2.1 [x.2.2] q:=by
 unfold Px at h;cases hc:Do r with
 | none=>rw[hc]at h;cases h
 | some c=>
   rw[hc]at h;obtain⟨q,e,_⟩:=Dq hc;obtain⟨f,as,ks⟩:=c
   match ks,h with
   | [kw],h=>
     replace h:(B9 f).map (λx=>(x,as,kw))=some x:=h;cases hn:B9 f with
     | none=>rw[hn]at h;cases h
     | some nm=>
       rw[hn]at h;cases h;obtain⟨p,e2⟩:=Ag hn;exact⟨p,q,by rw[e,e2]⟩
   | [],h=>cases h
   | _::_::_,h=>cases h
def vFn(r:Expr):Option (Str×List Expr):=(Do r).bind λc=>if c.2.2.isEmpty then (B9 c.1).map λx=>(x,c.2.1) else none
theorem Bg{r:Expr}{x:Str×List Expr}(h:vFn r=some x):∃ p q,r = .Call (.Name x.1 p) x.2 [] q:=by
 unfold vFn at h;cases hc:Do r with
 | none=>rw[hc]at h;cases h
 | some c=>
   rw[hc]at h;obtain⟨q,e,_⟩:=Dq hc;simp only[YG]at h;by_cases hk:c.2.2.isEmpty=true
   ·rw[iP hk]at h;cases hn:B9 c.1 with
    | none=>rw[hn]at h;cases h
    | some y=>
      rw[hn]at h;cases h;obtain⟨p,ep⟩:=Ag hn;rw[e,ep,Wc.mp hk];exact⟨p,q,rfl⟩
   ·rw[iG hk]at h;cases h
def vMt(r:Expr):Option (Expr×Str×List Expr):=(Do r).bind λc=>if c.2.2.isEmpty then (NG c.1).bind λa=>if a.2.2 == IY r then some (a.1,a.2.1,c.2.1) else none else none
theorem Dr{r:Expr}{x:Expr×Str×List Expr}(h:vMt r=some x):∃ ap cp,r = .Call (.Attribute x.1 x.2.1 ap) x.2.2 [] cp/\(ap.endLine == cp.line)=true:=by
 unfold vMt at h;cases hc:Do r with
 | none=>rw[hc]at h;cases h
 | some c=>
   rw[hc]at h;obtain⟨q,e,el⟩:=Dq hc;simp only[YG]at h;by_cases hk:c.2.2.isEmpty=true
   ·rw[iP hk]at h;cases hn:NG c.1 with
    | none=>rw[hn]at h;cases h
    | some y=>
      rw[hn]at h;simp only[YG]at h;obtain⟨p,ep,el2⟩:=NJ hn;by_cases hl:(y.2.2 == IY r)=true
      ·rw[iP hl]at h;cases h;refine⟨p,q,?_,?_⟩
       ·rw[e,ep,Wc.mp hk]
       ·rw[<-el2,<-el];exact hl
      ·rw[iG hl]at h;cases h
   ·rw[iG hk]at h;cases h
mutual
noncomputable def Bh(k:Nat)(N:List Str)(sc:Zf):Tg->Expr->Bool
 | .nm i,r=>(B9 r).any λx=>decide (i<k)&&decide (N[i]?=some x)&&loc sc x
 | .tup ts,r=>(DD r).any λes=>Ai k N sc ts es
noncomputable def Ai(k:Nat)(N:List Str)(sc:Zf):Tgs->List Expr->Bool
 | .nil,r=>r.isEmpty
 | .cons t ts,r=>(r.head?).any λe=>Bh k N sc t e&&i4 e&&Ai k N sc ts r.tail
end
def nmB(N:List Str)(sc:Zf)(i:Nat)(x:Str):Bool:=decide (N[i]?=some x)&&vis sc x&&!(x == ("__debug__":Str))&&!(x == ("__classdict__":Str))
mutual
noncomputable def k8(T:List Str)(N:List Str)(sc:Zf):Ex->Expr->Bool
 | .var i,r=>(B9 r).any λx=>nmB N sc i x
 | .c x,r=>(NE r).any λk=>TC x k
 | .op o a b,r=>(V0 r).any λv=>decide (o=v.2.1)&&k8 T N sc a v.1&&k8 T N sc b v.2.2
 | .neg a,r=>(vUn r).any λv=>decide (v.1 = .USub)&&k8 T N sc a v.2
 | .cmp o a b,r=>(Ps r).any λv=>(l1 v.2.2).any λrb=>decide (v.2.1=[o])&&k8 T N sc a v.1&&k8 T N sc b rb&&Aa rb
 | .chn o p a b c,r=>(Ps r).any λv=>(l2 v.2.2).any λrs=>decide (v.2.1=[o,p])&&k8 T N sc a v.1&&k8 T N sc b rs.1&&k8 T N sc c rs.2&&Aa rs.2
 | .and a b,r=>(NF r).any λv=>decide (v.1 = .And)&&(v.2.1.head?).any λx=>k8 T N sc a x&&(match l1 v.2.1.tail with | some y=>k8 T N sc b y | none=>decide (2<=v.2.1.tail.length)&&k8 T N sc b (.BoolOp .And v.2.1.tail v.2.2))
 | .or a b,r=>(NF r).any λv=>decide (v.1 = .Or)&&(v.2.1.head?).any λx=>k8 T N sc a x&&(match l1 v.2.1.tail with | some y=>k8 T N sc b y | none=>decide (2<=v.2.1.tail.length)&&k8 T N sc b (.BoolOp .Or v.2.1.tail v.2.2))
 | .not a,r=>(vUn r).any λv=>decide (v.1 = .Not)&&k8 T N sc a v.2
 | .ife t a b,r=>(V1 r).any λv=>k8 T N sc t v.1&&k8 T N sc a v.2.1&&k8 T N sc b v.2.2
 | .tup es,r=>(DD r).any λrs=>BA T N sc es rs
 | .lst es,r=>(V2 r).any λrs=>BA T N sc es rs
 | .ix a b,r=>(FW r).any λv=>k8 T N sc a v.1&&k8 T N sc b v.2&&v7 v.2
 | .slc a lo hi,r=>(FW r).any λv=>(V3 v.2).any λs=>k8 T N sc a v.1&&NK T N sc lo s.1&&NK T N sc hi s.2.1&&s.2.2.isNone
 | .call f es,r=>(vFn r).any λv=>decide (T[f]?=some v.1)&&glo sc v.1&&BA T N sc es v.2&&!v.2.isEmpty
 | .bi b es,r=>(vFn r).any λv=>decide (b.name=v.1)&&glo sc v.1&&BA T N sc es v.2&&!v.2.isEmpty
 | .mt m a es,r=>(vMt r).any λv=>decide (v.2.1=m.name)&&AD v.1&&decide (v.2.2.length<29)&&k8 T N sc a v.1&&BA T N sc es v.2.2
 | .comp own cn js g it t e,r=>(NH r).any λv=>(l1 v.2.1).any λc=>decide (c.is_async=0)&&AR sc v.2.2 own cn N js&&Bh own.length (own++cn) (Gf v.2.2 sc) g c.target&&Py T N sc it c.target c.iter&&Aa c.iter&&Gi T (own++cn) (Gf v.2.2 sc) t c.ifs&&k8 T (own++cn) (Gf v.2.2 sc) e v.1
 | .tyc t,r=>(B9 r).any λx=>decide (x=Str.ofString t.nm)&&glo sc x&&decide (t ≠ .none)
 | .sum2 a,r=>(vFn r).any λv=>(l1 v.2).any λra=>decide (v.1=("sum":Str))&&glo sc v.1&&k8 T N sc a ra&&i4 ra
 | .max1 a,r=>(vFn r).any λv=>(l1 v.2).any λra=>decide (v.1=("max":Str))&&glo sc v.1&&k8 T N sc a ra&&i4 ra
 | .dnewl,r=>(Jj r).any λv=>v.1.isEmpty&&v.2.isEmpty
 | .dget2l d e v,r=>(vMt r).any λu=>(l2 u.2.2).any λra=>decide (u.2.1=("get":Str))&&AD u.1&&k8 T N sc d u.1&&k8 T N sc e ra.1&&i4 ra.1&&k8 T N sc v ra.2&&i4 ra.2
 | .dvalsl a,r=>(vFn r).any λv=>(l1 v.2).any λz=>(vMt z).any λu=>decide (v.1=("list":Str))&&glo sc v.1&&decide (u.2.1=("values":Str))&&u.2.2.isEmpty&&AD u.1&&k8 T N sc a u.1
 | .setdi d e v,r=>(vMt r).any λu=>(l2 u.2.2).any λra=>decide (u.2.1=("setdefault":Str))&&AD u.1&&k8 T N sc d u.1&&k8 T N sc e ra.1&&i4 ra.1&&k8 T N sc v ra.2&&i4 ra.2
 | .mind a d,r=>(Px r).any λv=>(l1 v.2.1).any λra=>decide (v.1=("min":Str))&&glo sc v.1&&k8 T N sc a ra&&k8 T N sc d v.2.2.value&&i4 ra&&decide (v.2.2.arg=some ("default":Str))
 | .setd d e v,r=>(vMt r).any λu=>(l2 u.2.2).any λra=>decide (u.2.1=("setdefault":Str))&&AD u.1&&k8 T N sc d u.1&&k8 T N sc e ra.1&&i4 ra.1&&k8 T N sc v ra.2&&i4 ra.2
 | .dnewp,r=>(Jj r).any λv=>v.1.isEmpty&&v.2.isEmpty
 | .maxd a d,r=>(Px r).any λv=>(l1 v.2.1).any λra=>decide (v.1=("max":Str))&&glo sc v.1&&k8 T N sc a ra&&k8 T N sc d v.2.2.value&&i4 ra&&decide (v.2.2.arg=some ("default":Str))
 | .eqp a b,r=>(Ps r).any λv=>(l1 v.2.2).any λrb=>decide (v.2.1=[.Eq])&&k8 T N sc a v.1&&k8 T N sc b rb&&Aa rb
 | .dnew,r=>(Jj r).any λv=>v.1.isEmpty&&v.2.isEmpty
 | .dget a b,r=>(FW r).any λv=>k8 T N sc a v.1&&k8 T N sc b v.2&&v7 v.2
 | .no,_=>true
noncomputable def BA(T:List Str)(N:List Str)(sc:Zf):Exs->List Expr->Bool
 | .nil,r=>r.isEmpty
 | .cons e es,r=>(r.head?).any λx=>k8 T N sc e x&&i4 x&&BA T N sc es r.tail
noncomputable def NK(T:List Str)(N:List Str)(sc:Zf):Eo->Option Expr->Bool
 | .no,r=>r.isNone
 | .yes e,r=>r.any λx=>k8 T N sc e x
noncomputable def Gi(T:List Str)(N:List Str)(sc:Zf):Eo->List Expr->Bool
 | .no,r=>r.isEmpty
 | .yes e,r=>(l1 r).any λx=>k8 T N sc e x
noncomputable def Py(T:List Str)(N:List Str)(sc:Zf):Itb->Expr->Expr->Bool
 | .seq e,_,r=>k8 T N sc e r
 | .rng1 a,_,r=>(vFn r).any λv=>(l1 v.2).any λra=>decide (v.1=("range":Str))&&glo sc v.1&&k8 T N sc a ra&&i4 ra
 | .enum e,tg,r=>(DD tg).isSome&&(vFn r).any λv=>(l1 v.2).any λa=>decide (v.1=("enumerate":Str))&&glo sc v.1&&k8 T N sc e a&&i4 a
 | .zip i j,tg,r=>(DD tg).isSome&&(vFn r).any λv=>(l2 v.2).any λa=>(B9 a.1).any λy=>(B9 a.2).any λz=>decide (v.1=("zip":Str))&&glo sc v.1&&nmB N sc i y&&nmB N sc j z
end
noncomputable def spS(K:Vl)(w:Sn):Sp:=λvs H Q _=>∃ as S xs,Ok K as H S/\RlAll K as H vs xs/\w xs S (Post K as H Q)
structure Cal(P:ZX)(w:Za)(K:Vl)(mg:Str->Option ZR)(base:Heap)(k:Nat)(x:Str)(ps:List Str)(sp:Sp):Prop where
 ex:∃ f fd,FnOk P w K mg base CX0 k f fd ps sp/\mg x=some (.ref f)/\PySem.W.keepIn K (.ref f)=true/\Binds K fd ps []
structure Cok(T:List Str)(Δ:Nat->Sn)(X:Cx)(k:Nat)(N:List Str)(sc:Zf):Prop where
 hN:X.N=N
 hs:X.env.scope=sc
 nd:N.Nodup
 calm:X.calm=true
 fn:∀ i x,i<k->N[i]?=some x->sc.names.lookup x=some .cell->X.fn x=true
 un:X.A.units+102<cLine
 bl:∀ b:BI,X.mg b.name=none
 rng:X.mg "range"=none
 enm:X.mg "enumerate"=none
 rvs:X.mg "reversed"=none
 zip:X.mg "zip"=none
 sm0:X.mg "sum"=none
 st0:X.mg "set"=none
 dc0:X.mg "dict"=none
 ty:∀ t:TyN,t ≠ .none->X.mg (Str.ofString t.nm)=none
 gd:X.A.guards=some []
 call:∀ f x,T[f]?=some x->∃ k ps,Cal X.prog X.w X.K X.mg X.base k x ps (spS X.K (Δ f))/\Room k X.A
 mono:∀ f,MonoN (Δ f)
structure Good(X:Cx)(r:Expr)(w:WE×WT):Prop where
 pe:PE X r (lift X.K w.1)
 pt:PT X r (liftT X.K w.2)
 m:Mono w.1
 mt:MonoT w.2
 pw:∀ op vs p,r = .BoolOp op vs p->PW X r (liftT X.K w.2)
section
variable{X:Cx}{r:Expr}{w:WE}
theorem MonoT.tru(m:Mono w):MonoT (Sy w):=λρ S P P' i h=>m _ _ _ _ (λx S' ⟨b,e,q⟩=>⟨b,e,i _ _ q⟩) h
theorem MonoT.bl(m:Mono w):MonoT (wBl w):=λρ S P P' i h=>m _ _ _ _ (λx S' ⟨b,e,q⟩=>⟨b,e,i _ _ q⟩) h
theorem TD{K:Vl}{as:List ZT}{H:Hp}{S:Sto}{x:SV}{v:V}{b:Bool}(ok:Ok K as H S)(r:Rl K as H v x)(e:Mz x S=some b):P6 K v H b:=by
 cases x with
 | bl c=>cases e;rw[rl_bl.mp r];exact rfl
 | tup xs=>
   cases e;obtain⟨p,vs,rfl,hp,rp⟩:=rl_tup.mp r;refine .inr (.inl ⟨vs,SqT.of hp,?_⟩);have:=rp.length;cases vs<;>cases xs<;>first | rfl | (simp at this)
 | loc k=>
   unfold Mz at e;cases hs:S[k]? with
   | none=>simp only[hs]at e;cases e
   | some o=>
     cases o with
     | lst xs=>
       simp only[hs]at e;cases e;obtain⟨a,vs,rfl,_,ha,rr⟩:=v3 ok r hs;refine .inl ⟨vs,SqL.of ha,?_⟩;have:=rr.length;cases vs<;>cases xs<;>first | rfl | (simp at this)
     | iset _=>simp only[hs]at e;cases e
     | dtl _=>simp only[hs]at e;cases e
     | dtf _ _ _=>simp only[hs]at e;cases e
     | dtp _=>simp only[hs]at e;cases e
     | dct _=>simp only[hs]at e;cases e
     | dcf _ _ _=>simp only[hs]at e;cases e
 | _=>cases e
theorem ET{env:Env}(h:ND r=true):∀ whole,isTrue r env whole=(do let v <- whole;standAt r.pos;holding [v] (truthy v)):=by
 intro whole;cases r<;>first | rfl | (cases h;done) | (rename_i o _ _;cases o<;>first | rfl | cases h)
theorem Pz{K:Vl}(m:Mono w):∀ σ H Q,liftT K (Sy w) σ H Q->lift K w σ H λx H'=>∃ k,P6 K x H' k/\Q k H':=by
 rintro σ H Q ⟨as,ρ,S,ok,en,h⟩;exact⟨as,ρ,S,ok,en,m _ _ _ _ (λx S' ⟨b,e,q⟩ as' H' v g ok' r=>⟨b,TD ok' r e,q as' H' g ok'⟩) h⟩
theorem IZ{K:Vl}(m:Mono w):∀ σ H Q,liftT K (wBl w) σ H Q->lift K w σ H λx H'=>∃ k,x = .bl k/\Q k H':=by
 rintro σ H Q ⟨as,ρ,S,ok,en,h⟩;exact⟨as,ρ,S,ok,en,m _ _ _ _ (λx S' ⟨b,e,q⟩ as' H' v g ok' r=>⟨b,by subst e;exact rl_bl.mp r,q as' H' g ok'⟩) h⟩
theorem Good.one(hp:PE X r (lift X.K w))(m:Mono w)(h:ND r=true):Good X r (tt1 w) where
 pe:=hp
 pt:=Dg _ (MJ hp (ET h)) (Pz m)
 m:=m
 mt := .tru m
 pw:=λop vs p e=>by rw[e]at h;cases h
theorem NL{X:Cx}{r:Expr}:PE X r (lift X.K λ_ _ _=>False):=λ_ _ _ _ _ _ h=>let ⟨_,_,_,_,_,z⟩:=h;z.elim
theorem Gj{X:Cx}{r:Expr}:PT X r (liftT X.K λ_ _ _=>False):=λ_ _ _ _ _ _ h=>let ⟨_,_,_,_,_,z⟩:=h;z.elim
theorem NM{X:Cx}{r:Expr}:PW X r (liftT X.K λ_ _ _=>False):=λ_ _ _ _ _ _ _ h=>let ⟨_,_,_,_,_,z⟩:=h;z.elim
theorem Good.never:Good X r (λ_ _ _=>False,λ_ _ _=>False):=⟨NL,Gj,λ_ _ _ _ _ h=>h,λ_ _ _ _ _ h=>h,λ_ _ _ _=>NM⟩
end
theorem Jl{o:A06}:Mono2 (sOp o):=by
 unfold sOp;split<;>first | exact .add | exact .int0 | exact .mul | exact .int | exact λ_ _ _ _ _ _ h=>h
theorem AY{o:CmpOp}:Mono2 (B8 o):=by
 unfold B8;split<;>first | exact .eq | exact .ne | exact .int0 | exact .in' | exact .isN
section
variable{X:Cx}
theorem NN{o:A06}{ra rb:Expr}{p:Pos}{wa wb:WE}(ha:PE X ra (lift X.K wa))(hb:PE X rb (lift X.K wb))(ma:Mono wa)(mb:Mono wb):PE X (.BinOp ra o rb p) (lift X.K (w2 (sOp o) wa wb)):=by
 have go:∀{s:S2} {rr:R2},Mono2 s->OpR X (A0e o) rr->Bd X.K s rr->PE X (.BinOp ra o rb p) (lift X.K (w2 s wa wb)):=λms ho sim=>j9 _ (UK ho ha hb) (BL sim ms ma mb);have no:PE X (.BinOp ra o rb p) (lift X.K (w2 (λ_ _ _ _=>False) wa wb)):=go (λ_ _ _ _ _ _ h=>h) (rr:=λ_ _ _ _=>False) (λ_ _ _ _ _ _ _ _ _ _ _ _ h=>h.elim) (λ_ _ _ _ _ _ _ _ _ _ _ h=>h);cases o with
 | Add=>exact go .add Pb Pc
 | Sub=>exact go .int0 SE (Be λ_ _ _ _=>rl_int.mpr rfl)
 | Mult=>exact go .mul (op_mul.or SU) Pd
 | FloorDiv=>exact go .int P5 (FJ λ_ _ _ _=>rl_int.mpr rfl)
 | Mod=>exact go .int SF (FJ λ_ _ _ _=>rl_int.mpr rfl)
 | Pow=>exact go .int SG (FJ λ_ _ _ _=>rl_int.mpr rfl)
 | _=>exact no
theorem Ds(o:CmpOp)(hu:X.A.units<cLine):∃ rr:R2,OpR X (Zg o) rr/\Bd X.K (B8 o) rr:=by
 cases o with
 | Eq=>exact⟨_,op_eq.or ((Sa hu).or (PZ hu)),Sq⟩
 | NotEq=>exact⟨_,op_ne.or (Sb hu),Sr⟩
 | Lt=>exact⟨_,UP,Be λ_ _ _ _=>rl_bl.mpr rfl⟩
 | LtE=>exact⟨_,UQ,Be λ_ _ _ _=>rl_bl.mpr rfl⟩
 | Gt=>exact⟨_,UR,Be λ_ _ _ _=>rl_bl.mpr rfl⟩
 | GtE=>exact⟨_,US,Be λ_ _ _ _=>rl_bl.mpr rfl⟩
 | Is=>exact⟨_,SJ,Pf⟩
 | IsNot=>exact⟨_,op_notN.or Ku,Mr⟩
 | In=>exact⟨_,Su,Mq⟩
 | NotIn=>exact⟨_,L0,Mq⟩
theorem Bi{o:CmpOp}{r:Expr}(h:Aa r=true):A0V o r=false:=by
 cases r<;>first | rfl | cases h
theorem L8{o:CmpOp}{ra rb:Expr}{p:Pos}{wa wb:WE}(hu:X.A.units<cLine)(ha:PE X ra (lift X.K wa))(hb:PE X rb (lift X.K wb))(ma:Mono wa)(mb:Mono wb)(hn:Aa rb=true):Good X (.Compare ra [o] [rb] p) (tt2 (w2 (B8 o) wa wb)):=by
 obtain⟨rr,ho,sim⟩:=Ds (X:=X) o hu;have m:Mono (w2 (B8 o) wa wb) := .two AY ma mb
 exact{pe:=j9 _ (JL ho ha hb (Bi hn)) (BL sim AY ma mb)
       pt:=Dg _ (JM ho ha hb (Bi hn)) λσ H Q h=>BL sim AY ma mb σ H _ (IZ m σ H Q h)
       m:=m
       mt := .bl m
       pw:=λ_ _ _ e=>by cases e}
theorem Gk{o p:CmpOp}{a b c:WE}(ma:Mono a)(mb:Mono b)(mc:Mono c):Mono (N1 (B8 o) (B8 p) a b c):=λρ S P P' i h=>ma _ _ _ _ (λx S1 h=>mb _ _ _ _ (λy S2 h=>AY _ _ _ _ _ (λz S3 ⟨k,e,q⟩=>⟨k,e,by
 cases k with
 | true=>rw[iP rfl]at q ⊢;exact mc _ _ _ _ (λu S4 h=>AY _ _ _ _ _ i h) q
 | false=>rw[iG Vy]at q ⊢;exact i _ _ q⟩) h) h) h
theorem Jm{K:Vl}{o p:CmpOp}{r r':R2}{a b c:WE}(s1:Bd K (B8 o) r)(s2:Bd K (B8 p) r')(ma:Mono a)(mb:Mono b)(mc:Mono c):∀ σ H Q,lift K (N1 (B8 o) (B8 p) a b c) σ H Q->Hw r r' (lift K a) (lift K b) (lift K c) σ H Q:=by
 rintro σ H Q ⟨as,ρ,S,ok,en,h⟩;refine⟨as,ρ,S,ok,en,ma _ _ _ _ (λx S1 h as1 H1 v g1 ok1 rv=>?_) h⟩;refine⟨as1,ρ,S1,ok1,en.mono g1.pre (g1.ku ok),mb _ _ _ _ (λy S2 h as2 H2 u g2 ok2 ru=>?_) h⟩;refine s1 as2 H2 S2 x y v u _ ok2 (Rl.mono g2.pre (g2.ku ok1) x v rv) ru (AY _ _ _ _ _ (λz S3 ⟨k,e,q⟩ as3 H3 t g3 ok3 rt=>?_) h);subst e;refine⟨k,rl_bl.mp rt,?_⟩;cases k with
 | true=>
   rw[iP rfl]at q ⊢;refine⟨as3,ρ,S3,ok3,(en.mono g1.pre (g1.ku ok)).mono (g2.trans g3).pre ((g2.trans g3).ku ok1),mc _ _ _ _ (λn S4 h as4 H4 m g4 ok4 rm=>?_) q⟩;exact s2 as4 H4 S4 y n u m Q ok4 (Rl.mono (g3.trans g4).pre ((g3.trans g4).ku ok2) y u ru) rm (AY _ _ _ _ _ (λf S5 hf=>hf.mono (((g1.trans g2).trans g3).trans g4)) h)
 | false=>
   rw[iG Vy]at q ⊢;exact q as3 H3 _ ((g1.trans g2).trans g3) ok3 (rl_bl.mpr rfl)
theorem L9{o q:CmpOp}{ra rb rc:Expr}{p:Pos}{wa wb wc:WE}(hu:X.A.units<cLine)(ha:PE X ra (lift X.K wa))(hb:PE X rb (lift X.K wb))(hc:PE X rc (lift X.K wc))(ma:Mono wa)(mb:Mono wb)(mc:Mono wc)(hn:Aa rc=true):Good X (.Compare ra [o,q] [rb,rc] p) (tt2 (N1 (B8 o) (B8 q) wa wb wc)):=by
 obtain⟨r1,ho,sim⟩:=Ds (X:=X) o hu;obtain⟨r2,hq,sim2⟩:=Ds (X:=X) q hu;have m:Mono (N1 (B8 o) (B8 q) wa wb wc):=Gk ma mb mc;have hm:A1o [o,q] [rb,rc]=false:=Bi hn
 exact{pe:=j9 _ (MH ho hq ha hb hc hm) (Jm sim sim2 ma mb mc)
       pt:=Dg _ (MI ho hq ha hb hc hm) λσ H Q h=>Jm sim sim2 ma mb mc σ H _ (IZ m σ H Q h)
       m:=m
       mt := .bl m
       pw:=λ_ _ _ e=>by cases e}
end
section
variable{K:Vl}
theorem t9{c:Bool}{A B A' B':Prop}(ha:A->A')(hb:B->B')(h:if c=true then A else B):if c=true then A' else B':=by
 cases c with
 | true=>rw[iP rfl]at h ⊢;exact ha h
 | false=>rw[iG Vy]at h ⊢;exact hb h
theorem Mono.and{a b:WE}(ma:Mono a)(mb:Mono b):Mono (N0 a b):=λρ S P P' i h=>ma _ _ _ _ (λx S1 ⟨c,e,q⟩=>⟨c,e,t9 (mb _ _ _ _ i) (i _ _) q⟩) h
theorem Mono.or{a b:WE}(ma:Mono a)(mb:Mono b):Mono (wOr a b):=λρ S P P' i h=>ma _ _ _ _ (λx S1 ⟨c,e,q⟩=>⟨c,e,t9 (i _ _) (mb _ _ _ _ i) q⟩) h
theorem Mono.not{a:WE}(ma:Mono a):Mono (Po a):=λρ S P P' i h=>ma _ _ _ _ (λx S1 ⟨c,e,q⟩=>⟨c,e,i _ _ q⟩) h
theorem MonoT.and{a b:WT}(ma:MonoT a)(mb:MonoT b):MonoT (Dl a b):=λρ S P P' i h=>ma _ _ _ _ (λx S1 q=>t9 (mb _ _ _ _ i) (i _ _) q) h
theorem MonoT.or{a b:WT}(ma:MonoT a)(mb:MonoT b):MonoT (IS a b):=λρ S P P' i h=>ma _ _ _ _ (λx S1 q=>t9 (i _ _) (mb _ _ _ _ i) q) h
theorem MonoT.not{a:WT}(ma:MonoT a):MonoT (Jf a):=λρ S P P' i h=>ma _ _ _ _ (λx S1 q=>i _ _ q) h
theorem Mono.ifE{t:WT}{a b:WE}(mt:MonoT t)(ma:Mono a)(mb:Mono b):Mono (Pp t a b):=λρ S P P' i h=>mt _ _ _ _ (λx S1 q=>t9 (ma _ _ _ _ i) (mb _ _ _ _ i) q) h
theorem Post.at{as as1:List ZT}{H H1:Hp}{Q:VK}{x:SV}{S:Sto}{v:V}(h:Post K as H Q x S)(g:Go as H as1 H1)(ok:Ok K as1 H1 S)(r:Rl K as1 H1 v x):Q v H1:=h as1 H1 v g ok r
theorem Jn{a b:WE}(ma:Mono a)(mb:Mono b):∀ σ H Q,lift K (N0 a b) σ H Q->Qu (lift K a) (lift K b) σ H Q:=by
 rintro σ H Q ⟨as,ρ,S,ok,en,h⟩;refine⟨as,ρ,S,ok,en,ma _ _ _ _ (λx S1 ⟨c,e,q⟩ as1 H1 v g1 ok1 rv=>?_) h⟩;subst e;refine⟨c,rl_bl.mp rv,t9 (λq=>?_) (λq=>q.at g1 ok1 (rl_bl.mpr rfl)) q⟩;exact⟨as1,ρ,S1,ok1,en.mono g1.pre (g1.ku ok),mb _ _ _ _ (λy S2 h=>h.mono g1) q⟩
theorem NO{a b:WE}(ma:Mono a)(mb:Mono b):∀ σ H Q,lift K (wOr a b) σ H Q->U9 (lift K a) (lift K b) σ H Q:=by
 rintro σ H Q ⟨as,ρ,S,ok,en,h⟩;refine⟨as,ρ,S,ok,en,ma _ _ _ _ (λx S1 ⟨c,e,q⟩ as1 H1 v g1 ok1 rv=>?_) h⟩;subst e;refine⟨c,rl_bl.mp rv,t9 (λq=>q.at g1 ok1 (rl_bl.mpr rfl)) (λq=>?_) q⟩;exact⟨as1,ρ,S1,ok1,en.mono g1.pre (g1.ku ok),mb _ _ _ _ (λy S2 h=>h.mono g1) q⟩
theorem Q0{a:WE}(ma:Mono a):∀ σ H Q,lift K (Po a) σ H Q->Qv (lift K a) σ H Q:=by
 rintro σ H Q ⟨as,ρ,S,ok,en,h⟩;refine⟨as,ρ,S,ok,en,ma _ _ _ _ (λx S1 ⟨c,e,q⟩ as1 H1 v g1 ok1 rv=>?_) h⟩;subst e;exact⟨c,rl_bl.mp rv,q.at g1 ok1 (rl_bl.mpr rfl)⟩
theorem PostT.mono{as as1:List ZT}{H H1:Hp}{Q:Bool->Hp->Prop}{x:Bool}{S:Sto}(h:PostT K as H Q x S)(g:Go as H as1 H1):PostT K as1 H1 Q x S:=λas' H' g'=>h as' H' (g.trans g')
theorem Gm{a b:WT}(ma:MonoT a)(mb:MonoT b):∀ σ H Q,liftT K (Dl a b) σ H Q->U7 (liftT K a) (liftT K b) σ H Q:=by
 rintro σ H Q ⟨as,ρ,S,ok,en,h⟩;refine⟨as,ρ,S,ok,en,ma _ _ _ _ (λc S1 q as1 H1 g1 ok1=>?_) h⟩;refine t9 (λq=>?_) (λq=>q as1 H1 g1 ok1) q;exact⟨as1,ρ,S1,ok1,en.mono g1.pre (g1.ku ok),mb _ _ _ _ (λy S2 h=>h.mono g1) q⟩
theorem Jo{a b:WT}(ma:MonoT a)(mb:MonoT b):∀ σ H Q,liftT K (IS a b) σ H Q->tOr (liftT K a) (liftT K b) σ H Q:=by
 rintro σ H Q ⟨as,ρ,S,ok,en,h⟩;refine⟨as,ρ,S,ok,en,ma _ _ _ _ (λc S1 q as1 H1 g1 ok1=>?_) h⟩;refine t9 (λq=>q as1 H1 g1 ok1) (λq=>?_) q;exact⟨as1,ρ,S1,ok1,en.mono g1.pre (g1.ku ok),mb _ _ _ _ (λy S2 h=>h.mono g1) q⟩
theorem NP{a:WT}(ma:MonoT a):∀ σ H Q,liftT K (Jf a) σ H Q->U8 (liftT K a) σ H Q:=by
 rintro σ H Q ⟨as,ρ,S,ok,en,h⟩;exact⟨as,ρ,S,ok,en,ma _ _ _ _ (λc S1 q as1 H1 g1 ok1=>q as1 H1 g1 ok1) h⟩
theorem Q1{t:WT}{a b:WE}(mt:MonoT t)(ma:Mono a)(mb:Mono b):∀ σ H Q,lift K (Pp t a b) σ H Q->tIf (liftT K t) (lift K a) (lift K b) σ H Q:=by
 rintro σ H Q ⟨as,ρ,S,ok,en,h⟩;refine⟨as,ρ,S,ok,en,mt _ _ _ _ (λc S1 q as1 H1 g1 ok1=>?_) h⟩;refine t9 (λq=>?_) (λq=>?_) q
 ·exact⟨as1,ρ,S1,ok1,en.mono g1.pre (g1.ku ok),ma _ _ _ _ (λy S2 h=>h.mono g1) q⟩
 ·exact⟨as1,ρ,S1,ok1,en.mono g1.pre (g1.ku ok),mb _ _ _ _ (λy S2 h=>h.mono g1) q⟩
end
section
variable{X:Cx}
theorem FY{e:Expr}{t:TT}(t':TT)(h:PW X e t)(imp:∀ σ H Q,t' σ H Q->t σ H Q):PW X e t':=λwh pq s σ H Q I hw=>h wh pq s σ H Q I (imp σ H Q hw)
theorem Ia{x y:Expr}{p:Pos}{a b:WE×WT}(ha:Good X x a)(hb:Good X y b):Good X (.BoolOp .And [x,y] p) (N0 a.1 b.1,Dl a.2 b.2):=
 have pw:PW X (.BoolOp .And [x,y] p) (liftT X.K (Dl a.2 b.2)):=FY _ (M4 ha.pt (Ov hb.pt)) (Gm ha.mt hb.mt)
 {pe:=j9 _ (M6 ha.pe (M5 hb.pe)) (Jn ha.m hb.m),pt:=pw.pt,m := .and ha.m hb.m,mt := .and ha.mt hb.mt,pw:=λ_ _ _ _=>pw}
theorem Ib{x y z:Expr}{zs:List Expr}{p:Pos}{a b:WE×WT}(ha:Good X x a)(hb:Good X (.BoolOp .And (y::z::zs) p) b):Good X (.BoolOp .And (x::y::z::zs) p) (N0 a.1 b.1,Dl a.2 b.2):=
 have pw:PW X (.BoolOp .And (x::y::z::zs) p) (liftT X.K (Dl a.2 b.2)):=FY _ (M4 ha.pt (hb.pw _ _ _ rfl)) (Gm ha.mt hb.mt)
 {pe:=j9 _ (M6 ha.pe hb.pe) (Jn ha.m hb.m),pt:=pw.pt,m := .and ha.m hb.m,mt := .and ha.mt hb.mt,pw:=λ_ _ _ _=>pw}
theorem LA{x y:Expr}{p:Pos}{a b:WE×WT}(ha:Good X x a)(hb:Good X y b):Good X (.BoolOp .Or [x,y] p) (wOr a.1 b.1,IS a.2 b.2):=
 have pw:PW X (.BoolOp .Or [x,y] p) (liftT X.K (IS a.2 b.2)):=FY _ (Qt ha.pt (Ru hb.pt)) (Jo ha.mt hb.mt)
 {pe:=j9 _ (Qw ha.pe (M5 hb.pe)) (NO ha.m hb.m),pt:=pw.pt,m := .or ha.m hb.m,mt := .or ha.mt hb.mt,pw:=λ_ _ _ _=>pw}
theorem LB{x y z:Expr}{zs:List Expr}{p:Pos}{a b:WE×WT}(ha:Good X x a)(hb:Good X (.BoolOp .Or (y::z::zs) p) b):Good X (.BoolOp .Or (x::y::z::zs) p) (wOr a.1 b.1,IS a.2 b.2):=
 have pw:PW X (.BoolOp .Or (x::y::z::zs) p) (liftT X.K (IS a.2 b.2)):=FY _ (Qt ha.pt (hb.pw _ _ _ rfl)) (Jo ha.mt hb.mt)
 {pe:=j9 _ (Qw ha.pe hb.pe) (NO ha.m hb.m),pt:=pw.pt,m := .or ha.m hb.m,mt := .or ha.mt hb.mt,pw:=λ_ _ _ _=>pw}
theorem LC{x:Expr}{p:Pos}{a:WE×WT}(ha:Good X x a):Good X (.UnaryOp .Not x p) (Po a.1,Jf a.2) where
 pe:=j9 _ (Rw ha.pe) (Q0 ha.m)
 pt:=Dg _ (Rv ha.pt) (NP ha.mt)
 m := .not ha.m
 mt := .not ha.mt
 pw:=λ_ _ _ e=>by cases e
theorem LD{t x y:Expr}{p:Pos}{c a b:WE×WT}(hc:Good X t c)(ha:Good X x a)(hb:Good X y b):Good X (.IfExp t x y p) (Pp c.2 a.1 b.1,λ_ _ _=>False) where
 pe:=j9 _ (M7 hc.pt ha.pe hb.pe) (Q1 hc.mt ha.m hb.m)
 pt:=Gj
 m := .ifE hc.mt ha.m hb.m
 mt:=λ_ _ _ _ _ h=>h
 pw:=λ_ _ _ e=>by cases e
theorem TF{i:Nat}{x:Str}{p:Pos}{N:List Str}{sc:Zf}{T:List Str}{Δ:Nat->Sn}{k:Nat}(C:Cok T Δ X k N sc)(hi:N[i]?=some x)(hv:vis sc x=true)(h1:(x == ("__debug__":Str))=false)(h2:(x == ("__classdict__":Str))=false):PE X (.Name x p) (GF i):=by
 have hv':Vis X.env.scope x:=by
  rw[C.hs];unfold vis at hv;simp only[Wg,beq_iff_eq]at hv;rcases hv with(hv | hv) | hv
  ·exact .inl hv
  ·exact .inr (.inl hv)
  ·exact .inr (.inr hv)
 exact Rq (i:=i) (by rw[C.hN];exact hi) hv' h1 h2
theorem Q2{x:SV}{k:Const}{j:Nat}{p:Pos}(h:TC x k=true):Good X (.Constant k j p) (tt1 (wC x)):=by
 refine .one ?_ .c rfl;unfold TC at h;split at h
 ·exact j9 _ Rs (GW λ_ _=>rl_non.mpr rfl)
 ·rw[beq_iff_eq]at h;subst h;exact j9 _ U6 (GW λ_ _=>rl_bl.mpr rfl)
 ·have h:=of_decide_eq_true h;subst h;exact j9 _ Rr (GW λ_ _=>rl_int.mpr rfl)
 ·have h:=of_decide_eq_true h;subst h;exact j9 _ Rt (GW λ_ _=>rl_str.mpr rfl)
 ·cases h
theorem Dt:GV My:=λx S P P' i h=>by
 unfold My at h ⊢;split at h
 ·exact i _ _ h
 ·exact h.elim
theorem LF{x:Expr}{p:Pos}{a:WE×WT}(ha:Good X x a):Good X (.UnaryOp .USub x p) (tt1 (w1 My a.1)):=by
 refine .one (j9 _ (UL SH ha.pe) (Si (λas H S x v Q ok r h=>?_) Dt ha.m)) (.one Dt ha.m) rfl;unfold My at h;split at h
 ·exact⟨_,rl_int.mp r,h.here ok (rl_int.mpr rfl)⟩
 ·exact h.elim
theorem Du{b:Expr}(h:v7 b=true):JS b:=λo i=>by cases b<;>first | rfl | cases h
theorem NQ{x y:Expr}{p:Pos}{a b:WE×WT}(ha:Good X x a)(hb:Good X y b)(h:v7 y=true):Good X (.Subscript x y p) (tt1 (w2 sIx a.1 b.1)):=
 .one (j9 _ (UY (ix_list.or SR) ha.pe hb.pe (Du h)) (BL Sv .ix ha.m hb.m)) (.two .ix ha.m hb.m) rfl
def V4(K:Vl)(as:List ZT)(H:Hp)(Q:Option Int->Hp->Prop):Option Int->Sto->Prop:=λb S'=>∀ as' H',Go as H as' H'->Ok K as' H' S'->Q b H'
noncomputable def Gn(K:Vl)(w:WO):St->Hp->(Option Int->Hp->Prop)->Prop:=λσ H Q=>∃ as ρ S,Ok K as H S/\EnvOk K as H σ ρ/\w ρ S (V4 K as H Q)
def MonoO(w:WO):Prop:=∀ ρ S (P P':Option Int->Sto->Prop),(∀ x S',P x S'->P' x S')->w ρ S P->w ρ S P'
theorem MonoO.no:MonoO T4:=λ_ _ _ _ i h=>i _ _ h
theorem MonoO.yes{w:WE}(m:Mono w):MonoO (N2 w):=λ_ _ _ _ i h=>m _ _ _ _ (λx S1 ⟨k,e,q⟩=>⟨k,e,i _ _ q⟩) h
theorem V5:PO X none (Gn X.K T4):=λpq s σ H Q I ⟨as,ρ,S,ok,en,h⟩=>PB pq s σ H Q I (h as H (Go.refl _ _) ok)
theorem TH{x:Expr}{a:WE×WT}(ha:Good X x a):PO X (some x) (Gn X.K (N2 a.1)):=λpq s σ H Q I ⟨as,ρ,S,ok,en,h⟩=>
 PC ha.pe pq s σ H Q I ⟨as,ρ,S,ok,en,ha.m _ _ _ _ (λy S1 ⟨k,e,q⟩ as1 H1 v g1 ok1 rv=>⟨k,by subst e;exact rl_int.mp rv,q as1 H1 g1 ok1⟩) h⟩
theorem RlAll.cut{K:Vl}{as:List ZT}{H:Hp}{xs:List SV}{vs:List V}(h:RlAll K as H vs xs)(lo hi:Option Int):RlAll K as H (GH vs lo hi) (FS xs lo hi):=by
 unfold GH FS;rw[h.length];exact(h.drop _).take _
theorem Dv{x:SV}{lo hi:Option Int}{S:Sto}{P P':QE}(i:∀ x S',P x S'->P' x S')(h:N3 x lo hi S P):N3 x lo hi S P':=by
 unfold N3 at h ⊢;split at h
 ·obtain⟨xs,a,b⟩:=h;exact⟨xs,a,i _ _ b⟩
 ·exact i _ _ h
 ·exact h.elim
theorem Q3{K:Vl}{as:List ZT}{H:Hp}{S:Sto}{Q:VK}{x:SV}{v:V}{l k:Option Int}(ok:Ok K as H S)(r:Rl K as H v x)(h:N3 x l k S (Post K as H Q)):Ub K v l k H Q\/UX K v l k H Q\/Uj K v l k H Q:=by
 cases x with
 | loc j=>
   obtain⟨xs,h1,h2⟩:=h;obtain⟨b,vs,rfl,_,hb,rr⟩:=v3 ok r h1;exact .inl ⟨b,vs,rfl,SqL.of hb,Af ok (rr.cut l k) h2⟩
 | tup xs=>
   obtain⟨b,vs,rfl,hb,rr⟩:=rl_tup.mp r;by_cases hw:HT.sIx vs.length 0 l=0/\HT.sIx vs.length vs.length k=vs.length
   ·refine .inr (.inr ⟨b,vs,rfl,SqT.of hb,hw,?_⟩)
    have e:FS xs l k=xs:=by
     unfold FS;rw[<-rr.length,hw.1,hw.2,rr.length];simp
    have h':Post K as H Q (.tup (FS xs l k)) S:=h;rw[e]at h';exact h'.here ok r
   ·exact .inr (.inl ⟨b,vs,rfl,SqT.of hb,hw,CS ok (rr.cut l k) h⟩)
 | _=>exact False.elim h
theorem LG{x:Expr}{rl rh:Option Expr}{p p2:Pos}{a:WE×WT}{lo hi:WO}(ha:Good X x a)(hl:PO X rl (Gn X.K lo))(hh:PO X rh (Gn X.K hi))(ml:MonoO lo)(mh:MonoO hi):Good X (.Subscript x (.Slice rl rh none p2) p) (tt1 (T9 a.1 lo hi)):=by
 refine .one (j9 _ (MO (sl_list.or (sl_tup.or PQ)) ha.pe hl hh) ?_) (λρ S P P' i h=>ha.m _ _ _ _ (λx S1 h=>ml _ _ _ _ (λl S2 h=>mh _ _ _ _ (λk S3 h=>Dv i h) h) h) h) rfl;rintro σ H Q ⟨as,ρ,S,ok,en,h⟩;refine⟨as,ρ,S,ok,en,ha.m _ _ _ _ (λx S1 h as1 H1 v g1 ok1 rv=>?_) h⟩;refine⟨as1,ρ,S1,ok1,en.mono g1.pre (g1.ku ok),ml _ _ _ _ (λl S2 h as2 H2 g2 ok2=>?_) h⟩;refine⟨as2,ρ,S2,ok2,(en.mono g1.pre (g1.ku ok)).mono g2.pre (g2.ku ok1),mh _ _ _ _ (λk S3 h as3 H3 g3 ok3=>?_) h⟩;have rv3:=Rl.mono (g2.trans g3).pre ((g2.trans g3).ku ok1) x v rv;have g:=(g1.trans g2).trans g3;exact Q3 ok3 rv3 (Dv (λ_ _ h=>h.mono g) h)
end
end Rf
namespace L2
open PySem PySem.Spec PyProof.Rows
section
variable{prog:ZX}{w:Za}{A:Ze}{R:Result->ZS->Prop}{I:ZT}{fp wr:List ZT}{G:Array A1d->Array A1d->Prop}{n:Nat}{P:Nat->ZR->Prop}{St:Nat->ZS->Prop}
noncomputable def TupsAt(prog:ZX)(w:Za)(h:Heap)(n:Nat)(ta:Nat->ZT)(kv:Nat->Key×ZR):Prop:=∀ i,i<n->∃ key,(t3 prog w).is (kv i).1 key=true/\h.IsTuple (ta i) #[key,(kv i).2]
theorem TupsAt.keep{h h':Heap}{ta:Nat->ZT}{kv:Nat->Key×ZR}(t:TupsAt prog w h n ta kv)(k:∀ i o,i<n->h.get? (ta i)=some o->h'.get? (ta i)=some o):TupsAt prog w h' n ta kv:=λi hi=>by
 obtain⟨key,hk,o,ho,r⟩:=t i hi;exact⟨key,hk,o,k i o hi ho,r⟩
end
def Kpt(hb h:Heap):Prop:=∀ b o,hb.get? b=some o->h.get? b=some o
structure Sk(hb h:Heap)(a k:ZT)(ks xs:Array ZR)(e:Nat):Prop where
 a0:hb.get? a=none
 k0:hb.get? k=none
 ne:k≠a
 kp:Kpt hb h
 kk:∃ n,h.get? k=some (seqObj "list" ks n)
 aa:h.get? a=some (seqObj "list" xs e)
theorem Sk.grow{hb h h':Heap}{a k:ZT}{ks xs:Array ZR}{e:Nat}(S:Sk hb h a k ks xs e)(K:Kpt h h'):Sk hb h' a k ks xs e:=
 ⟨S.a0,S.k0,S.ne,λb o q=>K _ _ (S.kp b o q),S.kk.elim λn q=>⟨n,K _ _ q⟩,K _ _ S.aa⟩
theorem KV.at{κ:Type}{ks:List (κ×V)}{vs:List (κ×ZR)}(r:KV ks vs):∀{i:Nat} {p:κ×V},ks[i]?=some p->∃ v,vs[i]?=some (p.1,v)/\RelV p.2 v:=by
 intro i
 induction r generalizing i with
 | nil=>exact λh=>by simp at h
 | @cons a b _ _ h _ ih=>
   intro p hp;cases i with
   | zero=>cases hp;exact⟨b.2,by rw[h.1];rfl,h.2⟩
   | succ i=>exact ih hp
theorem KT.at{H:Hp}:∀{kvs:List (List Key×V)} {xs:List (List Key×ZT×ZR)},KT H kvs xs->∀{i:Nat} {p:List Key×V},kvs[i]?=some p->∃ q,xs[i]?=some q/\H q.2.1=some (.tup (p.1.map kV))
 | _,_,.nil,_,_,h=>by simp at h
 | _,_,.cons a t,0,p,h=>by simp at h;subst h;exact⟨_,rfl,a.2.1⟩
 | _,_,.cons a t,i+1,p,h=>by
   obtain⟨q,e,z⟩:=KT.at t (i:=i) (p:=p) (by simpa using h);exact⟨q,by simpa using e,z⟩
section
variable{X:Cx}{o e f:Expr}{apos cpos:Pos}{td ty tx:TE}
def TJ(td ty tx:TE):TE:=λσ H Q=>td σ H λx H1=>∃ a,x = .ref a/\IsD H1 a/\ty σ H1 λy H2=>tx σ H2 λz H3=>∃ kvs k,y=kV k/\H3 a=some (.dK kvs)/\kvs.length<ZW/\
 (∀ v,A8 kvs k=some v->Q v H3)/\(A8 kvs k=none->Q z (upd H3 a (.dK (Aq kvs k z))))
theorem NR(ho:PE X o td)(he:PE X e ty)(hf:PE X f tx)(m:M2 X o "setdefault" apos e f cpos):PE X (.Call (.Attribute o "setdefault" apos) [e,f] [] cpos) (TJ td ty tx):=by
 intro pq s σ H Q I h;refine A0B m.base m.few m.line PySem.F.plainAttrs_dict PySem.F.slot_dict_setdefault PySem.F.type_dict_setdefault (thn (ho pq s σ H _ I h) λu s1 ⟨x,H1,I1,rx,a,ex,d,q1⟩=>?_);subst ex;obtain rfl:u=Value.ref a:=rx;obtain⟨t1,t2,_⟩:=IJ I1 d;refine⟨t1,t2,?_⟩;rw[m.trees]
 refine Calls.callWith_builtin rfl (Calls.evalArgs_plain (Calls.spliced_cons (thn (he pq s1 σ H1 _ I1 q1) λiv s2 ⟨y,H2,I2,ry,q2⟩=>
  Calls.spliced_cons (thn (hf pq s2 σ H2 _ I2 q2) λfv s3 ⟨z,H3,I3,rz,kvs,k,ey,ha,hz,qs,qn⟩=>Calls.spliced_nil ?_))))
 subst ey;obtain⟨hl,hd,vs,rel,dd⟩:=R4 I3.hok ha;refine A0r PySem.F.slot_dict_setdefault dd.typeIs PySem.F.entry_dict_setdefault (PySem.F.args_dict_setdefault_3 _ _ _) (kt_meets_setdefault (t3 X.prog X.w) a (GP ry) hd fv) ⟨vs,dd,by rw[<-rel.length];exact hl,λv e=>?_,λe h' dd' hs=>?_⟩
 ·have rv:=rel.val k;rw[e]at rv;cases hv:A8 kvs k with
  | none=>rw[hv]at rv;exact rv.elim
  | some w=>rw[hv]at rv;exact⟨w,H3,I3.tok _,rv,qs w hv⟩
 ·have hv:A8 kvs k=none:=by
   have rv:=rel.val k;rw[e]at rv;cases hv:A8 kvs k with
   | none=>rfl
   | some v=>rw[hv]at rv;exact rv.elim
  refine⟨z,_,?_,rz,qn hv⟩;have hl2:(Aq kvs k z).length<=ZW:=by have:=As kvs k z;omega
  have he:∃ q,h'.get? a=some q:=let ⟨q,_,_,hq,_⟩:=dd';⟨q,hq⟩
  exact DH I3 (by rw[ha];exact True.intro) hs he (Mc hl2 hd (rel.put k rz) dd')
end
section
variable{X:Cx}
theorem Jp(hu:X.A.units<cLine):OpR X (Zg .Eq) (λx y H Q=>∃ a b,∃ i j k l:Int,x = .ref a/\y = .ref b/\SqT X.K H a [.int i,.int j]/\SqT X.K H b [.int k,.int l]/\Q (.bl (decide (i=k/\j=l))) H):=by
 intro pq s σ H x y v u Q I rx ry h;obtain⟨a,b,i,j,k,l,rfl,rfl,h1,h2,q⟩:=h;cases rx;cases ry;obtain⟨its1,r1,p1,_⟩:=I.tuple h1;obtain⟨its2,r2,p2,_⟩:=I.tuple h2;have l1:=r1.length;have l2:=r2.length;refine(SeqAt.RcAt.tuples (A:=X.A) (s:=s) (e:=λm=>eqV (([.int i,.int j]:List V).getD m .non) (([.int k,.int l]:List V).getD m .non)) p1 p2 hu (CB r1 r2 (.inl ⟨rfl,rfl⟩))) _ _ _ _ ⟨.bl _,H,I,?_,q⟩;show Value.bool _=Value.bool _
 congr 1
 rw[Vw,Vw,<-l1,<-l2];show(List.all [0,1] _&&(2 == 2))=_;simp[eqV,Bool.decide_and,Bool.beq_eq_decide_eq]
end
end L2
namespace PySem
def DEn(h:Heap)(d:ZT)(es:Array A0a)(ep:Nat):Prop:=∃ o,h.get? d=some o/\o.ExactDict/\o.data = .dict es ep
theorem DEn.keep{h h':Heap}{d:ZT}{es:Array A0a}{ep:Nat}(x:DEn h d es ep)(k:∀ o,h.get? d=some o->h'.get? d=some o):DEn h' d es ep:=let ⟨o,e,r⟩:=x;⟨o,k o e,r⟩
theorem DEn.lt{h:Heap}{d:ZT}{es:Array A0a}{ep:Nat}(x:DEn h d es ep):d<h.objs.size:=let ⟨_,e,_⟩:=x;Vv e
section
variable{prog:ZX}{w:Za}{A:Ze}{E:ZR->ZS->Prop}{s:ZS}
theorem DE{v d:ZT}{es:Array A0a}{ep:Nat}{Q:ZR->ZS->Prop}(hv:s.heap.IsValuesView v d)(hm:DEn s.heap d es ep)
 (hQ:Q (.ref s.heap.objs.size) {s with heap:=s.heap.push {cls := .type "dict_valueiterator",data := .fields #[.ref d,.int 0 0,.int es.size 0,.int ep 0]}}):ZV (ZY prog w) A (pyIter (.ref v)) Q E s:=by
 obtain⟨ov,hov,_,hdv⟩:=id hv;obtain⟨o,ho,_,hdat⟩:=id hm;refine wpAny_pyIter_slot hv.typeIs F.slot_dict_values_iter (Zm F.slot_dict_values_iter hv.typeIs F.entry_dict_values_iter ?_ (F.args_dict_values_iter_1 _));unfold Builtin.«dict_values.__iter__»;refine ZQ (ZU (ZQ ?_));unfold Builtin.Dict_items.dictOf;refine ZQ (Zk hov hdv (x := .ref d) rfl (ZU (ZQ ?_)));unfold Builtin.Dict_items.newIterator;refine ZQ (A0l ho hdat (ZQ (A0N ho hdat ?_)));simp only[show Builtin.Dict_items.ownsTuple "dict_valueiterator"=false by decide,X3,if_false];refine Zd (ZU ⟨_,rfl,"dict_valueiterator",_,⟨_,W3 _ rfl,rfl⟩,F.slot_dict_valueiterator_next.lookup,?_⟩);simpa[rawInt] using hQ
theorem Bj{it d:ZT}{i ep:Nat}{es:Array A0a}{e:A0a}{Q:Option ZR->ZS->Prop}(hit:s.heap.IsValIter it d i es.size ep)(hm:DEn s.heap d es ep)(hx:es[i]?=some e)
 (hQ:∀ h',h'.IsValIter it d (i+1) es.size ep->Ww it s.heap h'->Q (some e.val) {s with heap:=h'}):ZV (ZY prog w) A (pyNext (.ref it)) Q E s:=by
 obtain⟨o,ho,hc,hd⟩:=id hit;obtain⟨od,hod,_,hdd⟩:=id hm;have hlt:i<es.size:=(Xx.mp hx).1;have hval:es[i]=e:=(Xx.mp hx).2;unfold pyNext;refine ZQ (A0E (Zi (name:=Str.ofString "__next__") hit.typeIs F.slot_dict_valueiterator_next (Zm F.slot_dict_valueiterator_next hit.typeIs F.entry_dict_valueiterator_next ?_ (F.args_dict_valueiterator_next_1 _))));refine ZQ (ZU (ZQ (ZQ ?_)))
 first | refine ZQ (Zt hit.typeIs (ZU ?_)) | refine ZQ (A01 hit.typeIs (ZU ?_))
 refine ZQ (A1l ho hd ?_);simp only[show Builtin.Dict_items.ownsTuple "dict_valueiterator"=false by decide,X3,if_false];show ZV _ _ (if (Value.ref d == Value.none)=true then _ else _) _ _ s;rw[iG (show ¬ ((Value.ref d == Value.none)=true) from Vy)];refine ZQ (ZU (ZQ (A0l hod hdd ?_)));rw[iG (by simp)];refine ZQ (ZU (ZQ (A0N hod hdd ?_)));rw[iG (by simp)];refine ZU ?_;simp only[show ¬ ((i:Int)<0) from by omega,if_false,Ws,hx];refine ZQ ?_
 first | refine ZQ (Zt hit.typeIs (ZU ?_)) | refine ZQ (A01 hit.typeIs (ZU ?_))
 refine ZQ (A0m hit.typeIs ?_);show ZV _ _ (setField (.ref it) 1 (rawInt ((i:Int)+1)) >>= _) _ _ s;refine ZQ (A0x ho hd (by simp) ?_)
 have hit':(s.heap.update it (Obj.mapFields (·.setIfInBounds 1 (rawInt ((i:Int)+1))))).IsValIter it d (i+1) es.size ep:=
  ⟨_,Wr _ ho (Obj.isFreed_of_fields (Obj.data_mapFields hd _)),(Obj.cls_mapFields ..).trans hc,by rw[Obj.data_mapFields hd];simp[rawInt]⟩
 refine ZQ (Zn (ZQ (A0m (s:={s with heap:=s.heap.update it (Obj.mapFields (·.setIfInBounds 1 (rawInt ((i:Int)+1))))}) hit'.typeIs ?_)));refine ZQ (A0m (s:={s with heap:=s.heap.update it (Obj.mapFields (·.setIfInBounds 1 (rawInt ((i:Int)+1))))}) hit'.typeIs ?_);show ZV _ _ (pure e.val) _ _ _;exact ZU (ZU ⟨_,rfl,ZU (hQ _ hit' (Ww.update ..))⟩)
theorem C1{it d:ZT}{ep:Nat}{es:Array A0a}{Q:Option ZR->ZS->Prop}(hh:A.handled=none)(hit:s.heap.IsValIter it d es.size es.size ep)(hm:DEn s.heap d es ep)
 (hQ:∀ h',ZO it s.heap h'->Q none {s with heap:=h'}):ZV (ZY prog w) A (pyNext (.ref it)) Q E s:=by
 obtain⟨o,ho,hc,hd⟩:=id hit;obtain⟨od,hod,_,hdd⟩:=id hm;unfold pyNext;refine ZQ (A0E (Zi (name:=Str.ofString "__next__") hit.typeIs F.slot_dict_valueiterator_next (Zm F.slot_dict_valueiterator_next hit.typeIs F.entry_dict_valueiterator_next ?_ (F.args_dict_valueiterator_next_1 _))));refine ZQ (ZU (ZQ (ZQ ?_)))
 first | refine ZQ (Zt hit.typeIs (ZU ?_)) | refine ZQ (A01 hit.typeIs (ZU ?_))
 refine ZQ (A1l ho hd ?_);simp only[show Builtin.Dict_items.ownsTuple "dict_valueiterator"=false by decide,X3,if_false];show ZV _ _ (if (Value.ref d == Value.none)=true then _ else _) _ _ s;rw[iG (show ¬ ((Value.ref d == Value.none)=true) from Vy)];refine ZQ (ZU (ZQ (A0l hod hdd ?_)));rw[iG (by simp)];refine ZQ (ZU (ZQ (A0N hod hdd ?_)));rw[iG (by simp)];refine ZU ?_;simp only[show ¬ ((es.size:Int)<0) from by omega,if_false,Ws,Array.getElem?_eq_none (Vt es.size)];refine ZQ ?_
 first | refine ZQ (Zt hit.typeIs (ZU ?_)) | refine ZQ (A01 hit.typeIs (ZU ?_))
 show ZV _ _ (setField (.ref it) 0 .none >>= _) _ _ s;refine ZQ (A0x ho hd (by simp) ?_);show ZV _ _ (newExc (.type "StopIteration") [] >>= _) _ _ _;refine ZQ ?_;simp only[newExc,newTuple];refine ZQ (Zd ?_ (by size_fits));refine ZQ (m:=A0y _ _) (A0Q (a:=Value.none) (by first | rfl | (simp only[A0y];rfl)) ?_);refine Zd ?_ (by size_fits);simp only[raiseNew];refine ZQ (wpAny_handled ?_);rw[show A.in1.handled=none from hh];refine ZQ (ZU (wpAny_throw ?_));refine ZQ (A1a (T:="StopIteration") (b:=true) ⟨_,W3 _ rfl,rfl⟩ A1m ?_);exact ZU (hQ _ (((Ww.update ..).extBut.push _).push _))
theorem DF(hh:A.handled=none)(I d:ZT)(hne:d≠I)(es:Array A0a)(ep:Nat):
 Walks prog w A I [I,d] [I] es.size (λi v=>∃ e,es[i]?=some e/\e.val=v) (λi h=>h.IsValIter I d i es.size ep/\DEn h d es ep) where
 sub:=λb hb=>by simp at hb;simp[hb]
 frame:=λ_ _ _ st hk=>⟨st.1.at λo e=>hk I (by simp) o e,st.2.keep λo e=>hk d (by simp) o e⟩
 item:=λi s Q E hi st hQ=>by
  refine Bj (e:=es[i]) st.1 st.2 (by simp[hi]) λh' hit' hs'=>?_;exact hQ es[i].val h' s.toks ⟨es[i],by simp[hi],rfl⟩ ⟨hit',st.2.keep λo e=>hs'.extBut _ _ hne e⟩ λb o hb e=>hs'.extBut b o (λh=>hb (by simp[h])) e
 done:=λs Q E st hQ=>C1 hh st.1 st.2 λh' he'=>hQ h' s.toks λb o hb e=>he' b o (λh=>hb (by simp[h])) e
 self:=λ_ _ _ _ st hQ=>wpAny_pyIter_valiter st.1 hQ
end
theorem Dw{prog:ZX}{w:Za}{d r:ZT}{es:Array A0a}{ep:Nat}:PySem.W.KdlSrc prog w "dict_values" r d es.size (λi v=>∃ e,es[i]?=some e/\e.val=v) (λh=>h.IsValuesView r d/\DEn h d es ep) where
 type:=λ_ hm=>hm.1.typeIs
 there:=λ_ hm=>⟨let ⟨_,ho,_⟩:=hm.1;Vv ho,hm.2.lt⟩
 keep:=λ_ _ hm hk=>⟨let ⟨o,ho,x⟩:=hm.1;⟨o,hk r (.inl rfl) o ho,x⟩,hm.2.keep λo e=>hk d (.inr rfl) o e⟩
 notList:=by decide
 notTuple:=by decide
 hint:=λ_ _ _ _ hm hq=>PySem.W.kdl_hint_values hm.1.typeIs hq
 iter:=λ_ _ hh hm=>⟨_,_,(λ_ _ hq=>DE hm.1 hm.2 hq),DF hh _ d (W0 hm.2.lt) es ep,⟨⟨_,W3 _ rfl,rfl,rfl⟩,hm.2.keep λo e=>Vs _ e⟩⟩
theorem Cr{prog:ZX}{w:Za}(d:ZT)(hd:(d == Zo)=false):
 MeetsIn prog w (Builtin.«dict.values» ⟨[.ref d],[]⟩) (λ_ R s=>s.TypeIs (.ref d) "dict"/\R (.ok (.ret (.ref s.heap.objs.size))) {s with heap:=s.heap.push {cls := .type "dict_values",data := .fields #[.ref d]}}):=
 .of_wp λA R s ⟨hm,h⟩=>by
  refine ZQ ?_;unfold Builtin.Dict.noArgs;refine ZQ (A0O hm ?_);show ZV _ _ (pure d) _ _ s;refine ZU ?_;show ZV _ _ (Builtin.Dict.showsAll d >>= _) _ _ s;unfold Builtin.Dict.showsAll;rw[iG (by rw[hd];exact Vy)];exact ZQ (ZU (ZQ (Zd (ZU ⟨_,rfl,h⟩))))
end PySem
namespace L2
open PySem PySem.Spec PyProof.Rows
section
variable{X:Cx}{o:Expr}{apos cpos pos p:Pos}{td:TE}
def V6(td:TE):TE:=λσ H Q=>td σ H λx H1=>∃ a kvs,x = .ref a/\H1 a=some (.dT kvs)/\∀ p,H1 p=none->Q (.ref p) (upd H1 p (.lst (kvs.map (·.2))))
theorem DM{H:Hp}:∀{kvs:List (List Key×V)} {xs:List (List Key×ZT×ZR)},KT H kvs xs->Vals (kvs.map (·.2)) (xs.map λx=>x.2.2)
 | _,_,.nil => .nil
 | _,_,.cons h r => .cons h.2.2 (DM r)
theorem Q4(hc:X.calm=true)(hg:Gl X "list")(hm:X.mg "list"=none)(hv:Zb "list"=some (.type "list"))(ho:PE X o td)
 (hbase:A0f o "values" X.env (eval o X.env)=eval o X.env:=by rfl) (hline:(apos.endLine == cpos.line)=true:=by rfl)
 (he:Zc [.Call (.Attribute o "values" apos) [] [] cpos] X.env=[(false,eval (.Call (.Attribute o "values" apos) [] [] cpos) X.env)]:=by rfl):
 PE X (.Call (.Name "list" p) [.Call (.Attribute o "values" apos) [] [] cpos] [] pos) (V6 td):=by
 intro pq s σ H Q I h;refine A04 (BF I hg hm hv ?_);refine PyProof.Rows.callWith_type1 (rest:=[]) ?_ he rfl;rw[he];refine Calls.spliced_cons ?_;refine A0F hbase hline (thn (ho pq s σ H _ I h) λv s1 ⟨x,H1,I1,r1,a,kvs,e,hd,q⟩=>?_);subst e;cases r1;obtain⟨hz,hsm,xs,kt,hdo⟩:=Mb I1.hok hd;obtain⟨ob,es,ep,hob,hex,hdat,hes,_,_⟩:=id hdo;refine⟨"dict","dict.values",PySem.F.plainAttrs_dict,PySem.F.slot_dict_values,PySem.F.type_dict_values,⟨ob,hob,hex.1⟩,λb eb=>by cases eb;exact⟨ob,hob,hex.2.1⟩,Calls.callWith_builtin rfl (PySem.evalArgs_none ?_)⟩;refine A0r PySem.F.slot_dict_values ⟨ob,hob,hex.1⟩ PySem.F.entry_dict_values (PySem.F.args_dict_values_1 _) (Cr a hsm) ⟨⟨ob,hob,hex.1⟩,?_⟩;refine Calls.spliced_nil ?_
 have hsz:es.size=kvs.length:=by
  have e1:=congrArg Y6 hes;rw[XX,Vm]at e1;rw[e1];exact(by have:=(DM kt).length;simpa using this.symm)
 refine PySem.W.kdl_call (A:=X.A) (Dw (es:=es) (ep:=ep)) (I1.ok.hd hc) ⟨⟨_,W3 _ rfl,rfl,rfl⟩,ob,Vs _ hob,hex,hdat⟩ (by rw[hsz];exact hz) λh' tk acc c k hS hacc=>?_;have I2:Inv X pq σ H1 {s1 with heap:=s1.heap.push {cls := .type "dict_values",data := .fields #[.ref a]}}:=I1.kept (t':=s1.toks) λb ob q=>Vs _ q
 have hacc2:acc.toList=xs.map λx=>x.2.2:=by
  have hl:acc.toList.length=(xs.map λx=>x.2.2).length:=by
   rw[XX,hacc.1,hsz];have:=(DM kt).length;simpa using this
  refine XI λj=>?_;by_cases hj:j<acc.toList.length
  ·obtain⟨e1,he1,he2⟩:=hacc.2 j acc.toList[j] (by rw[<-YZ];simp[hj]);have hx:xs[j]?=some (xs[j]'(by rw[Vm]at hl;omega)):=by simp
   have he3:es.toList[j]?=some e1:=by rw[YZ];exact he1
   rw[hes,Vu,hx]at he3;cases he3;rw[Vu,hx];simp only[Vr hj,XA];exact congrArg some he2.symm
  ·rw[Wf (by omega),Wf (by omega)]
 refine⟨.ref _,upd H1 _ (.lst (kvs.map (·.2))),I2.laid (t':=tk) (o := .lst (kvs.map (·.2))) k (Vt _) ⟨by rw[Vm];exact hz,acc.toList,c,by rw[hacc2];exact DM kt,by rw[Array.toArray_toList];exact hS⟩,rfl,q _ (I2.hok.fresh (Vt _))⟩
end
end L2
namespace Rf
open PySem L2
structure GoodA(X:Cx)(rs:List Expr)(w:WA):Prop where
 pa:PA X rs (liftA X.K w)
 m:MonoA w
section
variable{X:Cx}
theorem LH:GoodA X [] Ei:=⟨PR,.nil⟩
theorem Ic{x:Expr}{xs:List Expr}{a:WE×WT}{b:WA}(ha:Good X x a)(hb:GoodA X xs b)(hs:i4 x=true):GoodA X (x::xs) (Dh a.1 b):=⟨Mj ha.m hb.m ha.pe hb.pa (j4 hs),.cons ha.m hb.m⟩
theorem LI{rs:List Expr}{j:Nat}{p:Pos}{w:WA}(h:GoodA X rs w):Good X (.Tuple rs j p) (tt1 (wn PV w)) := .one (j9 _ (SL h.pa) (PX h.m)) (.n .tup h.m) rfl
theorem LJ{rs:List Expr}{p:Pos}{w:WA}(h:GoodA X rs w):Good X (.List rs p) (tt1 (wn Mk w)) := .one (j9 _ (SM h.pa) (PY h.m)) (.n .lst h.m) rfl
theorem NS{K:Vl}{s:Sn}{w:WA}(ms:MonoN s)(m:MonoA w):∀ σ H Q,lift K (wn s w) σ H Q->R0 (spS K s) [] E0 (liftA K w) σ H Q:=by
 rintro σ H Q ⟨as,ρ,S,ok,en,h⟩;refine⟨as,ρ,S,ok,en,m _ _ _ _ (λxs S1 hs as1 H1 vs g1 ok1 rv=>?_) h⟩;show spS K s (vs++[]) H1 Q E0;rw[Wl];exact⟨as1,S1,xs,ok1,rv,ms _ _ _ _ (λz S3 hz=>hz.mono g1) hs⟩
theorem Id{T:List Str}{Δ:Nat->Sn}{k f:Nat}{N:List Str}{sc:Zf}{x:Str}{y:Expr}{ys:List Expr}{p q:Pos}{w:WA}(C:Cok T Δ X k N sc)(hf:T[f]?=some x)(hg:glo sc x=true)(h:GoodA X (y::ys) w)(hy:i4 y=true)(hs:ys.all i4=true):Good X (.Call (.Name x p) (y::ys) [] q) (tt1 (wn (Δ f) w)):=by
 obtain⟨d,ps,hC,hr⟩:=C.call f x hf;obtain⟨fa,fd,F,hm,hk,hb⟩:=hC.ex;unfold glo at hg;simp only[Vn,beq_iff_eq,WK]at hg;have gl:Gl X x:=by show X.env.scope.names.lookup x=_;rw[C.hs];exact hg.1.1
 exact .one (j9 _ (P8 F hr gl hm hk hb .nil Ue h.pa hg.2 (j4 hy) (CU hs)) (NS (C.mono f) h.m)) (.n (C.mono f) h.m) rfl
theorem V7:Zb "abs"=some (.builtin "abs"):=by decide +kernel
theorem RD:Zb "min"=some (.builtin "min"):=by decide +kernel
theorem NT:Zb "max"=some (.builtin "max"):=by decide +kernel
theorem V8:Zb "len"=some (.builtin "len"):=by decide +kernel
theorem V9:Zb "all"=some (.builtin "all"):=by decide +kernel
theorem RE:Zb "int"=some (.type "int"):=by decide +kernel
theorem Ie:Zb "list"=some (.type "list"):=by decide +kernel
theorem VA:Zb "isinstance"=some (.builtin "isinstance"):=by decide +kernel
theorem RF:Zb "str"=some (.type "str"):=by decide +kernel
theorem TK:Zb "bool"=some (.type "bool"):=by decide +kernel
theorem Jq:Zb "tuple"=some (.type "tuple"):=by decide +kernel
theorem TL:Zb "repr"=some (.builtin "repr"):=by decide +kernel
theorem NU{T:List Str}{Δ:Nat->Sn}{k:Nat}{N:List Str}{sc:Zf}{b:BI}{y:Expr}{ys:List Expr}{p q:Pos}{w:WA}(C:Cok T Δ X k N sc)(hg:glo sc b.name=true)(h:GoodA X (y::ys) w)(hy:i4 y=true)(hs:ys.all i4=true):Good X (.Call (.Name b.name p) (y::ys) [] q) (tt1 (wn (sBi b) w)):=by
 unfold glo at hg;simp only[Vn,beq_iff_eq,WK]at hg;have gl:Gl X b.name:=by show X.env.scope.names.lookup b.name=_;rw[C.hs];exact hg.1.1
 have hm:=C.bl b;have e1:=j4 (es:=ys) (env:=X.env) hy;have e2:=CU (env:=X.env) (pos:=q) hs;refine .one (j9 (t:=tCB (rBi X.K b) (liftA X.K w)) _ ?_ (Uq Sx .bi h.m)) (.n .bi h.m) rfl;cases b with
 | len=>exact w4 FC gl hm V8 h.pa (by decide) hg.2 e1 e2
 | abs=>exact w4 MK gl hm V7 h.pa (by decide) hg.2 e1 e2
 | min=>exact w4 (Kh C.calm) gl hm RD h.pa (by decide) hg.2 e1 e2
 | max=>exact w4 (Kg C.calm) gl hm NT h.pa (by decide) hg.2 e1 e2
 | int=>exact Bu Ki gl hm RE h.pa (by decide) hg.2 e1 e2
 | list=>exact Bu FD gl hm Ie h.pa (by decide) hg.2 e1 e2
 | tuple=>exact Bu EL gl hm Jq h.pa (by decide) hg.2 e1 e2
 | all=>exact w4 (Kr C.calm) gl hm V9 h.pa (by decide) hg.2 e1 e2
 | any=>exact w4 (Kw C.calm) gl hm Ul h.pa (by decide) hg.2 e1 e2
 | sorted=>exact w4 GN gl hm Ma h.pa (by decide) hg.2 e1 e2
 | isi=>exact w4 (call_isi1.or Kq) gl hm VA h.pa (by decide) hg.2 e1 e2
 | repr=>exact w4 (λ_ _ _ _ _ _ _ _ _ h=>False.elim h) gl hm TL h.pa (by decide) hg.2 e1 e2
 | str=>exact Bu (λ_ _ _ _ _ _ _ _ _ h=>False.elim h) gl hm RF h.pa (by decide) hg.2 e1 e2
theorem Mono.mt{m:MT}{a:WE}{b:WA}(ma:Mono a)(mb:MonoA b):Mono (wMt m a b):=λρ S P P' i h=>ma _ _ _ _ (λx S1 ⟨e,h⟩=>⟨e,mb _ _ _ _ (λxs S2 h=>FR _ _ _ _ i h) h⟩) h
theorem v4{ro:Expr}{nm:Str}{env:Env}{wh:Sem ZR}(h:AD ro=true):A0f ro nm env wh=wh:=by
 unfold A0f;split
 ·cases h
 ·rfl
theorem NV{K:Vl}{as:List ZT}{H:Hp}{S:Sto}{k:Nat}{v:V}{xs:List SV}(ok:Ok K as H S)(r:Rl K as H v (.loc k))(hs:S[k]?=some (.lst xs)):tyV K "list" v H:=by
 obtain⟨a,vs,rfl,_,h1,_⟩:=v3 ok r hs;exact .inl ⟨rfl,_,SqL.of h1⟩
theorem TM{K:Vl}{m:MT}{a:WE}{b:WA}(ma:Mono a)(mb:MonoA b):∀ σ H Q,lift K (wMt m a b) σ H Q->tBM K "list" (rMt m) (lift K a) (liftA K b) σ H Q:=by
 rintro σ H Q ⟨as,ρ,S,ok,en,h⟩;refine⟨as,ρ,S,ok,en,ma _ _ _ _ (λx S1 ⟨⟨j,zs,e,hz⟩,h⟩ as1 H1 v g1 ok1 rv=>?_) h⟩;subst e;refine⟨NV ok1 rv hz,as1,ρ,S1,ok1,en.mono g1.pre (g1.ku ok),mb _ _ _ _ (λxs S2 h as2 H2 vs g2 ok2 rs=>?_) h⟩;exact Mx ok2 (Rl.mono g2.pre (g2.ku ok1) _ v rv) rs (FR _ _ _ _ (λz S3 hz=>hz.mono (g1.trans g2)) h)
theorem Q5{K:Vl}{m:MT}{a:WE}(ma:Mono a):∀ σ H Q,lift K (wMt m a Ei) σ H Q->SS K "list" (rMt m) (lift K a) σ H Q:=by
 rintro σ H Q ⟨as,ρ,S,ok,en,h⟩;refine⟨as,ρ,S,ok,en,ma _ _ _ _ (λx S1 ⟨⟨j,zs,e,hz⟩,h⟩ as1 H1 v g1 ok1 rv=>?_) h⟩;subst e;exact⟨NV ok1 rv hz,Mx ok1 rv .nil (FR _ _ _ _ (λz S3 hz=>hz.mono g1) h)⟩
theorem NW{m:MT}{ro y:Expr}{ys:List Expr}{ap cp:Pos}{a:WE×WT}{b:WA}(ha:Good X ro a)(hb:GoodA X (y::ys) b)(hn:AD ro=true)(hl:(ap.endLine == cp.line)=true)(hk:(y::ys).length<29)(hy:i4 y=true)(hs:ys.all i4=true):Good X (.Call (.Attribute ro m.name ap) (y::ys) [] cp) (tt1 (wMt m a.1 b)):=by
 have e1:=j4 (es:=ys) (env:=X.env) hy;have e2:=CU (env:=X.env) (pos:=cp) hs
 have e3:((backTo cp (Zc (y::ys) X.env)).all (λx=>!x.1)&&(A0u cp (A0c [] X.env)).all (λx=>x.1.isSome)
  && decide ((y::ys).length+([]:List Keyword).length+(if ([]:List Keyword).isEmpty then 0 else 1)<30))=true:=by
  rw[El (by rw[X0,hy,hs];rfl)];simp only[YC,Vn,dQ];exact⟨rfl,by show(y::ys).length+0+0<30;omega⟩
 refine .one (j9 (t:=tBM X.K "list" (rMt m) (lift X.K a.1) (liftA X.K b)) _ ?_ (TM ha.m hb.m)) (.mt ha.m hb.m) rfl;cases m with
 | append=>exact JT PySem.F.plainAttrs_list PySem.F.slot_list_append PySem.F.type_list_append Ci ha.pe hb.pa (v4 hn) e3 hl e1 e2
 | extend=>exact JT PySem.F.plainAttrs_list PySem.F.slot_list_extend PySem.F.type_list_extend Ed ha.pe hb.pa (v4 hn) e3 hl e1 e2
 | insert=>exact JT PySem.F.plainAttrs_list PySem.F.slot_list_insert PySem.F.type_list_insert Ef ha.pe hb.pa (v4 hn) e3 hl e1 e2
 | reverse=>exact JT PySem.F.plainAttrs_list PySem.F.slot_list_reverse PySem.F.type_list_reverse DZ ha.pe hb.pa (v4 hn) e3 hl e1 e2
theorem LK{m:MT}{ro:Expr}{ap cp:Pos}{a:WE×WT}(ha:Good X ro a)(hn:AD ro=true)(hl:(ap.endLine == cp.line)=true):Good X (.Call (.Attribute ro m.name ap) [] [] cp) (tt1 (wMt m a.1 Ei)):=by
 refine .one (j9 (t:=SS X.K "list" (rMt m) (lift X.K a.1)) _ ?_ (Q5 ha.m)) (.mt ha.m .nil) rfl;cases m with
 | append=>exact FE PySem.F.plainAttrs_list PySem.F.slot_list_append PySem.F.type_list_append Ci ha.pe (v4 hn) hl
 | extend=>exact FE PySem.F.plainAttrs_list PySem.F.slot_list_extend PySem.F.type_list_extend Ed ha.pe (v4 hn) hl
 | insert=>exact FE PySem.F.plainAttrs_list PySem.F.slot_list_insert PySem.F.type_list_insert Ef ha.pe (v4 hn) hl
 | reverse=>exact FE PySem.F.plainAttrs_list PySem.F.slot_list_reverse PySem.F.type_list_reverse DZ ha.pe (v4 hn) hl
theorem LL{T:List Str}{Δ:Nat->Sn}{k:Nat}{N:List Str}{sc:Zf}{t:TyN}{p:Pos}(C:Cok T Δ X k N sc)(hg:glo sc (Str.ofString t.nm)=true)(ht:t ≠ .none):Good X (.Name (Str.ofString t.nm) p) (tt1 (wC (.ty t))):=by
 unfold glo at hg;simp only[Vn,beq_iff_eq,WK]at hg;have gl:Gl X (Str.ofString t.nm):=by show X.env.scope.names.lookup _=_;rw[C.hs];exact hg.1.1
 have b:Zb (Str.ofString t.nm)=some (.type t.nm):=by cases t<;>first | exact RE | exact TK | exact RF | exact Ie | exact Jq | exact absurd rfl ht
 exact .one (j9 _ (Ou (v := .ty t.nm) gl (C.ty t ht) b rfl (by cases t<;>first | decide | exact absurd rfl ht) hg.2) (GW λ_ _=>rl_ty.mpr rfl)) .c rfl
theorem Em{a:WE}(m:Mono a):Mono (N7 a):=λρ S P P' i h=>m _ _ _ _ (λx S1 ⟨k,ns,a,b,c,q⟩=>⟨k,ns,a,b,c,λm g=>i _ _ (q m g)⟩) h
theorem En{a d:WE}(m:Mono a)(m':Mono d):Mono (NA a d):=λρ S P P' i h=>m _ _ _ _ (λx S1 h=>m' _ _ _ _ (λy S2 ⟨k,ns,z,a,b,c,q0,q⟩=>⟨k,ns,z,a,b,c,λe=>i _ _ (q0 e),λm g=>i _ _ (q m g)⟩) h) h
theorem RlD.length{K:Vl}{as:List ZT}{H:Hp}:∀{kvs:List (Int×SV)} {ks:List (Key×V)},RlD K as H ks kvs->ks.length=kvs.length
 | [],_,h=>by rw[show _=[] from h];rfl
 | p::r,_,⟨v,t,e,_,h⟩=>by rw[e,WG,WG,RlD.length h]
theorem RlAll.perm{K:Vl}{as:List ZT}{H:Hp}{ws ws':List V}(p:ws'.Perm ws):∀{xs:List SV},RlAll K as H ws xs->∃ xs',RlAll K as H ws' xs'/\xs'.Perm xs:=by
 induction p with
 | nil=>exact λ{xs} r=>⟨xs,r,.refl _⟩
 | cons v _ ih=>
   intro xs r;cases xs with
   | nil=>exact absurd (show _::_=[] from r) (YH _ _)
   | cons x xs=>
     obtain⟨_,_,e,r1,r2⟩:=r;cases e;obtain⟨xs',r',p'⟩:=ih r2;exact⟨x::xs',⟨_,_,rfl,r1,r'⟩,.cons _ p'⟩
 | swap u v l=>
   intro xs r;cases xs with
   | nil=>exact absurd (show _::_=[] from r) (YH _ _)
   | cons x xs=>
     obtain⟨_,_,e,r1,r2⟩:=r;cases e;cases xs with
     | nil=>exact absurd (show _::_=[] from r2) (YH _ _)
     | cons y xs=>
       obtain⟨_,_,e,r3,r4⟩:=r2;cases e;exact⟨y::x::xs,⟨_,_,rfl,r3,_,_,rfl,r1,r4⟩,.swap ..⟩
 | trans _ _ ih1 ih2=>
   intro xs r;obtain⟨x2,r2,p2⟩:=ih2 r;obtain⟨x1,r1,p1⟩:=ih1 r2;exact⟨x1,r1,p1.trans p2⟩
theorem Ig{T:List Str}{Δ:Nat->Sn}{k:Nat}{N:List Str}{sc:Zf}{r:Expr}{p q:Pos}{a:WE×WT}(C:Cok T Δ X k N sc)(hg:glo sc "max"=true)(ha:Good X r a)(hs:i4 r=true):Good X (.Call (.Name "max" p) [r] [] q) (tt1 (N7 a.1)):=by
 unfold glo at hg;simp only[Vn,beq_iff_eq,WK]at hg;have gl:Gl X "max":=by show X.env.scope.names.lookup ("max":Str)=_;rw[C.hs];exact hg.1.1
 refine .one (j9 _ (w4 (L4 C.calm) gl (C.bl .max) NT (AH ha.pe BH (j4 hs)) (by decide) hg.2 (j4 hs) rfl) ?_) (Em ha.m) rfl;rintro σ H Q ⟨as,ρ,S,ok,en,h⟩;refine⟨as,ρ,S,ok,en,ha.m _ _ _ _ (λx S1 ⟨k,ns,e0,h1,h2,q⟩ as1 H1 v g1 ok1 rv=>?_) h⟩;subst e0;obtain⟨a,us,rfl,ea,ha,rr⟩:=v3 ok1 rv h1;rw[FQ rr]at ha;exact⟨a,ns,rfl,ha,h2,λm g=>q m g as1 H1 _ g1 ok1 (rl_int.mpr rfl)⟩
theorem Ih{T:List Str}{Δ:Nat->Sn}{k:Nat}{N:List Str}{sc:Zf}{r u:Expr}{p q kp:Pos}{a d:WE×WT}(C:Cok T Δ X k N sc)(hg:glo sc "max"=true)(ha:Good X r a)(hd:Good X u d)(hs:i4 r=true):Good X (.Call (.Name "max" p) [r] [⟨some "default",u,kp⟩] q) (tt1 (NA a.1 d.1)):=by
 unfold glo at hg;simp only[Vn,beq_iff_eq,WK]at hg;have gl:Gl X "max":=by show X.env.scope.names.lookup ("max":Str)=_;rw[C.hs];exact hg.1.1
 refine .one (j9 _ (Ej (L3 C.calm) gl (C.bl .max) NT (AH ha.pe BH (j4 hs)) (JO hd.pe ML) rfl (by decide) hg.2 (by rw[j4 hs];rfl) (by rw[j4 hs];rfl) rfl rfl) ?_) (En ha.m hd.m) rfl;rintro σ H Q ⟨as,ρ,S,ok,en,h⟩;refine⟨as,ρ,S,ok,en,ha.m _ _ _ _ (λx S1 h as1 H1 v g1 ok1 rv=>?_) h⟩;have en1:=en.mono g1.pre (g1.ku ok);refine⟨as1,ρ,S1,ok1,en1,hd.m _ _ _ _ (λy S2 ⟨k,ns,i,e0,e1,h1,q0,q⟩ as2 H2 v2 g2 ok2 rv2=>?_) h⟩;subst e0;subst e1;rw[rl_int]at rv2;obtain⟨a,us,ev,ea,ha,rr⟩:=v3 ok2 (Rl.mono g2.pre (g2.ku ok1) _ _ rv) h1;rw[FQ rr]at ha;exact⟨a,ns,i,by rw[ev],by rw[rv2],ha,λe=>q0 e as2 H2 _ (g1.trans g2) ok2 (rl_int.mpr rfl),λm g=>q m g as2 H2 _ (g1.trans g2) ok2 (rl_int.mpr rfl)⟩
end
section
variable{K:Vl}{as:List ZT}{H:Hp}{S:Sto}
theorem RlD.get:∀{kvs:List (Int×SV)} {ks:List (Key×V)} {i:Nat} {p:Int×SV},RlD K as H ks kvs->kvs[i]?=some p->∃ v,ks[i]?=some (.inl p.1,v)
 | q::r,_,0,p,⟨v,t,e,_,_⟩,hp=>by cases hp;subst e;exact⟨v,rfl⟩
 | q::r,_,i+1,p,⟨v,t,e,_,h⟩,hp=>by
   subst e;obtain⟨u,hu⟩:=RlD.get (i:=i) h (show r[i]?=some p from hp);exact⟨u,hu⟩
theorem RlD.val:∀{kvs:List (Int×SV)} {ks:List (Key×V)},RlD K as H ks kvs->∀ i,(∃ x v,Cp kvs i=some x/\A8 ks (.inl i)=some v/\Rl K as H v x)\/(Cp kvs i=none/\A8 ks (.inl i)=none)
 | [],_,h,i=>by rw[show _=[] from h];exact .inr ⟨rfl,rfl⟩
 | p::r,_,⟨v,t,e,h1,h2⟩,i=>by
   subst e;by_cases hp:p.1=i
   ·refine .inl ⟨p.2,v,?_,?_,h1⟩
    ·unfold Cp;rw[YR (by simp[hp])];rfl
    ·unfold A8;rw[YR (by simp[hp])];rfl
   ·have e1:Cp (p::r) i=Cp r i:=by unfold Cp;rw[YS (by simp[hp])]
    have e2:A8 ((Sum.inl p.1,v)::t) (Sum.inl i)=A8 t (Sum.inl i):=by unfold A8;rw[YS (by simp[hp])]
    rw[e1,e2];exact RlD.val h2 i
theorem RlD.any:∀{kvs:List (Int×SV)} {ks:List (Key×V)},RlD K as H ks kvs->∀ i,(ks.any λkv=>decide (kv.1=Sum.inl i))=kvs.any λp=>decide (p.1=i)
 | [],_,h,i=>by rw[show _=[] from h];rfl
 | p::r,_,⟨v,t,e,h1,h2⟩,i=>by
   subst e;rw[X1,X1,RlD.any h2 i]
   congr 1
   simp
theorem RlD.set{v:V}{x:SV}(rv:Rl K as H v x):∀{kvs:List (Int×SV)} {ks:List (Key×V)},RlD K as H ks kvs->∀ i,RlD K as H (ks.map λkv=>if kv.1=Sum.inl i then (kv.1,v) else kv) (kvs.map λp=>if p.1=i then (p.1,x) else p)
 | [],_,h,i=>by rw[show _=[] from h];rfl
 | p::r,_,⟨u,t,e,h1,h2⟩,i=>by
   subst e;rw[WX,WX];by_cases hp:p.1=i
   ·rw[iP hp,iP (by rw[hp])];exact⟨v,_,rfl,rv,RlD.set rv h2 i⟩
   ·rw[iG hp,iG (λz=>hp (Sum.inl.inj z))];exact⟨u,_,rfl,h1,RlD.set rv h2 i⟩
theorem RlD.snoc{v:V}{x:SV}(rv:Rl K as H v x)(i:Int):∀{kvs:List (Int×SV)} {ks:List (Key×V)},RlD K as H ks kvs->RlD K as H (ks++[(Sum.inl i,v)]) (kvs++[(i,x)])
 | [],_,h=>by rw[show _=[] from h];exact⟨v,[],rfl,rv,rfl⟩
 | p::r,_,⟨u,t,e,h1,h2⟩=>by subst e;exact⟨u,_,rfl,h1,RlD.snoc rv i h2⟩
theorem RlD.put{kvs:List (Int×SV)}{ks:List (Key×V)}{v:V}{x:SV}(h:RlD K as H ks kvs)(rv:Rl K as H v x)(i:Int):RlD K as H (Aq ks (Sum.inl i) v) (RC kvs i x):=by
 unfold Aq RC;rw[h.any i];by_cases z:(kvs.any λp=>decide (p.1=i))=true
 ·rw[iP z,iP z];exact h.set rv i
 ·rw[iG z,iG z];exact h.snoc rv i
theorem TN{x:SV}{v:V}{kvs:List (Int×SV)}(ok:Ok K as H S)(r:Rl K as H v x)(h:Pq x S=some kvs):∃ a k ks,x = .loc k/\v = .ref a/\as[k]?=some a/\Rd H a (.dK ks)/\RlD K as H ks kvs:=by
 cases x with
 | loc k=>
   obtain⟨a,ea,rfl⟩:=rl_loc.mp r;unfold Pq at h;cases hs:S[k]? with
   | none=>simp only[hs]at h;cases h
   | some o=>
     have ro:=ok.obj k o a hs ea;cases o with
     | lst _=>simp only[hs]at h;cases h
     | iset _=>simp only[hs]at h;cases h
     | dtl _=>simp only[hs]at h;cases h
     | dtf _ _ _=>simp only[hs]at h;cases h
     | dtp _=>simp only[hs]at h;cases h
     | dct kv=>simp only[hs]at h;cases h;obtain⟨ks,h1,h2⟩:=ro;exact⟨a,k,ks,rfl,rfl,ea,.inl h1,h2⟩
     | dcf o ks kv=>simp only[hs]at h;cases h;exact⟨a,k,ks,rfl,rfl,ea,.inr ⟨o,ro.1⟩,ro.2⟩
 | _=>cases h
theorem Cs:Mono2 Jh:=λx y S P P' i ⟨kvs,j,v,a,b,c,q⟩=>⟨kvs,j,v,a,b,c,i _ _ q⟩
theorem NX:Bd K Jh (λx y H Q=>∃ a v,x = .ref a/\DGet H a y (some v)/\Q v H):=λas H S x y v u Q ok rx ry h=>by
 obtain⟨kvs,i,w,h1,rfl,h2,q⟩:=h;obtain⟨a,k,ks,rfl,rfl,ea,rd,rr⟩:=TN ok rx h1;rw[rl_int]at ry;subst ry;rcases rr.val i with⟨x',v',e1,e2,r'⟩ | ⟨e1,_⟩
 ·rw[h2]at e1;cases e1;exact⟨a,v',rfl,.inl ⟨ks,.inl i,rd,rfl,e2.symm⟩,q.here ok r'⟩
 ·rw[h2]at e1;cases e1
end
section
variable{X:Cx}
theorem Ct:Mono NC:=λρ S P P' i h=>i _ _ h
theorem Ii{p:Pos}:Good X (.Dict [] [] p) (tt1 NC):=
 .one (j9 _ Mf (λσ H Q ⟨as,ρ,S,ok,en,h⟩=>λl hl=>h _ _ _ (Go.push hl) (ok.pushO hl ⟨[],p5,rfl⟩) (rl_loc.mpr ⟨l,by rw[<-ok.len];exact WL,rfl⟩))) Ct rfl
theorem Ij{x y:Expr}{p:Pos}{a b:WE×WT}(hu:X.A.units+1<cLine)(ha:Good X x a)(hb:Good X y b)(h:v7 y=true):Good X (.Subscript x y p) (tt1 (w2 Jh a.1 b.1)):=
 .one (j9 _ (PN hu ha.pe hb.pe (Du h)) (BL NX Cs ha.m hb.m)) (.two Cs ha.m hb.m) rfl
end
theorem RlD.vals{K:Vl}{as:List ZT}{H:Hp}:∀{kvs:List (Int×SV)} {ks:List (Key×V)},RlD K as H ks kvs->RlAll K as H (ks.map (·.2)) (kvs.map (·.2))
 | [],_,h=>by rw[show _=[] from h];rfl
 | p::r,_,⟨v,t,e,a,h⟩=>by rw[e];exact⟨v,_,rfl,a,RlD.vals h⟩
theorem RlD.at{K:Vl}{as:List ZT}{H:Hp}:∀{kvs:List (Int×SV)} {ks:List (Key×V)} {i:Nat} {p:Int×SV},RlD K as H ks kvs->kvs[i]?=some p->∃ v,ks[i]?=some (.inl p.1,v)/\Rl K as H v p.2
 | [],_,i,p,_,hp=>by simp at hp
 | p::r,_,0,_,⟨v,t,e,a,h⟩,hp=>by cases hp;exact⟨v,by rw[e];rfl,a⟩
 | p::r,_,i+1,_,⟨v,t,e,a,h⟩,hp=>by
   obtain⟨u,hu,ru⟩:=RlD.at (i:=i) h hp;exact⟨u,by rw[e];exact hu,ru⟩
theorem Ep{a d:WE}(m:Mono a)(m':Mono d):Mono (N8 a d):=λρ S P P' i h=>m _ _ _ _ (λx S1 h=>m' _ _ _ _ (λy S2 ⟨k,ps,a,b,c,q0,q⟩=>⟨k,ps,a,b,c,λe=>i _ _ (q0 e),λp hp=>i _ _ (q p hp)⟩) h) h
theorem Er{d e v:WE}(m:Mono d)(m1:Mono e)(m2:Mono v):Mono (N9 d e v):=λρ S P P' i h=>m _ _ _ _ (λx S1 ⟨k,kv0,a,b,h⟩=>⟨k,kv0,a,b,m1 _ _ _ _ (λy S2 h=>m2 _ _ _ _ (λz S3 ⟨i1,j,m,kvs,a,b,c,d,q0,q1⟩=>⟨i1,j,m,kvs,a,b,c,d,λn e=>i _ _ (q0 n e),λe=>i _ _ (q1 e)⟩) h) h⟩) h
theorem CD:Mono IV:=λρ S P P' i h=>i _ _ h
theorem Gp{X:Cx}{p:Pos}:Good X (.Dict [] [] p) (tt1 IV):=
 .one (j9 _ GU (λσ H Q ⟨as,ρ,S,ok,en,h⟩=>λl hl=>h _ _ _ (Go.push hl) (ok.pushO hl (show RlO _ _ _ _ (.dtp []) from p5)) (rl_loc.mpr ⟨l,by rw[<-ok.len];exact WL,rfl⟩))) CD rfl
theorem FZ(k:Int×Int):∀ kvs:List ((Int×Int)×Int),A8 (dtV kvs) [.inl k.1,.inl k.2]=(dpv kvs k).map V.int
 | []=>rfl
 | p::r=>by
   have ih:=FZ k r;by_cases e:p.1=k
   ·rw[show dtV (p::r)=([.inl p.1.1,.inl p.1.2],V.int p.2)::dtV r from rfl,Bb (by rw[e])];unfold dpv;rw[WU,decide_eq_true e];rfl
   ·rw[show dtV (p::r)=([.inl p.1.1,.inl p.1.2],V.int p.2)::dtV r from rfl,Bc (λz=>e (by
     have z:([.inl p.1.1,.inl p.1.2]:List Key)=[.inl k.1,.inl k.2]:=z;injection z with z1 z2;injection z2 with z2 _;injection z1 with z1;injection z2 with z2;exact Prod.ext z1 z2)),ih]
    unfold dpv;rw[WU,decide_eq_false e]
theorem Ik{X:Cx}{ro r r2:Expr}{ap cp:Pos}{d e v:WE×WT}(hu:X.A.units+1<cLine)(hd:Good X ro d)(he:Good X r e)(hv:Good X r2 v)(hn:AD ro=true)(hl:(ap.endLine == cp.line)=true)(hs:i4 r=true)(hs2:i4 r2=true):Good X (.Call (.Attribute ro "setdefault" ap) [r,r2] [] cp) (tt1 (N9 d.1 e.1 v.1)):=by
 refine .one (j9 _ (Ph hu hd.pe he.pe hv.pe ⟨v4 hn,by rw[j4 hs,j4 hs2];rfl,hl,by rw[j4 hs,j4 hs2];rfl⟩) ?_) (Er hd.m he.m hv.m) rfl;rintro σ H Q ⟨as,ρ,S,ok,en,h⟩;refine⟨as,ρ,S,ok,en,hd.m _ _ _ _ (λx S1 ⟨k,kv0,e0,hk,h⟩ as1 H1 w g1 ok1 rw1=>?_) h⟩;subst e0;obtain⟨a,ea,rfl⟩:=rl_loc.mp rw1;have h1:H1 a=some (.dT (dtV kv0)):=ok1.obj k _ a hk ea;have en1:=en.mono g1.pre (g1.ku ok);refine⟨a,rfl,.inr ⟨_,.inl h1⟩,as1,ρ,S1,ok1,en1,he.m _ _ _ _ (λy S2 h as2 H2 w2 g2 ok2 rw2=>?_) h⟩;refine⟨as2,ρ,S2,ok2,en1.mono g2.pre (g2.ku ok1),hv.m _ _ _ _ (λz S3 ⟨i,j,m,kvs,e1,e2,hk3,hb,q0,q1⟩ as3 H3 w3 g3 ok3 rw3=>?_) h⟩;subst e1;subst e2;have ea3:=BK g3.pre (BK g2.pre ea);have h3:H3 a=some (.dT (dtV kvs)):=ok3.obj k _ a hk3 ea3;obtain⟨p,vs,rfl,hp,rp⟩:=rl_tup.mp (Rl.mono g3.pre (g3.ku ok2) _ _ rw2);obtain⟨u1,u2,rfl,r1,r2⟩:=IR rp;rw[rl_int]at r1 r2 rw3;subst r1;subst r2;subst rw3;have G:=g1.trans (g2.trans g3);have len:(dtV kvs).length=kvs.length:=Vm ..;refine⟨dtV kvs,[.inl i,.inl j],p,rfl,h3,hp,by rw[len];exact WR hb (Ae (Vt _)),λu hu'=>?_,λhu'=>?_⟩
 ·rw[FZ (i,j)]at hu';obtain⟨n,hn',rfl⟩:=YO.mp hu';exact q0 n hn' as3 H3 _ G ok3 (rl_int.mpr rfl)
 ·have hu2:=hu';rw[FZ (i,j)]at hu';have e:dpv kvs (i,j)=none:=X8.mp hu';rw[GO _ hu2]
  obtain⟨ok4,ku⟩:=ok3.writeO (x := .dtp (kvs++[((i,j),m)])) (u := .dT (dtV kvs++[([.inl i,.inl j],V.int m)])) hk3 ea3 (λ_=>by
   show upd _ _ _ a=some (.dT (dtV (kvs++[((i,j),m)])));rw[p5];unfold dtV;rw[WB];rfl)
  exact q1 e as3 _ _ (G.trans (Go.write (Vp ea3))) ok4 (rl_int.mpr rfl)
theorem Il{X:Cx}{T:List Str}{Δ:Nat->Sn}{k:Nat}{N:List Str}{sc:Zf}{r u:Expr}{p q kp:Pos}{a d:WE×WT}(hu:X.A.units+1<cLine)(C:Cok T Δ X k N sc)(hg:glo sc "min"=true)(ha:Good X r a)(hd:Good X u d)(hs:i4 r=true):Good X (.Call (.Name "min" p) [r] [⟨some "default",u,kp⟩] q) (tt1 (N8 a.1 d.1)):=by
 unfold glo at hg;simp only[Vn,beq_iff_eq,WK]at hg;have gl:Gl X "min":=by show X.env.scope.names.lookup ("min":Str)=_;rw[C.hs];exact hg.1.1
 refine .one (j9 _ (Ej (L1 C.calm hu) gl (C.bl .min) RD (AH ha.pe BH (j4 hs)) (JO hd.pe ML) rfl (by decide) hg.2 (by rw[j4 hs];rfl) (by rw[j4 hs];rfl) rfl rfl) ?_) (Ep ha.m hd.m) rfl;rintro σ H Q ⟨as,ρ,S,ok,en,h⟩;refine⟨as,ρ,S,ok,en,ha.m _ _ _ _ (λx S1 h as1 H1 v g1 ok1 rv=>?_) h⟩;have en1:=en.mono g1.pre (g1.ku ok);refine⟨as1,ρ,S1,ok1,en1,hd.m _ _ _ _ (λy S2 ⟨k,ps,e0,e1,h1,q0,q⟩ as2 H2 v2 g2 ok2 rv2=>?_) h⟩;subst e0;subst e1;rw[rl_non]at rv2;obtain⟨a,us,ev,ea,ha,rr⟩:=v3 ok2 (Rl.mono g2.pre (g2.ku ok1) _ _ rv) h1;have G:=g1.trans g2;refine⟨a,us,ps,by rw[ev],by rw[rv2],ha,⟨by rw[rr.length,Vm],λi p hp=>?_⟩,λe=>q0 e as2 H2 _ G ok2 (rl_non.mpr rfl),λi p q' hp hq' _ _=>?_⟩
 ·obtain⟨v,hv,rv⟩:=rr.get (show(ps.map λp:Int×Int=>SV.tup [.int p.1,.int p.2])[i]?=some (SV.tup [.int p.1,.int p.2]) by rw[Vu,hp];rfl);obtain⟨t,vs,rfl,ht,rt⟩:=rl_tup.mp rv;obtain⟨u1,u2,rfl,r1,r2⟩:=IR rt;rw[rl_int]at r1 r2;subst r1;subst r2;exact⟨t,hv,ht⟩
 ·obtain⟨v,hv,rv⟩:=rr.get (show(ps.map λp:Int×Int=>SV.tup [.int p.1,.int p.2])[i]?=some (SV.tup [.int p.1,.int p.2]) by rw[Vu,hp];rfl);rw[hq']at hv;cases hv;exact q p (Vp hp) as2 H2 _ G ok2 rv
section
variable{K:Vl}{as:List ZT}{H:Hp}{S:Sto}
theorem RlT.length:∀{kvs:List (List Int×SV)} {us:List (List Key×V)},RlT K as H us kvs->us.length=kvs.length
 | [],_,h=>by rw[show _=_ from h];rfl
 | p::r,_,⟨v,t,e,_,h2⟩=>by rw[e,WG,WG,h2.length]
theorem RlT.get:∀{kvs:List (List Int×SV)} {us:List (List Key×V)} {i:Nat} {p:List Int×SV},RlT K as H us kvs->kvs[i]?=some p->∃ v,us[i]?=some (p.1.map Sum.inl,v)
 | [],_,_,_,_,h=>by simp at h
 | p::r,_,0,_,⟨v,t,e,_,h2⟩,h=>by
   simp at h;subst h;rw[e];exact⟨v,rfl⟩
 | p::r,_,i+1,_,⟨v,t,e,_,h2⟩,h=>by
   rw[e];obtain⟨v,hv⟩:=h2.get (i:=i) (by simpa using h);exact⟨v,by simpa using hv⟩
theorem DN:∀{a b:List Int},a.map (Sum.inl:Int->Key)=b.map Sum.inl->a=b
 | [],[],_=>rfl
 | [],_::_,h=>by simp at h
 | _::_,[],h=>by simp at h
 | a::x,b::y,h=>by
   rw[WX,WX]at h;injection h with h1 h2;injection h1 with h1;rw[h1,DN h2]
theorem RlT.val(k:List Int):∀{kvs:List (List Int×SV)} {us:List (List Key×V)},RlT K as H us kvs->(∃ x v,Dm kvs k=some x/\A8 us (k.map Sum.inl)=some v/\Rl K as H v x)\/(Dm kvs k=none/\A8 us (k.map Sum.inl)=none)
 | [],_,h=>by rw[show _=_ from h];exact .inr ⟨rfl,rfl⟩
 | p::r,_,⟨v,t,e,h1,h2⟩=>by
   rw[e];by_cases z:p.1=k
   ·refine .inl ⟨p.2,v,?_,Bb (by rw[z]),h1⟩;unfold Dm;rw[WU,decide_eq_true z];rfl
   ·rw[Bc (λy=>z (DN y)),show Dm (p::r) k=Dm r k by unfold Dm;rw[WU,decide_eq_false z]];exact RlT.val k h2
theorem RlT.snoc{k:List Int}{v:V}{x:SV}(rv:Rl K as H v x):∀{kvs:List (List Int×SV)} {us:List (List Key×V)},RlT K as H us kvs->RlT K as H (us++[(k.map Sum.inl,v)]) (kvs++[(k,x)])
 | [],_,h=>by rw[show _=_ from h];exact⟨v,[],rfl,rv,rfl⟩
 | p::r,_,⟨w,t,e,h1,h2⟩=>by rw[e];exact⟨w,_,rfl,h1,h2.snoc rv⟩
theorem Gq{v:V}{ks:List Int}(r:Rl K as H v (.tup (ks.map SV.int))):∃ p,v = .ref p/\H p=some (.tup ((ks.map Sum.inl).map kV)):=by
 obtain⟨p,vs,rfl,hp,rp⟩:=rl_tup.mp r
 have go:∀{ks:List Int} {vs:List V},RlAll K as H vs (ks.map SV.int)->vs=(ks.map Sum.inl).map kV:=by
  intro ks
  induction ks with
  | nil=>intro vs h;exact rla_nil.mp h
  | cons a ks ih=>
    intro vs h;obtain⟨v,t,rfl,h1,h2⟩:=rla_cons.mp h;rw[rl_int.mp h1,ih h2];rfl
 exact⟨p,rfl,by rw[<-go rp];exact hp⟩
end
theorem CF:Mono IW:=λρ S P P' i h=>i _ _ h
theorem Gr{X:Cx}{p:Pos}:Good X (.Dict [] [] p) (tt1 IW):=
 .one (j9 _ GU (λσ H Q ⟨as,ρ,S,ok,en,h⟩=>λl hl=>h _ _ _ (Go.push hl) (ok.pushO hl ⟨[],p5,rfl⟩) (rl_loc.mpr ⟨l,by rw[<-ok.len];exact WL,rfl⟩))) CF rfl
theorem Es{a:WE}(m:Mono a):Mono (N6 a):=λρ S P P' i h=>m _ _ _ _ (λx S1 ⟨k,ns,a,q⟩=>⟨k,ns,a,i _ _ q⟩) h
theorem Im{X:Cx}{T:List Str}{Δ:Nat->Sn}{k:Nat}{N:List Str}{sc:Zf}{r:Expr}{p q:Pos}{a:WE×WT}(C:Cok T Δ X k N sc)(hg:glo sc "sum"=true)(ha:Good X r a)(hs:i4 r=true):Good X (.Call (.Name "sum" p) [r] [] q) (tt1 (N6 a.1)):=by
 unfold glo at hg;simp only[Vn,beq_iff_eq,WK]at hg;have gl:Gl X "sum":=by show X.env.scope.names.lookup ("sum":Str)=_;rw[C.hs];exact hg.1.1
 refine .one (j9 _ (w4 (Kv C.calm) gl C.sm0 Uk (AH ha.pe BH (j4 hs)) (by decide) hg.2 (j4 hs) rfl) ?_) (Es ha.m) rfl;rintro σ H Q ⟨as,ρ,S,ok,en,h⟩;refine⟨as,ρ,S,ok,en,ha.m _ _ _ _ (λx S1 ⟨i,j,e0,q⟩ as1 H1 v g1 ok1 rv=>?_) h⟩;subst e0;obtain⟨p,vs,rfl,hp,rp⟩:=rl_tup.mp rv;obtain⟨u1,u2,rfl,r1,r2⟩:=IR rp;rw[rl_int]at r1 r2;subst r1;subst r2;exact⟨p,i,j,rfl,SqT.of hp,q as1 H1 _ g1 ok1 (rl_int.mpr rfl)⟩
section
variable{K:Vl}{as:List ZT}{H:Hp}
theorem RlT.any:∀{kvs:List (List Int×SV)} {us:List (List Key×V)},RlT K as H us kvs->∀ k,(us.any λkv=>decide (kv.1=k.map Sum.inl))=kvs.any λp=>decide (p.1=k)
 | [],_,h,k=>by rw[show _=_ from h];rfl
 | p::r,_,⟨v,t,e,_,h2⟩,k=>by
   rw[e,X1,X1,RlT.any h2 k];by_cases z:p.1=k
   ·rw[decide_eq_true z,decide_eq_true (show _=_ by rw[z])]
   ·rw[decide_eq_false z,decide_eq_false (λy=>z (DN y))]
theorem RlT.set{v:V}{x:SV}(rv:Rl K as H v x):∀{kvs:List (List Int×SV)} {us:List (List Key×V)},RlT K as H us kvs->∀ k:List Int,RlT K as H (us.map λkv=>if kv.1=k.map Sum.inl then (kv.1,v) else kv) (kvs.map λp=>if p.1=k then (p.1,x) else p)
 | [],_,h,k=>by rw[show _=_ from h];rfl
 | p::r,_,⟨w,t,e,h1,h2⟩,k=>by
   rw[e,WX,WX];by_cases z:p.1=k
   ·rw[iP z,iP (by rw[z])];exact⟨v,_,rfl,rv,RlT.set rv h2 k⟩
   ·rw[iG z,iG (λy=>z (DN y))];exact⟨w,_,rfl,h1,RlT.set rv h2 k⟩
theorem RlT.put{kvs:List (List Int×SV)}{us:List (List Key×V)}{v:V}{x:SV}(h:RlT K as H us kvs)(rv:Rl K as H v x)(k:List Int):RlT K as H (Aq us (k.map Sum.inl) v) (Ek kvs k x):=by
 unfold Aq Ek;rw[h.any k];split
 ·exact h.set rv k
 ·exact h.snoc rv
theorem RlT.vals:∀{kvs:List (List Int×SV)} {us:List (List Key×V)},RlT K as H us kvs->RlAll K as H (us.map (·.2)) (kvs.map (·.2))
 | [],_,h=>by rw[show _=[] from h];rfl
 | p::r,_,⟨v,t,e,a,h⟩=>by rw[e];exact⟨v,_,rfl,a,RlT.vals h⟩
end
theorem D8{d e v:WE}(m:Mono d)(m1:Mono e)(m2:Mono v):Mono (FU d e v):=λρ S P P' i h=>m _ _ _ _ (λx S1 ⟨k,kv0,a,b,h⟩=>⟨k,kv0,a,b,m1 _ _ _ _ (λy S2 h=>m2 _ _ _ _ (λz S3 ⟨ks,kvs,a,b,q⟩=>⟨ks,kvs,a,b,i _ _ q⟩) h) h⟩) h
theorem Dx{d e v:WE}(m:Mono d)(m1:Mono e)(m2:Mono v):Mono (IU d e v):=λρ S P P' i h=>m _ _ _ _ (λx S1 ⟨k,kv0,a,b,h⟩=>⟨k,kv0,a,b,m1 _ _ _ _ (λy S2 h=>m2 _ _ _ _ (λz S3 ⟨ks,kvs,a,b,c,q0,q1⟩=>⟨ks,kvs,a,b,c,λn e=>i _ _ (q0 n e),λe=>i _ _ (q1 e)⟩) h) h⟩) h
theorem D9{a:WE}(m:Mono a):Mono (FV a):=λρ S P P' i h=>m _ _ _ _ (λx S1 ⟨k,kvs,a,b,q⟩=>⟨k,kvs,a,b,i _ _ q⟩) h
theorem Fb{X:Cx}{ro r r2:Expr}{ap cp:Pos}{d e v:WE×WT}(hu:X.A.units+1<cLine)(hd:Good X ro d)(he:Good X r e)(hv:Good X r2 v)(hn:AD ro=true)(hl:(ap.endLine == cp.line)=true)(hs:i4 r=true)(hs2:i4 r2=true):Good X (.Call (.Attribute ro "get" ap) [r,r2] [] cp) (tt1 (FU d.1 e.1 v.1)):=by
 refine .one (j9 _ (Mg hu hd.pe he.pe hv.pe ⟨v4 hn,by rw[j4 hs,j4 hs2];rfl,hl,by rw[j4 hs,j4 hs2];rfl⟩) ?_) (D8 hd.m he.m hv.m) rfl;rintro σ H Q ⟨as,ρ,S,ok,en,h⟩;refine⟨as,ρ,S,ok,en,hd.m _ _ _ _ (λx S1 ⟨k,kv0,e0,hk,h⟩ as1 H1 w g1 ok1 rw1=>?_) h⟩;subst e0;obtain⟨a,ea,rfl⟩:=rl_loc.mp rw1;obtain⟨us0,h1,_⟩:=ok1.obj k _ a hk ea;have en1:=en.mono g1.pre (g1.ku ok);refine⟨a,rfl,.inr ⟨_,.inl h1⟩,as1,ρ,S1,ok1,en1,he.m _ _ _ _ (λy S2 h as2 H2 w2 g2 ok2 rw2=>?_) h⟩;refine⟨as2,ρ,S2,ok2,en1.mono g2.pre (g2.ku ok1),hv.m _ _ _ _ (λz S3 ⟨ks,kvs,e1,hk3,q⟩ as3 H3 w3 g3 ok3 rw3=>?_) h⟩;subst e1;have ea3:=BK g3.pre (BK g2.pre ea);obtain⟨us,h3,rr⟩:=ok3.obj k _ a hk3 ea3;obtain⟨p,rfl,hp⟩:=Gq (Rl.mono g3.pre (g3.ku ok2) _ _ rw2);have G:=g1.trans (g2.trans g3);refine⟨A8 us (ks.map Sum.inl),DGet.t h3 hp,?_⟩;rcases rr.val ks with⟨x',v',e1,e2,r'⟩ | ⟨e1,e2⟩
 ·rw[e1]at q;rw[e2];exact q as3 H3 _ G ok3 r'
 ·rw[e1]at q;rw[e2];exact q as3 H3 _ G ok3 rw3
theorem Gs{X:Cx}{ro r r2:Expr}{ap cp:Pos}{d e v:WE×WT}(hd:Good X ro d)(he:Good X r e)(hv:Good X r2 v)(hn:AD ro=true)(hl:(ap.endLine == cp.line)=true)(hs:i4 r=true)(hs2:i4 r2=true):Good X (.Call (.Attribute ro "setdefault" ap) [r,r2] [] cp) (tt1 (IU d.1 e.1 v.1)):=by
 refine .one (j9 _ (NR hd.pe he.pe hv.pe ⟨v4 hn,by rw[j4 hs,j4 hs2];rfl,hl,by rw[j4 hs,j4 hs2];rfl⟩) ?_) (Dx hd.m he.m hv.m) rfl;rintro σ H Q ⟨as,ρ,S,ok,en,h⟩;refine⟨as,ρ,S,ok,en,hd.m _ _ _ _ (λx S1 ⟨k,kv0,e0,hk,h⟩ as1 H1 w g1 ok1 rw1=>?_) h⟩;subst e0;obtain⟨a,ea,rfl⟩:=rl_loc.mp rw1;obtain⟨us0,h1,_⟩:=ok1.obj k _ a hk ea;have en1:=en.mono g1.pre (g1.ku ok);refine⟨a,rfl,.inl ⟨_,.inl h1⟩,as1,ρ,S1,ok1,en1,he.m _ _ _ _ (λy S2 h as2 H2 w2 g2 ok2 rw2=>?_) h⟩;refine⟨as2,ρ,S2,ok2,en1.mono g2.pre (g2.ku ok1),hv.m _ _ _ _ (λz S3 ⟨i,kvs,e1,hk3,hb,q0,q1⟩ as3 H3 w3 g3 ok3 rw3=>?_) h⟩;subst e1;rw[rl_int]at rw2;subst rw2;have ea3:=BK g3.pre (BK g2.pre ea);obtain⟨us,h3,rr⟩:=ok3.obj k _ a hk3 ea3;have G:=g1.trans (g2.trans g3);refine⟨us,.inl i,rfl,h3,by rw[rr.length];exact WR hb (Ae (Vt _)),λu hu'=>?_,λhu'=>?_⟩
 ·rcases rr.val i with⟨x',v',e1,e2,r'⟩ | ⟨_,e2⟩
  ·rw[hu']at e2;cases e2;exact q0 x' e1 as3 H3 _ G ok3 r'
  ·rw[hu']at e2;cases e2
 ·rcases rr.val i with⟨x',v',e1,e2,r'⟩ | ⟨e1,_⟩
  ·rw[hu']at e2;cases e2
  ·rw[GO _ hu'];obtain⟨ok4,ku⟩:=ok3.writeO (x := .dct (kvs++[(i,z)])) (u := .dK (us++[(Sum.inl i,w3)])) hk3 ea3 (λku=>⟨_,p5,RlD.snoc (Rl.mono (WN _) ku z w3 rw3) i (RlD.mono (WN _) ku kvs us rr)⟩);exact q1 e1 as3 _ _ (G.trans (Go.write (Vp ea3))) ok4 (Rl.mono (WN _) ku z w3 rw3)
theorem Fc{X:Cx}{T:List Str}{Δ:Nat->Sn}{k:Nat}{N:List Str}{sc:Zf}{r:Expr}{p q ap cp:Pos}{a:WE×WT}(C:Cok T Δ X k N sc)(hg:glo sc "list"=true)(ha:Good X r a)(hn:AD r=true)(hl:(ap.endLine == cp.line)=true):Good X (.Call (.Name "list" p) [.Call (.Attribute r "values" ap) [] [] cp] [] q) (tt1 (FV a.1)):=by
 unfold glo at hg;simp only[Vn,beq_iff_eq,WK]at hg;have gl:Gl X "list":=by show X.env.scope.names.lookup ("list":Str)=_;rw[C.hs];exact hg.1.1
 refine .one (j9 _ (Q4 C.calm gl (C.bl .list) Ie ha.pe (v4 hn) hl rfl) ?_) (D9 ha.m) rfl;rintro σ H Q ⟨as,ρ,S,ok,en,h⟩;refine⟨as,ρ,S,ok,en,ha.m _ _ _ _ (λx S1 ⟨k,kvs,e0,hk,q⟩ as1 H1 v g1 ok1 rv=>?_) h⟩;subst e0;obtain⟨a,ea,rfl⟩:=rl_loc.mp rv;obtain⟨us,h1,rr⟩:=ok1.obj k _ a hk ea;exact⟨a,us,rfl,h1,Af ok1 (RlT.vals rr) (q.mono g1)⟩
theorem Et{K:Vl}{as:List ZT}{H:Hp}{v:V}{i j:Int}(r:Rl K as H v (.tup [.int i,.int j])):∃ p,v = .ref p/\H p=some (.tup [.int i,.int j]):=by
 obtain⟨p,vs,rfl,hp,rp⟩:=rl_tup.mp r;obtain⟨v1,t1,rfl,r1,rp⟩:=rla_cons.mp rp;obtain⟨v2,t2,rfl,r2,rp⟩:=rla_cons.mp rp;obtain rfl:=rla_nil.mp rp;rw[rl_int]at r1 r2;subst r1 r2;exact⟨p,rfl,hp⟩
theorem Jr{K:Vl}:Bd K NB (λx y H Q=>∃ a b,∃ i j k l:Int,x = .ref a/\y = .ref b/\SqT K H a [.int i,.int j]/\SqT K H b [.int k,.int l]/\Q (.bl (decide (i=k/\j=l))) H):=λas H S x y v u Q ok rx ry h=>by
 obtain⟨i,j,k,l,rfl,rfl,q⟩:=h;obtain⟨a,rfl,ha⟩:=Et rx;obtain⟨b,rfl,hb⟩:=Et ry;exact⟨a,b,i,j,k,l,rfl,rfl,SqT.of ha,SqT.of hb,q.here ok (rl_bl.mpr rfl)⟩
theorem CW:Mono2 NB:=λx y S P P' i ⟨a,b,c,d,e,f,q⟩=>⟨a,b,c,d,e,f,i _ _ q⟩
theorem LM{X:Cx}{ra rb:Expr}{p:Pos}{wa wb:WE}(hu:X.A.units+1<cLine)(ha:PE X ra (lift X.K wa))(hb:PE X rb (lift X.K wb))(ma:Mono wa)(mb:Mono wb)(hn:Aa rb=true):Good X (.Compare ra [.Eq] [rb] p) (tt2 (w2 NB wa wb)):=by
 have m:Mono (w2 NB wa wb) := .two CW ma mb
 exact{pe:=j9 _ (JL (Jp (by omega)) ha hb (Bi hn)) (BL Jr CW ma mb)
       pt:=Dg _ (JM (Jp (by omega)) ha hb (Bi hn)) λσ H Q h=>BL Jr CW ma mb σ H _ (IZ m σ H Q h)
       m:=m
       mt := .bl m
       pw:=λ_ _ _ e=>by cases e}
end Rf
namespace PySem
structure ZipFar(z TI TO i1 i2:ZT)(f1 f2:List ZT):Prop where
 iz:TI≠z/\TO≠z/\i1≠z/\i2≠z
 im:TI≠TO/\TI≠i1/\TI≠i2/\TO≠i1/\TO≠i2/\i1≠i2
 g1:∀ c∈f1,c≠z/\c≠TO/\c≠i2
 g2:∀ c∈f2,c≠z/\c≠TO/\c≠i1
section
variable{prog:ZX}{w:Za}{A:Ze}{E:ZR->ZS->Prop}{s:ZS}
theorem Fd{z TI TO i1 i2:ZT}{f1 f2:List ZT}{n1 n2 k:Nat}{P1 P2:Nat->ZR->Prop}{S1 S2:Nat->Heap->Prop}{Q:ZR->ZS->Prop}
 (W1:Draws prog w A i1 f1 n1 P1 S1) (W2:Draws prog w A i2 f2 n2 P2 S2) (Fa:ZipFar z TI TO i1 i2 f1 f2) (hz:IsZip s.heap z TI TO .none) (hI:IsPair s.heap TI (.ref i1) (.ref i2)) (hO:∃ a b,IsPair s.heap TO a b)
 (t1:S1 k s.heap) (t2:S2 k s.heap) (l1:k<n1) (l2:k<n2)
 (hQ:∀ x y h' tk,P1 k x->P2 k y->IsZip h' z TI TO (rawInt s.heap.objs.size)->(∃ a b,IsPair h' TO a b)->S1 (k+1) h'->S2 (k+1) h'->IsPair h' s.heap.objs.size x y->h'.objs.size=s.heap.objs.size+1->
   (∀ c o,c≠z->c≠TO->c≠i1->c≠i2->s.heap.get? c=some o->h'.get? c=some o)->Q (.ref s.heap.objs.size) {s with heap:=h',toks:=tk}):
 ZV (ZY prog w) A (Builtin.«zip.__next__» ⟨[.ref z],[]⟩) (λfin s'=>∃ v,fin = .done (.ret v)/\Q v s') E s:=by
 obtain⟨a,b,hO⟩:=hO;obtain⟨z1,z2,z3,z4⟩:=Fa.iz;obtain⟨m1,m2,m3,m4,m5,m6⟩:=Fa.im;have get2:∀{R:ZR->ZS->Prop},R (.bool false) s->ZV (ZY prog w) A (field (.ref z) 2) R E s:=λq=>Zk hz rfl (x := .bool false) rfl q;show ZV _ _ (field (.ref z) 2 >>= _) _ _ _;refine ZQ (get2 ?_);show ZV _ _ (field (.ref z) 3 >>= _) _ _ _;refine ZQ (Zk hz rfl (x := .ref TI) rfl (ZQ (Zj hI rfl ?_)));show ZV _ _ (Builtin.SmallTypes.ownedTupleIsFree (.ref z) >>= _) _ _ _;refine ZQ ?_;unfold Builtin.SmallTypes.ownedTupleIsFree;refine ZQ (Zk hz rfl (x := .none) rfl (ZU ?_));simp only[if_true];refine ZQ (A0b (ZQ (Zk hz rfl (x := .ref TO) rfl (ZQ (A05 hz (by simp) λha za ka=>ZQ ?_)))));replace za:IsZip ha z TI TO .ellipsis:=za;simp only[Z1,Z6,YW,Yc];refine ZQ (ZQ (A0X ?_));show ZV _ _ (Builtin.SmallTypes.nextOf (.ref i1) >>= _) _ _ _;have t1a:S1 k ha:=W1.frame _ _ _ t1 λc hc o e=>ka.extBut _ _ (Fa.g1 c hc).1 e;refine ZQ (W1.item k {s with heap:=ha} _ _ l1 t1a λx hb tb px t1b kb=>ZU ?_);have Ob:IsPair hb TO a b:=kb.extBut _ _ m4 (ka.extBut _ _ z2 hO);refine ZQ (Zj Ob rfl (ZQ (A0S Ob λhc Oc kc=>?_)));replace Oc:IsPair hc TO x b:=Oc;refine ZQ (Zx (ZU ?_));refine ZQ (ZQ (A0X ?_));show ZV _ _ (Builtin.SmallTypes.nextOf (.ref i2) >>= _) _ _ _;have t2c:S2 k hc:=W2.frame _ _ _ t2 λc hm o e=>kc.extBut _ _ (Fa.g2 c hm).2.1 (kb.extBut _ _ (Fa.g2 c hm).2.2 (ka.extBut _ _ (Fa.g2 c hm).1 e));refine ZQ (W2.item k {s with heap:=hc,toks:=tb} _ _ l2 t2c λy hd td py t2d kd=>ZU ?_);have Od:IsPair hd TO x b:=kd.extBut _ _ m5 Oc;refine ZQ (Zj Od rfl (ZQ (A0S Od λhe Oe ke=>?_)));replace Oe:IsPair he TO x y:=Oe;refine ZQ (Zx (ZU (ZU ?_)));refine ZQ (Zj Oe rfl (ZQ (wpAny_newTuple ?_)));have hsz:he.objs.size=s.heap.objs.size:=by rw[ke.1,kd.1,kc.1,kb.1,ka.1]
 have ze:IsZip he z TI TO .ellipsis:=ke.extBut _ _ z2.symm (kd.extBut _ _ z4.symm (kc.extBut _ _ z2.symm (kb.extBut _ _ z3.symm za)));have kk:∀ c o,c≠z->c≠TO->c≠i1->c≠i2->s.heap.get? c=some o->he.get? c=some o:=λc o c1 c2 c3 c4 e=>ke.extBut _ _ c2 (kd.extBut _ _ c4 (kc.extBut _ _ c2 (kb.extBut _ _ c3 (ka.extBut _ _ c1 e))));have lz:z<he.objs.size:=Vv ze;show ZV _ _ (Builtin.SmallTypes.ownedTupleHandOut (.ref z) (.ref he.objs.size) >>= _) _ _ _;refine ZQ ?_;unfold Builtin.SmallTypes.ownedTupleHandOut;have zf:IsZip (he.push {cls := .type "tuple",data := .seq #[x,y]}) z TI TO .ellipsis:=Vs _ ze;refine ZQ (A05 zf (by simp) λhf zf' kf=>?_);replace zf':IsZip hf z TI TO (rawInt he.objs.size):=zf';refine A05 zf' (by simp) λhg zg kg=>?_;replace zg:IsZip hg z TI TO (rawInt he.objs.size):=zg;have up:∀ c o,c≠z->he.get? c=some o->hg.get? c=some o:=λc o c1 e=>kg.extBut _ _ c1 (kf.extBut _ _ c1 (Vs _ e));have Tg:IsPair hg he.objs.size x y:=kg.extBut _ _ (Yn lz) (kf.extBut _ _ (Yn lz) (W3 _ rfl));have sg:hg.objs.size=he.objs.size+1:=by rw[kg.1,kf.1,Wh]
 rw[hsz]at zg Tg sg;refine ZU ⟨_,rfl,?_⟩;show Q (.ref he.objs.size) _;rw[hsz]
 refine hQ x y hg td px py zg ⟨x,y,up _ _ z2 Oe⟩ (W1.frame _ _ _ t1b λc hm o e=>up c o (Fa.g1 c hm).1 (ke.extBut _ _ (Fa.g1 c hm).2.1 (kd.extBut _ _ (Fa.g1 c hm).2.2 (kc.extBut _ _ (Fa.g1 c hm).2.1 e))))
  (W2.frame _ _ _ t2d λc hm o e=>up c o (Fa.g2 c hm).1 (ke.extBut _ _ (Fa.g2 c hm).2.1 e)) Tg sg λc o c1 c2 c3 c4 e=>up c o c1 (kk c o c1 c2 c3 c4 e)
theorem Gv{z TI TO i1 i2:ZT}{f1:List ZT}{n1:Nat}{P1:Nat->ZR->Prop}{S1:Nat->Heap->Prop}{Q:Fin->ZS->Prop}
 (W1:Draws prog w A i1 f1 n1 P1 S1) (iz:i1≠z) (g1:∀ c∈f1,c≠z) (hz:IsZip s.heap z TI TO .none) (hI:IsPair s.heap TI (.ref i1) (.ref i2)) (t1:S1 n1 s.heap)
 (hE:∀ h' e,(∀ c o,c≠z->c≠i1->s.heap.get? c=some o->h'.get? c=some o)->(∃ o,h'.get? e=some o/\o.cls = .type "StopIteration")->E (.ref e) {s with heap:=h'}):
 ZV (ZY prog w) A (Builtin.«zip.__next__» ⟨[.ref z],[]⟩) Q E s:=by
 show ZV _ _ (field (.ref z) 2 >>= _) _ _ _;refine ZQ (Zk hz rfl (x := .bool false) rfl ?_);show ZV _ _ (field (.ref z) 3 >>= _) _ _ _;refine ZQ (Zk hz rfl (x := .ref TI) rfl (ZQ (Zj hI rfl ?_)));show ZV _ _ (Builtin.SmallTypes.ownedTupleIsFree (.ref z) >>= _) _ _ _;refine ZQ ?_;unfold Builtin.SmallTypes.ownedTupleIsFree;refine ZQ (Zk hz rfl (x := .none) rfl (ZU ?_));simp only[if_true];refine ZQ (A0b (ZQ (Zk hz rfl (x := .ref TO) rfl (ZQ (A05 hz (by simp) λha za ka=>ZQ ?_)))));replace za:IsZip ha z TI TO .ellipsis:=za;simp only[Z1,Z6,YW,Yc];refine ZQ (ZQ (A0X ?_));show ZV _ _ (Builtin.SmallTypes.nextOf (.ref i1) >>= _) _ _ _;refine ZQ (W1.done {s with heap:=ha} _ _ (W1.frame _ _ _ t1 λc hc o e=>ka.extBut _ _ (g1 c hc) e) λhb e kb he=>?_);obtain⟨oe,hoe,hce⟩:=he;have zb:IsZip hb z TI TO .ellipsis:=kb _ _ iz.symm za;have ez:e≠z:=λx=>by subst x;rw[zb]at hoe;cases hoe;simp at hce
 exact A05 zb (by simp) λhc _ kc=>hE hc e (λc o c1 c3 x=>kc.extBut _ _ c1 (kb _ _ c3 (ka.extBut _ _ c1 x))) ⟨oe,kc.extBut _ _ ez hoe,hce⟩
theorem CY{z TI TO i1 i2:ZT}{f1 f2:List ZT}{n1 n2 k:Nat}{P1 P2:Nat->ZR->Prop}{S1 S2:Nat->Heap->Prop}{Q:Option ZR->ZS->Prop}
 (W1:Draws prog w A.in1 i1 f1 n1 P1 S1) (W2:Draws prog w A.in1 i2 f2 n2 P2 S2) (Fa:ZipFar z TI TO i1 i2 f1 f2) (hz:IsZip s.heap z TI TO .none) (hI:IsPair s.heap TI (.ref i1) (.ref i2)) (hO:∃ a b,IsPair s.heap TO a b)
 (t1:S1 k s.heap) (t2:S2 k s.heap) (l1:k<n1) (l2:k<n2)
 (hQ:∀ x y h' tk,P1 k x->P2 k y->IsZip h' z TI TO (rawInt s.heap.objs.size)->(∃ a b,IsPair h' TO a b)->S1 (k+1) h'->S2 (k+1) h'->IsPair h' s.heap.objs.size x y->h'.objs.size=s.heap.objs.size+1->
   (∀ c o,c≠z->c≠TO->c≠i1->c≠i2->s.heap.get? c=some o->h'.get? c=some o)->Q (some (.ref s.heap.objs.size)) {s with heap:=h',toks:=tk}):
 ZV (ZY prog w) A (pyNext (.ref z)) Q E s:=by
 have hT:s.TypeIs (.ref z) "zip":=⟨_,hz,rfl⟩
 unfold pyNext
 exact ZQ (A0E (Zi (name:=Str.ofString "__next__") hT F.slot_zip_next
  (Zm F.slot_zip_next hT F.entry_zip_next (Fd W1 W2 Fa hz hI hO t1 t2 l1 l2 λx y h' tk a1 a2 a3 a4 a5 a6 a7 a8 a9=>ZU (hQ x y h' tk a1 a2 a3 a4 a5 a6 a7 a8 a9)) (F.args_zip_next_1 _))))
theorem Cu{z TI TO i1 i2:ZT}{f1:List ZT}{n1:Nat}{P1:Nat->ZR->Prop}{S1:Nat->Heap->Prop}{Q:Option ZR->ZS->Prop}
 (W1:Draws prog w A.in1 i1 f1 n1 P1 S1) (iz:i1≠z) (g1:∀ c∈f1,c≠z) (hz:IsZip s.heap z TI TO .none) (hI:IsPair s.heap TI (.ref i1) (.ref i2)) (t1:S1 n1 s.heap)
 (hQ:∀ h',(∀ c o,c≠z->c≠i1->s.heap.get? c=some o->h'.get? c=some o)->Q none {s with heap:=h'}):ZV (ZY prog w) A (pyNext (.ref z)) Q E s:=by
 have hT:s.TypeIs (.ref z) "zip":=⟨_,hz,rfl⟩
 unfold pyNext
 refine ZQ (A0E (Zi (name:=Str.ofString "__next__") hT F.slot_zip_next
  (Zm F.slot_zip_next hT F.entry_zip_next (Gv W1 iz g1 hz hI t1 λh' e hk he=>?_) (F.args_zip_next_1 _))))
 obtain⟨o,ho,hc⟩:=he;exact ZQ (A1a (T:="StopIteration") (b:=true) ⟨o,ho,hc⟩ A1m (ZU (hQ _ hk)))
end
abbrev DG(l:ZT):Obj:={cls := .type "tuple_iterator",data := .fields #[.ref l,.int 0 0]}
abbrev zt3(h:Heap)(l1 l2:ZT):Heap:=((h.push (DG l1)).push (DG l2)).push {cls := .type "tuple",data := .seq #[.ref h.objs.size,.ref (h.push (DG l1)).objs.size]}
abbrev zt4(h:Heap)(l1 l2:ZT):Heap:=(zt3 h l1 l2).push {cls := .type "tuple",data := .seq #[.none,.none]}
abbrev zt5(h:Heap)(l1 l2:ZT):Heap:=(zt4 h l1 l2).push {cls := .type "zip",data := .fields #[.none,.bool false,.bool false,.ref ((h.push (DG l1)).push (DG l2)).objs.size,.ref (zt3 h l1 l2).objs.size]}
theorem Gx(l1 l2:ZT)(xs ys:Array ZR):
 Meets (Builtin.«zip.__new__» ⟨[.type "zip",.ref l1,.ref l2],[]⟩) (λ_ R s=>s.heap.IsTuple l1 xs/\s.heap.IsTuple l2 ys/\
  R (.ok (.ret (.ref (zt4 s.heap l1 l2).objs.size))) {s with heap:=zt5 s.heap l1 l2}):=
 .of_wp λprog w A R s h=>by
  obtain⟨hp,g,d,tk,os⟩:=s;obtain⟨hl1,hl2,h⟩:=h;have hsub:=sub_zip;have hL1:Yp (Shared.heap ⟨hp,g,d,tk,os⟩) l1 xs:=hl1;have hL2:Yp (Shared.heap ⟨hp.push (DG l1),g,d,tk,os⟩) l2 ys:=let ⟨o,e,r⟩:=hl2;⟨o,Vs _ e,r⟩
  wp_walk using Zr hL1,Zr hL2
  exact⟨_,rfl,h⟩
section
variable{prog:ZX}{w:Za}{A:Ze}{E:ZR->ZS->Prop}{s:ZS}
theorem Fe{l1 l2:ZT}{xs ys:Array ZR}{Q:ZR->ZS->Prop}(hl1:s.heap.IsTuple l1 xs)(hl2:s.heap.IsTuple l2 ys)
 (h:∀ h',IsZip h' (s.heap.objs.size+4) (s.heap.objs.size+2) (s.heap.objs.size+3) .none->IsPair h' (s.heap.objs.size+2) (.ref s.heap.objs.size) (.ref (s.heap.objs.size+1))->
   (∃ a b,IsPair h' (s.heap.objs.size+3) a b)->h'.IsTupleIter s.heap.objs.size l1 0->h'.IsTupleIter (s.heap.objs.size+1) l2 0->
   (∀ c o,s.heap.get? c=some o->h'.get? c=some o)->Q (.ref (s.heap.objs.size+4)) {s with heap:=h'}):
 ZV (ZY prog w) A (call (.type "zip") [.ref l1,.ref l2]) Q E s:=by
 refine callType_new F.called_zip (by decide) (F.typeCall_zip_2 _ _) (F.newCall_zip_2 _ _) (λobj=>F.args_object_init_3 obj _ _) F.entry_zip_new (Gx l1 l2 xs ys) ⟨hl1,hl2,?_⟩;have y1:(s.heap.push (DG l1)).objs.size=s.heap.objs.size+1:=Wh ..;have y2:((s.heap.push (DG l1)).push (DG l2)).objs.size=s.heap.objs.size+2:=by rw[Wh,y1]
 have y3:(zt3 s.heap l1 l2).objs.size=s.heap.objs.size+3:=by rw[Wh,y2]
 have y4:(zt4 s.heap l1 l2).objs.size=s.heap.objs.size+4:=by rw[Wh,y3]
 have up:∀{h0:Heap} {o1:Obj} {c o},h0.get? c=some o->(h0.push o1).get? c=some o:=λe=>Vs _ e;have q5:(zt5 s.heap l1 l2).get? (zt4 s.heap l1 l2).objs.size=some _:=W3 _ rfl;have q4:(zt5 s.heap l1 l2).get? (zt3 s.heap l1 l2).objs.size=some _:=up (W3 _ rfl);have q3:(zt5 s.heap l1 l2).get? ((s.heap.push (DG l1)).push (DG l2)).objs.size=some _:=up (up (W3 _ rfl));have q2:(zt5 s.heap l1 l2).get? (s.heap.push (DG l1)).objs.size=some _:=up (up (up (W3 _ rfl)));have q1:(zt5 s.heap l1 l2).get? s.heap.objs.size=some _:=up (up (up (up (W3 _ rfl))));show _/\_;rw[y2,y3,y4]at q5;rw[y1,y2]at q3;rw[y3]at q4;rw[y1]at q2;rw[y4];exact⟨⟨_,q5,rfl⟩,h _ q5 q3 ⟨_,_,q4⟩ ⟨_,q1,rfl,rfl⟩ ⟨_,q2,rfl,rfl⟩ λc o x=>up (up (up (up (up x))))⟩
end
end PySem
namespace L2
open PySem PySem.Spec PyProof.Rows
def TQ(K:Vl)(a b:ZT):It:=
 ⟨λi H=>∃ xs ys x y,SqT K H a xs/\SqT K H b ys/\xs[i]?=some x/\ys[i]?=some y,
  λi H x H'=>∃ p v u,H p=none/\x = .ref p/\(∀ xs,SqT K H a xs->xs[i]?=some v)/\(∀ ys,SqT K H b ys->ys[i]?=some u)/\H'=upd H p (.tup [v,u]),
  λi H=>∃ xs,SqT K H a xs/\xs.length=i⟩
theorem Js{z TI TO i1 i2 l1 l2:ZT}(D:ZipApart z TI TO i1 i2 l1 l2):ZipFar z TI TO i1 i2 [i1,l1] [i2,l2] where
 iz:=⟨D.TIz,D.TOz,D.i1z,D.i2z⟩
 im:=⟨D.TITO,D.TIi1,D.TIi2,D.TOi1,D.TOi2,D.i12⟩
 g1:=λc hc=>by
  rcases W5.mp hc with rfl | hc
  ·exact⟨D.i1z,D.TOi1.symm,D.i12⟩
  ·rw[W8.mp hc];exact⟨D.l1z,D.l1TO,D.l1i2⟩
 g2:=λc hc=>by
  rcases W5.mp hc with rfl | hc
  ·exact⟨D.i2z,D.TOi2.symm,D.i12.symm⟩
  ·rw[W8.mp hc];exact⟨D.l2z,D.l2TO,D.l2i1⟩
theorem LN{P:ZX}{w:Za}{K:Vl}{elts:List Expr}{kx:Nat}{tp:Pos}(z TI TO i1 i2 l1 l2:ZT)(D:ZipApart z TI TO i1 i2 l1 l2):Turn P w K (.Tuple elts kx tp) (TQ K l1 l2) [z,TI,TO,i1,i2] z
 (λi h=>IsZip h z TI TO .none/\IsPair h TI (.ref i1) (.ref i2)/\(∃ a b,IsPair h TO a b)/\h.IsTupleIter i1 l1 i/\h.IsTupleIter i2 l2 i) where
 mem:=by simp
 obj:=λi h st b hb=>by
  obtain⟨hz,hTI,⟨a',b',hTO⟩,⟨o1,e1,c1,d1⟩,⟨o2,e2,c2,d2⟩⟩:=st;simp only[W5,XB,or_false]at hb;rcases hb with rfl | rfl | rfl | rfl | rfl
  ·exact⟨_,hz,λv q=>by cases q⟩
  ·exact⟨_,hTI,λv q=>by cases q⟩
  ·exact⟨_,hTO,λv q=>by cases q⟩
  ·exact⟨o1,e1,λv q=>by rw[d1]at q;cases q⟩
  ·exact⟨o2,e2,λv q=>by rw[d2]at q;cases q⟩
 keep:=λi h h' st k=>by
  obtain⟨hz,hTI,⟨a',b',hTO⟩,h1,h2⟩:=st;exact⟨k z (by simp) _ hz,k TI (by simp) _ hTI,⟨a',b',k TO (by simp) _ hTO⟩,h1.at λo q=>k i1 (by simp) o q,h2.at λo q=>k i2 (by simp) o q⟩
 item:=by
  intro X hP hw hK hc i pq s σ H E I hf st hg;subst hP hw hK;obtain⟨xs,ys,x,y,hq1,hq2,hx,hy⟩:=hg;obtain⟨its1,rv1,p1,hz1⟩:=I.tuple hq1;obtain⟨its2,rv2,p2,hz2⟩:=I.tuple hq2;obtain⟨u1,hu1,ru1⟩:=rv1.get hx;obtain⟨u2,hu2,ru2⟩:=rv2.get hy;obtain⟨hz,hTI,hTO,h1,h2⟩:=st;have hs1:i<its1.toArray.size:=by simpa using (gM hu1).1
  have hs2:i<its2.toArray.size:=by simpa using (gM hu2).1
  refine CY (v6 (prog:=X.prog) (w:=X.w) (A:=X.A.in1) (show X.A.in1.handled=none from I.ok.hd hc) i1 l1 D.l1i1 its1.toArray) (v6 (prog:=X.prog) (w:=X.w) (A:=X.A.in1) (show X.A.in1.handled=none from I.ok.hd hc) i2 l2 D.l2i2 its2.toArray) (Js D) hz hTI hTO ⟨h1,p1⟩ ⟨h2,p2⟩ hs1 hs2 λv1 v2 h' tk e1 e2 b1 b2 b3 b4 b5 b6 hk=>?_;have e1:v1=u1:=by have:=e1.symm.trans (show its1.toArray[i]?=some u1 by simpa using hu1);cases this;rfl
  have e2:v2=u2:=by have:=e2.symm.trans (show its2.toArray[i]?=some u2 by simpa using hu2);cases this;rfl
  subst e1 e2;refine⟨_,rfl,?_⟩
  have I1:Inv X pq σ (upd H s.heap.objs.size (.tup [x,y])) {s with heap:=h',toks:=tk}:=
   I.turnLay (t':=tk) (ch:=[z,TI,TO,i1,i2]) (λb o hb q=>hk b o (λe=>hb (by simp[e])) (λe=>hb (by simp[e])) (λe=>hb (by simp[e])) (λe=>hb (by simp[e])) q) hf ⟨FF,[v1,v2],.cons ru1 (.cons ru2 .nil),⟨_,b5,rfl,_,rfl⟩⟩
  have lt1:i1<s.heap.objs.size:=by obtain⟨_,q,_⟩:=h1;exact Vv q
  have lt2:i2<s.heap.objs.size:=by obtain⟨_,q,_⟩:=h2;exact Vv q
  obtain⟨a',b',hTO⟩:=hTO
  have hfp1:∀ b∈[z,TI,TO,i1,i2],FpOk X pq (upd H s.heap.objs.size (.tup [x,y])) b:=λb hb=>by
   obtain⟨f0,f1⟩:=hf b hb
   have hbl:b≠s.heap.objs.size:=by
    simp only[W5,XB,or_false]at hb;rcases hb with rfl | rfl | rfl | rfl | rfl
    ·exact W0 (Vv hz)
    ·exact W0 (Vv hTI)
    ·exact W0 (Vv hTO)
    ·exact W0 lt1
    ·exact W0 lt2
   exact⟨by rw[j8 hbl];exact f0,f1⟩
  refine A0A b1 λh2' hz' hs'=>?_
  have I2:Inv X pq σ (upd H s.heap.objs.size (.tup [x,y])) {s with heap:=h2',toks:=tk}:=
   Inv.turnedL (s:={s with heap:=h',toks:=tk}) (t':=tk) (ch:=[z,TI,TO,i1,i2]) I1 (λb o hb q=>(hs'.2 b (λe=>hb (by simp[e]))).trans q) hfp1
  obtain⟨a2,b2',b2⟩:=b2
  refine⟨.ref s.heap.objs.size,_,I2,rfl,⟨_,x,y,I.fresh,rfl,λzs hy'=>by rw[I.tuple_inj hy' hq1];exact hx,λzs hy'=>by rw[I.tuple_inj hy' hq2];exact hy,rfl⟩,
   ⟨hz',hs'.extBut _ _ D.TIz (hk _ _ D.TIz D.TITO D.TIi1 D.TIi2 hTI),⟨_,_,hs'.extBut _ _ D.TOz b2⟩,b3.1.at λo q=>hs'.extBut _ _ D.i1z q,b4.1.at λo q=>hs'.extBut _ _ D.i2z q⟩,λb hb=>(hfp1 b hb).1⟩
 done:=by
   intro X hP hw hK hc i pq s σ H E I hf st hg;subst hP hw hK;obtain⟨xs,hq1,hx⟩:=hg;obtain⟨its1,rv1,p1,hz1⟩:=I.tuple hq1;obtain⟨hz,hTI,hTO,h1,h2⟩:=st;have hl1:=rv1.length;have hsz:i=its1.toArray.size:=by rw[<-hx,hl1];simp
   subst hsz;refine Cu (v6 (prog:=X.prog) (w:=X.w) (A:=X.A.in1) (show X.A.in1.handled=none from I.ok.hd hc) i1 l1 D.l1i1 its1.toArray) D.i1z (λc hc=>((Js D).g1 c hc).1) hz hTI ⟨h1,p1⟩ λh' hk=>⟨rfl,I.turnedL (t':=s.toks) (ch:=[z,TI,TO,i1,i2]) (λb o hb q=>hk b o (λe=>hb (by simp[e])) (λe=>hb (by simp[e])) q) hf⟩
 self:=λ_ _ _ _ _ st h=>A0o st.1 h
section
variable{X:Cx}
def VB(K:Vl)(ta:TA):TI:=λσ H R=>ta σ H λvs H1=>∃ a b,vs=[.ref a,.ref b]/\(∃ xs,SqT K H1 a xs)/\(∃ ys,SqT K H1 b ys)/\R (TQ K a b) H1
theorem Q6{a b:Expr}{ta:TA}{p pos:Pos}{elts:List Expr}{kx:Nat}{tp:Pos}(hg:Gl X "zip")(hm:X.mg "zip"=none)(ha:PA X [a,b] ta)(hs:Zc [a,b] X.env=[(false,eval a X.env),(false,eval b X.env)]:=by rfl)
 (hs2:Zc [b] X.env=[(false,eval b X.env)]:=by rfl):PI X (.Tuple elts kx tp) (.Call (.Name "zip" p) [a,b] [] pos) (VB X.K ta):=by
 intro pq s σ H R I h;refine Call_ (BF I hg hm GM (PyProof.Rows.callWith_type1 (thn (ha pos pq s σ H _ I h) λus s1 ⟨vs,H1,I1,r1,q1⟩=>?_) (by rw[hs,hs2]) (by rw[hs2];rfl)));obtain⟨l1,l2,e,⟨xs,hq1⟩,⟨ys,hq2⟩,q⟩:=q1;subst e;obtain⟨u1,u2,rfl,r1',r2'⟩:=Vals.two r1;cases r1';cases r2';obtain⟨its1,rv1,p1,hz1⟩:=I1.tuple hq1;obtain⟨its2,rv2,p2,hz2⟩:=I1.tuple hq2;have hl1:@LT.lt Nat _ l1 s1.heap.objs.size:=by obtain⟨o,e,_⟩:=p1;exact Vv e
 have hl2:@LT.lt Nat _ l2 s1.heap.objs.size:=by obtain⟨o,e,_⟩:=p2;exact Vv e
 refine Fe p1 p2 λh' c1 c2 c3 c4 c5 hk=>?_;refine A0o c1 ?_;have I2:Inv X pq σ H1 {s1 with heap:=h'}:=I1.kept (t':=s1.toks) hk;refine⟨s1.heap.objs.size+4,[s1.heap.objs.size+4,s1.heap.objs.size+2,s1.heap.objs.size+3,s1.heap.objs.size,s1.heap.objs.size+1],_,_,H1,rfl,I2,LN _ _ _ _ _ l1 l2 ?_,⟨c1,c2,c3,c4,c5⟩,λb hb=>?_,q⟩
 ·constructor<;>(show @Ne Nat _ _)<;>omega
 ·have hb2:@LE.le Nat _ s1.heap.objs.size b:=by
   simp only[W5,XB,or_false]at hb;rcases hb with rfl | rfl | rfl | rfl | rfl
   ·exact XC _ _
   ·exact XC _ _
   ·exact XC _ _
   ·exact Vt _
   ·exact XC _ _
  exact I1.fpOk hb2 (I1.hok.fresh hb2)
end
end L2
namespace Rf
open PySem L2
noncomputable def Eu(K:Vl)(g:Tg):TG:=λv σ H Q=>∃ as ρ S x,Ok K as H S/\EnvOk K as H σ ρ/\Rl K as H v x/\wTg g x ρ λρ'=>∀ σ',EnvOk K as H σ' ρ'->Q σ' H
noncomputable def TR(K:Vl)(g:Tgs):TGs:=λvs σ H Q=>∃ as ρ S xs,Ok K as H S/\EnvOk K as H σ ρ/\RlAll K as H vs xs/\Ar g xs ρ λρ'=>∀ σ',EnvOk K as H σ' ρ'->Q σ' H
mutual
theorem AL:∀(g:Tg) {x:SV} {ρ:EnvS} {P P':EnvS->Prop},(∀ r,P r->P' r)->wTg g x ρ P->wTg g x ρ P'
 | .nm i,x,ρ,P,P',h,q=>by unfold wTg at q ⊢;exact h _ q
 | .tup ts,x,ρ,P,P',h,q=>by
   cases x with
   | tup xs=>unfold wTg at q ⊢;exact Gy ts h q
   | _=>unfold wTg at q;exact q.elim
theorem Gy:∀(g:Tgs) {x:List SV} {ρ:EnvS} {P P':EnvS->Prop},(∀ r,P r->P' r)->Ar g x ρ P->Ar g x ρ P'
 | .nil,x,ρ,P,P',h,q=>by
   cases x with
   | nil=>unfold Ar at q ⊢;exact h _ q
   | cons _ _=>unfold Ar at q;exact q.elim
 | .cons t ts,x,ρ,P,P',h,q=>by
   cases x with
   | nil=>unfold Ar at q;exact q.elim
   | cons y ys=>unfold Ar at q ⊢;exact AL t (λr q=>Gy ts h q) q
end
theorem Bk{env:Env}:∀{es:List Expr},es.all i4=true->(Zw es env).length=es.length/\(Zw es env).findIdx? (·.1)=none/\∀ e r,es=e::r->(Zw (e::r) env).map (·.2)=assign e env::(Zw r env).map (·.2)
 | [],_=>⟨rfl,rfl,λe r h=>by cases h⟩
 | e::es,h=>by
   rw[X0,Vn]at h;obtain⟨h1,h2,_⟩:=Bk (env:=env) h.2;have:Zw (e::es) env=(false,assign e env)::Zw es env:=by cases e<;>first | rfl | (have:=h.1;cases this)
   rw[this];refine⟨by simp[h1],by rw[List.findIdx?_cons,h2];rfl,λe' r z=>?_⟩;injection z with z1 z2;subst z1 z2;rw[this];rfl
theorem Cv{k:Nat}{N:List Str}{sc:Zf}:∀{g:Tgs} {es:List Expr},Ai k N sc g es=true->es.all i4=true
 | .nil,es,h=>by unfold Ai at h;rw[Wc]at h;subst h;rfl
 | .cons t ts,es,h=>by
   rw[Ai]at h;replace h:=c8 h;obtain⟨e,he,h⟩:=h;simp only[Vn]at h;rw[Av he,X0,h.1.2,Cv h.2];rfl
section
variable{X:Cx}{T:List Str}{Δ:Nat->Sn}{k:Nat}{N:List Str}{sc:Zf}
mutual
theorem Bm(C:Cok T Δ X k N sc):∀(g:Tg) (r:Expr),Bh k N sc g r=true->PG X r (Eu X.K g)
 | .nm i,r,h=>by
   rw[Bh]at h;replace h:=c8 h;obtain⟨x,hx,h⟩:=h;obtain⟨p,rfl⟩:=Ag hx
   ·simp only[Vn,dQ]at h;obtain⟨⟨h1,h2⟩,h3⟩:=h;unfold loc at h3;simp only[Wg,beq_iff_eq]at h3;have hl:Loc X.env.scope x:=by rw[C.hs];exact h3
    have hf:X.fn x=true\/X.env.scope.names.lookup x=some .local:=by
     rw[C.hs];rcases h3 with h3 | h3
     ·exact .inr h3
     ·exact .inl (C.fn i x h1 h2 h3)
    have b:=Oy (X:=X) (pos:=p) (i:=i) (by rw[C.hN];exact C.nd) (by rw[C.hN];exact h2) hl hf;intro pq s σ H v u Q I rr hq;obtain⟨as,ρ,S,y,ok,en,rv,q⟩:=hq;unfold wTg at q;exact b pq s σ H v u Q I rr (q _ (en.set rv))
 | .tup ts,r,h=>by
   rw[Bh]at h;replace h:=c8 h;obtain⟨es,he,h⟩:=h;obtain⟨j,p,rfl⟩:=At he
   ·have st:=Bk (env:=X.env) (Cv h);have b:=MB (X:=X) (k:=j) (pos:=p) C.calm (Ev C ts es h) st.1 st.2.1;intro pq s σ H v u Q I rr hq;refine b pq s σ H v u Q I rr ?_;obtain⟨as,ρ,S,y,ok,en,rv,q⟩:=hq;cases y with
    | tup xs=>
      obtain⟨a,vs,rfl,ha,ra⟩:=rl_tup.mp rv;unfold wTg at q;refine⟨a,vs,rfl,SqT.of ha,?_,as,ρ,S,xs,ok,en,ra,q⟩;rw[ra.length];exact Jt ts es xs h q
    | _=>unfold wTg at q;exact q.elim
theorem Ev(C:Cok T Δ X k N sc):∀(g:Tgs) (es:List Expr),Ai k N sc g es=true->PGs X es (TR X.K g)
 | .nil,es,h=>by
   rw[Ai]at h;rw[Wc]at h;subst h;intro pq s σ H vs us Q I rr hq;refine JH pq s σ H vs us Q I rr ?_;obtain⟨as,ρ,S,xs,ok,en,rv,q⟩:=hq;cases xs with
   | nil=>unfold Ar at q;exact⟨rla_nil.mp rv,q _ en⟩
   | cons _ _=>unfold Ar at q;exact q.elim
 | .cons t ts,el,h=>by
   have st:=Bk (env:=X.env) (Cv h);rw[Ai]at h;replace h:=c8 h;obtain⟨e,he,h⟩:=h;simp only[Vn]at h;rw[Av he]at st ⊢;generalize el.tail=es at h st;intro pq s σ H vs us Q I rr hq;refine DT (Bm C t e h.1.1) (Ev C ts es h.2) (st.2.2 _ _ rfl) pq s σ H vs us Q I rr ?_;obtain⟨as,ρ,S,xs,ok,en,rv,q⟩:=hq;cases xs with
   | nil=>unfold Ar at q;exact q.elim
   | cons y ys=>
     unfold Ar at q;obtain⟨v,r,rfl,r1,r2⟩:=rla_cons.mp rv;exact⟨v,r,rfl,as,ρ,S,y,ok,en,r1,AL t (λρ' q σ' en'=>⟨as,ρ',S,ys,ok,en',r2,q⟩) q⟩
theorem Jt:∀(g:Tgs) (es:List Expr) (xs:List SV) {ρ:EnvS} {P:EnvS->Prop},Ai k N sc g es=true->Ar g xs ρ P->xs.length=es.length
 | .nil,es,xs,ρ,P,h,q=>by
   rw[Ai]at h;rw[Wc]at h;subst h;cases xs with
   | nil=>rfl
   | cons _ _=>unfold Ar at q;exact q.elim
 | .cons t ts,el,xs,ρ,P,h,q=>by
   rw[Ai]at h;replace h:=c8 h;obtain⟨e,he,h⟩:=h;simp only[Vn]at h;rw[Av he];generalize el.tail=es at h;cases xs with
   | nil=>unfold Ar at q;exact q.elim
   | cons y ys=>
     unfold Ar at q;obtain⟨ρ',q'⟩:=Ju t q;simp[Jt ts es ys h.2 q']
theorem Ju:∀(g:Tg) {x:SV} {ρ:EnvS} {P:EnvS->Prop},wTg g x ρ P->∃ ρ',P ρ'
 | .nm i,x,ρ,P,q=>by unfold wTg at q;exact⟨_,q⟩
 | .tup ts,x,ρ,P,q=>by
   cases x with
   | tup xs=>unfold wTg at q;exact Gz ts q
   | _=>unfold wTg at q;exact q.elim
theorem Gz:∀(g:Tgs) {xs:List SV} {ρ:EnvS} {P:EnvS->Prop},Ar g xs ρ P->∃ ρ',P ρ'
 | .nil,xs,ρ,P,q=>by
   cases xs with
   | nil=>unfold Ar at q;exact⟨_,q⟩
   | cons _ _=>unfold Ar at q;exact q.elim
 | .cons t ts,xs,ρ,P,q=>by
   cases xs with
   | nil=>unfold Ar at q;exact q.elim
   | cons y ys=>
     unfold Ar at q;obtain⟨ρ',q'⟩:=Ju t q;exact Gz ts q'
end
end
structure Gu(as:List ZT)(H:Hp)(as':List ZT)(H':Hp):Prop where
 pre:as <+: as'
 kp:KeepU H H'
theorem Gu.ku{K:Vl}{as as':List ZT}{H H':Hp}{S:Sto}(g:Gu as H as' H')(_:Ok K as H S):KeepU H H':=g.kp
theorem Go.gu{K:Vl}{as as':List ZT}{H H':Hp}{S:Sto}(g:Go as H as' H')(ok:Ok K as H S):Gu as H as' H':=⟨g.pre,g.ku ok⟩
noncomputable def Walks(K:Vl)(as0:List ZT)(H0:Hp)(J:It)(keep:Sto->Prop)(xs:List SV):Prop:=∀ as H S,Gu as0 H0 as H->Ok K as H S->keep S->
 (∀(i:Nat) (x:SV),xs[i]?=some x->J.go i H/\∀ v H',J.yld i H v H'->Go as H as H'/\Ok K as H' S/\Rl K as H' v x)/\J.stop xs.length H
noncomputable def VC(K:Vl)(as:List ZT)(H:Hp)(R:It->Hp->Prop):(Sto->Prop)->List SV->Sto->Prop:=λkeep xs S1=>∀ as1 H1 J,Go as H as1 H1->Ok K as1 H1 S1->Walks K as1 H1 J keep xs->R J H1
noncomputable def liftI(K:Vl)(w:WI):TI:=λσ H R=>∃ as ρ S,Ok K as H S/\EnvOk K as H σ ρ/\w ρ S (VC K as H R)
def MonoI(w:WI):Prop:=∀ ρ S (P P':(Sto->Prop)->List SV->Sto->Prop),(∀ k x S',P k x S'->P' k x S')->w ρ S P->w ρ S P'
structure GoodI(X:Cx)(tg r:Expr)(w:WI):Prop where
 pi:PI X tg r (liftI X.K w)
 m:MonoI w
section
variable{X:Cx}{K:Vl}
theorem CZ{as0 as:List ZT}{H0 H:Hp}{S1 S:Sto}{x:SV}{v:V}{xs:List SV}(ok1:Ok K as0 H0 S1)(r:Rl K as0 H0 v x)(h:seqS x S1=some xs)(g:Gu as0 H0 as H)(ok:Ok K as H S)(kp:keepS x S1 S):Rl K as H v x/\seqS x S=some xs:=by
 refine⟨Rl.mono g.pre (g.ku ok1) x v r,?_⟩;cases x with
 | loc k=>
   have kp:S[k]?=S1[k]?:=kp;unfold seqS at h ⊢;simp only[kp];exact h
 | _=>exact h
theorem LO{as0:List ZT}{H0:Hp}{S1:Sto}{x:SV}{a:ZT}{xs:List SV}(ok1:Ok K as0 H0 S1)(r:Rl K as0 H0 (.ref a) x)(n:x ≠ .tup xs)(h:seqS x S1=some xs):Walks K as0 H0 (Itl K a) (keepS x S1) xs:=λas H S g ok kp=>by
 obtain⟨r',h'⟩:=CZ ok1 r h g ok kp;obtain⟨b,vs,e,hq,rr⟩:=y6 ok r' n h';cases e;refine⟨λi y hy=>?_,vs,hq,by rw[rr.length];exact Vt _⟩;obtain⟨v,hv,rv⟩:=rr.get hy;refine⟨⟨vs,v,hq,hv⟩,λu H' yl=>?_⟩;obtain⟨e,yl⟩:=yl;subst e;have:=yl vs hq;rw[hv]at this;cases this;exact⟨Go.refl _ _,ok,rv⟩
theorem NY{as0:List ZT}{H0:Hp}{S1:Sto}{a:ZT}{xs:List SV}(ok1:Ok K as0 H0 S1)(r:Rl K as0 H0 (.ref a) (.tup xs)):Walks K as0 H0 (Itt K a) (keepS (.tup xs) S1) xs:=λas H S g ok kp=>by
 have r':=Rl.mono g.pre (g.ku ok1) _ _ r;obtain⟨b,vs,e,hb,rr⟩:=rl_tup.mp r';cases e;refine⟨λi y hy=>?_,vs,SqT.of hb,by rw[rr.length];exact Vt _⟩;obtain⟨v,hv,rv⟩:=rr.get hy;refine⟨⟨vs,v,SqT.of hb,hv⟩,λu H' yl=>?_⟩;obtain⟨e,yl⟩:=yl;subst e;have:=yl vs (SqT.of hb);rw[hv]at this;cases this;exact⟨Go.refl _ _,ok,rv⟩
theorem NZ{as0:List ZT}{H0:Hp}{lo hi:Int}:Walks K as0 H0 (Itr lo (hi - lo).toNat) (λ_=>True) (CC lo hi):=λas H S g ok _=>by
 have hl:(CC lo hi).length=(hi - lo).toNat:=by unfold CC;simp
 refine⟨λi y hy=>?_,by show(hi - lo).toNat<=(CC lo hi).length;rw[hl];exact Vt _⟩;have hi':i<(hi - lo).toNat:=by rw[<-hl];exact(gM hy).1
 refine⟨hi',λu H' yl=>?_⟩;obtain⟨e,rfl⟩:=yl;subst e
 have:y = .int (lo+i):=by
  unfold CC at hy;rw[Vu,Wm hi']at hy;exact(oj hy).symm
 subst this;exact⟨Go.refl _ _,ok,rl_int.mpr rfl⟩
theorem HA{xs:List SV}{i:Nat}{y:SV}(h:(Bf xs)[i]?=some y):∃ x,xs[i]?=some x/\y = .tup [.int i,x]:=by
 unfold Bf at h;rw[Xs]at h;cases h1:(W4 xs.length)[i]? with
 | none=>rw[h1]at h;cases h
 | some j=>
   cases h2:xs[i]? with
   | none=>rw[h1,h2]at h;cases h
   | some x=>
     rw[h1,h2]at h;have hi:=(gM h2).1;rw[Wm hi]at h1;cases h1;cases h;exact⟨x,rfl,rfl⟩
theorem HB{xs:List SV}:(Bf xs).length=xs.length:=by unfold Bf;simp
theorem Io{as0:List ZT}{H0:Hp}{S1:Sto}{x:SV}{a:ZT}{xs:List SV}(ok1:Ok K as0 H0 S1)(r:Rl K as0 H0 (.ref a) x)(n:x ≠ .tup xs)(h:seqS x S1=some xs):Walks K as0 H0 (SX K a) (keepS x S1) (Bf xs):=λas H S g ok kp=>by
 obtain⟨r',h'⟩:=CZ ok1 r h g ok kp;obtain⟨b,vs,e,hq,rr⟩:=y6 ok r' n h';cases e;refine⟨λi y hy=>?_,vs,hq,by rw[rr.length,HB]⟩;obtain⟨z,hz,rfl⟩:=HA hy;obtain⟨v,hv,rv⟩:=rr.get hz;refine⟨⟨vs,v,hq,hv⟩,λu H' yl=>?_⟩;obtain⟨p,w,hp,rfl,yl,rfl⟩:=yl;have:=yl vs hq;rw[hv]at this;cases this;exact⟨Go.new hp,ok.new hp,rl_tup.mpr ⟨p,_,rfl,p5,.cons (rl_int.mpr rfl) (.cons (Rl.mono (WN _) (y0 hp) z v rv) .nil)⟩⟩
theorem Ip{as0:List ZT}{H0:Hp}{S1:Sto}{a:ZT}{xs:List SV}(ok1:Ok K as0 H0 S1)(r:Rl K as0 H0 (.ref a) (.tup xs)):Walks K as0 H0 (SY K a) (keepS (.tup xs) S1) (Bf xs):=λas H S g ok kp=>by
 have r':=Rl.mono g.pre (g.ku ok1) _ _ r;obtain⟨b,vs,e,hb,rr⟩:=rl_tup.mp r';cases e;refine⟨λi y hy=>?_,vs,SqT.of hb,by rw[rr.length,HB]⟩;obtain⟨z,hz,rfl⟩:=HA hy;obtain⟨v,hv,rv⟩:=rr.get hz;refine⟨⟨vs,v,SqT.of hb,hv⟩,λu H' yl=>?_⟩;obtain⟨p,w,hp,rfl,yl,rfl⟩:=yl;have:=yl vs (SqT.of hb);rw[hv]at this;cases this;exact⟨Go.new hp,ok.new hp,rl_tup.mpr ⟨p,_,rfl,p5,.cons (rl_int.mpr rfl) (.cons (Rl.mono (WN _) (y0 hp) z v rv) .nil)⟩⟩
theorem TU{tg l:Expr}{w1 w2:TI}(h1:PI X tg l w1)(h2:PI X tg l w2):PI X tg l (λσ H R=>w1 σ H R\/w2 σ H R):=λpq s σ H R I h=>h.elim (h1 pq s σ H R I) (h2 pq s σ H R I)
theorem Ff{tg l:Expr}{w:TI}(w':TI)(h:PI X tg l w)(imp:∀ σ H R,w' σ H R->w σ H R):PI X tg l w':=λpq s σ H R I hw=>h pq s σ H R I (imp σ H R hw)
def Vk(K:Vl)(tl:TE):TI:=λσ H R=>tl σ H λx H1=>∃ a,x = .ref a/\(((∃ xs,SqL K H1 a xs)/\R (Itl K a) H1)\/((∃ xs,SqT K H1 a xs)/\R (Itt K a) H1))
theorem TV{tg l:Expr}{tl:TE}(hl:PE X l tl):PI X tg l (Vk X.K tl):=by
 intro pq s σ H R I h;refine thn (hl pq s σ H _ I h) λv s1 ⟨x,H1,I1,r1,q1⟩=>?_;obtain⟨a,e,q⟩:=q1;subst e;cases r1;have I2:∀{ob:Obj},Inv X pq σ H1 {s1 with heap:=s1.heap.push ob}:=I1.kept (t':=s1.toks) λb o e=>Vs _ e
 have fp:∀ b∈[s1.heap.objs.size],FpOk X pq H1 b:=λb hb=>by
  rw[W8.mp hb];exact I1.fpOk (Vt _) (I1.hok.fresh (Vt _))
 rcases q with⟨⟨xs,hq⟩,q⟩ | ⟨⟨xs,hq⟩,q⟩
 ·obtain⟨its,rv,p,hz⟩:=I1.list hq;exact Zz p.isList ⟨s1.heap.objs.size,[s1.heap.objs.size],_,_,H1,rfl,I2,Kd a _,⟨_,W3 _ rfl,rfl,rfl⟩,fp,q⟩
 ·obtain⟨its,rv,p,hz⟩:=I1.tuple hq;exact Zr (show s1.heap.IsTuple a its.toArray from p) ⟨s1.heap.objs.size,[s1.heap.objs.size],_,_,H1,rfl,I2,Ht a _,⟨_,W3 _ rfl,rfl,rfl⟩,fp,q⟩
theorem LP{tg r:Expr}{a:WE×WT}(ha:Good X r a):GoodI X tg r (RA a.1) where
 m:=λρ S P P' i h=>ha.m _ _ _ _ (λx S1 ⟨xs,e,q⟩=>⟨xs,e,i _ _ _ q⟩) h
 pi:=Ff _ (TV ha.pe) (by
  rintro σ H R ⟨as,ρ,S,ok,en,h⟩;refine⟨as,ρ,S,ok,en,ha.m _ _ _ _ (λx S1 ⟨xs,e,q⟩ as1 H1 v g1 ok1 rv=>?_) h⟩;by_cases ht:x = .tup xs
  ·subst ht;obtain⟨p,vs,rfl,hp,rr⟩:=rl_tup.mp rv;exact⟨p,rfl,.inr ⟨⟨vs,SqT.of hp⟩,q as1 H1 _ g1 ok1 (NY ok1 rv)⟩⟩
  ·obtain⟨p,vs,rfl,hq,rr⟩:=y6 ok1 rv ht e;exact⟨p,rfl,.inl ⟨⟨vs,hq⟩,q as1 H1 _ g1 ok1 (LO ok1 rv ht e)⟩⟩)
theorem Iq{T:List Str}{Δ:Nat->Sn}{k:Nat}{N:List Str}{sc:Zf}{elts:List Expr}{kx:Nat}{tp p q:Pos}{r:Expr}{a:WE×WT}(C:Cok T Δ X k N sc)(hg:glo sc "enumerate"=true)(ha:Good X r a)(hs:i4 r=true):GoodI X (.Tuple elts kx tp) (.Call (.Name "enumerate" p) [r] [] q) (N5 a.1) where
 m:=λρ S P P' i h=>ha.m _ _ _ _ (λx S1 ⟨xs,e,q⟩=>⟨xs,e,i _ _ _ q⟩) h
 pi:=by
  unfold glo at hg;simp only[Vn,beq_iff_eq,WK]at hg;have gl:Gl X "enumerate":=by show X.env.scope.names.lookup ("enumerate":Str)=_;rw[C.hs];exact hg.1.1
  refine Ff _ (PJ gl C.enm (AH ha.pe BH (j4 hs)) (j4 hs)) ?_;rintro σ H R ⟨as,ρ,S,ok,en,h⟩;refine⟨as,ρ,S,ok,en,ha.m _ _ _ _ (λx S1 ⟨xs,e,q⟩ as1 H1 v g1 ok1 rv=>?_) h⟩;by_cases ht:x = .tup xs
  ·subst ht;obtain⟨p,vs,rfl,hp,rr⟩:=rl_tup.mp rv;exact⟨p,rfl,.inr ⟨⟨vs,SqT.of hp⟩,q as1 H1 _ g1 ok1 (Ip ok1 rv)⟩⟩
  ·obtain⟨p,vs,rfl,hq,rr⟩:=y6 ok1 rv ht e;exact⟨p,rfl,.inl ⟨⟨vs,hq⟩,q as1 H1 _ g1 ok1 (Io ok1 rv ht e)⟩⟩
theorem Ir{T:List Str}{Δ:Nat->Sn}{k:Nat}{N:List Str}{sc:Zf}{tg r:Expr}{p q:Pos}{a:WE×WT}(C:Cok T Δ X k N sc)(hg:glo sc "range"=true)(ha:Good X r a)(hs:i4 r=true):GoodI X tg (.Call (.Name "range" p) [r] [] q) (N4 a.1) where
 m:=λρ S P P' i h=>ha.m _ _ _ _ (λx S1 ⟨j,e,z,q⟩=>⟨j,e,z,i _ _ _ q⟩) h
 pi:=by
  unfold glo at hg;simp only[Vn,beq_iff_eq,WK]at hg;have gl:Gl X "range":=by show X.env.scope.names.lookup ("range":Str)=_;rw[C.hs];exact hg.1.1
  refine Ff _ (Ke gl C.rng (AH ha.pe BH (j4 hs)) (j4 hs)) ?_;rintro σ H R ⟨as,ρ,S,ok,en,h⟩;refine⟨as,ρ,S,ok,en,ha.m _ _ _ _ (λx S1 ⟨j,e,z,q⟩ as1 H1 v g1 ok1 rv=>?_) h⟩;subst e;refine⟨j,by rw[rl_int.mp rv],z.1,z.2,?_⟩;have:=q as1 H1 (Itr 0 (j - 0).toNat) g1 ok1 NZ
  rwa [Int.sub_zero]at this
theorem Fg{xs ys:List SV}{i:Nat}{z:SV}(h:(IT xs ys)[i]?=some z):∃ x y,xs[i]?=some x/\ys[i]?=some y/\z = .tup [x,y]:=by
 unfold IT at h;rw[Xs]at h;cases h1:xs[i]? with
 | none=>rw[h1]at h;cases h
 | some x=>
   cases h2:ys[i]? with
   | none=>rw[h1,h2]at h;cases h
   | some y=>
     rw[h1,h2]at h;cases h;exact⟨x,y,rfl,rfl,rfl⟩
theorem Jv{xs ys:List SV}(h:xs.length=ys.length):(IT xs ys).length=xs.length:=by unfold IT;simp[h]
theorem LQ{as0:List ZT}{H0:Hp}{S1:Sto}{x y:SV}{a b:ZT}{xs ys:List SV}(ok1:Ok K as0 H0 S1)(rx:Rl K as0 H0 (.ref a) x)(ry:Rl K as0 H0 (.ref b) y)(nx:x ≠ .tup xs)(ny:y ≠ .tup ys)(hx:seqS x S1=some xs)(hy:seqS y S1=some ys)(hl:xs.length=ys.length):Walks K as0 H0 (Itz K a b) (λS'=>keepS x S1 S'/\keepS y S1 S') (IT xs ys):=λas H S g ok kp=>by
 obtain⟨r1,h1⟩:=CZ ok1 rx hx g ok kp.1;obtain⟨r2,h2⟩:=CZ ok1 ry hy g ok kp.2;obtain⟨_,vs,e,hq,rr⟩:=y6 ok r1 nx h1;cases e;obtain⟨_,us,e,hq2,rr2⟩:=y6 ok r2 ny h2;cases e;refine⟨λi z hz=>?_,vs,us,hq,hq2,.inl (by rw[rr.length,Jv hl];exact Vt _)⟩;obtain⟨p,q,hp,hq',rfl⟩:=Fg hz;obtain⟨v,hv,rv⟩:=rr.get hp;obtain⟨u,hu,ru⟩:=rr2.get hq';refine⟨⟨vs,us,v,u,hq,hq2,hv,hu⟩,λw H' yl=>?_⟩;obtain⟨n,v',u',hn,rfl,y1,y2,rfl⟩:=yl;have e1:=y1 vs hq;have e2:=y2 us hq2;rw[hv]at e1;cases e1;rw[hu]at e2;cases e2;exact⟨Go.new hn,ok.new hn,rl_tup.mpr ⟨n,_,rfl,p5,.cons (Rl.mono (WN _) (y0 hn) p v rv) (.cons (Rl.mono (WN _) (y0 hn) q u ru) .nil)⟩⟩
theorem LR{as0:List ZT}{H0:Hp}{S1:Sto}{a b:ZT}{xs ys:List SV}{kp:Sto->Prop}(ok1:Ok K as0 H0 S1)(rx:Rl K as0 H0 (.ref a) (.tup xs))(ry:Rl K as0 H0 (.ref b) (.tup ys))(hl:xs.length=ys.length):Walks K as0 H0 (TQ K a b) kp (IT xs ys):=λas H S g ok _=>by
 obtain⟨_,vs,e,hb,rr⟩:=rl_tup.mp (Rl.mono g.pre (g.ku ok1) _ _ rx);cases e;obtain⟨_,us,e,hb2,rr2⟩:=rl_tup.mp (Rl.mono g.pre (g.ku ok1) _ _ ry);cases e;have hq:SqT K H a vs:=SqT.of hb;have hq2:SqT K H b us:=SqT.of hb2;refine⟨λi z hz=>?_,vs,hq,by rw[rr.length,Jv hl]⟩;obtain⟨p,q,hp,hq',rfl⟩:=Fg hz;obtain⟨v,hv,rv⟩:=rr.get hp;obtain⟨u,hu,ru⟩:=rr2.get hq';refine⟨⟨vs,us,v,u,hq,hq2,hv,hu⟩,λw H' yl=>?_⟩;obtain⟨n,v',u',hn,rfl,y1,y2,rfl⟩:=yl;have e1:=y1 vs hq;have e2:=y2 us hq2;rw[hv]at e1;cases e1;rw[hu]at e2;cases e2;exact⟨Go.new hn,ok.new hn,rl_tup.mpr ⟨n,_,rfl,p5,.cons (Rl.mono (WN _) (y0 hn) p v rv) (.cons (Rl.mono (WN _) (y0 hn) q u ru) .nil)⟩⟩
theorem LS{T:List Str}{Δ:Nat->Sn}{k:Nat}{N:List Str}{sc:Zf}{elts:List Expr}{kx i j:Nat}{tp p q p1 p2:Pos}{y z:Str}(C:Cok T Δ X k N sc)(hg:glo sc "zip"=true)(h1:PE X (.Name y p1) (GF i))(h2:PE X (.Name z p2) (GF j)):GoodI X (.Tuple elts kx tp) (.Call (.Name "zip" p) [.Name y p1,.Name z p2] [] q) (RB i j) where
 m:=λρ S P P' i h=>let ⟨x,y,xs,ys,a,b,c,d,e,f,q⟩:=h;⟨x,y,xs,ys,a,b,c,d,e,f,i _ _ _ q⟩
 pi:=by
  unfold glo at hg;simp only[Vn,beq_iff_eq,WK]at hg;have gl:Gl X "zip":=by show X.env.scope.names.lookup ("zip":Str)=_;rw[C.hs];exact hg.1.1
  have pa:PA X [.Name y p1,.Name z p2] (DV (GF i) (DV (GF j) P7)):=AH h1 (AH h2 BH rfl) rfl;refine Ff _ (TU (SZ gl C.zip pa rfl rfl) (Q6 gl C.zip pa rfl rfl)) ?_;rintro σ H R ⟨as,ρ,S,ok,en,x,y,xs,ys,ex,ey,hx,hy,ht,hl,h⟩;obtain⟨v,ev,rv⟩:=en.2 _ _ ex;obtain⟨u,eu,ru⟩:=en.2 _ _ ey;by_cases hxt:x = .tup xs
  ·subst hxt;have:∃ zs,y = .tup zs:=by cases y<;>first | (cases ht;done) | exact⟨_,rfl⟩
   obtain⟨zs,rfl⟩:=this;cases hy;obtain⟨a,vs,rfl,ha,_⟩:=rl_tup.mp rv;obtain⟨b,us,rfl,hb,_⟩:=rl_tup.mp ru;exact .inr ⟨_,ev,_,eu,a,b,rfl,⟨vs,SqT.of ha⟩,⟨us,SqT.of hb⟩,h as H _ (Go.refl _ _) ok (LR ok rv ru hl)⟩
  ·have hyt:y ≠ .tup ys:=λz=>by
    subst z;have:∃ zs,x = .tup zs:=by cases x<;>first | (cases ht;done) | exact⟨_,rfl⟩
    obtain⟨zs,rfl⟩:=this;cases hx;exact hxt rfl
   obtain⟨a,vs,rfl,ha,_⟩:=y6 ok rv hxt hx;obtain⟨b,us,rfl,hb,_⟩:=y6 ok ru hyt hy;exact .inl ⟨_,ev,_,eu,a,b,rfl,⟨vs,ha⟩,⟨us,hb⟩,h as H _ (Go.refl _ _) ok (LQ ok rv ru hxt hyt hx hy hl)⟩
end
end Rf
namespace L2
open PySem PySem.Spec PyProof.Rows
noncomputable def SetXO(prog:ZX)(w:Za)(o:Obj)(L:List Int):Prop:=
 ∃ es ep t,o.ExactSet/\o.data = .set es ep t/\ElemsOf (intKind prog w) es.toList/\es.size<scanBound/\t.fits es.size=true/\Tab w t/\(es.toList.map λe=>numOf e.2).Perm L
theorem SetXO.at{prog:ZX}{w:Za}{o:Obj}{L:List Int}{h:Heap}{a:ZT}(x:SetXO prog w o L)(e:h.get? a=some o):SetX prog w h a L:=let ⟨es,ep,t,r⟩:=x;⟨o,es,ep,t,e,r⟩
theorem SetX.obj{prog:ZX}{w:Za}{L:List Int}{h:Heap}{a:ZT}(x:SetX prog w h a L):∃ o,h.get? a=some o/\SetXO prog w o L:=let ⟨o,es,ep,t,e,r⟩:=x;⟨o,e,es,ep,t,r⟩
end L2
namespace Rf
open PySem L2
theorem LU{α:Type}{o:Option (Option α)}{x:α}(h:o.join=some x):o=some (some x):=by
 cases o with
 | none=>cases h
 | some o=>cases o with
   | none=>cases h
   | some y=>cases h;rfl
theorem EnvOk.cap{K:Vl}{as:List ZT}{H:Hp}{σ:St}{ρ:EnvS}(h:EnvOk K as H σ ρ)(k:Nat)(js:List Nat):EnvOk K as H (BV k js σ) (Gc k js ρ):=by
 refine⟨by unfold BV Gc;simp,λi x e=>?_⟩;unfold Gc at e;unfold BV;by_cases hi:i<k
 ·rw[W6 (by simpa using hi),X5,iP hi]at e;cases e
 ·rw[We (by simpa using hi),Wj,Vu]at e;rw[We (by simpa using hi),Wj,Vu];cases hj:js[i - k]? with
  | none=>rw[hj]at e;cases e
  | some j=>
    rw[hj]at e;have e':(ρ[j]?).join=some x:=oj e;obtain⟨v,hv,rv⟩:=h.2 j x (LU e');exact⟨v,by simp only[XA];rw[hv];rfl,rv⟩
theorem Ok.adopt{K:Vl}{as:List ZT}{H:Hp}{S:Sto}{D:ZT}{vs:List V}{xs:List SV}(h:Ok K as H S)(n:D∉as)(hD:H D=some (.lst vs))(r:RlAll K as H vs xs):Ok K (as++[D]) H (S++[.lst xs]):=by
 have pre:as <+: as++[D]:=Xb _ _;refine⟨by rw[Vo,Vo,h.len];rfl,?_,λk o a e ea=>?_⟩
 ·rw[XU];refine⟨h.nd,by simp,λa ha b hb=>?_⟩;rw[W8.mp hb];intro z;subst z;exact n ha
 ·by_cases hk:k<S.length
  ·rw[W6 hk]at e;rw[W6 (by rw[h.len];exact hk)]at ea;exact(h.obj k o a e ea).mono pre (KeepU.refl _) λ_ z=>z
  ·have hk':k=S.length:=by
    have:=(gM e).1;rw[Vo,Wk]at this;omega
   subst hk';rw[WL]at e;rw[<-h.len,WL]at ea;cases e;cases ea;exact⟨vs,hD,RlAll.mono pre (KeepU.refl _) xs vs r⟩
theorem CG{keep:Sto->Prop}{g:Tg}{t:WT}{e:WE}{ρ:EnvS}(mt:MonoT t)(me:Mono e){Q Q':List SV->Sto->Prop}(i:∀ ys S,Q ys S->Q' ys S):∀(xs ys:List SV) (S:Sto),A0 keep g t e ρ Q xs ys S->A0 keep g t e ρ Q' xs ys S
 | [],ys,S,h=>by unfold A0 at h ⊢;exact⟨h.1,i _ _ h.2⟩
 | x::xs,ys,S,h=>by
   unfold A0 at h ⊢;refine⟨h.1,AL g (λρ2 q=>mt _ _ _ _ (λb S1 q=>t9 (λq=>me _ _ _ _ (λy S2 q=>⟨q.1,CG mt me i xs _ _ q.2⟩) q) (λq=>CG mt me i xs _ _ q) q) q) h.2⟩
theorem Mono.comp{k:Nat}{js:List Nat}{g:Tg}{i:WI}{t:WT}{e:WE}(mi:MonoI i)(mt:MonoT t)(me:Mono e):Mono (Ji k js g i t e):=λρ S P P' im h=>mi _ _ _ _ (λkeep xs S1 h=>CG mt me (λys S2 q=>im _ _ q) xs [] S1 h) h
theorem HC{K:Vl}{k:Nat}{js:List Nat}{g:Tg}{i:WI}{t:WT}{e:WE}(mi:MonoI i)(mt:MonoT t)(me:Mono e):∀ σ H Q,lift K (Ji k js g i t e) σ H Q->MX (liftI K i) (Eu K g) (liftT K t) (lift K e) k js σ H Q:=by
 rintro σ H Q ⟨as,ρ,S,ok,en,h⟩;refine⟨as,ρ,S,ok,en,mi _ _ _ _ (λkeep xs S1 h as1 H1 J g1 ok1 W=>?_) h⟩;intro D hD;have Dn:D∉as1:=ok1.free hD
 refine⟨λi m vs H2=>m=xs.length - i/\i<=xs.length/\∃ as2 S2 ys,Go as1 H1 as2 H2/\Ok K as2 H2 S2/\D∉as2/\H2 D=some (.lst vs)/\RlAll K as2 H2 vs ys/\
  A0 keep g t e (Gc k js ρ) (λys S2=>Post K as H Q (.loc S2.length) (S2++[.lst ys])) (xs.drop i) ys S2,⟨xs.length,by simp,Wy _,as1,S1,[],Go.new hD,ok1.new hD,Dn,p5,.nil,h⟩,?_⟩
 rintro i m vs H2 ⟨rfl,hi,as2,S2,ys,g2,ok2,n2,d2,rs,h⟩;by_cases hlt:i<xs.length
 ·right;rw[XM hlt]at h;unfold A0 at h;obtain⟨kp,h⟩:=h;obtain⟨w1,_⟩:=W as2 H2 S2 (g2.gu ok1) ok2 kp;obtain⟨go,yl⟩:=w1 i xs[i] (Vr hlt)
  refine⟨go,λvs' H'=>∃ as2 S2 ys,Go as1 H1 as2 H'/\Ok K as2 H' S2/\D∉as2/\H' D=some (.lst vs')/\RlAll K as2 H' vs' ys/\
   A0 keep g t e (Gc k js ρ) (λys S2=>Post K as H Q (.loc S2.length) (S2++[.lst ys])) (xs.drop (i+1)) ys S2,λvs' H' z=>⟨xs.length - (i+1),by omega,rfl,hlt,z⟩,λx H3 y3=>?_⟩
  obtain⟨g3,ok3,rx⟩:=yl x H3 y3;have en3:EnvOk K as2 H3 (BV k js σ) (Gc k js ρ):=((en.mono g1.pre (g1.ku ok)).mono (g2.trans g3).pre ((g2.trans g3).ku ok1)).cap k js;have rs3:=RlAll.mono g3.pre (g3.ku ok2) ys vs rs;obtain⟨d3,n3⟩:=g3.keep D _ d2 n2;refine⟨as2,Gc k js ρ,S2,_,ok3,en3,rx,AL g (λρ2 q σ2 en2=>?_) h⟩;refine⟨as2,ρ2,S2,ok3,en2,mt _ _ _ _ (λb S4 q as4 H4 g4 ok4=>?_) q⟩;obtain⟨d4,n4⟩:=g4.keep D _ d3 n3;have rs4:=RlAll.mono g4.pre (g4.ku ok3) ys vs rs3;refine t9 (λq=>?_) (λq=>?_) q
  ·refine⟨as4,ρ2,S4,ok4,en2.mono g4.pre (g4.ku ok3),me _ _ _ _ (λy S5 q as5 H5 v g5 ok5 rv=>?_) q⟩;obtain⟨d5,n5⟩:=g5.keep D _ d4 n4;have rs5:=RlAll.mono g5.pre (g5.ku ok4) ys vs rs4;refine⟨d5,by rw[rs.length];exact FG q.1,as5,S5,ys++[y],?_,ok5.other d5 n5,n5,p5,?_,q.2⟩
   ·refine⟨(((g2.trans g3).trans g4).trans g5).pre,λb o hb nb=>?_⟩;obtain⟨z1,z2⟩:=(((g2.trans g3).trans g4).trans g5).keep b o hb nb;exact⟨by rw[j8 (k9 hb hD)];exact z1,z2⟩
   ·exact RlAll.mono (WN _) (Cn d5 rfl) _ _ (rs5.append (.cons rv .nil))
  ·exact⟨as4,S4,ys,(g2.trans g3).trans g4,ok4,n4,d4,rs4,q⟩
 ·left;have hi':i=xs.length:=by omega
  subst hi';rw[Z2]at h;unfold A0 at h;obtain⟨kp,h⟩:=h;obtain⟨_,w2⟩:=W as2 H2 S2 (g2.gu ok1) ok2 kp;refine⟨w2,h (as2++[D]) H2 (.ref D) ?_ (ok2.adopt n2 d2 rs) (rl_loc.mpr ⟨D,by rw[<-ok2.len,WL],rfl⟩)⟩;refine⟨(g1.pre.trans g2.pre).trans (Xb _ _),λb o hb nb=>?_⟩;obtain⟨h1,n1⟩:=g1.keep b o hb nb;obtain⟨h2,n2'⟩:=g2.keep b o h1 n1;refine⟨h2,?_⟩;rw[WM,W8];rintro(z | z)
  ·exact n2' z
  ·exact k9 h1 hD z
theorem HD{scope sc:Zf}{x:Str}(h:scope.names.lookup x=some .local):(Gf scope sc).names.lookup x=some .local:=by
 have go:∀ l:List (Str×Zs),l.lookup x=some .local->(l.map λ(n,k)=>if (k == .free&&sc.kind == .function&&sc.names.lookup n == some .cell) then (n,.cell) else (n,k)).lookup x=some .local:=by
  intro l
  induction l with
  | nil=>intro h;cases h
  | cons a r ih=>
    obtain⟨n,k⟩:=a;intro h;rw[X6]at h;rw[WX];cases hb:x == n with
    | true=>
      rw[hb]at h;have:k = .local:=oj h;subst this;show Yb x ((n,NameKind.local)::_)=_;rw[X6,hb]
    | false=>
      rw[hb]at h
      have e:∀ k',Yb x ((n,k')::(r.map λ(n,k)=>if (k == .free&&sc.kind == .function&&sc.names.lookup n == some .cell) then (n,.cell) else (n,k)))=some .local:=λk'=>by
       rw[X6,hb];exact ih h
      show Yb x ((if (k == .free&&sc.kind == .function&&sc.names.lookup n == some .cell)=true then (n,NameKind.cell) else (n,k))::_)=_;split<;>exact e _
 exact go _ h
theorem Cok.comp{T:List Str}{Δ:Nat->Sn}{X:Cx}{k:Nat}{N:List Str}{sc scope:Zf}{own cn:List Str}{js:List Nat}(C:Cok T Δ X k N sc)(hok:AR sc scope own cn N js=true)(s2:ZS)(H2:Hp)(cs:List (Str×ZT))(A:ZT)(fp:List ZT):Cok T Δ (n8 X scope (own++cn) s2 H2 cs A fp) own.length (own++cn) (Gf scope sc) where
 hN:=rfl
 hs:=by rw[<-C.hs];rfl
 nd:=by
  unfold AR at hok;simp only[Vn,dQ]at hok;exact hok.1.2
 calm:=C.calm
 fn:=λi x hi hx hc=>by
  unfold AR at hok;simp only[Vn,dQ,WJ,Wg]at hok
  have hm:x∈own:=by
   rw[W6 hi]at hx;exact Vp hx
  show(scope.names.lookup x == some .cell)=true;rcases hok.1.1.1.2 x hm with h | h
  ·rw[HD h]at hc;cases hc
  ·rw[h];rfl
 un:=C.un
 bl:=C.bl
 rng:=C.rng
 enm:=C.enm
 rvs:=C.rvs
 zip:=C.zip
 sm0:=C.sm0
 st0:=C.st0
 dc0:=C.dc0
 ty:=C.ty
 gd:=C.gd
 call:=C.call
 mono:=C.mono
theorem B2{r:Expr}(h:Aa r=true){env:Env}:∀ x,A0j r env x=pure x:=λx=>by cases r<;>first | rfl | cases h
theorem Bv{T N:List Str}{sc:Zf}:∀{es:Exs} {rs:List Expr},BA T N sc es rs=true->rs.all i4=true
 | .nil,rs,h=>by unfold BA at h;rw[Wc]at h;subst h;rfl
 | .cons e es,rs,h=>by
   unfold BA at h;replace h:=c8 h;obtain⟨x,hx,h⟩:=h;simp only[Vn]at h;rw[Av hx,X0,h.1.2,Bv h.2];rfl
theorem Iu{X:Cx}{i:Nat}{x:Str}{p:Pos}{N:List Str}{sc:Zf}{T:List Str}{Δ:Nat->Sn}{k:Nat}(C:Cok T Δ X k N sc)(h:nmB N sc i x=true):PE X (.Name x p) (GF i):=by
 unfold nmB at h;simp only[Vn,dQ,WK]at h;exact TF C h.1.1.1 h.1.1.2 h.1.2 h.2
theorem Jw{α:Type}{l:List α}(h:(!l.isEmpty)=true):∃ y ys,l=y::ys:=by
 cases l with
 | nil=>cases h
 | cons y ys=>exact⟨y,ys,rfl⟩
theorem TW{X:Cx}{c:Expr}{a:WE×WT}(h:Good X c a):EM X [c] (liftT X.K a.2):=MV h.pt
theorem Na{X:Cx}:EM X [] (liftT X.K Uz):=λpq s σ H Q I hw=>MU pq s σ H Q I (let ⟨as,ρ,S,ok,en,h⟩:=hw;h as H (Go.refl _ _) ok)
theorem Iv{T:List Str}{Δ:Nat->Sn}{X:Cx}{k:Nat}{N:List Str}{sc scope:Zf}{own cn:List Str}{js:List Nat}{tg ri re:Expr}{ifs:List Expr}{p:Pos}{g:Tg}{i:WI}{t:WT}{e:WE×WT}(C:Cok T Δ X k N sc)(hok:AR sc scope own cn N js=true)(hi:GoodI X tg ri i)
 (hg:∀ s2 H2 cs A fp,PG (n8 X scope (own++cn) s2 H2 cs A fp) tg (Eu X.K g)) (ht:∀ s2 H2 cs A fp,EM (n8 X scope (own++cn) s2 H2 cs A fp) ifs (liftT X.K t)) (mt:MonoT t) (he:∀ s2 H2 cs A fp,PE (n8 X scope (own++cn) s2 H2 cs A fp) re (lift X.K e.1)) (me:Mono e.1) (hn:Aa ri=true):
 Good X (.ListComp re [⟨tg,ri,ifs,0⟩] scope p) (tt1 (Ji own.length js g i t e.1)):=
 .one (j9 _ (PH own cn js hi.pi hg ht he C.calm (by rw[C.hs,C.hN];exact hok) (B2 hn)) (HC hi.m mt me)) (.comp hi.m mt me) rfl
mutual
theorem e8{T:List Str}{Δ:Nat->Sn}:∀(e:Ex) (r:Expr) {X:Cx} {k:Nat} {N:List Str} {sc:Zf},Cok T Δ X k N sc->k8 T N sc e r=true->Good X r (wEx Δ e)
 | .var i,r,X,k,N,sc,C,h=>by
   replace h:=c8 h;obtain⟨x,hx,h⟩:=h;obtain⟨p,rfl⟩:=Ag hx;exact .one (j9 _ (Iu C h) PU) .var rfl
 | .c x,r,X,k,N,sc,C,h=>by
   replace h:=c8 h;obtain⟨x,hx,h⟩:=h;obtain⟨j,p,rfl⟩:=L6 hx;exact Q2 h
 | .op o a b,r,X,k,N,sc,C,h=>by
   replace h:=c8 h;obtain⟨v,hv,h⟩:=h;obtain⟨p,rfl⟩:=Pt hv;simp only[Vn,dQ]at h;have ga:=e8 a _ C h.1.2;have gb:=e8 b _ C h.2;rw[<-h.1.1];exact .one (NN ga.pe gb.pe ga.m gb.m) (.two Jl ga.m gb.m) rfl
 | .neg a,r,X,k,N,sc,C,h=>by
   replace h:=c8 h;obtain⟨v,hv,h⟩:=h;obtain⟨p,rfl⟩:=NI hv;simp only[Vn,dQ]at h;rw[h.1];exact LF (e8 a _ C h.2)
 | .cmp o a b,r,X,k,N,sc,C,h=>by
   replace h:=c8 h;obtain⟨v,hv,h⟩:=h;replace h:=c8 h;obtain⟨rb,hb,h⟩:=h;obtain⟨p,rfl⟩:=FX hv;simp only[Vn,dQ]at h;obtain⟨⟨⟨h0,h1⟩,h2⟩,h3⟩:=h;rw[h0,AK hb];have ga:=e8 a _ C h1;have gb:=e8 b _ C h2;have:=C.un;exact L8 (by omega) ga.pe gb.pe ga.m gb.m h3
 | .chn o p a b c,r,X,k,N,sc,C,h=>by
   replace h:=c8 h;obtain⟨v,hv,h⟩:=h;replace h:=c8 h;obtain⟨rs,hb,h⟩:=h;obtain⟨p,rfl⟩:=FX hv;simp only[Vn,dQ]at h;obtain⟨⟨⟨⟨h0,h1⟩,h2⟩,h3⟩,h4⟩:=h;rw[h0,CV hb];have ga:=e8 a _ C h1;have gb:=e8 b _ C h2;have gc:=e8 c _ C h3;have:=C.un;exact L9 (by omega) ga.pe gb.pe gc.pe ga.m gb.m gc.m h4
 | .and a b,r,X,k,N,sc,C,h=>by
   replace h:=c8 h;obtain⟨v,hv,h⟩:=h;have e:=Gg hv;subst e;rw[Vn,dQ]at h;obtain⟨h0,h⟩:=h;replace h:=c8 h;obtain⟨x,hx,h⟩:=h;rw[Vn]at h;have ga:=e8 a _ C h.1;rw[h0,Av hx];have h2:=h.2;generalize v.2.1.tail=tl at h2;cases hl:l1 tl with
   | some y=>
     rw[hl]at h2;rw[AK hl];exact Ia ga (e8 b _ C h2)
   | none=>
     rw[hl]at h2;rw[Vn,dQ]at h2;have gb:=e8 b _ C h2.2
     match tl,h2,gb with
     | y::z::zs,h2,gb=>exact Ib ga gb
     | [],h2,_=>exact absurd h2.1 (by simp)
     | [_],h2,_=>exact absurd h2.1 (by simp)
 | .or a b,r,X,k,N,sc,C,h=>by
   replace h:=c8 h;obtain⟨v,hv,h⟩:=h;have e:=Gg hv;subst e;rw[Vn,dQ]at h;obtain⟨h0,h⟩:=h;replace h:=c8 h;obtain⟨x,hx,h⟩:=h;rw[Vn]at h;have ga:=e8 a _ C h.1;rw[h0,Av hx];have h2:=h.2;generalize v.2.1.tail=tl at h2;cases hl:l1 tl with
   | some y=>
     rw[hl]at h2;rw[AK hl];exact LA ga (e8 b _ C h2)
   | none=>
     rw[hl]at h2;rw[Vn,dQ]at h2;have gb:=e8 b _ C h2.2
     match tl,h2,gb with
     | y::z::zs,h2,gb=>exact LB ga gb
     | [],h2,_=>exact absurd h2.1 (by simp)
     | [_],h2,_=>exact absurd h2.1 (by simp)
 | .not a,r,X,k,N,sc,C,h=>by
   replace h:=c8 h;obtain⟨v,hv,h⟩:=h;obtain⟨p,rfl⟩:=NI hv;simp only[Vn,dQ]at h;rw[h.1];exact LC (e8 a _ C h.2)
 | .ife t a b,r,X,k,N,sc,C,h=>by
   replace h:=c8 h;obtain⟨v,hv,h⟩:=h;obtain⟨p,rfl⟩:=Pu hv;simp only[Vn]at h;exact LD (e8 t _ C h.1.1) (e8 a _ C h.1.2) (e8 b _ C h.2)
 | .tup es,r,X,k,N,sc,C,h=>by
   replace h:=c8 h;obtain⟨v,hv,h⟩:=h;obtain⟨j,p,rfl⟩:=At hv;exact LI (Ac es _ C h)
 | .lst es,r,X,k,N,sc,C,h=>by
   replace h:=c8 h;obtain⟨v,hv,h⟩:=h;obtain⟨p,rfl⟩:=Pv hv;exact LJ (Ac es _ C h)
 | .ix a b,r,X,k,N,sc,C,h=>by
   replace h:=c8 h;obtain⟨v,hv,h⟩:=h;obtain⟨p,rfl⟩:=Au hv;simp only[Vn]at h;exact NQ (e8 a _ C h.1.1) (e8 b _ C h.1.2) h.2
 | .slc a lo hi,r,X,k,N,sc,C,h=>by
   replace h:=c8 h;obtain⟨v,hv,h⟩:=h;replace h:=c8 h;obtain⟨w,hw,h⟩:=h;obtain⟨p,rfl⟩:=Au hv;obtain⟨p2,ew⟩:=Pw hw;simp only[Vn]at h;have hl:=HE lo _ C h.1.1.2;have hh:=HE hi _ C h.1.2;rw[ew,Y2.mp h.2];exact LG (e8 a _ C h.1.1.1) hl.1 hh.1 hl.2 hh.2
 | .call f es,r,X,k,N,sc,C,h=>by
   replace h:=c8 h;obtain⟨v,hv,h⟩:=h;obtain⟨p,q,rfl⟩:=Bg hv;simp only[Vn,dQ]at h;obtain⟨⟨⟨h1,h2⟩,h3⟩,h4⟩:=h;obtain⟨y,ys,e⟩:=Jw h4;have st:=Bv h3;have g:=Ac es _ C h3;rw[e]at st g ⊢;rw[X0,Vn]at st;exact Id C h1 h2 g st.1 st.2
 | .bi b es,r,X,k,N,sc,C,h=>by
   replace h:=c8 h;obtain⟨v,hv,h⟩:=h;obtain⟨p,q,rfl⟩:=Bg hv;simp only[Vn,dQ]at h;obtain⟨⟨⟨h1,h2⟩,h3⟩,h4⟩:=h;obtain⟨y,ys,e⟩:=Jw h4;have st:=Bv h3;have g:=Ac es _ C h3;rw[e]at st g ⊢;rw[X0,Vn]at st;rw[<-h1]at h2 ⊢;exact NU C h2 g st.1 st.2
 | .mt m a es,r,X,k,N,sc,C,h=>by
   replace h:=c8 h;obtain⟨v,hv,h⟩:=h;obtain⟨ap,cp,rfl,hl⟩:=Dr hv;simp only[Vn,dQ]at h;obtain⟨⟨⟨⟨h0,h1⟩,h3⟩,h4⟩,h5⟩:=h;have st:=Bv h5;have ga:=e8 a _ C h4;have gs:=Ac es _ C h5;rw[h0];generalize v.2.2=args at h3 h5 st gs ⊢;cases args with
   | nil=>
     cases es with
     | nil=>exact LK ga h1 hl
     | cons _ _=>rw[BA]at h5;cases h5
   | cons y ys=>
     rw[X0,Vn]at st;exact NW ga gs h1 hl h3 st.1 st.2
 | .comp own cn js g it t e,r,X,k,N,sc,C,h=>by
   replace h:=c8 h;obtain⟨v,hv,h⟩:=h;replace h:=c8 h;obtain⟨c,hc,h⟩:=h;obtain⟨p,rfl⟩:=Gh hv;simp only[Vn,dQ]at h;obtain⟨⟨⟨⟨⟨⟨h0,h1⟩,h2⟩,h3⟩,h4⟩,h5⟩,h6⟩:=h;have hI:=Cw it _ _ C h3;have hT:=λs2 H2 cs A fp=>HF t _ (C.comp h1 s2 H2 cs A fp) h5;have hE:=λs2 H2 cs A fp=>e8 e _ (C.comp h1 s2 H2 cs A fp) h6;rw[AK hc];obtain⟨tg,ri,ifs,az⟩:=c;have h0:az=0:=h0;subst h0;exact Iv C h1 hI (λs2 H2 cs A fp=>Bm (C.comp h1 s2 H2 cs A fp) g _ h2) (λs2 H2 cs A fp=>(hT s2 H2 cs A fp).1) (hT X.s₀ X.H₀ [] 0 []).2 (λs2 H2 cs A fp=>(hE s2 H2 cs A fp).pe) (hE X.s₀ X.H₀ [] 0 []).m h4
 | .tyc t,r,X,k,N,sc,C,h=>by
   replace h:=c8 h;obtain⟨x,hx,h⟩:=h;obtain⟨p,rfl⟩:=Ag hx;simp only[Vn,dQ]at h;obtain⟨⟨rfl,h1⟩,h2⟩:=h;exact LL C h1 h2
 | .sum2 a,r,X,k,N,sc,C,h=>by
   replace h:=c8 h;obtain⟨v,hv,h⟩:=h;replace h:=c8 h;obtain⟨ra,hra,h⟩:=h;obtain⟨p,q,rfl⟩:=Bg hv;simp only[Vn,dQ]at h;obtain⟨⟨⟨e1,h1⟩,h3⟩,h4⟩:=h;rw[e1]at h1;rw[AK hra,e1];exact Im C h1 (e8 a _ C h3) h4
 | .max1 a,r,X,k,N,sc,C,h=>by
   replace h:=c8 h;obtain⟨v,hv,h⟩:=h;replace h:=c8 h;obtain⟨ra,hra,h⟩:=h;obtain⟨p,q,rfl⟩:=Bg hv;simp only[Vn,dQ]at h;obtain⟨⟨⟨e1,h1⟩,h3⟩,h4⟩:=h;rw[e1]at h1;rw[AK hra,e1];exact Ig C h1 (e8 a _ C h3) h4
 | .dnewp,r,X,k,N,sc,C,h=>by
   replace h:=c8 h;obtain⟨v,hv,h⟩:=h;obtain⟨p,rfl⟩:=Dp hv;simp only[Vn,Wc]at h;rw[h.1,h.2];exact Gp
 | .setd d e v,r,X,k,N,sc,C,h=>by
   replace h:=c8 h;obtain⟨u,hu,h⟩:=h;replace h:=c8 h;obtain⟨ra,hra,h⟩:=h;obtain⟨ap,cp,rfl,hl⟩:=Dr hu;simp only[Vn,dQ]at h;obtain⟨⟨⟨⟨⟨⟨e1,h1⟩,h2⟩,h3⟩,h4⟩,h5⟩,h6⟩:=h;rw[CV hra,e1];exact Ik (Xy (Xw (by decide) _) C.un) (e8 d _ C h2) (e8 e _ C h3) (e8 v _ C h5) h1 hl h4 h6
 | .dnewl,r,X,k,N,sc,C,h=>by
   replace h:=c8 h;obtain⟨v,hv,h⟩:=h;obtain⟨p,rfl⟩:=Dp hv;simp only[Vn,Wc]at h;rw[h.1,h.2];exact Gr
 | .dget2l d e v,r,X,k,N,sc,C,h=>by
   replace h:=c8 h;obtain⟨u,hu,h⟩:=h;replace h:=c8 h;obtain⟨ra,hra,h⟩:=h;obtain⟨ap,cp,rfl,hl⟩:=Dr hu;simp only[Vn,dQ]at h;obtain⟨⟨⟨⟨⟨⟨e1,h1⟩,h2⟩,h3⟩,h4⟩,h5⟩,h6⟩:=h;rw[CV hra,e1];exact Fb (Xy (Xw (by decide) _) C.un) (e8 d _ C h2) (e8 e _ C h3) (e8 v _ C h5) h1 hl h4 h6
 | .setdi d e v,r,X,k,N,sc,C,h=>by
   replace h:=c8 h;obtain⟨u,hu,h⟩:=h;replace h:=c8 h;obtain⟨ra,hra,h⟩:=h;obtain⟨ap,cp,rfl,hl⟩:=Dr hu;simp only[Vn,dQ]at h;obtain⟨⟨⟨⟨⟨⟨e1,h1⟩,h2⟩,h3⟩,h4⟩,h5⟩,h6⟩:=h;rw[CV hra,e1];exact Gs (e8 d _ C h2) (e8 e _ C h3) (e8 v _ C h5) h1 hl h4 h6
 | .dvalsl a,r,X,k,N,sc,C,h=>by
   replace h:=c8 h;obtain⟨v,hv,h⟩:=h;replace h:=c8 h;obtain⟨z,hz,h⟩:=h;replace h:=c8 h;obtain⟨u,hu,h⟩:=h;obtain⟨p,q,rfl⟩:=Bg hv;obtain⟨ap,cp,rfl,hl⟩:=Dr hu;simp only[Vn,dQ,Wc]at h;obtain⟨⟨⟨⟨⟨e1,h1⟩,e2⟩,e3⟩,h4⟩,h5⟩:=h;rw[e1]at h1;rw[AK hz,e1,e2,e3];exact Fc C h1 (e8 a _ C h5) h4 hl
 | .mind a d,r,X,k,N,sc,C,h=>by
   replace h:=c8 h;obtain⟨⟨x,as,kw⟩,hv,h⟩:=h;replace h:=c8 h;obtain⟨ra,hra,h⟩:=h;obtain⟨p,q,rfl⟩:=Jk hv;obtain⟨ka,kv,kp⟩:=kw;simp only[Vn,dQ]at h;obtain⟨⟨⟨⟨⟨e1,h1⟩,h3⟩,h5⟩,h4⟩,e2⟩:=h;subst e1;subst e2;rw[AK hra];exact Il (Xy (Xw (by decide) _) C.un) C h1 (e8 a _ C h3) (e8 d _ C h5) h4
 | .maxd a d,r,X,k,N,sc,C,h=>by
   replace h:=c8 h;obtain⟨⟨x,as,kw⟩,hv,h⟩:=h;replace h:=c8 h;obtain⟨ra,hra,h⟩:=h;obtain⟨p,q,rfl⟩:=Jk hv;obtain⟨ka,kv,kp⟩:=kw;simp only[Vn,dQ]at h;obtain⟨⟨⟨⟨⟨e1,h1⟩,h3⟩,h5⟩,h4⟩,e2⟩:=h;subst e1;subst e2;rw[AK hra];exact Ih C h1 (e8 a _ C h3) (e8 d _ C h5) h4
 | .eqp a b,r,X,k,N,sc,C,h=>by
   replace h:=c8 h;obtain⟨v,hv,h⟩:=h;replace h:=c8 h;obtain⟨rb,hb,h⟩:=h;obtain⟨p,rfl⟩:=FX hv;simp only[Vn,dQ]at h;obtain⟨⟨⟨h0,h1⟩,h2⟩,h3⟩:=h;rw[h0,AK hb];have ga:=e8 a _ C h1;have gb:=e8 b _ C h2;have:=C.un;exact LM (by omega) ga.pe gb.pe ga.m gb.m h3
 | .dnew,r,X,k,N,sc,C,h=>by
   replace h:=c8 h;obtain⟨v,hv,h⟩:=h;obtain⟨p,rfl⟩:=Dp hv;simp only[Vn,Wc]at h;rw[h.1,h.2];exact Ii
 | .dget a b,r,X,k,N,sc,C,h=>by
   replace h:=c8 h;obtain⟨v,hv,h⟩:=h;obtain⟨p,rfl⟩:=Au hv;simp only[Vn]at h;have:=C.un;exact Ij (by omega) (e8 a _ C h.1.1) (e8 b _ C h.1.2) h.2
 | .no,r,X,k,N,sc,C,h => .never
theorem Ac{T:List Str}{Δ:Nat->Sn}:∀(es:Exs) (rs:List Expr) {X:Cx} {k:Nat} {N:List Str} {sc:Zf},Cok T Δ X k N sc->BA T N sc es rs=true->GoodA X rs (Ge Δ es)
 | .nil,rs,X,k,N,sc,C,h=>by
   rw[BA,Wc]at h;subst h;exact LH
 | .cons e es,rs,X,k,N,sc,C,h=>by
   rw[BA]at h;replace h:=c8 h;obtain⟨x,hx,h⟩:=h;simp only[Vn]at h;rw[Av hx];exact Ic (e8 e _ C h.1.1) (Ac es _ C h.2) h.1.2
theorem HE{T:List Str}{Δ:Nat->Sn}:∀(o:Eo) (r:Option Expr) {X:Cx} {k:Nat} {N:List Str} {sc:Zf},Cok T Δ X k N sc->NK T N sc o r=true->PO X r (Gn X.K (wEo Δ o).1)/\MonoO (wEo Δ o).1
 | .no,r,X,k,N,sc,C,h=>by
   rw[NK]at h;rw[Y2.mp h];exact⟨V5,.no⟩
 | .yes e,r,X,k,N,sc,C,h=>by
   rw[NK]at h;replace h:=c8 h;obtain⟨x,hx,h⟩:=h;subst hx;exact⟨TH (e8 e _ C h),.yes (e8 e _ C h).m⟩
theorem HF{T:List Str}{Δ:Nat->Sn}:∀(o:Eo) (rs:List Expr) {X:Cx} {k:Nat} {N:List Str} {sc:Zf},Cok T Δ X k N sc->Gi T N sc o rs=true->EM X rs (liftT X.K (wEo Δ o).2)/\MonoT (wEo Δ o).2
 | .no,rs,X,k,N,sc,C,h=>by
   rw[Gi,Wc]at h;subst h;exact⟨Na,λ_ _ _ _ i q=>i _ _ q⟩
 | .yes e,rs,X,k,N,sc,C,h=>by
   rw[Gi]at h;replace h:=c8 h;obtain⟨x,hx,h⟩:=h;rw[AK hx];exact⟨TW (e8 e _ C h),(e8 e _ C h).mt⟩
theorem Cw{T:List Str}{Δ:Nat->Sn}:∀(it:Itb) (tg r:Expr) {X:Cx} {k:Nat} {N:List Str} {sc:Zf},Cok T Δ X k N sc->Py T N sc it tg r=true->GoodI X tg r (Pr Δ it)
 | .seq e,tg,r,X,k,N,sc,C,h=>by
   exact LP (e8 e _ C h)
 | .rng1 a,tg,r,X,k,N,sc,C,h=>by
   replace h:=c8 h;obtain⟨v,hv,h⟩:=h;replace h:=c8 h;obtain⟨ra,hra,h⟩:=h;obtain⟨p,q,rfl⟩:=Bg hv;simp only[Vn,dQ]at h;obtain⟨⟨⟨e1,h1⟩,h2⟩,h3⟩:=h;rw[e1]at h1;rw[AK hra,e1];exact Ir C h1 (e8 a _ C h2) h3
 | .enum e,tg,r,X,k,N,sc,C,h=>by
   replace h:((DD tg).isSome&&(vFn r).any λv=>(l1 v.2).any λa=>decide (v.1=("enumerate":Str))&&glo sc v.1&&k8 T N sc e a&&i4 a)=true:=h;rw[Vn]at h;obtain⟨ht,h⟩:=h;obtain⟨es,he⟩:=XF.mp ht;obtain⟨j,tp,rfl⟩:=At he;replace h:=c8 h;obtain⟨v,hv,h⟩:=h;replace h:=c8 h;obtain⟨ra,hra,h⟩:=h;obtain⟨p,q,rfl⟩:=Bg hv;simp only[Vn,dQ]at h;obtain⟨⟨⟨e1,h1⟩,h2⟩,h3⟩:=h;rw[e1]at h1;rw[AK hra,e1];exact Iq C h1 (e8 e _ C h2) h3
 | .zip i j,tg,r,X,k,N,sc,C,h=>by
   replace h:((DD tg).isSome&&(vFn r).any λv=>(l2 v.2).any λa=>(B9 a.1).any λy=>(B9 a.2).any λz=>decide (v.1=("zip":Str))&&glo sc v.1&&nmB N sc i y&&nmB N sc j z)=true:=h;rw[Vn]at h;obtain⟨ht,h⟩:=h;obtain⟨es,he⟩:=XF.mp ht;obtain⟨j,tp,rfl⟩:=At he;replace h:=c8 h;obtain⟨v,hv,h⟩:=h;replace h:=c8 h;obtain⟨ra,hra,h⟩:=h;replace h:=c8 h;obtain⟨y,hy,h⟩:=h;replace h:=c8 h;obtain⟨z,hz,h⟩:=h;obtain⟨p,q,rfl⟩:=Bg hv;obtain⟨p1,e1⟩:=Ag hy;obtain⟨p2,e2⟩:=Ag hz;simp only[Vn,dQ]at h;obtain⟨⟨⟨e0,h1⟩,h2⟩,h3⟩:=h;rw[e0]at h1;rw[CV hra,e0,e1,e2];exact LS C h1 (Iu C h2) (Iu C h3)
end
def Dy:Expr->Option Zf
 | .ListComp _ _ s _=>some s
 | .SetComp _ _ s _=>some s
 | .DictComp _ _ _ s _=>some s
 | _=>none
def Ew(sc:Zf)(e:Expr)(x:Str)(px:Pos):Bool:=match Dy e with
 | none=>false
 | some s=>sc.names.lookup x == some .local&&px.line == e.pos.line&&!(s.names.any λ(n,k)=>n == x&&(k == .local||k == .cell))
theorem Jx{env:Env}{e:Expr}{x:Str}{px:Pos}{l:Nat}(hk:env.scope.kind = .function):A02 e (some (.Name x px)) l env=pure (Ew env.scope e x px):=by
 have hb:env.blockKind = .function:=by unfold Env.blockKind;rw[hk];rfl
 unfold A02 Ew Dy
 cases e<;>first
  | rfl
  | (show(pure _:Sem Bool)=_;rw[hb];rfl)
def Nb:Expr->Bool
 | .Tuple ..=>false
 | _=>true
def Q7(sc:Zf)(x y:Str)(px py:Pos):Bool:=sc.names.lookup x == some .local&&sc.names.lookup y == some .local&&px.line == py.line&&!(x == y)
def Cy:Expr->Option (Str×Pos)
 | .Name x p=>some (x,p)
 | _=>none
theorem Bw{r:Expr}{x:Str×Pos}(h:Cy r=some x):r = .Name x.1 x.2:=by cases r<;>first | (cases h;rfl) | exact v9 h
def LV:Stmt->Option (List Expr×Expr)
 | .Assign ts e _=>some (ts,e)
 | _=>none
def VD:Stmt->Option Expr
 | .Expr e _=>some e
 | _=>none
def VE:Stmt->Option (Expr×List Stmt×List Stmt)
 | .If t a b _=>some (t,a,b)
 | _=>none
def VF:Stmt->Option (Expr×Expr×List Stmt×List Stmt)
 | .For g i b o _=>some (g,i,b,o)
 | _=>none
def VG:Stmt->Option (List Stmt×List A0D×List Stmt×List Stmt)
 | .Try b h o f _=>some (b,h,o,f)
 | _=>none
def VH:Stmt->Option (Expr×List Stmt×List Stmt)
 | .While t b o _=>some (t,b,o)
 | _=>none
def VI:Stmt->Option (Option Expr)
 | .Return e _=>some e
 | _=>none
def VJ:Stmt->Option (Expr×A06×Expr)
 | .AugAssign t o e _=>some (t,o,e)
 | _=>none
theorem Q8{r:Stmt}{x:Expr×A06×Expr}(h:VJ r=some x):∃ p,r = .AugAssign x.1 x.2.1 x.2.2 p:=by cases r<;>first | (cases h;exact⟨_,rfl⟩) | exact v9 h
def RG:A06->Bool
 | .Add=>true
 | _=>false
theorem Nc{o:A06}(h:RG o=true):o = .Add:=by cases o<;>first | rfl | (cases h;done)
theorem Ca{r:Stmt}{x:List Expr×Expr}(h:LV r=some x):∃ p,r = .Assign x.1 x.2 p:=by cases r<;>first | (cases h;exact⟨_,rfl⟩) | exact v9 h
theorem Q9{r:Stmt}{x:Expr}(h:VD r=some x):∃ p,r = .Expr x p:=by cases r<;>first | (cases h;exact⟨_,rfl⟩) | exact v9 h
theorem QA{r:Stmt}{x:Expr×List Stmt×List Stmt}(h:VE r=some x):∃ p,r = .If x.1 x.2.1 x.2.2 p:=by cases r<;>first | (cases h;exact⟨_,rfl⟩) | exact v9 h
theorem QB{r:Stmt}{x:Expr×Expr×List Stmt×List Stmt}(h:VF r=some x):∃ p,r = .For x.1 x.2.1 x.2.2.1 x.2.2.2 p:=by cases r<;>first | (cases h;exact⟨_,rfl⟩) | exact v9 h
theorem QC{r:Stmt}{x:List Stmt×List A0D×List Stmt×List Stmt}(h:VG r=some x):∃ p,r = .Try x.1 x.2.1 x.2.2.1 x.2.2.2 p:=by cases r<;>first | (cases h;exact⟨_,rfl⟩) | exact v9 h
theorem QD{r:Stmt}{x:Expr×List Stmt×List Stmt}(h:VH r=some x):∃ p,r = .While x.1 x.2.1 x.2.2 p:=by cases r<;>first | (cases h;exact⟨_,rfl⟩) | exact v9 h
theorem QF{r:Stmt}{x:Option Expr}(h:VI r=some x):∃ p,r = .Return x p:=by cases r<;>first | (cases h;exact⟨_,rfl⟩) | exact v9 h
def TX(e:Expr):Bool:=(NH e).any λv=>(l1 v.2.1).isSome
def VL(e:Expr):Bool:=false
def RH(sc:Zf)(rt:Expr):Bool:=(DD rt).any λts=>(l2 ts).any λnn=>(Cy nn.1).any λx=>!(sc.names.lookup x.1 == some .local)
def TY(sc:Zf)(rt re:Expr):Bool:=match Cy rt with
 | some x=>!Ew sc re x.1 x.2||TX re||VL re
 | none=>(DD rt).isSome&&(Nb re||RH sc rt)
mutual
noncomputable def VM(T:List Str)(N:List Str)(sc:Zf):Stm->Stmt->Bool
 | .asg t e,r=>(LV r).any λv=>(l1 v.1).any λrt=>Bh N.length N sc t rt&&k8 T N sc e v.2&&i4 rt&&TY sc rt v.2
 | .par i j a b,r=>(LV r).any λv=>(l1 v.1).any λrt=>(DD rt).any λts=>(l2 ts).any λnn=>(DD v.2).any λvs=>(l2 vs).any λab=>(Cy nn.1).any λx=>(Cy nn.2).any λy=>
    decide (N[i]?=some x.1)&&decide (N[j]?=some y.1)&&decide (i≠j)&&Q7 sc x.1 y.1 x.2 y.2&&k8 T N sc a ab.1&&k8 T N sc b ab.2&&i4 ab.1&&i4 ab.2&&!([ab.1,ab.2].all (foldedForSure 8))&&!([ab.1,ab.2].all (A1n 8))
 | .put o i e,r=>(LV r).any λv=>(l1 v.1).any λrt=>(FW rt).any λoi=>k8 T N sc o oi.1&&k8 T N sc i oi.2&&k8 T N sc e v.2&&v7 oi.2
 | .augS o i e,r=>(VJ r).any λv=>(FW v.1).any λoi=>RG v.2.1&&k8 T N sc o oi.1&&k8 T N sc i oi.2&&k8 T N sc e v.2.2&&v7 oi.2
 | .dputl o i e,r=>(LV r).any λv=>(l1 v.1).any λrt=>(FW rt).any λoi=>k8 T N sc o oi.1&&k8 T N sc i oi.2&&k8 T N sc e v.2&&v7 oi.2
 | .put2 o i p j e,r=>(LV r).any λv=>(l1 v.1).any λrt=>(DD rt).any λts=>(l2 ts).any λnn=>(FW nn.1).any λoi=>(FW nn.2).any λpj=>k8 T N sc o oi.1&&k8 T N sc i oi.2&&k8 T N sc p pj.1&&k8 T N sc j pj.2&&k8 T N sc e v.2&&v7 oi.2&&v7 pj.2
 | .expr e,r=>(VD r).any λre=>k8 T N sc e re&&(Dy re).isNone
 | .iff t a b,r=>(VE r).any λv=>k8 T N sc t v.1&&C7 T N sc a v.2.1&&C7 T N sc b v.2.2
 | .loop g it b,r=>(VF r).any λv=>Bh N.length N sc g v.1&&Py T N sc it v.1 v.2.1&&Aa v.2.1&&C7 T N sc b v.2.2.1&&v.2.2.2.isEmpty
 | .tri b,r=>(VG r).any λv=>C7 T N sc b v.1&&!v.2.1.isEmpty&&v.2.2.1.isEmpty&&v.2.2.2.isEmpty
 | .whl t b,r=>(VH r).any λv=>k8 T N sc t v.1&&C7 T N sc b v.2.1&&v.2.2.isEmpty
 | .ret e,r=>(VI r).any λo=>o.any λre=>k8 T N sc e re
 | .no,_=>true
noncomputable def C7(T:List Str)(N:List Str)(sc:Zf):List Stm->List Stmt->Bool
 | [],r=>r.isEmpty
 | s::ss,r=>(r.head?).any λx=>VM T N sc s x&&C7 T N sc ss r.tail
end
noncomputable def HG(K:Vl)(as:List ZT)(H:Hp)(D:Ends):EndsS where
 nx:=λρ' S'=>∀ as' H' σ',Go as H as' H'->Ok K as' H' S'->EnvOk K as' H' σ' ρ'->D.nx σ' H'
 rt:=Post K as H D.rt
 bk:=λρ' S'=>∀ as' H' σ',Go as H as' H'->Ok K as' H' S'->EnvOk K as' H' σ' ρ'->D.bk σ' H'
 ct:=λρ' S'=>∀ as' H' σ',Go as H as' H'->Ok K as' H' S'->EnvOk K as' H' σ' ρ'->D.ct σ' H'
noncomputable def liftS(K:Vl)(w:WS):TS:=λD σ H=>∃ as ρ S,Ok K as H S/\EnvOk K as H σ ρ/\w (HG K as H D) ρ S
structure Le(D D':EndsS):Prop where
 nx:∀ ρ S,D.nx ρ S->D'.nx ρ S
 rt:∀ x S,D.rt x S->D'.rt x S
 bk:∀ ρ S,D.bk ρ S->D'.bk ρ S
 ct:∀ ρ S,D.ct ρ S->D'.ct ρ S
def MonoS(w:WS):Prop:=∀ D D' ρ S,Le D D'->w D ρ S->w D' ρ S
theorem MonoS.go{w:WS}(m:MonoS w){D D':EndsS}{ρ:EnvS}{S:Sto}(h:w D ρ S)(l:Le D D'):w D' ρ S:=m D D' ρ S l h
theorem Le.go{K:Vl}{as as':List ZT}{H H':Hp}{D:Ends}(g:Go as H as' H'):Le (HG K as H D) (HG K as' H' D) where
 nx:=λρ S h as2 H2 σ2 g2=>h as2 H2 σ2 (g.trans g2)
 rt:=λx S h=>Post.mono h g
 bk:=λρ S h as2 H2 σ2 g2=>h as2 H2 σ2 (g.trans g2)
 ct:=λρ S h as2 H2 σ2 g2=>h as2 H2 σ2 (g.trans g2)
structure GoodS(X:Cx)(r:Stmt)(w:WS):Prop where
 ps:PS X r (liftS X.K w)
 m:MonoS w
structure GoodSs(X:Cx)(r:List Stmt)(w:WS):Prop where
 ps:PSs X r (liftS X.K w)
 m:MonoS w
theorem y7{X:Cx}{st:Stmt}{t:TS}(t':TS)(h:PS X st t)(imp:∀ D σ H,t' D σ H->t D σ H):PS X st t':=λpq s σ H D I hw=>h pq s σ H D I (imp D σ H hw)
theorem HH{X:Cx}{st:List Stmt}{t:TS}(t':TS)(h:PSs X st t)(imp:∀ D σ H,t' D σ H->t D σ H):PSs X st t':=λpq s σ H D I hw=>h pq s σ H D I (imp D σ H hw)
section
variable{X:Cx}
theorem Iw:GoodSs X [] (λD ρ S=>D.nx ρ S):=⟨HH _ Ow λD σ H ⟨as,ρ,S,ok,en,h⟩=>h as H σ (Go.refl _ _) ok en,λD D' ρ S l h=>l.nx _ _ h⟩
theorem HI{s:Stmt}{ss:List Stmt}{w u:WS}(h1:GoodS X s w)(h2:GoodSs X ss u):GoodSs X (s::ss) (λD ρ S=>w {D with nx:=u D} ρ S) where
 ps:=HH _ (M8 h1.ps h2.ps) (by
  rintro D σ H ⟨as,ρ,S,ok,en,h⟩;refine⟨as,ρ,S,ok,en,h1.m.go h ⟨λρ' S' q as' H' σ' g ok' en'=>?_,λ_ _ h=>h,λ_ _ h=>h,λ_ _ h=>h⟩⟩;exact⟨as',ρ',S',ok',en',h2.m _ _ _ _ (Le.go g) q⟩)
 m:=λD D' ρ S l h=>h1.m.go (D:={D with nx:=u D}) h ⟨λρ' S' q=>h2.m _ _ _ _ l q,l.rt,l.bk,l.ct⟩
theorem QG{K:Vl}{g:Tg}{w:WE}(m:Mono w):∀ D σ H,liftS K (λD ρ S=>w ρ S λx S1=>wTg g x ρ λρ'=>D.nx ρ' S1) D σ H->Hr (lift K w) (Eu K g) D σ H:=by
 rintro D σ H ⟨as,ρ,S,ok,en,h⟩;refine⟨as,ρ,S,ok,en,m _ _ _ _ (λx S1 q as1 H1 v g1 ok1 rv=>?_) h⟩;exact⟨as1,ρ,S1,x,ok1,en.mono g1.pre (g1.ku ok),rv,AL g (λρ' q σ' en'=>q as1 H1 σ' g1 ok1 en') q⟩
theorem HJ{K:Vl}{i:Nat}{w:WE}(m:Mono w):∀ D σ H,liftS K (λD ρ S=>w ρ S λx S1=>wTg (.nm i) x ρ λρ'=>D.nx ρ' S1) D σ H->Hr (lift K w) (JG i) D σ H:=by
 rintro D σ H ⟨as,ρ,S,ok,en,h⟩;refine⟨as,ρ,S,ok,en,m _ _ _ _ (λx S1 q as1 H1 v g1 ok1 rv=>?_) h⟩;unfold wTg at q;exact q as1 H1 _ g1 ok1 ((en.mono g1.pre (g1.ku ok)).set rv)
theorem HK{g:Tg}{w:WE}(m:Mono w):MonoS (λD ρ S=>w ρ S λx S1=>wTg g x ρ λρ'=>D.nx ρ' S1):=λD D' ρ S l h=>m _ _ _ _ (λx S1 q=>AL g (λρ' q=>l.nx _ _ q) q) h
theorem TZ{K:Vl}{t:WT}{a b:WS}(mt:MonoT t)(ma:MonoS a)(mb:MonoS b):∀ D σ H,liftS K (λD ρ S=>t ρ S λc S1=>if c=true then a D ρ S1 else b D ρ S1) D σ H->UC (liftT K t) (liftS K a) (liftS K b) D σ H:=by
 rintro D σ H ⟨as,ρ,S,ok,en,h⟩;refine⟨as,ρ,S,ok,en,mt _ _ _ _ (λc S1 q as1 H1 g1 ok1=>?_) h⟩;refine t9 (λq=>?_) (λq=>?_) q
 ·exact⟨as1,ρ,S1,ok1,en.mono g1.pre (g1.ku ok),ma _ _ _ _ (Le.go g1) q⟩
 ·exact⟨as1,ρ,S1,ok1,en.mono g1.pre (g1.ku ok),mb _ _ _ _ (Le.go g1) q⟩
theorem Bx{keep:Sto->Prop}{g:Tg}{b:WS}(mb:MonoS b):∀(xs:List SV) {D D':EndsS},Le D D'->∀ ρ S,AA keep g b D xs ρ S->AA keep g b D' xs ρ S
 | [],D,D',l,ρ,S,h=>by unfold AA at h ⊢;exact⟨h.1,l.nx _ _ h.2⟩
 | x::xs,D,D',l,ρ,S,h=>by
   unfold AA at h ⊢;exact⟨h.1,AL g (λρ2 q=>mb.go (D:={D with nx:=AA keep g b D xs,ct:=AA keep g b D xs,bk:=D.nx}) q ⟨Bx mb xs l,l.rt,l.nx,Bx mb xs l⟩) h.2⟩
theorem QH{K:Vl}{g:Tg}{i:WI}{b:WS}(mi:MonoI i)(mb:MonoS b):∀ D σ H,liftS K (λD ρ S=>i ρ S λkeep xs S1=>AA keep g b D xs ρ S1) D σ H->UJ (liftI K i) (Eu K g) (liftS K b) D σ H:=by
 rintro D σ H ⟨as,ρ,S,ok,en,h⟩;refine⟨as,ρ,S,ok,en,mi _ _ _ _ (λkeep xs S1 h as1 H1 J g1 ok1 W=>?_) h⟩
 refine⟨λi m σ2 H2=>m=xs.length - i/\i<=xs.length/\∃ as2 ρ2 S2,Go as1 H1 as2 H2/\Ok K as2 H2 S2/\EnvOk K as2 H2 σ2 ρ2/\AA keep g b (HG K as H D) (xs.drop i) ρ2 S2,
  ⟨xs.length,by simp,Wy _,as1,ρ,S1,Go.refl _ _,ok1,en.mono g1.pre (g1.ku ok),h⟩,?_⟩
 rintro i m σ2 H2 ⟨rfl,hi,as2,ρ2,S2,g2,ok2,en2,h⟩;by_cases hlt:i<xs.length
 ·right;rw[XM hlt]at h;unfold AA at h;obtain⟨kp,h⟩:=h;obtain⟨w1,_⟩:=W as2 H2 S2 (g2.gu ok1) ok2 kp;obtain⟨go,yl⟩:=w1 i xs[i] (Vr hlt);refine⟨go,λσ' H'=>∃ as2 ρ2 S2,Go as1 H1 as2 H'/\Ok K as2 H' S2/\EnvOk K as2 H' σ' ρ2/\AA keep g b (HG K as H D) (xs.drop (i+1)) ρ2 S2,λσ' H' z=>⟨xs.length - (i+1),by omega,rfl,hlt,z⟩,λx H3 y3=>?_⟩;obtain⟨g3,ok3,rx⟩:=yl x H3 y3;refine⟨as2,ρ2,S2,_,ok3,en2.mono g3.pre (g3.ku ok2),rx,AL g (λρ3 q σ3 en3=>?_) h⟩;have g03:=(g1.trans g2).trans g3;refine⟨as2,ρ3,S2,ok3,en3,mb.go q ⟨λρ' S' q as' H' σ' g' ok' en'=>?_,λx S h=>Post.mono h g03,λρ' S' q as' H' σ' g' ok' en'=>q as' H' σ' (g03.trans g') ok' en',λρ' S' q as' H' σ' g' ok' en'=>?_⟩⟩
  ·exact⟨as',ρ',S',(g2.trans g3).trans g',ok',en',q⟩
  ·exact⟨as',ρ',S',(g2.trans g3).trans g',ok',en',q⟩
 ·left;have hi':i=xs.length:=by omega
  subst hi';rw[Z2]at h;unfold AA at h;obtain⟨kp,h⟩:=h;obtain⟨_,w2⟩:=W as2 H2 S2 (g2.gu ok1) ok2 kp;exact⟨w2,h as2 H2 σ2 (g1.trans g2) ok2 en2⟩
theorem HL{t:WT}{b:WS}(mt:MonoT t)(mb:MonoS b):MonoS (TB t b):=λD D' ρ S l ⟨W,w0,h⟩=>⟨W,w0,λm ρ S w=>mt _ _ _ _ (λc S1 q=>t9 (λq=>mb.go (D:={D with nx:=λρ' S'=>∃ m',m'<m/\W m' ρ' S',ct:=λρ' S'=>∃ m',m'<m/\W m' ρ' S',bk:=D.nx}) q ⟨λ_ _ h=>h,l.rt,l.nx,λ_ _ h=>h⟩) (λq=>l.nx _ _ q) q) (h m ρ S w)⟩
theorem QI{K:Vl}{t:WT}{b:WS}(mt:MonoT t)(mb:MonoS b):∀ D σ H,liftS K (TB t b) D σ H->MC (liftT K t) (liftS K b) D σ H:=by
 rintro D σ H ⟨as,ρ,S,ok,en,W,⟨m0,w0⟩,h⟩;refine⟨λm σ1 H1=>∃ as1 ρ1 S1,Go as H as1 H1/\Ok K as1 H1 S1/\EnvOk K as1 H1 σ1 ρ1/\W m ρ1 S1,⟨m0,as,ρ,S,Go.refl _ _,ok,en,w0⟩,?_⟩;rintro m σ1 H1 ⟨as1,ρ1,S1,g1,ok1,en1,w1⟩;refine⟨as1,ρ1,S1,ok1,en1,mt _ _ _ _ (λc S2 q as2 H2 g2 ok2=>?_) (h m ρ1 S1 w1)⟩;refine t9 (λq=>?_) (λq=>q as2 H2 σ1 (g1.trans g2) ok2 (en1.mono g2.pre (g2.ku ok1))) q;refine⟨λσ' H'=>∃ m',m'<m/\∃ as1 ρ1 S1,Go as H as1 H'/\Ok K as1 H' S1/\EnvOk K as1 H' σ' ρ1/\W m' ρ1 S1,λσ' H' z=>z,?_⟩;refine⟨as2,ρ1,S2,ok2,en1.mono g2.pre (g2.ku ok1),mb.go q ⟨λρ' S' ⟨m',hm,w'⟩ as' H' σ' g' ok' en'=>?_,λx S h=>Post.mono h (g1.trans g2),λρ' S' q as' H' σ' g' ok' en'=>q as' H' σ' ((g1.trans g2).trans g') ok' en',λρ' S' ⟨m',hm,w'⟩ as' H' σ' g' ok' en'=>?_⟩⟩
 ·exact⟨m',hm,as',ρ',S',(g1.trans g2).trans g',ok',en',w'⟩
 ·exact⟨m',hm,as',ρ',S',(g1.trans g2).trans g',ok',en',w'⟩
theorem QJ{K:Vl}{i j:Nat}{a b:WE}(ma:Mono a)(mb:Mono b):∀ D σ H,liftS K (λD ρ S=>a ρ S λx S1=>b ρ S1 λy S2=>D.nx ((ρ.set i (some x)).set j (some y)) S2) D σ H->UG i j (DV (lift K a) (DV (lift K b) P7)) D σ H:=by
 rintro D σ H ⟨as,ρ,S,ok,en,h⟩;refine⟨as,ρ,S,ok,en,ma _ _ _ _ (λx S1 q as1 H1 v g1 ok1 rv=>?_) h⟩;refine⟨as1,ρ,S1,ok1,en.mono g1.pre (g1.ku ok),mb _ _ _ _ (λy S2 q as2 H2 u g2 ok2 ru=>?_) q⟩;refine⟨v,u,rfl,q as2 H2 _ (g1.trans g2) ok2 ?_⟩;exact(((en.mono g1.pre (g1.ku ok)).mono g2.pre (g2.ku ok1)).set (Rl.mono g2.pre (g2.ku ok1) x v rv)).set ru
theorem AM{x y v:SV}{S:Sto}{P P':Sto->Prop}(i:∀ S,P S->P' S)(h:Cq x y v S P):Cq x y v S P':=by
 unfold Cq at h ⊢;split at h
 ·obtain⟨xs,j,a,b,c⟩:=h;exact⟨xs,j,a,b,i _ c⟩
 ·exact h.elim
theorem DO{K:Vl}{as:List ZT}{H:Hp}{S:Sto}{x y z:SV}{o i v:V}{Q:Hp->Prop}(ok:Ok K as H S)(ro:Rl K as H o x)(ri:Rl K as H i y)(rv:Rl K as H v z)(h:Cq x y z S λS'=>∀ H',Go as H as H'->Ok K as H' S'->Q H'):Eb o i v H Q:=by
 cases x with
 | loc k=>
   cases y with
   | int n=>
     obtain⟨xs,j,h1,h2,h3⟩:=h;obtain⟨a,vs,rfl,ea,ha,ra⟩:=v3 ok ro h1;rw[rl_int]at ri;subst ri;refine⟨a,vs,n,j,rfl,rfl,ha,by rw[ra.length];exact h2,h3 _ (Go.write (Vp ea)) (ok.write h1 ea (ra.set rv j)).1⟩
   | _=>exact False.elim h
 | _=>exact False.elim h
theorem QK{K:Vl}{o i e:WE}(mo:Mono o)(mi:Mono i)(me:Mono e):∀ D σ H,liftS K (λD ρ S=>e ρ S λv S1=>o ρ S1 λx S2=>i ρ S2 λy S3=>Cq x y v S3 λS4=>D.nx ρ S4) D σ H->Hr (lift K e) (Oz (lift K o) (lift K i) Eb) D σ H:=by
 rintro D σ H ⟨as,ρ,S,ok,en,h⟩;refine⟨as,ρ,S,ok,en,me _ _ _ _ (λz S1 q as1 H1 v g1 ok1 rv=>?_) h⟩;have en1:=en.mono g1.pre (g1.ku ok);refine⟨as1,ρ,S1,ok1,en1,mo _ _ _ _ (λx S2 q as2 H2 u g2 ok2 ru=>?_) q⟩;have en2:=en1.mono g2.pre (g2.ku ok1);refine⟨as2,ρ,S2,ok2,en2,mi _ _ _ _ (λy S3 q as3 H3 t g3 ok3 rt=>?_) q⟩;have en3:=en2.mono g3.pre (g3.ku ok2);refine DO ok3 (Rl.mono g3.pre (g3.ku ok2) x u ru) rt (Rl.mono (g2.trans g3).pre ((g2.trans g3).ku ok1) z v rv) (AM (λS4 q H4 g4 ok4=>?_) q);exact q as3 H4 σ (((g1.trans g2).trans g3).trans g4) ok4 (en3.mono g4.pre (g4.ku ok3))
theorem BN{n j:Nat}(h:j<n):ixN n (j:Int)=some j:=by
 unfold ixN;rw[iP (by omega),iP (by omega)];simp
def VN(K:Vl):V->V->Hp->VK->Prop:=λx y H Q=>∃ p xs v,∃ i:Nat,x = .ref p/\y = .int i/\SqL K H p xs/\xs[i]?=some v/\Q v H
theorem Ta{X:Cx}:UH X (VN X.K):=by
 intro pq s σ H x y v u Q I rx ry h;obtain⟨p,xs,z,i,rfl,rfl,hq,he,q⟩:=h;cases rx;obtain⟨t,rfl⟩:=ry;obtain⟨its,r,pl,hz⟩:=I.list hq;obtain⟨w,ew,rw'⟩:=r.get he;have hl:=r.length;have hn:=C9;have hi:=(gM he).1;exact wpAny_getItem_list pl.isList (Xz _) (by omega) (by rw[Ws];simpa using ew) ⟨z,H,I,rw',q⟩
theorem QL{K:Vl}{o i e:WE}(mo:Mono o)(mi:Mono i)(me:Mono e):∀ D σ H,liftS K (λD ρ S=>o ρ S λx S1=>i ρ S1 λy S2=>∃(k:Nat) (j:Nat) (xs:List SV) (a:Int),x = .loc k/\y = .int j/\S2[k]?=some (.lst xs)/\xs[j]?=some (.int a)/\e ρ S2 λv S4=>∃(b:Int) (ys:List SV),v = .int b/\S4[k]?=some (.lst ys)/\j<ys.length/\D.nx ρ (S4.set k (.lst (ys.set j (.int (a+b)))))) D σ H->Qx (lift K o) (lift K i) (lift K e) (VN K) (ipI λi j=>i+j) Eb D σ H:=by
 rintro D σ H ⟨as,ρ,S,ok,en,h⟩;refine⟨as,ρ,S,ok,en,mo _ _ _ _ (λx S1 q as1 H1 u g1 ok1 ru=>?_) h⟩;have en1:=en.mono g1.pre (g1.ku ok);refine⟨as1,ρ,S1,ok1,en1,mi _ _ _ _ (λy S2 q as2 H2 t g2 ok2 rt=>?_) q⟩;have en2:=en1.mono g2.pre (g2.ku ok1);have ru2:=Rl.mono g2.pre (g2.ku ok1) x u ru;obtain⟨k,j,xs,a,rfl,rfl,h1,h2,q⟩:=q;obtain⟨p,vs,rfl,ea,ha,ra⟩:=v3 ok2 ru2 h1;rw[rl_int]at rt;subst rt;obtain⟨v0,e0,r0⟩:=ra.get h2;rw[rl_int]at r0;subst r0;refine⟨p,vs,_,j,rfl,rfl,SqL.of ha,e0,as2,ρ,S2,ok2,en2,me _ _ _ _ (λd S4 ⟨b,ys,e2,h4,hj,q⟩ as4 H4 z g4 ok4 rz=>?_) q⟩;subst e2;rw[rl_int]at rz;have en4:=en2.mono g4.pre (g4.ku ok2);refine⟨a,b,rfl,rz,DO ok4 (Rl.mono g4.pre (g4.ku ok2) (.loc k) (.ref p) ru2) (rl_int.mpr rfl) (rl_int.mpr rfl) (show Cq (.loc k) (.int j) (.int (a+b)) S4 _ from ⟨ys,j,h4,BN hj,λH5 g5 ok5=>?_⟩)⟩;exact q as4 H5 σ (((g1.trans g2).trans g4).trans g5) ok5 (en4.mono g5.pre (g5.ku ok4))
theorem Ey{x y v:SV}{S:Sto}{Q Q':Sto->Prop}(i:∀ S',Q S'->Q' S')(h:Jg x y v S Q):Jg x y v S Q':=let ⟨k,j,kvs,a,b,c,d,q⟩:=h;⟨k,j,kvs,a,b,c,d,i _ q⟩
theorem LW{K:Vl}{o i e:WE}(mo:Mono o)(mi:Mono i)(me:Mono e):∀ D σ H,liftS K (λD ρ S=>e ρ S λv S1=>o ρ S1 λx S2=>i ρ S2 λy S3=>Jg x y v S3 λS4=>D.nx ρ S4) D σ H->R5 (lift K o) (lift K i) (lift K e) D σ H:=by
 rintro D σ H ⟨as,ρ,S,ok,en,h⟩;refine⟨as,ρ,S,ok,en,me _ _ _ _ (λz S1 q as1 H1 v g1 ok1 rv=>?_) h⟩;have en1:=en.mono g1.pre (g1.ku ok);refine⟨as1,ρ,S1,ok1,en1,mo _ _ _ _ (λx S2 q as2 H2 u g2 ok2 ru=>?_) q⟩;have en2:=en1.mono g2.pre (g2.ku ok1);refine⟨as2,ρ,S2,ok2,en2,mi _ _ _ _ (λy S3 q as3 H3 t g3 ok3 rt=>?_) q⟩;have en3:=en2.mono g3.pre (g3.ku ok2);have ru':=Rl.mono g3.pre (g3.ku ok2) x u ru;have rv':=Rl.mono (g2.trans g3).pre ((g2.trans g3).ku ok1) z v rv;obtain⟨k,ks,kvs,rfl,rfl,hk,hb,q⟩:=q;obtain⟨a,ea,rfl⟩:=rl_loc.mp ru';obtain⟨p,rfl,hp⟩:=Gq rt;obtain⟨us,h1,h2⟩:=ok3.obj k _ a hk ea;obtain⟨ok4,ku⟩:=ok3.writeO (x := .dtl (Ek kvs ks z)) (u := .dT (Aq us (ks.map Sum.inl) v)) hk ea (λku=>⟨_,p5,RlT.mono (WN _) ku _ _ (h2.put rv' ks)⟩);refine⟨a,_,rfl,DPut.t h1 hp (by rw[h2.length];exact FG hb),?_⟩;exact q as3 _ σ (((g1.trans g2).trans g3).trans (Go.write (Vp ea))) ok4 (en3.mono (WN _) ku)
theorem Nd{K:Vl}{o i p j e:WE}(mo:Mono o)(mi:Mono i)(mp:Mono p)(mj:Mono j)(me:Mono e):∀ D σ H,liftS K (λD ρ S=>e ρ S λu S1=>∃ v w,u = .tup [v,w]/\o ρ S1 λx S2=>i ρ S2 λy S3=>Cq x y v S3 λS4=>p ρ S4 λx S5=>j ρ S5 λy S6=>Cq x y w S6 λS7=>D.nx ρ S7) D σ H->Hr (lift K e) (UF K 2 (MA (Oz (lift K o) (lift K i) Eb) (MA (Oz (lift K p) (lift K j) Eb) UE))) D σ H:=by
 rintro D σ H ⟨as,ρ,S,ok,en,h⟩;refine⟨as,ρ,S,ok,en,me _ _ _ _ (λz S1 ⟨v,w,ez,q⟩ as1 H1 uv g1 ok1 rv=>?_) h⟩;subst ez;obtain⟨a,vs,rfl,ha,rr⟩:=rl_tup.mp rv;obtain⟨v1,t1,rfl,rv1,rr⟩:=rla_cons.mp rr;obtain⟨v2,t2,rfl,rv2,rr⟩:=rla_cons.mp rr;obtain rfl:=rla_nil.mp rr;have en1:=en.mono g1.pre (g1.ku ok);refine⟨a,_,rfl,SqT.of ha,rfl,v1,_,rfl,as1,ρ,S1,ok1,en1,mo _ _ _ _ (λx S2 q as2 H2 u g2 ok2 ru=>?_) q⟩;have en2:=en1.mono g2.pre (g2.ku ok1);refine⟨as2,ρ,S2,ok2,en2,mi _ _ _ _ (λy S3 q as3 H3 t g3 ok3 rt=>?_) q⟩;have en3:=en2.mono g3.pre (g3.ku ok2);refine DO ok3 (Rl.mono g3.pre (g3.ku ok2) x u ru) rt (Rl.mono (g2.trans g3).pre ((g2.trans g3).ku ok1) _ _ rv1) (AM (λS4 q H4 g4 ok4=>?_) q);have en4:=en3.mono g4.pre (g4.ku ok3);have G4:=(g2.trans g3).trans g4;refine⟨v2,_,rfl,as3,ρ,S4,ok4,en4,mp _ _ _ _ (λx S5 q as5 H5 u5 g5 ok5 ru5=>?_) q⟩;have en5:=en4.mono g5.pre (g5.ku ok4);refine⟨as5,ρ,S5,ok5,en5,mj _ _ _ _ (λy S6 q as6 H6 t6 g6 ok6 rt6=>?_) q⟩;have en6:=en5.mono g6.pre (g6.ku ok5);have G6:=(G4.trans g5).trans g6;refine DO ok6 (Rl.mono g6.pre (g6.ku ok5) x u5 ru5) rt6 (Rl.mono G6.pre (G6.ku ok1) _ _ rv2) (AM (λS7 q H7 g7 ok7=>⟨rfl,?_⟩) q);exact q as6 H7 σ ((g1.trans G6).trans g7) ok7 (en6.mono g7.pre (g7.ku ok6))
end
theorem Ix{env:Env}{es:List Expr}{k:Nat}{p:Pos}{e:Expr}{l:Nat}:A0d [.Tuple es k p] e l env=pure false:=by
 unfold A0d A02;cases e<;>rfl
theorem Tb{env:Env}{o i:Expr}{p:Pos}{e:Expr}{l:Nat}:A0d [.Subscript o i p] e l env=pure false:=by
 unfold A0d A02;cases e<;>rfl
theorem Tc{env:Env}{es:List Expr}{k:Nat}{p:Pos}{e:Expr}(h:Nb e=true):Zl [.Tuple es k p] e env=pure none:=by
 unfold Zl;cases e<;>first | rfl | cases h
theorem QM{env:Env}{x:Str}{px p:Pos}{t2:Expr}{k:Nat}{e:Expr}(h:(env.scope.names.lookup x == some NameKind.local)=false):Zl [.Tuple [.Name x px,t2] k p] e env=pure none:=by
 have kx:(env.kindOf x == some NameKind.local)=false:=h;cases e with
 | Tuple vs k2 p2=>
   unfold Zl
   have key:∀ f:Expr->Option Str,f (.Name x px)=none->((ZD f [.Name x px,t2]).length != [Expr.Name x px,t2].length)=true:=λf hf=>by
    rw[YD hf];have:=YE f [t2];simp only[WG,Wv]at this ⊢;rw[bne_iff_ne];omega
   dsimp only;split
   ·rfl
   ·split
    ·rfl
    ·rw[key _ (by show(if (env.kindOf x == some NameKind.local&&_)=true then some x else none)=none;rw[kx];rfl),Yr];rfl
 | _=>rfl
theorem QN{env:Env}{o i:Expr}{px p:Pos}{t2:Expr}{k:Nat}{e:Expr}:Zl [.Tuple [.Subscript o i px,t2] k p] e env=pure none:=by
 cases e with
 | Tuple vs k2 p2=>
   unfold Zl
   have key:∀ f:Expr->Option Str,f (.Subscript o i px)=none->((ZD f [.Subscript o i px,t2]).length != [Expr.Subscript o i px,t2].length)=true:=λf hf=>by
    rw[YD hf];have:=YE f [t2];simp only[WG,Wv]at this ⊢;rw[bne_iff_ne];omega
   dsimp only;split
   ·rfl
   ·split
    ·rfl
    ·rw[key _ rfl,Yr];rfl
 | _=>rfl
theorem Td{env:Env}{o i:Expr}{p:Pos}{e:Expr}:Zl [.Subscript o i p] e env=pure none:=by
 unfold Zl;cases e<;>rfl
theorem Te{env:Env}{x y:Str}{px py pt pt2:Pos}{k k2:Nat}{a b:Expr}(hk:env.scope.kind = .function)(h:Q7 env.scope x y px py=true)(ha:i4 a=true)(hb:i4 b=true)(h1:([a,b].all (foldedForSure 8))=false)(h2:([a,b].all (A1n 8))=false):
 Zl [.Tuple [.Name x px,.Name y py] k pt] (.Tuple [a,b] k2 pt2) env=pure (some [x,y]):=by
 have hbk:env.blockKind = .function:=by unfold Env.blockKind;rw[hk];rfl
 unfold Q7 at h;simp only[Vn,beq_iff_eq,WK,beq_eq_false_iff_ne]at h;obtain⟨⟨⟨hx,hy⟩,hl⟩,hne⟩:=h;have kx:env.kindOf x=some .local:=hx;have ky:env.kindOf y=some .local:=hy
 have ed:([x,y]:List Str).eraseDups.length=2:=by
  have:(y == x)=false:=by rw[beq_eq_false_iff_ne];exact λz=>hne z.symm
  rw[List.eraseDups_cons,X7,this];rfl
 unfold Zl;simp only[WG,Wv,hbk,h1,h2,List.head?_cons,XA,Yy,Expr.pos,Xj,List.filterMap_nil,kx,ky,hl];refine(iG (by decide)).trans ((iG (λz=>?_)).trans ?_)
 ·simp only[X1,ZM,ZJ,Wg]at z;rcases z with z | z
  ·cases a<;>first | (cases z;done) | cases ha
  ·cases b<;>first | (cases z;done) | cases hb
 ·rw[show(some NameKind.local == some NameKind.local&&py.line == py.line)=true by simp];simp only[if_true];refine(iG (by rw[ed];simp)).trans ?_;refine(iG (by simp)).trans ((iG (by simp)).trans rfl)
theorem HM{t:WT}{a b:WS}(mt:MonoT t)(ma:MonoS a)(mb:MonoS b):MonoS (λD ρ S=>t ρ S λc S1=>if c=true then a D ρ S1 else b D ρ S1):=λD D' ρ S l h=>mt _ _ _ _ (λc S1 q=>t9 (λq=>ma.go q l) (λq=>mb.go q l) q) h
section
variable{T:List Str}{Δ:Nat->Sn}{X:Cx}{N:List Str}{sc:Zf}
theorem Nf{env:Env}{e:Expr}(h:i4 e=true):(Zw [e] env).map (·.2)=[assign e env]:=by cases e<;>first | rfl | cases h
theorem CH{env:Env}{o i:Expr}{p:Pos}(h:v7 i=true):∀ v,assign (.Subscript o i p) env v=(do
 let ov <- holding [v] (eval o env)
 let iv <- holding [v,ov] (eval i env)
 standAt p
 holding [v,ov,iv] (setItem ov iv v)
 release [v,ov,iv] []):=λv=>by cases i<;>first | rfl | cases h
theorem QO{i:Expr}(h:v7 i=true):∀ ov iv new,augStore i ov iv new=(do holding [new,ov,iv] (setItem ov iv new);release [new,ov,iv] [];pure .next):=λ_ _ _=>by cases i<;>first | rfl | cases h
theorem LX(C:Cok T Δ X N.length N sc)(hk:sc.kind = .function){t:Tg}{e:Ex}{rt re:Expr}{pos:Pos}(h1:Bh N.length N sc t rt=true)(h2:k8 T N sc e re=true)(h3:i4 rt=true)(h4:TY sc rt re=true):PS X (.Assign [rt] re pos) (liftS X.K λD ρ S=>(wEx Δ e).1 ρ S λx S1=>wTg t x ρ λρ'=>D.nx ρ' S1):=by
 have ge:=e8 e re C h2;unfold TY at h4;cases hv:Cy rt with
 | none=>
   rw[hv]at h4;rw[Vn]at h4;obtain⟨es,hes⟩:=XF.mp h4.1;obtain⟨j,p,rfl⟩:=At hes
   have hw:Zl [.Tuple es j p] re X.env=pure none:=by
    rcases(Wg _ _).mp h4.2 with z | z
    ·exact Tc z
    ·unfold RH at z;replace z:=c8 z;obtain⟨ts,hts,z⟩:=z;replace z:=c8 z;obtain⟨nn,hnn,z⟩:=z;replace z:=c8 z;obtain⟨y,hy,z⟩:=z;rw[hts]at hes;cases hes;rw[CV hnn,Bw hy];exact QM (by rw[C.hs];simpa using z)
   exact y7 _ (Hs ge.pe (Bm C t _ h1) Ix hw (Nf rfl)) (QG ge.m)
 | some xp=>
   rw[hv]at h4;have e0:=Bw hv;obtain⟨x,px⟩:=xp;subst e0;cases t with
   | tup ts=>rw[Bh]at h1;cases h1
   | nm i=>
     rw[Bh]at h1;have h1:(decide (i<N.length)&&decide (N[i]?=some x)&&loc sc x)=true:=h1;simp only[Vn,dQ]at h1;obtain⟨⟨hi,hx⟩,hl⟩:=h1;unfold loc at hl;simp only[Wg,beq_iff_eq]at hl;have hND:X.N.Nodup:=by rw[C.hN];exact C.nd
     have hNi:X.N[i]?=some x:=by rw[C.hN];exact hx
     have hloc:Loc X.env.scope x:=by rw[C.hs];exact hl
     have hf:X.fn x=true\/X.env.scope.names.lookup x=some .local:=by
      rw[C.hs];rcases hl with hl | hl
      ·exact .inr hl
      ·exact .inl (C.fn i x hi hx hl)
     have hke:X.env.scope.kind = .function:=by rw[C.hs];exact hk
     cases hsw:Ew sc re x px with
     | false=>exact y7 _ (Rz hND hNi hloc ge.pe (by rw[Jx hke,C.hs,hsw]) hf) (HJ ge.m)
     | true=>
       have h4:(!Ew sc re x px||TX re||VL re)=true:=h4;rw[hsw,Bool.not_true,ZI,Wg]at h4;rcases h4 with h4 | h4
       ·unfold TX at h4;obtain⟨v,hv',h4⟩:=c8 h4;obtain⟨gen,hgen⟩:=XF.mp h4;obtain⟨p',rfl⟩:=Gh hv';rw[AK hgen]at h2 ge hsw ⊢
        have hxl:X.env.scope.names.lookup x=some .local:=by
         rw[C.hs];unfold Ew Dy at hsw;simp only[Vn,beq_iff_eq]at hsw;exact hsw.1.1
        have hs1:A02 (.ListComp v.1 [gen] v.2.2 p') (some (.Name x px)) pos.line X.env=pure true:=by rw[Jx hke,C.hs,hsw]
        cases e with
        | comp own cn js g it t' e'=>
          obtain⟨tg,ri,ifs,az⟩:=gen;have h2:(decide (az=0)&&AR sc v.2.2 own cn N js&&Bh own.length (own++cn) (Gf v.2.2 sc) g tg&&Py T N sc it tg ri&&Aa ri&&Gi T (own++cn) (Gf v.2.2 sc) t' ifs&&k8 T (own++cn) (Gf v.2.2 sc) e' v.1)=true:=h2;simp only[Vn,dQ]at h2;obtain⟨⟨⟨⟨⟨⟨k0,k1⟩,k2⟩,k3⟩,k4⟩,k5⟩,k6⟩:=h2;subst k0;have hI:=Cw it _ _ C k3;have hT:=λs2 H2 cs A fp=>HF t' _ (C.comp k1 s2 H2 cs A fp) k5;have hE:=λs2 H2 cs A fp=>e8 e' _ (C.comp k1 s2 H2 cs A fp) k6;have mt:=(hT X.s₀ X.H₀ [] 0 []).2;have me:=(hE X.s₀ X.H₀ [] 0 []).m;have b:=IF (i:=i) (g:=Eu X.K g) (tt:=liftT X.K (wEo Δ t').2) (te:=lift X.K (wEx Δ e').1) own cn js hND hNi hxl hI.pi (λs2 H2 cs A fp=>Bm (C.comp k1 s2 H2 cs A fp) g _ k2) (λs2 H2 cs A fp=>(hT s2 H2 cs A fp).1) (λs2 H2 cs A fp=>(hE s2 H2 cs A fp).pe) C.calm (by rw[C.hs,C.hN];exact k1) hs1 (B2 k4);refine y7 _ b λD σ H h=>?_;have:=HJ ge.m D σ H h;exact HC hI.m mt me σ H _ this
        | no=>exact λ_ _ _ _ _ _ h=>let ⟨_,_,_,_,_,z⟩:=h;z.elim
        | _=>exact absurd h2 nofun
       ·exact Z3 (show false=true from h4)
mutual
theorem Ng(C:Cok T Δ X N.length N sc)(hp:A16 (ZY X.prog X.w) X.A X.env X.xe)(nx:∀ e s,¬ X.xe e s)(hk:sc.kind = .function):∀(s:Stm) (r:Stmt),VM T N sc s r=true->GoodS X r (wSt Δ s)
 | .asg t e,r,h=>by
   replace h:=c8 h;obtain⟨v,hv,h⟩:=h;replace h:=c8 h;obtain⟨rt,hrt,h⟩:=h;obtain⟨pos,rfl⟩:=Ca hv;simp only[Vn]at h;obtain⟨⟨⟨h1,h2⟩,h3⟩,h4⟩:=h;rw[AK hrt];exact⟨LX C hk h1 h2 h3 h4,HK (e8 e _ C h2).m⟩
 | .par i j a b,r,h=>by
   replace h:=c8 h;obtain⟨v,hv,h⟩:=h;replace h:=c8 h;obtain⟨rt,hrt,h⟩:=h;replace h:=c8 h;obtain⟨ts,hts,h⟩:=h;replace h:=c8 h;obtain⟨nn,hnn,h⟩:=h;replace h:=c8 h;obtain⟨vs,hvs,h⟩:=h;replace h:=c8 h;obtain⟨ab,hab,h⟩:=h;replace h:=c8 h;obtain⟨x,hx',h⟩:=h;replace h:=c8 h;obtain⟨y,hy',h⟩:=h;obtain⟨pos,rfl⟩:=Ca hv;simp only[Vn,dQ,WK]at h;obtain⟨⟨⟨⟨⟨⟨⟨⟨⟨hx,hy⟩,hij⟩,hpar⟩,h1⟩,h2⟩,h3⟩,h4⟩,h5⟩,h6⟩:=h;obtain⟨j1,p1,e1⟩:=At hts;obtain⟨j2,p2,e2⟩:=At hvs;rw[AK hrt,e1,CV hnn,e2,CV hab,Bw hx',Bw hy'];have ga:=e8 a _ C h1;have gb:=e8 b _ C h2;have hp2:=hpar;unfold Q7 at hp2;simp only[Vn,beq_iff_eq]at hp2;have hke:X.env.scope.kind = .function:=by rw[C.hs];exact hk
   refine⟨y7 _ (SA (i:=i) (j:=j) C.calm (by rw[C.hN];exact C.nd) (by rw[C.hN];exact hx) (by rw[C.hN];exact hy) hij (by rw[C.hs];exact hp2.1.1.1) (by rw[C.hs];exact hp2.1.1.2) (AH ga.pe (AH gb.pe BH (j4 h4)) (j4 h3)) (Te hke (by rw[C.hs];exact hpar) h3 h4 h5 h6) Ix) (QJ ga.m gb.m),?_⟩;exact λD D' ρ S l h=>ga.m _ _ _ _ (λx S1 q=>gb.m _ _ _ _ (λy S2 q=>l.nx _ _ q) q) h
 | .put o i e,r,h=>by
   replace h:=c8 h;obtain⟨v,hv,h⟩:=h;replace h:=c8 h;obtain⟨rt,hrt,h⟩:=h;replace h:=c8 h;obtain⟨oi,hoi,h⟩:=h;obtain⟨pos,rfl⟩:=Ca hv;obtain⟨p2,e2⟩:=Au hoi;simp only[Vn]at h;rw[AK hrt,e2];have go:=e8 o _ C h.1.1.1;have gi:=e8 i _ C h.1.1.2;have ge:=e8 e _ C h.1.2;refine⟨y7 _ (Hs ge.pe (Hq go.pe gi.pe CP (CH h.2)) Tb Td (Nf rfl)) (QK go.m gi.m ge.m),?_⟩;exact λD D' ρ S l h=>ge.m _ _ _ _ (λv S1 q=>go.m _ _ _ _ (λx S2 q=>gi.m _ _ _ _ (λy S3 q=>AM (λS4 q=>l.nx _ _ q) q) q) q) h
 | .augS o i e,r,h=>by
   replace h:=c8 h;obtain⟨v,hv,h⟩:=h;replace h:=c8 h;obtain⟨oi,hoi,h⟩:=h;obtain⟨pos,rfl⟩:=Q8 hv;obtain⟨p2,e2⟩:=Au hoi;simp only[Vn]at h;rw[Nc h.1.1.1.1,e2];have go:=e8 o _ C h.1.1.1.2;have gi:=e8 i _ C h.1.1.2;have ge:=e8 e _ C h.1.2;refine⟨y7 _ (P3 go.pe gi.pe Ta ge.pe SB CP (QO h.2)) (QL go.m gi.m ge.m),?_⟩;exact λD D' ρ S l h=>go.m _ _ _ _ (λx S1 q=>gi.m _ _ _ _ (λy S2 ⟨k,j,xs,a,e1,e2,h1,h2,q⟩=>⟨k,j,xs,a,e1,e2,h1,h2,ge.m _ _ _ _ (λv S4 ⟨b,ys,e1,h4,h5,q⟩=>⟨b,ys,e1,h4,h5,l.nx _ _ q⟩) q⟩) q) h
 | .dputl o i e,r,h=>by
   replace h:=c8 h;obtain⟨v,hv,h⟩:=h;replace h:=c8 h;obtain⟨rt,hrt,h⟩:=h;replace h:=c8 h;obtain⟨oi,hoi,h⟩:=h;obtain⟨pos,rfl⟩:=Ca hv;obtain⟨p2,e2⟩:=Au hoi;simp only[Vn]at h;rw[AK hrt,e2];have go:=e8 o _ C h.1.1.1;have gi:=e8 i _ C h.1.1.2;have ge:=e8 e _ C h.1.2;have:=C.un;refine⟨y7 _ (PP (by omega) go.pe gi.pe ge.pe (by unfold A02;cases v.2<;>rfl)) (LW go.m gi.m ge.m),?_⟩;exact λD D' ρ S l h=>ge.m _ _ _ _ (λv S1 q=>go.m _ _ _ _ (λx S2 q=>gi.m _ _ _ _ (λy S3 q=>Ey (λS4 q=>l.nx _ _ q) q) q) q) h
 | .put2 o i p j e,r,h=>by
   replace h:=c8 h;obtain⟨v,hv,h⟩:=h;replace h:=c8 h;obtain⟨rt,hrt,h⟩:=h;replace h:=c8 h;obtain⟨ts,hts,h⟩:=h;replace h:=c8 h;obtain⟨nn,hnn,h⟩:=h;replace h:=c8 h;obtain⟨oi,hoi,h⟩:=h;replace h:=c8 h;obtain⟨pj,hpj,h⟩:=h;obtain⟨pos,rfl⟩:=Ca hv;obtain⟨jt,pt,et⟩:=At hts;obtain⟨p2,e2⟩:=Au hoi;obtain⟨p3,e3⟩:=Au hpj;simp only[Vn]at h;obtain⟨⟨⟨⟨⟨⟨h1,h2⟩,h3⟩,h4⟩,h5⟩,h6⟩,h7⟩:=h;rw[AK hrt,et,CV hnn,e2,e3];have go:=e8 o _ C h1;have gi:=e8 i _ C h2;have gp:=e8 p _ C h3;have gj:=e8 j _ C h4;have ge:=e8 e _ C h5;refine⟨y7 _ (Hs ge.pe (MB C.calm (DT (Hq go.pe gi.pe CP (CH h6)) (DT (Hq gp.pe gj.pe CP (CH h7)) JH))) Ix QN (Nf rfl)) (Nd go.m gi.m gp.m gj.m ge.m),?_⟩;exact λD D' ρ S l h=>ge.m _ _ _ _ (λu S1 ⟨v,w,eu,q⟩=>⟨v,w,eu,go.m _ _ _ _ (λx S2 q=>gi.m _ _ _ _ (λy S3 q=>AM (λS4 q=>gp.m _ _ _ _ (λx S5 q=>gj.m _ _ _ _ (λy S6 q=>AM (λS7 q=>l.nx _ _ q) q) q) q) q) q) q⟩) h
 | .expr e,r,h=>by
   replace h:=c8 h;obtain⟨re,hre,h⟩:=h;obtain⟨pos,rfl⟩:=Q9 hre;simp only[Vn]at h;have ge:=e8 e _ C h.1
   have hs:A02 re none pos.line X.env=pure false:=by
    have:=h.2;unfold A02;cases re<;>first | rfl | (unfold Dy at this;cases this)
   refine⟨y7 _ (Ox ge.pe hs) ?_,λD D' ρ S l h=>ge.m _ _ _ _ (λx S1 q=>l.nx _ _ q) h⟩;rintro D σ H ⟨as,ρ,S,ok,en,h⟩;exact⟨as,ρ,S,ok,en,ge.m _ _ _ _ (λx S1 q as1 H1 v g1 ok1 rv=>q as1 H1 σ g1 ok1 (en.mono g1.pre (g1.ku ok))) h⟩
 | .iff t a b,r,h=>by
   replace h:=c8 h;obtain⟨v,hv,h⟩:=h;obtain⟨pos,rfl⟩:=QA hv;simp only[Vn]at h;have gt:=e8 t _ C h.1.1;have ga:=Aj C hp nx hk a _ h.1.2;have gb:=Aj C hp nx hk b _ h.2;exact⟨y7 _ (UD gt.pt ga.ps gb.ps) (TZ gt.mt ga.m gb.m),HM gt.mt ga.m gb.m⟩
 | .loop g it b,r,h=>by
   replace h:=c8 h;obtain⟨v,hv,h⟩:=h;obtain⟨pos,rfl⟩:=QB hv;simp only[Vn,Wc]at h;obtain⟨⟨⟨⟨h1,h2⟩,h3⟩,h4⟩,h5⟩:=h;rw[h5];have gi:=Cw it _ _ C h2;have gb:=Aj C hp nx hk b _ h4;refine⟨y7 _ (SC hp C.calm gi.pi (Bm C g _ h1) gb.ps (B2 h3)) (QH gi.m gb.m),?_⟩;exact λD D' ρ S l h=>gi.m _ _ _ _ (λkeep xs S1 q=>Bx gb.m xs l _ _ q) h
 | .tri b,r,h=>by
   replace h:=c8 h;obtain⟨v,hv,h⟩:=h;obtain⟨pos,rfl⟩:=QC hv;simp only[Vn,Wc,WK]at h;obtain⟨⟨⟨h1,h2⟩,h3⟩,h4⟩:=h;have gb:=Aj C hp nx hk b _ h1;rw[h3,h4];cases hh:v.2.1 with
   | nil=>rw[hh]at h2;cases h2
   | cons h0 hs=>exact⟨Pi nx gb.ps,gb.m⟩
 | .whl t b,r,h=>by
   replace h:=c8 h;obtain⟨v,hv,h⟩:=h;obtain⟨pos,rfl⟩:=QD hv;simp only[Vn,Wc]at h;rw[h.2];have gt:=e8 t _ C h.1.1;have gb:=Aj C hp nx hk b _ h.1.2;exact⟨y7 _ (MD hp gt.pt gb.ps) (QI gt.mt gb.m),HL gt.mt gb.m⟩
 | .ret e,r,h=>by
   replace h:=c8 h;obtain⟨o,ho,h⟩:=h;replace h:=c8 h;obtain⟨re,hre,h⟩:=h;obtain⟨pos,rfl⟩:=QF ho;rw[hre];have ge:=e8 e _ C h;exact⟨y7 _ (Rx ge.pe) λD σ H ⟨as,ρ,S,ok,en,h⟩=>⟨as,ρ,S,ok,en,h⟩,λD D' ρ S l h=>ge.m _ _ _ _ l.rt h⟩
 | .no,r,h=>⟨λ_ _ _ _ _ _ h=>let ⟨_,_,_,_,_,z⟩:=h;z.elim,λ_ _ _ _ _ h=>h⟩
theorem Aj(C:Cok T Δ X N.length N sc)(hp:A16 (ZY X.prog X.w) X.A X.env X.xe)(nx:∀ e s,¬ X.xe e s)(hk:sc.kind = .function):∀(s:List Stm) (r:List Stmt),C7 T N sc s r=true->GoodSs X r (wSs Δ s)
 | [],r,h=>by
   rw[C7,Wc]at h;subst h;exact Iw
 | s::ss,r,h=>by
   rw[C7]at h;replace h:=c8 h;obtain⟨x,hx,h⟩:=h;rw[Vn]at h;rw[Av hx];have:=HI (Ng C hp nx hk s x h.1) (Aj C hp nx hk ss _ h.2);rw[wSs];exact this
end
end
mutual
theorem c9{Δ:Nat->Sn}(hΔ:∀ f,MonoN (Δ f)):∀(e:Ex),Mono (wEx Δ e).1/\MonoT (wEx Δ e).2
 | .var i=>⟨.var,.tru .var⟩
 | .c x=>⟨.c,.tru .c⟩
 | .op o a b=>have m:Mono _ := .two (s:=sOp o) Jl (c9 hΔ a).1 (c9 hΔ b).1;⟨m,.tru m⟩
 | .neg a=>have m:Mono _ := .one Dt (c9 hΔ a).1;⟨m,.tru m⟩
 | .cmp o a b=>have m:Mono _ := .two (s:=B8 o) AY (c9 hΔ a).1 (c9 hΔ b).1;⟨m,.bl m⟩
 | .chn o p a b c=>have m:=Gk (o:=o) (p:=p) (c9 hΔ a).1 (c9 hΔ b).1 (c9 hΔ c).1;⟨m,.bl m⟩
 | .and a b=>⟨.and (c9 hΔ a).1 (c9 hΔ b).1,.and (c9 hΔ a).2 (c9 hΔ b).2⟩
 | .or a b=>⟨.or (c9 hΔ a).1 (c9 hΔ b).1,.or (c9 hΔ a).2 (c9 hΔ b).2⟩
 | .not a=>⟨.not (c9 hΔ a).1,.not (c9 hΔ a).2⟩
 | .ife t a b=>⟨.ifE (c9 hΔ t).2 (c9 hΔ a).1 (c9 hΔ b).1,λ_ _ _ _ _ h=>h⟩
 | .tup es=>have m:Mono _ := .n .tup (BB hΔ es);⟨m,.tru m⟩
 | .lst es=>have m:Mono _ := .n .lst (BB hΔ es);⟨m,.tru m⟩
 | .ix a b=>have m:Mono _ := .two .ix (c9 hΔ a).1 (c9 hΔ b).1;⟨m,.tru m⟩
 | .slc a lo hi=>have m:Mono _:=(λρ S P P' i h=>(c9 hΔ a).1 _ _ _ _ (λx S1 h=>(p4 hΔ lo).1 _ _ _ _ (λl S2 h=>(p4 hΔ hi).1 _ _ _ _ (λk S3 h=>Dv i h) h) h) h:Mono (T9 _ _ _));⟨m,.tru m⟩
 | .call f es=>have m:Mono _ := .n (hΔ f) (BB hΔ es);⟨m,.tru m⟩
 | .bi b es=>have m:Mono _ := .n (s:=sBi b) .bi (BB hΔ es);⟨m,.tru m⟩
 | .mt m' a es=>have m:Mono _:=Mono.mt (m:=m') (c9 hΔ a).1 (BB hΔ es);⟨m,.tru m⟩
 | .comp own cn js g it t e=>have m:Mono _:=Mono.comp (k:=own.length) (js:=js) (g:=g) (HN hΔ it) (p4 hΔ t).2 (c9 hΔ e).1;⟨m,.tru m⟩
 | .tyc t=>⟨.c,.tru .c⟩
 | .sum2 a=>have m:=Es (c9 hΔ a).1;⟨m,.tru m⟩
 | .max1 a=>have m:=Em (c9 hΔ a).1;⟨m,.tru m⟩
 | .dnewp=>⟨CD,.tru CD⟩
 | .setd d e v=>have m:=Er (c9 hΔ d).1 (c9 hΔ e).1 (c9 hΔ v).1;⟨m,.tru m⟩
 | .dnewl=>⟨CF,.tru CF⟩
 | .dget2l d e v=>have m:=D8 (c9 hΔ d).1 (c9 hΔ e).1 (c9 hΔ v).1;⟨m,.tru m⟩
 | .dvalsl a=>have m:=D9 (c9 hΔ a).1;⟨m,.tru m⟩
 | .setdi d e v=>have m:=Dx (c9 hΔ d).1 (c9 hΔ e).1 (c9 hΔ v).1;⟨m,.tru m⟩
 | .mind a d=>have m:=Ep (c9 hΔ a).1 (c9 hΔ d).1;⟨m,.tru m⟩
 | .maxd a d=>have m:=En (c9 hΔ a).1 (c9 hΔ d).1;⟨m,.tru m⟩
 | .eqp a b=>have m:Mono _ := .two CW (c9 hΔ a).1 (c9 hΔ b).1;⟨m,.bl m⟩
 | .dnew=>⟨Ct,.tru Ct⟩
 | .dget a b=>have m:Mono _ := .two Cs (c9 hΔ a).1 (c9 hΔ b).1;⟨m,.tru m⟩
 | .no=>⟨λ_ _ _ _ _ h=>h,λ_ _ _ _ _ h=>h⟩
theorem BB{Δ:Nat->Sn}(hΔ:∀ f,MonoN (Δ f)):∀(es:Exs),MonoA (Ge Δ es)
 | .nil => .nil
 | .cons e es => .cons (c9 hΔ e).1 (BB hΔ es)
theorem p4{Δ:Nat->Sn}(hΔ:∀ f,MonoN (Δ f)):∀(o:Eo),MonoO (wEo Δ o).1/\MonoT (wEo Δ o).2
 | .no=>⟨.no,λ_ _ _ _ i q=>i _ _ q⟩
 | .yes e=>⟨.yes (c9 hΔ e).1,(c9 hΔ e).2⟩
theorem HN{Δ:Nat->Sn}(hΔ:∀ f,MonoN (Δ f)):∀(it:Itb),MonoI (Pr Δ it)
 | .seq e=>λρ S P P' i h=>(c9 hΔ e).1 _ _ _ _ (λx S1 ⟨xs,e,q⟩=>⟨xs,e,i _ _ _ q⟩) h
 | .rng1 a=>λρ S P P' i h=>(c9 hΔ a).1 _ _ _ _ (λx S1 ⟨j,e,z,q⟩=>⟨j,e,z,i _ _ _ q⟩) h
 | .enum e=>λρ S P P' i h=>(c9 hΔ e).1 _ _ _ _ (λx S1 ⟨xs,e,q⟩=>⟨xs,e,i _ _ _ q⟩) h
 | .zip i j=>λρ S P P' i h=>let ⟨x,y,xs,ys,a,b,c,d,e,f,q⟩:=h;⟨x,y,xs,ys,a,b,c,d,e,f,i _ _ _ q⟩
end
mutual
theorem QP{Δ:Nat->Sn}(hΔ:∀ f,MonoN (Δ f)):∀(s:Stm),MonoS (wSt Δ s)
 | .asg t e=>by exact HK (c9 hΔ e).1
 | .par i j a b=>by exact λD D' ρ S l h=>(c9 hΔ a).1 _ _ _ _ (λx S1 q=>(c9 hΔ b).1 _ _ _ _ (λy S2 q=>l.nx _ _ q) q) h
 | .put o i e=>by exact λD D' ρ S l h=>(c9 hΔ e).1 _ _ _ _ (λv S1 q=>(c9 hΔ o).1 _ _ _ _ (λx S2 q=>(c9 hΔ i).1 _ _ _ _ (λy S3 q=>AM (λS4 q=>l.nx _ _ q) q) q) q) h
 | .augS o i e=>by exact λD D' ρ S l h=>(c9 hΔ o).1 _ _ _ _ (λx S1 q=>(c9 hΔ i).1 _ _ _ _ (λy S2 ⟨k,j,xs,a,e1,e2,h1,h2,q⟩=>⟨k,j,xs,a,e1,e2,h1,h2,(c9 hΔ e).1 _ _ _ _ (λv S4 ⟨b,ys,e1,h4,h5,q⟩=>⟨b,ys,e1,h4,h5,l.nx _ _ q⟩) q⟩) q) h
 | .dputl o i e=>by exact λD D' ρ S l h=>(c9 hΔ e).1 _ _ _ _ (λv S1 q=>(c9 hΔ o).1 _ _ _ _ (λx S2 q=>(c9 hΔ i).1 _ _ _ _ (λy S3 q=>Ey (λS4 q=>l.nx _ _ q) q) q) q) h
 | .put2 o i p j e=>by exact λD D' ρ S l h=>(c9 hΔ e).1 _ _ _ _ (λu S1 ⟨v,w,eu,q⟩=>⟨v,w,eu,(c9 hΔ o).1 _ _ _ _ (λx S2 q=>(c9 hΔ i).1 _ _ _ _ (λy S3 q=>AM (λS4 q=>(c9 hΔ p).1 _ _ _ _ (λx S5 q=>(c9 hΔ j).1 _ _ _ _ (λy S6 q=>AM (λS7 q=>l.nx _ _ q) q) q) q) q) q) q⟩) h
 | .expr e=>by exact λD D' ρ S l h=>(c9 hΔ e).1 _ _ _ _ (λx S1 q=>l.nx _ _ q) h
 | .iff t a b=>by exact HM (c9 hΔ t).2 (j5 hΔ a) (j5 hΔ b)
 | .loop g it b=>by exact λD D' ρ S l h=>HN hΔ it _ _ _ _ (λkeep xs S1 q=>Bx (j5 hΔ b) xs l _ _ q) h
 | .tri b=>by exact j5 hΔ b
 | .whl t b=>by exact HL (c9 hΔ t).2 (j5 hΔ b)
 | .ret e=>by exact λD D' ρ S l h=>(c9 hΔ e).1 _ _ _ _ l.rt h
 | .no=>by exact λD D' ρ S l h=>h
theorem j5{Δ:Nat->Sn}(hΔ:∀ f,MonoN (Δ f)):∀(s:List Stm),MonoS (wSs Δ s)
 | []=>by exact λD D' ρ S l h=>l.nx _ _ h
 | s::ss=>by exact λD D' ρ S l h=>(QP hΔ s).go (D:={D with nx:=wSs Δ ss D}) h ⟨λρ' S' q=>(j5 hΔ ss) _ _ _ _ l q,l.rt,l.bk,l.ct⟩
end
theorem Nh{P:List ZR->Prop}{n:Nat}(h:∀ a us,us.length=n->P (a::us)):∀ us:List ZR,us.length=n+1->P us
 | a::us,e=>h a us (Nat.succ.inj e)
theorem Dz{P:List ZR->Prop}(h:∀ a,P [a]):∀ us:List ZR,us.length=1->P us:=Nh λa us e=>YI.mp e▸h a
theorem C2{P:List ZR->Prop}(h:∀ a b,P [a,b]):∀ us:List ZR,us.length=2->P us:=Nh λa=>Dz (P:=λus=>P (a::us)) (h a)
theorem C3{P:List ZR->Prop}(h:∀ a b c,P [a,b,c]):∀ us:List ZR,us.length=3->P us:=Nh λa=>C2 (P:=λus=>P (a::us)) (h a)
theorem Fh{P:List ZR->Prop}(h:∀ a b c d,P [a,b,c,d]):∀ us:List ZR,us.length=4->P us:=Nh λa=>C3 (P:=λus=>P (a::us)) (h a)
theorem Fi{P:List ZR->Prop}(h:∀ a b c d e,P [a,b,c,d,e]):∀ us:List ZR,us.length=5->P us:=Nh λa=>Fh (P:=λus=>P (a::us)) (h a)
structure Df where
 name:Str
 st:Stmt
 ps:List Str
 N:List Str
 body:List Stm
def B3(Q:QE):EndsS:=⟨λ_ S'=>Q .non S',Q,λ_ _=>False,λ_ _=>False⟩
def Ni(n:Nat)(xs:List SV):EnvS:=xs.map some++Vx (n - xs.length) none
noncomputable def g9(Δ:Nat->Sn)(D:Df):Sn:=λxs S Q=>xs.length=D.ps.length/\wSs Δ D.body (B3 Q) (Ni D.N.length xs) S
noncomputable def W(prog:List Df):Nat->Nat->Sn
 | 0,_=>λ_ _ _=>False
 | d+1,f=>match prog[f]? with
   | some D=>g9 (W prog d) D
   | none=>λ_ _ _=>False
theorem Nj{Δ:Nat->Sn}(hΔ:∀ f,MonoN (Δ f))(D:Df):MonoN (g9 Δ D):=λxs S P P' i h=>⟨h.1,(j5 hΔ D.body).go h.2 ⟨λ_ _ q=>i _ _ q,i,λ_ _ q=>q,λ_ _ q=>q⟩⟩
theorem E1{prog:List Df}:∀(d f:Nat),MonoN (W prog d f)
 | 0,f=>λ_ _ _ _ _ h=>h
 | d+1,f=>by
   unfold W;split
   ·exact Nj (E1 d) _
   ·exact λ_ _ _ _ _ h=>h
def fnB(N ps:List Str)(sc:Zf):Bool:=decide (sc.kind = .function)&&!sc.isCoroutine&&!sc.isGenerator&&decide N.Nodup&&decide (N.take ps.length=ps)&&ps.all (loc sc)&&sc.names.all (λy=>!decide (y.2 = .free))
theorem Tf{N ps:List Str}{sc:Zf}(h:fnB N ps sc=true):FnScope N ps sc:=by
 unfold fnB at h;simp only[Vn,dQ,WK,WJ,decide_eq_false_iff_not]at h;obtain⟨⟨⟨⟨⟨⟨h1,h2⟩,h3⟩,h4⟩,h5⟩,h6⟩,h7⟩:=h;refine⟨h1,h2,h3,h4,h5,λx hx=>?_,h7⟩;have:=h6 x hx;unfold loc at this;simpa using this
noncomputable def QQ(T:List Str)(D:Df):Bool:=fnB D.N D.ps (defScope D.st)&&C7 T D.N (defScope D.st) D.body (defBody D.st)
structure Bl(mg:Str->Option ZR):Prop where
 bl:∀ b:BI,mg b.name=none
 rng:mg "range"=none
 enm:mg "enumerate"=none
 rvs:mg "reversed"=none
 zip:mg "zip"=none
 sm0:mg "sum"=none
 st0:mg "set"=none
 dc0:mg "dict"=none
 ty:∀ t:TyN,t ≠ .none->mg (Str.ofString t.nm)=none
section
variable{P:ZX}{w:Za}{K:Vl}{mg:Str->Option ZR}{base:Heap}
theorem LY{as:List ZT}{H:Hp}{N:List Str}{vs:List V}{xs:List SV}(r:RlAll K as H vs xs):EnvOk K as H (L2.start N vs) (Ni N.length xs):=by
 unfold L2.start Ni;rw[<-r.length];refine⟨by simp[r.length],λi x e=>?_⟩;by_cases hi:i<vs.length
 ·rw[W6 (by rw[Vm,<-r.length];exact hi),Vu]at e;rw[W6 (by simpa using hi),Vu];cases hx:xs[i]? with
  | none=>rw[hx]at e;cases e
  | some y=>
    rw[hx]at e;have:y=x:=by simpa using e
    subst this;obtain⟨v,hv,rv⟩:=r.get hx;exact⟨v,by rw[hv];rfl,rv⟩
 ·rw[We (by rw[Vm,<-r.length];omega),X5]at e;split at e<;>cases e
theorem Nk{T:List Str}{Δ:Nat->Sn}{D:Df}{f:ZT}{fd:A07}{k:Nat}(F:Fun K D.name D.name D.st f fd)(hc:QQ T D=true)(B:Bl mg)(hcall:∀ f x,T[f]?=some x->∃ ps,Cal P w K mg base k x ps (spS K (Δ f)))(hΔ:∀ f,MonoN (Δ f)):FnOk P w K mg base CX0 (k+1) f fd D.ps (spS K (g9 Δ D)):=by
 unfold QQ at hc;rw[Vn]at hc;have S:=Tf hc.1;refine F.ok S (λvs H Q E h=>?_) (λcdv A outer s H vs Q E hr h=>?_)
 ·obtain⟨as,S,xs,ok,r,hl,_⟩:=h;rw[r.length];exact hl
 ·have C:Cok T Δ (Hz CX0 P w K mg base D.N D.name (defScope D.st) f cdv A outer s H E).nox D.N.length D.N (defScope D.st):={
   hN:=rfl,hs:=rfl,nd:=S.nd,calm:=rfl,fn:=λ_ _ _ _ _=>rfl
   un:=by have:=hr.un;show(A.deeper _).units+102<cLine;omega
   bl:=B.bl,rng:=B.rng,enm:=B.enm,rvs:=B.rvs,zip:=B.zip,sm0:=B.sm0,st0:=B.st0,dc0:=B.dc0,ty:=B.ty,gd:=hr.gd
   call:=λg x hx=>let ⟨ps,c⟩:=hcall g x hx;⟨k,ps,c,hr⟩
   mono:=hΔ}
  refine⟨_,(Aj C PassesOwn.never (λ_ _ h=>h) S.kind D.body _ hc.2).ps,?_⟩;obtain⟨as,S,xs,ok,r,hl,h⟩:=h;refine⟨as,_,S,ok,LY r,(j5 hΔ D.body).go h ⟨λρ' S' q as' H' σ' g ok' en'=>q as' H' _ g ok' (rl_non.mpr rfl),λx S' q=>q,λ_ _ q=>q.elim,λ_ _ q=>q.elim⟩⟩
structure PIn(K:Vl)(mg:Str->Option ZR)(D:Df):Prop where
 ex:∃ f fd,Fun K D.name D.name D.st f fd/\mg D.name=some (.ref f)/\PySem.W.keepIn K (.ref f)=true/\Binds K fd D.ps []
theorem Jy{prog:List Df}(hc:prog.all (QQ (prog.map (·.name)))=true)(B:Bl mg)(hin:∀ D∈prog,PIn K mg D):∀(d f:Nat) (D:Df),prog[f]?=some D->Cal P w K mg base d D.name D.ps (spS K (W prog d f))
 | 0,f,D,hf=>by
   obtain⟨fa,fd,F,hm,hk,hb⟩:=(hin D (Vp hf)).ex;refine⟨fa,fd,⟨λvs H Q E h=>?_,λA outer s H args us vs Q E hr he hbn hv h=>?_⟩,hm,hk,hb⟩
   ·obtain⟨_,_,_,_,_,z⟩:=h;exact z.elim
   ·obtain⟨_,_,_,_,_,z⟩:=h;exact z.elim
 | d+1,f,D,hf=>by
   obtain⟨fa,fd,F,hm,hk,hb⟩:=(hin D (Vp hf)).ex;have h1:=WJ.mp hc D (Vp hf)
   have:=Nk (Δ:=W prog d) (P:=P) (w:=w) (base:=base) (k:=d) F h1 B (λg x hx=>by
    rw[Vu]at hx;cases hg:prog[g]? with
    | none=>rw[hg]at hx;cases hx
    | some D'=>
      rw[hg]at hx;have:D'.name=x:=by simpa using hx
      subst this;exact⟨D'.ps,Jy hc B hin d g D' hg⟩) (E1 d)
   have e:W prog (d+1) f=g9 (W prog d) D:=by rw[W,hf]
   rw[e];exact⟨fa,fd,this,hm,hk,hb⟩
theorem Th{prog:List Df}{d f:Nat}{H:Hp}{a:ZT}{ns:List Int}(main:W prog d f [.ro (ns.map SV.int)] [] λx _=>x = .bl true)(hO:PF H)(hS:SqL K H a (ns.map V.int)):spS K (W prog d f) [.ref a] H (λv _=>v = .bl true) λ_ _ _=>False:=by
 have hz:FzL K H a (ns.map V.int):=by
  rcases hS with(h | ⟨o,h⟩) | h
  ·rcases hO a with z | ⟨o,xs,z⟩<;>rw[h]at z<;>cases z
  ·exact .inl ⟨o,h⟩
  ·exact .inr h
 refine⟨[],[],_,⟨rfl,ZC,λk o a e=>by simp at e⟩,.cons (rl_ro.mpr ⟨a,_,rfl,hz,RlAll.ints⟩) .nil,E1 d f _ _ _ _ (λx S' e as' H' v g ok r=>?_) main⟩;subst e;exact rl_bl.mp r
end
theorem f6{k:Nat}{S:Sto}{xs:List SV}(h:S[k]?=some (.lst xs)):seqS (.loc k) S=some xs:=by simp only[seqS,h]
theorem Ak{k:Nat}{S:Sto}{xs:List SV}(h:S[k]?=some (.lst xs)):BU (.loc k) S=none:=by simp only[BU,h]
theorem Jz{k:Nat}{S:Sto}{xs:List SV}(h:S[k]?=some (.lst xs)):Mz (.loc k) S=some (!xs.isEmpty):=by simp only[Mz,h]
theorem CI{k:Nat}{S:Sto}{xs:List SV}(h:S[k]?=some (.lst xs)):tyS (.loc k) S=some .list:=by simp only[tyS,h]
theorem ifT{b:Bool}{A B:Prop}(h:b=true)(a:A):if b=true then A else B:=by rw[iP h];exact a
theorem ifF{b:Bool}{A B:Prop}(h:b=false)(a:B):if b=true then A else B:=by rw[iG (by rw[h];decide)];exact a
theorem ifD{c A B:Prop}[Decidable c](h1:c->A)(h2:¬ c->B):if decide c=true then A else B:=by
 by_cases h:c
 ·rw[iP (decide_eq_true h)];exact h1 h
 ·rw[iG (by simpa using h)];exact h2 h
theorem ifB{b:Bool}{A B:Prop}(h1:b=true->A)(h2:b=false->B):if b=true then A else B:=by
 cases b with
 | true=>rw[iP rfl];exact h1 rfl
 | false=>rw[iG (by decide)];exact h2 rfl
theorem n9{S:Sto}{k:Nat}{o u:SO}(h:S[k]?=some o):(S.set k u)[k]?=some u:=WY ((gM h).1)
theorem y9{S:Sto}{k j:Nat}{u:SO}(h:k≠j):(S.set k u)[j]?=S[j]?:=Wt h
theorem f8{S:Sto}{o:SO}:(S++[o])[S.length]?=some o:=WL
theorem j7{S:Sto}{o u:SO}{k:Nat}(h:S[k]?=some u):(S++[o])[k]?=some u:=by
 rw[W6 ((gM h).1)];exact h
theorem K0{S:Sto}{o:SO}{k:Nat}(h:S[k]?=some o):k<S.length:=(gM h).1
structure TapeS(S:Sto)(t:Nat):Prop where
 ex:∃ a b:Int,S[t]?=some (.lst [.int a,.int b])/\0<=a/\0<=b/\b<2147483647
structure On(t:Nat)(S S':Sto):Prop where
 len:S.length<=S'.length
 keep:∀ k o,k≠t->S[k]?=some o->S'[k]?=some o
theorem On.refl(t:Nat)(S:Sto):On t S S:=⟨Vt _,λ_ _ _ h=>h⟩
theorem On.trans{t:Nat}{S S' S'':Sto}(a:On t S S')(b:On t S' S''):On t S S'':=⟨WH a.len b.len,λk o n h=>b.keep k o n (a.keep k o n h)⟩
theorem On.push{t:Nat}{S S':Sto}{o:SO}(a:On t S S'):On t S (S'++[o]):=⟨by rw[Vo];have:=a.len;omega,λk u n h=>j7 (a.keep k u n h)⟩
theorem On.tape{t:Nat}{S S':Sto}{o:SO}(a:On t S S'):On t S (S'.set t o):=⟨by rw[Wa];exact a.len,λk u n h=>by rw[y9 (Ne.symm n)];exact a.keep k u n h⟩
theorem On.new{t k:Nat}{S S':Sto}{o:SO}(a:On t S S')(h:S.length<=k):On t S (S'.set k o):=⟨by rw[Wa];exact a.len,λj u n hj=>by
 rw[y9 (λz=>by have:=K0 hj;omega)];exact a.keep j u n hj⟩
theorem TapeS.push{S:Sto}{t:Nat}{o:SO}(h:TapeS S t):TapeS (S++[o]) t:=let ⟨a,b,e,z⟩:=h.ex;⟨a,b,j7 e,z⟩
theorem TapeS.other{S:Sto}{t k:Nat}{o:SO}(h:TapeS S t)(n:k≠t):TapeS (S.set k o) t:=let ⟨a,b,e,z⟩:=h.ex;⟨a,b,by rw[y9 n];exact e,z⟩
theorem TapeS.lt{S:Sto}{t:Nat}(h:TapeS S t):t<S.length:=let ⟨_,_,e,_⟩:=h.ex;K0 e
theorem AN{keep:Sto->Prop}{g:Tg}{b:WS}{D:EndsS}(mb:MonoS b)(I:Nat->EnvS->Sto->Prop){xs:List SV}{ρ:EnvS}{S:Sto}(h0:I 0 ρ S)(hk:∀ i ρ S,I i ρ S->keep S)
 (hs:∀ i x ρ S,xs[i]?=some x->I i ρ S->wTg g x ρ λρ2=>b {D with nx:=I (i+1),ct:=I (i+1),bk:=D.nx} ρ2 S) (hd:∀ ρ S,I xs.length ρ S->D.nx ρ S):AA keep g b D xs ρ S:=by
 have go:∀(ys:List SV) (i:Nat) (ρ:EnvS) (S:Sto),xs.drop i=ys->i<=xs.length->I i ρ S->AA keep g b D ys ρ S:=by
  intro ys
  induction ys with
  | nil=>
    intro i ρ S e hi h
    have:i=xs.length:=by
     have:=congrArg Y6 e;rw[XY,Wv]at this;omega
    subst this;unfold AA;exact⟨hk _ _ _ h,hd _ _ h⟩
  | cons y ys ih=>
    intro i ρ S e hi h
    have hy:xs[i]?=some y:=by
     rw[<-Z7,e];rfl
    have hlt:=(gM hy).1;have e2:xs.drop (i+1)=ys:=by rw[<-ZE,e];rfl
    unfold AA;refine⟨hk _ _ _ h,AL g (λρ2 q=>?_) (hs i y ρ S hy h)⟩;exact mb.go (D:={D with nx:=I (i+1),ct:=I (i+1),bk:=D.nx}) q ⟨λρ' S' z=>ih (i+1) ρ' S' e2 hlt z,λ_ _ z=>z,λ_ _ z=>z,λρ' S' z=>ih (i+1) ρ' S' e2 hlt z⟩
 exact go xs 0 ρ S rfl (Wy _) h0
theorem t7{keep:Sto->Prop}{g:Tg}{b:WS}{D:EndsS}(mb:MonoS b)(I:Nat->EnvS->Sto->Prop){xs:List SV}{ρ:EnvS}{S:Sto}(h0:I 0 ρ S)(hk:∀ i ρ S,I i ρ S->keep S)
 (hs:∀ i x ρ S (E:EndsS),(∀ ρ S,I (i+1) ρ S->E.nx ρ S)->(∀ y S,D.rt y S->E.rt y S)->xs[i]?=some x->I i ρ S->wTg g x ρ λρ2=>b E ρ2 S) (hd:∀ ρ S,I xs.length ρ S->D.nx ρ S):AA keep g b D xs ρ S:=
 AN mb I h0 hk (λi x ρ S hx hI=>hs i x ρ S {D with nx:=I (i+1),ct:=I (i+1),bk:=D.nx} (λ_ _ h=>h) (λ_ _ h=>h) hx hI) hd
theorem m7{keep:Sto->Prop}{g:Tg}{t:WT}{e:WE}{ρ:EnvS}{Q:List SV->Sto->Prop}(mt:MonoT t)(me:Mono e)(I:Nat->List SV->Sto->Prop){xs:List SV}{S:Sto}(h0:I 0 [] S)(hk:∀ i ys S,I i ys S->keep S)
 (hs:∀ i x ys S,xs[i]?=some x->I i ys S->wTg g x ρ λρ2=>t ρ2 S λb S1=>if b=true then e ρ2 S1 λy S2=>ys.length<big/\I (i+1) (ys++[y]) S2 else I (i+1) ys S1) (hd:∀ ys S,I xs.length ys S->Q ys S):A0 keep g t e ρ Q xs [] S:=by
 have go:∀(zs:List SV) (i:Nat) (ys:List SV) (S:Sto),xs.drop i=zs->i<=xs.length->I i ys S->A0 keep g t e ρ Q zs ys S:=by
  intro zs
  induction zs with
  | nil=>
    intro i ys S e' hi h
    have:i=xs.length:=by
     have:=congrArg Y6 e';rw[XY,Wv]at this;omega
    subst this;unfold A0;exact⟨hk _ _ _ h,hd _ _ h⟩
  | cons y zs ih=>
    intro i ys S e' hi h;have hy:xs[i]?=some y:=by rw[<-Z7,e'];rfl
    have hlt:=(gM hy).1;have e2:xs.drop (i+1)=zs:=by rw[<-ZE,e'];rfl
    unfold A0;refine⟨hk _ _ _ h,AL g (λρ2 q=>mt _ _ _ _ (λb S1 q=>t9 (λq=>me _ _ _ _ (λv S2 q=>⟨q.1,ih (i+1) _ S2 e2 hlt q.2⟩) q) (λq=>ih (i+1) _ S1 e2 hlt q) q) q) (hs i y ys S hy h)⟩
 exact go xs 0 [] S rfl (Wy _) h0
theorem AE{lo hi:Int}{i:Nat}{x:SV}(h:(CC lo hi)[i]?=some x):x = .int (lo+i)/\lo+i<hi:=by
 unfold CC at h
 have hi':i<(hi - lo).toNat:=by
  have:=(gM h).1;simpa using this
 rw[Vu,Wm hi']at h;exact⟨(oj h).symm,by omega⟩
theorem u4{lo hi:Int}:(CC lo hi).length=(hi - lo).toNat:=by unfold CC;simp
def pairS(e:Nat×Nat):SV := .tup [.int e.1,.int e.2]
def RI:List Stm:=[(.asg (.nm 2) (.c (.int 0))),(.iff (.cmp .Lt (.var 1) (.bi .len (.cons (.var 0) .nil))) [(.asg (.nm 2) (.ix (.var 0) (.var 1)))] []),(.asg (.nm 3) (.op .Mult (.bi .abs (.cons (.var 2) .nil)) (.bi .int (.cons (.cmp .GtE (.bi .abs (.cons (.var 2) .nil)) (.op .Pow (.c (.int 10)) (.c (.int 18)))) .nil)))),(.ret (.lst (.cons (.var 3) (.cons (.op .Mod (.op .Mult (.op .Mod (.op .Add (.op .Add (.var 2) (.op .Mult (.c (.int 7919)) (.var 1))) (.c (.int 1))) (.c (.int 2147483647))) (.c (.int 48271))) (.c (.int 2147483647))) .nil))))]
noncomputable def RJ:List Stm:=[(.iff (.cmp .Gt (.ix (.var 0) (.c (.int 0))) (.c (.int 0))) [(.asg (.nm 2) (.op .Mod (.ix (.var 0) (.c (.int 0))) (.var 1))),(.put (.var 0) (.c (.int 0)) (.op .FloorDiv (.ix (.var 0) (.c (.int 0))) (.var 1))),(.ret (.var 2))] []),(.put (.var 0) (.c (.int 1)) (.op .Mod (.op .Add (.op .Mult (.ix (.var 0) (.c (.int 1))) (.c (.int 48271))) (.c (.int 12345))) (.c (.int 2147483647)))),(.asg (.nm 3) (.op .Mod (.op .Mult (.ix (.var 0) (.c (.int 1))) (.op .Add (.op .Mod (.ix (.var 0) (.c (.int 1))) (.c (.int 1009))) (.c (.int 3)))) (.c (.int 2147483629)))),(.ret (.op .Mod (.op .Mod (.op .Mult (.var 3) (.op .Add (.op .Mod (.var 3) (.c (.int 997))) (.c (.int 5)))) (.c (.int 998244353))) (.var 1)))]
def CJ(s:Sn):Prop:=∀{t:Nat} {m:Int} {S:Sto} {Q:QE},TapeS S t->0<m->m<1073741824->(∀(r:Int) (S':Sto),0<=r->r<m->TapeS S' t->On t S S'->S'.length=S.length->Q (.int r) S')->s [.loc t,.int m] S Q
def Nl(s:Sn):Prop:=∀{ns:List Int} {k:Nat} {S:Sto} {Q:QE},ns.length<=63->k<=1000->(∀ a b:Int,0<=a->0<=b->b<2147483647->Q (.loc S.length) (S++[.lst [.int a,.int b]]))->s [.ro (ns.map SV.int),.int k] S Q
theorem b01(b:Bool):-(2 ^ 64)<(if b=true then (1:Int) else 0)/\(if b=true then (1:Int) else 0)<2 ^ 64:=by cases b<;>decide
theorem b00(b:Bool):0<=(if b=true then (1:Int) else 0):=by cases b<;>decide
theorem QR{Δ:Nat->Sn}{D:Df}(hb:D.body=RJ)(hN:D.N.length=4)(hp:D.ps.length=2):CJ (g9 Δ D):=by
 intro t m S Q T h0 h1 q;obtain⟨a,b,hS,ha,hb0,hb1⟩:=T.ex;unfold g9;rw[hb,hN];refine⟨hp.symm,?_⟩;have go:∀ r a' b':Int,0<=r->r<m->0<=a'->0<=b'->b'<2147483647->Q (.int r) (S.set t (.lst [.int a',.int b'])):=λr a' b' r0 r1 a0 b0 b1=>q r _ r0 r1 ⟨a',b',n9 hS,a0,b0,b1⟩ (On.refl t S).tape (by rw[Wa]);refine⟨_,rfl,_,_,f6 hS,rfl,_,rfl,ifD (λh=>?_) (λh=>?_)⟩
 ·refine⟨_,rfl,_,_,f6 hS,rfl,_,rfl,h0,?_⟩;refine⟨_,rfl,_,_,f6 hS,rfl,_,rfl,⟨h0,h1⟩,_,rfl,_,_,hS,rfl,_,rfl,?_⟩;exact go _ _ _ (Xm _ (by omega)) (Xc _ h0) (Int.ediv_nonneg ha (by omega)) hb0 hb1
 ·refine⟨_,rfl,_,_,f6 hS,rfl,.inr (by decide),show(0:Int)<2147483647 by decide,_,rfl,_,_,hS,rfl,?_⟩;have e0:0<=(b * 48271+12345) % 2147483647:=Xm _ (by decide);have e1:(b * 48271+12345) % 2147483647<2147483647:=Xc _ (by decide);have hS1:(S.set t (.lst [.int a,.int ((b * 48271+12345) % 2147483647)]))[t]?=some (.lst [.int a,.int ((b * 48271+12345) % 2147483647)]):=n9 hS;refine⟨_,rfl,_,_,f6 hS1,rfl,_,rfl,_,_,f6 hS1,rfl,show(0:Int)<1009 by decide,.inl ⟨by omega,by omega⟩,show(0:Int)<2147483629 by decide,?_⟩;have f0:0<=((b * 48271+12345) % 2147483647 * ((b * 48271+12345) % 2147483647 % 1009+3)) % 2147483629:=Xm _ (by decide);have f1:((b * 48271+12345) % 2147483647 * ((b * 48271+12345) % 2147483647 % 1009+3)) % 2147483629<2147483629:=Xc _ (by decide);refine⟨_,rfl,_,rfl,show(0:Int)<997 by decide,.inl ⟨by omega,by omega⟩,show(0:Int)<998244353 by decide,_,rfl,h0,?_⟩;exact go _ _ _ (Xm _ (by omega)) (Xc _ h0) ha e0 e1
theorem QS{Δ:Nat->Sn}{D:Df}(hb:D.body=RI)(hN:D.N.length=4)(hp:D.ps.length=2):Nl (g9 Δ D):=by
 intro ns k S Q hl hk q;unfold g9;rw[hb,hN];refine⟨hp.symm,?_⟩
 have fin:∀ c:Int,wSs Δ [(.asg (.nm 3) (.op .Mult (.bi .abs (.cons (.var 2) .nil)) (.bi .int (.cons (.cmp .GtE (.bi .abs (.cons (.var 2) .nil)) (.op .Pow (.c (.int 10)) (.c (.int 18)))) .nil)))),(.ret (.lst (.cons (.var 3) (.cons (.op .Mod (.op .Mult (.op .Mod (.op .Add (.op .Add (.var 2) (.op .Mult (.c (.int 7919)) (.var 1))) (.c (.int 1))) (.c (.int 2147483647))) (.c (.int 48271))) (.c (.int 2147483647))) .nil))))] (B3 Q) [some (.ro (ns.map SV.int)),some (.int k),some (.int c),none] S:=λc=>by
  refine⟨_,rfl,_,rfl,⟨by decide,by decide,by decide⟩,.inr (b01 _),?_⟩;refine⟨_,rfl,_,rfl,_,rfl,.inl ⟨by decide,by decide⟩,show(0:Int)<2147483647 by decide,.inr ⟨by decide,by decide⟩,show(0:Int)<2147483647 by decide,by show 2<=big;decide,?_⟩;refine q _ _ (Int.mul_nonneg (by split<;>omega) (b00 _)) (Xm _ (by decide)) (Xc _ (by decide))
 refine⟨_,rfl,_,rfl,_,rfl,_,rfl,ifD (λh=>?_) (λh=>fin 0)⟩
 have hk':k<ns.length:=by
  have:((ns.map SV.int).length:Int)=ns.length:=by rw[Vm]
  omega
 refine⟨_,rfl,_,rfl,_,_,rfl,i6 (v := .int ns[k]) (by rw[Vu,Vr hk'];rfl),?_⟩;exact fin _
structure Ah(t:Nat)(S0 S:Sto)(l:Nat)(es:EE):Prop where
 tape:TapeS S t
 on:On t S0 S
 at':S[l]?=some (.lst (es.map pairS))
 new:S0.length<=l
 t0:t<S0.length
theorem Ah.ne{t l:Nat}{S0 S:Sto}{es:EE}(h:Ah t S0 S l es):l≠t:=by have:=h.new;have:=h.t0;omega
theorem Ah.draw{t l:Nat}{S0 S S':Sto}{es:EE}(h:Ah t S0 S l es)(T:TapeS S' t)(O:On t S S'):Ah t S0 S' l es:=⟨T,h.on.trans O,O.keep _ _ h.ne h.at',h.new,h.t0⟩
theorem Ah.push{t l:Nat}{S0 S:Sto}{es:EE}{o:SO}(h:Ah t S0 S l es):Ah t S0 (S++[o]) l es:=⟨h.tape.push,h.on.push,j7 h.at',h.new,h.t0⟩
theorem Ah.put{t l:Nat}{S0 S:Sto}{es fs:EE}(h:Ah t S0 S l es):Ah t S0 (S.set l (.lst (fs.map pairS))) l fs:=⟨h.tape.other h.ne,h.on.new h.new,n9 h.at',h.new,h.t0⟩
def i8(n:Nat)(es:EE):SV := .tup [.int n,.tup (es.map pairS)]
def Iy:List Stm:=[(.ret (.and (.bi .isi (.cons (.var 0) (.cons (.tyc .int) .nil))) (.not (.bi .isi (.cons (.var 0) (.cons (.tyc .bool) .nil))))))]
def Ez(k:Nat):List Stm:=[(.ret (.and (.call k (.cons (.var 1) .nil)) (.chn .LtE .Lt (.c (.int 0)) (.var 1) (.ix (.var 0) (.c (.int 0))))))]
def K1(k:Nat):List Stm:=[(.ret (.and (.call k (.cons (.var 1) .nil)) (.chn .LtE .Lt (.c (.int 0)) (.var 1) (.bi .len (.cons (.ix (.var 0) (.c (.int 1))) .nil)))))]
def Fj(k:Nat):List Stm:=[(.iff (.not (.call k (.cons (.var 0) (.cons (.var 1) .nil)))) [.no] [])]
def K3(k:Nat):List Stm:=[(.expr (.call k (.cons (.var 0) (.cons (.var 1) .nil)))),(.ret (.comp ["tie","ends"] ["place"] [1] (.tup (.cons (.nm 0) (.cons (.nm 1) .nil))) (.enum (.ix (.var 0) (.c (.int 1)))) (.yes (.cmp .In (.var 2) (.var 1))) (.var 0)))]
def K4(k:Nat):List Stm:=[(.expr (.call k (.cons (.var 0) (.cons (.var 1) .nil)))),(.asg (.tup (.cons (.nm 3) (.cons (.nm 4) .nil))) (.ix (.ix (.var 0) (.c (.int 1))) (.var 1))),(.iff (.cmp .Eq (.var 2) (.var 3)) [(.ret (.var 4))] []),(.iff (.cmp .Eq (.var 2) (.var 4)) [(.ret (.var 3))] []),.no]
def DP(s:Sn):Prop:=∀{i:Int} {S:Sto} {Q:QE},Q (.bl true) S->s [.int i] S Q
def CK(s:Sn):Prop:=∀{n p:Nat} {es:EE} {S:Sto} {Q:QE},p<n->Q (.bl true) S->s [i8 n es,.int p] S Q
def BC(s:Sn):Prop:=∀{n j:Nat} {es:EE} {S:Sto} {Q:QE},j<es.length->Q (.bl true) S->s [i8 n es,.int j] S Q
def Ab(s:Sn):Prop:=∀{n p:Nat} {es:EE} {S:Sto} {Q:QE},p<n->Q .non S->s [i8 n es,.int p] S Q
def BO(s:Sn):Prop:=∀{n j:Nat} {es:EE} {S:Sto} {Q:QE},j<es.length->Q .non S->s [i8 n es,.int j] S Q
def i9(es:EE)(p:Nat)(i:Nat):List Nat:=(W4 i).filter λj=>match es[j]? with | some e=>decide (e.1=p)||decide (e.2=p) | none=>false
def i7(xs:List Nat):List SV:=xs.map λ(i:Nat)=>SV.int i
def Bn(s:Sn):Prop:=∀{n p:Nat} {es:EE} {S:Sto} {Q:QE},es.length<=5000->p<n->Q (.loc S.length) (S++[.lst (i7 (i9 es p es.length))])->s [i8 n es,.int p] S Q
def AF(e:Nat×Nat)(p:Nat):Nat:=if p=e.1 then e.2 else e.1
def BD(s:Sn):Prop:=∀{n p j:Nat} {es:EE} {e:Nat×Nat} {S:Sto} {Q:QE},es[j]?=some e->(p=e.1\/p=e.2)->Q (.int (AF e p)) S->s [i8 n es,.int j,.int p] S Q
section
variable{Δ:Nat->Sn}
theorem Nm{D:Df}(hb:D.body=Iy)(hN:D.N.length=1)(hp:D.ps.length=1):DP (g9 Δ D):=by
 intro i S Q q;unfold g9;rw[hb,hN];exact⟨hp.symm,_,rfl,_,nofun,rfl,_,rfl,ifT rfl ⟨_,rfl,_,nofun,rfl,_,rfl,q⟩⟩
theorem HP{k:Nat}(h0:DP (Δ k)){D:Df}(hb:D.body=Ez k)(hN:D.N.length=2)(hp:D.ps.length=2):CK (g9 Δ D):=by
 intro n p es S Q h q;unfold g9;rw[hb,hN];refine⟨hp.symm,_,rfl,h0 ⟨_,rfl,ifT rfl ⟨_,rfl,_,rfl,ifT (decide_eq_true (Xz p)) ⟨_,rfl,_,_,rfl,rfl,?_⟩⟩⟩⟩;show Q (.bl (decide ((p:Int)<n))) S;rw[decide_eq_true (by omega)];exact q
theorem LZ{k:Nat}(h0:DP (Δ k)){D:Df}(hb:D.body=K1 k)(hN:D.N.length=2)(hp:D.ps.length=2):BC (g9 Δ D):=by
 intro n p es S Q h q;unfold g9;rw[hb,hN];refine⟨hp.symm,_,rfl,h0 ⟨_,rfl,ifT rfl ⟨_,rfl,_,rfl,ifT (decide_eq_true (Xz p)) ⟨_,rfl,_,_,rfl,rfl,_,rfl,?_⟩⟩⟩⟩;show Q (.bl (decide ((p:Int)<(es.map pairS).length))) S;rw[decide_eq_true (by rw[Vm];omega)];exact q
theorem EU{k:Nat}(h0:CK (Δ k)){D:Df}(hb:D.body=Fj k)(hN:D.N.length=2)(hp:D.ps.length=2):Ab (g9 Δ D):=by
 intro n p es S Q h q;unfold g9;rw[hb,hN];exact⟨hp.symm,_,rfl,_,rfl,h0 h ⟨_,rfl,ifF rfl q⟩⟩
theorem HQ{k:Nat}(h0:BC (Δ k)){D:Df}(hb:D.body=Fj k)(hN:D.N.length=2)(hp:D.ps.length=2):BO (g9 Δ D):=by
 intro n p es S Q h q;unfold g9;rw[hb,hN];exact⟨hp.symm,_,rfl,_,rfl,h0 h ⟨_,rfl,ifF rfl q⟩⟩
theorem B4{xs:List SV}{i:Nat}{x:SV}(h:(Bf xs)[i]?=some x):∃ y,xs[i]?=some y/\x = .tup [.int i,y]:=by
 unfold Bf at h;rw[Xs]at h;cases hy:xs[i]? with
 | none=>rw[hy]at h;revert h;cases(W4 xs.length)[i]?<;>exact nofun
 | some y=>
   have hi:=(gM hy).1;rw[hy,Wm hi]at h;exact⟨y,rfl,(oj h).symm⟩
theorem BP{xs:List SV}:(Bf xs).length=xs.length:=by unfold Bf;simp
theorem AO{es:EE}{i:Nat}{x:SV}(h:(es.map pairS)[i]?=some x):∃ e,es[i]?=some e/\x=pairS e:=by
 rw[Vu]at h;cases he:es[i]? with
 | none=>rw[he]at h;cases h
 | some e=>rw[he]at h;exact⟨e,rfl,(oj h).symm⟩
theorem Aw(p:Nat)(e:Nat×Nat):inS (.int p) [.int e.1,.int e.2]=(decide (e.1=p)||decide (e.2=p)):=by
 have k:∀ a:Nat,((a:Int) == (p:Int))=decide (a=p):=λa=>by
  rw[Wd];simp[WW]
 unfold inS;simp only[X1,ZM,ZJ,eqF,k]
theorem Bo(es:EE)(p i:Nat){e:Nat×Nat}(h:es[i]?=some e):i9 es p (i+1)=i9 es p i++if (decide (e.1=p)||decide (e.2=p))=true then [i] else []:=by
 unfold i9;rw[XQ,Xd]
 congr 1
 rw[X7,h];rfl
theorem E3(es:EE)(p i:Nat):(i9 es p i).length<=i:=by
 have:=XJ (λj=>match es[j]? with | some e=>decide (e.1=p)||decide (e.2=p) | none=>false) (W4 i);rw[Wb]at this;exact this
theorem mem_tiesAt{es:EE}{p j:Nat}:j∈i9 es p es.length↔∃ e,es[j]?=some e/\(e.1=p\/e.2=p):=by
 unfold i9;rw[Wn,WD];constructor
 ·rintro⟨h,h2⟩;rw[Vr h]at h2;exact⟨_,Vr h,by simpa using h2⟩
 ·rintro⟨e,h,h2⟩;refine⟨(gM h).1,?_⟩;rw[h];simpa using h2
theorem La{k:Nat}(hΔ:∀ f,MonoN (Δ f))(h0:Ab (Δ k)){D:Df}(hb:D.body=K3 k)(hN:D.N.length=2)(hp:D.ps.length=2):Bn (g9 Δ D):=by
 intro n p es S Q hl h q;unfold g9;rw[hb,hN];refine⟨hp.symm,_,rfl,_,rfl,h0 h ⟨_,rfl,_,_,rfl,rfl,_,rfl,?_⟩⟩;refine m7 (p4 hΔ _).2 (c9 hΔ _).1 (λi ys S'=>S'=S/\ys=i7 (i9 es p i)) ⟨rfl,rfl⟩ (λ_ _ _ _=>trivial) ?_ ?_
 ·rintro i x ys S' hx ⟨rfl,rfl⟩;obtain⟨y,hy,rfl⟩:=B4 hx;obtain⟨e,he,rfl⟩:=AO hy;have hi:=(gM he).1;have ht:=E3 es p i;refine⟨_,rfl,_,rfl,rfl,_,rfl,rfl,_,rfl,?_⟩;show if inS (.int p) [.int e.1,.int e.2]=true then _ else _
  rw[Aw];refine ifB (λh=>?_) (λh=>?_)
  ·refine⟨_,rfl,by show(i7 _).length<100000;unfold i7;rw[Vm];omega,rfl,?_⟩;rw[Bo es p i he,iP h];unfold i7;rw[WB];rfl
  ·refine⟨rfl,?_⟩;rw[Bo es p i he,iG (by rw[h];decide),Wl]
 ·rintro ys S' ⟨rfl,rfl⟩;rw[BP,Vm];exact q
theorem Lb{k:Nat}(h0:BO (Δ k)){D:Df}(hb:D.body=K4 k)(hN:D.N.length=5)(hp:D.ps.length=3):BD (g9 Δ D):=by
 intro n p j es e S Q he h q;unfold g9;rw[hb,hN];refine⟨hp.symm,_,rfl,_,rfl,h0 (gM he).1 ⟨_,rfl,_,_,rfl,rfl,_,rfl,_,pairS e,rfl,i6 (by rw[Vu,he];rfl),?_⟩⟩;refine⟨_,rfl,_,rfl,_,rfl,?_⟩;refine ifD (λh1=>⟨_,rfl,?_⟩) (λh1=>⟨_,rfl,_,rfl,_,rfl,ifD (λh2=>⟨_,rfl,?_⟩) (λh2=>?_)⟩)
 ·have h1:p=e.1:=WW.mp h1;unfold AF at q;rw[iP h1]at q;exact q
 ·have h1:¬ p=e.1:=λz=>h1 (congrArg _ z);unfold AF at q;rw[iG h1]at q;exact q
 ·rcases h with h | h
  ·exact absurd (congrArg Nat.cast h) h1
  ·exact absurd (congrArg Nat.cast h) h2
end
theorem n6{xs:List Nat}:(i7 xs).length=xs.length:=by unfold i7;rw[Vm]
theorem Nn{xs:List Nat}{i x:Nat}(h:xs[i]?=some x):(i7 xs)[i]?=some (.int x):=by unfold i7;rw[Vu,h];rfl
theorem AB{xs ys:List Nat}:i7 (xs++ys)=i7 xs++i7 ys:=by unfold i7;rw[WB]
def y1:Stm:=(.iff (.cmp .Is (.var 1) (.c .non)) [(.ret (.cmp .Is (.var 0) (.c .non)))] [])
def y5:Stm:=(.ret (.and (.bi .isi (.cons (.var 0) (.cons (.tyc .int) .nil))) (.and (.not (.bi .isi (.cons (.var 0) (.cons (.tyc .bool) .nil)))) (.cmp .Eq (.var 0) (.var 1)))))
section
variable{Δ:Nat->Sn}{k:Nat}{D:Df}
theorem Ti(n:Nat):blS (Vx n (.bl true))=some (Vx n true):=by
 induction n with
 | zero=>rfl
 | succ n ih=>rw[WQ,WQ];simp[blS,ih]
end
structure Gw(S S':Sto):Prop where
 len:S.length<=S'.length
 keep:∀(k:Nat) (o:SO),S[k]?=some o->S'[k]?=some o
theorem Gw.refl(S:Sto):Gw S S:=⟨Vt _,λ_ _ h=>h⟩
theorem Gw.push{S S':Sto}{o:SO}(h:Gw S S'):Gw S (S'++[o]):=⟨by rw[Vo];have:=h.len;omega,λk u z=>j7 (h.keep k u z)⟩
theorem Gw.put{S S':Sto}{o:SO}{k:Nat}(h:Gw S S')(hk:S.length<=k):Gw S (S'.set k o):=⟨by rw[Wa];exact h.len,λj u z=>by
 rw[y9 (λe=>by have:=K0 z;omega)];exact h.keep j u z⟩
theorem Gw.trans{S S' S'':Sto}(a:Gw S S')(b:Gw S' S''):Gw S S'':=⟨WH a.len b.len,λk o h=>b.keep k o (a.keep k o h)⟩
theorem By(xs:List Nat):(i7 xs).all AG=true:=by
 unfold i7;rw[YQ,WJ];exact λ_ _=>rfl
section
variable{Δ:Nat->Sn}
theorem QT(n:Nat):(Vx n true).all id=true:=by simp
end
end Rf
namespace L2
open PySem PySem.Spec PyProof.Rows
structure Sz(k b:Nat)(d:PyData):Prop where
 dp:d.depth<=k
 bk:d.bulk<=b
 sh:d.showable=true
 lf:d.leavesShort 100=true
end L2
namespace Rf
open PySem L2
def Al(es:EE)(t:Nat):Nat×Nat:=es.getD t (0,0)
theorem Cb{es:EE}{t:Nat}(h:t<es.length):es[t]?=some (Al es t):=by
 unfold Al;rw[Vq,Vr h];rfl
section
variable{Δ:Nat->Sn}
theorem f7{D:EndsS}{ρ:EnvS}{S:Sto}(h:D.nx ρ S):wSs Δ [] D ρ S:=h
end
end Rf
namespace Hue
theorem len_split{α:Type}(p q:α->Bool):∀ l:List α,(l.filter p).length=(l.filter λa=>p a&&q a).length+(l.filter λa=>p a&&!q a).length
 | []=>rfl
 | a::l=>by
   have ih:=len_split p q l;rw[X7,X7,X7];cases p a<;>cases q a<;>simp<;>omega
end Hue
namespace Rf
open PySem L2
theorem BQ{xs:List Nat}{i:Nat}{x:SV}(h:(i7 xs)[i]?=some x):∃ j,xs[i]?=some j/\x = .int j:=by
 unfold i7 at h;rw[Vu]at h;cases hx:xs[i]? with
 | none=>rw[hx]at h;cases h
 | some j=>rw[hx]at h;exact⟨j,rfl,(oj h).symm⟩
theorem Fk(p:Nat)(xs:List Nat):inS (.int p) (i7 xs)=decide (p∈xs):=by
 rw[Wd,dQ];unfold inS i7;rw[Xq,XE];constructor
 ·rintro⟨a,ha,h⟩;have h:((a:Int) == (p:Int))=true:=h;rw[beq_iff_eq]at h;have:=WW.mp h;rw[<-this];exact ha
 ·intro h;exact⟨p,h,by show((p:Int) == (p:Int))=true;simp⟩
end Rf
namespace Hue
end Hue
namespace Rf
open PySem L2
theorem E4(P:Nat->Bool)(i:Nat):(W4 (i+1)).filter P=(W4 i).filter P++if P i=true then [i] else []:=by
 rw[XQ,Xd,X7];cases P i<;>rfl
theorem BR(P:Nat->Bool)(i:Nat):((W4 i).filter P).length<=i:=by
 have:=XJ P (W4 i)
 rwa [Wb]at this
theorem K5{α:Type}{xs:List α}{a b:α}{j:Nat}(h:(xs++[a])[j]?=some b):(j=xs.length/\b=a)\/xs[j]?=some b:=by
 rcases XT j xs.length with z | z
 ·rw[W6 z]at h;exact .inr h
 ·have e:j=xs.length:=by
   have:=(gM h).1;rw[Vo,Wk]at this;omega
  subst e;rw[We (Vt _),Nat.sub_self]at h;cases h;exact .inl ⟨rfl,rfl⟩
section
variable{n:Nat}{es:EE}{sd:Nat->Nat}{P0:List (Option Nat)}{starts:List Nat}{cm:Cm}
def t4(es:EE)(p:Nat):Nat:=(i9 es p es.length).length
end
theorem K6:∀(xs:List Nat),IP (i7 xs)=some (xs.map λ(i:Nat)=>(i:Int))
 | []=>rfl
 | x::xs=>by
   show(IP (i7 xs)).map (((x:Nat):Int)::·)=_;rw[K6 xs];rfl
def Am(p:Nat)(e:Nat×Nat):Bool:=decide (e.1=p)||decide (e.2=p)
theorem endB_iff{p:Nat}{e:Nat×Nat}:Am p e=true↔(p=e.1\/p=e.2):=by
 unfold Am;simp only[Wg,dQ];exact⟨λh=>h.imp Eq.symm Eq.symm,λh=>h.imp Eq.symm Eq.symm⟩
theorem HR(es:EE)(p:Nat):∀ i,i<=es.length->(i9 es p i).length=(es.take i).countP (Am p)
 | 0,_=>by simp[i9]
 | i+1,h=>by
   have he:es[i]?=some es[i]:=Vr (by omega);rw[Bo es p i he,Vo,HR es p i (by omega),WZ,he,Y0];show _+_=_+Z4 (Am p) [es[i]];rw[YJ,YX];unfold Am;by_cases z:(decide (es[i].1=p)||decide (es[i].2=p))=true
   ·rw[iP z,iP z];rfl
   ·rw[iG z,iG z];rfl
theorem No(es:EE)(p:Nat):t4 es p=es.countP (Am p):=by
 unfold t4;rw[HR es p _ (Vt _),WV]
def v8(es:EE):Nat->Nat
 | 0=>0
 | n+1=>max (v8 es n) (t4 es n)
theorem Bp(es:EE):∀{n p:Nat},p<n->t4 es p<=v8 es n
 | 0,_,h=>absurd h (Xe _)
 | n+1,p,h=>by
   show _<=max (v8 es n) (t4 es n);by_cases e:p=n
   ·subst e;omega
   ·have:=Bp es (n:=n) (p:=p) (by omega);omega
theorem E5(es:EE):∀ n:Nat,v8 es n=0\/∃ p,p<n/\v8 es n=t4 es p
 | 0 => .inl rfl
 | n+1=>by
   show max (v8 es n) (t4 es n)=0\/∃ p,p<n+1/\max (v8 es n) (t4 es n)=t4 es p;by_cases h:v8 es n<=t4 es n
   ·right;exact⟨n,by omega,by omega⟩
   ·rcases E5 es n with z | ⟨p,hp,e⟩
    ·left;omega
    ·right;exact⟨p,by omega,by omega⟩
theorem F0{es:EE}{n:Nat}{m:Int}(h1:∀ p,p<n->((t4 es p:Nat):Int)<=m)(h2:m=0\/∃ p,p<n/\m=(t4 es p:Nat))(h0:0<=m):m=(v8 es n:Nat):=by
 have a:m<=(v8 es n:Nat):=by
  rcases h2 with z | ⟨p,hp,z⟩
  ·omega
  ·have:=Bp es hp;omega
 have b:((v8 es n:Nat):Int)<=m:=by
  rcases E5 es n with z | ⟨p,hp,z⟩
  ·omega
  ·have:=h1 p hp;omega
 omega
def cS(n:Nat)(f:Nat->Nat):List SV:=(W4 n).map λp=>SV.int (f p:Nat)
theorem E6{n p:Nat}{f:Nat->Nat}(h:p<n):(cS n f)[p]?=some (.int (f p:Nat)):=by unfold cS;rw[Vu,Wm h];rfl
theorem Bq{n:Nat}{f:Nat->Nat}:(cS n f).length=n:=by unfold cS;rw[Vm,Wb]
theorem K7(n:Nat)(f:Nat->Nat):cS n f=((W4 n).map λp=>((f p:Nat):Int)).map SV.int:=by unfold cS;rw[Xh];rfl
theorem RK{n p:Nat}{f:Nat->Nat}(h:p<n):(cS n f).set p (.int ((f p:Nat)+1))=cS n λq=>f q+if q=p then 1 else 0:=by
 apply XI;intro i;by_cases hi:i<n
 ·rw[E6 hi];by_cases e:i=p
  ·subst e;rw[WY (by rw[Bq];exact hi),iP rfl];rfl
  ·rw[Wt (Ne.symm e),E6 hi,iG e];rfl
 ·rw[Wf (by rw[Wa,Bq];omega),Wf (by rw[Bq];omega)]
theorem Np:∀ n:Nat,(Vx n [SV.int 0]).flatten=cS n λ_=>0:=by
 intro n
 have e:(Vx n [SV.int 0]).flatten=Vx n (SV.int 0):=by
  induction n with
  | zero=>rfl
  | succ n ih=>rw[WQ,Wx,ih];rfl
 rw[e];apply XI;intro i;rw[X5];by_cases hi:i<n
 ·rw[iP hi,E6 hi];rfl
 ·rw[iG hi,Wf (by rw[Bq];omega)]
def RL:List Stm:=[(.asg (.nm 1) (.op .Mult (.lst (.cons (.c (.int 0)) .nil)) (.ix (.var 0) (.c (.int 0))))),(.loop (.tup (.cons (.nm 2) (.cons (.nm 3) .nil))) (.seq (.ix (.var 0) (.c (.int 1)))) [(.augS (.var 1) (.var 2) (.c (.int 1))),(.augS (.var 1) (.var 3) (.c (.int 1)))]),(.ret (.maxd (.var 1) (.c (.int 0))))]
def Iz(s:Sn):Prop:=∀{n:Nat} {es:EE} {S:Sto} {Q:QE},(∀ e∈es,e.1<e.2/\e.2<n)->n<=1000->(∀ S',Gw S S'->Q (.int (v8 es n:Nat)) S')->s [i8 n es] S Q
theorem Nq{n:Nat}{es:EE}{m:Int}(h:Grt ((W4 n).map λp=>((t4 es p:Nat):Int)) m):m=(v8 es n:Nat):=by
 obtain⟨h1,h2⟩:=h;obtain⟨p,hp,e⟩:=WC.mp h1;rw[WD]at hp;exact F0 (λq hq=>h2 _ (WC.mpr ⟨q,WD.mpr hq,rfl⟩)) (.inr ⟨p,hp,e.symm⟩) (by rw[<-e];omega)
section
variable{Δ:Nat->Sn}
theorem QU(hΔ:∀ f,MonoN (Δ f)){D:Df}(hb:D.body=RL)(hN:D.N.length=4)(hp:D.ps.length=1):Iz (g9 Δ D):=by
 intro n es S Q hen hn q;unfold g9;rw[hb,hN];refine⟨hp.symm,by show 1<=big;decide,_,rfl,_,_,rfl,rfl,_,f8,⟨by omega,by omega⟩,by show 1 * _<=100000;omega,?_⟩;have er:(Vx ((n:Int)).toNat [SV.int 0]).flatten=cS n λ_=>0:=by rw[Ws,Np]
 rw[er];have p1:((S++[SO.lst [SV.int 0]])++[SO.lst (cS n λ_=>0)])[(S++[SO.lst [SV.int 0]]).length]?=some (.lst (cS n λ_=>0)):=f8;have G1:Gw S ((S++[SO.lst [SV.int 0]])++[SO.lst (cS n λ_=>0)]):=(Gw.refl S).push.push;have kl:S.length<=(S++[SO.lst [SV.int 0]]).length:=by rw[Vo];omega
 generalize (S++[SO.lst [SV.int 0]]).length=k at *;generalize (S++[SO.lst [SV.int 0]])++[SO.lst (cS n λ_=>0)]=S1 at *;refine⟨_,rfl,_,_,rfl,rfl,_,rfl,?_⟩;refine t7 (j5 hΔ _) (λi ρ S2=>∃ o2 o3,ρ=[some (i8 n es),some (.loc k),o2,o3]/\Gw S S2/\S2[k]?=some (.lst (cS n λp=>(es.take i).countP (Am p)))) ⟨none,none,rfl,G1,by rw[p1];simp⟩ (λ_ _ _ _=>trivial) ?_ ?_
 ·rintro i x ρ S2 E hn _ hx ⟨o2,o3,rfl,G2,h2⟩;obtain⟨e,he,rfl⟩:=AO hx;have hee:=hen e (Vp he);refine⟨_,rfl,_,rfl,k,e.1,_,_,rfl,rfl,h2,E6 (by omega),_,_,rfl,h2,by rw[Bq];omega,?_⟩;rw[RK (by omega)];have h3:(S2.set k (.lst (cS n λq=>(es.take i).countP (Am q)+if q=e.1 then 1 else 0)))[k]?=some (.lst (cS n λq=>(es.take i).countP (Am q)+if q=e.1 then 1 else 0)):=n9 h2;have G3:Gw S (S2.set k (.lst (cS n λq=>(es.take i).countP (Am q)+if q=e.1 then 1 else 0))):=G2.put kl;generalize S2.set k (.lst (cS n λq=>(es.take i).countP (Am q)+if q=e.1 then 1 else 0))=S3 at *;refine⟨_,rfl,_,rfl,k,e.2,_,_,rfl,rfl,h3,E6 (by omega),_,_,rfl,h3,by rw[Bq];omega,?_⟩;rw[RK (by omega)];refine hn _ _ ⟨_,_,rfl,G3.put kl,?_⟩;rw[n9 h3]
  congr 3
  funext p
  rw[WZ,he,Y0];show _=_+Z4 (Am p) [e];rw[YJ,YX];by_cases z:Am p e=true
  ·rw[iP z];rcases endB_iff.mp z with y | y
   ·rw[iP y,iG (by omega)]
   ·rw[iP y,iG (by omega)]
  ·have z':¬ (p=e.1\/p=e.2):=λy=>z (endB_iff.mpr y);rw[iG z,iG (λy=>z' (.inl y)),iG (λy=>z' (.inr y))]
 ·rintro ρ S2 ⟨o2,o3,rfl,G2,h2⟩;rw[Vm,WV]at h2;have ec:(cS n λp=>es.countP (Am p))=cS n (t4 es):=by congr 1;funext p;exact(No es p).symm
  rw[ec,K7]at h2;refine⟨_,rfl,k,_,_,rfl,rfl,h2,λz=>?_,λm g=>?_⟩
  ·have hn0:n=0:=by cases n with
    | zero=>rfl
    | succ n=>simp[XQ]at z
   have:=q S2 G2;rw[hn0]at this;exact this
  ·rw[Nq g];exact q S2 G2
def K8:List Stm:=[(.ret (.bi .len (.cons (.comp ["_law_pair"] ["_law_place"] [1] (.nm 0) (.seq (.ix (.var 0) (.c (.int 1)))) (.yes (.cmp .In (.var 1) (.var 0))) (.var 0)) .nil)))]
def E7(s:Sn):Prop:=∀{n p:Nat} {es:EE} {S:Sto} {Q:QE},es.length<=5000->(∀ S',Gw S S'->Q (.int (t4 es p:Nat)) S')->s [i8 n es,.int p] S Q
theorem Lc(hΔ:∀ f,MonoN (Δ f)){D:Df}(hb:D.body=K8)(hN:D.N.length=2)(hp:D.ps.length=2):E7 (g9 Δ D):=by
 intro n p es S Q hel q;unfold g9;rw[hb,hN];refine⟨hp.symm,_,rfl,_,_,rfl,rfl,_,rfl,?_⟩;refine m7 (p4 hΔ _).2 (c9 hΔ _).1 (λi ys S'=>S'=S/\ys.length=(es.take i).countP (Am p)) ⟨rfl,by simp⟩ (λ_ _ _ _=>trivial) ?_ ?_
 ·rintro i x ys S' hx ⟨rfl,hy⟩;obtain⟨e,he,rfl⟩:=AO hx;have hi:=(gM he).1;have hcl:(es.take i).countP (Am p)<=i:=WH (List.countP_le_length ..) (by rw[Wp];omega)
  have hs:(es.take (i+1)).countP (Am p)=(es.take i).countP (Am p)+if Am p e=true then 1 else 0:=by
   rw[WZ,he,Y0];show _+Z4 (Am p) [e]=_;rw[YJ,YX,Nat.zero_add]
  refine⟨_,rfl,_,rfl,rfl,_,rfl,rfl,_,rfl,?_⟩;show if inS (.int p) [.int e.1,.int e.2]=true then _ else _
  rw[Aw];refine ifB (λh=>?_) (λh=>?_)
  ·refine⟨_,rfl,by rw[hy];show _<100000;omega,rfl,?_⟩;rw[Vo,hy,hs,iP (show Am p e=true from h)];rfl
  ·refine⟨rfl,?_⟩;rw[hy,hs,iG (show ¬ Am p e=true by unfold Am;rw[h];decide)];rfl
 ·rintro ys S' ⟨rfl,hy⟩;rw[Vm,WV,<-No]at hy;refine⟨_,f6 f8,?_⟩;rw[hy];exact q _ (Gw.refl _).push
theorem Ld{n:Nat}{es:EE}{m:Int}(h:Grt (0::(W4 n).map λp=>((t4 es p:Nat):Int)) m):m=(v8 es n:Nat):=by
 obtain⟨h1,h2⟩:=h;have h0:=h2 0 (W7 ..);refine F0 (λq hq=>h2 _ (Vz _ (WC.mpr ⟨q,WD.mpr hq,rfl⟩))) ?_ h0;rcases W5.mp h1 with z | z
 ·exact .inl z
 ·obtain⟨p,hp,e⟩:=WC.mp z;exact .inr ⟨p,WD.mp hp,e.symm⟩
def K9(s:Sn):Prop:=∀{n:Nat} {es:EE} {S:Sto} {Q:QE},es.length<=5000->n<=1000->(∀ S',Gw S S'->Q (.int (v8 es n:Nat)) S')->s [i8 n es] S Q
theorem Tj{t:Nat}{S S':Sto}(G:Gw S S'):On t S S':=⟨G.len,λk o _ h=>G.keep k o h⟩
end
def hu(cs:List Nat)(t:Nat):Nat:=cs.getD t 0
def AtP(es:EE)(t y:Nat):Prop:=∃ e,es[t]?=some e/\(e.1=y\/e.2=y)
theorem AtP.lt{es:EE}{t y:Nat}(h:AtP es t y):t<es.length:=let ⟨_,e,_⟩:=h;(gM e).1
structure Prp(es:EE)(cs:List Nat):Prop where
 len:cs.length=es.length
 one:∀ t u y,AtP es t y->AtP es u y->hu cs t=hu cs u->t=u
structure RwI(es:EE)(cs:List Nat)(a b p:Nat)(r:List Nat)(x one other:Nat):Prop where
 nd:r.Nodup
 lt:∀ t∈r,t<es.length
 alt:∀ i t:Nat,r[i]?=some t->hu cs t=if i % 2=0 then a else b
 d1:one=if r.length % 2=0 then a else b
 d2:other=if r.length % 2=0 then b else a
 fin:∀ t∈r,∀ y,AtP es t y->y≠x->∀ u,AtP es u y->(hu cs u=a\/hu cs u=b)->u∈r
 oth:∀ u,AtP es u x->hu cs u=other->u∈r
 non:∀ u∈r,AtP es u x->hu cs u≠one
 lst:∀ t,r.getLast?=some t->AtP es t x
 beg:r=[]->x=p
 fst:∀ t,r[0]?=some t->AtP es t p
 all:∀ T:Nat->Prop,(∀ t u y,T t->AtP es t y->AtP es u y->(hu cs u=a\/hu cs u=b)->T u)->(∀ t,r[0]?=some t->T t)->∀ t∈r,T t
def Clo(es:EE)(cs:List Nat)(a b:Nat)(r:List Nat):Prop:=∀ t∈r,∀ y,AtP es t y->∀ u,AtP es u y->(hu cs u=a\/hu cs u=b)->u∈r
section
variable{es:EE}{cs:List Nat}{a b p x one other:Nat}{r:List Nat}
theorem RwI.nil(h:∀ u,AtP es u p->hu cs u≠b):RwI es cs a b p [] p a b:=
 ⟨.nil,(λ_ h=>nomatch h),λi t h=>by simp at h,rfl,rfl,(λ_ h=>nomatch h),λu h1 h2=>absurd h2 (h u h1),(λ_ h=>nomatch h),λt h=>by simp at h,λ_=>rfl,λt h=>by simp at h,λ_ _ _ _ h=>nomatch h⟩
theorem RwI.two(R:RwI es cs a b p r x one other){h:Nat}(z:h=a\/h=b):h=one\/h=other:=by
 rw[R.d1,R.d2];by_cases e:r.length % 2=0
 ·rw[iP e,iP e];exact z
 ·rw[iG e,iG e];exact z.symm
theorem RwI.ab(R:RwI es cs a b p r x one other):(one=a\/one=b)/\(other=a\/other=b):=by
 rw[R.d1,R.d2];by_cases e:r.length % 2=0
 ·rw[iP e,iP e];exact⟨.inl rfl,.inr rfl⟩
 ·rw[iG e,iG e];exact⟨.inr rfl,.inl rfl⟩
theorem RwI.ne(R:RwI es cs a b p r x one other)(ab:a≠b):one≠other:=by
 rw[R.d1,R.d2];by_cases e:r.length % 2=0
 ·rw[iP e,iP e];exact ab
 ·rw[iG e,iG e];exact ab.symm
theorem RwI.step(P:Prp es cs)(ab:a≠b)(R:RwI es cs a b p r x one other){t:Nat}{e:Nat×Nat}(he:es[t]?=some e)(hx:e.1=x\/e.2=x)(ne:e.1≠e.2)(ht:hu cs t=one):RwI es cs a b p (r++[t]) (AF e x) other one:=by
 have ax:AtP es t x:=⟨e,he,hx⟩
 have fx:AF e x≠x:=by unfold AF;split<;>rcases hx with z | z<;>omega
 have af:AtP es t (AF e x):=⟨e,he,by unfold AF;split<;>simp⟩
 have ends:∀ y,AtP es t y->y=x\/y=AF e x:=by
  rintro y ⟨e',he',hy⟩;rw[he]at he';cases he';unfold AF;rcases hx with hx | hx<;>rcases hy with hy | hy<;>split<;>omega
 have tn:t∉r:=λz=>R.non t z ax ht;have oo:=R.ne ab
 have fin1:∀ u,AtP es u x->(hu cs u=a\/hu cs u=b)->u∈r++[t]:=λu hu' hc=>by
  rcases R.two hc with z | z
  ·rw[P.one u t x hu' ax (z.trans ht.symm)];simp
  ·exact XR _ (R.oth u hu' z)
 have ll:(r++[t]).length=r.length+1:=by simp
 refine⟨?_,λu hu'=>?_,λi u hi=>?_,?_,?_,λs hs y hy nx u hu' hc=>?_,λu hu' hc=>?_,λu hu' hy hc=>?_,λu hu'=>?_,λz=>?_,λu hu'=>?_,λT c0 c1 u hu'=>?_⟩
 ·rw[XU];exact⟨R.nd,by simp,λc hc d hd=>by rw[W8.mp hd];exact λz=>tn (z▸hc)⟩
 ·rcases WM.mp hu' with z | z
  ·exact R.lt u z
  ·rw[W8.mp z];exact ax.lt
 ·rcases K5 hi with⟨e1,e2⟩ | hi
  ·rw[e2,ht,e1];exact R.d1
  ·exact R.alt i u hi
 ·rw[ll,R.d2];by_cases e:r.length % 2=0
  ·rw[iP e,iG (by omega)]
  ·rw[iG e,iP (by omega)]
 ·rw[ll,R.d1];by_cases e:r.length % 2=0
  ·rw[iP e,iG (by omega)]
  ·rw[iG e,iP (by omega)]
 ·rcases WM.mp hs with z | z
  ·by_cases yx:y=x
   ·rw[yx]at hu';exact fin1 u hu' hc
   ·exact XR _ (R.fin s z y hy yx u hu' hc)
  ·rw[W8.mp z]at hy;rcases ends y hy with q | q
   ·rw[q]at hu';exact fin1 u hu' hc
   ·exact absurd q nx
 ·rw[P.one u t _ hu' af (hc.trans ht.symm)];simp
 ·rcases WM.mp hu' with z | z
  ·exact tn (R.fin u z _ hy fx t af (by rw[ht];exact R.ab.1))
  ·rw[W8.mp z,ht]at hc;exact oo hc
 ·rw[List.getLast?_concat]at hu';cases hu';exact af
 ·simp at z
 ·cases hr:r with
  | nil=>
    rw[hr]at hu';have:t=u:=by simpa using hu'
    rw[<-this,<-R.beg hr];exact ax
  | cons s rs=>
    rw[hr]at hu';exact R.fst u (by rw[hr];simpa using hu')
 ·rcases WM.mp hu' with z | z
  ·refine R.all T c0 (λs hs=>c1 s ?_) u z;cases hr:r with
   | nil=>rw[hr]at hs;simp at hs
   | cons s' rs=>rw[hr]at hs;simpa using hs
  ·rw[W8.mp z];cases hr:r with
   | nil=>exact c1 t (by rw[hr];rfl)
   | cons s' rs=>
     have hl:r.getLast?=some (r.getLast (by rw[hr];simp)):=XG (by rw[hr];simp);have sm:=List.getLast_mem (l:=r) (by rw[hr];simp);refine c0 _ t x (R.all T c0 (λs hs=>c1 s ?_) _ sm) (R.lst _ hl) ax (by rw[ht];exact R.ab.1);rw[hr]at hs ⊢;simpa using hs
theorem RwI.len(R:RwI es cs a b p r x one other):r.length<=es.length:=by
 have:=List.Nodup.length_le_of_subset R.nd (l₂:=W4 es.length) λt ht=>WD.mpr (R.lt t ht)
 rwa [Wb]at this
theorem RwI.clo(R:RwI es cs a b p r x one other)(no:∀ u,AtP es u x->hu cs u≠one):Clo es cs a b r:=by
 intro t ht y hy u hu' hc;by_cases yx:y=x
 ·rw[yx]at hu';rcases R.two hc with z | z
  ·exact absurd z (no u hu')
  ·exact R.oth u hu' z
 ·exact R.fin t ht y hy yx u hu' hc
end
def r6(es:EE)(cs:List Nat)(x h:Nat):Option Nat:=(i9 es x es.length).find? λt=>decide (hu cs t=h)
theorem p8{es:EE}{cs:List Nat}{x h t:Nat}(z:r6 es cs x h=some t):AtP es t x/\hu cs t=h:=by
 unfold r6 at z;exact⟨mem_tiesAt.mp (Xi z),by simpa using Z8 z⟩
theorem AS{es:EE}{cs:List Nat}{x h:Nat}(z:r6 es cs x h=none):∀ u,AtP es u x->hu cs u≠h:=by
 unfold r6 at z;rw[X4]at z;exact λu hu'=>by simpa using z u (mem_tiesAt.mpr hu')
def rwF(es:EE)(cs:List Nat):Nat->Nat->Nat->Nat->List Nat
 | 0,_,_,_=>[]
 | k+1,x,one,other=>match r6 es cs x one with
   | none=>[]
   | some t=>t::rwF es cs k (AF (es.getD t (0,0)) x) other one
theorem Nr{es:EE}{cs:List Nat}{a b p:Nat}(P:Prp es cs)(ab:a≠b)(hne:∀ e∈es,e.1≠e.2):∀(k:Nat) (r:List Nat) (x one other:Nat),RwI es cs a b p r x one other->es.length+1<=r.length+k->∃ x' one' other',RwI es cs a b p (r++rwF es cs k x one other) x' one' other'/\∀ u,AtP es u x'->hu cs u≠one'
 | 0,r,x,one,other,R,h=>by have:=R.len;omega
 | k+1,r,x,one,other,R,h=>by
   unfold rwF;cases ht:r6 es cs x one with
   | none=>exact⟨x,one,other,by simpa using R,AS ht⟩
   | some t=>
     obtain⟨⟨e,he,hx⟩,hc⟩:=p8 ht;have ge:es.getD t (0,0)=e:=by rw[Vq,he];rfl
     dsimp only;rw[ge];have R':=R.step P ab he hx (hne e (Vp he)) hc;obtain⟨x',o1,o2,R2,no⟩:=Nr P ab hne k _ _ _ _ R' (by rw[Vo];simp;omega);exact⟨x',o1,o2,by simpa using R2,no⟩
def exL(cs r:List Nat)(a b:Nat):List Nat:=(W4 cs.length).map λt=>if t∈r then (if hu cs t=a then b else a) else hu cs t
theorem AW(cs r:List Nat)(a b:Nat):(exL cs r a b).length=cs.length:=by unfold exL;rw[Vm,Wb]
theorem E8{cs r:List Nat}{a b t:Nat}(h:t<cs.length):hu (exL cs r a b) t=if t∈r then (if hu cs t=a then b else a) else hu cs t:=by
 unfold exL;show Wz _ t 0=_;rw[Vq,Vu,Wm h];rfl
theorem Tl{es:EE}{cs r:List Nat}{a b:Nat}(P:Prp es cs)(C:Clo es cs a b r)(hr:∀ t∈r,hu cs t=a\/hu cs t=b):Prp es (exL cs r a b):=by
 refine⟨(AW ..).trans P.len,λt u y ht hu' h=>?_⟩;have tl:=ht.lt;have ul:=hu'.lt;rw[<-P.len]at tl ul;rw[E8 tl,E8 ul]at h;by_cases z1:t∈r
 ·by_cases z2:u∈r
  ·rw[iP z1,iP z2]at h;refine P.one t u y ht hu' ?_;rcases hr t z1 with q1 | q1<;>rcases hr u z2 with q2 | q2
   ·rw[q1,q2]
   ·rw[iP q1]at h;by_cases q3:hu cs u=a
    ·rw[q1,q3]
    ·rw[iG q3]at h;rw[q1,q2,h]
   ·rw[iP q2]at h;by_cases q3:hu cs t=a
    ·rw[q2,q3]
    ·rw[iG q3]at h;rw[q1,q2,h]
   ·rw[q1,q2]
  ·rw[iP z1,iG z2]at h;exact absurd (C t z1 y ht u hu' (by split at h;exact .inr h.symm;exact .inl h.symm)) z2
 ·by_cases z2:u∈r
  ·rw[iG z1,iP z2]at h;exact absurd (C u z2 y hu' t ht (by split at h;exact .inr h;exact .inl h)) z1
  ·rw[iG z1,iG z2]at h;exact P.one t u y ht hu' h
theorem Tm(cs:List Nat):(W4 cs.length).map (hu cs)=cs:=by
 apply XI;intro i;rw[Vu];by_cases h:i<cs.length
 ·rw[Wm h,Vr h];show some (cs.getD i 0)=_;rw[Vq,Vr h];rfl
 ·rw[Wf (by rw[Wb];omega),Wf (by omega)];rfl
inductive Gd(V:Nat->List SV->Prop):Nat->Nat->SV->Prop where
 | non {k b:Nat}:Gd V k b .non
 | bl {k b:Nat} (c:Bool):Gd V k b (.bl c)
 | int {k b:Nat} {i:Int} (h:-1000000000000000000000<=i/\i<=1000000000000000000000):Gd V k b (.int i)
 | str {k b:Nat} {x:Str} (h:Sz 0 10 (.str x)) (hb:10<=b):Gd V k b (.str x)
 | tup {k b c:Nat} {xs:List SV} (h:∀ y∈xs,Gd V k b y) (hl:xs.length<=63) (hc:xs.length * (b+1)<=c):Gd V (k+1) c (.tup xs)
 | lst {k b c l:Nat} {xs:List SV} (hv:V l xs) (h:∀ y∈xs,Gd V k b y) (hl:xs.length<=63) (hc:xs.length * (b+1)<=c):Gd V (k+1) c (.loc l)
theorem Gd.see{V V':Nat->List SV->Prop}(i:∀ l xs,V l xs->V' l xs){k b:Nat}{x:SV}(h:Gd V k b x):Gd V' k b x:=by
 induction h with
 | non=>exact .non
 | bl c=>exact .bl c
 | int h=>exact .int h
 | str h hb=>exact .str h hb
 | tup _ hl hc ih=>exact .tup ih hl hc
 | lst hv _ hl hc ih=>exact .lst (i _ _ hv) ih hl hc
def VS(S:Sto)(l:Nat)(xs:List SV):Prop:=S[l]?=some (.lst xs)
def isI:SV->Bool
 | .int _=>true
 | _=>false
section
variable{Δ:Nat->Sn}
def Tn(s:Sn):Prop:=∀{x:SV} {S:Sto} {k b:Nat} {Q:QE},Gd (VS S) k b x->Q (.bl (isI x)) S->s [x] S Q
theorem QV{D:Df}(hb:D.body=Iy)(hN:D.N.length=1)(hp:D.ps.length=1):Tn (g9 Δ D):=by
 intro x S k b Q h q;unfold g9;rw[hb,hN];cases h with
 | non=>exact⟨hp.symm,_,rfl,_,nofun,rfl,_,rfl,ifF rfl q⟩
 | bl c=>exact⟨hp.symm,_,rfl,_,nofun,rfl,_,rfl,ifT rfl ⟨_,rfl,_,nofun,rfl,_,rfl,q⟩⟩
 | int h=>exact⟨hp.symm,_,rfl,_,nofun,rfl,_,rfl,ifT rfl ⟨_,rfl,_,nofun,rfl,_,rfl,q⟩⟩
 | str h hb'=>exact⟨hp.symm,_,rfl,_,nofun,rfl,_,rfl,ifF rfl q⟩
 | tup h hl hc=>exact⟨hp.symm,_,rfl,_,nofun,rfl,_,rfl,ifF rfl q⟩
 | lst hv h hl hc=>exact⟨hp.symm,_,rfl,_,nofun,CI hv,_,rfl,ifF rfl q⟩
theorem QW(f:Nat->Bool):∀ n:Nat,blS ((W4 n).map λi => .bl (f i))=some ((W4 n).map f):=by
 have go:∀ l:List Nat,blS (l.map λi => .bl (f i))=some (l.map f):=λl=>by
  induction l with
  | nil=>rfl
  | cons a l ih=>rw[WX,WX];simp[blS,ih]
 exact λn=>go _
theorem all_mapF{f:Nat->Bool}{n:Nat}:((W4 n).map f).all id=true↔∀ i,i<n->f i=true:=by
 rw[WJ];constructor
 ·exact λh i hi=>h _ (WC.mpr ⟨i,WD.mpr hi,rfl⟩)
 ·rintro h x hx;obtain⟨i,hi,rfl⟩:=WC.mp hx;exact h i (WD.mp hi)
theorem Nt(hΔ:∀ f,MonoN (Δ f)){e:Ex}{keep:Sto->Prop}{g:Tg}{ρ:EnvS}{Q:List SV->Sto->Prop}(f:Nat->Bool){xs:List SV}{S:Sto}(hl:xs.length<=1000)(hk:∀ S',Gw S S'->keep S')
 (hs:∀(i:Nat) (x:SV) (S':Sto),xs[i]?=some x->Gw S S'->wTg g x ρ λρ2=>(wEx Δ e).1 ρ2 S' λy S2=>y = .bl (f i)/\Gw S S2)
 (q:∀ S',Gw S S'->Q ((W4 xs.length).map λi => .bl (f i)) S'):A0 keep g (wEo Δ .no).2 (wEx Δ e).1 ρ Q xs [] S:=by
 refine m7 (p4 hΔ _).2 (c9 hΔ _).1 (λi ys S'=>Gw S S'/\ys=(W4 i).map λi => .bl (f i)) ⟨Gw.refl S,rfl⟩ (λ_ _ _ h=>hk _ h.1) ?_ ?_
 ·rintro i x ys S' hx ⟨G,rfl⟩;have hi:=(gM hx).1;refine AL g (λρ2 h=>?_) (hs i x S' hx G);refine(c9 hΔ e).1 _ _ _ _ (λy S2 h=>⟨by rw[Vm,Wb];show _<100000;omega,h.2,?_⟩) h;rw[h.1,XQ,WB];rfl
 ·rintro ys S' ⟨G,rfl⟩;exact q S' G
theorem Gd.grow{S S':Sto}{k b:Nat}{x:SV}(h:Gd (VS S) k b x)(G:Gw S S'):Gd (VS S') k b x:=h.see λl xs e=>G.keep l _ e
def VO:List Stm:=[(.ret (.bi .isi (.cons (.var 0) (.cons (.tup (.cons (.tyc .list) (.cons (.tyc .tuple) .nil))) .nil))))]
def isL:SV->Bool
 | .tup _=>true
 | .loc _=>true
 | _=>false
def To(s:Sn):Prop:=∀{x:SV} {S:Sto} {k b:Nat} {Q:QE},Gd (VS S) k b x->Q (.bl (isL x)) S->s [x] S Q
theorem QX{D:Df}(hb:D.body=VO)(hN:D.N.length=1)(hp:D.ps.length=1):To (g9 Δ D):=by
 intro x S k b Q h q;unfold g9;rw[hb,hN];have b2:2<=big:=by decide
 cases h with
 | non=>exact⟨hp.symm,_,rfl,b2,_,[.list,.tuple],by decide,rfl,rfl,q⟩
 | bl c=>exact⟨hp.symm,_,rfl,b2,_,[.list,.tuple],by decide,rfl,rfl,q⟩
 | int h=>exact⟨hp.symm,_,rfl,b2,_,[.list,.tuple],by decide,rfl,rfl,q⟩
 | str h hb'=>exact⟨hp.symm,_,rfl,b2,_,[.list,.tuple],by decide,rfl,rfl,q⟩
 | tup h hl hc=>exact⟨hp.symm,_,rfl,b2,_,[.list,.tuple],by decide,rfl,rfl,q⟩
 | lst hv h hl hc=>exact⟨hp.symm,_,rfl,b2,_,[.list,.tuple],by decide,CI hv,rfl,q⟩
end
structure SeqV(S:Sto)(x:SV)(xs:List SV):Prop where
 seq:∀ S',Gw S S'->seqS x S'=some xs
 keep:∀ S1 S',Gw S S1->Gw S S'->keepS x S1 S'
 len:xs.length<=63
 gd:∃ k b,∀ y∈xs,Gd (VS S) k b y
 ls:isL x=true
theorem Gd.split{S:Sto}{k b:Nat}{x:SV}(h:Gd (VS S) k b x):(isL x=false/\∀ xs,seqS x S≠some xs)\/∃ xs,SeqV S x xs:=by
 cases h with
 | non=>exact .inl ⟨rfl,nofun⟩
 | bl c=>exact .inl ⟨rfl,nofun⟩
 | int h=>exact .inl ⟨rfl,nofun⟩
 | str h hb'=>exact .inl ⟨rfl,nofun⟩
 | tup h hl hc=>exact .inr ⟨_,λ_ _=>rfl,λ_ _ _ _=>trivial,hl,⟨_,_,h⟩,rfl⟩
 | lst hv h hl hc=>exact .inr ⟨_,λS' G=>f6 (G.keep _ _ hv),λS1 S' G1 G=>by
    show S'[_]?=S1[_]?;rw[G.keep _ _ hv,G1.keep _ _ hv],hl,⟨_,_,h⟩,rfl⟩
section
variable{Δ:Nat->Sn}
def RM:List Stm:=[(.ret (.or (.cmp .In (.ix (.ix (.ix (.var 0) (.c (.int 1))) (.var 1)) (.c (.int 0))) (.ix (.ix (.var 0) (.c (.int 1))) (.var 2))) (.cmp .In (.ix (.ix (.ix (.var 0) (.c (.int 1))) (.var 1)) (.c (.int 1))) (.ix (.ix (.var 0) (.c (.int 1))) (.var 2)))))]
def Shr(es:EE)(t u:Nat):Prop:=∃ p,(p=(Al es t).1\/p=(Al es t).2)/\(p=(Al es u).1\/p=(Al es u).2)
def F1(s:Sn):Prop:=∀{n t u:Nat} {es:EE} {S:Sto} {Q:QE},t<es.length->u<es.length->(∀ v:Bool,(v=true↔Shr es t u)->Q (.bl v) S)->s [i8 n es,.int t,.int u] S Q
theorem Nu{D:Df}(hb:D.body=RM)(hN:D.N.length=3)(hp:D.ps.length=3):F1 (g9 Δ D):=by
 intro n t u es S Q ht hu q;unfold g9;rw[hb,hN];have h1:atI (es.map pairS) (t:Int)=some (pairS (Al es t)):=i6 (by rw[Vu,Cb ht];rfl);have h2:atI (es.map pairS) (u:Int)=some (pairS (Al es u)):=i6 (by rw[Vu,Cb hu];rfl);refine⟨hp.symm,_,rfl,_,_,rfl,rfl,_,rfl,_,_,rfl,h1,_,.int ((Al es t).1:Nat),rfl,rfl,_,rfl,_,_,rfl,rfl,_,rfl,_,_,rfl,h2,rfl,_,rfl,rfl,_,rfl,?_⟩;show if inS (.int (Al es t).1) [.int (Al es u).1,.int (Al es u).2]=true then _ else _
 rw[Aw];refine ifB (λz=>q true ⟨λ_=>?_,λ_=>rfl⟩) (λz=>?_)
 ·refine⟨(Al es t).1,.inl rfl,?_⟩;simp only[Wg,dQ]at z;exact z.imp Eq.symm Eq.symm
 ·refine⟨_,rfl,_,_,rfl,rfl,_,rfl,_,_,rfl,h1,_,.int ((Al es t).2:Nat),rfl,rfl,_,rfl,_,_,rfl,rfl,_,rfl,_,_,rfl,h2,rfl,_,rfl,rfl,?_⟩;show Q (.bl (inS (.int (Al es t).2) [.int (Al es u).1,.int (Al es u).2])) S;rw[Aw];refine q _ ⟨λz=>⟨(Al es t).2,.inr rfl,?_⟩,?_⟩
  ·simp only[Wg,dQ]at z;exact z.imp Eq.symm Eq.symm
  ·rintro⟨p,rfl | rfl,h⟩
   ·simp only[Bool.or_eq_false_iff,decide_eq_false_iff_not]at z;exact absurd (h.imp Eq.symm Eq.symm) (not_or.mpr z)
   ·simp only[Wg,dQ];exact h.imp Eq.symm Eq.symm
theorem Gw.tape{t:Nat}{S S':Sto}(G:Gw S S')(T:TapeS S t):TapeS S' t:=let ⟨a,b,h,c⟩:=T.ex;⟨a,b,G.keep _ _ h,c⟩
end
def QY:SV->Bool
 | .int i=>decide (0<=i)
 | _=>false
def PropS(es:EE)(xs:List SV)(m:Nat):Prop:=∀(i j:Nat) (h:Int),i<j->j<m->xs[i]?=some (.int h)->xs[j]?=some (.int h)->¬ Shr es i j
def endE(es:EE)(t p:Nat):Prop:=p=(Al es t).1\/p=(Al es t).2
theorem shr_end{es:EE}{a b:Nat}:Shr es a b↔∃ p,endE es a p/\endE es b p:=Iff.rfl
structure DictI(es:EE)(xs:List SV)(i:Nat)(kvs:List ((Int×Int)×Int)):Prop where
 sound:∀(p:Nat) (h n:Int),dpv kvs (((p:Nat):Int),h)=some n->∃ t:Nat,n=(t:Nat)/\t<i/\xs[t]?=some (.int h)/\endE es t p
 full:∀(t p:Nat) (h:Int),t<i->xs[t]?=some (.int h)->endE es t p->∃ n,dpv kvs (((p:Nat):Int),h)=some n
theorem KA{kvs:List ((Int×Int)×Int)}{k k':Int×Int}{m:Int}(h:dpv kvs k=none):dpv (kvs++[(k,m)]) k'=if k'=k then some m else dpv kvs k':=by
 unfold dpv at h ⊢;rw[Y8];by_cases e:k'=k
 ·subst e;rw[iP rfl];have h':=X8.mp h;rw[h',ZF,WU,decide_eq_true rfl];rfl
 ·rw[iG e,WU,decide_eq_false (λz=>e z.symm),List.find?_nil,Option.or_none]
structure DJ(es:EE)(xs:List SV)(i:Nat)(h:Int)(P:Nat->Prop)(kvs:List ((Int×Int)×Int))(ps:List (Int×Int)):Prop where
 sound:∀(p:Nat) (g n:Int),dpv kvs (((p:Nat):Int),g)=some n->∃ t:Nat,n=(t:Nat)/\(t<i\/(t=i/\P p))/\xs[t]?=some (.int g)/\endE es t p
 full:∀(t p:Nat) (g:Int),(t<i\/(t=i/\P p))->xs[t]?=some (.int g)->endE es t p->∃ n,dpv kvs (((p:Nat):Int),g)=some n
 cl:ps=[]↔PropS es xs i/\∀ t p:Nat,t<i->xs[t]?=some (.int h)->P p->¬ endE es t p
theorem DJ.first{es:EE}{xs:List SV}{i:Nat}{h:Int}{kvs:List ((Int×Int)×Int)}{ps:List (Int×Int)}(D:DictI es xs i kvs)(c:ps=[]↔PropS es xs i):DJ es xs i h (λ_=>False) kvs ps:=
 ⟨λp g n e=>let ⟨t,a,b,c⟩:=D.sound p g n e;⟨t,a,.inl b,c⟩,λt p g ht hx he=>D.full t p g (ht.elim id λz=>z.2.elim) hx he,c.trans ⟨λa=>⟨a,λ_ _ _ _ z=>z.elim⟩,λa=>a.1⟩⟩
theorem DJ.found{es:EE}{xs:List SV}{i p:Nat}{h c:Int}{P:Nat->Prop}{kvs:List ((Int×Int)×Int)}{ps:List (Int×Int)}(J:DJ es xs i h P kvs ps)(hxi:xs[i]?=some (.int h))(nP:¬ P p)(hc:dpv kvs (((p:Nat):Int),h)=some c):c≠(i:Nat)/\DJ es xs i h (λq=>P q\/q=p) kvs (ps++[(c,((i:Nat):Int))]):=by
 obtain⟨t,rfl,ht,hx,he⟩:=J.sound p h c hc;have ht:t<i:=ht.elim id λz=>absurd z.2 nP;refine⟨λz=>by omega,λq g n e=>?_,λu q g hu hx' he'=>?_,⟨λz=>absurd z (by simp),λz=>absurd he (z.2 t p ht hx (.inr rfl))⟩⟩
 ·obtain⟨u,a,b,d⟩:=J.sound q g n e;exact⟨u,a,b.imp id λz=>⟨z.1,.inl z.2⟩,d⟩
 ·rcases hu with hu | ⟨rfl,hu | rfl⟩
  ·exact J.full u q g (.inl hu) hx' he'
  ·exact J.full u q g (.inr ⟨rfl,hu⟩) hx' he'
  ·rw[hxi]at hx';cases hx';exact⟨_,hc⟩
theorem DJ.new{es:EE}{xs:List SV}{i p:Nat}{h:Int}{P:Nat->Prop}{kvs:List ((Int×Int)×Int)}{ps:List (Int×Int)}(J:DJ es xs i h P kvs ps)(hxi:xs[i]?=some (.int h))(hp:endE es i p)(hc:dpv kvs (((p:Nat):Int),h)=none):DJ es xs i h (λq=>P q\/q=p) (kvs++[((((p:Nat):Int),h),((i:Nat):Int))]) ps:=by
 refine⟨λq g n e=>?_,λu q g hu hx' he'=>?_,J.cl.trans ⟨λz=>⟨z.1,λt q ht hx hq he=>?_⟩,λz=>⟨z.1,λt q ht hx hq he=>z.2 t q ht hx (.inl hq) he⟩⟩⟩
 ·rw[KA hc]at e;by_cases z:(((q:Nat):Int),g)=(((p:Nat):Int),h)
  ·rw[iP z]at e;injection z with z1 z2;cases e;rw[WW.mp z1,z2];exact⟨i,rfl,.inr ⟨rfl,.inr rfl⟩,hxi,hp⟩
  ·rw[iG z]at e;obtain⟨u,a,b,d⟩:=J.sound q g n e;exact⟨u,a,b.imp id λz=>⟨z.1,.inl z.2⟩,d⟩
 ·rw[KA hc];by_cases z:(((q:Nat):Int),g)=(((p:Nat):Int),h)
  ·rw[iP z];exact⟨_,rfl⟩
  ·rw[iG z];rcases hu with hu | ⟨rfl,hu | rfl⟩
   ·exact J.full u q g (.inl hu) hx' he'
   ·exact J.full u q g (.inr ⟨rfl,hu⟩) hx' he'
   ·rw[hxi]at hx';cases hx';exact absurd rfl z
 ·rcases hq with hq | rfl
  ·exact z.2 t q ht hx hq he
  ·obtain⟨n,e⟩:=J.full t q h (.inl ht) hx he;rw[hc]at e;cases e
theorem DJ.last{es:EE}{xs:List SV}{i:Nat}{h:Int}{P:Nat->Prop}{kvs:List ((Int×Int)×Int)}{ps:List (Int×Int)}(J:DJ es xs i h P kvs ps)(hxi:xs[i]?=some (.int h))(hP:∀ p,endE es i p↔P p):DictI es xs (i+1) kvs/\(ps=[]↔PropS es xs (i+1)):=by
 refine⟨⟨λp g n e=>?_,λt p g ht hx he=>J.full t p g ?_ hx he⟩,J.cl.trans ⟨λz a b g hab hb ha hb' sh=>?_,λz=>⟨λa b g hab hb=>z a b g hab (by omega),λt p ht hx hp he=>z t i h ht (XZ _) hx hxi ⟨p,he,(hP p).mpr hp⟩⟩⟩⟩
 ·obtain⟨t,a,b,d⟩:=J.sound p g n e;exact⟨t,a,by omega,d⟩
 ·rcases XT t i with z | z
  ·exact .inl z
  ·have:t=i:=by omega
   subst this;exact .inr ⟨rfl,(hP p).mp he⟩
 ·rcases XT b i with y | y
  ·exact z.1 a b g hab y ha hb' sh
  ·have:b=i:=by omega
   subst this;rw[hxi]at hb';cases hb';obtain⟨p,e1,e2⟩:=sh;exact z.2 a p hab ha ((hP p).mp e2) e1
theorem DictI.skip{es:EE}{xs:List SV}{i:Nat}{kvs:List ((Int×Int)×Int)}{ps:List (Int×Int)}(D:DictI es xs i kvs)(c:ps=[]↔PropS es xs i)(hxi:xs[i]?=some .non):DictI es xs (i+1) kvs/\(ps=[]↔PropS es xs (i+1)):=by
 have lt:∀(t:Nat) (g:Int),t<i+1->xs[t]?=some (.int g)->t<i:=λt g ht hx=>by
  rcases XT t i with z | z
  ·exact z
  ·have:t=i:=by omega
   subst this;rw[hxi]at hx;cases hx
 exact⟨⟨λp g n e=>let ⟨t,a,b,d⟩:=D.sound p g n e;⟨t,a,by omega,d⟩,λt p g ht hx he=>D.full t p g (lt t g ht hx) hx he⟩,c.trans ⟨λz a b g hab hb ha hb'=>z a b g hab (lt b g hb hb') ha hb',λz a b g hab hb=>z a b g hab (by omega)⟩⟩
section
variable{Δ:Nat->Sn}
def kq3:Stm:=(.loop (.nm 7) (.seq (.var 5)) [(.asg (.nm 8) (.setd (.var 2) (.tup (.cons (.var 7) (.cons (.var 6) .nil))) (.var 4))),(.iff (.cmp .NotEq (.var 8) (.var 4)) [(.expr (.mt .append (.var 3) (.cons (.tup (.cons (.var 8) (.cons (.var 4) .nil))) .nil)))] [])])
def kq2:Stm:=(.loop (.tup (.cons (.nm 4) (.cons (.nm 5) .nil))) (.enum (.ix (.var 0) (.c (.int 1)))) [(.asg (.nm 6) (.ix (.var 1) (.var 4))),(.iff (.cmp .IsNot (.var 6) (.c .non)) [kq3] [])])
def Nv:List Stm:=[(.asg (.nm 2) .dnewp),(.asg (.nm 3) (.lst .nil)),kq2,(.ret (.mind (.var 3) (.c .non)))]
def psS(ps:List (Int×Int)):List SV:=ps.map λp:Int×Int=>SV.tup [.int p.1,.int p.2]
theorem F2{n m l i p:Nat}{h:Int}{es:EE}{x:SV}{kvs:List ((Int×Int)×Int)}{ps:List (Int×Int)}{S:Sto}{D:EndsS}{o5 o8:Option SV}(hm:S[m]?=some (.dtp kvs))(hl:S[l]?=some (.lst (psS ps)))(hk:kvs.length<1000)(hp:ps.length<1000)
 (q0:∀ c:Int,dpv kvs (((p:Nat):Int),h)=some c->c=(i:Nat)->D.nx [some (i8 n es),some x,some (.loc m),some (.loc l),some (.int (i:Nat)),o5,some (.int h),some (.int (p:Nat)),some (.int c)] S)
 (q1:∀ c:Int,dpv kvs (((p:Nat):Int),h)=some c->c≠(i:Nat)->D.nx [some (i8 n es),some x,some (.loc m),some (.loc l),some (.int (i:Nat)),o5,some (.int h),some (.int (p:Nat)),some (.int c)] (S.set l (.lst (psS (ps++[(c,((i:Nat):Int))])))))
 (q2:dpv kvs (((p:Nat):Int),h)=none->D.nx [some (i8 n es),some x,some (.loc m),some (.loc l),some (.int (i:Nat)),o5,some (.int h),some (.int (p:Nat)),some (.int (i:Nat))] (S.set m (.dtp (kvs++[((((p:Nat):Int),h),((i:Nat):Int))])))):
 wSs Δ [(.asg (.nm 8) (.setd (.var 2) (.tup (.cons (.var 7) (.cons (.var 6) .nil))) (.var 4))),(.iff (.cmp .NotEq (.var 8) (.var 4)) [(.expr (.mt .append (.var 3) (.cons (.tup (.cons (.var 8) (.cons (.var 4) .nil))) .nil)))] [])] D [some (i8 n es),some x,some (.loc m),some (.loc l),some (.int (i:Nat)),o5,some (.int h),some (.int (p:Nat)),o8] S:=by
 refine⟨_,rfl,m,kvs,rfl,hm,_,rfl,_,rfl,by show 2<=100000;decide,_,rfl,_,_,_,kvs,rfl,rfl,hm,by show _<100000;omega,λc hc=>?_,λhc=>?_⟩
 ·refine⟨_,rfl,_,rfl,_,rfl,?_⟩;show if (!decide (c=((i:Nat):Int)))=true then _ else _
  by_cases z:c=(i:Nat)
  ·exact ifF (by rw[decide_eq_true z];rfl) (f7 (q0 c hc z))
  ·refine ifT (by rw[decide_eq_false z];rfl) ?_;have hl':(psS ps).length<100000:=by unfold psS;rw[Vm];omega
   refine⟨_,rfl,⟨l,_,rfl,hl⟩,_,rfl,_,rfl,by show 2<=100000;decide,_,hl,hl',?_⟩;have q:=q1 c hc z;unfold psS at q ⊢;rw[WB]at q;exact f7 (Δ:=Δ) q
 ·refine⟨_,rfl,_,rfl,_,rfl,?_⟩;show if (!decide (((i:Nat):Int)=((i:Nat):Int)))=true then _ else _
  exact ifF (by rw[decide_eq_true rfl];rfl) (f7 (q2 hc))
def J1(s:Sn):Prop:=∀{n:Nat} {es:EE} {x:SV} {xs:List SV} {S:Sto} {Q:QE},(∀ e∈es,e.1<e.2/\e.2<n)->es.length<=60->SeqV S x xs->xs.length=es.length->(∀ y∈xs,y = .non\/∃ h:Int,y = .int h)->(∀(v:SV) (S':Sto),Gw S S'->(A9 v=true↔PropS es xs es.length)->Q v S')->s [i8 n es,x] S Q
theorem Lf(hΔ:∀ f,MonoN (Δ f)){D:Df}(hb:D.body=Nv)(hN:D.N.length=9)(hp:D.ps.length=2):J1 (g9 Δ D):=by
 intro n es x xs S Q W hel V hlen hit q;unfold g9;rw[hb,hN];refine⟨hp.symm,by show 0<=100000;decide,_,rfl,_,_,rfl,rfl,_,rfl,?_⟩;have hm0:((S++[SO.dtp []])++[SO.lst []])[S.length]?=some (.dtp []):=j7 f8;have hl0:((S++[SO.dtp []])++[SO.lst []])[(S++[SO.dtp []]).length]?=some (.lst []):=f8;have ll:(S++[SO.dtp []]).length=S.length+1:=by simp
 rw[ll]at hl0;have lw:((S++[SO.dtp []])++[SO.lst []]).length=S.length+2:=by simp
 have G0:Gw S ((S++[SO.dtp []])++[SO.lst []]):=(Gw.refl S).push.push;show AA _ _ _ _ _ [some (i8 n es),some x,some (.loc S.length),some (.loc (S++[SO.dtp []]).length),none,none,none,none,none] _;rw[ll]
 refine t7 (j5 hΔ _) (λi ρ S2=>∃(o4 o5 o6 o7 o8:Option SV) (kvs:List ((Int×Int)×Int)) (ps:List (Int×Int)),ρ=[some (i8 n es),some x,some (.loc S.length),some (.loc (S.length+1)),o4,o5,o6,o7,o8]/\Gw S S2/\S2[S.length]?=some (.dtp kvs)/\S2[S.length+1]?=some (.lst (psS ps))/\DictI es xs i kvs/\(ps=[]↔PropS es xs i)/\kvs.length<=2 * i/\ps.length<=2 * i)
  ⟨_,_,_,_,_,[],[],rfl,G0,hm0,hl0,⟨λp h n e=>(by cases e),λt p h ht=>absurd ht (Xe _)⟩,⟨λ_ i j h _ hj=>absurd hj (Xe _),λ_=>rfl⟩,Vt _,Vt _⟩ (λ_ _ _ _=>trivial) ?_ ?_
 ·rintro i z ρ S2 E hE hrt hz ⟨o4,o5,o6,o7,o8,kvs,ps,rfl,G2,hm,hl,DI,PI,hk,hps⟩;obtain⟨y,hy,rfl⟩:=B4 hz;obtain⟨e,he,rfl⟩:=AO hy;have hi:=(gM he).1;have hv:=Vr (show i<xs.length by omega);have mv:=XD (show i<xs.length by omega);generalize xs[i]=v at *;have lw2:S.length+2<=S2.length:=by have:=(gM hl).1;omega
  refine⟨_,rfl,_,rfl,_,_,V.seq S2 G2,i6 hv,?_⟩
  have te:Al es i=e:=by
   have:=Cb hi;rw[he]at this;exact(oj this).symm
  have en:∀ p,endE es i p↔(False\/p=e.1)\/p=e.2:=λp=>by unfold endE;rw[te,false_or]
  have ne:e.1≠e.2:=W0 (W e (Vp he)).1;rcases hit v mv with rfl | ⟨h,rfl⟩
  ·obtain⟨D2,P2⟩:=DI.skip PI hv;exact⟨_,rfl,.inl ⟨rfl,_,rfl,ifF rfl (f7 (hE _ _ ⟨_,_,_,_,_,kvs,ps,rfl,G2,hm,hl,D2,P2,by omega,by omega⟩))⟩⟩
  refine⟨_,rfl,.inl ⟨rfl,_,rfl,ifT rfl ⟨_,rfl,_,rfl,trivial,?_⟩⟩⟩;have J0:=DJ.first (h:=h) DI PI
  have key:∀(kv1:List ((Int×Int)×Int)) (ps1:List (Int×Int)) (S3:Sto) (o8:Option SV),Gw S S3->S3[S.length]?=some (.dtp kv1)->S3[S.length+1]?=some (.lst (psS ps1))->kv1.length<=2 * i+1->ps1.length<=2 * i+1->DJ es xs i h (λq=>False\/q=e.1) kv1 ps1->
   AA (keepS (pairS e) S2) (.nm 7) (wSs Δ [(.asg (.nm 8) (.setd (.var 2) (.tup (.cons (.var 7) (.cons (.var 6) .nil))) (.var 4))),(.iff (.cmp .NotEq (.var 8) (.var 4)) [(.expr (.mt .append (.var 3) (.cons (.tup (.cons (.var 8) (.cons (.var 4) .nil))) .nil)))] [])]) {nx:=wSs Δ [] E,rt:=E.rt,bk:=E.bk,ct:=E.ct} [.int (e.2:Nat)] [some (i8 n es),some x,some (.loc S.length),some (.loc (S.length+1)),some (.int (i:Nat)),some (pairS e),some (.int h),some (.int (e.1:Nat)),o8] S3:=by
   intro kv1 ps1 S3 o8 G3 m3 l3 k3 p3 J;refine⟨trivial,?_⟩;refine F2 m3 l3 (by omega) (by omega) (λc hc z=>absurd z (J.found hv (by rintro(z | z);exact z;exact ne z.symm) hc).1) (λc hc z=>?_) (λhc=>?_)
   ·obtain⟨D2,P2⟩:=(J.found hv (by rintro(z | z);exact z;exact ne z.symm) hc).2.last hv en;exact⟨trivial,f7 (Δ:=Δ) (hE _ _ ⟨_,_,_,_,_,kv1,_,rfl,G3.put (by omega),by rw[y9 (by omega)];exact m3,WY (by have:=(gM l3).1;omega),D2,P2,by omega,by rw[Vo,Wk];omega⟩)⟩
   ·obtain⟨D2,P2⟩:=(J.new hv ((en e.2).mpr (.inr rfl)) hc).last hv en;exact⟨trivial,f7 (Δ:=Δ) (hE _ _ ⟨_,_,_,_,_,_,ps1,rfl,G3.put (by omega),WY (by have:=(gM m3).1;omega),by rw[y9 (by omega)];exact l3,D2,P2,by rw[Vo,Wk];omega,by omega⟩)⟩
  refine F2 hm hl (by omega) (by omega) (λc hc z=>absurd z (J0.found hv id hc).1) (λc hc z=>?_) (λhc=>?_)
  ·exact key kvs _ _ _ (G2.put (by omega)) (by rw[y9 (by omega)];exact hm) (WY (by omega)) (by omega) (by rw[Vo,Wk];omega) (J0.found hv id hc).2
  ·exact key _ ps _ _ (G2.put (by omega)) (WY (by omega)) (by rw[y9 (by omega)];exact hl) (by rw[Vo,Wk];omega) (by omega) (J0.new hv ((en e.1).mpr (.inl (.inr rfl))) hc)
 ·rintro ρ S2 ⟨o4,o5,o6,o7,o8,kvs,ps,rfl,G2,hm,hl,DI,PI,hk,hps⟩;rw[BP,Vm]at PI;refine⟨_,rfl,S.length+1,ps,rfl,rfl,hl,λe=>q .non S2 G2 ⟨λ_=>PI.mp e,λ_=>rfl⟩,λp hp=>q _ S2 G2 ⟨nofun,λh=>?_⟩⟩;rw[PI.mpr h]at hp;cases hp
end
def okH(y:SV):Bool:=A9 y||QY y
theorem Nw{y:SV}(h:okH y=true):y = .non\/∃ g:Int,y = .int g/\0<=g:=by
 cases y with
 | non=>exact .inl rfl
 | int i=>exact .inr ⟨i,rfl,of_decide_eq_true h⟩
 | _=>cases h
theorem RN{y:SV}(h:y = .non\/∃ g:Int,y = .int g/\0<=g):okH y=true:=by
 rcases h with rfl | ⟨g,rfl,h⟩
 ·rfl
 ·exact decide_eq_true h
def HuP(es:EE)(xs:List SV):Prop:=xs.length=es.length/\(∀ y∈xs,okH y=true)/\PropS es xs es.length
theorem all_at{f:SV->Bool}{xs:List SV}:(∀ i,i<xs.length->f (xs.getD i .non)=true)↔∀ y∈xs,f y=true:=by
 constructor
 ·intro h y hy;obtain⟨i,hi,rfl⟩:=Yf hy;have:=h i hi
  rwa [Vq,Vr hi]at this
 ·intro h i hi;rw[Vq,Vr hi];exact h _ (XD hi)
section
variable{Δ:Nat->Sn}
def RO(kn:Nat):List Stm:=[(.ret (.and (.call kn (.cons (.var 0) .nil)) (.cmp .GtE (.var 0) (.c (.int 0)))))]
def Nx(s:Sn):Prop:=∀{x:SV} {S:Sto} {k b:Nat} {Q:QE},Gd (VS S) k b x->Q (.bl (QY x)) S->s [x] S Q
theorem QZ{kn:Nat}(hn:Tn (Δ kn)){D:Df}(hb:D.body=RO kn)(hN:D.N.length=1)(hp:D.ps.length=1):Nx (g9 Δ D):=by
 intro x S k b Q h q;unfold g9;rw[hb,hN];refine⟨hp.symm,_,rfl,hn h ⟨_,rfl,?_⟩⟩;cases x with
 | int i=>exact ifT rfl ⟨_,rfl,q⟩
 | _=>exact ifF rfl q
def hg1(kl:Nat):Stm:=(.iff (.or (.not (.call kl (.cons (.var 1) .nil))) (.cmp .NotEq (.bi .len (.cons (.var 1) .nil)) (.bi .len (.cons (.ix (.var 0) (.c (.int 1))) .nil)))) [(.ret (.c (.bl false)))] [])
def hg2(kh:Nat):Stm:=(.iff (.not (.bi .all (.cons (.comp ["item"] [] [] (.nm 0) (.seq (.var 1)) .no (.or (.cmp .Is (.var 0) (.c .non)) (.call kh (.cons (.var 0) .nil)))) .nil))) [(.ret (.c (.bl false)))] [])
def hg3(kc:Nat):Stm:=(.ret (.cmp .Is (.call kc (.cons (.var 0) (.cons (.var 1) .nil))) (.c .non)))
def KB(kl kh kc:Nat):List Stm:=[hg1 kl,hg2 kh,hg3 kc]
def Ax(s:Sn):Prop:=∀{n k b:Nat} {es:EE} {x:SV} {S:Sto} {Q:QE},(∀ e∈es,e.1<e.2/\e.2<n)->es.length<=60->Gd (VS S) k b x->(∀(r:Bool) (S':Sto),Gw S S'->(r=true↔∃ xs,seqS x S=some xs/\HuP es xs)->Q (.bl r) S')->s [i8 n es,x] S Q
theorem J2(hΔ:∀ f,MonoN (Δ f)){kl kh kc:Nat}(hl:To (Δ kl))(hh:Nx (Δ kh))(hc:J1 (Δ kc)){D:Df}(hb:D.body=KB kl kh kc)(hN:D.N.length=2)(hp:D.ps.length=2):Ax (g9 Δ D):=by
 intro n k b es x S Q W hel hx q;unfold g9;rw[hb,hN];refine⟨hp.symm,_,rfl,hl hx ?_⟩;rcases hx.split with⟨e,no⟩ | ⟨xs,V⟩
 ·rw[e];exact⟨_,rfl,ifT rfl (q false S (Gw.refl S) ⟨nofun,λ⟨xs,z,_⟩=>absurd z (no _)⟩)⟩
 rw[V.ls];have s0:=V.seq S (Gw.refl S);have hxl:=V.len;obtain⟨k',b',hg⟩:=V.gd;have no:∀ S',Gw S S'->¬ HuP es xs->Q (.bl false) S':=λS' G h=>q false S' G ⟨nofun,λ⟨ys,e,z⟩=>by rw[s0]at e;cases e;exact absurd z h⟩;refine⟨_,rfl,ifF rfl ⟨_,rfl,_,s0,_,rfl,_,_,rfl,rfl,_,rfl,_,rfl,?_⟩⟩;show if (!decide ((xs.length:Int)=((es.map pairS).length:Nat)))=true then _ else _
 rw[Vm];by_cases zl:xs.length=es.length
 case neg=>exact ifT (by rw[decide_eq_false (λy=>zl (WW.mp y))];rfl) (no S (Gw.refl S) λh=>zl h.1)
 refine ifF (by rw[decide_eq_true (show((xs.length:Nat):Int)=(es.length:Nat) by rw[zl])];rfl) (f7 ?_);refine⟨_,rfl,_,s0,?_⟩;refine Nt hΔ (λi=>okH (xs.getD i .non)) (by omega) (λS' G=>V.keep S S' (Gw.refl S) G) ?_ ?_
 ·intro i y S' hy G;have ey:xs.getD i .non=y:=by rw[Vq,hy];rfl
  rw[ey];refine⟨_,rfl,.inl ⟨rfl,_,rfl,?_⟩⟩;cases y with
  | non=>exact ifT rfl ⟨rfl,G⟩
  | _=>exact ifF rfl ⟨_,rfl,hh ((hg _ (Vp hy)).grow G) ⟨rfl,G⟩⟩
 intro S2 G2;have G3:=G2.push (o:=SO.lst ((W4 xs.length).map λi => .bl (okH (xs.getD i .non))));refine⟨_,_,nofun,f6 f8,QW _ _,_,rfl,?_⟩;generalize S2++[SO.lst ((W4 xs.length).map λi => .bl (okH (xs.getD i .non)))]=S3 at *;by_cases hA:((W4 xs.length).map λi=>okH (xs.getD i .non)).all id=true
 case neg=>
  rw[Bool.eq_false_iff.mpr hA];exact ifT rfl (no S3 G3 λh=>hA (all_mapF.mpr (all_at.mpr h.2.1)))
 rw[hA];have ok:=all_at.mp (all_mapF.mp hA);refine ifF rfl (f7 ?_);refine⟨_,rfl,_,rfl,hc W hel ⟨λS' G=>V.seq S' (G3.trans G),λS1 S' G1 G=>V.keep S1 S' (G3.trans G1) (G3.trans G),hxl,⟨k',b',λy hy=>(hg y hy).grow G3⟩,V.ls⟩ zl (λy hy=>(Nw (ok y hy)).imp id λ⟨g,e,_⟩=>⟨g,e⟩) λv S' G ev => .inl ⟨rfl,q _ S' (G3.trans G) ?_⟩⟩;show A9 v=true↔_;rw[ev];exact⟨λh=>⟨xs,s0,zl,ok,h⟩,λ⟨ys,e,h⟩=>by rw[s0]at e;cases e;exact h.2.2⟩
end
def HS:Option Nat->SV
 | none => .non
 | some t => .int (t:Nat)
theorem KC{P:Nat->Bool}:∀{ts:List Nat} {j t:Nat},ts[j]?=some t->P t=true->(∀ u∈ts.take j,P u=false)->ts.find? P=some t
 | [],_,_,h,_,_=>by simp at h
 | s::ts,0,t,h,hp,_=>by simp at h;subst h;rw[WU,hp]
 | s::ts,j+1,t,h,hp,hn=>by
   rw[WU,hn s (by simp)];exact KC (by simpa using h) hp λu hu'=>hn u (by simp[hu'])
theorem u7{cs:List Nat}{t:Nat}(h:t<cs.length):cs[t]?=some (hu cs t):=by
 rw[Vr h];show _=some (cs.getD t 0);rw[Vq,Vr h];rfl
section
variable{Δ:Nat->Sn}
def RP(kt:Nat):List Stm:=[(.loop (.nm 4) (.seq (.call kt (.cons (.var 0) (.cons (.var 2) .nil)))) [(.iff (.cmp .Eq (.ix (.var 1) (.var 4)) (.var 3)) [(.ret (.var 4))] [])]),(.ret (.c .non))]
def KD:List Stm:=[(.iff (.cmp .Eq (.var 0) (.var 1)) [.no] [])]
def Cc(s:Sn):Prop:=∀{a b:Nat} {S:Sto} {Q:QE},a≠b->Q .non S->s [.int (a:Nat),.int (b:Nat)] S Q
theorem Lg{D:Df}(hb:D.body=KD)(hN:D.N.length=2)(hp:D.ps.length=2):Cc (g9 Δ D):=by
 intro a b S Q ab q;unfold g9;rw[hb,hN];refine⟨hp.symm,_,rfl,_,rfl,_,rfl,?_⟩;exact ifF (decide_eq_false λz=>ab (WW.mp z)) q
def rf4(kf kh:Nat):Stm:=(.whl (.cmp .IsNot (.var 6) (.c .non)) [(.expr (.mt .append (.var 5) (.cons (.var 6) .nil))),(.asg (.nm 2) (.call kf (.cons (.var 0) (.cons (.var 6) (.cons (.var 2) .nil))))),(.par 3 4 (.var 4) (.var 3)),(.asg (.nm 6) (.call kh (.cons (.var 0) (.cons (.var 1) (.cons (.var 2) (.cons (.var 3) .nil))))))])
def rf1(kc ku kh:Nat):List Stm:=[(.expr (.call kc (.cons (.var 0) (.cons (.var 2) .nil)))),(.expr (.call ku (.cons (.var 3) (.cons (.var 4) .nil)))),(.iff (.cmp .IsNot (.call kh (.cons (.var 0) (.cons (.var 1) (.cons (.var 2) (.cons (.var 4) .nil))))) (.c .non)) [.no] []),(.asg (.nm 5) (.lst .nil)),(.asg (.nm 6) (.call kh (.cons (.var 0) (.cons (.var 1) (.cons (.var 2) (.cons (.var 3) .nil))))))]
def RQ(kc ku kh kf:Nat):List Stm:=rf1 kc ku kh++[rf4 kf kh,(.ret (.var 5))]
theorem KF{es:EE}{cs:List Nat}{x h:Nat}(z:∀ u,AtP es u x->hu cs u≠h):r6 es cs x h=none:=by
 unfold r6;rw[X4];intro u hu' y;exact z u (mem_tiesAt.mp hu') (of_decide_eq_true y)
def ec2(kt:Nat):Stm:=(.loop (.nm 6) (.seq (.var 2)) [(.iff (.or (.not (.call kt (.cons (.var 0) (.cons (.var 6) .nil)))) (.cmp .NotIn (.ix (.var 1) (.var 6)) (.tup (.cons (.var 3) (.cons (.var 4) .nil))))) [.no] []),(.put (.var 5) (.var 6) (.ife (.cmp .Eq (.ix (.var 1) (.var 6)) (.var 3)) (.var 4) (.var 3)))])
def RS(ku kt ki:Nat):List Stm:=[(.expr (.call ku (.cons (.var 3) (.cons (.var 4) .nil)))),(.asg (.nm 5) (.bi .list (.cons (.var 1) .nil))),ec2 kt,(.iff (.not (.call ki (.cons (.var 0) (.cons (.var 5) .nil)))) [.no] []),(.ret (.var 5))]
theorem KG(cs:List Nat)(a b:Nat):exL cs [] a b=cs:=by
 conv=>rhs;rw[<-Tm cs]
 unfold exL;exact Xl λt _=>by simp
theorem HU{cs r:List Nat}{a b t:Nat}(ht:t<cs.length):exL cs (r++[t]) a b=(exL cs r a b).set t (if hu cs t=a then b else a):=by
 apply XI;intro i;by_cases hi:i<cs.length
 ·have g1:(exL cs (r++[t]) a b)[i]?=some (hu (exL cs (r++[t]) a b) i):=u7 (by rw[AW];exact hi);rw[g1,E8 hi];by_cases e:i=t
  ·subst e;rw[WY (by rw[AW];exact hi),iP (by simp)]
  ·rw[Wt (Ne.symm e),u7 (by rw[AW];exact hi),E8 hi]
   congr 1
   have:i∈r++[t]↔i∈r:=by simp[e]
   by_cases z:i∈r
   ·rw[iP z,iP (this.mpr z)]
   ·rw[iG z,iG (λy=>z (this.mp y))]
 ·rw[Wf (by rw[AW];omega),Wf (by rw[Wa,AW];omega)]
def ar1(kh:Nat):Stm:=(.iff (.or (.not (.call kh (.cons (.var 3) .nil))) (.not (.call kh (.cons (.var 4) .nil)))) [(.ret (.c .non))] [])
def RT(kh kr kx:Nat):List Stm:=[ar1 kh,(.tri [(.ret (.call kx (.cons (.var 0) (.cons (.var 1) (.cons (.call kr (.cons (.var 0) (.cons (.var 1) (.cons (.var 2) (.cons (.var 3) (.cons (.var 4) .nil)))))) (.cons (.var 3) (.cons (.var 4) .nil)))))))])]
def as1:Stm:=(.iff (.or (.not (.bi .isi (.cons (.var 2) (.cons (.tyc .tuple) .nil)))) (.not (.var 2))) [(.ret (.c .non))] [])
def as2:Stm:=(.asg (.nm 3) (.ix (.var 2) (.c (.int 0))))
def as3(w:Str)(n:Int)(e:Ex):Stm:=(.iff (.and (.cmp .Eq (.var 3) (.c (.str w))) (.cmp .Eq (.bi .len (.cons (.var 2) .nil)) (.c (.int n)))) [(.ret e)] [])
noncomputable def J3(kh kd km kr:Nat):List Stm:=[as1,as2,as3 "hue" 3 (.call kh (.cons (.var 0) (.cons (.var 1) (.cons (.ix (.var 2) (.c (.int 1))) (.cons (.ix (.var 2) (.c (.int 2))) .nil))))),as3 "drop" 2 (.call kd (.cons (.var 0) (.cons (.var 1) (.cons (.ix (.var 2) (.c (.int 1))) .nil)))),as3 "move" 3 (.call km (.cons (.var 0) (.cons (.var 1) (.cons (.ix (.var 2) (.c (.int 1))) (.cons (.ix (.var 2) (.c (.int 2))) .nil))))),as3 "row" 4 (.call kr (.cons (.var 0) (.cons (.var 1) (.cons (.ix (.var 2) (.c (.int 1))) (.cons (.ix (.var 2) (.c (.int 2))) (.cons (.ix (.var 2) (.c (.int 3))) .nil)))))),(.ret (.c .non))]
def RU(ka:Nat):List Stm:=[(.asg (.nm 3) (.call ka (.cons (.var 0) (.cons (.var 1) (.cons (.var 2) .nil))))),(.iff (.cmp .Is (.var 3) (.c .non)) [.no] []),(.ret (.var 3))]
end
theorem Qa{ns:List Int}{x:Int}:x∈srt ns↔x∈ns:=by unfold srt;exact List.mem_mergeSort
theorem Tp(x:Int)(ns:List Int):inS (.int x) (ns.map SV.int)=decide (x∈ns):=by
 rw[Wd,dQ];unfold inS;rw[Xq,XE];constructor
 ·rintro⟨a,ha,h⟩;have h:(a == x)=true:=h;rw[beq_iff_eq]at h;rw[<-h];exact ha
 ·intro h;exact⟨x,h,by show(x == x)=true;simp⟩
theorem Ny(ns:List Int):(ns.map SV.int).all AG=true:=by
 rw[YQ,WJ];intro _ _;rfl
section
variable{Δ:Nat->Sn}
def KH(kt:Nat):List Stm:=[(.ret (.bi .sorted (.cons (.comp ["tie"] ["hueing"] [1] (.nm 0) (.seq (.call kt (.cons (.var 0) (.cons (.var 2) .nil)))) (.yes (.cmp .IsNot (.ix (.var 1) (.var 0)) (.c .non))) (.ix (.var 1) (.var 0))) .nil)))]
def lh1:Stm:=(.iff (.or (.not (.bi .isi (.cons (.var 1) (.cons (.tup (.cons (.tyc .list) (.cons (.tyc .tuple) .nil))) .nil)))) (.cmp .NotEq (.bi .len (.cons (.var 1) .nil)) (.bi .len (.cons (.ix (.var 0) (.c (.int 1))) .nil)))) [(.ret (.c (.bl false)))] [])
def lh2:Stm:=(.iff (.and (.cmp .IsNot (.var 3) (.c .non)) (.or (.not (.bi .isi (.cons (.var 3) (.cons (.tyc .int) .nil)))) (.or (.bi .isi (.cons (.var 3) (.cons (.tyc .bool) .nil))) (.cmp .Lt (.var 3) (.c (.int 0)))))) [(.ret (.c (.bl false)))] [])
def lh3(km:Nat):Stm:=(.loop (.nm 4) (.rng1 (.var 2)) [(.iff (.and (.cmp .IsNot (.var 3) (.c .non)) (.and (.cmp .Eq (.ix (.var 1) (.var 4)) (.var 3)) (.call km (.cons (.var 0) (.cons (.var 4) (.cons (.var 2) .nil)))))) [(.ret (.c (.bl false)))] [])])
def HV(km:Nat):List Stm:=[lh1,(.loop (.tup (.cons (.nm 2) (.cons (.nm 3) .nil))) (.enum (.var 1)) [lh2,lh3 km]),(.ret (.c (.bl true)))]
theorem Gd.isLs{S:Sto}{k b:Nat}{x:SV}(h:Gd (VS S) k b x):∃ t,tyS x S=some t/\[TyN.list,.tuple].any (Gb t)=isL x:=by
 cases h with
 | lst hv _ _ _=>exact⟨_,CI hv,rfl⟩
 | _=>exact⟨_,rfl,rfl⟩
theorem Tq{n i:Nat}{es:EE}{x y:SV}{S:Sto}{k b:Nat}{D:EndsS}{o4:Option SV}(hy:Gd (VS S) k b y)(q1:okH y=true->D.nx [some (i8 n es),some x,some (.int (i:Nat)),some y,o4] S)(q0:okH y=false->D.rt (.bl false) S):
 wSt Δ lh2 D [some (i8 n es),some x,some (.int (i:Nat)),some y,o4] S:=by
 refine⟨_,rfl,.inl ⟨rfl,_,rfl,?_⟩⟩;cases hy with
 | non=>exact ifF rfl (ifF rfl (f7 (Δ:=Δ) (q1 rfl)))
 | bl c=>exact ifT rfl ⟨_,rfl,_,nofun,rfl,_,rfl,ifF rfl ⟨_,rfl,_,nofun,rfl,_,rfl,ifT rfl (q0 rfl)⟩⟩
 | @int _ _ g h=>
   refine ifT rfl ⟨_,rfl,_,nofun,rfl,_,rfl,ifF rfl ⟨_,rfl,_,nofun,rfl,_,rfl,ifF rfl ⟨_,rfl,_,rfl,?_⟩⟩⟩;refine ifD (λz=>q0 (decide_eq_false (show ¬ (0:Int)<=g from by have z:g<0:=z;omega))) (λz=>f7 (Δ:=Δ) (q1 (decide_eq_true (show(0:Int)<=g from by have z:¬ g<0:=z;omega))))
 | str h hb'=>exact ifT rfl ⟨_,rfl,_,nofun,rfl,_,rfl,ifT rfl (q0 rfl)⟩
 | tup h hl hc=>exact ifT rfl ⟨_,rfl,_,nofun,rfl,_,rfl,ifT rfl (q0 rfl)⟩
 | lst hv h hl hc=>exact ifT rfl ⟨_,rfl,_,nofun,CI hv,_,rfl,ifT rfl (q0 rfl)⟩
theorem Tr(hΔ:∀ f,MonoN (Δ f)){km:Nat}(hm:F1 (Δ km)){n i:Nat}{es:EE}{x y:SV}{xs:List SV}{S:Sto}{D:EndsS}{o4:Option SV}(s0:seqS x S=some xs)(hi:i<es.length)(hl:xs.length=es.length)(hel:es.length<=60)(hy:xs[i]?=some y)(oy:okH y=true)(ok:∀(j:Nat) (z:SV),j<i->xs[j]?=some z->okH z=true)
 (q1:∀ o4:Option SV,(∀(j:Nat) (g:Int),j<i->xs[j]?=some (.int g)->y = .int g->¬ Shr es j i)->D.nx [some (i8 n es),some x,some (.int (i:Nat)),some y,o4] S) (q0:∀(j:Nat) (g:Int),j<i->xs[j]?=some (.int g)->y = .int g->Shr es j i->D.rt (.bl false) S):
 wSt Δ (lh3 km) D [some (i8 n es),some x,some (.int (i:Nat)),some y,o4] S:=by
 refine⟨_,rfl,((i:Nat):Int),rfl,⟨by omega,by omega⟩,?_⟩;refine t7 (j5 hΔ _) (λk ρ S2=>∃ o4:Option SV,ρ=[some (i8 n es),some x,some (.int (i:Nat)),some y,o4]/\S2=S/\∀(j:Nat) (g:Int),j<k->xs[j]?=some (.int g)->y = .int g->¬ Shr es j i) ⟨_,rfl,rfl,λj g hj=>absurd hj (Xe _)⟩ (λ_ _ _ _=>trivial) ?_ ?_
 ·rintro k z ρ S2 E hE hrt hz ⟨o4,rfl,rfl,al⟩;have hk:k<i:=by have:=(gM hz).1;rw[u4]at this;omega
  obtain⟨rfl,_⟩:=AE hz;rw[X2];have hv:=Vr (show k<xs.length by omega);have ov:=ok k _ hk hv;generalize xs[k]=v at *
  have next:(∀ g:Int,v = .int g->y = .int g->¬ Shr es k i)->∀(j:Nat) (g:Int),j<k+1->xs[j]?=some (.int g)->y = .int g->¬ Shr es j i:=λf j g hj hx e=>by
   rcases XT j k with w | w
   ·exact al j g w hx e
   ·have:j=k:=by omega
    subst this;rw[hv]at hx;cases hx;exact f g rfl e
  refine⟨_,rfl,.inl ⟨rfl,_,rfl,?_⟩⟩;rcases Nw oy with rfl | ⟨g,rfl,_⟩
  ·exact ifF rfl (ifF rfl (f7 (Δ:=Δ) (hE _ _ ⟨_,rfl,rfl,next λg _ e=>by cases e⟩)))
  refine ifT rfl ⟨_,rfl,_,rfl,_,_,s0,i6 hv,_,rfl,?_⟩;rcases Nw ov with rfl | ⟨g',rfl,_⟩
  ·exact⟨_,rfl,ifF rfl (ifF rfl (f7 (Δ:=Δ) (hE _ _ ⟨_,rfl,rfl,next λg e _=>by cases e⟩)))⟩
  refine⟨_,rfl,?_⟩;show if decide (g'=g)=true then _ else _
  refine ifD (λe=>?_) (λe=>ifF rfl (f7 (Δ:=Δ) (hE _ _ ⟨_,rfl,rfl,next λg1 e1 e2=>by injection e1 with e1;injection e2 with e2;exact absurd (e1.trans e2.symm) e⟩)));have e:g'=g:=e;subst e;refine⟨_,rfl,_,rfl,_,rfl,hm (by omega) hi λv ev=>⟨_,rfl,?_⟩⟩;cases v with
  | true=>exact ifT rfl (hrt _ _ (q0 k g' hk hv rfl (ev.mp rfl)))
  | false=>exact ifF rfl (f7 (Δ:=Δ) (hE _ _ ⟨_,rfl,rfl,next λg1 _ _ sh=>Z3 (ev.mpr sh)⟩))
 ·rintro ρ S2 ⟨o4,rfl,rfl,al⟩;have e:(CC 0 ((i:Nat):Int)).length=i:=by rw[u4];omega
  rw[e]at al;exact q1 o4 al
theorem J4(hΔ:∀ f,MonoN (Δ f)){km:Nat}(hm:F1 (Δ km)){D:Df}(hb:D.body=HV km)(hN:D.N.length=5)(hp:D.ps.length=2):Ax (g9 Δ D):=by
 intro n k b es x S Q W hel hx q;unfold g9;rw[hb,hN];obtain⟨ty,e1,e2⟩:=hx.isLs;refine⟨hp.symm,_,rfl,by show 2<=100000;decide,_,[.list,.tuple],by decide,e1,rfl,_,rfl,?_⟩;rw[e2];rcases hx.split with⟨e,no⟩ | ⟨xs,V⟩
 ·rw[e];exact ifT rfl (q false S (Gw.refl S) ⟨nofun,λ⟨xs,z,_⟩=>absurd z (no _)⟩)
 rw[V.ls];have s0:=V.seq S (Gw.refl S);have hxl:=V.len;obtain⟨k',b',hg⟩:=V.gd;have no:¬ HuP es xs->Q (.bl false) S:=λh=>q false S (Gw.refl S) ⟨nofun,λ⟨ys,e,z⟩=>by rw[s0]at e;cases e;exact absurd z h⟩;refine ifF rfl ⟨_,rfl,_,s0,_,rfl,_,_,rfl,rfl,_,rfl,_,rfl,?_⟩;show if (!decide ((xs.length:Int)=((es.map pairS).length:Nat)))=true then _ else _
 rw[Vm];by_cases zl:xs.length=es.length
 case neg=>exact ifT (by rw[decide_eq_false (λy=>zl (WW.mp y))];rfl) (no λh=>zl h.1)
 refine ifF (by rw[decide_eq_true (show((xs.length:Nat):Int)=(es.length:Nat) by rw[zl])];rfl) (f7 ?_);refine⟨_,rfl,_,s0,?_⟩;refine t7 (j5 hΔ _) (λi ρ S2=>∃ o2 o3 o4:Option SV,ρ=[some (i8 n es),some x,o2,o3,o4]/\S2=S/\(∀(j:Nat) (z:SV),j<i->xs[j]?=some z->okH z=true)/\PropS es xs i) ⟨_,_,_,rfl,rfl,λj z hj=>absurd hj (Xe _),λa b g _ hb=>absurd hb (Xe _)⟩ (λ_ _ S2 z=>by obtain⟨_,_,_,_,rfl,_⟩:=z;exact V.keep S2 S2 (Gw.refl _) (Gw.refl _)) ?_ ?_
 ·rintro i z ρ S2 E hE hrt hz ⟨o2,o3,o4,rfl,rfl,ok,pr⟩;obtain⟨y,hy,rfl⟩:=B4 hz;have hi:i<es.length:=by rw[<-zl];exact(gM hy).1
  refine Tq (hg y (Vp hy)) (λoy=>?_) (λoy=>hrt _ _ (no λh=>by rw[h.2.1 y (Vp hy)]at oy;cases oy));refine Tr hΔ hm s0 hi zl hel hy oy ok (λo4 al=>f7 (Δ:=Δ) (hE _ _ ⟨_,_,_,rfl,rfl,λj z hj hz2=>?_,λa b g hab hb ha hb'=>?_⟩)) (λj g hj hx e sh=>hrt _ _ (no λh=>h.2.2 j i g hj hi hx (by rw[hy,e]) sh))
  ·rcases XT j i with w | w
   ·exact ok j z w hz2
   ·have:j=i:=by omega
    subst this;rw[hy]at hz2;cases hz2;exact oy
  ·rcases XT b i with w | w
   ·exact pr a b g hab w ha hb'
   ·have:b=i:=by omega
    subst this;rw[hy]at hb';exact al a g hab ha (oj hb')
 ·rintro ρ S2 ⟨o2,o3,o4,rfl,rfl,ok,pr⟩;rw[BP]at ok pr;refine q true S2 (Gw.refl _) ⟨λ_=>⟨xs,s0,zl,λy hy=>?_,by rw[<-zl];exact pr⟩,λ_=>rfl⟩;obtain⟨j,hj,rfl⟩:=Yf hy;exact ok j _ hj (Vr hj)
end
theorem Fl{cs:List Nat}{c t:Nat}(h:t<cs.length):hu (cs++[c]) t=hu cs t:=by
 show(cs++[c]).getD t 0=cs.getD t 0;rw[Vq,Vq,W6 h]
theorem KI{cs:List Nat}{c:Nat}:hu (cs++[c]) cs.length=c:=by
 show(cs++[c]).getD cs.length 0=c;rw[Vq,WL];rfl
theorem Nz{m:Nat}{g:Nat->Nat}{t:Nat}(h:t<m):hu ((W4 m).map g) t=g t:=by
 show((W4 m).map g).getD t 0=g t;rw[Vq,Vu,Wm h];rfl
section
variable{Δ:Nat->Sn}
theorem O0{α:Type}(x:α)(m:Nat):(Vx m [x]).flatten=(W4 m).map λ_=>x:=by
 refine XI λk=>?_
 induction m generalizing k with
 | zero=>rfl
 | succ m ih=>
   rw[WQ,Wx,YT,WX,Xh];cases k with
   | zero=>rfl
   | succ k=>exact ih k
end
noncomputable def ym1(k:Nat):Stm:=(.iff (.bi .isi (.cons (.var 1) (.cons (.tup (.cons (.tyc .list) (.cons (.tyc .tuple) .nil))) .nil))) [(.iff (.or (.cmp .NotEq (.bi .isi (.cons (.var 0) (.cons (.tyc .list) .nil))) (.bi .isi (.cons (.var 1) (.cons (.tyc .list) .nil)))) (.cmp .NotEq (.bi .isi (.cons (.var 0) (.cons (.tyc .tuple) .nil))) (.bi .isi (.cons (.var 1) (.cons (.tyc .tuple) .nil))))) [(.ret (.c (.bl false)))] []),(.ret (.and (.cmp .Eq (.bi .len (.cons (.var 0) .nil)) (.bi .len (.cons (.var 1) .nil))) (.bi .all (.cons (.comp ["_law_one","_law_other"] [] [] (.tup (.cons (.nm 0) (.cons (.nm 1) .nil))) (.zip 0 1) .no (.call k (.cons (.var 0) (.cons (.var 1) .nil)))) .nil))))] [])
def O4(s:Sn)(S:Sto)(x y:SV):Prop:=∀(S1:Sto) (Q:QE),Gw S S1->(∀ S2,Gw S S2->Gw S1 S2->Q (.bl true) S2)->s [x,y] S1 Q
section
variable{Δ:Nat->Sn}
theorem O5{f:Nat->Bool}{m t:Nat}(ht:t<m)(hf:f t=true)(un:∀ u,u<m->f u=true->u=t):(W4 m).filter f=[t]:=by
 have nd:((W4 m).filter f).Nodup:=Xt.filter _
 have mem:∀ u,u∈(W4 m).filter f↔u=t:=λu=>by
  rw[Wn,WD];exact⟨λz=>un u z.1 z.2,λz=>by subst z;exact⟨ht,hf⟩⟩
 match h:(W4 m).filter f with
 | []=>rw[h]at mem;exact absurd ((mem t).mpr rfl) (by simp)
 | [a]=>rw[h]at mem;rw[(mem a).mp (by simp)]
 | a::b::l=>
   rw[h]at mem nd;have e1:=(mem a).mp (by simp);have e2:=(mem b).mp (by simp);subst e1;subst e2;simp at nd
theorem Qb(n:Nat):blS (Vx n (.bl false))=some (Vx n false):=by
 induction n with
 | zero=>rfl
 | succ n ih=>rw[WQ,WQ];simp[blS,ih]
def KJ(ka:Nat):List Stm:=[(.asg (.nm 3) (.lst .nil)),(.asg (.nm 4) (.var 1)),(.loop (.tup (.cons (.nm 5) (.cons (.nm 6) .nil))) (.enum (.var 2)) [(.asg (.nm 4) (.call ka (.cons (.var 0) (.cons (.var 4) (.cons (.var 6) .nil))))),(.iff (.cmp .Is (.var 4) (.c .non)) [.no] []),(.expr (.mt .append (.var 3) (.cons (.var 4) .nil)))]),(.ret (.var 3))]
end
def pS(c:Nat):SV:=if c<1000 then .int (c:Nat) else .non
def f9(cs:List Nat):List SV:=cs.map pS
theorem p6{c:Nat}(h:c<1000):pS c = .int (c:Nat):=iP h
theorem w5{c:Nat}(h:¬ c<1000):pS c = .non:=iG h
theorem u8{cs:List Nat}:(f9 cs).length=cs.length:=by unfold f9;rw[Vm]
theorem p9{cs:List Nat}{i c:Nat}(h:cs[i]?=some c):(f9 cs)[i]?=some (pS c):=by unfold f9;rw[Vu,h];rfl
theorem BS{cs:List Nat}{i:Nat}{x:SV}(h:(f9 cs)[i]?=some x):∃ c,cs[i]?=some c/\x=pS c:=by
 unfold f9 at h;rw[Vu]at h;cases he:cs[i]? with
 | none=>rw[he]at h;cases h
 | some e=>rw[he]at h;exact⟨e,rfl,(oj h).symm⟩
theorem RV{c h:Nat}(hh:h<1000){S:Sto}{Q:QE}(q:Q (.bl (decide (c=h))) S):B8 .Eq (pS c) (.int (h:Nat)) S Q:=by
 by_cases z:c<1000
 ·rw[p6 z];show Q (.bl (decide ((c:Int)=(h:Int)))) S;rw[show decide ((c:Int)=(h:Int))=decide (c=h) by rw[Wd];simp[WW]];exact q
 ·rw[w5 z];show Q (.bl false) S;rw[show decide (c=h)=false from decide_eq_false (by omega)]at q;exact q
theorem Fm{es:EE}{cs:List Nat}(P:Prp es cs):HuP es (f9 cs):=by
 refine⟨by rw[u8];exact P.len,λy hy=>?_,λi j h hij hj h1 h2 sh=>?_⟩
 ·unfold f9 at hy;obtain⟨c,_,rfl⟩:=WC.mp hy;by_cases z:c<1000
  ·rw[p6 z];exact RN (.inr ⟨_,rfl,by omega⟩)
  ·rw[w5 z];exact RN (.inl rfl)
 ·obtain⟨c1,z1,e1⟩:=BS h1;obtain⟨c2,z2,e2⟩:=BS h2
  have val:∀{c:Nat} {h:Int},SV.int h=pS c->h=(c:Nat):=λ{c h} e=>by
   by_cases z:c<1000
   ·rw[p6 z]at e;injection e
   ·rw[w5 z]at e;cases e
  have e2:c1=c2:=WW.mp ((val e1).symm.trans (val e2));obtain⟨p,a1,a2⟩:=shr_end.mp sh
  have at':∀ t,t<es.length->endE es t p->AtP es t p:=λt ht z=>by
   refine⟨Al es t,Cb ht,?_⟩;exact z.imp Eq.symm Eq.symm
  have hu1:hu cs i=c1:=by show cs.getD i 0=_;rw[Vq,z1];rfl
  have hu2:hu cs j=c2:=by show cs.getD j 0=_;rw[Vq,z2];rfl
  have:=P.one i j p (at' i (by omega) a1) (at' j hj a2) (by rw[hu1,hu2,e2]);omega
theorem J5{S:Sto}{l:Nat}{cs:List Nat}(h:S[l]?=some (.lst (f9 cs)))(hl:cs.length<=60):Gd (VS S) 1 1000 (.loc l):=by
 refine .lst (k:=0) (b:=10) h (λy hy=>?_) (by rw[u8];omega) (by rw[u8];omega);unfold f9 at hy;obtain⟨c,hc,rfl⟩:=WC.mp hy;by_cases z:c<1000
 ·rw[p6 z];exact .int ⟨by omega,by omega⟩
 ·rw[w5 z];exact .non
theorem Fn{cs:List Nat}{t h u:Nat}(ht:t<cs.length):hu (cs.set t h) u=if u=t then h else hu cs u:=by
 show(cs.set t h).getD u 0=_;rw[Vq];by_cases e:u=t
 ·subst e;rw[WY ht,iP rfl];rfl
 ·rw[Wt (Ne.symm e),iG e];show _=cs.getD u 0;rw[Vq]
section
variable{n H:Nat}{es:EE}{cs:List Nat}
theorem Cd(P:Prp es cs)(hen:∀ e∈es,e.1<e.2/\e.2<n){p a b:Nat}(ab:a≠b)(no:∀ u,AtP es u p->hu cs u≠b):∃ x o1 o2,RwI es cs a b p (rwF es cs (es.length+1) p a b) x o1 o2/\∀ u,AtP es u x->hu cs u≠o1:=by
 have:=Nr P ab (λe he=>W0 (hen e he).1) (es.length+1) [] p a b (RwI.nil no) (by simp);simpa using this
theorem Ce{a b p x o1 o2:Nat}{r:List Nat}(R:RwI es cs a b p r x o1 o2):∀ t∈r,hu cs t=a\/hu cs t=b:=λt ht=>by
 obtain⟨i,hi⟩:=Wu ht;rw[R.alt i t hi];split<;>simp
end
def frL(es:EE)(cs:List Nat)(p H:Nat):List Nat:=(W4 H).filter λh=>(r6 es cs p h).isNone
theorem mem_frL{es:EE}{cs:List Nat}{p H h:Nat}:h∈frL es cs p H↔h<H/\∀ u,AtP es u p->hu cs u≠h:=by
 unfold frL;rw[Wn,WD];constructor
 ·rintro⟨a,b⟩;refine⟨a,AS ?_⟩;simpa using b
 ·rintro⟨a,b⟩;refine⟨a,?_⟩;rw[KF b];rfl
theorem Qc{es:EE}{cs:List Nat}{p H t:Nat}(hH:H<=1000)(at':AtP es t p)(h0:¬ hu cs t<1000)(hc:t4 es p<=H):frL es cs p H≠[]:=by
 intro e
 have all:∀ h,h<H->∃ u,r6 es cs p h=some u:=λh hh=>by
  cases z:r6 es cs p h with
  | some u=>exact⟨u,rfl⟩
  | none=>
    have:h∈frL es cs p H:=mem_frL.mpr ⟨hh,AS z⟩;rw[e]at this;cases this
 have f:∀ h,h<H->AtP es ((r6 es cs p h).getD 0) p/\hu cs ((r6 es cs p h).getD 0)=h:=λh hh=>by
  obtain⟨u,z⟩:=all h hh;rw[z];exact p8 z
 have nd:(t::(W4 H).map λh=>(r6 es cs p h).getD 0).Nodup:=by
  rw[Wo];refine⟨λz=>?_,?_⟩
  ·obtain⟨h,hh,e⟩:=WC.mp z;have hl:=WD.mp hh;have:=(f h hl).2;rw[e]at this;omega
  ·rw[List.Nodup,Y9];refine List.Pairwise.imp_of_mem (λ{a b} ha hb ne e=>ne ?_) Xt;rw[<-(f a (WD.mp ha)).2,<-(f b (WD.mp hb)).2,e]
 have sub:=List.Nodup.length_le_of_subset nd (l₂:=i9 es p es.length) λu hu'=>by
  rcases W5.mp hu' with z | z
  ·rw[z];exact mem_tiesAt.mpr at'
  ·obtain⟨h,hh,rfl⟩:=WC.mp z;exact mem_tiesAt.mpr (f h (WD.mp hh)).1
 rw[WG,Vm,Wb]at sub;have:t4 es p=(i9 es p es.length).length:=rfl;omega
theorem O6{l:List Nat}(h:l≠[]):l.headD 0∈l:=by
 cases l with
 | nil=>exact absurd rfl h
 | cons a l=>exact W7 ..
def cs0(m:Nat):List Nat:=(W4 m).map λt=>1000+t
theorem Fo{m t:Nat}(h:t<m):hu (cs0 m) t=1000+t:=Nz h
theorem Qd(es:EE):Prp es (cs0 es.length):=by
 refine⟨by unfold cs0;rw[Vm,Wb],λt u y ht hu' e=>?_⟩;rw[Fo ht.lt,Fo hu'.lt]at e;omega
section
variable{Δ:Nat->Sn}
def O9(kt:Nat):List Stm:=[(.ret (.and (.call kt (.cons (.var 0) (.cons (.var 2) .nil))) (.cmp .Is (.ix (.var 1) (.var 2)) (.c .non))))]
def DQ(s:Sn):Prop:=∀{n k t:Nat} {es:EE} {cs:List Nat} {S:Sto} {Q:QE},cs.length=es.length->t<es.length->¬ hu cs t<1000->S[k]?=some (.lst (f9 cs))->Q (.bl true) S->s [i8 n es,.loc k,.int (t:Nat)] S Q
theorem OA{kt:Nat}(ht:BC (Δ kt)){D:Df}(hb:D.body=O9 kt)(hN:D.N.length=3)(hp:D.ps.length=3):DQ (g9 Δ D):=by
 intro n k t es cs S Q cl tl h0 hk q;unfold g9;rw[hb,hN];have hc:=u7 (cs:=cs) (t:=t) (by omega);have hcp:(f9 cs)[t]?=some .non:=by rw[p9 hc,w5 h0]
 exact⟨hp.symm,_,rfl,_,rfl,ht tl ⟨_,rfl,ifT rfl ⟨_,rfl,_,rfl,_,_,f6 hk,i6 hcp,.inl ⟨rfl,q⟩⟩⟩⟩
def RW(ki:Nat):List Stm:=[(.asg (.nm 3) (.bi .list (.cons (.var 1) .nil))),(.loop (.tup (.cons (.nm 4) (.cons (.nm 5) .nil))) (.seq (.var 2)) [(.put (.var 3) (.var 4) (.var 5))]),(.ret (.ife (.call ki (.cons (.var 0) (.cons (.var 3) .nil))) (.var 3) (.c .non)))]
def RX(kl kh kw:Nat):List Stm:=[(.iff (.or (.not (.call kl (.cons (.var 0) (.cons (.var 1) (.cons (.var 2) .nil))))) (.not (.call kh (.cons (.var 3) .nil)))) [(.ret (.c .non))] []),(.ret (.call kw (.cons (.var 0) (.cons (.var 1) (.cons (.lst (.cons (.tup (.cons (.var 2) (.cons (.var 3) .nil))) .nil)) .nil)))))]
theorem CL(c:Nat):A9 (pS c)=!decide (c<1000):=by
 by_cases z:c<1000
 ·rw[p6 z,decide_eq_true z];rfl
 ·rw[w5 z,decide_eq_false z];rfl
def OB(ka:Nat):List Stm:=[(.asg (.nm 4) (.call ka (.cons (.var 0) (.cons (.var 1) (.cons (.var 2) .nil))))),(.ret (.comp ["hue"] ["taken"] [4] (.nm 0) (.rng1 (.var 3)) (.yes (.cmp .NotIn (.var 0) (.var 1))) (.var 0)))]
end
def Hv(S:Sto)(x:SV)(cs:List Nat):Prop:=x = .tup (f9 cs)\/∃ k,x = .loc k/\S[k]?=some (.lst (f9 cs))
theorem Hv.seq{S:Sto}{x:SV}{cs:List Nat}(h:Hv S x cs):seqS x S=some (f9 cs):=by
 rcases h with rfl | ⟨k,rfl,h⟩
 ·rfl
 ·exact f6 h
theorem Hv.gw{S S':Sto}{x:SV}{cs:List Nat}(h:Hv S x cs)(G:Gw S S'):Hv S' x cs:=h.imp id λ⟨k,e,h⟩=>⟨k,e,G.keep _ _ h⟩
theorem Hv.loc{S:Sto}{k:Nat}{cs:List Nat}(h:S[k]?=some (.lst (f9 cs))):Hv S (.loc k) cs := .inr ⟨k,rfl,h⟩
theorem F3{S S1 S2:Sto}{l:Nat}(G:Gw S S1)(O:On l S1 S2)(h:S.length<=l):Gw S S2:=⟨WH G.len O.len,λj o e=>O.keep j o (by have:=(gM e).1;omega) (G.keep j o e)⟩
section
variable{Δ:Nat->Sn}
def Fp(s:Sn):Prop:=∀{n p h:Nat} {w:SV} {es:EE} {cs:List Nat} {S:Sto} {Q:QE},Hv S w cs->cs.length=es.length->es.length<=1000->p<n->h<1000->(∀ S',Gw S S'->Q (HS (r6 es cs p h)) S')->s [i8 n es,w,.int (p:Nat),.int (h:Nat)] S Q
theorem OC(hΔ:∀ f,MonoN (Δ f)){kt:Nat}(ht:Bn (Δ kt)){D:Df}(hb:D.body=RP kt)(hN:D.N.length=5)(hp:D.ps.length=4):Fp (g9 Δ D):=by
 intro n p h w es cs S Q hk hl hel hpn hh q;unfold g9;rw[hb,hN];refine⟨hp.symm,_,rfl,_,rfl,ht (by omega) hpn ⟨_,f6 f8,?_⟩⟩;have G1:Gw S (S++[SO.lst (i7 (i9 es p es.length))]):=(Gw.refl S).push;have hk1:=hk.gw G1;generalize S++[SO.lst (i7 (i9 es p es.length))]=S1 at *;refine t7 (j5 hΔ _) (λj ρ S2=>S2=S1/\∃ o4:Option SV,ρ=[some (i8 n es),some w,some (.int (p:Nat)),some (.int (h:Nat)),o4]/\∀ u∈(i9 es p es.length).take j,decide (hu cs u=h)=false) ⟨rfl,none,rfl,λu hu'=>by simp at hu'⟩ (λ_ _ _ z=>by rw[z.1];exact rfl) ?_ ?_
 ·rintro j x ρ S2 E hE hR hx ⟨rfl,o4,rfl,no⟩;obtain⟨t,htj,rfl⟩:=BQ hx;have tl:=(mem_tiesAt.mp (Vp htj))
  have tl:t<es.length:=let ⟨e,he,_⟩:=tl;(gM he).1
  have hc:=u7 (cs:=cs) (t:=t) (by omega);refine⟨_,rfl,_,rfl,_,_,hk1.seq,i6 (p9 hc),_,rfl,RV hh ⟨_,rfl,ifD (λz=>?_) (λz=>?_)⟩⟩
  ·have e:r6 es cs p h=some t:=KC htj (decide_eq_true z) no;refine⟨_,rfl,hR _ _ ?_⟩;have:=q S2 G1;rw[e]at this;exact this
  ·refine hE _ _ ⟨rfl,_,rfl,λu hu'=>?_⟩;rw[WZ,htj]at hu';rcases WM.mp hu' with y | y
   ·exact no u y
   ·have:u=t:=by simpa using y
    rw[this];exact decide_eq_false z
 ·rintro ρ S2 ⟨rfl,o4,rfl,no⟩;rw[n6,WV]at no
  have e:r6 es cs p h=none:=by
   unfold r6;rw[X4];intro u hu' z;rw[no u hu']at z;cases z
  have:=q S2 G1;rw[e]at this;exact this
def Cz(s:Sn):Prop:=∀{n p a b:Nat} {w:SV} {es:EE} {cs:List Nat} {S:Sto} {Q:QE},Hv S w cs->a<1000->b<1000->Prp es cs->(∀ e∈es,e.1<e.2/\e.2<n)->es.length<=1000->p<n->a≠b->(∀ u,AtP es u p->hu cs u≠b)->
 (∀(l:Nat) (S':Sto),Gw S S'->S.length<=l->S'[l]?=some (.lst (i7 (rwF es cs (es.length+1) p a b)))->Q (.loc l) S')->s [i8 n es,w,.int (p:Nat),.int (a:Nat),.int (b:Nat)] S Q
theorem Qf(hΔ:∀ f,MonoN (Δ f)){kc ku kh kf:Nat}(hc:Ab (Δ kc))(hu':Cc (Δ ku))(hh:Fp (Δ kh))(hf:BD (Δ kf)){D:Df}(hb:D.body=RQ kc ku kh kf)(hN:D.N.length=7)(hp:D.ps.length=5):Cz (g9 Δ D):=by
 intro n p a b w es cs S Q hk a9 b9 P hen hel hpn ab hno q;have hne:∀ e∈es,e.1≠e.2:=λe he=>W0 (hen e he).1;have hl:=P.len;unfold g9;rw[hb,hN];refine⟨hp.symm,_,rfl,_,rfl,hc hpn ⟨_,rfl,_,rfl,hu' ab ⟨_,rfl,_,rfl,_,rfl,_,rfl,hh hk hl hel hpn b9 λS1 G1=>?_⟩⟩⟩;rw[KF hno];refine .inl ⟨rfl,_,rfl,ifF rfl (f7 ?_)⟩;refine⟨by show 0<=100000;decide,?_⟩;have hk1:=hk.gw G1;refine⟨_,rfl,_,rfl,_,rfl,_,rfl,hh (hk1.gw (Gw.refl S1).push) hl hel hpn a9 λS2 G2=>?_⟩;have h2:S2[S1.length]?=some (.lst []):=G2.keep _ _ f8;have GS:Gw S S2:=G1.trans ((Gw.refl S1).push.trans G2);have s1:=G1.len;generalize S1.length=l at *;show wSs Δ [rf4 kf kh,(.ret (.var 5))] (B3 Q) [some (i8 n es),some w,some (.int (p:Nat)),some (.int (a:Nat)),some (.int (b:Nat)),some (.loc l),some (HS (r6 es cs p a))] S2;refine⟨λm ρ S'=>∃(r:List Nat) (x one other:Nat),ρ=[some (i8 n es),some w,some (.int (x:Nat)),some (.int (one:Nat)),some (.int (other:Nat)),some (.loc l),some (HS (r6 es cs x one))]/\RwI es cs a b p r x one other/\x<n/\r++rwF es cs (es.length+1 - r.length) x one other=rwF es cs (es.length+1) p a b/\m+r.length=es.length+1/\On l S2 S'/\S'[l]?=some (.lst (i7 r)),⟨es.length+1,[],p,a,b,rfl,RwI.nil hno,hpn,rfl,rfl,On.refl _ _,h2⟩,?_⟩;rintro m ρ S' ⟨r,x,one,other,rfl,R,xn,er,em,O,hr⟩;have rl:=R.len;have GS':Gw S S':=F3 GS O s1;have hk':=hk.gw GS';cases hz:r6 es cs x one with
 | none=>
   refine⟨_,rfl,.inl ⟨rfl,_,rfl,ifF rfl ?_⟩⟩
   have e0:rwF es cs (es.length+1 - r.length) x one other=[]:=by
    rw[show es.length+1 - r.length=(es.length - r.length)+1 by omega];unfold rwF;rw[hz]
   rw[e0,Wl]at er;exact⟨_,rfl,q l S' GS' s1 (by rw[hr,er])⟩
 | some t=>
   obtain⟨⟨e,he,hx⟩,hcx⟩:=p8 hz;have hee:=hen e (Vp he);have ge:es.getD t (0,0)=e:=by rw[Vq,he];rfl
   have R':=R.step P ab he hx (hne e (Vp he)) hcx;have fn:AF e x<n:=by unfold AF;split<;>omega
   have e1:rwF es cs (es.length+1 - r.length) x one other=t::rwF es cs (es.length+1 - (r++[t]).length) (AF e x) other one:=by
    rw[show es.length+1 - r.length=(es.length - r.length)+1 by omega,show es.length+1 - (r++[t]).length=es.length - r.length by rw[Vo];simp]
    conv=>lhs;unfold rwF
    rw[hz];dsimp only;rw[ge]
   refine⟨_,rfl,.inl ⟨rfl,_,rfl,ifT rfl ?_⟩⟩;refine⟨_,rfl,⟨_,_,rfl,hr⟩,_,rfl,_,hr,by rw[n6];show _<100000;omega,?_⟩;have h3:(S'.set l (.lst (i7 r++[.int (t:Nat)])))[l]?=some (.lst (i7 (r++[t]))):=by rw[n9 hr,AB];rfl
   have O3:On l S2 (S'.set l (.lst (i7 r++[.int (t:Nat)]))):=O.tape;have hk3:=hk.gw (F3 GS O3 s1);show wSs Δ [(.asg (.nm 2) (.call kf (.cons (.var 0) (.cons (.var 6) (.cons (.var 2) .nil))))),(.par 3 4 (.var 4) (.var 3)),(.asg (.nm 6) (.call kh (.cons (.var 0) (.cons (.var 1) (.cons (.var 2) (.cons (.var 3) .nil))))))] _ [some (i8 n es),some w,some (.int (x:Nat)),some (.int (one:Nat)),some (.int (other:Nat)),some (.loc l),some (.int (t:Nat))] (S'.set l (.lst (i7 r++[.int (t:Nat)])));generalize S'.set l (.lst (i7 r++[.int (t:Nat)]))=S3 at *;refine⟨_,rfl,_,rfl,_,rfl,hf he (hx.imp Eq.symm Eq.symm) ?_⟩;refine⟨_,rfl,_,rfl,?_⟩;refine⟨_,rfl,_,rfl,_,rfl,_,rfl,hh hk3 hl hel fn (by rcases R.ab.2 with z | z<;>rw[z]<;>assumption) λS4 G4=>?_⟩;refine⟨es.length+1 - (r++[t]).length,by rw[Vo];simp;omega,r++[t],AF e x,other,one,rfl,R',fn,?_,?_,O3.trans (Tj G4),G4.keep _ _ h3⟩
   ·rw[<-er,e1];simp
   ·have:=R'.len;omega
def Fq(s:Sn):Prop:=∀{n l a b:Nat} {w:SV} {es:EE} {cs r:List Nat} {S:Sto} {Q:QE},Hv S w cs->a<1000->b<1000->S[l]?=some (.lst (i7 r))->cs.length=es.length->(∀ e∈es,e.1<e.2/\e.2<n)->es.length<=60->a≠b->(∀ t∈r,t<es.length)->(∀ t∈r,hu cs t=a\/hu cs t=b)->r.length<=1000->Prp es (exL cs r a b)->
 (∀(l':Nat) (S':Sto),Gw S S'->S.length<=l'->S'[l']?=some (.lst (f9 (exL cs r a b)))->Q (.loc l') S')->s [i8 n es,w,.loc l,.int (a:Nat),.int (b:Nat)] S Q
theorem OD(hΔ:∀ f,MonoN (Δ f)){ku kt ki:Nat}(hu':Cc (Δ ku))(ht:BC (Δ kt))(hi:Ax (Δ ki)){D:Df}(hb:D.body=RS ku kt ki)(hN:D.N.length=7)(hp:D.ps.length=5):Fq (g9 Δ D):=by
 intro n l a b w es cs r S Q hk a9 b9 hl hcl hen hel ab rlt rab rlen P q;unfold g9;rw[hb,hN];refine⟨hp.symm,_,rfl,_,rfl,hu' ab ⟨_,rfl,_,hk.seq,?_⟩⟩;show wSs Δ [ec2 kt,(.iff (.not (.call ki (.cons (.var 0) (.cons (.var 5) .nil)))) [.no] []),(.ret (.var 5))] (B3 Q) [some (i8 n es),some w,some (.loc l),some (.int (a:Nat)),some (.int (b:Nat)),some (.loc S.length),none] (S++[.lst (f9 cs)]);have ll:=(gM hl).1;refine⟨_,rfl,_,f6 (j7 hl),?_⟩;refine AN (j5 hΔ _) (λi ρ S'=>∃ o6:Option SV,ρ=[some (i8 n es),some w,some (.loc l),some (.int (a:Nat)),some (.int (b:Nat)),some (.loc S.length),o6]/\On S.length (S++[.lst (f9 cs)]) S'/\S'[S.length]?=some (.lst (f9 (exL cs (r.take i) a b)))) ⟨none,rfl,On.refl _ _,by rw[ZG,KG];exact f8⟩ (λi ρ S' h=>?_) ?_ ?_
 ·obtain⟨_,_,O,_⟩:=h;show S'[l]?=(S++[SO.lst (f9 cs)])[l]?;rw[j7 hl];exact O.keep _ _ (by omega) (j7 hl)
 ·rintro i x ρ S' hx ⟨o6,rfl,O,h5⟩;obtain⟨t,hti,rfl⟩:=BQ hx;have tr:=Vp hti;have tl:=rlt t tr;have hk':=hk.gw (F3 (Gw.refl S).push O (Vt _));have hc:=u7 (cs:=cs) (t:=t) (by omega);have hc9:hu cs t<1000:=by rcases rab t tr with z | z<;>rw[z]<;>assumption
  have hcp:(f9 cs)[t]?=some (.int (hu cs t:Nat)):=by rw[p9 hc,p6 hc9]
  have e:r.take (i+1)=r.take i++[t]:=by rw[WZ,hti];rfl
  refine⟨_,rfl,_,rfl,ht tl ⟨_,rfl,ifF rfl ⟨_,rfl,_,rfl,_,_,hk'.seq,i6 hcp,_,rfl,_,rfl,by show 2<=100000;decide,rfl,_,rfl,rfl,_,rfl,?_⟩⟩⟩
  have inn:(!inS (.int (hu cs t:Nat)) [.int (a:Nat),.int (b:Nat)])=false:=by
   rcases rab t tr with z | z<;>rw[z]<;>simp[inS,eqF]
  refine ifF inn (f7 ?_)
  have fin:∀ z:Int,z=((if hu cs t=a then b else a:Nat):Int)->Cq (.loc S.length) (.int (t:Nat)) (.int z) S' λS4=>∃ o6:Option SV,[some (i8 n es),some w,some (.loc l),some (.int (a:Nat)),some (.int (b:Nat)),some (.loc S.length),some (.int (t:Nat))]=[some (i8 n es),some w,some (.loc l),some (.int (a:Nat)),some (.int (b:Nat)),some (.loc S.length),o6]/\On S.length (S++[.lst (f9 cs)]) S4/\S4[S.length]?=some (.lst (f9 (exL cs (r.take (i+1)) a b))):=by
   rintro _ rfl;refine⟨_,t,h5,BN (by rw[u8,AW];omega),_,rfl,O.tape,?_⟩;rw[n9 h5,e,HU (by omega)];unfold f9;rw[Xr,p6 (by split<;>assumption)]
  refine⟨_,rfl,_,rfl,_,_,hk'.seq,i6 hcp,_,rfl,_,rfl,ifD (λz=>⟨_,rfl,_,rfl,_,rfl,fin _ ?_⟩) (λz=>⟨_,rfl,_,rfl,_,rfl,fin _ ?_⟩)⟩
  ·have z:hu cs t=a:=WW.mp z;rw[iP z]
  ·have z:¬ hu cs t=a:=λy=>z (congrArg _ y);rw[iG z]
 ·rintro ρ S' ⟨o6,rfl,O,h5⟩;rw[n6,WV]at h5;refine⟨_,rfl,_,rfl,hi hen hel (J5 h5 (by rw[AW];omega)) λrr S2 G2 e2=>?_⟩;have:rr=true:=e2.mpr ⟨_,f6 h5,Fm P⟩;subst this;refine⟨_,rfl,ifF rfl (f7 ⟨_,rfl,q S.length S2 ?_ (Vt _) (G2.keep _ _ h5)⟩)⟩;refine⟨WH (WH (by rw[Vo];omega) O.len) G2.len,λj o h=>G2.keep _ _ (O.keep j o ?_ (j7 h))⟩;exact W0 (gM h).1
def D0(s:Sn):Prop:=∀{n p:Nat} {w:SV} {es:EE} {cs:List Nat} {S:Sto} {Q:QE},Hv S w cs->cs.length=es.length->es.length<=60->p<n->(∀(l:Nat) (ns:List Int) (S':Sto),Gw S S'->S'[l]?=some (.lst (ns.map SV.int))->(∀ h:Nat,h<1000->((h:Int)∈ns↔∃ u,AtP es u p/\hu cs u=h))->Q (.loc l) S')->s [i8 n es,w,.int (p:Nat)] S Q
theorem J6(hΔ:∀ f,MonoN (Δ f)){kt:Nat}(ht:Bn (Δ kt)){D:Df}(hb:D.body=KH kt)(hN:D.N.length=3)(hp:D.ps.length=3):D0 (g9 Δ D):=by
 intro n p w es cs S Q hk hl hel hpn q;unfold g9;rw[hb,hN];refine⟨hp.symm,_,rfl,_,rfl,ht (by omega) hpn ⟨_,f6 f8,?_⟩⟩;have G1:Gw S (S++[SO.lst (i7 (i9 es p es.length))]):=(Gw.refl S).push;have hk1:=hk.gw G1;generalize S++[SO.lst (i7 (i9 es p es.length))]=S1 at *;have tl:(i9 es p es.length).length<=es.length:=BR _ _
 have fl:∀ j,((((i9 es p es.length).take j).map (hu cs)).filter λc=>decide (c<1000)).length<=es.length:=λj=>by
  have:=XJ (λc=>decide (c<1000)) (((i9 es p es.length).take j).map (hu cs));rw[Vm,Wp]at this;omega
 refine m7 (p4 hΔ _).2 (c9 hΔ _).1 (λj ys S2=>S2=S1/\ys=i7 ((((i9 es p es.length).take j).map (hu cs)).filter λc=>decide (c<1000))) ⟨rfl,rfl⟩ (λ_ _ _ z=>by rw[z.1];exact rfl) ?_ ?_
 ·rintro j x ys S2 hx ⟨rfl,rfl⟩;obtain⟨t,htj,rfl⟩:=BQ hx;obtain⟨e,he,_⟩:=mem_tiesAt.mp (Vp htj);have hc:=u7 (cs:=cs) (t:=t) (by have:=(gM he).1;omega);have hjl:=(gM htj).1
  have es':(((i9 es p es.length).take (j+1)).map (hu cs)).filter (λc=>decide (c<1000))=(((i9 es p es.length).take j).map (hu cs)).filter (λc=>decide (c<1000))++if decide (hu cs t<1000)=true then [hu cs t] else []:=by
   rw[WZ,htj,WB,Xd]
   congr 1
   show Z5 (λc=>decide (c<1000)) [hu cs t]=_;rw[X7];rfl
  refine⟨_,rfl,_,rfl,_,_,hk1.seq,i6 (p9 hc),.inl ⟨rfl,_,rfl,?_⟩⟩;show if (if true=true then !A9 (pS (hu cs t)) else A9 (pS (hu cs t)))=true then _ else _
  rw[iP rfl,CL,Yt];refine ifD (λz=>?_) (λz=>⟨rfl,?_⟩)
  ·rw[iP (decide_eq_true z)]at es';refine⟨_,rfl,_,rfl,_,_,hk1.seq,i6 (p9 hc),by rw[n6];have:=fl j;show _<100000;omega,rfl,?_⟩;rw[es',AB,p6 z];rfl
  ·rw[iG (by simpa using z),Wl]at es';rw[es']
 ·rintro ys S2 ⟨rfl,rfl⟩;rw[n6,WV];have fl':=fl (i9 es p es.length).length;rw[WV]at fl';refine⟨_,_,nofun,f6 f8,K6 _,by rw[Vm];omega,?_⟩;refine q _ _ _ G1.push.push f8 λh hh=>?_;rw[Qa];constructor
  ·intro z;obtain⟨c,hc,e⟩:=WC.mp z;obtain⟨u,hu',rfl⟩:=WC.mp (Wn.mp hc).1;exact⟨u,mem_tiesAt.mp hu',WW.mp e⟩
  ·rintro⟨u,hu',rfl⟩;exact WC.mpr ⟨_,Wn.mpr ⟨WC.mpr ⟨u,mem_tiesAt.mpr hu',rfl⟩,decide_eq_true hh⟩,rfl⟩
def Bz(s:Sn):Prop:=∀{n H p:Nat} {w:SV} {es:EE} {cs:List Nat} {S:Sto} {Q:QE},Hv S w cs->cs.length=es.length->es.length<=60->p<n->H<=1000->(∀(l:Nat) (S':Sto),Gw S S'->S.length<=l->S'[l]?=some (.lst (i7 (frL es cs p H)))->Q (.loc l) S')->s [i8 n es,w,.int (p:Nat),.int (H:Nat)] S Q
theorem OE(hΔ:∀ f,MonoN (Δ f)){ka:Nat}(ha:D0 (Δ ka)){D:Df}(hb:D.body=OB ka)(hN:D.N.length=5)(hp:D.ps.length=4):Bz (g9 Δ D):=by
 intro n H p w es cs S Q hk hl hel hpn hH q;unfold g9;rw[hb,hN];refine⟨hp.symm,_,rfl,_,rfl,_,rfl,ha hk hl hel hpn λl ns S1 G1 h1 mem=>⟨_,rfl,_,rfl,⟨by omega,by omega⟩,?_⟩⟩;refine m7 (p4 hΔ _).2 (c9 hΔ _).1 (λj ys S2=>S2=S1/\ys=i7 ((W4 j).filter λh=>(r6 es cs p h).isNone)) ⟨rfl,rfl⟩ (λ_ _ _ _=>trivial) ?_ ?_
 ·rintro j x ys S2 hx ⟨rfl,rfl⟩;have jl:j<H:=by have:=(gM hx).1;rw[u4]at this;omega
  obtain⟨rfl,hj⟩:=AE hx;rw[X2]at hj ⊢;have fs:=E4 (λh=>(r6 es cs p h).isNone) j;have fl:=BR (λh=>(r6 es cs p h).isNone) j;refine⟨_,rfl,_,rfl,?_⟩;show match BU (.loc l) S2 with | some ms=>_ | none=>_
  rw[Ak h1];refine⟨rfl,_,f6 h1,Ny _,_,rfl,?_⟩;show if (!inS (.int (j:Nat)) (ns.map SV.int))=true then _ else _
  rw[Tp]
  have e:(!decide ((j:Int)∈ns))=(r6 es cs p j).isNone:=by
   cases ht:r6 es cs p j with
   | none=>
     have:¬ (j:Int)∈ns:=λz=>by
      obtain⟨u,u1,u2⟩:=(mem j (by omega)).mp z;exact AS ht u u1 u2
     rw[decide_eq_false this];rfl
   | some t=>
     have:(j:Int)∈ns:=(mem j (by omega)).mpr ⟨t,(p8 ht).1,(p8 ht).2⟩;rw[decide_eq_true this];rfl
  rw[e];refine ifB (λz=>?_) (λz=>⟨rfl,?_⟩)
  ·rw[iP z]at fs;exact⟨_,rfl,by rw[n6];show _<100000;omega,rfl,by rw[fs,AB];rfl⟩
  ·rw[iG (by rw[z];decide),Wl]at fs;rw[fs]
 ·rintro ys S2 ⟨rfl,rfl⟩;rw[u4,show((H:Int) - 0).toNat=H by omega];exact q _ _ G1.push G1.len f8
end
inductive Sp3 where
 | hue (t h:Nat)
 | move (t u:Nat)
 | row (p a b:Nat)
def st3(es:EE)(cs:List Nat):Sp3->List Nat
 | .hue t h=>cs.set t h
 | .move t u=>(cs.set t (1000+t)).set u (hu cs t)
 | .row p a b=>exL cs (rwF es cs (es.length+1) p a b) a b
def Ok3(n H:Nat)(es:EE)(cs:List Nat):Sp3->Prop
 | .hue t h=>t<es.length/\¬ hu cs t<1000/\h<H/\∀ y,AtP es t y->∀ u,AtP es u y->hu cs u≠h
 | .move t u=>t<es.length/\u<es.length/\hu cs t<H/\¬ hu cs u<1000/\(∃ y,AtP es t y/\AtP es u y)/\∀ y,AtP es u y->∀ v,AtP es v y->hu cs v=hu cs t->v=t
 | .row p a b=>a<H/\b<H/\a≠b/\p<n/\∀ u,AtP es u p->hu cs u≠b
structure Hg(H:Nat)(es:EE)(cs:List Nat):Prop where
 P:Prp es cs
 cod:∀ u,u<es.length->hu cs u<H\/hu cs u=1000+u
section
variable{n H:Nat}{es:EE}{cs:List Nat}
theorem Hg.bare(h:Hg H es cs){u:Nat}(ul:u<es.length)(z:¬ hu cs u<1000)(hH:H<=1000):hu cs u=1000+u:=by
 rcases h.cod u ul with y | y
 ·omega
 ·exact y
theorem KK{t u v:Nat}(tl:t<cs.length)(ul:u<cs.length):hu (st3 es cs (.move t u)) v=if v=u then hu cs t else if v=t then 1000+t else hu cs v:=by
 show hu ((cs.set t (1000+t)).set u (hu cs t)) v=_;rw[Fn (by rw[Wa];exact ul),Fn tl]
theorem KL(s:Sp3):(st3 es cs s).length=cs.length:=by
 cases s with
 | hue t h=>exact Wa ..
 | move t u=>show((cs.set t (1000+t)).set u (hu cs t)).length=_;rw[Wa,Wa]
 | row p a b=>exact AW ..
theorem Fs(h:Hg H es cs){r:List Nat}{a b u:Nat}(ul:u<es.length):hu (exL cs r a b) u=if u∈r then (if hu cs u=a then b else a) else hu cs u:=E8 (by rw[h.P.len];exact ul)
theorem BT(g:Hg H es cs)(hen:∀ e∈es,e.1<e.2/\e.2<n)(hH:H<=1000){s:Sp3}(h:Ok3 n H es cs s):Hg H es (st3 es cs s):=by
 have pl:=g.P.len;cases s with
 | hue t h'=>
   obtain⟨tl,h0,h1,h2⟩:=h;have e:∀ v,hu (st3 es cs (.hue t h')) v=if v=t then h' else hu cs v:=λv=>Fn (by omega)
   refine⟨⟨(KL _).trans pl,λv u y hv hu' q=>?_⟩,λu ul=>?_⟩
   ·rw[e,e]at q;by_cases e1:v=t
    ·by_cases e2:u=t
     ·rw[e1,e2]
     ·rw[iP e1,iG e2]at q;subst e1;exact absurd q.symm (h2 y hv u hu')
    ·by_cases e2:u=t
     ·rw[iG e1,iP e2]at q;subst e2;exact absurd q (h2 y hu' v hv)
     ·rw[iG e1,iG e2]at q;exact g.P.one v u y hv hu' q
   ·rw[e];split
    ·exact .inl h1
    ·exact g.cod u ul
 | move t u=>
   obtain⟨tl,ul,h1,h2,_,h3⟩:=h;have e:∀ v,hu (st3 es cs (.move t u)) v=if v=u then hu cs t else if v=t then 1000+t else hu cs v:=λv=>KK (by omega) (by omega)
   have key:∀ v w y,AtP es v y->AtP es w y->hu (st3 es cs (.move t u)) v=hu (st3 es cs (.move t u)) w->v≠w->w≠u->v=w:=by
    intro v w y hv hw q ne wu;rw[e,e,iG wu]at q;by_cases vu:v=u
    ·rw[iP vu]at q;by_cases wt:w=t
     ·rw[iP wt]at q;omega
     ·rw[iG wt]at q;subst vu;exact absurd (h3 y hv w hw q.symm) wt
    ·rw[iG vu]at q;by_cases vt:v=t
     ·rw[iP vt]at q;by_cases wt:w=t
      ·exact absurd (vt.trans wt.symm) ne
      ·rw[iG wt]at q;rcases g.cod w hw.lt with z | z<;>omega
     ·rw[iG vt]at q;by_cases wt:w=t
      ·rw[iP wt]at q;rcases g.cod v hv.lt with z | z<;>omega
      ·rw[iG wt]at q;exact g.P.one v w y hv hw q
   refine⟨⟨(KL _).trans pl,λv w y hv hw q=>?_⟩,λv vl=>?_⟩
   ·by_cases ne:v=w
    ·exact ne
    ·by_cases wu:w=u
     ·exact(key w v y hw hv q.symm (Ne.symm ne) (λz=>ne (z.trans wu.symm))).symm
     ·exact key v w y hv hw q ne wu
   ·rw[e];split
    ·exact .inl h1
    ·split
     ·next z=>exact .inr (by rw[z])
     ·exact g.cod v vl
 | row p a b=>
   obtain⟨a1,b1,ab,pn,no⟩:=h;obtain⟨x,o1,o2,R,last⟩:=Cd g.P hen ab no;refine⟨Tl g.P (R.clo last) (Ce R),λu ul=>?_⟩;show hu (exL cs _ a b) u<H\/hu (exL cs _ a b) u=_;rw[Fs g ul];split
   ·split<;>exact .inl (by assumption)
   ·exact g.cod u ul
end
def w6(es:EE)(cs:List Nat)(sts:List Sp3):List Nat:=sts.foldl (λc s=>st3 es c s) cs
def OkR3(n H:Nat)(es:EE):List Nat->List Sp3->Prop
 | _,[]=>True
 | cs,s::ss=>Ok3 n H es cs s/\OkR3 n H es (st3 es cs s) ss
theorem OkR3.hg{n H:Nat}{es:EE}(hen:∀ e∈es,e.1<e.2/\e.2<n)(hH:H<=1000):∀{a:List Sp3} {cs:List Nat},Hg H es cs->OkR3 n H es cs a->Hg H es (w6 es cs a)
 | [],_,g,_=>g
 | s::a,cs,g,h=>OkR3.hg hen hH (a:=a) (BT g hen hH h.1) h.2
def farT(es:EE)(p t:Nat):Nat:=AF (es.getD t (0,0)) p
def An:List Nat->Nat->List Sp3
 | [],_=>[]
 | [w],h=>[.hue w h]
 | a::b::r,h => .move b a::An (b::r) h
def Chn(es:EE)(cs:List Nat)(p H:Nat)(ws:List Nat):Prop:=∀ k a b:Nat,ws[k]?=some a->ws[k+1]?=some b->hu cs b∈frL es cs (farT es p a) H
def Lh(H:Nat)(es:EE)(cs ds:List Nat)(t:Nat):Prop:=hu ds t<H/\∀ u,u<es.length->u≠t->(hu ds u<H↔hu cs u<H)
theorem KM{es:EE}{t p y:Nat}(h:AtP es t p)(hy:AtP es t y):y=p\/y=farT es p t:=by
 obtain⟨e,he,hp⟩:=h;obtain⟨e',he',hy⟩:=hy;rw[he]at he';cases he';unfold farT AF;rw[show es.getD t (0,0)=e by rw[Vq,he];rfl];rcases hp with hp | hp<;>rcases hy with hy | hy<;>split<;>omega
theorem D1{n:Nat}{es:EE}(hen:∀ e∈es,e.1<e.2/\e.2<n){t p:Nat}(h:AtP es t p):farT es p t≠p/\farT es p t<n:=by
 obtain⟨e,he,hp⟩:=h;have:=hen e (Vp he);unfold farT AF;rw[show es.getD t (0,0)=e by rw[Vq,he];rfl];split<;>omega
theorem HW{n H p h:Nat}{es:EE}(hen:∀ e∈es,e.1<e.2/\e.2<n)(hH:H<=1000):∀(r:List Nat) (a:Nat) (cs:List Nat),Hg H es cs->(a::r).Nodup->(∀ w∈a::r,AtP es w p)->hu cs a=1000+a->Chn es cs p H (a::r)->h∈frL es cs p H->h∈frL es cs (farT es p ((a::r).getLastD 0)) H->OkR3 n H es cs (An (a::r) h)/\Lh H es cs (w6 es cs (An (a::r) h)) a
 | [],a,cs,g,nd,at',ba,_,h1,h2=>by
   have al:=(at' a (W7 ..)).lt;obtain⟨hh,f1⟩:=mem_frL.mp h1;obtain⟨_,f2⟩:=mem_frL.mp h2;have e:∀ v,hu (st3 es cs (.hue a h)) v=if v=a then h else hu cs v:=λv=>Fn (by rw[g.P.len];exact al)
   refine⟨⟨⟨al,by omega,hh,λy hy=>?_⟩,trivial⟩,?_,λu ul ne=>?_⟩
   ·rcases KM (at' a (W7 ..)) hy with z | z
    ·rw[z];exact f1
    ·rw[z];exact f2
   ·show hu (st3 es cs (.hue a h)) a<H;rw[e,iP rfl];exact hh
   ·show hu (st3 es cs (.hue a h)) u<H↔_;rw[e,iG ne]
 | b::r,a,cs,g,nd,at',ba,ch,h1,h2=>by
   have pl:=g.P.len;have aa:=at' a (W7 ..);have ab:=at' b (Vz _ (W7 ..));have al:=aa.lt;have bl:=ab.lt;obtain⟨nd1,nd2⟩:=Wo.mp nd;have nab:a≠b:=λz=>nd1 (z▸W7 ..);obtain⟨hb,fb⟩:=mem_frL.mp (ch 0 a b rfl rfl);have e:∀ v,hu (st3 es cs (.move b a)) v=if v=a then hu cs b else if v=b then 1000+b else hu cs v:=λv=>KK (by omega) (by omega)
   have ok:Ok3 n H es cs (.move b a):=⟨bl,al,hb,by omega,⟨p,ab,aa⟩,λy hy v hv q=>by
    rcases KM aa hy with z | z
    ·rw[z]at hv;exact g.P.one v b p hv ab q
    ·rw[z]at hv;exact absurd q (fb v hv)⟩
   have g':=BT g hen hH ok
   have fr:∀(x y:Nat),x≠hu cs b->x∈frL es cs y H->x∈frL es (st3 es cs (.move b a)) y H:=λx y nx hx=>by
    obtain⟨x1,x2⟩:=mem_frL.mp hx;refine mem_frL.mpr ⟨x1,λu hu'=>?_⟩;rw[e];split
    ·exact Ne.symm nx
    ·split
     ·omega
     ·exact x2 u hu'
   have hne:∀ w∈r,w≠a/\w≠b:=λw hw=>⟨λz=>nd1 (z▸Vz _ hw),λz=>(Wo.mp nd2).1 (z▸hw)⟩
   have hb':h≠hu cs b:=λz=>(mem_frL.mp h1).2 b ab z.symm
   have ch':Chn es (st3 es cs (.move b a)) p H (b::r):=λk c d h3 h4=>by
    have dr:d∈r:=Vp (by simpa using h4);have:=ch (k+1) c d (by simpa using h3) (by simpa using h4);rw[e,iG (hne d dr).1,iG (hne d dr).2];refine fr _ _ (λz=>(hne d dr).2 ?_) this;exact g.P.one d b p (at' d (Vz _ (Vz _ dr))) ab z
   obtain⟨k1,k2,k3⟩:=HW hen hH r b (st3 es cs (.move b a)) g' nd2 (λw hw=>at' w (Vz _ hw)) (by rw[e,iG nab.symm,iP rfl]) ch' (fr _ _ hb' h1) (fr _ _ hb' h2);refine⟨⟨ok,k1⟩,?_,λu ul ne=>?_⟩
   ·show hu (w6 es (st3 es cs (.move b a)) (An (b::r) h)) a<H;rw[k3 a al nab,e,iP rfl];exact hb
   ·show hu (w6 es (st3 es cs (.move b a)) (An (b::r) h)) u<H↔_;by_cases z:u=b
    ·rw[z];exact⟨λ_=>hb,λ_=>k2⟩
    ·rw[k3 u ul z,e,iG ne,iG z]
abbrev Fan:=List (Nat×Option Nat)
theorem OF{α β:Type}{f:α->Option β}:∀{xs:List α} {j:Nat} {x:α} {y:β},xs[j]?=some x->f x=some y->(∀ u∈xs.take j,f u=none)->xs.findSome? f=some y
 | [],_,_,_,h,_,_=>by simp at h
 | a::xs,0,x,y,h,e,_=>by
   simp at h;subst h;rw[Yg,e]
 | a::xs,j+1,x,y,h,e,no=>by
   rw[Yg,no a (by simp)];exact OF (j:=j) (by simpa using h) e λu hu'=>no u (by simp[hu'])
def frs(es:EE)(cs:List Nat)(p H:Nat)(F:Fan):List (List Nat):=F.map λx=>frL es cs (farT es p x.1) H
def Ao(cs:List Nat)(t:Nat)(L:List (List Nat)):Option Nat:=L.findIdx? λl=>decide (hu cs t∈l)
def BE(es:EE)(cs:List Nat)(p H:Nat)(F:Fan):Option (Nat×Nat):=(i9 es p es.length).findSome? λt=>if t∈F.map (·.1) then none else (Ao cs t (frs es cs p H F)).map λb=>(t,b)
def C4(es:EE)(cs:List Nat)(p H:Nat):Nat->Fan->Fan
 | 0,F=>F
 | k+1,F=>match BE es cs p H F with
   | none=>F
   | some x=>C4 es cs p H k (F++[(x.1,some x.2)])
structure FanI(es:EE)(cs:List Nat)(p H t0:Nat)(F:Fan):Prop where
 fst:F[0]?=some (t0,none)
 nd:(F.map (·.1)).Nodup
 att:∀ x∈F,AtP es x.1 p
 bk:∀(i t:Nat) (o:Option Nat),0<i->F[i]?=some (t,o)->∃(b u:Nat) (c:Option Nat),o=some b/\b<i/\F[b]?=some (u,c)/\hu cs t∈frL es cs (farT es p u) H/\∀(b' u':Nat) (c':Option Nat),b'<b->F[b']?=some (u',c')->hu cs t∉frL es cs (farT es p u') H
def Tt(es:EE)(cs:List Nat)(p H:Nat)(F:Fan):Prop:=∀ t,AtP es t p->t∉F.map (·.1)->∀ x∈F,hu cs t∉frL es cs (farT es p x.1) H
section
variable{n H p t0:Nat}{es:EE}{cs:List Nat}{F:Fan}
theorem FanI.one(h:AtP es t0 p):FanI es cs p H t0 [(t0,none)]:=⟨rfl,by simp,λx hx=>by rw[W8.mp hx];exact h,λi t o h e=>by
 have:=(gM e).1;simp at this;omega⟩
theorem FanI.len(h:FanI es cs p H t0 F):F.length<=es.length:=by
 have:=List.Nodup.length_le_of_subset h.nd (l₂:=W4 es.length) λt ht=>by
  obtain⟨x,hx,rfl⟩:=WC.mp ht;exact WD.mpr (h.att x hx).lt
 rwa [Wb,Vm]at this
theorem Li{t b:Nat}(h:Ao cs t (frs es cs p H F)=some b):∃ u c,F[b]?=some (u,c)/\hu cs t∈frL es cs (farT es p u) H/\∀(b' u':Nat) (c':Option Nat),b'<b->F[b']?=some (u',c')->hu cs t∉frL es cs (farT es p u') H:=by
 unfold Ao at h;obtain⟨hb,h1,h2⟩:=Xp.mp h;have bl:b<F.length:=by unfold frs at hb;rwa [Vm]at hb
 refine⟨F[b].1,F[b].2,Vr bl,?_,λb' u' c' lt e z=>?_⟩
 ·have:=of_decide_eq_true h1
  rwa [show(frs es cs p H F)[b]=frL es cs (farT es p F[b].1) H by simp[frs]]at this
 ·have:=h2 b' lt;apply this;obtain⟨_,e⟩:=gM e;rw[dQ,show(frs es cs p H F)[b']=frL es cs (farT es p F[b'].1) H by simp[frs],e];exact z
theorem Lj{t:Nat}(h:Ao cs t (frs es cs p H F)=none):∀ x∈F,hu cs t∉frL es cs (farT es p x.1) H:=λx hx z=>by
 unfold Ao at h;rw[Y3]at h;have:=h _ (WC.mpr ⟨x,hx,rfl⟩);rw[decide_eq_true z]at this;cases this
theorem Lk{x:Nat×Nat}(h:BE es cs p H F=some x):AtP es x.1 p/\x.1∉F.map (·.1)/\Ao cs x.1 (frs es cs p H F)=some x.2:=by
 unfold BE at h;obtain⟨t,ht,e⟩:=List.exists_of_findSome?_eq_some h;split at e
 ·cases e
 ·next hn=>
  cases hb:Ao cs t (frs es cs p H F) with
  | none=>rw[hb]at e;cases e
  | some b=>
    rw[hb]at e;cases e;exact⟨mem_tiesAt.mp ht,hn,hb⟩
theorem Ll(h:BE es cs p H F=none):Tt es cs p H F:=by
 intro t ht hn;unfold BE at h;rw[X9]at h;have:=h t (mem_tiesAt.mpr ht);rw[iG hn]at this;cases hb:Ao cs t (frs es cs p H F) with
 | some b=>rw[hb]at this;cases this
 | none=>exact Lj hb
theorem FanI.snoc(I:FanI es cs p H t0 F){x:Nat×Nat}(h:BE es cs p H F=some x):FanI es cs p H t0 (F++[(x.1,some x.2)]):=by
 obtain⟨h1,h2,h3⟩:=Lk h;obtain⟨u,c,k1,k2,k3⟩:=Li h3;have bl:=(gM k1).1;have f0:=(gM I.fst).1;refine⟨by rw[W6 f0];exact I.fst,?_,λy hy=>?_,λi t o hi e=>?_⟩
 ·rw[WB,XU];refine⟨I.nd,by simp,λa ha b hb z=>h2 ?_⟩;have:b=x.1:=by simpa using hb
  rw[<-this,<-z];exact ha
 ·rcases WM.mp hy with z | z
  ·exact I.att y z
  ·rw[W8.mp z];exact h1
 ·have old:∀{j:Nat} {y:Nat×Option Nat},F[j]?=some y->(F++[(x.1,some x.2)])[j]?=some y:=λ{j y} e=>by
   rw[W6 (gM e).1];exact e
  have new:∀{j:Nat} {y:Nat×Option Nat},j<F.length->(F++[(x.1,some x.2)])[j]?=some y->F[j]?=some y:=λ{j y} hj e=>by
   rwa [W6 hj]at e
  rcases K5 e with⟨e1,e2⟩ | e
  ·cases e2;exact⟨x.2,u,c,rfl,by omega,old k1,k2,λb' u' c' lt e'=>k3 b' u' c' lt (new (by omega) e')⟩
  ·obtain⟨b,u,c,q1,q2,q3,q4,q5⟩:=I.bk i t o hi e;have:=(gM q3).1;exact⟨b,u,c,q1,q2,old q3,q4,λb' u' c' lt e'=>q5 b' u' c' lt (new (by omega) e')⟩
theorem Ft:∀(k:Nat) (F:Fan),FanI es cs p H t0 F->es.length<F.length+k->FanI es cs p H t0 (C4 es cs p H k F)/\Tt es cs p H (C4 es cs p H k F)
 | 0,F,I,h=>by have:=I.len;omega
 | k+1,F,I,h=>by
   unfold C4;cases hz:BE es cs p H F with
   | none=>exact⟨I,Ll hz⟩
   | some x=>exact Ft k _ (I.snoc hz) (by rw[Vo];simp;omega)
end
def upF(F:Fan):Nat->Option Nat->List Nat
 | _,none=>[]
 | 0,some _=>[]
 | k+1,some i=>match F[i]? with
   | none=>[]
   | some x=>x.1::upF F k x.2
def Lnk(es:EE)(cs:List Nat)(p H:Nat)(F:Fan)(m:Nat):Prop:=∀(i t b u:Nat) (c:Option Nat),i<=m->F[i]?=some (t,some b)->F[b]?=some (u,c)->hu cs t∈frL es cs (farT es p u) H
section
variable{n H p t0 m:Nat}{es:EE}{cs ds:List Nat}{F:Fan}
theorem RY(I:FanI es cs p H t0 F)(L:Lnk es ds p H F m):∀(k i:Nat),i<k->i<=m->i<F.length->(upF F k (some i)).getLast?=some t0/\(upF F k (some i))[0]?=(F[i]?).map (·.1)/\(∀ w∈upF F k (some i),∃ j x,j<=i/\F[j]?=some x/\x.1=w)/\(upF F k (some i)).Nodup/\∀(j a b:Nat),(upF F k (some i))[j]?=some b->(upF F k (some i))[j+1]?=some a->hu ds b∈frL es ds (farT es p a) H
 | 0,i,h,_,_=>by omega
 | k+1,i,h,hm,hi=>by
   obtain⟨x,hx⟩:∃ x,F[i]?=some x:=⟨_,Vr hi⟩
   have e:upF F (k+1) (some i)=x.1::upF F k x.2:=by
    show(match F[i]? with | none=>[] | some x=>x.1::upF F k x.2)=_;rw[hx]
   rw[e];by_cases z:i=0
   ·subst z;rw[I.fst]at hx;cases hx;have e2:upF F k none=[]:=by cases k<;>rfl
    rw[e2,I.fst];refine⟨rfl,rfl,λw hw=>⟨0,_,Vt _,I.fst,(W8.mp hw).symm⟩,by simp,λj a b h1 h2=>?_⟩;simp at h2
   ·obtain⟨t,o⟩:=x;obtain⟨b,u,c,rfl,bi,hb,_,_⟩:=I.bk i t o (by omega) hx;have bl:=(gM hb).1;obtain⟨k1,k2,k3,k4,k5⟩:=RY I L k b (by omega) (by omega) bl;refine⟨?_,by rw[hx];rfl,λw hw=>?_,?_,λj a b' h1 h2=>?_⟩
    ·show(t::upF F k (some b)).getLast?=_;have ne:upF F k (some b)≠[]:=λz=>by rw[z]at k1;cases k1
     rw[List.getLast?_cons,k1];rfl
    ·rcases W5.mp hw with z | z
     ·exact⟨i,_,Vt _,hx,z.symm⟩
     ·obtain⟨j,y,j1,j2,j3⟩:=k3 w z;exact⟨j,y,by omega,j2,j3⟩
    ·refine Wo.mpr ⟨λhw=>?_,k4⟩;obtain⟨j,y,j1,j2,j3⟩:=k3 _ hw;have m1:(F.map (·.1))[j]?=some t:=by rw[Vu,j2];exact congrArg some j3
     have m2:(F.map (·.1))[i]?=some t:=by rw[Vu,hx];rfl
     have:=(Yq ((gM m1).1) I.nd).mp (m1.trans m2.symm);omega
    ·cases j with
     | zero=>
       have e1:t=b':=by simpa using h1
       have h2:(upF F k (some b))[0]?=some a:=by simpa using h2
       rw[k2,hb]at h2;have e2:u=a:=by simpa using h2
       rw[<-e1,<-e2];exact L i t b u c hm hx hb
     | succ j=>exact k5 j a b' (by simpa using h1) (by simpa using h2)
theorem F4(hen:∀ e∈es,e.1<e.2/\e.2<n)(hH:H<=1000)(I:FanI es cs p H t0 F)(g:Hg H es ds)(b0:hu ds t0=1000+t0){i h:Nat}{x:Nat×Option Nat}(hx:F[i]?=some x)(L:Lnk es ds p H F i)(h1:h∈frL es ds p H)(h2:h∈frL es ds (farT es p x.1) H):OkR3 n H es ds (An (upF F (i+1) (some i)).reverse h)/\Lh H es ds (w6 es ds (An (upF F (i+1) (some i)).reverse h)) t0:=by
 have il:=(gM hx).1;obtain⟨k1,k2,k3,k4,k5⟩:=RY I L (i+1) i (by omega) (Vt _) il;generalize upF F (i+1) (some i)=U at *;have hW:U.reverse.head?=some t0:=by rw[List.head?_reverse];exact k1
 obtain⟨r,hr⟩:∃ r,U.reverse=t0::r:=by
  cases hc:U.reverse with
  | nil=>rw[hc]at hW;cases hW
  | cons a r=>rw[hc]at hW;cases hW;exact⟨r,rfl⟩
 rw[hr]
 have mem:∀ w∈t0::r,AtP es w p:=λw hw=>by
  rw[<-hr,List.mem_reverse]at hw;obtain⟨j,y,_,j2,rfl⟩:=k3 w hw;exact I.att y (Vp j2)
 have lastd:(t0::r).getLastD 0=x.1:=by
  have e:(t0::r).getLast?=some x.1:=by
   rw[<-hr,List.getLast?_reverse,List.head?_eq_getElem?,k2,hx];rfl
  rw[Y4,e];rfl
 refine HW hen hH r t0 ds g (by rw[<-hr];exact(List.reverse_perm U).nodup_iff.mpr k4) mem b0 (λk a b z1 z2=>?_) h1 (by rw[lastd];exact h2);rw[<-hr]at z1 z2;have zl:k+1<U.length:=by have:=(gM z2).1;rwa [Xk]at this
 rw[List.getElem?_reverse (by omega)]at z1 z2;refine k5 (U.length - 1 - (k+1)) a b z2 ?_;rw[show U.length - 1 - (k+1)+1=U.length - 1 - k by omega];exact z1
end
def RwB(es:EE)(cs:List Nat)(a b p:Nat)(r:List Nat)(x:Nat):Prop:=∀ t∈r,∀ y,AtP es t y->y=p\/y=x\/((∃ u,AtP es u y/\hu cs u=a)/\∃ u,AtP es u y/\hu cs u=b)
section
variable{n H:Nat}{es:EE}{cs:List Nat}{a b p:Nat}
theorem RwB.step{r:List Nat}{x one other t:Nat}{e:Nat×Nat}(R:RwI es cs a b p r x one other)(I:RwB es cs a b p r x)(he:es[t]?=some e)(hx:e.1=x\/e.2=x)(ht:hu cs t=one):RwB es cs a b p (r++[t]) (AF e x):=by
 have ax:AtP es t x:=⟨e,he,hx⟩
 have both:r≠[]->(∃ u,AtP es u x/\hu cs u=a)/\∃ u,AtP es u x/\hu cs u=b:=λrn=>by
  have hl:r.getLast?=some (r.getLast rn):=XG rn;have gi:r[r.length - 1]?=some (r.getLast rn):=by rw[<-XN];exact hl
  have l1:=R.lst _ hl;have l2:=R.alt _ _ gi;have rl:0<r.length:=List.length_pos_iff.mpr rn;have d1:=R.d1;by_cases z:r.length % 2=0
  ·rw[iP z]at d1;rw[iG (by omega)]at l2;exact⟨⟨t,ax,ht.trans d1⟩,_,l1,l2⟩
  ·rw[iG z]at d1;rw[iP (by omega)]at l2;exact⟨⟨_,l1,l2⟩,t,ax,ht.trans d1⟩
 intro u hu' y hy;rcases WM.mp hu' with z | z
 ·rcases I u z y hy with q | q | q
  ·exact .inl q
  ·rw[q];exact .inr (.inr (both (List.ne_nil_of_mem z)))
  ·exact .inr (.inr q)
 ·rw[W8.mp z]at hy
  have f:y=x\/y=AF e x:=by
   obtain⟨e',he',hy⟩:=hy;rw[he]at he';cases he';unfold AF;rcases hx with hx | hx<;>rcases hy with hy | hy<;>split<;>omega
  rcases f with f | f
  ·by_cases rn:r=[]
   ·exact .inl (f.trans (R.beg rn))
   ·rw[f];exact .inr (.inr (both rn))
  ·exact .inr (.inl f)
theorem RZ(P:Prp es cs)(hen:∀ e∈es,e.1<e.2/\e.2<n)(ab:a≠b):∀(k:Nat) (r:List Nat) (x one other:Nat),RwI es cs a b p r x one other->RwB es cs a b p r x->∃ x',RwB es cs a b p (r++rwF es cs k x one other) x'
 | 0,r,x,one,other,R,I=>⟨x,by unfold rwF;rw[Wl];exact I⟩
 | k+1,r,x,one,other,R,I=>by
   unfold rwF;cases ht:r6 es cs x one with
   | none=>exact⟨x,by simpa using I⟩
   | some t=>
     obtain⟨⟨e,he,hx⟩,hc⟩:=p8 ht;have ge:es.getD t (0,0)=e:=by rw[Vq,he];rfl
     dsimp only;rw[ge];have R':=R.step P ab he hx (W0 (hen e (Vp he)).1) hc;obtain⟨x',I'⟩:=RZ P hen ab k _ _ _ _ R' (I.step R he hx hc);exact⟨x',by simpa using I'⟩
end
def Tu(es:EE)(cs:List Nat)(p H:Nat)(F:Fan):Prop:=∀ x∈F,∀ h∈frL es cs p H,h∉frL es cs (farT es p x.1) H
section
variable{n H p t0 own c k0 u0:Nat}{o0:Option Nat}{es:EE}{cs:List Nat}{F:Fan}
theorem Qg(hen:∀ e∈es,e.1<e.2/\e.2<n)(hH:H<=1000)(g:Hg H es cs)(I:FanI es cs p H t0 F)(no:Tu es cs p H F)(ho:own∈frL es cs p H)
 (h0:F[k0]?=some (u0,o0)) (hc:c∈frL es cs (farT es p u0) H) (min:∀(k u:Nat) (o:Option Nat),k<k0->F[k]?=some (u,o)->c∉frL es cs (farT es p u) H)
 {z:Nat×Option Nat} (hz:z∈F) (hcz:c∈frL es cs (farT es p z.1) H) (zf:farT es p z.1≠farT es p u0):
 Ok3 n H es cs (.row (farT es p u0) own c)/\(∃(i:Nat) (x:Nat×Option Nat) (h:Nat),F[i]?=some x/\h∈frL es (st3 es cs (.row (farT es p u0) own c)) p H/\h∈frL es (st3 es cs (.row (farT es p u0) own c)) (farT es p x.1) H)/\
 ∀(i:Nat) (x:Nat×Option Nat) (h:Nat),F[i]?=some x->h∈frL es (st3 es cs (.row (farT es p u0) own c)) p H->h∈frL es (st3 es cs (.row (farT es p u0) own c)) (farT es p x.1) H->(∀(i':Nat) (x':Nat×Option Nat),i'<i->F[i']?=some x'->∀ h'∈frL es (st3 es cs (.row (farT es p u0) own c)) p H,h'∉frL es (st3 es cs (.row (farT es p u0) own c)) (farT es p x'.1) H)->Lnk es (st3 es cs (.row (farT es p u0) own c)) p H F i:=by
 have a0:=I.att _ (Vp h0);have az:=I.att _ hz;have fn:=D1 hen a0;have zn:=D1 hen az;obtain⟨cH,fc⟩:=mem_frL.mp hc;obtain⟨oH,fo⟩:=mem_frL.mp ho;have oc:own≠c:=λe=>no _ (Vp h0) own ho (e▸hc);have ok:Ok3 n H es cs (.row (farT es p u0) own c):=⟨oH,cH,oc,fn.2,fc⟩
 refine⟨ok,?_⟩;generalize hf:farT es p u0=f at *;obtain⟨x',o1,o2,R,last⟩:=Cd g.P hen oc fc;obtain⟨xe,B⟩:=RZ (p:=f) g.P hen oc (es.length+1) [] f own c (RwI.nil fc) (λ_ h=>nomatch h);rw[YV]at B;have two:=Ce R;have hr:∀ u,u<es.length->hu (st3 es cs (.row f own c)) u=if u∈rwF es cs (es.length+1) f own c then (if hu cs u=own then c else own) else hu cs u:=λu ul=>Fs g ul
 have ff:own∈frL es (st3 es cs (.row f own c)) f H:=mem_frL.mpr ⟨oH,λu hu' q=>by
  rw[hr u hu'.lt]at q;by_cases m:u∈rwF es cs (es.length+1) f own c
  ·rw[iP m]at q;rcases two u m with y | y
   ·rw[iP y]at q;exact oc q.symm
   ·exact fc u hu' y
  ·rw[iG m]at q;cases ht:r6 es cs f own with
   | none=>exact AS ht u hu' q
   | some t1=>
     obtain⟨at1,hc1⟩:=p8 ht;have:=g.P.one u t1 f hu' at1 (q.trans hc1.symm);subst this;apply m;unfold rwF;rw[ht];exact W7 ..⟩
 have fr:∀ h y,h≠own->h≠c->h∈frL es cs y H->h∈frL es (st3 es cs (.row f own c)) y H:=λh y n1 n2 hh=>by
  obtain⟨q1,q2⟩:=mem_frL.mp hh;refine mem_frL.mpr ⟨q1,λu hu' q=>?_⟩;rw[hr u hu'.lt]at q;split at q
  ·split at q
   ·exact n2 q.symm
   ·exact n1 q.symm
  ·exact q2 u hu' q
 have un:∀ h y,(∀ u,u∈rwF es cs (es.length+1) f own c->¬ AtP es u y)->h∈frL es cs y H->h∈frL es (st3 es cs (.row f own c)) y H:=λh y nt hh=>by
  obtain⟨q1,q2⟩:=mem_frL.mp hh;refine mem_frL.mpr ⟨q1,λu hu' q=>?_⟩;rw[hr u hu'.lt,iG (λm=>nt u m hu')]at q;exact q2 u hu' q
 have at':∀{i t:Nat} {o:Option Nat},F[i]?=some (t,o)->AtP es t p:=λ{i t o} e=>I.att _ (Vp e)
 have bk:∀(i t b u:Nat) (q:Option Nat),F[i]?=some (t,some b)->F[b]?=some (u,q)->b<i/\hu cs t∈frL es cs (farT es p u) H/\∀(b' u':Nat) (c':Option Nat),b'<b->F[b']?=some (u',c')->hu cs t∉frL es cs (farT es p u') H:=λi t b u q e1 e2=>by
  have i0:0<i:=Xn λz=>by rw[z,I.fst]at e1;cases e1
  obtain⟨b2,u2,q2,e3,k1,k2,k3,k4⟩:=I.bk i t _ i0 e1;cases e3;rw[e2]at k2;cases k2;exact⟨k1,k3,k4⟩
 by_cases tch:∃ u,u∈rwF es cs (es.length+1) f own c/\AtP es u p
 ·obtain⟨u1,m1,at1⟩:=tch;have hu1:hu cs u1=c:=(two u1 m1).resolve_left (fo u1 at1)
  have px:p=xe:=by
   rcases B u1 m1 p at1 with q | q | q
   ·exact absurd q.symm fn.1
   ·exact q
   ·obtain⟨⟨v,v1,v2⟩,_⟩:=q;exact absurd v2 (fo v v1)
  have cp:c∈frL es (st3 es cs (.row f own c)) p H:=mem_frL.mpr ⟨cH,λu hu' q=>by
   rw[hr u hu'.lt]at q;by_cases m:u∈rwF es cs (es.length+1) f own c
   ·rw[iP m,iG (fo u hu')]at q;exact oc q
   ·rw[iG m]at q;exact m (g.P.one u u1 p hu' at1 (q.trans hu1.symm)▸m1)⟩
  obtain⟨j,hj⟩:=Wu hz;refine⟨⟨j,z,c,hj,cp,un c _ (λu hu' aty=>?_) hcz⟩,λi x h hi _ _ _ i' t b u q hi' e1 e2=>?_⟩
  ·rcases B u hu' _ aty with q | q | q
   ·exact zf q
   ·exact zn.1 (q.trans px.symm)
   ·obtain⟨_,v,v1,v2⟩:=q;exact(mem_frL.mp hcz).2 v v1 v2
  ·obtain⟨bi,k1,k2⟩:=bk i' t b u q e1 e2;rw[hr t (at' e1).lt];by_cases m:t∈rwF es cs (es.length+1) f own c
   ·have tc:hu cs t=c:=(two t m).resolve_left (fo t (at' e1));rw[iP m,iG (by rw[tc];exact oc.symm)];rw[tc]at k1 k2
    have bk0:b=k0:=by
     rcases Yu b k0 with y | y | y
     ·exact absurd k1 (min b u q y e2)
     ·exact y
     ·exact absurd hc (hf▸k2 k0 u0 o0 y h0)
    rw[bk0,h0]at e2;cases e2;rw[hf];exact ff
   ·rw[iG m];refine fr _ _ (fo t (at' e1)) (λy=>m ?_) k1;exact g.P.one t u1 p (at' e1) at1 (y.trans hu1.symm)▸m1
 ·have nt:∀ u,u∈rwF es cs (es.length+1) f own c->¬ AtP es u p:=λu m q=>tch ⟨u,m,q⟩;have op:=un own p nt ho;refine⟨⟨k0,_,own,h0,op,by rw[hf];exact ff⟩,λi x h hi _ _ mn i' t b u q hi' e1 e2=>?_⟩;have ik:i<=k0:=Yx λy=>mn k0 _ y h0 own op (by rw[hf];exact ff);obtain⟨bi,k1,k2⟩:=bk i' t b u q e1 e2;rw[hr t (at' e1).lt,iG (λm=>nt t m (at' e1))];exact fr _ _ (fo t (at' e1)) (λy=>min b u q (by omega) e2 (y▸k1)) k1
end
theorem KN{f:Nat->Nat}{k:Nat}:∀(Y ts:List Nat),(∀ t∈ts,f t∈Y)->(∀ y∈Y,(ts.filter λt=>decide (f t=y)).length<=k)->ts.length<=Y.length * k
 | [],ts,h,_=>by
   cases ts with
   | nil=>simp
   | cons t ts=>exact absurd (h t (W7 ..)) (by simp)
 | y::Y,ts,h,hk=>by
   have ih:=KN Y (ts.filter λt=>!decide (f t=y)) (λt ht=>by
    obtain⟨h1,h2⟩:=Wn.mp ht;rcases W5.mp (h t h1) with z | z
    ·rw[z]at h2;simp at h2
    ·exact z) (λy' hy'=>by
    refine WH ?_ (hk y' (Vz _ hy'));rw[Xo];refine List.Sublist.length_le ?_
    have:(ts.filter λt=>decide (f t=y')&&!decide (f t=y))=(ts.filter λt=>decide (f t=y')).filter λt=>!decide (f t=y):=by
     rw[Xo];exact YA λt _=>Bool.and_comm ..
    rw[this];exact List.filter_sublist)
   have e:=hk y (W7 ..);have s:=Hue.len_split (λ_=>true) (λt=>decide (f t=y)) ts;simp only[YC]at s;have e0:(ts.filter λ_=>true).length=ts.length:=by rw[Yh.mpr (λ_ _=>rfl)]
   rw[WG,Xa];omega
theorem Qh{es:EE}{cs:List Nat}(p H:Nat):H<=(frL es cs p H).length+t4 es p:=by
 have s:=Hue.len_split (λ_=>true) (λh=>(r6 es cs p h).isNone) (W4 H);simp only[YC]at s;have e0:((W4 H).filter λ_=>true).length=H:=by rw[Yh.mpr (λ_ _=>rfl),Wb]
 have f:∀ h∈(W4 H).filter λh=>!(r6 es cs p h).isNone,AtP es ((r6 es cs p h).getD 0) p/\hu cs ((r6 es cs p h).getD 0)=h:=λh hh=>by
  have:=(Wn.mp hh).2;cases ht:r6 es cs p h with
  | none=>rw[ht]at this;cases this
  | some u=>exact p8 ht
 have nd:(((W4 H).filter λh=>!(r6 es cs p h).isNone).map λh=>(r6 es cs p h).getD 0).Nodup:=by
  rw[List.Nodup,Y9];refine List.Pairwise.imp_of_mem (λ{a b} ha hb ne e=>ne ?_) (Xt.filter _);rw[<-(f a ha).2,<-(f b hb).2,e]
 have sub:=List.Nodup.length_le_of_subset nd (l₂:=i9 es p es.length) λu hu'=>by
  obtain⟨h,hh,rfl⟩:=WC.mp hu';exact mem_tiesAt.mpr (f h hh).1
 rw[Vm]at sub;have:t4 es p=(i9 es p es.length).length:=rfl;show H<=((W4 H).filter λh=>(r6 es cs p h).isNone).length+_;omega
theorem Lm{n p y th:Nat}{es:EE}(hen:∀ e∈es,e.1<e.2/\e.2<n)(hth:∀ e,es.count e<=th){ts:List Nat}(nd:ts.Nodup)(at':∀ t∈ts,AtP es t p):(ts.filter λt=>decide (farT es p t=y)).length<=th:=by
 refine WH ?_ (hth (if p<y then (p,y) else (y,p)))
 have e1:∀ t∈ts.filter λt=>decide (farT es p t=y),es[t]?=some (if p<y then (p,y) else (y,p)):=λt ht=>by
  obtain⟨h1,h2⟩:=Wn.mp ht;have h2:=of_decide_eq_true h2;obtain⟨e,he,hp⟩:=at' t h1;have:=hen e (Vp he);rw[he];unfold farT AF at h2;rw[show es.getD t (0,0)=e by rw[Vq,he];rfl]at h2
  congr 1
  obtain⟨e1,e2⟩:=e;dsimp only at *;split at h2<;>split<;>(first | (congr 1<;>omega) | (exfalso;omega))
 generalize (if p<y then (p,y) else (y,p))=e at *
 have cnt:es.count e=((W4 es.length).filter λt=>decide (es[t]?=some e)).length:=by
  have:(W4 es.length).map (λt=>es.getD t (0,0))=es:=by
   apply XI;intro i;rw[Vu];by_cases h:i<es.length
   ·rw[Wm h,Vr h];show some (es.getD i (0,0))=_;rw[Vq,Vr h];rfl
   ·rw[Wf (by rw[Wb];omega),Wf (by omega)];rfl
  conv=>lhs;rw[<-this]
  rw[List.count,List.countP_map,Xu]
  congr 1
  refine YA λt ht=>?_;have tl:=WD.mp ht;show(es.getD t (0,0) == e)=_;rw[Vq,Vr tl];show(es[t] == e)=_;rw[Wd];simp
 rw[cnt];exact List.Nodup.length_le_of_subset (nd.filter _) λt ht=>Wn.mpr ⟨WD.mpr (gM (e1 t ht)).1,decide_eq_true (e1 t ht)⟩
theorem KO{α:Type}{f:Nat->List α}{k:Nat}:∀(Y:List Nat),(∀ y∈Y,k<=(f y).length)->Y.length * k<=(Y.flatMap f).length
 | [],_=>by simp
 | y::Y,h=>by
   rw[YB,Vo,WG,Xa];have:=h y (W7 ..);have:=KO Y λy' hy'=>h y' (Vz _ hy');omega
theorem KP{f:Nat->List Nat}:∀(Y:List Nat),Y.Nodup->(∀ y∈Y,(f y).Nodup)->(∀ y∈Y,∀ z∈Y,∀ c,c∈f y->c∈f z->y=z)->(Y.flatMap f).Nodup
 | [],_,_,_=>by simp
 | y::Y,nd,h1,h2=>by
   obtain⟨n1,n2⟩:=Wo.mp nd;rw[YB,XU];refine⟨h1 y (W7 ..),KP Y n2 (λz hz=>h1 z (Vz _ hz)) (λa ha b hb=>h2 a (Vz _ ha) b (Vz _ hb)),λa ha b hb e=>?_⟩;obtain⟨z,hz,hb⟩:=YK.mp hb;subst e;exact n1 (h2 y (W7 ..) z (Vz _ hz) a ha hb▸hz)
theorem Ra:∀ L:List Nat,∃ Y:List Nat,Y.Nodup/\∀ y,y∈Y↔y∈L
 | []=>⟨[],.nil,λ_=>Iff.rfl⟩
 | a::L=>by
   obtain⟨Y,h1,h2⟩:=Ra L;by_cases m:a∈Y
   ·refine⟨Y,h1,λy=>?_⟩;rw[W5,h2];exact⟨.inr,λz=>z.elim (λe=>e▸(h2 a).mp m) id⟩
   ·refine⟨a::Y,Wo.mpr ⟨m,h1⟩,λy=>?_⟩;rw[W5,W5,h2]
theorem viz{n H p t0 th:Nat}{es:EE}{cs:List Nat}{F:Fan}(hen:∀ e∈es,e.1<e.2/\e.2<n)(hH:H<=1000)(I:FanI es cs p H t0 F)(M:Tt es cs p H F)(no:Tu es cs p H F)(b0:¬ hu cs t0<1000)(hc:∀ y,y<n->t4 es y+th<=H)(hth:∀ e,es.count e<=th)
 (un:∀ x∈F,∀ y∈F,∀ c,c∈frL es cs (farT es p x.1) H->c∈frL es cs (farT es p y.1) H->farT es p x.1=farT es p y.1):False:=by
 obtain⟨Y,ndY,memY'⟩:=Ra (F.map λx=>farT es p x.1);have memY:∀ y,y∈Y↔∃ x∈F,farT es p x.1=y:=λy=>by rw[memY',WC]
 have lenF:F.length<=Y.length * th:=by
  have:=KN (f:=farT es p) (k:=th) Y (F.map (·.1)) (λt ht=>by
   obtain⟨x,hx,rfl⟩:=WC.mp ht;exact(memY _).mpr ⟨x,hx,rfl⟩) (λy hy=>Lm hen hth I.nd λt ht=>by
   obtain⟨x,hx,rfl⟩:=WC.mp ht;exact I.att x hx)
  rwa [Vm]at this
 have lenL:=KO (f:=λy=>frL es cs y H) (k:=th) Y λy hy=>by
  obtain⟨x,hx,rfl⟩:=(memY y).mp hy;have:=Qh (es:=es) (cs:=cs) (farT es p x.1) H;have:=hc _ (D1 hen (I.att x hx)).2;omega
 have ndL:=KP (f:=λy=>frL es cs y H) Y ndY (λy _=>Xt.filter _) λa ha b hb c h1 h2=>by
  obtain⟨x,hx,rfl⟩:=(memY a).mp ha;obtain⟨y,hy,rfl⟩:=(memY b).mp hb;exact un x hx y hy c h1 h2
 have inL:∀ c∈Y.flatMap λy=>frL es cs y H,∃ u,r6 es cs p c=some u/\u∈F.map (·.1)/\u≠t0:=λc hc'=>by
  obtain⟨y,hy,hcy⟩:=YK.mp hc';obtain⟨x,hx,rfl⟩:=(memY y).mp hy;have cH:=(mem_frL.mp hcy).1;cases ht:r6 es cs p c with
  | none=>exact absurd hcy (no x hx c (mem_frL.mpr ⟨cH,AS ht⟩))
  | some u=>
    obtain⟨q1,q2⟩:=p8 ht;refine⟨u,rfl,?_,λz=>by rw[z]at q2;omega⟩;by_cases m:u∈F.map (·.1)
    ·exact m
    ·exact absurd (q2▸hcy) (M u q1 m x hx)
 have nd2:(t0::(Y.flatMap λy=>frL es cs y H).map λc=>(r6 es cs p c).getD 0).Nodup:=by
  rw[Wo];refine⟨λz=>?_,?_⟩
  ·obtain⟨c,hc',e⟩:=WC.mp z;obtain⟨u,u1,_,u3⟩:=inL c hc';rw[u1]at e;exact u3 e
  ·rw[List.Nodup,Y9];refine List.Pairwise.imp_of_mem (λ{a b} ha hb ne e=>ne ?_) ndL;obtain⟨u,u1,_,_⟩:=inL a ha;obtain⟨v,v1,_,_⟩:=inL b hb;rw[u1,v1]at e;have e:u=v:=e;rw[<-(p8 u1).2,<-(p8 v1).2,e]
 have sub:=List.Nodup.length_le_of_subset nd2 (l₂:=F.map (·.1)) λu hu'=>by
  rcases W5.mp hu' with z | z
  ·rw[z];exact WC.mpr ⟨_,Vp I.fst,rfl⟩
  ·obtain⟨c,hc',rfl⟩:=WC.mp z;obtain⟨u,u1,u2,_⟩:=inL c hc';rw[u1];exact u2
 rw[WG,Vm,Vm]at sub;omega
def v5(L:EE)(h:Nat):Option Nat:=(L.find? λq=>decide (q.2=h)).map (·.1)
def shL(es:EE)(cs:List Nat)(p H:Nat)(F:Fan):EE:=F.flatMap λx=>(frL es cs (farT es p x.1) H).map λh=>(farT es p x.1,h)
def y8(es:EE)(cs:List Nat)(p H:Nat)(F:Fan):Option (Nat×Nat):=((shL es cs p H F).find? λq=>!decide (v5 (shL es cs p H F) q.2=some q.1)).bind λq=>(v5 (shL es cs p H F) q.2).map λf=>(q.2,f)
def E9(es:EE)(cs:List Nat)(p H:Nat)(F:Fan)(i:Nat):List Nat:=(frL es cs p H).filter λh=>decide (h∈frL es cs (farT es p (F.getD i (0,none)).1) H)
def u6(es:EE)(cs:List Nat)(p H:Nat)(F:Fan):Option (List Sp3):=(W4 F.length).findSome? λi=>(E9 es cs p H F i).head?.map λh=>An (upF F (i+1) (some i)).reverse h
noncomputable def u9(es:EE)(cs:List Nat)(t H:Nat):List Sp3:=
 match u6 es cs (es.getD t (0,0)).1 H (C4 es cs (es.getD t (0,0)).1 H (es.length+1) [(t,none)]) with
 | some s=>s
 | none=>match y8 es cs (es.getD t (0,0)).1 H (C4 es cs (es.getD t (0,0)).1 H (es.length+1) [(t,none)]) with
   | none=>[]
   | some x => .row x.2 ((frL es cs (es.getD t (0,0)).1 H).headD 0) x.1::(u6 es (st3 es cs (.row x.2 ((frL es cs (es.getD t (0,0)).1 H).headD 0) x.1)) (es.getD t (0,0)).1 H (C4 es cs (es.getD t (0,0)).1 H (es.length+1) [(t,none)])).getD []
section
variable{n H p t0:Nat}{es:EE}{cs ds:List Nat}{F:Fan}
theorem Ap(L M:EE)(h:Nat):v5 (L++M) h=(v5 L h).or (v5 M h):=by
 unfold v5;rw[Y8];cases L.find? λq=>decide (q.2=h)<;>simp
theorem OG{f h:Nat}(l:List Nat):v5 (l.map λh=>(f,h)) h=if h∈l then some f else none:=by
 unfold v5;rw[List.find?_map];by_cases m:h∈l
 ·rw[iP m];cases hf:l.find? ((λq:Nat×Nat=>decide (q.2=h))∘λh=>(f,h)) with
  | none=>
    rw[X4]at hf;exact absurd (decide_eq_true rfl) (hf h m)
  | some x=>rfl
 ·rw[iG m]
  have:l.find? ((λq:Nat×Nat=>decide (q.2=h))∘λh=>(f,h))=none:=by
   rw[X4];intro x hx z;exact m (of_decide_eq_true (show decide (x=h)=true from z)▸hx)
  rw[this];rfl
theorem OH(h:Nat):∀ F:Fan,v5 (shL es cs p H F) h=(F.find? λx=>decide (h∈frL es cs (farT es p x.1) H)).map λx=>farT es p x.1
 | []=>rfl
 | x::F=>by
   show v5 ((frL es cs (farT es p x.1) H).map (λh=>(farT es p x.1,h))++shL es cs p H F) h=_;rw[Ap,OG,OH h F,WU];by_cases m:h∈frL es cs (farT es p x.1) H
   ·rw[iP m,decide_eq_true m];rfl
   ·rw[iG m,decide_eq_false m];rfl
theorem mem_sh{q:Nat×Nat}:q∈shL es cs p H F↔∃ x∈F,farT es p x.1=q.1/\q.2∈frL es cs (farT es p x.1) H:=by
 unfold shL;rw[YK];constructor
 ·rintro⟨x,hx,hq⟩;obtain⟨h,hh,rfl⟩:=WC.mp hq;exact⟨x,hx,rfl,hh⟩
 ·rintro⟨x,hx,e,hh⟩;exact⟨x,hx,WC.mpr ⟨_,hh,by rw[e]⟩⟩
theorem HX{x:Nat×Nat}(h:y8 es cs p H F=some x):∃(k0 u0:Nat) (o0:Option Nat),F[k0]?=some (u0,o0)/\x.1∈frL es cs (farT es p u0) H/\farT es p u0=x.2/\(∀(k u:Nat) (o:Option Nat),k<k0->F[k]?=some (u,o)->x.1∉frL es cs (farT es p u) H)/\∃ z∈F,x.1∈frL es cs (farT es p z.1) H/\farT es p z.1≠farT es p u0:=by
 unfold y8 at h;cases hq:(shL es cs p H F).find? λq=>!decide (v5 (shL es cs p H F) q.2=some q.1) with
 | none=>rw[hq]at h;cases h
 | some q=>
   rw[hq]at h;replace h:(v5 (shL es cs p H F) q.2).map (λf=>(q.2,f))=some x:=h;cases ho:v5 (shL es cs p H F) q.2 with
   | none=>rw[ho]at h;cases h
   | some f=>
     rw[ho]at h;cases h;have nq:=Z8 hq;rw[ho]at nq;have nq:f≠q.1:=by simpa using nq
     obtain⟨z,hz,z1,z2⟩:=mem_sh.mp (Xi hq);rw[OH]at ho;cases hx:F.find? λx=>decide (q.2∈frL es cs (farT es p x.1) H) with
     | none=>rw[hx]at ho;cases ho
     | some x0=>
       rw[hx]at ho;have ef:farT es p x0.1=f:=oj ho;obtain⟨a1,i,il,ei,mn⟩:=List.find?_eq_some_iff_getElem.mp hx;refine⟨i,x0.1,x0.2,by rw[Vr il,ei],of_decide_eq_true a1,ef,λk u o hk e=>?_,z,hz,z2,?_⟩
       ·have:=mn k hk;obtain⟨kl,e⟩:=gM e;rw[e]at this;simpa using this
       ·rw[z1,ef];exact nq.symm
theorem HY(h:y8 es cs p H F=none):∀ x∈F,∀ y∈F,∀ c,c∈frL es cs (farT es p x.1) H->c∈frL es cs (farT es p y.1) H->farT es p x.1=farT es p y.1:=by
 have all:∀ q∈shL es cs p H F,v5 (shL es cs p H F) q.2=some q.1:=λq hq=>by
  unfold y8 at h;cases hf:(shL es cs p H F).find? λq=>!decide (v5 (shL es cs p H F) q.2=some q.1) with
  | none=>
    rw[X4]at hf;simpa using hf q hq
  | some q'=>
    rw[hf]at h;replace h:(v5 (shL es cs p H F) q'.2).map (λf=>(q'.2,f))=none:=h;have m:=Xi hf
    have nn:v5 (shL es cs p H F) q'.2≠none:=λz=>by
     unfold v5 at z;rw[X8,X4]at z;exact z q' m (decide_eq_true rfl)
    cases ho:v5 (shL es cs p H F) q'.2 with
    | none=>exact absurd ho nn
    | some f=>rw[ho]at h;cases h
 intro x hx y hy c h1 h2;have e1:=all (farT es p x.1,c) (mem_sh.mpr ⟨x,hx,rfl,h1⟩);have e2:=all (farT es p y.1,c) (mem_sh.mpr ⟨y,hy,rfl,h2⟩);exact oj (e1.symm.trans e2)
theorem HZ{β:Type}{f:Nat->Option β}{y:β}:∀{m:Nat},(W4 m).findSome? f=some y->∃ i,i<m/\f i=some y/\∀ j,j<i->f j=none
 | 0,h=>by cases h
 | m+1,h=>by
   rw[XQ,List.findSome?_append]at h;cases hm:(W4 m).findSome? f with
   | some z=>
     rw[hm]at h;cases h;obtain⟨i,i1,i2,i3⟩:=HZ hm;exact⟨i,by omega,i2,i3⟩
   | none=>
     rw[hm]at h
     have h:f m=some y:=by
      cases hf:f m with
      | none=>simp[hf]at h
      | some z=>simpa[hf] using h
     rw[X9]at hm;exact⟨m,by omega,h,λj hj=>hm j (WD.mpr hj)⟩
theorem EA{i h:Nat}{x:Nat×Option Nat}(e:F[i]?=some x):h∈E9 es cs p H F i↔h∈frL es cs p H/\h∈frL es cs (farT es p x.1) H:=by
 unfold E9;rw[Wn,dQ,show F.getD i (0,none)=x by rw[Vq,e];rfl]
theorem Br{s:List Sp3}(h:u6 es ds p H F=some s):∃(i:Nat) (x:Nat×Option Nat) (h:Nat),F[i]?=some x/\h∈frL es ds p H/\h∈frL es ds (farT es p x.1) H/\s=An (upF F (i+1) (some i)).reverse h/\∀(i':Nat) (x':Nat×Option Nat),i'<i->F[i']?=some x'->∀ h'∈frL es ds p H,h'∉frL es ds (farT es p x'.1) H:=by
 obtain⟨i,il,e1,e2⟩:=HZ h;have ei:=Vr il;cases hs:(E9 es ds p H F i).head? with
 | none=>rw[hs]at e1;cases e1
 | some h'=>
   rw[hs]at e1;have m:h'∈E9 es ds p H F i:=List.mem_of_head? hs;obtain⟨m1,m2⟩:=(EA ei).mp m;refine⟨i,_,h',ei,m1,m2,(oj e1).symm,λi' x' hi' e' h2 k1 k2=>?_⟩;have:=e2 i' hi';rw[X8,YU]at this;have q:=(EA e').mpr ⟨k1,k2⟩;rw[this]at q;cases q
theorem DA(h:u6 es ds p H F=none):Tu es ds p H F:=by
 unfold u6 at h;rw[X9]at h;intro x hx h1 m1 m2;obtain⟨i,ei⟩:=Wu hx;have:=h i (WD.mpr (gM ei).1);rw[X8,YU]at this;have q:=(EA ei).mpr ⟨m1,m2⟩;rw[this]at q;cases q
theorem EB{th t:Nat}(hen:∀ e∈es,e.1<e.2/\e.2<n)(hH:H<=1000)(g:Hg H es cs)(tl:t<es.length)(b0:¬ hu cs t<1000)(hc:∀ y,y<n->t4 es y+th<=H)(hth:∀ e,es.count e<=th)(hp:p=(es.getD t (0,0)).1)(hF:F=C4 es cs p H (es.length+1) [(t,none)]):
 FanI es cs p H t F/\((∃ s,u6 es cs p H F=some s/\OkR3 n H es cs s/\Lh H es cs (w6 es cs s) t)\/
 (u6 es cs p H F=none/\frL es cs p H≠[]/\∃ x s,y8 es cs p H F=some x/\Ok3 n H es cs (.row x.2 ((frL es cs p H).headD 0) x.1)/\u6 es (st3 es cs (.row x.2 ((frL es cs p H).headD 0) x.1)) p H F=some s/\OkR3 n H es (st3 es cs (.row x.2 ((frL es cs p H).headD 0) x.1)) s/\Lh H es cs (w6 es (st3 es cs (.row x.2 ((frL es cs p H).headD 0) x.1)) s) t)):=by
 obtain⟨e,he⟩:∃ e,es[t]?=some e:=⟨_,Vr tl⟩
 have ge:es.getD t (0,0)=e:=by rw[Vq,he];rfl
 have at0:AtP es t p:=⟨e,he,.inl (by rw[hp,ge])⟩
 have en:=hen e (Vp he);have pn:p<n:=by rw[hp,ge];omega
 obtain⟨I,M⟩:=Ft (es:=es) (cs:=cs) (p:=p) (H:=H) (t0:=t) (es.length+1) [(t,none)] (FanI.one at0) (by show es.length<1+(es.length+1);omega);rw[<-hF]at I M;have bare:=g.bare tl b0 hH;refine⟨I,?_⟩
 have lnk:∀ m,Lnk es cs p H F m:=λm i t' b u q hi e1 e2=>by
  have i0:0<i:=Xn λz=>by rw[z,I.fst]at e1;cases e1
  obtain⟨b2,u2,q2,e3,k1,k2,k3,k4⟩:=I.bk i t' _ i0 e1;cases e3;rw[e2]at k2;cases k2;exact k3
 cases ht:u6 es cs p H F with
 | some s=>
   obtain⟨i,x,h,e1,m1,m2,rfl,_⟩:=Br ht;exact .inl ⟨_,rfl,F4 hen hH I g bare e1 (lnk i) m1 m2⟩
 | none=>
   have no:=DA ht;have nn:=Qc (p:=p) hH at0 b0 (by have:=hc p pn;omega);refine .inr ⟨rfl,nn,?_⟩;cases hs:y8 es cs p H F with
   | none=>exact(viz hen hH I M no b0 hc hth (HY hs)).elim
   | some x=>
     obtain⟨k0,u0,o0,h0,c0,ef,mn,z,hz,cz,zf⟩:=HX hs;obtain⟨ok,⟨i,y,h,q1,q2,q3⟩,L⟩:=Qg hen hH g I no (O6 nn) h0 c0 mn hz cz zf;rw[ef]at ok q2 q3 L;have g1:=BT g hen hH ok
     have hr:∀ u,u<es.length->(hu (st3 es cs (.row x.2 ((frL es cs p H).headD 0) x.1)) u<H↔hu cs u<H)/\(¬ hu cs u<1000->hu (st3 es cs (.row x.2 ((frL es cs p H).headD 0) x.1)) u=hu cs u):=λu ul=>by
      obtain⟨aH,bH,ab,_,fb⟩:=ok;obtain⟨x',o1,o2,R,last⟩:=Cd g.P hen ab fb;show(hu (exL cs _ _ _) u<H↔_)/\(_->hu (exL cs _ _ _) u=_);rw[Fs g ul];by_cases m:u∈rwF es cs (es.length+1) x.2 ((frL es cs p H).headD 0) x.1
      ·rw[iP m];have tw:=Ce R u m;have lt:hu cs u<H:=by rcases tw with y | y<;>rw[y]<;>assumption
       refine⟨⟨λ_=>lt,λ_=>by split<;>assumption⟩,λz=>by omega⟩
      ·rw[iG m];exact⟨Iff.rfl,λ_=>rfl⟩
     have bare1:hu (st3 es cs (.row x.2 ((frL es cs p H).headD 0) x.1)) t=1000+t:=((hr t tl).2 b0).trans bare;cases ht1:u6 es (st3 es cs (.row x.2 ((frL es cs p H).headD 0) x.1)) p H F with
     | none=>exact absurd q3 (DA ht1 y (Vp q1) h q2)
     | some s=>
       obtain⟨i2,x2,h2,e1,m1,m2,rfl,mn2⟩:=Br ht1;obtain⟨r1,r2,r3⟩:=F4 hen hH I g1 bare1 e1 (L i2 x2 h2 e1 m1 m2 mn2) m1 m2;refine⟨x,_,rfl,ok,ht1,r1,r2,λu ul ne=>?_⟩;rw[r3 u ul ne];exact(hr u ul).1
theorem C0{th t:Nat}(hen:∀ e∈es,e.1<e.2/\e.2<n)(hH:H<=1000)(g:Hg H es cs)(tl:t<es.length)(b0:¬ hu cs t<1000)(hc:∀ y,y<n->t4 es y+th<=H)(hth:∀ e,es.count e<=th):OkR3 n H es cs (u9 es cs t H)/\Lh H es cs (w6 es cs (u9 es cs t H)) t:=by
 obtain⟨_,k⟩:=EB hen hH g tl b0 hc hth rfl rfl;unfold u9;rcases k with⟨s,e,r⟩ | ⟨e,_,x,s,e1,ok,e2,r1,r2⟩
 ·rw[e];exact r
 ·rw[e];dsimp only;rw[e1];dsimp only;rw[e2];exact⟨⟨ok,r1⟩,r2⟩
end
def w9:Sp3->SV
 | .hue t h => .tup [.str "hue",.int (t:Nat),.int (h:Nat)]
 | .move t u => .tup [.str "move",.int (t:Nat),.int (u:Nat)]
 | .row p a b => .tup [.str "row",.int (p:Nat),.int (a:Nat),.int (b:Nat)]
def IsTh(es:EE)(m:Nat):Prop:=(∀ e,es.count e<=m)/\(m=0\/∃ e,e∈es/\es.count e=m)
theorem IsTh.uniq{es:EE}{m k:Nat}(a:IsTh es m)(b:IsTh es k):m=k:=by
 have le:∀{m k:Nat},IsTh es m->IsTh es k->m<=k:=λ{m k} a b=>by
  rcases a.2 with z | ⟨e,_,z⟩
  ·omega
  ·rw[<-z];exact b.1 e
 exact Nat.le_antisymm (le a b) (le b a)
theorem Qi{es:EE}{m:Nat}(h:IsTh es m):m<=es.length:=by
 rcases h.2 with z | ⟨e,_,z⟩
 ·omega
 ·rw[<-z];exact List.count_le_length
theorem Qj{es ks:EE}{m:Nat}(mem:∀ e,e∈ks↔e∈es)(h:Grt (ks.map λe=>((es.count e:Nat):Int)) (m:Int)):IsTh es m:=by
 obtain⟨h1,h2⟩:=h;obtain⟨e,he,ee⟩:=WC.mp h1;refine⟨λe'=>?_,.inr ⟨e,(mem e).mp he,by omega⟩⟩;by_cases z:e'∈es
 ·have:=h2 _ (WC.mpr ⟨e',(mem e').mpr z,rfl⟩);omega
 ·rw[Y1.mpr z];omega
theorem OI:IsTh [] 0:=⟨λe=>by simp,.inl rfl⟩
section
variable{Δ:Nat->Sn}
def AX(s:Sn)(args:Nat->Nat->Nat->List SV):Prop:=∀{n H p a b:Nat} {w:SV} {es:EE} {cs:List Nat} {S:Sto} {Q:QE},Hg H es cs->(∀ e∈es,e.1<e.2/\e.2<n)->es.length<=60->H<=1000->Ok3 n H es cs (.row p a b)->Hv S w cs->(∀(l:Nat) (S':Sto),Gw S S'->S.length<=l->S'[l]?=some (.lst (f9 (st3 es cs (.row p a b))))->Q (.loc l) S')->s (i8 n es::w::args p a b) S Q
theorem OJ{kh kr kx:Nat}(hh:Nx (Δ kh))(hr:Cz (Δ kr))(hx:Fq (Δ kx)){D:Df}(hb:D.body=RT kh kr kx)(hN:D.N.length=5)(hp:D.ps.length=5):AX (g9 Δ D) λp a b=>[.int (p:Nat),.int (a:Nat),.int (b:Nat)]:=by
 intro n H p a b w es cs S Q g hen el hH ok hk q;have ok':=ok;obtain⟨a1,b1,ab,pn,no⟩:=ok;obtain⟨x,o1,o2,R,last⟩:=Cd g.P hen ab no;have rl:=R.len;unfold g9;rw[hb,hN];have gd:∀ c:Nat,c<H->Gd (VS S) 0 10 (.int (c:Nat)):=λc hc => .int ⟨by omega,by omega⟩;have i0:∀ c:Nat,QY (.int (c:Nat))=true:=λc=>(show decide ((0:Int)<=((c:Nat):Int))=true from decide_eq_true (by omega))
 refine⟨hp.symm,_,rfl,hh (gd _ a1) ⟨_,rfl,?_⟩⟩;rw[i0];refine ifF rfl ⟨_,rfl,hh (gd _ b1) ⟨_,rfl,?_⟩⟩;rw[i0];refine ifF rfl (f7 ?_);refine⟨_,rfl,_,rfl,_,rfl,_,rfl,_,rfl,_,rfl,_,rfl,hr hk (by omega) (by omega) g.P hen (by omega) pn ab no λl S1 G1 l1 h1=>⟨_,rfl,_,rfl,?_⟩⟩;exact hx (hk.gw G1) (by omega) (by omega) h1 g.P.len hen el ab R.lt (Ce R) (by omega) (BT g hen hH ok').P λl' S2 G2 l2 h2=>q l' S2 (G1.trans G2) (WH G1.len l2) h2
theorem F5{kh kd km kr:Nat}(hr:AX (Δ kr) λp a b=>[.int (p:Nat),.int (a:Nat),.int (b:Nat)]){D:Df}(hb:D.body=J3 kh kd km kr)(hN:D.N.length=4)(hp:D.ps.length=3):AX (g9 Δ D) λp a b=>[w9 (.row p a b)]:=by
 intro n H p a b w es cs S Q g hen el hH ok hk q;unfold g9;rw[hb,hN];have no:∀ w:Str,w≠"row"->decide (("row":Str)=w)=false:=λw h=>decide_eq_false λz=>h z.symm;refine⟨hp.symm,_,rfl,_,nofun,rfl,_,rfl,ifF rfl ⟨_,rfl,true,rfl,ifF rfl (f7 ?_)⟩⟩;refine⟨_,rfl,_,_,rfl,rfl,?_⟩;refine⟨_,rfl,_,rfl,ifF (no "hue" (by decide)) (ifF rfl (f7 ?_))⟩;refine⟨_,rfl,_,rfl,ifF (no "drop" (by decide)) (ifF rfl (f7 ?_))⟩;refine⟨_,rfl,_,rfl,ifF (no "move" (by decide)) (ifF rfl (f7 ?_))⟩;refine⟨_,rfl,_,rfl,ifT (decide_eq_true rfl) ⟨_,rfl,_,rfl,_,rfl,ifT rfl ?_⟩⟩;exact⟨_,rfl,_,rfl,_,rfl,_,_,rfl,rfl,_,rfl,_,_,rfl,rfl,_,rfl,_,_,rfl,rfl,hr g hen el hH ok hk q⟩
theorem OK{ka:Nat}(ha:AX (Δ ka) λp a b=>[w9 (.row p a b)]){D:Df}(hb:D.body=RU ka)(hN:D.N.length=4)(hp:D.ps.length=3):AX (g9 Δ D) λp a b=>[w9 (.row p a b)]:=by
 intro n H p a b w es cs S Q g hen el hH ok hk q;unfold g9;rw[hb,hN];refine⟨hp.symm,_,rfl,_,rfl,_,rfl,ha g hen el hH ok hk λl S' G' l' h'=>?_⟩;exact⟨_,rfl,.inl ⟨rfl,_,rfl,ifF rfl (f7 ⟨_,rfl,q l S' G' l' h'⟩)⟩⟩
def OL:List Stm:=[(.asg (.nm 1) .dnewl),(.loop (.nm 2) (.seq (.ix (.var 0) (.c (.int 1)))) [(.dputl (.var 1) (.var 2) (.op .Add (.dget2l (.var 1) (.var 2) (.c (.int 0))) (.c (.int 1))))]),(.ret (.maxd (.dvalsl (.var 1)) (.c (.int 0))))]
def Cf(s:Sn):Prop:=∀{n:Nat} {es:EE} {S:Sto} {Q:QE},es.length<=1000->(∀(m:Nat) (S':Sto),IsTh es m->Gw S S'->Q (.int (m:Nat)) S')->s [i8 n es] S Q
def C5(e:Nat×Nat):List Int:=[(e.1:Int),(e.2:Int)]
theorem EC{a b:Nat×Nat}(h:C5 a=C5 b):a=b:=by
 unfold C5 at h;injection h with h1 h2;injection h2 with h2 _;exact Prod.ext (WW.mp h1) (WW.mp h2)
def CM(es ks:EE):List (List Int×SV):=ks.map λe=>(C5 e,SV.int ((es.count e:Nat):Int))
theorem Ha{es:EE}(e:Nat×Nat):∀ ks:EE,Dm (CM es ks) (C5 e)=if e∈ks then some (SV.int ((es.count e:Nat):Int)) else none
 | []=>rfl
 | k::ks=>by
   unfold CM Dm;rw[WX,WU];by_cases z:k=e
   ·subst z;rw[decide_eq_true rfl,iP (W7 ..)];rfl
   ·rw[decide_eq_false (λy=>z (EC y))];have:=Ha (es:=es) e ks;unfold CM Dm at this;dsimp only;rw[this];by_cases m:e∈ks
    ·rw[iP m,iP (Vz _ m)]
    ·rw[iG m,iG (λy=>(W5.mp y).elim (λq=>z q.symm) m)]
theorem Qk{es:EE}(e:Nat×Nat)(ks:EE):(CM es ks).any (λp=>decide (p.1=C5 e))=decide (e∈ks):=by
 unfold CM;rw[Xq,Wd,XE,dQ];constructor
 ·rintro⟨x,hx,z⟩;exact EC (of_decide_eq_true z)▸hx
 ·exact λh=>⟨e,h,decide_eq_true rfl⟩
theorem Ql{es:EE}{e:Nat×Nat}{ks:EE}(mem:∀ e,e∈ks↔e∈es):Ek (CM es ks) (C5 e) (.int (((es.count e:Nat):Int)+1))=CM (es++[e]) (if e∈ks then ks else ks++[e]):=by
 have c1:∀ k,(es++[e]).count k=es.count k+if k=e then 1 else 0:=λk=>by
  rw[List.count_append,List.count_singleton];by_cases z:k=e
  ·subst z;simp
  ·rw[iG z,iG (by simpa using λy=>z y.symm)]
 unfold Ek;rw[Qk];by_cases m:e∈ks
 ·rw[iP (decide_eq_true m),iP m];unfold CM;rw[Xh];refine Xl λk _=>?_;show(if C5 k=C5 e then (C5 k,_) else (C5 k,_))=_;rw[c1];by_cases z:k=e
  ·subst z;rw[iP rfl,iP rfl];rfl
  ·rw[iG (λy=>z (EC y)),iG z];rfl
 ·rw[iG (by simpa using m),iG m];unfold CM;rw[WB]
  congr 1
  ·refine Xl λk hk=>?_;rw[c1,iG (show ¬ k=e from λz=>m (z▸hk))];rfl
  ·show[(C5 e,SV.int (((es.count e:Nat):Int)+1))]=[(C5 e,SV.int (((es++[e]).count e:Nat):Int))]
   rw[c1,iP rfl];rfl
theorem OM(hΔ:∀ f,MonoN (Δ f)){D:Df}(hb:D.body=OL)(hN:D.N.length=3)(hp:D.ps.length=1):Cf (g9 Δ D):=by
 intro n es S Q el q;unfold g9;rw[hb,hN];have G0:Gw S (S++[SO.dtl []]):=(Gw.refl S).push;refine⟨hp.symm,_,rfl,_,_,rfl,rfl,_,rfl,?_⟩;refine AN (j5 hΔ _) (λi ρ S'=>∃(ks:EE) (o2:Option SV),ρ=[some (i8 n es),some (.loc S.length),o2]/\Gw S S'/\S'[S.length]?=some (.dtl (CM (es.take i) ks))/\ks.length<=i/\∀ e,e∈ks↔e∈es.take i) ⟨[],none,rfl,G0,f8,Vt _,λe=>by simp⟩ (λ_ _ _ _=>trivial) ?_ ?_
 ·rintro i x ρ S' hx ⟨ks,o2,rfl,G,h1,kl,mem⟩;obtain⟨e,he,rfl⟩:=AO hx;have il:=(gM he).1;have tk:es.take (i+1)=es.take i++[e]:=by rw[WZ,he];rfl
  refine⟨_,rfl,_,_,rfl,h1,_,rfl,C5 e,_,rfl,h1,?_⟩
  rw[show(Dm (CM (es.take i) ks) (C5 e)).getD (SV.int 0)=SV.int (((es.take i).count e:Nat):Int) by
   rw[Ha];by_cases m:e∈ks
   ·rw[iP m];rfl
   ·rw[iG m,Y1.mpr (λz=>m ((mem e).mpr z))];rfl]
  refine⟨_,rfl,_,rfl,S.length,C5 e,_,rfl,rfl,h1,by unfold CM;rw[Vm];show _<100000;omega,if e∈ks then ks else ks++[e],_,rfl,G.put (Vt _),?_,?_,λe'=>?_⟩
  ·rw[n9 h1,tk,<-Ql mem]
  ·split
   ·omega
   ·rw[Vo];simp;omega
  ·rw[tk,WM,W8,<-mem];split
   ·next m=>exact⟨.inl,λz=>z.elim id λy=>y▸m⟩
   ·rw[WM,W8]
 ·rintro ρ S' ⟨ks,o2,rfl,G,h1,kl,mem⟩;rw[Vm,WV]at h1 mem
  have hv:(S'++[SO.lst ((CM es ks).map (·.2))])[S'.length]?=some (SO.lst ((ks.map λe=>((es.count e:Nat):Int)).map SV.int)):=by
   rw[f8];unfold CM;rw[Xh,Xh];rfl
  refine⟨_,rfl,_,_,rfl,h1,S'.length,_,0,rfl,rfl,hv,λz=>?_,λm g=>?_⟩
  ·have kn:ks=[]:=by simpa using z
   have en:es=[]:=by
    cases es with
    | nil=>rfl
    | cons e es=>
      have:=(mem e).mpr (W7 ..);rw[kn]at this;cases this
   exact q 0 _ (by rw[en];exact OI) G.push
  ·obtain⟨e,he,ee⟩:=WC.mp g.1
   have key:∀ z:Nat,m=(z:Int)->Q (.int m) (S'++[SO.lst ((CM es ks).map (·.2))]):=λz e=>by
    rw[e]at g ⊢;exact q z _ (Qj mem g) G.push
   exact key _ ee.symm
def KQ(km kt:Nat):List Stm:=[(.ret (.op .Add (.call km (.cons (.var 0) .nil)) (.call kt (.cons (.var 0) .nil))))]
def ED(s:Sn):Prop:=∀{n:Nat} {es:EE} {S:Sto} {Q:QE},(∀ e∈es,e.1<e.2/\e.2<n)->n<=1000->es.length<=1000->(∀(m:Nat) (S':Sto),IsTh es m->Gw S S'->Q (.int ((v8 es n+m:Nat):Int)) S')->s [i8 n es] S Q
theorem Ln{km kt:Nat}(hm:Iz (Δ km))(ht:Cf (Δ kt)){D:Df}(hb:D.body=KQ km kt)(hN:D.N.length=1)(hp:D.ps.length=1):ED (g9 Δ D):=by
 intro n es S Q hen nn el q;unfold g9;rw[hb,hN];refine⟨hp.symm,_,rfl,hm hen nn λS1 G1=>⟨_,rfl,ht el λm S2 h2 G2=>?_⟩⟩;have:=q m S2 h2 (G1.trans G2);rw[Int.natCast_add]at this;exact this
def Rb(ke:Nat):List Stm:=[(.iff (.cmp .Lt (.var 1) (.call ke (.cons (.var 0) .nil))) [.no] [])]
def Fu(s:Sn):Prop:=∀{n H m:Nat} {es:EE} {S:Sto} {Q:QE},(∀ e∈es,e.1<e.2/\e.2<n)->n<=1000->es.length<=1000->IsTh es m->v8 es n+m<=H->(∀ S',Gw S S'->Q .non S')->s [i8 n es,.int (H:Nat)] S Q
theorem Qm{ke:Nat}(he:ED (Δ ke)){D:Df}(hb:D.body=Rb ke)(hN:D.N.length=2)(hp:D.ps.length=2):Fu (g9 Δ D):=by
 intro n H m es S Q hen nn el hm hH q;unfold g9;rw[hb,hN];refine⟨hp.symm,_,rfl,_,rfl,he hen nn el λm' S1 h1 G1=>⟨_,rfl,ifF (decide_eq_false ?_) (q S1 G1)⟩⟩;have:=h1.uniq hm;omega
end
def A7(x:Nat×Option Nat):SV := .tup [.int (x.1:Nat),HS x.2]
def ON:Option (Nat×Option Nat)->SV
 | none => .non
 | some x=>A7 x
def pnd(r:Option (Nat×Nat)):Option (Nat×Option Nat):=r.map λx=>(x.1,some x.2)
theorem Fv{F:Fan}{i:Nat}{x:SV}(h:(F.map A7)[i]?=some x):∃ y,F[i]?=some y/\x=A7 y:=by
 rw[Vu]at h;cases he:F[i]? with
 | none=>rw[he]at h;cases h
 | some e=>rw[he]at h;exact⟨e,rfl,(oj h).symm⟩
theorem DR{F:Fan}{i:Nat}{y:Nat×Option Nat}(h:F[i]?=some y):(F.map A7)[i]?=some (A7 y):=by rw[Vu,h];rfl
theorem VR{c:Nat}{L:List Nat}(h:∀ x∈L,x<1000):inS (pS c) (i7 L)=decide (c∈L):=by
 by_cases z:c<1000
 ·rw[p6 z];exact Fk c L
 ·rw[w5 z,decide_eq_false (λm=>z (h c m))];unfold inS i7;rw[Xq,Y5];intro x _ q;cases q
theorem Rc(c:Nat):AG (pS c)=true:=by
 by_cases z:c<1000
 ·rw[p6 z];rfl
 ·rw[w5 z];rfl
theorem Tv{es:EE}{cs:List Nat}{p H:Nat}(hH:H<=1000):∀ x∈frL es cs p H,x<1000:=λx hx=>by have:=(mem_frL.mp hx).1;omega
section
variable{Δ:Nat->Sn}
def nf1:Stm:=(.asg (.nm 4) (.comp ["tie","back"] [] [] (.tup (.cons (.nm 0) (.cons (.nm 1) .nil))) (.seq (.var 1)) .no (.var 0)))
def nfI:List Stm:=[(.iff (.cmp .In (.ix (.var 0) (.var 5)) (.var 7)) [(.ret (.tup (.cons (.var 5) (.cons (.var 6) .nil))))] [])]
def nfO:List Stm:=[(.iff (.cmp .NotIn (.var 5) (.var 4)) [(.loop (.tup (.cons (.nm 6) (.cons (.nm 7) .nil))) (.enum (.var 3)) nfI)] [])]
def Re:List Stm:=[nf1,(.loop (.nm 5) (.seq (.var 2)) nfO),(.ret (.c .non))]
def FrA(S:Sto)(es:EE)(cs:List Nat)(p H:Nat)(F:Fan)(ls:List Nat):Prop:=ls.length=F.length/\∀(i l:Nat) (x:Nat×Option Nat),ls[i]?=some l->F[i]?=some x->S[l]?=some (.lst (i7 (frL es cs (farT es p x.1) H)))
theorem FrA.gw{S S':Sto}{es:EE}{cs:List Nat}{p H:Nat}{F:Fan}{ls:List Nat}(h:FrA S es cs p H F ls)(G:Gw S S'):FrA S' es cs p H F ls:=⟨h.1,λi l x a b=>G.keep _ _ (h.2 i l x a b)⟩
def J7(s:Sn):Prop:=∀{p H kf ka kr:Nat} {w:SV} {es:EE} {cs ls:List Nat} {F:Fan} {S:Sto} {Q:QE},Hv S w cs->cs.length=es.length->es.length<=60->H<=1000->S[kf]?=some (.lst (F.map A7))->F.length<=60->S[ka]?=some (.lst (i7 (i9 es p es.length)))->S[kr]?=some (.lst (ls.map SV.loc))->FrA S es cs p H F ls->(∀ S',Gw S S'->Q (ON (pnd (BE es cs p H F))) S')->s [w,.loc kf,.loc ka,.loc kr] S Q
theorem Qn(hΔ:∀ f,MonoN (Δ f)){D:Df}(hb:D.body=Re)(hN:D.N.length=8)(hp:D.ps.length=4):J7 (g9 Δ D):=by
 intro p H kf ka kr w es cs ls F S Q hw cl el hH hF fl ha hr A q;unfold g9;rw[hb,hN];refine⟨hp.symm,_,rfl,_,f6 hF,?_⟩;refine m7 (p4 hΔ _).2 (c9 hΔ _).1 (λj ys S2=>S2=S/\ys=i7 ((F.map (·.1)).take j)) ⟨rfl,rfl⟩ (λ_ _ _ z=>by rw[z.1];exact rfl) ?_ ?_
 ·rintro j x ys S2 hx ⟨rfl,rfl⟩;obtain⟨y,hy,rfl⟩:=Fv hx;have jl:=(gM hy).1;refine⟨_,rfl,by rw[n6,Wp,Vm];show _<100000;omega,rfl,?_⟩;rw[WZ,Vu,hy,AB];rfl
 rintro ys S2 ⟨rfl,rfl⟩;rw[Vm,show(F.map (·.1)).take F.length=F.map (·.1) by rw[<-Vm (f:=(·.1)),WV]];have G1:Gw S2 (S2++[SO.lst (i7 (F.map (·.1)))]):=(Gw.refl S2).push;have h4:(S2++[SO.lst (i7 (F.map (·.1)))])[S2.length]?=some (SO.lst (i7 (F.map (·.1)))):=f8;have hw1:=hw.gw G1;have ha1:=G1.keep _ _ ha;have hr1:=G1.keep _ _ hr;have A1:=A.gw G1;show wSs Δ [(.loop (.nm 5) (.seq (.var 2)) nfO),(.ret (.c .non))] (B3 Q) [some w,some (.loc kf),some (.loc ka),some (.loc kr),some (.loc S2.length),none,none,none] (S2++[SO.lst (i7 (F.map (·.1)))]);generalize S2++[SO.lst (i7 (F.map (·.1)))]=S1 at *;generalize S2.length=k4 at *;refine⟨_,rfl,_,f6 ha1,?_⟩;refine t7 (j5 hΔ _) (λj ρ S3=>S3=S1/\(∃ o5 o6 o7:Option SV,ρ=[some w,some (.loc kf),some (.loc ka),some (.loc kr),some (.loc k4),o5,o6,o7])/\∀ u∈(i9 es p es.length).take j,(if u∈F.map (·.1) then none else (Ao cs u (frs es cs p H F)).map λb=>(u,b))=none) ⟨rfl,⟨none,none,none,rfl⟩,λu hu'=>by simp at hu'⟩ (λ_ _ _ z=>by rw[z.1];exact rfl) ?_ ?_
 ·rintro j x ρ S3 E hE hR hx ⟨rfl,⟨o5,o6,o7,rfl⟩,no⟩;obtain⟨t,htj,rfl⟩:=BQ hx;have tl:t<es.length:=let ⟨e,he,_⟩:=mem_tiesAt.mp (Vp htj);(gM he).1
  have hc:=u7 (cs:=cs) (t:=t) (by omega)
  have nx:(if t∈F.map (·.1) then none else (Ao cs t (frs es cs p H F)).map λb=>(t,b))=none->∀ u∈(i9 es p es.length).take (j+1),(if u∈F.map (·.1) then none else (Ao cs u (frs es cs p H F)).map λb=>(u,b))=none:=λz u hu'=>by
   rw[WZ,htj]at hu';rcases WM.mp hu' with y | y
   ·exact no u y
   ·have:u=t:=by simpa using y
    rw[this];exact z
  refine⟨_,rfl,_,rfl,?_⟩;show match BU (.loc k4) S3 with | some ms=>_ | none=>_
  rw[Ak h4];refine⟨rfl,_,f6 h4,By _,_,rfl,?_⟩;show if (!inS (.int (t:Nat)) (i7 (F.map (·.1))))=true then _ else _
  rw[Fk];by_cases m:t∈F.map (·.1)
  ·rw[decide_eq_true m];exact ifF rfl (f7 (hE _ _ ⟨rfl,⟨_,_,_,rfl⟩,nx (iP m)⟩))
  ·rw[decide_eq_false m];refine ifT rfl ⟨_,rfl,_,f6 hr1,?_⟩;rw[iG m]at nx;refine t7 (j5 hΔ _) (λj2 ρ S4=>S4=S3/\(∃ o6 o7:Option SV,ρ=[some w,some (.loc kf),some (.loc ka),some (.loc kr),some (.loc k4),some (.int (t:Nat)),o6,o7])/\∀ l∈(frs es cs p H F).take j2,decide (hu cs t∈l)=false) ⟨rfl,⟨_,_,rfl⟩,λu hu'=>by simp at hu'⟩ (λ_ _ _ z=>by rw[z.1];exact rfl) ?_ ?_
   ·rintro j2 x2 ρ2 S4 E2 hE2 hR2 hx2 ⟨rfl,⟨o6,o7,rfl⟩,no2⟩;obtain⟨y2,hy2,rfl⟩:=B4 hx2;rw[Vu]at hy2;cases hl:ls[j2]? with
    | none=>rw[hl]at hy2;cases hy2
    | some l=>
      rw[hl]at hy2;cases hy2;have jl:=(gM hl).1;have hFj:=Vr (show j2<F.length by rw[<-A1.1];exact jl);have hl':=A1.2 j2 l _ hl hFj;refine⟨_,rfl,_,rfl,_,_,hw1.seq,i6 (p9 hc),_,rfl,?_⟩;show match BU (.loc l) S4 with | some ms=>_ | none=>_
      rw[Ak hl'];refine⟨Rc _,_,f6 hl',By _,_,rfl,?_⟩;show if inS (pS (hu cs t)) (i7 (frL es cs (farT es p (F[j2]'(by rw[<-A1.1];exact jl)).1) H))=true then _ else _
      rw[VR (Tv hH)];have ef:(frs es cs p H F)[j2]?=some (frL es cs (farT es p (F[j2]'(by rw[<-A1.1];exact jl)).1) H):=by unfold frs;rw[Vu,hFj];rfl
      refine ifD (λz=>?_) (λz=>f7 (hE2 _ _ ⟨rfl,⟨_,_,rfl⟩,λl' hl2=>?_⟩))
      ·refine⟨_,rfl,_,rfl,by show 2<=100000;decide,hR2 _ _ (hR _ _ ?_)⟩
       have e1:Ao cs t (frs es cs p H F)=some j2:=by
        unfold Ao;refine Xp.mpr ⟨(gM ef).1,?_,λk hk z2=>?_⟩
        ·rw[(gM ef).2];exact decide_eq_true z
        ·have kl:k<(frs es cs p H F).length:=by have:=(gM ef).1;omega
         have:=no2 (frs es cs p H F)[k] (List.mem_take_iff_getElem.mpr ⟨k,by omega,rfl⟩);rw[this]at z2;cases z2
       have e2:BE es cs p H F=some (t,j2):=OF htj (by rw[iG m,e1];rfl) no;have:=q S4 G1;rw[e2]at this;exact this
      ·rw[WZ,ef]at hl2;rcases WM.mp hl2 with y | y
       ·exact no2 l' y
       ·have:l'=frL es cs (farT es p (F[j2]'(by rw[<-A1.1];exact jl)).1) H:=by simpa using y
        rw[this];exact decide_eq_false z
   ·rintro ρ2 S4 ⟨rfl,⟨o6,o7,rfl⟩,no2⟩;refine hE _ _ ⟨rfl,⟨_,_,_,rfl⟩,nx ?_⟩;rw[BP,Vm,A1.1,show(frs es cs p H F).take F.length=frs es cs p H F by rw[<-Vm (f:=λx:Nat×Option Nat=>frL es cs (farT es p x.1) H) (as:=F)];exact WV]at no2
    have:Ao cs t (frs es cs p H F)=none:=by
     unfold Ao;rw[Y3];exact no2
    rw[this];rfl
 ·rintro ρ S3 ⟨rfl,⟨o5,o6,o7,rfl⟩,no⟩;rw[n6,WV]at no
  have e:BE es cs p H F=none:=by
   unfold BE;rw[X9];exact no
  have:=q S3 G1;rw[e]at this;exact this
def fo1(kf:Nat):List Stm:=[(.expr (.call kf (.cons (.var 0) (.cons (.var 2) (.cons (.var 3) .nil))))),(.iff (.cmp .IsNot (.ix (.var 1) (.var 2)) (.c .non)) [.no] [])]
def fo2(kt:Nat):List Stm:=[(.asg (.nm 5) (.call kt (.cons (.var 0) (.cons (.var 3) .nil)))),(.asg (.nm 6) (.lst .nil)),(.asg (.nm 7) (.lst .nil)),(.asg (.nm 8) (.tup (.cons (.var 2) (.cons (.c .non) .nil))))]
def foW(kf kr kn:Nat):List Stm:=[(.expr (.mt .append (.var 6) (.cons (.var 8) .nil))),(.asg (.nm 9) (.call kf (.cons (.var 0) (.cons (.ix (.var 8) (.c (.int 0))) (.cons (.var 3) .nil))))),(.expr (.mt .append (.var 7) (.cons (.call kr (.cons (.var 0) (.cons (.var 1) (.cons (.var 9) (.cons (.var 4) .nil))))) .nil))),(.asg (.nm 8) (.call kn (.cons (.var 1) (.cons (.var 6) (.cons (.var 5) (.cons (.var 7) .nil))))))]
def OO(kf kt kr kn:Nat):List Stm:=fo1 kf++(fo2 kt++[(.whl (.cmp .IsNot (.var 8) (.c .non)) (foW kf kr kn)),(.ret (.var 6))])
def OP(s:Sn):Prop:=∀{n H p t:Nat} {w:SV} {es:EE} {cs:List Nat} {S:Sto} {Q:QE},Hv S w cs->cs.length=es.length->(∀ e∈es,e.1<e.2/\e.2<n)->es.length<=60->H<=1000->AtP es t p->¬ hu cs t<1000->(∀(l:Nat) (S':Sto),Gw S S'->S'[l]?=some (.lst ((C4 es cs p H (es.length+1) [(t,none)]).map A7))->Q (.loc l) S')->s [i8 n es,w,.int (t:Nat),.int (p:Nat),.int (H:Nat)] S Q
theorem Tw(hΔ:∀ f,MonoN (Δ f)){kf kt kr kn:Nat}(hf:BD (Δ kf))(ht:Bn (Δ kt))(hr:Bz (Δ kr))(hn:J7 (Δ kn)){D:Df}(hb:D.body=OO kf kt kr kn)(hN:D.N.length=10)(hp:D.ps.length=5):OP (g9 Δ D):=by
 intro n H p t w es cs S Q hw cl hen el hH atp b0 q;obtain⟨e,he,hep⟩:=atp;have atp:AtP es t p:=⟨e,he,hep⟩
 have tl:=atp.lt;have pn:p<n:=by have:=hen e (Vp he);omega
 have hc:=u7 (cs:=cs) (t:=t) (by omega);have hcp:(f9 cs)[t]?=some .non:=by rw[p9 hc,w5 b0]
 unfold g9;rw[hb,hN];refine⟨hp.symm,_,rfl,_,rfl,_,rfl,hf he (hep.imp Eq.symm Eq.symm) ?_⟩;refine⟨_,rfl,_,rfl,_,_,hw.seq,i6 hcp,.inl ⟨rfl,_,rfl,ifF rfl (f7 ?_)⟩⟩;refine⟨_,rfl,_,rfl,ht (by omega) pn ?_⟩;refine⟨by show 0<=100000;decide,by show 0<=100000;decide,_,rfl,by show 2<=100000;decide,?_⟩;have G0:Gw S (S++[SO.lst (i7 (i9 es p es.length))]++[SO.lst []]++[SO.lst []]):=(Gw.refl S).push.push.push;have c5:(S++[SO.lst (i7 (i9 es p es.length))]++[SO.lst []]++[SO.lst []])[S.length]?=some (SO.lst (i7 (i9 es p es.length))):=j7 (j7 f8);have e6:(S++[SO.lst (i7 (i9 es p es.length))]).length=S.length+1:=by simp
 have e7:(S++[SO.lst (i7 (i9 es p es.length))]++[SO.lst []]).length=S.length+2:=by simp
 have c6:(S++[SO.lst (i7 (i9 es p es.length))]++[SO.lst []]++[SO.lst []])[S.length+1]?=some (SO.lst []):=by rw[<-e6];exact j7 f8
 have c7:(S++[SO.lst (i7 (i9 es p es.length))]++[SO.lst []]++[SO.lst []])[S.length+2]?=some (SO.lst []):=by rw[<-e7];exact f8
 show wSs Δ [(.whl (.cmp .IsNot (.var 8) (.c .non)) (foW kf kr kn)),(.ret (.var 6))] (B3 Q) [some (i8 n es),some w,some (.int (t:Nat)),some (.int (p:Nat)),some (.int (H:Nat)),some (.loc S.length),some (.loc (S++[SO.lst (i7 (i9 es p es.length))]).length),some (.loc (S++[SO.lst (i7 (i9 es p es.length))]++[SO.lst []]).length),some (ON (some (t,none))),none] (S++[SO.lst (i7 (i9 es p es.length))]++[SO.lst []]++[SO.lst []]);rw[e6,e7];generalize S++[SO.lst (i7 (i9 es p es.length))]++[SO.lst []]++[SO.lst []]=S0 at *;generalize hl:S.length=m0 at *;refine⟨λm ρ S'=>∃(G:Fan) (o:Option (Nat×Option Nat)) (ls:List Nat) (o9:Option SV),ρ=[some (i8 n es),some w,some (.int (t:Nat)),some (.int (p:Nat)),some (.int (H:Nat)),some (.loc m0),some (.loc (m0+1)),some (.loc (m0+2)),some (ON o),o9]/\Gw S S'/\S'[m0]?=some (.lst (i7 (i9 es p es.length)))/\S'[m0+1]?=some (.lst (G.map A7))/\S'[m0+2]?=some (.lst (ls.map SV.loc))/\FrA S' es cs p H G ls/\(∀ l∈ls,m0+2<l)/\m+G.length=es.length+1/\match o with | none=>G=C4 es cs p H (es.length+1) [(t,none)] | some x=>FanI es cs p H t (G++[x])/\∃ k,es.length<(G++[x]).length+k/\C4 es cs p H k (G++[x])=C4 es cs p H (es.length+1) [(t,none)],⟨es.length+1,[],some (t,none),[],none,rfl,G0,c5,c6,c7,⟨rfl,λi l x z=>by simp at z⟩,(λ_ h=>nomatch h),rfl,FanI.one atp,es.length+1,by show es.length<1+(es.length+1);omega,rfl⟩,?_⟩;rintro m ρ S' ⟨G,o,ls,o9,rfl,GS,h5,h6,h7,A,lm,em,hm⟩;cases o with
 | none=>
   refine⟨_,rfl,.inl ⟨rfl,_,rfl,ifF rfl ⟨_,rfl,q _ S' GS ?_⟩⟩⟩;rw[h6,hm]
 | some x=>
   obtain⟨I,k,hk,ek⟩:=hm;have gl:=I.len;rw[Vo]at gl hk;simp only[WG,Wv]at gl hk;obtain⟨ex,hex,hxp⟩:=I.att x (by simp);have fn:=D1 hen ⟨ex,hex,hxp⟩;have fe:AF ex p=farT es p x.1:=by unfold farT;rw[show es.getD x.1 (0,0)=ex by rw[Vq,hex];rfl]
   refine⟨_,rfl,.inl ⟨rfl,_,rfl,ifT rfl ?_⟩⟩;refine⟨_,rfl,⟨_,_,rfl,h6⟩,_,rfl,_,h6,by rw[Vm];show _<100000;omega,?_⟩;have h61:(S'.set (m0+1) (.lst (G.map A7++[A7 x])))[m0+1]?=some (.lst ((G++[x]).map A7)):=by rw[n9 h6,WB];rfl
   have h51:(S'.set (m0+1) (.lst (G.map A7++[A7 x])))[m0]?=some (.lst (i7 (i9 es p es.length))):=by rw[y9 (by omega)];exact h5
   have h71:(S'.set (m0+1) (.lst (G.map A7++[A7 x])))[m0+2]?=some (.lst (ls.map SV.loc)):=by rw[y9 (by omega)];exact h7
   have GS1:Gw S (S'.set (m0+1) (.lst (G.map A7++[A7 x]))):=GS.put (by omega);have A1:FrA (S'.set (m0+1) (.lst (G.map A7++[A7 x]))) es cs p H G ls:=⟨A.1,λi l y a b=>by rw[y9 (by have:=lm l (Vp a);omega)];exact A.2 i l y a b⟩
   show wSs Δ [(.asg (.nm 9) (.call kf (.cons (.var 0) (.cons (.ix (.var 8) (.c (.int 0))) (.cons (.var 3) .nil))))),(.expr (.mt .append (.var 7) (.cons (.call kr (.cons (.var 0) (.cons (.var 1) (.cons (.var 9) (.cons (.var 4) .nil))))) .nil))),(.asg (.nm 8) (.call kn (.cons (.var 1) (.cons (.var 6) (.cons (.var 5) (.cons (.var 7) .nil))))))] _ [some (i8 n es),some w,some (.int (t:Nat)),some (.int (p:Nat)),some (.int (H:Nat)),some (.loc m0),some (.loc (m0+1)),some (.loc (m0+2)),some (A7 x),o9] (S'.set (m0+1) (.lst (G.map A7++[A7 x])));have s1l:m0+2<(S'.set (m0+1) (.lst (G.map A7++[A7 x]))).length:=(gM h71).1;generalize S'.set (m0+1) (.lst (G.map A7++[A7 x]))=S1 at *;refine⟨_,rfl,_,rfl,_,_,rfl,rfl,_,rfl,hf hex (hxp.imp Eq.symm Eq.symm) ?_⟩;rw[fe];refine⟨_,rfl,⟨_,_,rfl,h71⟩,_,rfl,_,rfl,_,rfl,_,rfl,hr (hw.gw GS1) cl el fn.2 hH λl2 S2 G2 l2l h2=>?_⟩;refine⟨_,G2.keep _ _ h71,by rw[Vm,A.1];show _<100000;omega,?_⟩;have l2m:m0+2<l2:=by omega
   have h72:(S2.set (m0+2) (.lst (ls.map SV.loc++[.loc l2])))[m0+2]?=some (.lst ((ls++[l2]).map SV.loc)):=by rw[n9 (G2.keep _ _ h71),WB];rfl
   have h62:(S2.set (m0+2) (.lst (ls.map SV.loc++[.loc l2])))[m0+1]?=some (.lst ((G++[x]).map A7)):=by rw[y9 (by omega)];exact G2.keep _ _ h61
   have h52:(S2.set (m0+2) (.lst (ls.map SV.loc++[.loc l2])))[m0]?=some (.lst (i7 (i9 es p es.length))):=by rw[y9 (by omega)];exact G2.keep _ _ h51
   have GS2:Gw S (S2.set (m0+2) (.lst (ls.map SV.loc++[.loc l2]))):=(GS1.trans G2).put (by omega)
   have lm2:∀ l∈ls++[l2],m0+2<l:=λl hl=>by
    rcases WM.mp hl with z | z
    ·exact lm l z
    ·rw[W8.mp z];exact l2m
   have A2:FrA (S2.set (m0+2) (.lst (ls.map SV.loc++[.loc l2]))) es cs p H (G++[x]) (ls++[l2]):=⟨by rw[Vo,Vo,A.1];rfl,λi l y a b=>by
    rw[y9 (by have:=lm2 l (Vp a);omega)];rcases K5 a with⟨a1,a2⟩ | a
    ·rw[a1,A.1,WL]at b;cases b;rw[a2];exact h2
    ·have il:=(gM a).1;rw[W6 (by rw[<-A.1];exact il)]at b;exact G2.keep _ _ (A1.2 i l y a b)⟩
   show wSs Δ [(.asg (.nm 8) (.call kn (.cons (.var 1) (.cons (.var 6) (.cons (.var 5) (.cons (.var 7) .nil))))))] _ [some (i8 n es),some w,some (.int (t:Nat)),some (.int (p:Nat)),some (.int (H:Nat)),some (.loc m0),some (.loc (m0+1)),some (.loc (m0+2)),some (A7 x),some (.int (farT es p x.1:Nat))] (S2.set (m0+2) (.lst (ls.map SV.loc++[.loc l2])));generalize S2.set (m0+2) (.lst (ls.map SV.loc++[.loc l2]))=S3 at *;refine⟨_,rfl,_,rfl,_,rfl,_,rfl,hn (hw.gw GS2) cl el hH h62 (by rw[Vo];simp;omega) h52 h72 A2 λS4 G4=>?_⟩;refine⟨es.length+1 - (G++[x]).length,by rw[Vo];simp;omega,G++[x],pnd (BE es cs p H (G++[x])),ls++[l2],_,rfl,GS2.trans G4,G4.keep _ _ h52,G4.keep _ _ h62,G4.keep _ _ h72,A2.gw G4,lm2,by rw[Vo];simp;omega,?_⟩;obtain⟨k',rfl⟩:∃ k',k=k'+1:=⟨k - 1,by omega⟩
   unfold C4 at ek;cases hz:BE es cs p H (G++[x]) with
   | none=>rw[hz]at ek;exact ek
   | some y=>
     rw[hz]at ek;exact⟨I.snoc hz,k',by rw[Vo,Vo];simp;omega,ek⟩
theorem Qo{l:List Nat}(h:l≠[]):(i7 l)[0]?=some (.int (l.headD 0:Nat)):=by
 cases l with
 | nil=>exact absurd rfl h
 | cons a l=>rfl
end
theorem Hb(h:Nat):∀(r:List Nat) (a:Nat),An (a::r) h=(W4 r.length).map (λk=>Sp3.move ((a::r).getD (k+1) 0) ((a::r).getD k 0))++[.hue ((a::r).getLastD 0) h]
 | [],a=>rfl
 | b::r,a=>by
   show Sp3.move b a::An (b::r) h=_;rw[Hb h r b,WG,YT,WX,Xh];rfl
theorem Lo{xs:List SV}{x:SV}(h:xs[xs.length - 1]?=some x):atI xs (-1)=some x:=by
 have ne:xs≠[]:=λz=>by rw[z]at h;cases h
 have e:xs=xs.dropLast++[x]:=by
  have l:=XG ne;rw[XN,h]at l;rw[oj l];exact(Xv ne).symm
 rw[e];exact GI _ _
theorem OQ{xs:List SV}{i:Nat}{x:SV}(h:xs[i+1]?=some x):atI xs ((i:Int)+1)=some x:=by
 rw[show((i:Int)+1)=((i+1:Nat):Int) from rfl];exact i6 h
section
variable{Δ:Nat->Sn}
def tw1:List Stm:=[(.asg (.nm 3) (.lst (.cons (.ix (.ix (.var 0) (.var 1)) (.c (.int 0))) .nil))),(.asg (.nm 4) (.ix (.ix (.var 0) (.var 1)) (.c (.int 1))))]
def twW:List Stm:=[(.expr (.mt .append (.var 3) (.cons (.ix (.ix (.var 0) (.var 4)) (.c (.int 0))) .nil))),(.asg (.nm 4) (.ix (.ix (.var 0) (.var 4)) (.c (.int 1))))]
def tw2:List Stm:=[(.expr (.mt .reverse (.var 3) .nil)),(.asg (.nm 5) (.comp ["k"] ["way"] [3] (.nm 0) (.rng1 (.op .Sub (.bi .len (.cons (.var 3) .nil)) (.c (.int 1)))) .no (.tup (.cons (.c (.str "move")) (.cons (.ix (.var 1) (.op .Add (.var 0) (.c (.int 1)))) (.cons (.ix (.var 1) (.var 0)) .nil)))))),(.expr (.mt .append (.var 5) (.cons (.tup (.cons (.c (.str "hue")) (.cons (.ix (.var 3) (.neg (.c (.int 1)))) (.cons (.var 2) .nil)))) .nil))),(.ret (.var 5))]
def Hc:List Stm:=tw1++((.whl (.cmp .IsNot (.var 4) (.c .non)) twW)::tw2)
def D3(s:Sn):Prop:=∀{p H kf i h t0:Nat} {es:EE} {cs:List Nat} {F:Fan} {S:Sto} {Q:QE},FanI es cs p H t0 F->es.length<=60->S[kf]?=some (.lst (F.map A7))->i<F.length->(∀(l:Nat) (S':Sto),Gw S S'->S.length<=l->S'[l]?=some (.lst ((An (upF F (i+1) (some i)).reverse h).map w9))->Q (.loc l) S')->s [.loc kf,.int (i:Nat),.int (h:Nat)] S Q
theorem J8(hΔ:∀ f,MonoN (Δ f)){D:Df}(hb:D.body=Hc)(hN:D.N.length=6)(hp:D.ps.length=3):D3 (g9 Δ D):=by
 intro p H kf i h t0 es cs F S Q I el hF il q;have fl:=I.len;obtain⟨x,hx⟩:∃ x,F[i]?=some x:=⟨_,Vr il⟩
 have dec:∀{j b:Nat} {y:Nat×Option Nat},F[j]?=some y->y.2=some b->b<j/\b<F.length:=λ{j b y} e1 e2=>by
  obtain⟨t,o⟩:=y;have j0:0<j:=Xn λz=>by rw[z,I.fst]at e1;cases e1;cases e2
  obtain⟨b',u,c,k1,k2,k3,_⟩:=I.bk j t o j0 e1;rw[show o=some b from e2]at k1;cases k1;exact⟨k2,(gM k3).1⟩
 unfold g9;rw[hb,hN];have hF1:=j7 (o:=SO.lst [SV.int (x.1:Nat)]) hF;refine⟨hp.symm,_,rfl,_,rfl,_,_,f6 hF,i6 (DR hx),_,_,rfl,rfl,by show 1<=100000;decide,?_⟩;refine⟨_,rfl,_,rfl,_,_,f6 hF1,i6 (DR hx),_,_,rfl,rfl,?_⟩;have G0:Gw S (S++[SO.lst [SV.int (x.1:Nat)]]):=(Gw.refl S).push;have h30:(S++[SO.lst [SV.int (x.1:Nat)]])[S.length]?=some (SO.lst (i7 [x.1])):=f8;show wSs Δ ((.whl (.cmp .IsNot (.var 4) (.c .non)) twW)::tw2) (B3 Q) [some (.loc kf),some (.int (i:Nat)),some (.int (h:Nat)),some (.loc S.length),some (HS x.2),none] (S++[SO.lst [SV.int (x.1:Nat)]]);generalize S++[SO.lst [SV.int (x.1:Nat)]]=S0 at *;have fl':=(gM hF).1;generalize hl:S.length=k3 at *
 have ul:∀ m,(upF F m (some i)).length<=m:=λm=>by
  have go:∀(m:Nat) (o:Option Nat),(upF F m o).length<=m:=by
   intro m
   induction m with
   | zero=>intro o;cases o<;>exact Vt _
   | succ m ih=>
     intro o;cases o with
     | none=>exact Wy _
     | some j=>
       show(match F[j]? with | none=>[] | some x=>x.1::upF F m x.2).length<=_;cases F[j]? with
       | none=>exact Wy _
       | some y=>exact YL (ih y.2)
  exact go m _
 refine⟨λm ρ S'=>∃(acc:List Nat) (bk:Option Nat),ρ=[some (.loc kf),some (.int (i:Nat)),some (.int (h:Nat)),some (.loc k3),some (HS bk),none]/\acc++upF F m bk=upF F (i+1) (some i)/\(∀ b,bk=some b->b<m/\b<F.length)/\Gw S S'/\S'[k3]?=some (.lst (i7 acc))/\acc.length+m=i+1,⟨i,[x.1],x.2,rfl,?_,λb e=>dec hx e,G0,h30,by show 1+i=i+1;omega⟩,?_⟩
 ·show _=match F[i]? with | none=>[] | some x=>x.1::upF F i x.2
  rw[hx];rfl
 rintro m ρ S' ⟨acc,bk,rfl,ea,hbk,GS,h3,al⟩;have hF':=GS.keep _ _ hF;cases bk with
 | some b=>
   obtain⟨bm,bl⟩:=hbk b rfl;obtain⟨m',rfl⟩:∃ m',m=m'+1:=⟨m - 1,by omega⟩
   obtain⟨y,hy⟩:∃ y,F[b]?=some y:=⟨_,Vr bl⟩
   have eu:upF F (m'+1) (some b)=y.1::upF F m' y.2:=by
    show(match F[b]? with | none=>[] | some x=>x.1::upF F m' x.2)=_;rw[hy]
   rw[eu]at ea;refine⟨_,rfl,.inl ⟨rfl,_,rfl,ifT rfl ?_⟩⟩;refine⟨_,rfl,⟨_,_,rfl,h3⟩,_,rfl,_,rfl,_,_,f6 hF',i6 (DR hy),_,_,rfl,rfl,_,h3,by rw[n6];show _<100000;omega,?_⟩;have h31:(S'.set k3 (.lst (i7 acc++[.int (y.1:Nat)])))[k3]?=some (.lst (i7 (acc++[y.1]))):=by rw[n9 h3,AB];rfl
   have GS1:Gw S (S'.set k3 (.lst (i7 acc++[.int (y.1:Nat)]))):=GS.put (by omega);have hF1':=GS1.keep _ _ hF;refine⟨_,rfl,_,rfl,_,_,f6 hF1',i6 (DR hy),_,_,rfl,rfl,?_⟩;exact⟨m',by omega,acc++[y.1],y.2,rfl,by rw[<-ea];simp,λb2 e2=>by have:=dec hy e2;omega,GS1,h31,by rw[Vo];simp;omega⟩
 | none=>
   have e0:upF F m none=[]:=by cases m<;>rfl
   rw[e0,Wl]at ea;refine⟨_,rfl,.inl ⟨rfl,_,rfl,ifF rfl ?_⟩⟩;refine⟨_,rfl,⟨_,_,rfl,h3⟩,_,h3,?_⟩;rw[ea]at h3 al
   have h32:(S'.set k3 (.lst (i7 acc).reverse))[k3]?=some (.lst (i7 (upF F (i+1) (some i)).reverse)):=by
    rw[n9 h3,ea];unfold i7;rw[List.map_reverse]
   have GS2:Gw S (S'.set k3 (.lst (i7 acc).reverse)):=GS.put (by omega);have k3l:=(gM h32).1
   have ne:(upF F (i+1) (some i)).reverse≠[]:=by
    rw[Ne,List.reverse_eq_nil_iff];show(match F[i]? with | none=>[] | some x=>x.1::upF F i x.2)≠[];rw[hx];simp
   have wl:=ul (i+1);rw[<-Xk]at wl;generalize S'.set k3 (.lst (i7 acc).reverse)=S2 at *;generalize (upF F (i+1) (some i)).reverse=W at *
   obtain⟨a,r,rfl⟩:∃ a r,W=a::r:=by
    cases W with
    | nil=>exact absurd rfl ne
    | cons a r=>exact⟨a,r,rfl⟩
   rw[WG]at wl;have nl:(i7 (a::r)).length=r.length+1:=by rw[n6];rfl
   have gt:∀ j,j<r.length+1->(i7 (a::r))[j]?=some (.int ((a::r).getD j 0:Nat)):=λj hj=>by
    unfold i7;rw[Vu,Vq,Vr (show j<(a::r).length by rw[WG];exact hj)];rfl
   refine⟨_,rfl,_,f6 h32,_,rfl,⟨by rw[nl];omega,by rw[nl];omega⟩,?_⟩;rw[nl,show(((r.length+1:Nat):Int) - 1)=(r.length:Int) by omega];refine m7 (p4 hΔ _).2 (c9 hΔ _).1 (λj ys S3=>S3=S2/\ys=((W4 j).map λk=>Sp3.move ((a::r).getD (k+1) 0) ((a::r).getD k 0)).map w9) ⟨rfl,rfl⟩ (λ_ _ _ _=>trivial) ?_ ?_
   ·rintro j x ys S3 hx ⟨rfl,rfl⟩;have jl:j<r.length:=by have:=(gM hx).1;rw[u4]at this;omega
    obtain⟨rfl,hj⟩:=AE hx;rw[X2]at hj ⊢;refine⟨_,rfl,_,rfl,_,_,f6 h32,OQ (gt (j+1) (by omega)),_,rfl,_,rfl,_,_,f6 h32,i6 (gt j (by omega)),by show 3<=100000;decide,by rw[Vm,Vm,Wb];show _<100000;omega,rfl,?_⟩;rw[XQ,WB,WB];rfl
   ·rintro ys S3 ⟨rfl,rfl⟩;rw[u4,show((r.length:Int) - 0).toNat=r.length by omega];have h5:(S3++[SO.lst (((W4 r.length).map λk=>Sp3.move ((a::r).getD (k+1) 0) ((a::r).getD k 0)).map w9)])[S3.length]?=_:=f8
    have lst:(i7 (a::r))[(i7 (a::r)).length - 1]?=some (.int ((a::r).getLastD 0:Nat)):=by
     rw[nl,show r.length+1 - 1=r.length by omega,gt r.length (by omega)]
     congr 3
     rw[Y4,XN,Vq];rfl
    refine⟨_,rfl,⟨_,_,rfl,h5⟩,_,rfl,_,_,f6 (j7 h32),Lo lst,_,rfl,by show 3<=100000;decide,_,h5,by rw[Vm,Vm,Wb];show _<100000;omega,?_⟩;refine⟨_,rfl,q _ _ (GS2.push.put (WH (Yo hl) (by omega))) (by omega) ?_⟩;rw[n9 h5,Hb,WB];rfl
def td1(kr:Nat):Stm:=(.asg (.nm 5) (.call kr (.cons (.var 0) (.cons (.var 1) (.cons (.var 3) (.cons (.var 4) .nil))))))
def td2(kr kf:Nat):Stm:=(.asg (.nm 9) (.call kr (.cons (.var 0) (.cons (.var 1) (.cons (.call kf (.cons (.var 0) (.cons (.var 7) (.cons (.var 3) .nil)))) (.cons (.var 4) .nil))))))
def td3:Stm:=(.asg (.nm 10) (.comp ["hue"] ["free"] [9] (.nm 0) (.seq (.var 5)) (.yes (.cmp .In (.var 0) (.var 1))) (.var 0)))
def td4(kt:Nat):Stm:=(.iff (.var 10) [(.ret (.call kt (.cons (.var 2) (.cons (.var 6) (.cons (.ix (.var 10) (.c (.int 0))) .nil)))))] [])
def KR(kr kf kt:Nat):List Stm:=[td1 kr,(.loop (.tup (.cons (.nm 6) (.cons (.tup (.cons (.nm 7) (.cons (.nm 8) .nil))) .nil))) (.enum (.var 2)) [td2 kr kf,td3,td4 kt]),(.ret (.c .non))]
def EF(s:Sn):Prop:=∀{n H p kf t0:Nat} {w:SV} {es:EE} {cs ds:List Nat} {F:Fan} {S:Sto} {Q:QE},Hv S w ds->ds.length=es.length->(∀ e∈es,e.1<e.2/\e.2<n)->es.length<=60->H<=1000->FanI es cs p H t0 F->S[kf]?=some (.lst (F.map A7))->(u6 es ds p H F=none->∀ S',Gw S S'->Q .non S')->(∀ s,u6 es ds p H F=some s->∀(l:Nat) (S':Sto),Gw S S'->S.length<=l->S'[l]?=some (.lst (s.map w9))->Q (.loc l) S')->s [i8 n es,w,.loc kf,.int (p:Nat),.int (H:Nat)] S Q
theorem Lp(hΔ:∀ f,MonoN (Δ f)){kr kf kt:Nat}(hr:Bz (Δ kr))(hf:BD (Δ kf))(ht:D3 (Δ kt)){D:Df}(hb:D.body=KR kr kf kt)(hN:D.N.length=11)(hp:D.ps.length=5):EF (g9 Δ D):=by
 intro n H p k2 t0 w es cs ds F S Q hw cl hen el hH I hF q0 q1;have fl:=I.len;obtain⟨e0,he0,hp0⟩:=I.att _ (Vp I.fst);have pn:p<n:=by have:=hen e0 (Vp he0);omega
 unfold g9;rw[hb,hN];refine⟨hp.symm,_,rfl,_,rfl,_,rfl,_,rfl,hr hw cl el pn hH λl5 S1 G1 _ h5=>?_⟩;refine⟨_,rfl,_,f6 (G1.keep _ _ hF),?_⟩;refine t7 (j5 hΔ _) (λj ρ S2=>Gw S1 S2/\(∃ o6 o7 o8 o9 o10:Option SV,ρ=[some (i8 n es),some w,some (.loc k2),some (.int (p:Nat)),some (.int (H:Nat)),some (.loc l5),o6,o7,o8,o9,o10])/\∀ u∈(W4 F.length).take j,((E9 es ds p H F u).head?.map λh=>An (upF F (u+1) (some u)).reverse h)=none) ⟨Gw.refl _,⟨none,none,none,none,none,rfl⟩,λu hu'=>by simp at hu'⟩ (λ_ _ S2 z=>by show S2[k2]?=S1[k2]?;rw[G1.keep _ _ hF];exact z.1.keep _ _ (G1.keep _ _ hF)) ?_ ?_
 ·rintro j x ρ S2 E hE hR hx ⟨G2,⟨o6,o7,o8,o9,o10,rfl⟩,no⟩;obtain⟨y,hy,rfl⟩:=B4 hx;obtain⟨z,hz,rfl⟩:=Fv hy;have jl:=(gM hz).1;obtain⟨ez,hez,hzp⟩:=I.att z (Vp hz);have fn:=D1 hen ⟨ez,hez,hzp⟩;have fe:AF ez p=farT es p z.1:=by unfold farT;rw[show es.getD z.1 (0,0)=ez by rw[Vq,hez];rfl]
  refine⟨_,rfl,_,rfl,_,rfl,_,rfl,_,rfl,hf hez (hzp.imp Eq.symm Eq.symm) ?_⟩;rw[fe];refine⟨_,rfl,hr (hw.gw (G1.trans G2)) cl el fn.2 hH λl9 S3 G3 _ h9=>?_⟩;have h53:=(G2.trans G3).keep _ _ h5;show wSs Δ [td3,td4 kt] E [some (i8 n es),some w,some (.loc k2),some (.int (p:Nat)),some (.int (H:Nat)),some (.loc l5),some (.int (j:Nat)),some (.int (z.1:Nat)),some (HS z.2),some (.loc l9),o10] S3;refine⟨_,rfl,_,f6 h53,?_⟩;have fr1:∀ y,(frL es ds y H).length<=H:=λy=>BR _ _;have f1:=fr1 p;refine m7 (p4 hΔ _).2 (c9 hΔ _).1 (λi ys S4=>S4=S3/\ys=i7 (((frL es ds p H).take i).filter λh=>decide (h∈frL es ds (farT es p z.1) H))) ⟨rfl,rfl⟩ (λ_ _ _ z=>by rw[z.1];exact rfl) ?_ ?_
  ·rintro i x ys S4 hx ⟨rfl,rfl⟩;obtain⟨h,hi,rfl⟩:=BQ hx;have il:=(gM hi).1
   have es':((frL es ds p H).take (i+1)).filter (λh=>decide (h∈frL es ds (farT es p z.1) H))=((frL es ds p H).take i).filter (λh=>decide (h∈frL es ds (farT es p z.1) H))++if decide (h∈frL es ds (farT es p z.1) H)=true then [h] else []:=by
    rw[WZ,hi,Xd]
    congr 1
    show Z5 _ [h]=_;rw[X7];rfl
   have ll:(((frL es ds p H).take i).filter λh=>decide (h∈frL es ds (farT es p z.1) H)).length<=H:=by
    have:=XJ (λh=>decide (h∈frL es ds (farT es p z.1) H)) ((frL es ds p H).take i);rw[Wp]at this;omega
   refine⟨_,rfl,_,rfl,?_⟩;show match BU (.loc l9) S4 with | some ms=>_ | none=>_
   rw[Ak h9];refine⟨rfl,_,f6 h9,By _,_,rfl,?_⟩;show if inS (.int (h:Nat)) (i7 (frL es ds (farT es p z.1) H))=true then _ else _
   rw[Fk];refine ifD (λz=>?_) (λz=>⟨rfl,?_⟩)
   ·rw[iP (decide_eq_true z)]at es';exact⟨_,rfl,by rw[n6];show _<100000;omega,rfl,by rw[es',AB];rfl⟩
   ·rw[iG (by simpa using z),Wl]at es';rw[es']
  ·rintro ys S4 ⟨rfl,rfl⟩;rw[n6,WV]
   have esh:(frL es ds p H).filter (λh=>decide (h∈frL es ds (farT es p z.1) H))=E9 es ds p H F j:=by
    unfold E9;rw[show F.getD j (0,none)=z by rw[Vq,hz];rfl]
   rw[esh];have G4:Gw S (S4++[SO.lst (i7 (E9 es ds p H F j))]):=((G1.trans G2).trans G3).push;have h10:(S4++[SO.lst (i7 (E9 es ds p H F j))])[S4.length]?=_:=f8;have hj:(W4 F.length)[j]?=some j:=Wm jl;cases hs:E9 es ds p H F j with
   | nil=>
     rw[hs]at h10 G4;refine⟨_,rfl,_,Jz h10,ifF rfl (f7 (hE _ _ ⟨(G2.trans G3).push,⟨_,_,_,_,_,rfl⟩,λu hu'=>?_⟩))⟩;rw[WZ,hj]at hu';rcases WM.mp hu' with y | y
     ·exact no u y
     ·have:u=j:=by simpa using y
      rw[this,hs];rfl
   | cons h l=>
     rw[hs]at h10 G4;refine⟨_,rfl,_,Jz h10,ifT rfl ?_⟩;refine⟨_,rfl,_,rfl,_,rfl,_,_,f6 h10,(show atI (i7 (h::l)) (0:Int)=some (SV.int (h:Nat)) from i6 (j:=0) rfl),ht I el (G4.keep _ _ hF) jl λl' S5 G5 l5' h5'=>hR _ _ (q1 _ ?_ l' S5 (G4.trans G5) (WH G4.len l5') h5')⟩;exact OF hj (by rw[hs];rfl) no
 ·rintro ρ S2 ⟨G2,⟨o6,o7,o8,o9,o10,rfl⟩,no⟩;rw[BP,Vm]at no;refine q0 ?_ S2 (G1.trans G2);unfold u6;rw[X9];intro u hu';exact no u (by rw[YN (by rw[Wb];exact Vt _)];exact hu')
def shI:List Stm:=[(.iff (.cmp .NotEq (.setdi (.var 5) (.var 9) (.var 8)) (.var 8)) [(.ret (.tup (.cons (.var 9) (.cons (.dget (.var 5) (.var 9)) .nil))))] [])]
def shO(kf kr:Nat):List Stm:=[(.asg (.nm 8) (.call kf (.cons (.var 0) (.cons (.var 6) (.cons (.var 3) .nil))))),(.loop (.nm 9) (.seq (.call kr (.cons (.var 0) (.cons (.var 1) (.cons (.var 8) (.cons (.var 4) .nil)))))) shI)]
def KS(kf kr:Nat):List Stm:=[(.asg (.nm 5) .dnew),(.loop (.tup (.cons (.nm 6) (.cons (.nm 7) .nil))) (.seq (.var 2)) (shO kf kr)),(.ret (.c .non))]
def OwnD(L:EE)(kvs:List (Int×SV)):Prop:=kvs.length<=L.length/\∀ h:Nat,Cp kvs (h:Nat)=(v5 L h).map λf=>SV.int (f:Nat)
def EG(s:Sn):Prop:=∀{n H p kf t0:Nat} {w:SV} {es:EE} {cs:List Nat} {F:Fan} {x:Nat×Nat} {S:Sto} {Q:QE},Hv S w cs->cs.length=es.length->(∀ e∈es,e.1<e.2/\e.2<n)->es.length<=60->H<=1000->FanI es cs p H t0 F->S[kf]?=some (.lst (F.map A7))->y8 es cs p H F=some x->(∀ S',Gw S S'->Q (.tup [.int (x.1:Nat),.int (x.2:Nat)]) S')->s [i8 n es,w,.loc kf,.int (p:Nat),.int (H:Nat)] S Q
theorem Hd{α:Type}{P:α->Bool}{q:α}:∀{A B:List α},(∀ a∈A,P a=false)->P q=true->(A++q::B).find? P=some q
 | [],B,_,h=>by rw[YV,WU,h]
 | a::A,B,no,h=>by
   rw[List.cons_append,WU,no a (W7 ..)];exact Hd (λb hb=>no b (Vz _ hb)) h
theorem OwnD.put{L:EE}{kvs:List (Int×SV)}(O:OwnD L kvs){f h:Nat}(no:v5 L h=none):OwnD (L++[(f,h)]) (kvs++[((h:Int),SV.int (f:Nat))]):=by
 refine⟨by rw[Vo,Vo];have:=O.1;simp;omega,λg=>?_⟩
 have e1:Cp (kvs++[((h:Int),SV.int (f:Nat))]) (g:Nat)=(Cp kvs (g:Nat)).or (if h=g then some (SV.int (f:Nat)) else none):=by
  unfold Cp;rw[Y8];cases kvs.find? λp=>decide (p.1=(g:Int)) with
  | some y=>rfl
  | none=>
    rw[ZF,WU];by_cases z:h=g
    ·rw[iP z,decide_eq_true (show((h:Int),SV.int (f:Nat)).1=(g:Int) by rw[z])];rfl
    ·rw[iG z,decide_eq_false (show ¬ ((h:Int),SV.int (f:Nat)).1=(g:Int) from λy=>z (WW.mp y))];rfl
 have e2:v5 (L++[(f,h)]) g=(v5 L g).or (if h=g then some f else none):=by
  rw[Ap]
  congr 1
  unfold v5;rw[WU];by_cases z:h=g
  ·rw[iP z,decide_eq_true (show((f,h):Nat×Nat).2=g from z)];rfl
  ·rw[iG z,decide_eq_false (show ¬ ((f,h):Nat×Nat).2=g from z)];rfl
 rw[e1,e2,O.2];cases v5 L g with
 | some y=>rfl
 | none=>
   by_cases z:h=g
   ·rw[iP z,iP z];rfl
   ·rw[iG z,iG z];rfl
theorem OwnD.same{L:EE}{kvs:List (Int×SV)}(O:OwnD L kvs){f h:Nat}(yes:v5 L h=some f)(g:Nat):OwnD (L++[(g,h)]) kvs:=by
 refine⟨by rw[Vo];have:=O.1;omega,λk=>?_⟩;rw[O.2,Ap];cases hk:v5 L k with
 | some y=>rfl
 | none=>
   have:v5 [(g,h)] k=none:=by
    unfold v5;rw[WU];by_cases z:h=k
    ·rw[<-z,yes]at hk;cases hk
    ·rw[decide_eq_false (show ¬ ((g,h):Nat×Nat).2=k from z)];rfl
   rw[this];rfl
theorem He{es:EE}{cs:List Nat}{p H j:Nat}{F:Fan}{x:Nat×Option Nat}(h:F[j]?=some x):shL es cs p H (F.take (j+1))=shL es cs p H (F.take j)++(frL es cs (farT es p x.1) H).map λh=>(farT es p x.1,h):=by
 unfold shL;rw[WZ,h,Yi];simp
theorem Qp{es:EE}{cs:List Nat}{p H j i c:Nat}{F:Fan}{x:Nat×Option Nat}(h:F[j]?=some x)(hc:(frL es cs (farT es p x.1) H)[i]?=some c):∃ B,shL es cs p H F=(shL es cs p H (F.take j)++((frL es cs (farT es p x.1) H).take i).map λh=>(farT es p x.1,h))++(farT es p x.1,c)::B:=by
 have e1:F=F.take j++x::F.drop (j+1):=by
  conv=>lhs;rw[<-Ya j F,XM (gM h).1,(gM h).2]
 have e2:frL es cs (farT es p x.1) H=(frL es cs (farT es p x.1) H).take i++c::(frL es cs (farT es p x.1) H).drop (i+1):=by
  conv=>lhs;rw[<-Ya i (frL es cs (farT es p x.1) H),XM (gM hc).1,(gM hc).2]
 refine⟨((frL es cs (farT es p x.1) H).drop (i+1)).map (λh=>(farT es p x.1,h))++shL es cs p H (F.drop (j+1)),?_⟩
 conv=>lhs;rw[e1]
 unfold shL;rw[Yi,YB]
 conv=>lhs;rw[e2]
 simp[Y7]
theorem Lq(hΔ:∀ f,MonoN (Δ f)){kf kr:Nat}(hf:BD (Δ kf))(hr:Bz (Δ kr)){D:Df}(hb:D.body=KS kf kr)(hN:D.N.length=10)(hp:D.ps.length=5):EG (g9 Δ D):=by
 intro n H p k2 t0 w es cs F x S Q hw cl hen el hH I hF hs q;have fl:=I.len;have frl:∀ y,(frL es cs y H).length<=H:=λy=>BR _ _
 have shl:∀ j,(shL es cs p H (F.take j)).length<=j * H:=λj=>by
  induction j with
  | zero=>simp[shL]
  | succ j ih=>
    cases hx:F[j]? with
    | none=>
      have:F.take (j+1)=F.take j:=by rw[WZ,hx];simp
      rw[this,Xa];omega
    | some y=>
      rw[He hx,Vo,Vm,Xa];have:=frl (farT es p y.1);omega
 have bound:∀{j i:Nat} {y:Nat},j<F.length->(shL es cs p H (F.take j)++((frL es cs y H).take i).map λh=>(y,h)).length<100000:=λ{j i y} hj=>by
  rw[Vo,Vm,Wp];have a1:=shl j;have a2:=frl y;have:j * H<=60 * 1000:=ZH (by omega) hH;omega
 unfold g9;rw[hb,hN];have G0:Gw S (S++[SO.dct []]):=(Gw.refl S).push;refine⟨hp.symm,_,rfl,_,f6 (j7 hF),?_⟩;refine t7 (j5 hΔ _) (λj ρ S'=>Gw S S'/\(∃(kvs:List (Int×SV)) (o6 o7 o8 o9:Option SV),ρ=[some (i8 n es),some w,some (.loc k2),some (.int (p:Nat)),some (.int (H:Nat)),some (.loc S.length),o6,o7,o8,o9]/\S'[S.length]?=some (.dct kvs)/\OwnD (shL es cs p H (F.take j)) kvs)/\∀ q∈shL es cs p H (F.take j),v5 (shL es cs p H (F.take j)) q.2=some q.1) ⟨G0,⟨[],none,none,none,none,rfl,f8,Wy _,λh=>rfl⟩,(λ_ h=>nomatch h)⟩ (λ_ _ S' z=>by show S'[k2]?=(S++[SO.dct []])[k2]?;rw[j7 hF];exact z.1.keep _ _ hF) ?_ ?_
 ·rintro j y ρ S' E hE hR hy ⟨GS,⟨kvs,o6,o7,o8,o9,rfl,h5,O⟩,al⟩;obtain⟨z,hz,rfl⟩:=Fv hy;have jl:=(gM hz).1;obtain⟨ez,hez,hzp⟩:=I.att z (Vp hz);have fn:=D1 hen ⟨ez,hez,hzp⟩;have fe:AF ez p=farT es p z.1:=by unfold farT;rw[show es.getD z.1 (0,0)=ez by rw[Vq,hez];rfl]
  refine⟨_,rfl,_,rfl,_,rfl,hf hez (hzp.imp Eq.symm Eq.symm) ?_⟩;rw[fe];refine⟨_,rfl,_,rfl,_,rfl,_,rfl,hr (hw.gw GS) cl el fn.2 hH λl S1 G1 l1 h1=>⟨_,f6 h1,?_⟩⟩;have s5:=(gM h5).1;refine t7 (j5 hΔ _) (λi ρ S2=>Gw S S2/\S2[l]?=some (.lst (i7 (frL es cs (farT es p z.1) H)))/\(∃(kvs:List (Int×SV)) (o9:Option SV),ρ=[some (i8 n es),some w,some (.loc k2),some (.int (p:Nat)),some (.int (H:Nat)),some (.loc S.length),some (.int (z.1:Nat)),some (HS z.2),some (.int (farT es p z.1:Nat)),o9]/\S2[S.length]?=some (.dct kvs)/\OwnD (shL es cs p H (F.take j)++((frL es cs (farT es p z.1) H).take i).map λh=>(farT es p z.1,h)) kvs)/\∀ q∈shL es cs p H (F.take j)++((frL es cs (farT es p z.1) H).take i).map λh=>(farT es p z.1,h),v5 (shL es cs p H (F.take j)++((frL es cs (farT es p z.1) H).take i).map λh=>(farT es p z.1,h)) q.2=some q.1) ⟨GS.trans G1,h1,⟨kvs,_,rfl,G1.keep _ _ h5,by simpa using O⟩,by simpa using al⟩ (λ_ _ S2 z=>by show S2[l]?=S1[l]?;rw[h1];exact z.2.1) ?_ ?_
  ·rintro i y ρ S2 E2 hE2 hR2 hy2 ⟨GS2,hl2,⟨kv2,o9,rfl,h52,O2⟩,al2⟩;obtain⟨c,hci,rfl⟩:=BQ hy2
   have tk:shL es cs p H (F.take j)++((frL es cs (farT es p z.1) H).take (i+1)).map (λh=>(farT es p z.1,h))=(shL es cs p H (F.take j)++((frL es cs (farT es p z.1) H).take i).map λh=>(farT es p z.1,h))++[(farT es p z.1,c)]:=by
    rw[WZ,hci,WB,Y7];rfl
   obtain⟨B,eB⟩:=Qp hz hci;have bd:=bound (j:=j) (i:=i) (y:=farT es p z.1) jl;have ol:=O2.1;generalize hA:shL es cs p H (F.take j)++((frL es cs (farT es p z.1) H).take i).map (λh=>(farT es p z.1,h))=A at *;refine⟨_,rfl,_,_,rfl,h52,_,rfl,_,rfl,(c:Int),kv2,rfl,h52,by show _<100000;omega,λv hv=>?_,λhv=>?_⟩
   ·rw[O2.2]at hv;cases ho:v5 A c with
    | none=>rw[ho]at hv;cases hv
    | some f=>
      rw[ho]at hv;cases hv;refine⟨_,rfl,_,rfl,?_⟩;show if (!decide (((f:Nat):Int)=((farT es p z.1:Nat):Int)))=true then _ else _
      by_cases ef:f=farT es p z.1
      ·rw[decide_eq_true (show((f:Nat):Int)=((farT es p z.1:Nat):Int) by rw[ef])];refine ifF rfl (f7 (hE2 _ _ ⟨GS2,hl2,⟨kv2,_,rfl,h52,by rw[tk];exact O2.same ho _⟩,λq hq=>?_⟩));rw[tk]at hq ⊢;rw[Ap];rcases WM.mp hq with y | y
       ·rw[al2 q y];rfl
       ·rw[W8.mp y,ho,ef];rfl
      ·rw[decide_eq_false (show ¬ ((f:Nat):Int)=((farT es p z.1:Nat):Int) from λy=>ef (WW.mp y))];refine ifT rfl ?_;have ow:v5 (shL es cs p H F) c=some f:=by rw[eB,Ap,ho];rfl
       have fs:(shL es cs p H F).find? (λq=>!decide (v5 (shL es cs p H F) q.2=some q.1))=some (farT es p z.1,c):=by
        conv=>lhs;rw[eB]
        refine Hd (λa ha=>?_) ?_
        ·have:v5 (shL es cs p H F) a.2=some a.1:=by rw[eB,Ap,al2 a ha];rfl
         rw[<-eB,this];simp
        ·rw[<-eB];show(!decide (v5 (shL es cs p H F) c=some (farT es p z.1)))=true;rw[ow];simpa using ef
       have:y8 es cs p H F=some (c,f):=by
        unfold y8;rw[fs];show(v5 (shL es cs p H F) c).map _=_;rw[ow];rfl
       rw[hs]at this;cases this;refine⟨_,rfl,_,rfl,_,rfl,kv2,(c:Int),_,by simp only[Pq,h52],rfl,by rw[O2.2,ho];rfl,by show 2<=100000;decide,hR2 _ _ (hR _ _ (q S2 GS2))⟩
   ·rw[O2.2,X8]at hv;refine⟨_,rfl,_,rfl,?_⟩;show if (!decide (((farT es p z.1:Nat):Int)=((farT es p z.1:Nat):Int)))=true then _ else _
    rw[decide_eq_true rfl];have ne:l≠S.length:=λy=>by rw[y,h52]at hl2;cases hl2
    refine ifF rfl (f7 (hE2 _ _ ⟨GS2.put (Vt _),by rw[y9 ne.symm];exact hl2,⟨_,_,rfl,n9 h52,by rw[tk];exact O2.put hv⟩,λq hq=>?_⟩));rw[tk]at hq ⊢;rw[Ap];rcases WM.mp hq with y | y
    ·rw[al2 q y];rfl
    ·rw[W8.mp y,hv];unfold v5;rw[WU,decide_eq_true rfl];rfl
  ·rintro ρ S2 ⟨GS2,hl2,⟨kv2,o9,rfl,h52,O2⟩,al2⟩;rw[n6,WV,<-He hz]at O2 al2;exact hE _ _ ⟨GS2,⟨kv2,_,_,_,_,rfl,h52,O2⟩,al2⟩
 ·rintro ρ S' ⟨GS,⟨kvs,o6,o7,o8,o9,rfl,h5,O⟩,al⟩;rw[Vm,WV]at al;exfalso;unfold y8 at hs
  have:(shL es cs p H F).find? (λq=>!decide (v5 (shL es cs p H F) q.2=some q.1))=none:=by
   rw[X4];intro q hq;rw[al q hq];simp
  rw[this]at hs;cases hs
def Hf(ks kr:Nat):List Stm:=[(.asg (.tup (.cons (.nm 5) (.cons (.nm 6) .nil))) (.call ks (.cons (.var 0) (.cons (.var 1) (.cons (.var 2) (.cons (.var 3) (.cons (.var 4) .nil))))))),(.asg (.nm 7) (.ix (.call kr (.cons (.var 0) (.cons (.var 1) (.cons (.var 3) (.cons (.var 4) .nil))))) (.c (.int 0)))),(.ret (.tup (.cons (.c (.str "row")) (.cons (.var 6) (.cons (.var 7) (.cons (.var 5) .nil))))))]
def D4(s:Sn):Prop:=∀{n H p kf t0:Nat} {w:SV} {es:EE} {cs:List Nat} {F:Fan} {x:Nat×Nat} {S:Sto} {Q:QE},Hv S w cs->cs.length=es.length->(∀ e∈es,e.1<e.2/\e.2<n)->es.length<=60->H<=1000->FanI es cs p H t0 F->S[kf]?=some (.lst (F.map A7))->y8 es cs p H F=some x->frL es cs p H≠[]->(∀ S',Gw S S'->Q (w9 (.row x.2 ((frL es cs p H).headD 0) x.1)) S')->s [i8 n es,w,.loc kf,.int (p:Nat),.int (H:Nat)] S Q
theorem J9{ks kr:Nat}(hs:EG (Δ ks))(hr:Bz (Δ kr)){D:Df}(hb:D.body=Hf ks kr)(hN:D.N.length=8)(hp:D.ps.length=5):D4 (g9 Δ D):=by
 intro n H p k2 t0 w es cs F x S Q hw cl hen el hH I hF hx nn q;obtain⟨e0,he0,hp0⟩:=I.att _ (Vp I.fst);have pn:p<n:=by have:=hen e0 (Vp he0);omega
 unfold g9;rw[hb,hN];refine⟨hp.symm,_,rfl,_,rfl,_,rfl,_,rfl,_,rfl,hs hw cl hen el hH I hF hx λS1 G1=>?_⟩;refine⟨_,rfl,_,rfl,_,rfl,_,rfl,hr (hw.gw G1) cl el pn hH λl S2 G2 _ h2=>⟨_,_,f6 h2,i6 (Qo nn),?_⟩⟩;exact⟨_,rfl,_,rfl,_,rfl,by show 4<=100000;decide,q S2 (G1.trans G2)⟩
end
noncomputable def EH(es:EE)(cs:List Nat)(t H:Nat):List Sp3:=if hu cs t<1000 then [] else u9 es cs t H
section
variable{Δ:Nat->Sn}
def sv1:Stm:=(.asg (.nm 4) (.ix (.ix (.ix (.var 0) (.c (.int 1))) (.var 2)) (.c (.int 0))))
def sv2(kf kd:Nat):List Stm:=[(.asg (.nm 5) (.call kf (.cons (.var 0) (.cons (.var 1) (.cons (.var 2) (.cons (.var 4) (.cons (.var 3) .nil))))))),(.asg (.nm 6) (.call kd (.cons (.var 0) (.cons (.var 1) (.cons (.var 5) (.cons (.var 4) (.cons (.var 3) .nil))))))),(.iff (.cmp .IsNot (.var 6) (.c .non)) [(.ret (.var 6))] [])]
def sv3(kz ko kd:Nat):List Stm:=[(.asg (.nm 7) (.call kz (.cons (.var 0) (.cons (.var 1) (.cons (.var 5) (.cons (.var 4) (.cons (.var 3) .nil))))))),(.ret (.op .Add (.lst (.cons (.var 7) .nil)) (.call kd (.cons (.var 0) (.cons (.call ko (.cons (.var 0) (.cons (.var 1) (.cons (.var 7) .nil)))) (.cons (.var 5) (.cons (.var 4) (.cons (.var 3) .nil))))))))]
def KU(kf kd kz ko:Nat):List Stm:=sv1::(sv2 kf kd++sv3 kz ko kd)
noncomputable def Cg(s:Sn):Prop:=∀{n H t m:Nat} {w:SV} {es:EE} {cs:List Nat} {S:Sto} {Q:QE},Hv S w cs->Hg H es cs->(∀ e∈es,e.1<e.2/\e.2<n)->es.length<=60->H<=1000->t<es.length->¬ hu cs t<1000->IsTh es m->v8 es n+m<=H->(∀(l:Nat) (S':Sto),Gw S S'->S.length<=l->S'[l]?=some (.lst ((u9 es cs t H).map w9))->Q (.loc l) S')->s [i8 n es,w,.int (t:Nat),.int (H:Nat)] S Q
theorem F6:∀(ws:List Nat) (h:Nat),(An ws h).length=ws.length
 | [],_=>rfl
 | [_],_=>rfl
 | a::b::r,h=>by
   show(An (b::r) h).length+1=_;rw[F6];rfl
theorem Bs{n H p t0:Nat}{es:EE}{cs ds:List Nat}{F:Fan}(fl:F.length<=es.length){s:List Sp3}(h:u6 es ds p H F=some s):s.length<=es.length:=by
 obtain⟨i,x,h,e,_,_,rfl,_⟩:=Br h;have il:=(gM e).1;rw[F6,Xk]
 have go:∀(m:Nat) (o:Option Nat),(upF F m o).length<=m:=by
  intro m
  induction m with
  | zero=>intro o;cases o<;>exact Vt _
  | succ m ih=>
    intro o;cases o with
    | none=>exact Wy _
    | some j=>
      show(match F[j]? with | none=>[] | some x=>x.1::upF F m x.2).length<=_;cases F[j]? with
      | none=>exact Wy _
      | some y=>exact YL (ih y.2)
 have:=go (i+1) (some i);omega
theorem Lr{kf kd kz ko:Nat}(hf:OP (Δ kf))(hd:EF (Δ kd))(hz:D4 (Δ kz))(ho:AX (Δ ko) λp a b=>[w9 (.row p a b)]){D:Df}(hb:D.body=KU kf kd kz ko)(hN:D.N.length=8)(hp:D.ps.length=4):Cg (g9 Δ D):=by
 intro n H t m w es cs S Q hw g hen el hH tl b0 hm hmH q;obtain⟨e,he⟩:∃ e,es[t]?=some e:=⟨_,Vr tl⟩
 have ge:es.getD t (0,0)=e:=by rw[Vq,he];rfl
 have ge2:(es.map pairS)[t]?=some (pairS e):=by rw[Vu,he];rfl
 have hc:∀ y,y<n->t4 es y+m<=H:=λy hy=>by have:=Bp es hy;omega
 have cl:=g.P.len;have sv:∀ z,z=u9 es cs t H->∀(l:Nat) (S':Sto),Gw S S'->S.length<=l->S'[l]?=some (.lst (z.map w9))->Q (.loc l) S':=λz ez l S' a b c=>q l S' a b (ez▸c);unfold u9 at sv;rw[ge]at sv;have key:=EB (p:=e.1) (F:=C4 es cs e.1 H (es.length+1) [(t,none)]) hen hH g tl b0 hc hm.1 (by rw[ge]) rfl;have atp:AtP es t e.1:=⟨e,he,.inl rfl⟩
 generalize hF:C4 es cs e.1 H (es.length+1) [(t,none)]=F at *;obtain⟨I,key⟩:=key;have fl:=I.len;unfold g9;rw[hb,hN];refine⟨hp.symm,_,rfl,_,_,rfl,rfl,_,rfl,_,_,rfl,i6 ge2,_,_,rfl,rfl,?_⟩;refine⟨_,rfl,_,rfl,_,rfl,_,rfl,_,rfl,hf hw cl hen el hH atp b0 λl5 S1 G1 h5=>?_⟩;rw[hF]at h5;refine⟨_,rfl,_,rfl,_,rfl,_,rfl,_,rfl,hd (hw.gw G1) cl hen el hH I h5 (λhn S2 G2=>?_) (λs hs l S2 G2 l2 h2=>?_)⟩
 ·refine⟨_,rfl,.inl ⟨rfl,_,rfl,ifF rfl (f7 ?_)⟩⟩;rcases key with⟨s,e1,_⟩ | ⟨_,nn,x,s,e1,ok,e2,r1,r2⟩
  ·rw[hn]at e1;cases e1
  ·rw[hn]at sv;dsimp only at sv;rw[e1]at sv;dsimp only at sv;rw[e2]at sv;have G12:=G1.trans G2;refine⟨_,rfl,_,rfl,_,rfl,_,rfl,_,rfl,hz (hw.gw G12) cl hen el hH I (G2.keep _ _ h5) e1 nn λS3 G3=>?_⟩;have G13:=G12.trans G3;refine⟨_,rfl,by show 1<=100000;decide,?_⟩;have G14:Gw S (S3++[SO.lst [w9 (.row x.2 ((frL es cs e.1 H).headD 0) x.1)]]):=G13.push;have h7:(S3++[SO.lst [w9 (.row x.2 ((frL es cs e.1 H).headD 0) x.1)]])[S3.length]?=some (SO.lst [w9 (.row x.2 ((frL es cs e.1 H).headD 0) x.1)]):=f8;have h54:(S3++[SO.lst [w9 (.row x.2 ((frL es cs e.1 H).headD 0) x.1)]])[l5]?=some (SO.lst (F.map A7)):=j7 (G3.keep _ _ (G2.keep _ _ h5));generalize S3++[SO.lst [w9 (.row x.2 ((frL es cs e.1 H).headD 0) x.1)]]=S4 at *;refine⟨_,rfl,_,rfl,_,rfl,_,rfl,ho g hen el hH ok (hw.gw G14) λl6 S5 G5 l6l h6=>?_⟩;have cl1:=(BT g hen hH ok).P.len;refine⟨_,rfl,_,rfl,_,rfl,hd (Hv.loc h6) cl1 hen el hH I (G5.keep _ _ h54) (λhn2=>by rw[hn2]at e2;cases e2) λs2 hs2 l8 S6 G6 l8l h8=>?_⟩;rw[e2]at hs2;cases hs2;have ls:=Bs (n:=n) (t0:=t) (cs:=cs) fl e2;refine⟨_,_,(G5.trans G6).keep _ _ h7,h8,by rw[Vm];show 1+_<=100000;omega,?_⟩;refine sv _ rfl _ _ ((G14.trans G5).trans G6).push ((G14.trans G5).trans G6).len ?_;rw[f8];rfl
 ·refine⟨_,rfl,.inl ⟨rfl,_,rfl,ifT rfl ⟨_,rfl,?_⟩⟩⟩;rw[hs]at sv;exact sv _ rfl l S2 (G1.trans G2) (WH G1.len l2) h2
def KW(kc ke ks:Nat):List Stm:=[(.expr (.call kc (.cons (.var 0) (.cons (.var 2) .nil)))),(.expr (.call ke (.cons (.var 0) (.cons (.var 3) .nil)))),(.iff (.cmp .IsNot (.ix (.var 1) (.var 2)) (.c .non)) [(.ret (.lst .nil))] []),(.ret (.call ks (.cons (.var 0) (.cons (.var 1) (.cons (.var 2) (.cons (.var 3) .nil))))))]
noncomputable def OR(s:Sn):Prop:=∀{n H t m:Nat} {w:SV} {es:EE} {cs:List Nat} {S:Sto} {Q:QE},Hv S w cs->Hg H es cs->(∀ e∈es,e.1<e.2/\e.2<n)->n<=1000->es.length<=60->H<=1000->t<es.length->IsTh es m->v8 es n+m<=H->(∀(l:Nat) (S':Sto),Gw S S'->S.length<=l->S'[l]?=some (.lst ((EH es cs t H).map w9))->Q (.loc l) S')->s [i8 n es,w,.int (t:Nat),.int (H:Nat)] S Q
theorem Qq{kc ke ks:Nat}(hc:BO (Δ kc))(he:Fu (Δ ke))(hs:Cg (Δ ks)){D:Df}(hb:D.body=KW kc ke ks)(hN:D.N.length=4)(hp:D.ps.length=4):OR (g9 Δ D):=by
 intro n H t m w es cs S Q hw g hen nn el hH tl hm hmH q;have hcu:=u7 (cs:=cs) (t:=t) (by rw[g.P.len];exact tl);have pg:=p9 hcu;unfold EH at q;unfold g9;rw[hb,hN];refine⟨hp.symm,_,rfl,_,rfl,hc tl ⟨_,rfl,_,rfl,he hen nn (by omega) hm hmH λS1 G1=>?_⟩⟩;by_cases z:hu cs t<1000
 ·rw[p6 z]at pg;rw[iP z]at q;exact⟨_,rfl,_,rfl,_,_,(hw.gw G1).seq,i6 pg,.inl ⟨rfl,_,rfl,ifT rfl ⟨by show 0<=100000;decide,q _ _ G1.push G1.len f8⟩⟩⟩
 ·rw[w5 z]at pg;rw[iG z]at q;refine⟨_,rfl,_,rfl,_,_,(hw.gw G1).seq,i6 pg,.inl ⟨rfl,_,rfl,ifF rfl (f7 ?_)⟩⟩;exact⟨_,rfl,_,rfl,_,rfl,_,rfl,hs (hw.gw G1) g hen el hH tl z hm hmH λl S' G' l' h'=>q l S' (G1.trans G') (WH G1.len l') h'⟩
end
theorem Hh(m:Nat):(Vx m [SV.non]).flatten=f9 (cs0 m):=by
 rw[O0];unfold f9 cs0;rw[Xh];refine Xl λt _=>?_;show SV.non=pS (1000+t);rw[w5 (by omega)]
theorem Ls{xs:List SV}{x:SV}(h:xs[xs.length - 1]?=some x):atI xs (-1)=some x:=by
 have ne:xs≠[]:=λz=>by rw[z]at h;cases h
 have e:xs=xs.dropLast++[x]:=by
  have l:=XG ne;rw[XN,h]at l;rw[oj l];exact(Xv ne).symm
 rw[e];exact GI _ _
section
variable{Δ:Nat->Sn}
def by3:Stm:=(.asg (.nm 2) (.op .Mult (.lst (.cons (.c .non) .nil)) (.bi .len (.cons (.ix (.var 0) (.c (.int 1))) .nil))))
def byL(kr kp:Nat):List Stm:=[(.asg (.nm 5) (.call kr (.cons (.var 0) (.cons (.var 2) (.cons (.var 4) (.cons (.var 1) .nil)))))),(.asg (.nm 2) (.ix (.call kp (.cons (.var 0) (.cons (.var 2) (.cons (.var 5) .nil)))) (.neg (.c (.int 1))))),(.expr (.mt .extend (.var 3) (.cons (.var 5) .nil)))]
end
def OS(cs:List Nat)(m h:Nat):List Nat:=(W4 m).filter λt=>decide (hu cs t=h)
def Ch(es:EE)(x t:Nat):Bool:=match es[t]? with | some e=>(decide (e.1=x)||decide (e.2=x)) | none=>false
theorem hasE_iff{es:EE}{x t:Nat}:Ch es x t=true↔AtP es t x:=by
 unfold Ch AtP;cases es[t]? with
 | none=>simp
 | some e=>simp
theorem OT{es:EE}{cs:List Nat}{x one:Nat}(P:Prp es cs):(OS cs es.length one).filter (Ch es x)=(r6 es cs x one).toList:=by
 unfold OS;rw[Xo]
 have mem:∀ t,(Ch es x t&&decide (hu cs t=one))=true↔AtP es t x/\hu cs t=one:=λt=>by
  rw[Vn,hasE_iff,dQ]
 cases hz:r6 es cs x one with
 | none=>
   rw[Option.toList_none,List.filter_eq_nil_iff];intro u hu' z;obtain⟨z1,z2⟩:=(mem u).mp z;exact AS hz u z1 z2
 | some t=>
   obtain⟨at',hc⟩:=p8 hz;refine O5 at'.lt ((mem t).mpr ⟨at',hc⟩) λu ul hu'=>?_;obtain⟨u1,u2⟩:=(mem u).mp hu';exact P.one u t x u1 at' (u2.trans hc.symm)
section
variable{Δ:Nat->Sn}
def KY(v:Str)(kc:Nat):List Stm:=[(.ret (.max1 (.op .Add (.lst (.cons (.c (.int 0)) .nil)) (.comp ["_law_place"] [v] [0] (.nm 0) (.rng1 (.ix (.var 0) (.c (.int 0)))) .no (.call kc (.cons (.var 1) (.cons (.var 0) .nil)))))))]
theorem Lu(hΔ:∀ f,MonoN (Δ f)){v:Str}{kc:Nat}(hc:E7 (Δ kc)){D:Df}(hb:D.body=KY v kc)(hN:D.N.length=1)(hp:D.ps.length=1):K9 (g9 Δ D):=by
 intro n es S Q hel hn q;unfold g9;rw[hb,hN];refine⟨hp.symm,by show 1<=big;decide,_,rfl,_,_,rfl,rfl,_,rfl,⟨by omega,by omega⟩,?_⟩;have h0:(S++[SO.lst [SV.int 0]])[S.length]?=some (.lst [SV.int 0]):=f8;have G0:Gw S (S++[SO.lst [SV.int 0]]):=(Gw.refl S).push;generalize hk:S.length=k at *;generalize S++[SO.lst [SV.int 0]]=S1 at *;refine m7 (p4 hΔ _).2 (c9 hΔ _).1 (λi ys S2=>Gw S1 S2/\ys=cS i (t4 es)) ⟨Gw.refl S1,rfl⟩ (λ_ _ _ _=>trivial) ?_ ?_
 ·rintro i x ys S2 hx ⟨G2,rfl⟩;obtain⟨rfl,hi⟩:=AE hx;rw[X2]at hi ⊢;refine⟨_,rfl,_,rfl,hc hel λS3 G3=>⟨by rw[Bq];show _<100000;omega,G2.trans G3,?_⟩⟩;unfold cS;rw[XQ,WB];rfl
 ·rintro ys S2 ⟨G2,rfl⟩;rw[u4,show((n:Int) - 0).toNat=n by omega];refine⟨_,_,j7 (G2.keep _ _ h0),f8,by rw[Bq];show 1+n<=100000;omega,S2.length+1,(0::(W4 n).map λp=>((t4 es p:Nat):Int)),?_,?_,ZN _,λm g=>?_⟩
  ·rw[Vo];rfl
  ·rw[K7,show S2.length+1=(S2++[SO.lst (((W4 n).map λp=>((t4 es p:Nat):Int)).map SV.int)]).length by rw[Vo];rfl,f8];rfl
  ·rw[Ld g];exact q _ (G0.trans G2).push.push
theorem OU{es:EE}{m:Int}(h:Grt (0::es.map λe=>((es.count e:Nat):Int)) m):∃ k:Nat,m=(k:Int)/\IsTh es k:=by
 obtain⟨h1,h2⟩:=h
 have le:∀ k:Nat,m=(k:Int)->∀ e,es.count e<=k:=λk ek e=>by
  by_cases z:e∈es
  ·have:=h2 _ (Vz _ (WC.mpr ⟨e,z,rfl⟩));omega
  ·rw[Y1.mpr z];omega
 rcases W5.mp h1 with z | z
 ·exact⟨0,z,le 0 z,.inl rfl⟩
 ·obtain⟨e,he,ee⟩:=WC.mp z;exact⟨es.count e,ee.symm,le _ ee.symm,.inr ⟨e,he,rfl⟩⟩
def thI:Ex:=(.comp ["_law_other"] ["_law_pair"] [0] (.nm 0) (.seq (.ix (.var 1) (.c (.int 1)))) (.yes (.eqp (.var 0) (.var 1))) (.var 0))
def KZ(v:Str):List Stm:=[(.ret (.max1 (.op .Add (.lst (.cons (.c (.int 0)) .nil)) (.comp ["_law_pair"] [v] [0] (.nm 0) (.seq (.ix (.var 0) (.c (.int 1)))) .no (.bi .len (.cons thI .nil))))))]
theorem Lv(hΔ:∀ f,MonoN (Δ f)){v:Str}{D:Df}(hb:D.body=KZ v)(hN:D.N.length=1)(hp:D.ps.length=1):Cf (g9 Δ D):=by
 intro n es S Q el q;unfold g9;rw[hb,hN];refine⟨hp.symm,by show 1<=big;decide,_,rfl,_,_,rfl,rfl,_,rfl,?_⟩;have h0:(S++[SO.lst [SV.int 0]])[S.length]?=some (.lst [SV.int 0]):=f8;have G0:Gw S (S++[SO.lst [SV.int 0]]):=(Gw.refl S).push;generalize hk:S.length=k at *;generalize S++[SO.lst [SV.int 0]]=S1 at *;refine m7 (p4 hΔ _).2 (c9 hΔ _).1 (λi ys S2=>Gw S1 S2/\ys=((es.take i).map λe=>((es.count e:Nat):Int)).map SV.int) ⟨Gw.refl S1,rfl⟩ (λ_ _ _ _=>trivial) ?_ ?_
 ·rintro i x ys S2 hx ⟨G2,rfl⟩;obtain⟨e,he,rfl⟩:=AO hx;have il:=(gM he).1;refine⟨_,rfl,_,_,rfl,rfl,_,rfl,?_⟩;refine m7 (p4 hΔ _).2 (c9 hΔ _).1 (λj ys S3=>S3=S2/\ys=((es.take j).filter λf=>decide (f=e)).map pairS) ⟨rfl,rfl⟩ (λ_ _ _ _=>trivial) ?_ ?_
  ·rintro j x ys S3 hx ⟨rfl,rfl⟩;obtain⟨f,hf,rfl⟩:=AO hx;have jl:=(gM hf).1
   have es':(es.take (j+1)).filter (λf=>decide (f=e))=(es.take j).filter (λf=>decide (f=e))++if decide (f=e)=true then [f] else []:=by
    rw[WZ,hf,Xd]
    congr 1
    show Z5 _ [f]=_;rw[X7];rfl
   have ll:((es.take j).filter λf=>decide (f=e)).length<=j:=by
    have:=XJ (λf=>decide (f=e)) (es.take j);rw[Wp]at this;omega
   refine⟨_,rfl,_,rfl,(f.1:Int),(f.2:Int),(e.1:Int),(e.2:Int),rfl,rfl,_,rfl,?_⟩
   rw[show decide ((f.1:Int)=(e.1:Int)/\(f.2:Int)=(e.2:Int))=decide (f=e) by
    rw[decide_eq_decide];exact⟨λz=>Prod.ext (WW.mp z.1) (WW.mp z.2),λz=>by rw[z];exact⟨rfl,rfl⟩⟩]
   refine ifD (λz=>?_) (λz=>⟨rfl,?_⟩)
   ·rw[iP (decide_eq_true z)]at es';exact⟨_,rfl,by rw[Vm];show _<100000;omega,rfl,by rw[es',WB];rfl⟩
   ·rw[iG (by simpa using z),Wl]at es';rw[es']
  ·rintro ys S3 ⟨rfl,rfl⟩;rw[Vm,WV];refine⟨_,f6 f8,by rw[Vm,Vm,Wp];show _<100000;omega,G2.push,?_⟩;rw[WZ,he,WB,WB,Vm]
   congr 1
   show[SV.int ((((es.filter λf=>decide (f=e)).length:Nat):Int))]=[SV.int (((es.count e:Nat):Int))]
   rw[show es.count e=(es.filter λf=>decide (f=e)).length by
    show es.countP (· == e)=_;rw[Xu]
    congr 1
    exact YA λf _=>by rw[Wd];simp]
 ·rintro ys S2 ⟨G2,rfl⟩;rw[Vm,WV];refine⟨_,_,j7 (G2.keep _ _ h0),f8,by rw[Vm,Vm];show 1+_<=100000;omega,S2.length+1,(0::es.map λe=>((es.count e:Nat):Int)),?_,?_,ZN _,λm g=>?_⟩
  ·rw[Vo];rfl
  ·rw[show S2.length+1=(S2++[SO.lst ((es.map λe=>((es.count e:Nat):Int)).map SV.int)]).length by rw[Vo];rfl,f8];rfl
  ·obtain⟨k',e,h'⟩:=OU g;rw[e];exact q k' _ h' (G0.trans G2).push.push
def lrC:Stm:=(.asg (.nm 8) (.comp ["_law_tie","_law_pair"] ["_law_place","_law_hueing","_law_due"] [2,1,6] (.tup (.cons (.nm 0) (.cons (.nm 1) .nil))) (.enum (.ix (.var 0) (.c (.int 1)))) (.yes (.and (.cmp .In (.var 2) (.var 1)) (.cmp .Eq (.ix (.var 3) (.var 0)) (.var 4)))) (.var 0)))
def lrE:List Stm:=[(.iff (.cmp .Eq (.var 8) (.lst .nil)) [(.ret (.var 5))] []),(.expr (.mt .append (.var 5) (.cons (.ix (.var 8) (.c (.int 0))) .nil))),(.asg (.nm 2) (.op .Sub (.sum2 (.ix (.ix (.var 0) (.c (.int 1))) (.ix (.var 8) (.c (.int 0))))) (.var 2))),(.asg (.nm 6) (.op .Sub (.op .Add (.var 3) (.var 4)) (.var 6)))]
def OV:List Stm:=[(.asg (.nm 5) (.lst .nil)),(.asg (.nm 6) (.var 3)),(.loop (.nm 7) (.rng1 (.bi .len (.cons (.ix (.var 0) (.c (.int 1))) .nil))) (lrC::lrE)),(.ret (.var 5))]
theorem OW{es:EE}{cs:List Nat}{x one:Nat}(P:Prp es cs):(W4 es.length).filter (λt=>Ch es x t&&decide (hu cs t=one))=(r6 es cs x one).toList:=by
 rw[<-OT P];unfold OS;rw[Xo]
theorem OX(hΔ:∀ f,MonoN (Δ f)){D:Df}(hb:D.body=OV)(hN:D.N.length=9)(hp:D.ps.length=5):Cz (g9 Δ D):=by
 intro n p a b w es cs S Q hk a9 b9 P hen hel hpn ab hno q;have hne:∀ e∈es,e.1≠e.2:=λe he=>W0 (hen e he).1;have hl:=P.len;have ml:(es.map pairS).length=es.length:=Vm ..;unfold g9;rw[hb,hN];refine⟨hp.symm,by show 0<=100000;decide,_,rfl,?_⟩;have h5:(S++[SO.lst []])[S.length]?=some (SO.lst []):=f8;have GS:=(Gw.refl S).push (o:=SO.lst []);refine⟨_,rfl,_,_,rfl,rfl,_,rfl,_,rfl,⟨by rw[ml];omega,by rw[ml];omega⟩,?_⟩;rw[ml];generalize S++[SO.lst []]=S4 at *;generalize hl5:S.length=l at *
 have done:∀(r:List Nat) (x one other:Nat) (S5:Sto),RwI es cs a b p r x one other->r++rwF es cs (es.length+1 - r.length) x one other=rwF es cs (es.length+1) p a b->r6 es cs x one=none->Gw S S5->S5[l]?=some (.lst (i7 r))->Q (.loc l) S5:=by
  intro r x one other S5 R er hz G hr;have rl:=R.len
  have e0:rwF es cs (es.length+1 - r.length) x one other=[]:=by
   rw[show es.length+1 - r.length=(es.length - r.length)+1 by omega];unfold rwF;rw[hz]
  rw[e0,Wl]at er;exact q l S5 G (Vt _) (by rw[hr,er])
 refine t7 (j5 hΔ _) (λj ρ S5=>∃(r:List Nat) (x one other:Nat) (o7 o8:Option SV),ρ=[some (i8 n es),some w,some (.int (x:Nat)),some (.int (a:Nat)),some (.int (b:Nat)),some (.loc l),some (.int (one:Nat)),o7,o8]/\RwI es cs a b p r x one other/\x<n/\r++rwF es cs (es.length+1 - r.length) x one other=rwF es cs (es.length+1) p a b/\r.length=j/\Gw S S5/\S5[l]?=some (.lst (i7 r))) ⟨[],p,a,b,none,none,rfl,RwI.nil hno,hpn,rfl,rfl,GS,h5⟩ (λ_ _ _ _=>trivial) ?_ ?_
 ·rintro j z ρ S5 E hE hR hz ⟨r,x,one,other,o7,o8,rfl,R,xn,er,rj,G,hr⟩;have rl:=R.len;have hk':=hk.gw G;have o9':one<1000:=by rcases R.ab.1 with z | z<;>rw[z]<;>assumption
  refine⟨_,rfl,_,_,rfl,rfl,_,rfl,?_⟩;refine m7 (p4 hΔ _).2 (c9 hΔ _).1 (λj ys S6=>S6=S5/\ys=i7 ((W4 j).filter λt=>Ch es x t&&decide (hu cs t=one))) ⟨rfl,rfl⟩ (λ_ _ _ _=>trivial) ?_ ?_
  ·rintro i y ys S6 hy ⟨rfl,rfl⟩;obtain⟨y',hy',rfl⟩:=B4 hy;obtain⟨e,he,rfl⟩:=AO hy';have il:=(gM he).1;have fs:=E4 (λt=>Ch es x t&&decide (hu cs t=one)) i;have fl:=BR (λt=>Ch es x t&&decide (hu cs t=one)) i;have hc:=u7 (cs:=cs) (t:=i) (by omega);have hEe:Ch es x i=(decide (e.1=x)||decide (e.2=x)):=by unfold Ch;rw[he]
   refine⟨_,rfl,_,rfl,rfl,_,rfl,rfl,_,rfl,?_⟩;show if inS (.int x) [.int e.1,.int e.2]=true then _ else _
   rw[Aw,<-hEe];cases hh:Ch es x i with
   | false=>
     rw[hh,Z9,iG (by decide),Wl]at fs;exact ifF rfl (ifF rfl ⟨rfl,by rw[fs]⟩)
   | true=>
     rw[hh,YC]at fs;refine ifT rfl ⟨_,rfl,_,rfl,_,_,hk'.seq,i6 (p9 hc),_,rfl,RV o9' ⟨_,rfl,ifD (λz=>?_) (λz=>⟨rfl,?_⟩)⟩⟩
     ·rw[iP (decide_eq_true z)]at fs;exact⟨_,rfl,by rw[n6];show _<100000;omega,rfl,by rw[fs,AB];rfl⟩
     ·rw[iG (by simpa using z),Wl]at fs;rw[fs]
  rintro ys S6 ⟨rfl,rfl⟩;rw[BP,ml,OW P];have hr2:=j7 (o:=SO.lst (i7 (r6 es cs x one).toList)) hr;have G2:=G.push (o:=SO.lst (i7 (r6 es cs x one).toList));have h8:(S6++[SO.lst (i7 (r6 es cs x one).toList)])[S6.length]?=_:=f8;have s7:l<S6.length:=(gM hr).1;show wSs Δ lrE _ [some (i8 n es),some w,some (.int (x:Nat)),some (.int (a:Nat)),some (.int (b:Nat)),some (.loc l),some (.int (one:Nat)),some z,some (.loc S6.length)] (S6++[SO.lst (i7 (r6 es cs x one).toList)]);generalize S6++[SO.lst (i7 (r6 es cs x one).toList)]=S8 at *;generalize S6.length=l8 at *;cases hz:r6 es cs x one with
  | none=>
    rw[hz]at h8;refine⟨_,rfl,by show 0<=100000;decide,_,_,j7 h8,f8,.inr (.inr rfl),_,rfl,ifT rfl ?_⟩;exact⟨_,rfl,hR _ _ (done r x one other _ R er hz G2.push (j7 hr2))⟩
  | some t=>
    rw[hz]at h8;obtain⟨⟨e,he,hx⟩,hcx⟩:=p8 hz;have hee:=hen e (Vp he);have ge:es.getD t (0,0)=e:=by rw[Vq,he];rfl
    have R':=R.step P ab he hx (hne e (Vp he)) hcx;have fn:AF e x<n:=by unfold AF;split<;>omega
    have e1:rwF es cs (es.length+1 - r.length) x one other=t::rwF es cs (es.length+1 - (r++[t]).length) (AF e x) other one:=by
     rw[show es.length+1 - r.length=(es.length - r.length)+1 by omega,show es.length+1 - (r++[t]).length=es.length - r.length by rw[Vo];simp]
     conv=>lhs;unfold rwF
     rw[hz];dsimp only;rw[ge]
    refine⟨_,rfl,by show 0<=100000;decide,_,_,j7 h8,f8,.inr (.inr rfl),_,rfl,ifF rfl (f7 ?_)⟩;have hr3:=j7 (o:=SO.lst []) hr2;have h83:=j7 (o:=SO.lst []) h8;have G3:=G2.push (o:=SO.lst []);generalize S8++[SO.lst []]=S9 at *;refine⟨_,rfl,⟨_,_,rfl,hr3⟩,_,rfl,_,_,f6 h83,rfl,_,hr3,by rw[n6];show _<100000;omega,?_⟩;have h3:(S9.set l (.lst (i7 r++[.int (t:Nat)])))[l]?=some (.lst (i7 (r++[t]))):=by rw[n9 hr3,AB];rfl
    have G4:Gw S (S9.set l (.lst (i7 r++[.int (t:Nat)]))):=G3.put (Yo hl5);have h84:(S9.set l (.lst (i7 r++[.int (t:Nat)])))[l8]?=some (.lst [.int (t:Nat)]):=by rw[y9 (by omega)];exact h83
    generalize S9.set l (.lst (i7 r++[.int (t:Nat)]))=S10 at *;have ge2:(es.map pairS)[t]?=some (pairS e):=by rw[Vu,he];rfl
    refine⟨_,rfl,_,_,rfl,rfl,_,rfl,_,_,f6 h84,rfl,_,_,rfl,i6 ge2,(e.1:Int),(e.2:Int),rfl,_,rfl,?_⟩;refine⟨_,rfl,_,rfl,_,rfl,?_⟩
    have fin:∀ z1 z2:Int,z1=((AF e x:Nat):Int)->z2=((other:Nat):Int)->E.nx [some (i8 n es),some w,some (.int z1),some (.int (a:Nat)),some (.int (b:Nat)),some (.loc l),some (.int z2),some z,some (.loc l8)] S10:=by
     rintro _ _ rfl rfl;exact hE _ _ ⟨r++[t],AF e x,other,one,_,_,rfl,R',fn,by rw[<-er,e1];simp,by rw[Vo,rj];rfl,G4,h3⟩
    refine fin _ _ ?_ ?_
    ·unfold AF;split<;>omega
    ·have:=R.d1;have:=R.d2;by_cases c:r.length % 2=0
     ·rw[iP c]at *;omega
     ·rw[iG c]at *;omega
 ·rintro ρ S5 ⟨r,x,one,other,o7,o8,rfl,R,xn,er,rj,G,hr⟩;rw[u4,show((es.length:Int) - 0).toNat=es.length by omega]at rj
  have hz:r6 es cs x one=none:=by
   cases hz:r6 es cs x one with
   | none=>rfl
   | some t=>
     obtain⟨⟨e,he,hx⟩,hcx⟩:=p8 hz;have:=(R.step P ab he hx (hne e (Vp he)) hcx).len;rw[Vo]at this;simp at this;omega
  exact⟨_,rfl,done r x one other _ R er hz G hr⟩
def OY:List Stm:=[(.ret (.comp ["_law_tie","_law_pair"] ["_law_place","_law_hueing"] [2,1] (.tup (.cons (.nm 0) (.cons (.nm 1) .nil))) (.enum (.ix (.var 0) (.c (.int 1)))) (.yes (.and (.cmp .In (.var 2) (.var 1)) (.cmp .IsNot (.ix (.var 3) (.var 0)) (.c .non)))) (.ix (.var 3) (.var 0))))]
def Fw(s:Sn):Prop:=∀{n p:Nat} {w:SV} {es:EE} {cs:List Nat} {S:Sto} {Q:QE},Hv S w cs->cs.length=es.length->es.length<=60->(∀(l:Nat) (L:List Nat) (S':Sto),Gw S S'->S'[l]?=some (.lst (i7 L))->(∀ h∈L,∃ u,AtP es u p/\hu cs u=h)->Q (.loc l) S')->s [i8 n es,w,.int (p:Nat)] S Q
theorem OZ(hΔ:∀ f,MonoN (Δ f)){D:Df}(hb:D.body=OY)(hN:D.N.length=3)(hp:D.ps.length=3):Fw (g9 Δ D):=by
 intro n p w es cs S Q hk hl hel q;have ml:(es.map pairS).length=es.length:=Vm ..;unfold g9;rw[hb,hN];refine⟨hp.symm,_,rfl,_,_,rfl,rfl,_,rfl,?_⟩;refine m7 (p4 hΔ _).2 (c9 hΔ _).1 (λj ys S2=>S2=S/\∃ L:List Nat,ys=i7 L/\L.length<=j/\∀ h∈L,∃ u,AtP es u p/\hu cs u=h) ⟨rfl,[],rfl,Vt _,(λ_ h=>nomatch h)⟩ (λ_ _ _ _=>trivial) ?_ ?_
 ·rintro i y ys S2 hy ⟨rfl,L,rfl,ll,lm⟩;obtain⟨y',hy',rfl⟩:=B4 hy;obtain⟨e,he,rfl⟩:=AO hy';have il:=(gM he).1;have hc:=u7 (cs:=cs) (t:=i) (by omega);have hEe:Ch es p i=(decide (e.1=p)||decide (e.2=p)):=by unfold Ch;rw[he]
  refine⟨_,rfl,_,rfl,rfl,_,rfl,rfl,_,rfl,?_⟩;show if inS (.int p) [.int e.1,.int e.2]=true then _ else _
  rw[Aw,<-hEe];cases hh:Ch es p i with
  | false=>exact ifF rfl (ifF rfl ⟨rfl,L,rfl,by omega,lm⟩)
  | true=>
    refine ifT rfl ⟨_,rfl,_,rfl,_,_,hk.seq,i6 (p9 hc),.inl ⟨rfl,_,rfl,?_⟩⟩;show if (if true=true then !A9 (pS (hu cs i)) else A9 (pS (hu cs i)))=true then _ else _
    rw[iP rfl,CL,Yt];refine ifD (λz=>?_) (λz=>⟨rfl,L,rfl,by omega,lm⟩);refine⟨_,rfl,_,rfl,_,_,hk.seq,i6 (p9 hc),by rw[n6];show _<100000;omega,rfl,L++[hu cs i],?_,by rw[Vo];simp;omega,λh hh'=>?_⟩
    ·rw[AB,p6 z];rfl
    ·rcases WM.mp hh' with y | y
     ·exact lm h y
     ·rw[W8.mp y];exact⟨i,hasE_iff.mp hh,rfl⟩
 ·rintro ys S2 ⟨rfl,L,rfl,ll,lm⟩;exact q _ L _ (Gw.refl S2).push f8 lm
def sA:List Stm:=[(.asg (.nm 3) (.bi .list (.cons (.var 1) .nil))),(.asg (.nm 4) (.bi .len (.cons (.ix (.var 0) (.c (.int 1))) .nil)))]
noncomputable def sR(kr kh:Nat):List Stm:=[(.asg (.tup (.cons (.nm 5) (.cons (.nm 6) (.cons (.nm 7) .nil)))) (.slc (.var 2) (.yes (.c (.int 1))) .no)),(.iff (.or (.not (.chn .LtE .Lt (.c (.int 0)) (.var 5) (.ix (.var 0) (.c (.int 0))))) (.or (.cmp .Eq (.var 6) (.var 7)) (.cmp .In (.var 7) (.call kh (.cons (.var 0) (.cons (.var 1) (.cons (.var 5) .nil))))))) [(.ret (.c .non))] []),(.loop (.nm 8) (.seq (.call kr (.cons (.var 0) (.cons (.var 1) (.cons (.var 5) (.cons (.var 6) (.cons (.var 7) .nil))))))) [(.put (.var 3) (.var 8) (.op .Sub (.op .Add (.var 6) (.var 7)) (.ix (.var 1) (.var 8))))]),(.ret (.var 3))]
def sW(w:Str):Ex:=(.cmp .Eq (.ix (.var 2) (.c (.int 0))) (.c (.str w)))
def sB:Stm:=(.iff (.or (.not (.chn .LtE .Lt (.c (.int 0)) (.ix (.var 2) (.c (.int 1))) (.var 4))) (.cmp .NotEq (.cmp .Is (.ix (.var 3) (.ix (.var 2) (.c (.int 1)))) (.c .non)) (sW "hue"))) [(.ret (.c .non))] [])
def sM(km:Nat):List Stm:=[(.iff (.or (.not (.chn .LtE .Lt (.c (.int 0)) (.ix (.var 2) (.c (.int 2))) (.var 4))) (.or (.cmp .IsNot (.ix (.var 3) (.ix (.var 2) (.c (.int 2)))) (.c .non)) (.not (.call km (.cons (.var 0) (.cons (.ix (.var 2) (.c (.int 1))) (.cons (.ix (.var 2) (.c (.int 2))) .nil))))))) [(.ret (.c .non))] []),(.put2 (.var 3) (.ix (.var 2) (.c (.int 1))) (.var 3) (.ix (.var 2) (.c (.int 2))) (.tup (.cons (.c .non) (.cons (.ix (.var 1) (.ix (.var 2) (.c (.int 1)))) .nil))))]
def sZ(ki:Nat):Stm:=(.ret (.ife (.call ki (.cons (.var 0) (.cons (.var 3) .nil))) (.var 3) (.c .non)))
noncomputable def Hi(kr kh km ki:Nat):List Stm:=sA++[(.iff (sW "row") (sR kr kh) []),sB,(.iff (sW "hue") [(.put (.var 3) (.ix (.var 2) (.c (.int 1))) (.ix (.var 2) (.c (.int 2))))] []),(.iff (sW "drop") [(.put (.var 3) (.ix (.var 2) (.c (.int 1))) (.c .non))] []),(.iff (sW "move") (sM km) []),sZ ki]
def F7(s:Sn):Prop:=∀{n H k:Nat} {es:EE} {cs:List Nat} {st:Sp3} {S:Sto} {Q:QE},Hg H es cs->(∀ e∈es,e.1<e.2/\e.2<n)->es.length<=60->H<=1000->Ok3 n H es cs st->S[k]?=some (.lst (f9 cs))->(∀(l:Nat) (S':Sto),Gw S S'->S.length<=l->S'[l]?=some (.lst (f9 (st3 es cs st)))->Q (.loc l) S')->s [i8 n es,.loc k,w9 st] S Q
theorem Rg{ki n H l:Nat}(hi:Ax (Δ ki)){es:EE}{cs:List Nat}{S0 S:Sto}{Q:QE}{o1 o2 o4 o5 o6 o7 o8:Option SV}(g:Hg H es cs)(hen:∀ e∈es,e.1<e.2/\e.2<n)(el:es.length<=60)(G:Gw S0 S)(l0:S0.length<=l)(h:S[l]?=some (.lst (f9 cs)))(q:∀(l:Nat) (S':Sto),Gw S0 S'->S0.length<=l->S'[l]?=some (.lst (f9 cs))->Q (.loc l) S'):wSs Δ [sZ ki] (B3 Q) [some (i8 n es),o1,o2,some (.loc l),o4,o5,o6,o7,o8] S:=by
 refine⟨_,rfl,_,rfl,hi hen el (J5 h (by rw[g.P.len];exact el)) λr S2 G2 e2=>?_⟩;have:r=true:=e2.mpr ⟨_,f6 h,Fm g.P⟩;subst this;exact⟨_,rfl,ifT rfl ⟨_,rfl,q l S2 (G.trans G2) l0 (G2.keep _ _ h)⟩⟩
theorem JA{es:EE}{t u:Nat}(h:∃ y,AtP es t y/\AtP es u y):Shr es t u:=by
 obtain⟨y,ht,hu'⟩:=h
 have go:∀ t,AtP es t y->endE es t y:=λt ⟨e,he,z⟩=>by
  have:Al es t=e:=by have:=Cb (gM he).1;rw[he]at this;exact(oj this).symm
  unfold endE;rw[this];exact z.imp Eq.symm Eq.symm
 exact shr_end.mpr ⟨y,go t ht,go u hu'⟩
theorem JB(hΔ:∀ f,MonoN (Δ f)){kr kh km ki:Nat}(hr:Cz (Δ kr))(hh:Fw (Δ kh))(hm:F1 (Δ km))(hi:Ax (Δ ki)){D:Df}(hb:D.body=Hi kr kh km ki)(hN:D.N.length=9)(hp:D.ps.length=3):F7 (g9 Δ D):=by
 intro n H k es cs st S Q g hen el hH ok hk q;have kl:=(gM hk).1;have cl:=g.P.len;have ml:(es.map pairS).length=es.length:=Vm ..;have g':=BT g hen hH ok;unfold g9;rw[hb,hN];have lo:∀ c:Nat,decide ((0:Int)<=(c:Nat))=true:=λc=>decide_eq_true (by omega);have hi':∀ c d:Nat,c<d->decide (((c:Nat):Int)<(d:Nat))=true:=λc d h=>decide_eq_true (by omega);refine⟨hp.symm,_,rfl,_,f6 hk,_,rfl,_,_,rfl,rfl,_,rfl,?_⟩;rw[ml];have G1:Gw S (S++[SO.lst (f9 cs)]):=(Gw.refl S).push;have h3:(S++[SO.lst (f9 cs)])[S.length]?=some (SO.lst (f9 cs)):=f8;have hk1:=j7 (o:=SO.lst (f9 cs)) hk;have s1:(S++[SO.lst (f9 cs)]).length=S.length+1:=by simp
 cases st with
 | hue t h=>
   obtain⟨tl,h0,h1,h2⟩:=ok;have hc:=u7 (cs:=cs) (t:=t) (by omega);have hcp:(f9 cs)[t]?=some .non:=by rw[p9 hc,w5 h0]
   refine⟨_,rfl,_,_,rfl,rfl,_,rfl,ifF (decide_eq_false (by decide)) (f7 ?_)⟩;refine⟨_,rfl,_,_,rfl,rfl,_,rfl,ifT (lo t) ⟨_,rfl,_,rfl,?_⟩⟩;rw[hi' t es.length tl];refine ifF rfl ⟨_,rfl,_,rfl,_,_,rfl,rfl,_,_,f6 h3,i6 hcp,.inl ⟨rfl,_,rfl,_,_,rfl,rfl,_,rfl,ifF rfl (f7 ?_)⟩⟩;refine⟨_,rfl,_,_,rfl,rfl,_,rfl,ifT (decide_eq_true rfl) ?_⟩;refine⟨_,rfl,_,_,rfl,rfl,_,rfl,_,rfl,_,_,rfl,rfl,_,t,h3,BN (by rw[u8];omega),?_⟩
   have h4:((S++[SO.lst (f9 cs)]).set S.length (.lst ((f9 cs).set t (.int (h:Nat)))))[S.length]?=some (.lst (f9 (st3 es cs (.hue t h)))):=by
    rw[n9 h3];show _=some (SO.lst (f9 (cs.set t h)));unfold f9;rw[Xr,p6 (by omega)]
   have G2:Gw S ((S++[SO.lst (f9 cs)]).set S.length (.lst ((f9 cs).set t (.int (h:Nat))))):=G1.put (Vt _);refine⟨_,rfl,_,_,rfl,rfl,_,rfl,ifF (decide_eq_false (by decide)) (f7 ?_)⟩;refine⟨_,rfl,_,_,rfl,rfl,_,rfl,ifF (decide_eq_false (by decide)) (f7 ?_)⟩;exact Rg hi g' hen el G2 (Vt _) h4 q
 | move t u=>
   obtain⟨tl,ul,h1,h2,sh,h4⟩:=ok;have hc:=u7 (cs:=cs) (t:=t) (by omega);have hcp:(f9 cs)[t]?=some (.int (hu cs t:Nat)):=by rw[p9 hc,p6 (by omega)]
   have hcu:=u7 (cs:=cs) (t:=u) (by omega);have hup:(f9 cs)[u]?=some .non:=by rw[p9 hcu,w5 h2]
   refine⟨_,rfl,_,_,rfl,rfl,_,rfl,ifF (decide_eq_false (by decide)) (f7 ?_)⟩;refine⟨_,rfl,_,_,rfl,rfl,_,rfl,ifT (lo t) ⟨_,rfl,_,rfl,?_⟩⟩;rw[hi' t es.length tl];refine ifF rfl ⟨_,rfl,_,rfl,_,_,rfl,rfl,_,_,f6 h3,i6 hcp,.inl ⟨rfl,_,rfl,_,_,rfl,rfl,_,rfl,ifF rfl (f7 ?_)⟩⟩;refine⟨_,rfl,_,_,rfl,rfl,_,rfl,ifF (decide_eq_false (by decide)) (f7 ?_)⟩;refine⟨_,rfl,_,_,rfl,rfl,_,rfl,ifF (decide_eq_false (by decide)) (f7 ?_)⟩;refine⟨_,rfl,_,_,rfl,rfl,_,rfl,ifT (decide_eq_true rfl) ?_⟩;refine⟨_,rfl,_,_,rfl,rfl,_,rfl,ifT (lo u) ⟨_,rfl,_,rfl,?_⟩⟩;rw[hi' u es.length ul];refine ifF rfl ⟨_,rfl,_,rfl,_,_,rfl,rfl,_,_,f6 h3,i6 hup,.inl ⟨rfl,_,rfl,ifF rfl ?_⟩⟩;refine⟨_,rfl,_,rfl,_,_,rfl,rfl,_,rfl,_,_,rfl,rfl,hm tl ul λr er=>⟨_,rfl,?_⟩⟩;have:r=true:=er.mpr (JA sh);subst this;refine ifF rfl (f7 ?_);refine⟨_,rfl,_,rfl,_,_,rfl,rfl,_,_,f6 hk1,i6 hcp,by show 2<=100000;decide,_,_,rfl,_,rfl,_,rfl,_,_,rfl,rfl,_,t,h3,BN (by rw[u8];omega),?_⟩;have h31:((S++[SO.lst (f9 cs)]).set S.length (.lst ((f9 cs).set t .non)))[S.length]?=some (.lst ((f9 cs).set t .non)):=n9 h3;have G2:Gw S ((S++[SO.lst (f9 cs)]).set S.length (.lst ((f9 cs).set t .non))):=G1.put (Vt _);generalize (S++[SO.lst (f9 cs)]).set S.length (.lst ((f9 cs).set t .non))=S2 at *;refine⟨_,rfl,_,rfl,_,_,rfl,rfl,_,u,h31,BN (by rw[Wa,u8];omega),?_⟩
   have h5:(S2.set S.length (.lst (((f9 cs).set t .non).set u (.int (hu cs t:Nat)))))[S.length]?=some (.lst (f9 (st3 es cs (.move t u)))):=by
    rw[n9 h31];show _=some (SO.lst (f9 ((cs.set t (1000+t)).set u (hu cs t))));unfold f9;rw[Xr,Xr,p6 (show hu cs t<1000 by omega),w5 (show ¬ 1000+t<1000 by omega)]
   have G3:Gw S (S2.set S.length (.lst (((f9 cs).set t .non).set u (.int (hu cs t:Nat))))):=G2.put (Vt _);exact Rg hi g' hen el G3 (Vt _) h5 q
 | row p a b=>
   obtain⟨a1,b1,ab,pn,no⟩:=ok;obtain⟨x,o1,o2,R,last⟩:=Cd g.P hen ab no;have two:=Ce R;refine⟨_,rfl,_,_,rfl,rfl,_,rfl,ifT (decide_eq_true rfl) ?_⟩;refine⟨_,rfl,1,rfl,?_⟩;have cut:FS [SV.str "row",.int (p:Nat),.int (a:Nat),.int (b:Nat)] (some 1) none=[.int (p:Nat),.int (a:Nat),.int (b:Nat)]:=rfl;show wTg _ (.tup (FS [SV.str "row",.int (p:Nat),.int (a:Nat),.int (b:Nat)] (some 1) none)) _ _;rw[cut];refine⟨_,rfl,_,rfl,ifT (lo p) ⟨_,rfl,_,_,rfl,rfl,_,rfl,?_⟩⟩;rw[hi' p n pn];refine ifF rfl ⟨_,rfl,_,rfl,_,rfl,ifF (decide_eq_false λz=>ab (WW.mp z)) ⟨_,rfl,_,rfl,_,rfl,_,rfl,hh (Hv.loc hk1) cl el λl2 L S2 G2 h2 lm=>?_⟩⟩;show match BU (.loc l2) S2 with | some ms=>_ | none=>_
   rw[Ak h2];refine⟨rfl,_,f6 h2,By _,_,rfl,?_⟩;show if inS (.int (b:Nat)) (i7 L)=true then _ else _
   rw[Fk,decide_eq_false (λz=>by obtain⟨u,u1,u2⟩:=lm b z;exact no u u1 u2)];refine ifF rfl (f7 ?_);have hk2:=G2.keep _ _ hk1;have h32:=G2.keep _ _ h3;refine⟨_,rfl,_,rfl,_,rfl,_,rfl,_,rfl,hr (Hv.loc hk2) (by omega) (by omega) g.P hen (by omega) pn ab no λl S4 G4 l4 h4=>⟨_,f6 h4,?_⟩⟩;have hrr:∃ r,rwF es cs (es.length+1) p a b=r:=⟨_,rfl⟩
   have f0:S4[S.length]?=some (SO.lst (f9 cs)):=G4.keep _ _ h32;have hk4:=G4.keep _ _ hk2;have GS4:Gw S S4:=(G1.trans G2).trans G4;have g2l:=G2.len;have q':∀(S':Sto),Gw S S'->S'[S.length]?=some (.lst (f9 (exL cs (rwF es cs (es.length+1) p a b) a b)))->Q (.loc S.length) S':=λS' G' h'=>q _ S' G' (Vt _) h';clear q g';generalize rwF es cs (es.length+1) p a b=r at *;refine AN (j5 hΔ _) (λi ρ S'=>∃ o8:Option SV,ρ=[some (i8 n es),some (.loc k),some (w9 (.row p a b)),some (.loc S.length),some (.int (es.length:Nat)),some (.int (p:Nat)),some (.int (a:Nat)),some (.int (b:Nat)),o8]/\On S.length S4 S'/\S'[S.length]?=some (.lst (f9 (exL cs (r.take i) a b)))) ⟨none,rfl,On.refl _ _,by rw[ZG,KG];exact f0⟩ (λi ρ S' z=>?_) ?_ ?_
   ·obtain⟨_,_,O,_⟩:=z;show S'[l]?=S4[l]?;rw[h4];exact O.keep _ _ (by omega) h4
   ·rintro i y ρ S' hy ⟨o8,rfl,O,h5⟩;obtain⟨t,hti,rfl⟩:=BQ hy;have tr:=Vp hti;have tl:=R.lt t tr;have e:r.take (i+1)=r.take i++[t]:=by rw[WZ,hti];rfl
    have hc9:hu cs t<1000:=by rcases two t tr with z | z<;>rw[z]<;>omega
    have hcp:(f9 cs)[t]?=some (.int (hu cs t:Nat)):=by rw[p9 (u7 (by omega)),p6 hc9]
    have hk5:=O.keep _ _ (by omega) hk4
    have fin:∀ z:Int,z=((if hu cs t=a then b else a:Nat):Int)->Cq (.loc S.length) (.int (t:Nat)) (.int z) S' λS6=>∃ o8:Option SV,[some (i8 n es),some (.loc k),some (w9 (.row p a b)),some (.loc S.length),some (.int (es.length:Nat)),some (.int (p:Nat)),some (.int (a:Nat)),some (.int (b:Nat)),some (.int (t:Nat))]=[some (i8 n es),some (.loc k),some (w9 (.row p a b)),some (.loc S.length),some (.int (es.length:Nat)),some (.int (p:Nat)),some (.int (a:Nat)),some (.int (b:Nat)),o8]/\On S.length S4 S6/\S6[S.length]?=some (.lst (f9 (exL cs (r.take (i+1)) a b))):=by
     rintro _ rfl;refine⟨_,t,h5,BN (by rw[u8,AW];omega),_,rfl,O.tape,?_⟩;rw[n9 h5,e,HU (by omega)];unfold f9;rw[Xr,p6 (by split<;>omega)]
    refine⟨_,rfl,_,rfl,_,rfl,_,rfl,_,_,f6 hk5,i6 hcp,_,rfl,_,rfl,fin _ ?_⟩;rcases two t tr with z | z
    ·rw[iP z];omega
    ·rw[iG (by omega)];omega
   ·rintro ρ S' ⟨o8,rfl,O,h5⟩;rw[n6,WV]at h5;exact⟨_,rfl,q' S' (F3 GS4 O (Vt _)) h5⟩
end
theorem Fx{sts:List Sp3}{i:Nat}{x:SV}(h:(sts.map w9)[i]?=some x):∃ s,sts[i]?=some s/\x=w9 s:=by
 rw[Vu]at h;cases he:sts[i]? with
 | none=>rw[he]at h;cases h
 | some e=>rw[he]at h;exact⟨e,rfl,(oj h).symm⟩
theorem OkR3.at{n H:Nat}{es:EE}:∀{a:List Sp3} {cs:List Nat} {i:Nat} {s:Sp3},OkR3 n H es cs a->a[i]?=some s->Ok3 n H es (w6 es cs (a.take i)) s
 | [],_,_,_,_,h=>by simp at h
 | s::a,cs,0,s',h,e=>by simp at e;subst e;exact h.1
 | s::a,cs,i+1,s',h,e=>OkR3.at (a:=a) h.2 (by simpa using e)
theorem D5{es:EE}{cs:List Nat}{sts:List Sp3}{i:Nat}{s:Sp3}(h:sts[i]?=some s):w6 es cs (sts.take (i+1))=st3 es (w6 es cs (sts.take i)) s:=by
 unfold w6;rw[WZ,h];simp
theorem OkR3.hgAt{n H:Nat}{es:EE}(hen:∀ e∈es,e.1<e.2/\e.2<n)(hH:H<=1000):∀{a:List Sp3} {cs:List Nat} (i:Nat),Hg H es cs->OkR3 n H es cs a->Hg H es (w6 es cs (a.take i))
 | [],_,_,g,_=>by rw[List.take_nil];exact g
 | s::a,cs,0,g,h=>g
 | s::a,cs,i+1,g,h=>OkR3.hgAt hen hH (a:=a) i (BT g hen hH h.1) h.2
theorem Tx(n:Nat):blS (Vx n (.bl true))=some (Vx n true):=by
 induction n with
 | zero=>rfl
 | succ n ih=>rw[WQ,WQ];unfold blS;rw[ih];rfl
section
variable{Δ:Nat->Sn}
def wa1:Stm:=(.iff (.cmp .NotIn (.ix (.var 5) (.c (.int 0))) (.tup (.cons (.c (.str "hue")) (.cons (.c (.str "move")) (.cons (.c (.str "row")) .nil))))) [(.ret (.c .non))] [])
def wa2:Stm:=(.iff (.cmp .NotEq (.bi .len (.cons (.var 5) .nil)) (.op .Add (.c (.int 3)) (.bi .int (.cons (.cmp .Eq (.ix (.var 5) (.c (.int 0))) (.c (.str "row"))) .nil)))) [(.ret (.c .non))] [])
def wa4:Stm:=(.iff (.or (.cmp .Is (.var 4) (.c .non)) (.bi .any (.cons (.comp ["_law_hue"] ["_law_hues_here"] [3] (.nm 0) (.seq (.var 4)) .no (.and (.cmp .IsNot (.var 0) (.c .non)) (.cmp .GtE (.var 0) (.var 1)))) .nil))) [(.ret (.c .non))] [])
def waL(ks:Nat):List Stm:=[wa1,wa2,(.asg (.nm 4) (.call ks (.cons (.var 0) (.cons (.var 4) (.cons (.var 5) .nil))))),wa4]
def Oa(ks:Nat):List Stm:=[(.asg (.nm 4) (.bi .list (.cons (.var 1) .nil))),(.loop (.nm 5) (.seq (.var 2)) (waL ks)),(.ret (.var 4))]
def Fy(s:Sn):Prop:=∀{n H k2:Nat} {w:SV} {es:EE} {cs:List Nat} {sts:List Sp3} {S:Sto} {Q:QE},Hv S w cs->Hg H es cs->(∀ e∈es,e.1<e.2/\e.2<n)->es.length<=60->H<=1000->S[k2]?=some (.lst (sts.map w9))->OkR3 n H es cs sts->(∀(l:Nat) (S':Sto),Gw S S'->S.length<=l->S'[l]?=some (.lst (f9 (w6 es cs sts)))->Q (.loc l) S')->s [i8 n es,w,.loc k2,.int (H:Nat)] S Q
theorem Of(hΔ:∀ f,MonoN (Δ f)){ks:Nat}(hs:F7 (Δ ks)){D:Df}(hb:D.body=Oa ks)(hN:D.N.length=6)(hp:D.ps.length=4):Fy (g9 Δ D):=by
 intro n H k2 w es cs sts S Q hw g hen el hH h2 ok q;have k2l:=(gM h2).1;unfold g9;rw[hb,hN];refine⟨hp.symm,_,rfl,_,hw.seq,?_⟩;have G1:Gw S (S++[SO.lst (f9 cs)]):=(Gw.refl S).push;refine⟨_,rfl,_,f6 (j7 h2),?_⟩;refine AN (j5 hΔ _) (λi ρ S'=>∃(c:Nat) (o5:Option SV),ρ=[some (i8 n es),some w,some (.loc k2),some (.int (H:Nat)),some (.loc c),o5]/\Gw S S'/\S.length<=c/\S'[c]?=some (.lst (f9 (w6 es cs (sts.take i))))) ⟨S.length,none,rfl,G1,Vt _,f8⟩ (λ_ _ S' z=>?_) ?_ ?_
 ·obtain⟨_,_,_,G,_⟩:=z;show S'[k2]?=(S++[SO.lst (f9 cs)])[k2]?;rw[j7 h2];exact G.keep _ _ h2
 ·rintro i x ρ S' hx ⟨c,o5,rfl,G,cl,hc⟩;obtain⟨s,hsi,rfl⟩:=Fx hx;have gi:=ok.hgAt hen hH i g;have oki:=ok.at hsi;have gs:=ok.hgAt hen hH (i+1) g;rw[D5 hsi]at gs
  have w1:∀(E:EndsS) (st:List Stm) (S1:Sto),wSs Δ st E [some (i8 n es),some w,some (.loc k2),some (.int (H:Nat)),some (.loc c),some (w9 s)] S1->wSs Δ (wa1::wa2::st) E [some (i8 n es),some w,some (.loc k2),some (.int (H:Nat)),some (.loc c),some (w9 s)] S1:=by
   intro E st S1 h;cases s with
   | hue t h'=>
     refine⟨_,rfl,_,_,rfl,rfl,by show 3<=100000;decide,rfl,_,rfl,rfl,_,rfl,ifF (by decide) (f7 ?_)⟩;exact⟨_,rfl,_,rfl,_,rfl,_,_,rfl,rfl,_,rfl,ifF (show(!decide (((3:Nat):Int)=3+if decide (("hue":Str)="row")=true then 1 else 0))=false by decide) (f7 h)⟩
   | move t u=>
     refine⟨_,rfl,_,_,rfl,rfl,by show 3<=100000;decide,rfl,_,rfl,rfl,_,rfl,ifF (by decide) (f7 ?_)⟩;exact⟨_,rfl,_,rfl,_,rfl,_,_,rfl,rfl,_,rfl,ifF (show(!decide (((3:Nat):Int)=3+if decide (("move":Str)="row")=true then 1 else 0))=false by decide) (f7 h)⟩
   | row p a b=>
     refine⟨_,rfl,_,_,rfl,rfl,by show 3<=100000;decide,rfl,_,rfl,rfl,_,rfl,ifF (by decide) (f7 ?_)⟩;exact⟨_,rfl,_,rfl,_,rfl,_,_,rfl,rfl,_,rfl,ifF (by simp only[WG,Wv];decide) (f7 h)⟩
  refine w1 _ _ _ ?_;refine⟨_,rfl,_,rfl,_,rfl,hs gi hen el hH oki hc λl S2 G2 l2 h3=>?_⟩;have dl:(st3 es (w6 es cs (sts.take i)) s).length<=60:=by rw[gs.P.len];exact el
  have cd:∀ u,u<es.length->hu (st3 es (w6 es cs (sts.take i)) s) u<1000->hu (st3 es (w6 es cs (sts.take i)) s) u<H:=λu ul z=>by
   rcases gs.cod u ul with y | y<;>omega
  rw[<-D5 hsi]at h3 dl cd gs;generalize w6 es cs (sts.take (i+1))=ds at *;refine⟨_,rfl,.inl ⟨rfl,_,rfl,ifF rfl ⟨_,rfl,_,f6 h3,?_⟩⟩⟩;refine m7 (p4 hΔ _).2 (c9 hΔ _).1 (λj ys S3=>S3=S2/\ys=Vx j (.bl false)) ⟨rfl,rfl⟩ (λ_ _ _ z=>by rw[z.1];exact rfl) ?_ ?_
  ·rintro j x ys S3 hx ⟨rfl,rfl⟩;obtain⟨c',hc',rfl⟩:=BS hx;have jl:=(gM hc').1;have hj:hu ds j=c':=by show ds.getD j 0=_;rw[Vq,hc'];rfl
   have ln:(Vx j (SV.bl false)).length<big:=by rw[Wj];show _<100000;omega
   refine⟨_,rfl,.inl ⟨rfl,_,rfl,?_⟩⟩;show if (if true=true then !A9 (pS c') else A9 (pS c'))=true then _ else _
   rw[iP rfl,CL,Yt];refine ifD (λz=>?_) (λz=>⟨ln,rfl,by rw[Xg]⟩);have lt:=cd j (by rw[<-gs.P.len];exact jl) (by rw[hj];exact z);rw[hj]at lt;refine⟨_,rfl,_,rfl,?_⟩;rw[p6 z];refine⟨ln,rfl,?_⟩;show Vx j (SV.bl false)++[SV.bl (decide (((H:Nat):Int)<=((c':Nat):Int)))]=_;rw[decide_eq_false (by omega),Xg]
  ·rintro ys S3 ⟨rfl,rfl⟩;refine⟨_,_,nofun,f6 f8,Qb _,_,rfl,?_⟩;rw[show ∀ n,(Vx n false).any id=false from λn=>by simp];exact ifF rfl (f7 ⟨l,_,rfl,(G.trans G2).push,WH G.len l2,j7 h3⟩)
 ·rintro ρ S' ⟨c,o5,rfl,G,cl,hc⟩;rw[Vm,WV]at hc;exact⟨_,rfl,q c S' G cl hc⟩
def go1:Stm:=(.iff (.or (.not (.bi .isi (.cons (.var 3) (.cons (.tyc .list) .nil)))) (.not (.bi .all (.cons (.comp ["_law_step"] [] [] (.nm 0) (.seq (.var 3)) .no (.bi .isi (.cons (.var 0) (.cons (.tyc .tuple) .nil)))) .nil)))) [(.ret (.c .non))] [])
def go3:Stm:=(.iff (.or (.cmp .Is (.var 5) (.c .non)) (.cmp .Is (.ix (.var 5) (.var 2)) (.c .non))) [(.ret (.c .non))] [])
def goL:List Stm:=[(.iff (.and (.cmp .NotEq (.var 6) (.var 2)) (.cmp .NotEq (.cmp .Is (.var 7) (.c .non)) (.cmp .Is (.ix (.var 5) (.var 6)) (.c .non)))) [(.ret (.c .non))] [])]
def Rh(kw:Nat):List Stm:=[go1,(.asg (.nm 5) (.call kw (.cons (.var 0) (.cons (.var 1) (.cons (.var 3) (.cons (.var 4) .nil)))))),go3,(.loop (.tup (.cons (.nm 6) (.cons (.nm 7) .nil))) (.enum (.var 1)) goL),(.ret (.var 5))]
def Og(s:Sn):Prop:=∀{n H t k2:Nat} {w:SV} {es:EE} {cs:List Nat} {sts:List Sp3} {S:Sto} {Q:QE},Hv S w cs->Hg H es cs->(∀ e∈es,e.1<e.2/\e.2<n)->es.length<=60->H<=1000->S[k2]?=some (.lst (sts.map w9))->sts.length<=1000->OkR3 n H es cs sts->Lh H es cs (w6 es cs sts) t->t<es.length->(∀(l:Nat) (S':Sto),Gw S S'->S.length<=l->S'[l]?=some (.lst (f9 (w6 es cs sts)))->Q (.loc l) S')->s [i8 n es,w,.int (t:Nat),.loc k2,.int (H:Nat)] S Q
theorem Qr(hΔ:∀ f,MonoN (Δ f)){kw:Nat}(hw':Fy (Δ kw)){D:Df}(hb:D.body=Rh kw)(hN:D.N.length=8)(hp:D.ps.length=5):Og (g9 Δ D):=by
 intro n H t k2 w es cs sts S Q hw g hen el hH h2 sl ok gets tl q;have g2:=OkR3.hg hen hH g ok;unfold g9;rw[hb,hN];refine⟨hp.symm,_,rfl,_,nofun,CI h2,_,rfl,ifF rfl ⟨_,rfl,_,f6 h2,?_⟩⟩;refine m7 (p4 hΔ _).2 (c9 hΔ _).1 (λj ys S2=>S2=S/\ys=Vx j (.bl true)) ⟨rfl,rfl⟩ (λ_ _ _ z=>by rw[z.1];exact rfl) ?_ ?_
 ·rintro j x ys S2 hx ⟨rfl,rfl⟩;obtain⟨s,hs,rfl⟩:=Fx hx;have jl:=(gM hs).1;have ln:(Vx j (SV.bl true)).length<big:=by rw[Wj];show _<100000;omega
  have e:Vx j (SV.bl true)++[SV.bl true]=Vx (j+1) (.bl true):=by rw[Xg]
  cases s<;>exact⟨_,rfl,_,nofun,rfl,ln,rfl,e⟩
 rintro ys S2 ⟨rfl,rfl⟩;refine⟨_,_,nofun,f6 f8,Tx _,_,rfl,?_⟩;rw[QT];refine ifF rfl (f7 ?_);have G1:=(Gw.refl S2).push (o:=SO.lst (Vx (sts.map w9).length (.bl true)));have h21:=G1.keep _ _ h2;have hw1:=hw.gw G1;generalize S2++[SO.lst (Vx (sts.map w9).length (.bl true))]=S1 at *;refine⟨_,rfl,_,rfl,_,rfl,_,rfl,hw' hw1 g hen el hH h21 ok λl S3 G3 l3 h3=>?_⟩;have ds:=g2.P.len;have q':∀ S',Gw S3 S'->Q (.loc l) S':=λS' G'=>q l S' ((G1.trans G3).trans G') (WH G1.len l3) (G'.keep _ _ h3);generalize w6 es cs sts=dd at *;have gt:∀ u,u<es.length->(f9 dd)[u]?=some (pS (hu dd u)):=λu ul=>p9 (u7 (by omega));have nt:A9 (pS (hu dd t))=false:=by rw[CL,decide_eq_true (show hu dd t<1000 by have:=gets.1;omega)];rfl
 refine⟨_,rfl,.inl ⟨rfl,_,rfl,ifF rfl ⟨_,rfl,_,rfl,_,_,f6 h3,i6 (gt t tl),.inl ⟨rfl,_,rfl,ifF nt (f7 ?_)⟩⟩⟩⟩;have hw3:=hw1.gw G3;refine⟨_,rfl,_,hw3.seq,?_⟩;refine t7 (j5 hΔ _) (λj ρ S4=>S4=S3/\∃ o6 o7:Option SV,ρ=[some (i8 n es),some w,some (.int (t:Nat)),some (.loc k2),some (.int (H:Nat)),some (.loc l),o6,o7]) ⟨rfl,none,none,rfl⟩ (λ_ _ _ z=>by rw[z.1];cases w<;>first | exact rfl | exact trivial) ?_ ?_
 ·rintro j x ρ S4 E hE hR hx ⟨rfl,o6,o7,rfl⟩;obtain⟨y,hy,rfl⟩:=B4 hx;obtain⟨c,hc,rfl⟩:=BS hy;have jl:j<es.length:=by have:=(gM hc).1;rw[g.P.len]at this;exact this
  have hj:hu cs j=c:=by show cs.getD j 0=_;rw[Vq,hc];rfl
  refine⟨_,rfl,_,rfl,_,rfl,?_⟩;by_cases jt:j=t
  ·rw[decide_eq_true (show((j:Nat):Int)=((t:Nat):Int) by rw[jt])];exact ifF rfl (ifF rfl (f7 (hE _ _ ⟨rfl,_,_,rfl⟩)))
  ·rw[decide_eq_false (show ¬ ((j:Nat):Int)=((t:Nat):Int) from λz=>jt (WW.mp z))];refine ifT rfl ⟨_,rfl,.inl ⟨rfl,_,rfl,_,rfl,_,_,f6 h3,i6 (gt j jl),.inl ⟨rfl,_,rfl,?_⟩⟩⟩
   have same:A9 (pS c)=A9 (pS (hu dd j)):=by
    rw[CL,CL,<-hj]
    congr 1
    rw[decide_eq_decide];have a1:=g.cod j jl;have a2:=g2.cod j jl;have a3:=gets.2 j jl jt;omega
   show if (!decide (A9 (pS c)=A9 (pS (hu dd j))))=true then _ else _
   rw[decide_eq_true same];exact ifF rfl (f7 (hE _ _ ⟨rfl,_,_,rfl⟩))
 ·rintro ρ S4 ⟨rfl,o6,o7,rfl⟩;exact⟨_,rfl,q' S4 (Gw.refl _)⟩
structure Pre3(H:Nat)(es:EE)(cs:List Nat):Prop where
 ne:∀ t u,t<u->u<cs.length->Shr es t u->hu cs t≠hu cs u
 cd:∀ u,u<cs.length->hu cs u<H\/hu cs u=1000+u
theorem Pre3.hg{H:Nat}{es:EE}{cs:List Nat}(P:Pre3 H es cs)(h:cs.length=es.length):Hg H es cs:=by
 refine⟨⟨h,λt u y ht hu' e=>?_⟩,λu ul=>P.cd u (by omega)⟩;rcases Yu t u with z | z | z
 ·exact absurd e (P.ne t u z (by have:=hu'.lt;omega) (JA ⟨y,ht,hu'⟩))
 ·exact z
 ·exact absurd e.symm (P.ne u t z (by have:=ht.lt;omega) (JA ⟨y,hu',ht⟩))
theorem Pre3.snoc{H:Nat}{es:EE}{cs:List Nat}{c:Nat}(P:Pre3 H es cs)(hc:c<H\/c=1000+cs.length)(no:∀ t,t<cs.length->Shr es t cs.length->hu cs t≠c):Pre3 H es (cs++[c]):=by
 refine⟨λt u tu ul sh=>?_,λu ul=>?_⟩
 ·rw[Vo,Wk]at ul;by_cases e:u=cs.length
  ·subst e;rw[Fl tu,KI];exact no t tu sh
  ·rw[Fl (by omega),Fl (by omega)];exact P.ne t u tu (by omega) sh
 ·rw[Vo,Wk]at ul;by_cases e:u=cs.length
  ·subst e;rw[KI];exact hc
  ·rw[Fl (by omega)];exact P.cd u (by omega)
theorem Ty{j:Nat}{T:List Nat}(hj:j<1000):inS (.int (j:Nat)) (f9 T)=decide (j∈T):=by
 unfold inS f9;rw[Xq,Wd,XE,dQ];constructor
 ·rintro⟨c,hc,z⟩;replace z:eqF (pS c) (.int (j:Nat))=true:=z;by_cases y:c<1000
  ·rw[p6 y]at z;have:((c:Nat):Int)=((j:Nat):Int):=by simpa[eqF] using z
   exact WW.mp this▸hc
  ·rw[w5 y]at z;cases z
 ·intro h;refine⟨j,h,?_⟩;show eqF (pS j) (.int (j:Nat))=true;rw[p6 hj];simp[eqF]
theorem Hj(T:List Nat):(f9 T).all AG=true:=by
 unfold f9;rw[YQ,WJ];exact λc _=>Rc c
def wi1(v:Str)(km:Nat):Stm:=(.asg (.nm 5) (.comp ["_law_k"] [v,"_law_tie","_law_found"] [1,4,3] (.nm 0) (.rng1 (.var 4)) (.yes (.call km (.cons (.var 1) (.cons (.var 0) (.cons (.var 2) .nil))))) (.ix (.var 3) (.var 0))))
def wi2:Stm:=(.asg (.nm 6) (.comp ["_law_hue"] ["_law_taken"] [5] (.nm 0) (.rng1 (.var 2)) (.yes (.cmp .NotIn (.var 0) (.var 1))) (.var 0)))
def wi3(kd:Nat):Stm:=(.iff (.or (.cmp .Eq (.var 6) (.lst .nil)) (.cmp .Eq (.call kd (.cons (.var 0) (.cons (.c (.int 6)) .nil))) (.c (.int 0)))) [(.expr (.mt .append (.var 3) (.cons (.c .non) .nil)))] [(.expr (.mt .append (.var 3) (.cons (.ix (.var 6) (.call kd (.cons (.var 0) (.cons (.bi .len (.cons (.var 6) .nil)) .nil)))) .nil)))])
def Hk(v:Str)(kd km:Nat):List Stm:=[(.asg (.nm 3) (.lst .nil)),(.loop (.nm 4) (.rng1 (.bi .len (.cons (.ix (.var 1) (.c (.int 1))) .nil))) [wi1 v km,wi2,wi3 kd]),(.ret (.var 3))]
def F8(s:Sn):Prop:=∀{t n H:Nat} {es:EE} {S:Sto} {Q:QE},TapeS S t->es.length<=60->H<=1000->(∀(l:Nat) (cs:List Nat) (S':Sto),TapeS S' t->On t S S'->S.length<=l->S'[l]?=some (.lst (f9 cs))->Hg H es cs->Q (.loc l) S')->s [.loc t,i8 n es,.int (H:Nat)] S Q
theorem JC(hΔ:∀ f,MonoN (Δ f)){v:Str}{kd km:Nat}(hd:CJ (Δ kd))(hm:F1 (Δ km)){D:Df}(hb:D.body=Hk v kd km)(hN:D.N.length=7)(hp:D.ps.length=3):F8 (g9 Δ D):=by
 intro t n H es S Q T hel hH q;have tl:=T.lt;unfold g9;rw[hb,hN];refine⟨hp.symm,by show 0<=100000;decide,?_⟩;have h1:(S++[SO.lst []])[S.length]?=some (.lst (f9 [])):=f8;refine⟨_,rfl,_,_,rfl,rfl,_,rfl,_,rfl,⟨by rw[Vm];omega,by rw[Vm];omega⟩,?_⟩;have e:(CC 0 ((es.map pairS).length:Int)).length=es.length:=by rw[u4,Vm];omega
 refine t7 (j5 hΔ _) (λi ρ S2=>∃(o4 o5 o6:Option SV) (cs:List Nat),ρ=[some (.loc t),some (i8 n es),some (.int (H:Nat)),some (.loc S.length),o4,o5,o6]/\TapeS S2 t/\S.length+1<=S2.length/\(∀(k:Nat) (o:SO),k<S.length->k≠t->S[k]?=some o->S2[k]?=some o)/\S2[S.length]?=some (.lst (f9 cs))/\cs.length=i/\Pre3 H es cs) ⟨none,none,none,[],rfl,T.push,by rw[Vo];simp,λk o _ ne h=>j7 h,h1,rfl,⟨λt u tu ul=>by simp at ul,λu ul=>by simp at ul⟩⟩ (λ_ _ _ _=>trivial) ?_ ?_
 ·rintro i x ρ S2 E hE hR hx ⟨o4,o5,o6,cs,rfl,T2,l2,K2,h2,ci,P⟩;have hi:i<es.length:=by have:=(gM hx).1;rwa [e]at this
  obtain⟨rfl,_⟩:=AE hx;rw[X2];refine⟨_,rfl,_,rfl,⟨by omega,by omega⟩,?_⟩;refine m7 (p4 hΔ _).2 (c9 hΔ _).1 (λj ys S3=>Gw S2 S3/\∃ Tk:List Nat,ys=f9 Tk/\Tk.length<=j/\∀ t,t<j->Shr es t i->hu cs t∈Tk) ⟨Gw.refl S2,[],rfl,Vt _,λt ht=>by omega⟩ (λ_ _ _ _=>trivial) ?_ ?_
  ·rintro j x ys S3 hx ⟨G,Tk,rfl,tkl,tm⟩;obtain⟨rfl,hj⟩:=AE hx;rw[X2]at hj ⊢;have hj:j<i:=by omega
   have hc:=u7 (cs:=cs) (t:=j) (by omega);refine⟨_,rfl,_,rfl,_,rfl,hm (by omega) hi λr er=>⟨_,rfl,?_⟩⟩;cases r with
   | true=>
     refine ifT rfl ⟨_,rfl,_,rfl,_,_,f6 (G.keep _ _ h2),i6 (p9 hc),by rw[u8];show _<100000;omega,G,Tk++[hu cs j],by unfold f9;rw[WB];rfl,by rw[Vo];simp;exact tkl,λt ht sh=>?_⟩;by_cases e:t=j
     ·rw[e];simp
     ·exact XR _ (tm t (by omega) sh)
   | false=>
     refine ifF rfl ⟨G,Tk,rfl,by omega,λt ht sh=>?_⟩;by_cases e:t=j
     ·rw[e]at sh;have:=er.mpr sh;cases this
     ·exact tm t (by omega) sh
  rintro ys S3 ⟨G3,Tk,rfl,tkl,tm⟩;rw[u4,show((i:Int) - 0).toNat=i by omega]at tkl tm;have h5:(S3++[SO.lst (f9 Tk)])[S3.length]?=some (SO.lst (f9 Tk)):=f8;have G4:=G3.push (o:=SO.lst (f9 Tk));generalize S3++[SO.lst (f9 Tk)]=S4 at *;generalize S3.length=l5 at *;refine⟨_,rfl,_,rfl,⟨by omega,by omega⟩,?_⟩;refine m7 (p4 hΔ _).2 (c9 hΔ _).1 (λj ys S5=>S5=S4/\ys=i7 ((W4 j).filter λh=>!decide (h∈Tk))) ⟨rfl,rfl⟩ (λ_ _ _ _=>trivial) ?_ ?_
  ·rintro j x ys S5 hx ⟨rfl,rfl⟩;have jl:j<H:=by have:=(gM hx).1;rw[u4]at this;omega
   obtain⟨rfl,hj⟩:=AE hx;rw[X2]at hj ⊢;have fs:=E4 (λh=>!decide (h∈Tk)) j;have fl:=BR (λh=>!decide (h∈Tk)) j;refine⟨_,rfl,_,rfl,?_⟩;show match BU (.loc l5) S5 with | some ms=>_ | none=>_
   rw[Ak h5];refine⟨rfl,_,f6 h5,Hj _,_,rfl,?_⟩;show if (!inS (.int (j:Nat)) (f9 Tk))=true then _ else _
   rw[Ty (by omega)];by_cases hm:j∈Tk
   ·rw[iG (by simpa using hm),Wl]at fs;exact ifF (by simpa using hm) ⟨rfl,by rw[fs]⟩
   ·rw[iP (by simpa using hm)]at fs;exact ifT (by simpa using hm) ⟨_,rfl,by rw[n6];show _<100000;omega,rfl,by rw[fs,AB];rfl⟩
  rintro ys S5 ⟨rfl,rfl⟩;rw[u4,show((H:Int) - 0).toNat=H by omega];have fL:=BR (λh=>!decide (h∈Tk)) H
  have memF:∀ c∈(W4 H).filter (λh=>!decide (h∈Tk)),c<H/\c∉Tk:=λc hc=>by
   rw[Wn,WD,WK,decide_eq_false_iff_not]at hc;exact hc
  generalize (W4 H).filter (λh=>!decide (h∈Tk))=Fr at *;have h6:(S5++[SO.lst (i7 Fr)])[S5.length]?=some (SO.lst (i7 Fr)):=f8;have G6:=G4.push (o:=SO.lst (i7 Fr));have s6:S5.length<(S5++[SO.lst (i7 Fr)]).length:=by rw[Vo];simp
  show wSs Δ [wi3 kd] E [some (.loc t),some (i8 n es),some (.int (H:Nat)),some (.loc S.length),some (.int (i:Nat)),some (.loc l5),some (.loc S5.length)] (S5++[SO.lst (i7 Fr)]);have sl5:=G4.len;generalize S5++[SO.lst (i7 Fr)]=S6 at *;generalize S5.length=l6 at *;have l2t:S.length≠t:=by omega
  have l6t:l6≠t:=by have:=T2.lt;omega
  have put:∀(c:Nat) (S7:Sto) (o6:Option SV),TapeS S7 t->On t S6 S7->S6.length<=S7.length->S7[S.length]?=some (.lst (f9 cs))->(c<H\/c=1000+i)->(∀ t,t<i->Shr es t i->hu cs t≠c)->E.nx [some (.loc t),some (i8 n es),some (.int (H:Nat)),some (.loc S.length),some (.int (i:Nat)),some (.loc l5),o6] (S7.set S.length (.lst (f9 cs++[pS c]))):=by
   intro c S7 o6 T7 O7 L7 h7 hc no;refine hE _ _ ⟨_,_,_,cs++[c],rfl,T7.other l2t,by rw[Wa];have:=G6.len;omega,λk o kl ne h=>?_,by rw[n9 h7];unfold f9;rw[WB];rfl,by rw[Vo,ci];rfl,P.snoc (by rw[ci];exact hc) λt' ht sh=>no t' (by omega) (ci▸sh)⟩;rw[y9 (by omega)];exact O7.keep _ _ ne (G6.keep _ _ (K2 k o kl ne h))
  have bare:∀ t,t<i->Shr es t i->hu cs t≠1000+i:=λt ht _ z=>by
   rcases P.cd t (by omega) with y | y<;>omega
  have non:pS (1000+i) = .non:=w5 (by omega);have h26:=G6.keep _ _ h2
  have app:∀(S7:Sto),TapeS S7 t->On t S6 S7->S6.length<=S7.length->wSs Δ [(.expr (.mt .append (.var 3) (.cons (.c .non) .nil)))] {E with nx:=wSs Δ [] E} [some (.loc t),some (i8 n es),some (.int (H:Nat)),some (.loc S.length),some (.int (i:Nat)),some (.loc l5),some (.loc l6)] S7:=λS7 T7 O7 L7=>by
   have h27:=O7.keep _ _ l2t h26;refine⟨_,rfl,⟨_,_,rfl,h27⟩,_,h27,by rw[u8];show _<100000;omega,?_⟩;have:=put (1000+i) S7 (some (.loc l6)) T7 O7 L7 h27 (.inr rfl) bare;rw[non]at this;exact this
  have T6:=G6.tape T2;refine⟨_,rfl,by show 0<=100000;decide,_,_,j7 h6,f8,.inr (.inr rfl),_,rfl,?_⟩;cases hF:Fr with
  | nil=>
    exact ifT rfl (app _ T6.push (On.refl _ _).push (by rw[Vo];omega))
  | cons f fs=>
    rw[hF]at h6 fL memF;refine ifF rfl ⟨_,rfl,hd T6.push (by decide) (by decide) λr S7 r0 r1 T7 O7 sl7=>⟨_,rfl,?_⟩⟩;have O67:On t S6 S7:=(On.refl t S6).push.trans O7;have L67:S6.length<=S7.length:=O67.len;refine ifD (λz=>app S7 T7 O67 L67) (λz=>?_);have h67:=O67.keep _ _ l6t h6;refine⟨_,rfl,⟨_,_,rfl,O67.keep _ _ l2t h26⟩,_,rfl,_,rfl,_,rfl,_,f6 h67,hd T7 (by rw[n6,WG];omega) (by rw[n6];omega) λr S8 r0 r1 T8 O8 sl8=>?_⟩;rw[n6]at r1;obtain⟨j,rfl⟩:=Int.eq_ofNat_of_zero_le r0;have jl:j<(f::fs).length:=by omega
    have hj:=Vr jl;have cm:=memF _ (XD jl);generalize (f::fs)[j]=c at hj cm;have O68:=O67.trans O8;have h28:=O68.keep _ _ l2t h26;refine⟨_,_,f6 (O68.keep _ _ l6t h6),i6 (Nn hj),_,h28,by rw[u8];show _<100000;omega,?_⟩;have:=put c S8 (some (.loc l6)) T8 O68 O68.len h28 (.inl cm.1) λt' ht sh z=>cm.2 (z▸tm t' ht sh);rw[p6 (by omega)]at this;exact this
 ·rintro ρ S2 ⟨o4,o5,o6,cs,rfl,T2,l2,K2,h2,ci,P⟩;rw[e]at ci;exact⟨_,rfl,q S.length cs S2 T2 ⟨by omega,λk o ne h=>K2 k o (gM h).1 ne h⟩ (Vt _) h2 (P.hg ci)⟩
end
def zs3:Stm:=(.iff (.or (.bi .isi (.cons (.var 1) (.cons (.tyc .bool) .nil))) (.bi .isi (.cons (.var 1) (.cons (.tyc .str) .nil)))) [(.ret (.and (.cmp .Eq (.bi .isi (.cons (.var 0) (.cons (.tyc .bool) .nil))) (.bi .isi (.cons (.var 1) (.cons (.tyc .bool) .nil)))) (.cmp .Eq (.var 0) (.var 1))))] [])
noncomputable def Fz(k:Nat):List Stm:=[y1,ym1 k,zs3,y5]
section
variable{Δ:Nat->Sn}{k:Nat}{D:Df}
theorem Oh(hb:D.body=Fz k)(hN:D.N.length=2)(hp:D.ps.length=2){S:Sto}{a:Int}:O4 (g9 Δ D) S (.int a) (.int a):=by
 intro S1 Q h q;unfold g9;rw[hb,hN];refine⟨hp.symm,_,rfl,.inl ⟨rfl,_,rfl,ifF rfl (f7 ?_)⟩⟩;refine⟨_,rfl,by show 2<=big;decide,_,[.list,.tuple],by decide,rfl,rfl,_,rfl,ifF rfl (f7 ?_)⟩;refine⟨_,rfl,_,nofun,rfl,_,rfl,ifF rfl ⟨_,rfl,_,nofun,rfl,_,rfl,ifF rfl (f7 ?_)⟩⟩;refine⟨_,rfl,_,nofun,rfl,_,rfl,ifT rfl ⟨_,rfl,_,nofun,rfl,_,rfl,_,rfl,ifT rfl ⟨_,rfl,_,rfl,?_⟩⟩⟩;have:=q S1 h (Gw.refl _);rw[show true=decide (a=a) from (decide_eq_true rfl).symm]at this;exact this
theorem Oi(hΔ:∀ f,MonoN (Δ f))(hb:D.body=Fz k)(hN:D.N.length=2)(hp:D.ps.length=2){S:Sto}{x y:SV}{xs ys:List SV}{c:TyN}(hc:c = .list\/c = .tuple)(hn:A9 y=false)
 (hx:∀ S1,Gw S S1->tyS x S1=some c) (hy:∀ S1,Gw S S1->tyS y S1=some c) (sx:∀ S1,Gw S S1->seqS x S1=some xs) (sy:∀ S1,Gw S S1->seqS y S1=some ys) (ht:FT x=FT y) (hl:xs.length=ys.length) (hs:xs.length<=2000)
 (keep:∀ S1 S2,Gw S S1->Gw S1 S2->keepS x S1 S2/\keepS y S1 S2) (it:∀(i:Nat) (u v:SV),xs[i]?=some u->ys[i]?=some v->O4 (Δ k) S u v):O4 (g9 Δ D) S x y:=by
 intro S1 Q h q;unfold g9;rw[hb,hN];refine⟨hp.symm,_,rfl,.inl ⟨rfl,_,rfl,?_⟩⟩;show if A9 y=true then _ else _
 refine ifF hn (f7 ?_);refine⟨_,rfl,by show 2<=big;decide,c,[.list,.tuple],by decide,hy _ h,rfl,_,rfl,ifT (by rcases hc with rfl | rfl<;>rfl) ?_⟩;refine⟨_,rfl,c,nofun,hx _ h,_,rfl,c,nofun,hy _ h,_,rfl,ifF ?_ ⟨_,rfl,c,nofun,hx _ h,_,rfl,c,nofun,hy _ h,_,rfl,ifF ?_ ?_⟩⟩
 ·rcases hc with rfl | rfl<;>rfl
 ·rcases hc with rfl | rfl<;>rfl
 refine⟨_,rfl,_,sx _ h,_,rfl,_,sy _ h,_,rfl,ifT (decide_eq_true (by rw[hl])) ?_⟩;refine⟨_,_,_,_,rfl,rfl,sx _ h,sy _ h,ht,hl,?_⟩;refine m7 (p4 hΔ _).2 (c9 hΔ _).1 (λi ws S'=>Gw S1 S'/\ws=Vx i (.bl true)) ⟨Gw.refl _,rfl⟩ ?_ ?_ ?_
 ·rintro i ws S' ⟨G,_⟩;exact keep S1 S' h G
 ·rintro i z ws S' hz ⟨G,rfl⟩;obtain⟨u,v,hu,hv,rfl⟩:=Fg hz;have hi:=(gM hu).1;refine⟨_,rfl,_,rfl,it i u v hu hv _ _ (h.trans G) λS2 h2 G2=>⟨by rw[Wj];show _<100000;omega,G.trans G2,?_⟩⟩;rw[Xg]
 ·rintro ws S' ⟨G,rfl⟩;refine⟨_,_,nofun,f6 f8,Ti _,?_⟩;rw[show ∀ n,(Vx n true).all id=true from λn=>by simp];exact q _ (h.trans G).push G.push
end
theorem CN{n H t:Nat}{es:EE}{cs:List Nat}(tl:t<es.length):(EH es cs t H).length<=es.length+1:=by
 unfold EH;split
 ·exact Wy _
 obtain⟨e,he⟩:∃ e,es[t]?=some e:=⟨_,Vr tl⟩
 have ge:es.getD t (0,0)=e:=by rw[Vq,he];rfl
 obtain⟨I,M⟩:=Ft (es:=es) (cs:=cs) (p:=e.1) (H:=H) (t0:=t) (es.length+1) [(t,none)] (FanI.one ⟨e,he,.inl rfl⟩) (by show es.length<1+(es.length+1);omega);have fl:=I.len;unfold u9;rw[ge];generalize C4 es cs e.1 H (es.length+1) [(t,none)]=F at *;cases h1:u6 es cs e.1 H F with
 | some s=>exact Ys (Bs (n:=n) (t0:=t) (cs:=cs) fl h1)
 | none=>
   dsimp only;cases h2:y8 es cs e.1 H F with
   | none=>exact Wy _
   | some x=>
     dsimp only;cases h3:u6 es (st3 es cs (.row x.2 ((frL es cs e.1 H).headD 0) x.1)) e.1 H F with
     | none=>show 1<=es.length+1;omega
     | some s=>exact YL (Bs (n:=n) (t0:=t) (cs:=cs) fl h3)
section
variable{Δ:Nat->Sn}
def D6(s:Sn):Prop:=∀{n H k k2:Nat} {es:EE} {cs:List Nat} {sts:List Sp3} {S:Sto} {Q:QE},S[k]?=some (.lst (f9 cs))->S[k2]?=some (.lst (sts.map w9))->sts.length<=2000->Hg H es cs->(∀ e∈es,e.1<e.2/\e.2<n)->es.length<=60->H<=1000->OkR3 n H es cs sts->(∀(l:Nat) (ls:List Nat) (S':Sto),Gw S S'->S'[l]?=some (.lst (ls.map SV.loc))->ls.length=sts.length->(∀ i k:Nat,ls[i]?=some k->S.length<=k/\S'[k]?=some (.lst (f9 (w6 es cs (sts.take (i+1))))))->Q (.loc l) S')->s [i8 n es,.loc k,.loc k2] S Q
theorem JD(hΔ:∀ f,MonoN (Δ f)){ka:Nat}(ha:F7 (Δ ka)){D:Df}(hb:D.body=KJ ka)(hN:D.N.length=7)(hp:D.ps.length=3):D6 (g9 Δ D):=by
 intro n H k k2 es cs sts S Q hk h2 hs P hen el hH ok q;have kl:=(gM hk).1;have k2l:=(gM h2).1;unfold g9;rw[hb,hN];refine⟨hp.symm,by show 0<=100000;decide,_,rfl,_,rfl,_,f6 (j7 h2),?_⟩;have hl:(S++[SO.lst []])[S.length]?=some (SO.lst []):=f8;have hk1:=j7 (o:=SO.lst []) hk;have h21:=j7 (o:=SO.lst []) h2;have G1:Gw S (S++[SO.lst []]):=(Gw.refl S).push;have l1:(S++[SO.lst []]).length=S.length+1:=by simp
 generalize S++[SO.lst []]=S1 at *;refine AN (j5 hΔ _) (λj ρ S2=>On S.length S1 S2/\∃(c:Nat) (ls:List Nat) (o5 o6:Option SV),ρ=[some (i8 n es),some (.loc k),some (.loc k2),some (.loc S.length),some (.loc c),o5,o6]/\S2[c]?=some (.lst (f9 (w6 es cs (sts.take j))))/\S2[S.length]?=some (.lst (ls.map SV.loc))/\ls.length=j/\∀ i k:Nat,ls[i]?=some k->S.length<k/\S2[k]?=some (.lst (f9 (w6 es cs (sts.take (i+1)))))) ⟨On.refl _ _,k,[],none,none,rfl,hk1,hl,rfl,λi k h=>by simp at h⟩ (λ_ _ S2 z=>?_) ?_ ?_
 ·show S2[k2]?=S1[k2]?;rw[z.1.keep _ _ (by omega) h21,h21]
 ·rintro j x ρ S2 hx ⟨O,c,ls,o5,o6,rfl,hc,hls,ll,rows⟩;obtain⟨y,hy,rfl⟩:=B4 hx;obtain⟨s,hsj,rfl⟩:=Fx hy;have jl:=(gM hsj).1;refine⟨_,rfl,_,rfl,_,rfl,ha (ok.hgAt hen hH j P) hen el hH (ok.at hsj) hc λc2 S3 G3 c2l hc2=>?_⟩;rw[<-D5 hsj]at hc2;have sl:=(gM hls).1;refine⟨_,rfl,.inl ⟨rfl,_,rfl,ifF rfl (f7 ?_)⟩⟩;have hl3:=G3.keep _ _ hls;refine⟨_,rfl,⟨_,_,rfl,hl3⟩,_,rfl,_,hl3,by rw[Vm];show _<100000;omega,?_⟩;refine⟨(O.trans (Tj G3)).tape,c2,ls++[c2],_,_,rfl,by rw[y9 (by omega)];exact hc2,by rw[n9 hl3,WB];rfl,by rw[Vo,ll];rfl,λi k e=>?_⟩;rcases K5 e with⟨e1,e2⟩ | e
  ·rw[e2,e1,ll];exact⟨by omega,by rw[y9 (by omega)];exact hc2⟩
  ·obtain⟨r1,r2⟩:=rows i k e;exact⟨r1,by rw[y9 (by omega)];exact G3.keep _ _ r2⟩
 ·rintro ρ S2 ⟨O,c,ls,o5,o6,rfl,hc,hls,ll,rows⟩;rw[BP,Vm]at ll;refine⟨_,rfl,q _ ls S2 ⟨WH G1.len O.len,λj o h=>O.keep j o (λz=>?_) (G1.keep j o h)⟩ hls ll λi k e=>⟨by have:=(rows i k e).1;omega,(rows i k e).2⟩⟩;have:=(gM h).1;omega
def Ri(kt:Nat):List Stm:=[(.ret (.and (.call kt (.cons (.var 0) (.cons (.var 2) .nil))) (.cmp .IsNot (.ix (.var 1) (.var 2)) (.c .non))))]
def JE(s:Sn):Prop:=∀{n k t:Nat} {es:EE} {cs:List Nat} {S:Sto} {Q:QE},cs.length=es.length->t<es.length->hu cs t<1000->S[k]?=some (.lst (f9 cs))->Q (.bl true) S->s [i8 n es,.loc k,.int (t:Nat)] S Q
theorem Qs{kt:Nat}(ht:BC (Δ kt)){D:Df}(hb:D.body=Ri kt)(hN:D.N.length=3)(hp:D.ps.length=3):JE (g9 Δ D):=by
 intro n k t es cs S Q cl tl h0 hk q;unfold g9;rw[hb,hN];have hc:=u7 (cs:=cs) (t:=t) (by omega);have hcp:(f9 cs)[t]?=some (.int (hu cs t:Nat)):=by rw[p9 hc,p6 h0]
 exact⟨hp.symm,_,rfl,_,rfl,ht tl ⟨_,rfl,ifT rfl ⟨_,rfl,_,rfl,_,_,f6 hk,i6 hcp,.inl ⟨rfl,q⟩⟩⟩⟩
def Oj:List Stm:=[(.ret (.and (.cmp .NotEq (.var 1) (.var 2)) (.bi .any (.cons (.comp ["place"] ["web","other"] [0,2] (.nm 0) (.seq (.ix (.ix (.var 0) (.c (.int 1))) (.var 1))) .no (.cmp .In (.var 0) (.ix (.ix (.var 1) (.c (.int 1))) (.var 2)))) .nil))))]
def G7(s:Sn):Prop:=∀{n t u:Nat} {es:EE} {S:Sto} {Q:QE},t≠u->(∃ y,AtP es t y/\AtP es u y)->(∀ S',Gw S S'->Q (.bl true) S')->s [i8 n es,.int (t:Nat),.int (u:Nat)] S Q
theorem Ol(hΔ:∀ f,MonoN (Δ f)){D:Df}(hb:D.body=Oj)(hN:D.N.length=3)(hp:D.ps.length=3):G7 (g9 Δ D):=by
 intro n t u es S Q ne sh q;obtain⟨y,⟨e,he,hy⟩,f,hf,hz⟩:=sh;have ge:(es.map pairS)[t]?=some (pairS e):=by rw[Vu,he];rfl
 have gf:(es.map pairS)[u]?=some (pairS f):=by rw[Vu,hf];rfl
 unfold g9;rw[hb,hN];refine⟨hp.symm,_,rfl,_,rfl,_,rfl,ifT ?_ ?_⟩
 ·show(!decide (((t:Nat):Int)=((u:Nat):Int)))=true;rw[decide_eq_false (λz=>ne (WW.mp z))];rfl
 refine⟨_,rfl,_,_,rfl,rfl,_,rfl,_,_,rfl,i6 ge,_,rfl,?_⟩;refine m7 (p4 hΔ _).2 (c9 hΔ _).1 (λj ys S2=>S2=S/\ys=([e.1,e.2].take j).map λp=>SV.bl (decide (f.1=p)||decide (f.2=p))) ⟨rfl,rfl⟩ (λ_ _ _ _=>trivial) ?_ ?_
 ·rintro j x ys S2 hx ⟨rfl,rfl⟩;have j2:j=0\/j=1:=by have:=(gM hx).1;simp at this;omega
  rcases j2 with rfl | rfl<;>cases hx
  ·refine⟨_,rfl,_,rfl,_,_,rfl,rfl,_,rfl,_,_,rfl,i6 gf,rfl,_,rfl,rfl,by show 0<100000;decide,rfl,?_⟩;show[]++[SV.bl (inS (.int (e.1:Nat)) [.int (f.1:Nat),.int (f.2:Nat)])]=_;rw[Aw];rfl
  ·refine⟨_,rfl,_,rfl,_,_,rfl,rfl,_,rfl,_,_,rfl,i6 gf,rfl,_,rfl,rfl,by show 1<100000;decide,rfl,?_⟩;show _++[SV.bl (inS (.int (e.2:Nat)) [.int (f.1:Nat),.int (f.2:Nat)])]=_;rw[Aw];rfl
 ·rintro ys S2 ⟨rfl,rfl⟩;refine⟨_,[decide (f.1=e.1)||decide (f.2=e.1),decide (f.1=e.2)||decide (f.2=e.2)],nofun,f6 f8,rfl,?_⟩
  rw[show[decide (f.1=e.1)||decide (f.2=e.1),decide (f.1=e.2)||decide (f.2=e.2)].any id=true by
   rcases hy with rfl | rfl<;>rcases hz with z | z<;>simp[z]]
  exact q _ (Gw.refl _).push
def Bt(cs:List Nat)(ps:EE):List Nat:=ps.foldl (λc p=>c.set p.1 p.2) cs
def gvS(p:Nat×Nat):SV := .tup [.int (p.1:Nat),pS p.2]
def DS(s:Sn):Prop:=∀{n k l:Nat} {es:EE} {cs:List Nat} {ps:EE} {S:Sto} {Q:QE},(∀ e∈es,e.1<e.2/\e.2<n)->es.length<=60->cs.length=es.length->(∀ p∈ps,p.1<es.length)->Prp es (Bt cs ps)->S[k]?=some (.lst (f9 cs))->S[l]?=some (.lst (ps.map gvS))->(∀(l:Nat) (S':Sto),Gw S S'->S.length<=l->S'[l]?=some (.lst (f9 (Bt cs ps)))->Q (.loc l) S')->s [i8 n es,.loc k,.loc l] S Q
theorem Om(hΔ:∀ f,MonoN (Δ f)){ki:Nat}(hi:Ax (Δ ki)){D:Df}(hb:D.body=RW ki)(hN:D.N.length=6)(hp:D.ps.length=3):DS (g9 Δ D):=by
 intro n k l es cs ps S Q hen el cl pt P hk hl q;have ll:=(gM hl).1
 have sl:∀(ps:EE) (cs:List Nat),(Bt cs ps).length=cs.length:=by
  intro ps
  induction ps with
  | nil=>intro cs;rfl
  | cons p ps ih=>intro cs;show(Bt (cs.set p.1 p.2) ps).length=_;rw[ih,Wa]
 unfold g9;rw[hb,hN];refine⟨hp.symm,_,rfl,_,f6 hk,_,rfl,_,f6 (j7 hl),?_⟩;refine AN (j5 hΔ _) (λi ρ S'=>∃(o4 o5:Option SV),ρ=[some (i8 n es),some (.loc k),some (.loc l),some (.loc S.length),o4,o5]/\On S.length (S++[.lst (f9 cs)]) S'/\S'[S.length]?=some (.lst (f9 (Bt cs (ps.take i))))) ⟨none,none,rfl,On.refl _ _,f8⟩ (λi ρ S' z=>?_) ?_ ?_
 ·obtain⟨_,_,_,O,_⟩:=z;show S'[l]?=(S++[SO.lst (f9 cs)])[l]?;rw[j7 hl];exact O.keep _ _ (by omega) (j7 hl)
 ·rintro i x ρ S' hx ⟨o4,o5,rfl,O,h5⟩;rw[Vu]at hx;cases hpi:ps[i]? with
  | none=>rw[hpi]at hx;cases hx
  | some p=>
    rw[hpi]at hx;cases hx
    have e:Bt cs (ps.take (i+1))=(Bt cs (ps.take i)).set p.1 p.2:=by
     unfold Bt;rw[WZ,hpi,Yv];rfl
    refine⟨_,rfl,_,rfl,_,rfl,_,p.1,h5,BN (by rw[u8,sl];have:=pt p (Vp hpi);omega),_,_,rfl,O.tape,?_⟩;rw[n9 h5,e];unfold f9;rw[Xr]
 ·rintro ρ S' ⟨o4,o5,rfl,O,h5⟩;rw[Vm,WV]at h5;refine⟨_,rfl,_,rfl,hi hen el (J5 h5 (by rw[sl];omega)) λr S2 G2 e2=>?_⟩;have:r=true:=e2.mpr ⟨_,f6 h5,Fm P⟩;subst this;exact⟨_,rfl,ifT rfl ⟨_,rfl,q S.length S2 ((F3 (Gw.refl S).push O (Vt _)).trans G2) (Vt _) (G2.keep _ _ h5)⟩⟩
def StW(s:Sn)(is:Sp3->Prop)(args:Sp3->List SV):Prop:=∀{n H k:Nat} {es:EE} {cs:List Nat} {st:Sp3} {S:Sto} {Q:QE},is st->Hg H es cs->(∀ e∈es,e.1<e.2/\e.2<n)->es.length<=60->H<=1000->Ok3 n H es cs st->S[k]?=some (.lst (f9 cs))->(∀(l:Nat) (S':Sto),Gw S S'->S.length<=l->S'[l]?=some (.lst (f9 (st3 es cs st)))->Q (.loc l) S')->s (i8 n es :: .loc k::args st) S Q
def JF:Sp3->Prop | .hue _ _=>True | _=>False
def GA:Sp3->Prop | .move _ _=>True | _=>False
def Lw:Sp3->List SV
 | .hue t h=>[.int (t:Nat),.int (h:Nat)]
 | .move t u=>[.int (t:Nat),.int (u:Nat)]
 | .row p a b=>[.int (p:Nat),.int (a:Nat),.int (b:Nat)]
theorem Oo{kl kh kw:Nat}(hl:DQ (Δ kl))(hh:Nx (Δ kh))(hw:DS (Δ kw)){D:Df}(hb:D.body=RX kl kh kw)(hN:D.N.length=4)(hp:D.ps.length=4):StW (g9 Δ D) JF Lw:=by
 intro n H k es cs st S Q is g hen el hH ok hk q;have g':=BT g hen hH ok;cases st with
 | row p a b=>exact is.elim
 | move t u=>exact is.elim
 | hue t h=>
   obtain⟨tl,h0,h1,h2⟩:=ok;unfold g9;rw[hb,hN];have gd:Gd (VS S) 0 10 (.int (h:Nat)) := .int ⟨by omega,by omega⟩;have i0:QY (.int (h:Nat))=true:=(show decide ((0:Int)<=((h:Nat):Int))=true from decide_eq_true (by omega))
   refine⟨hp.symm,_,rfl,_,rfl,_,rfl,hl g.P.len tl h0 hk ⟨_,rfl,ifF rfl ⟨_,rfl,hh gd ⟨_,rfl,?_⟩⟩⟩⟩;rw[i0];refine ifF rfl (f7 ?_);refine⟨_,rfl,_,rfl,_,rfl,_,rfl,by show 2<=100000;decide,by show 1<=100000;decide,?_⟩;have G1:Gw S (S++[SO.lst [.tup [.int (t:Nat),.int (h:Nat)]]]):=(Gw.refl S).push;have eg:[gvS (t,h)]=[SV.tup [.int (t:Nat),.int (h:Nat)]]:=by unfold gvS;rw[p6 (by omega)]
   exact hw (ps:=[(t,h)]) hen el g.P.len (λp hp'=>by rw[W8.mp hp'];exact tl) g'.P (j7 hk) (by rw[f8];exact congrArg (λz=>some (SO.lst z)) eg.symm) λl S' G' l' h'=>q l S' (G1.trans G') (WH G1.len l') h'
def Op(kh kl km kw:Nat):List Stm:=[(.iff (.or (.not (.call kh (.cons (.var 0) (.cons (.var 1) (.cons (.var 2) .nil))))) (.not (.call kl (.cons (.var 0) (.cons (.var 1) (.cons (.var 3) .nil)))))) [(.ret (.c .non))] []),(.iff (.not (.call km (.cons (.var 0) (.cons (.var 2) (.cons (.var 3) .nil))))) [(.ret (.c .non))] []),(.ret (.call kw (.cons (.var 0) (.cons (.var 1) (.cons (.lst (.cons (.tup (.cons (.var 2) (.cons (.c .non) .nil))) (.cons (.tup (.cons (.var 3) (.cons (.ix (.var 1) (.var 2)) .nil))) .nil))) .nil)))))]
theorem Lx{kh kl km kw:Nat}(hh:JE (Δ kh))(hl:DQ (Δ kl))(hm:G7 (Δ km))(hw:DS (Δ kw)){D:Df}(hb:D.body=Op kh kl km kw)(hN:D.N.length=4)(hp:D.ps.length=4):StW (g9 Δ D) GA Lw:=by
 intro n H k es cs st S Q is g hen el hH ok hk q;have g':=BT g hen hH ok;have cl:=g.P.len;cases st with
 | row p a b=>exact is.elim
 | hue t u=>exact is.elim
 | move t u=>
   obtain⟨tl,ul,h1,h2,sh,h4⟩:=ok;have ne:t≠u:=λz=>by rw[z]at h1;omega
   have hcp:(f9 cs)[t]?=some (.int (hu cs t:Nat)):=by rw[p9 (u7 (by omega)),p6 (by omega)]
   unfold g9;rw[hb,hN];refine⟨hp.symm,_,rfl,_,rfl,_,rfl,hh cl tl (by omega) hk ⟨_,rfl,ifF rfl ⟨_,rfl,_,rfl,_,rfl,hl cl ul h2 hk ⟨_,rfl,ifF rfl (f7 ?_)⟩⟩⟩⟩;refine⟨_,rfl,_,rfl,_,rfl,hm ne sh λS1 G1=>⟨_,rfl,ifF rfl (f7 ?_)⟩⟩;have hk1:=G1.keep _ _ hk;refine⟨_,rfl,_,rfl,_,rfl,by show 2<=100000;decide,_,rfl,_,rfl,_,rfl,_,_,f6 hk1,i6 hcp,by show 2<=100000;decide,by show 2<=100000;decide,?_⟩;have eg:[gvS (t,1000+t),gvS (u,hu cs t)]=[SV.tup [.int (t:Nat),.non],SV.tup [.int (u:Nat),.int (hu cs t:Nat)]]:=by unfold gvS;rw[p6 (show hu cs t<1000 by omega),w5 (show ¬ 1000+t<1000 by omega)]
   exact hw (ps:=[(t,1000+t),(u,hu cs t)]) hen el cl (λp hp'=>by
    rcases W5.mp hp' with rfl | hp'
    ·exact tl
    ·rw[W8.mp hp'];exact ul) g'.P (j7 hk1) (by rw[f8];exact congrArg (λz=>some (SO.lst z)) eg.symm) λl S' G' l' h'=>q l S' (G1.push.trans G') (WH G1.push.len l') h'
theorem Ly{kh kd km kr:Nat}(hh:StW (Δ kh) JF Lw)(hm:StW (Δ km) GA Lw)(hr:AX (Δ kr) λp a b=>[.int (p:Nat),.int (a:Nat),.int (b:Nat)]){D:Df}(hb:D.body=J3 kh kd km kr)(hN:D.N.length=4)(hp:D.ps.length=3):F7 (g9 Δ D):=by
 intro n H k es cs st S Q g hen el hH ok hk q;cases st with
 | row p a b=>exact F5 hr hb hN hp g hen el hH ok (Hv.loc hk) q
 | hue t h=>
   unfold g9;rw[hb,hN];refine⟨hp.symm,_,rfl,_,nofun,rfl,_,rfl,ifF rfl ⟨_,rfl,true,rfl,ifF rfl (f7 ?_)⟩⟩;refine⟨_,rfl,_,_,rfl,rfl,?_⟩;refine⟨_,rfl,_,rfl,ifT (decide_eq_true rfl) ⟨_,rfl,_,rfl,_,rfl,ifT rfl ?_⟩⟩;exact⟨_,rfl,_,rfl,_,rfl,_,_,rfl,rfl,_,rfl,_,_,rfl,rfl,hh (st := .hue t h) trivial g hen el hH ok hk q⟩
 | move t u=>
   unfold g9;rw[hb,hN];have no:∀ w:Str,w≠"move"->decide (("move":Str)=w)=false:=λw h=>decide_eq_false λz=>h z.symm;refine⟨hp.symm,_,rfl,_,nofun,rfl,_,rfl,ifF rfl ⟨_,rfl,true,rfl,ifF rfl (f7 ?_)⟩⟩;refine⟨_,rfl,_,_,rfl,rfl,?_⟩;refine⟨_,rfl,_,rfl,ifF (no "hue" (by decide)) (ifF rfl (f7 ?_))⟩;refine⟨_,rfl,_,rfl,ifF (no "drop" (by decide)) (ifF rfl (f7 ?_))⟩;refine⟨_,rfl,_,rfl,ifT (decide_eq_true rfl) ⟨_,rfl,_,rfl,_,rfl,ifT rfl ?_⟩⟩;exact⟨_,rfl,_,rfl,_,rfl,_,_,rfl,rfl,_,rfl,_,_,rfl,rfl,hm (st := .move t u) trivial g hen el hH ok hk q⟩
end
noncomputable def AC(es:EE)(H:Nat):Nat->List Nat×List Sp3
 | 0=>(cs0 es.length,[])
 | i+1=>(w6 es (AC es H i).1 (u9 es (AC es H i).1 i H),(AC es H i).2++u9 es (AC es H i).1 i H)
theorem Oq(es:EE)(cs:List Nat)(a b:List Sp3):w6 es cs (a++b)=w6 es (w6 es cs a) b:=by unfold w6;rw[Yv]
theorem OkR3.app{n H:Nat}{es:EE}:∀{a:List Sp3} {cs:List Nat} {b:List Sp3},OkR3 n H es cs a->OkR3 n H es (w6 es cs a) b->OkR3 n H es cs (a++b)
 | [],_,_,_,h=>h
 | s::a,cs,b,h,h2=>⟨h.1,OkR3.app (a:=a) h.2 h2⟩
theorem hg0{H:Nat}(es:EE):Hg H es (cs0 es.length):=⟨Qd es,λu ul => .inr (Fo ul)⟩
theorem GB{n H m:Nat}{es:EE}(hen:∀ e∈es,e.1<e.2/\e.2<n)(hH:H<=1000)(hc:∀ y,y<n->t4 es y+m<=H)(hm:IsTh es m):∀ i,i<=es.length->OkR3 n H es (cs0 es.length) (AC es H i).2/\(AC es H i).1=w6 es (cs0 es.length) (AC es H i).2/\Hg H es (AC es H i).1/\(∀ u,u<i->hu (AC es H i).1 u<H)/\(∀ u,i<=u->u<es.length->¬ hu (AC es H i).1 u<1000)/\(AC es H i).2.length<=i * (es.length+1)
 | 0,_=>⟨trivial,rfl,hg0 es,λu h=>by omega,λu _ h=>by show ¬ hu (cs0 es.length) u<1000;rw[Fo h];omega,Wy _⟩
 | i+1,hi=>by
   obtain⟨k1,k2,k3,k4,k5,k6⟩:=GB hen hH hc hm i (by omega);have il:i<es.length:=by omega
   have b0:=k5 i (Vt _) il;obtain⟨s1,s2,s3⟩:=C0 hen hH k3 il b0 hc hm.1;have sl:=CN (n:=n) (H:=H) (cs:=(AC es H i).1) il;unfold EH at sl;rw[iG b0]at sl;have gr:=OkR3.hg hen hH k3 s1;refine⟨k1.app (by rw[<-k2];exact s1),?_,gr,λu hu'=>?_,λu hu' ul=>?_,?_⟩
   ·show w6 es (AC es H i).1 (u9 es (AC es H i).1 i H)=w6 es (cs0 es.length) ((AC es H i).2++u9 es (AC es H i).1 i H);rw[Oq,<-k2]
   ·by_cases e:u=i
    ·rw[e];exact s2
    ·exact(s3 u (by omega) e).mpr (k4 u (by omega))
   ·have:=k5 u (by omega) ul;show ¬ hu (w6 es (AC es H i).1 (u9 es (AC es H i).1 i H)) u<1000;have a1:=k3.cod u ul;have a2:=gr.cod u ul;have a3:=s3 u ul (by omega);omega
   ·show((AC es H i).2++u9 es (AC es H i).1 i H).length<=_;rw[Vo,Xa];omega
section
variable{Δ:Nat->Sn}
def VT(ke kr kp:Nat):List Stm:=[(.expr (.call ke (.cons (.var 0) (.cons (.var 1) .nil)))),by3,(.asg (.nm 3) (.lst .nil)),(.loop (.nm 4) (.rng1 (.bi .len (.cons (.ix (.var 0) (.c (.int 1))) .nil))) (byL kr kp)),(.ret (.tup (.cons (.var 2) (.cons (.var 3) .nil))))]
noncomputable def Rj(s:Sn):Prop:=∀{n H m:Nat} {es:EE} {S:Sto} {Q:QE},(∀ e∈es,e.1<e.2/\e.2<n)->n<=1000->es.length<=60->H<=1000->IsTh es m->v8 es n+m<=H->(∀(k1 k2:Nat) (S':Sto),Gw S S'->S.length<=k1->S.length<=k2->k1≠k2->S'[k1]?=some (.lst (f9 (AC es H es.length).1))->S'[k2]?=some (.lst ((AC es H es.length).2.map w9))->Q (.tup [.loc k1,.loc k2]) S')->s [i8 n es,.int (H:Nat)] S Q
theorem Lz{n H t m:Nat}{es:EE}{cs:List Nat}(hen:∀ e∈es,e.1<e.2/\e.2<n)(hH:H<=1000)(g:Hg H es cs)(tl:t<es.length)(b0:¬ hu cs t<1000)(hc:∀ y,y<n->t4 es y+m<=H)(hm:IsTh es m):0<(u9 es cs t H).length:=by
 obtain⟨_,gt⟩:=C0 hen hH g tl b0 hc hm.1;refine Xn λz=>?_;rw[YI.mp z]at gt;have:hu cs t<H:=gt.1;omega
theorem Tz(hΔ:∀ f,MonoN (Δ f)){ke kr kp:Nat}(he:Fu (Δ ke))(hr:Cg (Δ kr))(hpl:D6 (Δ kp)){D:Df}(hb:D.body=VT ke kr kp)(hN:D.N.length=6)(hp:D.ps.length=2):Rj (g9 Δ D):=by
 intro n H m es S Q hen nn el hH hm hmH q;have hc:∀ y,y<n->t4 es y+m<=H:=λy hy=>by have:=Bp es hy;omega
 have ok:=GB hen hH hc hm;unfold g9;rw[hb,hN];refine⟨hp.symm,_,rfl,_,rfl,he hen nn (by omega) hm hmH λS2 G2=>?_⟩;refine⟨by show 1<=100000;decide,_,rfl,_,_,rfl,rfl,_,rfl,_,f8,⟨by rw[Vm];omega,by rw[Vm];omega⟩,by rw[Vm];show 1 * _<=100000;omega,by show 0<=100000;decide,?_⟩;rw[show(Vx (((es.map pairS).length:Nat):Int).toNat [SV.non]).flatten=f9 (cs0 es.length) by rw[Vm,Ws];exact Hh _];have G3:Gw S (S2++[SO.lst [SV.non]]++[SO.lst (f9 (cs0 es.length))]++[SO.lst []]):=(G2.push.push).push;have c1:(S2++[SO.lst [SV.non]]++[SO.lst (f9 (cs0 es.length))]++[SO.lst []])[(S2++[SO.lst [SV.non]]).length]?=some (SO.lst (f9 (cs0 es.length))):=j7 f8;have c2:(S2++[SO.lst [SV.non]]++[SO.lst (f9 (cs0 es.length))]++[SO.lst []])[(S2++[SO.lst [SV.non]]++[SO.lst (f9 (cs0 es.length))]).length]?=some (SO.lst []):=f8;have e1:(S2++[SO.lst [SV.non]]).length=S2.length+1:=by simp
 have e2:(S2++[SO.lst [SV.non]]++[SO.lst (f9 (cs0 es.length))]).length=S2.length+2:=by simp
 rw[e1]at c1;rw[e2]at c2;have sl:=G2.len;show wSs Δ [(.loop (.nm 4) (.rng1 (.bi .len (.cons (.ix (.var 0) (.c (.int 1))) .nil))) (byL kr kp)),(.ret (.tup (.cons (.var 2) (.cons (.var 3) .nil))))] (B3 Q) [some (i8 n es),some (.int (H:Nat)),some (.loc (S2++[SO.lst [SV.non]]).length),some (.loc (S2++[SO.lst [SV.non]]++[SO.lst (f9 (cs0 es.length))]).length),none,none] (S2++[SO.lst [SV.non]]++[SO.lst (f9 (cs0 es.length))]++[SO.lst []]);rw[e1,e2];generalize S2++[SO.lst [SV.non]]++[SO.lst (f9 (cs0 es.length))]++[SO.lst []]=S3 at *;generalize S2.length=m0 at *;refine⟨_,rfl,_,_,rfl,rfl,_,rfl,_,rfl,⟨by rw[Vm];omega,by rw[Vm];omega⟩,?_⟩;refine AN (j5 hΔ _) (λi ρ S'=>∃(c:Nat) (o4 o5:Option SV),ρ=[some (i8 n es),some (.int (H:Nat)),some (.loc c),some (.loc (m0+2)),o4,o5]/\On (m0+2) S3 S'/\c≠m0+2/\m0<=c/\S'[c]?=some (.lst (f9 (AC es H i).1))/\S'[m0+2]?=some (.lst ((AC es H i).2.map w9))) ⟨m0+1,none,none,rfl,On.refl _ _,by omega,by omega,c1,c2⟩ (λ_ _ _ _=>trivial) ?_ ?_
 ·rintro i x ρ S' hx ⟨c,o4,o5,rfl,O,cn,cm,hc',hs'⟩;have il:i<es.length:=by have:=(gM hx).1;rw[u4,Vm]at this;omega
  obtain⟨rfl,hi⟩:=AE hx;rw[X2]at hi ⊢;obtain⟨k1,k2,k3,k4,k5,k6⟩:=ok i (by omega);have n0:=k5 i (Vt _) il;obtain⟨s1,s2,s3⟩:=C0 hen hH k3 il n0 hc hm.1;have l1:=Lz hen hH k3 il n0 hc hm;have l2:=CN (n:=n) (H:=H) (cs:=(AC es H i).1) il;unfold EH at l2;rw[iG n0]at l2;have bl:i * (es.length+1)<=60 * 61:=ZH (by omega) (by omega);refine⟨_,rfl,_,rfl,_,rfl,_,rfl,hr (Hv.loc hc') k3 hen el hH il n0 hm hmH λl S4 G4 ll h4=>?_⟩;refine⟨_,rfl,_,rfl,_,rfl,hpl (G4.keep _ _ hc') h4 (by omega) k3 hen el hH s1 λlp ls S5 G5 h5 lsl rows=>?_⟩;obtain⟨c3,hc3⟩:∃ c3,ls[(u9 es (AC es H i).1 i H).length - 1]?=some c3:=⟨_,Vr (by omega)⟩
  obtain⟨r1,r2⟩:=rows _ c3 hc3;rw[show(u9 es (AC es H i).1 i H).length - 1+1=(u9 es (AC es H i).1 i H).length by omega,WV]at r2;have la:atI (ls.map SV.loc) (-1)=some (.loc c3):=Ls (by rw[Vm,lsl,Vu,hc3];rfl);refine⟨_,_,f6 h5,la,?_⟩;have s4:=(gM hs').1;have g4:=G4.len;have hs5:=G5.keep _ _ (G4.keep _ _ hs');have h45:=G5.keep _ _ h4;refine⟨_,rfl,⟨_,_,rfl,hs5⟩,_,rfl,_,_,hs5,h45,by rw[Vm,Vm];show _<=100000;omega,?_⟩;refine⟨c3,_,_,rfl,(O.trans (Tj (G4.trans G5))).tape,by omega,by omega,by rw[y9 (by omega)];exact r2,?_⟩;rw[n9 hs5];show _=some (SO.lst (((AC es H i).2++u9 es (AC es H i).1 i H).map w9));rw[WB]
 ·rintro ρ S' ⟨c,o4,o5,rfl,O,cn,cm,hc',hs'⟩;rw[u4,Vm,show((es.length:Int) - 0).toNat=es.length by omega]at hc' hs';exact⟨_,rfl,_,rfl,by show 2<=100000;decide,q c (m0+2) S' (F3 G3 O (by omega)) (by omega) (by omega) cn hc' hs'⟩
end
theorem M0{Δ0 Δ1:Nat->Sn}{k:Nat}{D:Df}(h1:∀ f,MonoN (Δ1 f))(e1:Δ1 k=g9 Δ0 D)(hb:D.body=Fz k)(hN:D.N.length=2)(hp:D.ps.length=2){S:Sto}{a b:Nat}{cs:List Nat}(ha:S[a]?=some (.lst (f9 cs)))(hb':S[b]?=some (.lst (f9 cs)))(hl:cs.length<=2000)(all:∀ c∈cs,c<1000):O4 (g9 Δ1 D) S (.loc a) (.loc b):=by
 refine Oi h1 hb hN hp (c := .list) (.inl rfl) rfl (λS1 G=>CI (G.keep _ _ ha)) (λS1 G=>CI (G.keep _ _ hb')) (λS1 G=>f6 (G.keep _ _ ha)) (λS1 G=>f6 (G.keep _ _ hb')) rfl rfl (by rw[u8];exact hl) (λS1 S2 G G2=>⟨by show S2[a]?=S1[a]?;rw[G.keep _ _ ha,G2.keep _ _ (G.keep _ _ ha)],by show S2[b]?=S1[b]?;rw[G.keep _ _ hb',G2.keep _ _ (G.keep _ _ hb')]⟩) λi u v hu hv=>?_;rw[hu]at hv;cases hv;obtain⟨c,hc,rfl⟩:=BS hu;rw[e1,p6 (all c (Vp hc))];exact Oh hb hN hp
section
variable{Δ:Nat->Sn}{kd:Nat}
def tzP:Ex:=(.tup (.cons (.bi .min (.cons (.var 3) (.cons (.op .Mod (.op .Add (.var 3) (.c (.int 1))) (.c (.int 5))) .nil))) (.cons (.bi .max (.cons (.var 3) (.cons (.op .Mod (.op .Add (.var 3) (.c (.int 1))) (.c (.int 5))) .nil))) .nil)))
def tzA(kd:Nat):List Stm:=[(.expr (.mt .extend (.var 2) (.cons (.op .Mult (.lst (.cons tzP .nil)) (.op .Add (.c (.int 1)) (.call kd (.cons (.var 0) (.cons (.c (.int 3)) .nil))))) .nil)))]
def tzO(kd:Nat):Stm:=(.asg (.nm 5) (.ix (.lst (.cons (.c (.int 0)) (.cons (.c (.int 1)) (.cons (.c (.int 2)) (.cons (.c (.int 3)) (.cons (.c (.int 4)) (.cons (.ix (.lst (.cons (.c (.int 1)) (.cons (.c (.int 9)) .nil))) (.bi .int (.cons (.cmp .Eq (.var 3) (.c (.int 1))) .nil))) .nil))))))) (.call kd (.cons (.var 0) (.cons (.c (.int 6)) .nil)))))
def tzB(kd:Nat):List Stm:=[tzO kd,(.expr (.mt .extend (.var 2) (.cons (.op .Mult (.lst (.cons (.tup (.cons (.var 4) (.cons (.var 3) .nil))) .nil)) (.var 5)) .nil)))]
def tzC(kd:Nat):List Stm:=[(.loop (.nm 4) (.rng1 (.var 3)) (tzB kd))]
def tz3(kd:Nat):Stm:=(.iff (.cmp .Eq (.call kd (.cons (.var 0) (.cons (.c (.int 3)) .nil))) (.c (.int 0))) [(.asg (.nm 1) (.c (.int 5))),(.loop (.nm 3) (.rng1 (.c (.int 5))) (tzA kd))] [(.loop (.nm 3) (.rng1 (.var 1)) (tzC kd))])
def tz4:Stm:=(.asg (.nm 6) (.lst .nil))
def tz5(kd:Nat):Stm:=(.loop (.nm 7) (.seq (.var 2)) [(.expr (.mt .insert (.var 6) (.cons (.call kd (.cons (.var 0) (.cons (.op .Add (.bi .len (.cons (.var 6) .nil)) (.c (.int 1))) .nil))) (.cons (.var 7) .nil))))])
def tz6:Stm:=(.ret (.tup (.cons (.var 1) (.cons (.bi .tuple (.cons (.var 6) .nil)) .nil))))
def VU(kd:Nat):List Stm:=[(.asg (.nm 1) (.op .Add (.c (.int 3)) (.call kd (.cons (.var 0) (.cons (.c (.int 3)) .nil))))),(.asg (.nm 2) (.lst .nil)),tz3 kd,tz4,tz5 kd,tz6]
def Rk(s:Sn):Prop:=∀{t:Nat} {S:Sto} {Q:QE},TapeS S t->(∀(n:Nat) (es:EE) (S':Sto),(∀ e∈es,e.1<e.2/\e.2<n)->n<=5->es.length<=45->TapeS S' t->On t S S'->Q (i8 n es) S')->s [.loc t] S Q
theorem Hl(hΔ:∀ f,MonoN (Δ f))(hd:CJ (Δ kd)){t n l:Nat}{S0 S:Sto}{es:EE}{Q:QE}{o3 o4 o5 o6 o7:Option SV}(he:∀ e∈es,e.1<e.2/\e.2<n)(hl:es.length<=45)(A:Ah t S0 S l es)
 (q:∀(es:EE) (S':Sto),(∀ e∈es,e.1<e.2/\e.2<n)->es.length<=45->TapeS S' t->On t S0 S'->Q (i8 n es) S'):wSs Δ [tz4,tz5 kd,tz6] (B3 Q) [some (.loc t),some (.int (n:Nat)),some (.loc l),o3,o4,o5,o6,o7] S:=by
 refine⟨by show 0<=big;decide,?_⟩;have hlt:=K0 A.at';have htl:=A.tape.lt;refine⟨_,rfl,_,f6 A.push.at',?_⟩
 refine AN (j5 hΔ _) (λi ρ S2=>∃(fs:EE) (o7:Option SV),ρ=[some (.loc t),some (.int (n:Nat)),some (.loc l),o3,o4,o5,some (.loc S.length),o7]/\Ah t S0 S2 S.length fs/\S2[l]?=some (.lst (es.map pairS))/\(∀ e∈fs,e.1<e.2/\e.2<n)/\fs.length=i)
  ⟨[],o7,rfl,⟨A.tape.push,A.on.push,f8,A.on.len,A.t0⟩,A.push.at',(λ_ h=>nomatch h),rfl⟩ (λi ρ S2 h=>?_) ?_ ?_
 ·obtain⟨fs,_,_,_,h2,_⟩:=h;exact h2.trans A.push.at'.symm
 ·rintro i x ρ S2 hx ⟨fs,p7,rfl,A2,h2,hf,fl⟩;rw[Vu]at hx;cases hei:es[i]? with
  | none=>rw[hei]at hx;cases hx
  | some e=>
    rw[hei]at hx;have hx:pairS e=x:=oj hx;subst hx;have hil:=(gM hei).1;have hee:=he e (Vp hei);refine⟨_,rfl,⟨_,_,rfl,A2.at'⟩,_,rfl,_,rfl,_,f6 A2.at',hd A2.tape (by omega) (by rw[Vm];omega) λr S3 r0 r1 T3 O3 _=>?_⟩;have A3:=A2.draw T3 O3;rw[Vm]at r1;refine⟨_,rfl,?_⟩;refine⟨_,A3.at',⟨r0,by rw[Vm];omega⟩,by rw[Vm];show _<100000;omega,?_⟩
    have e1:(fs.map pairS).take r.toNat++pairS e::(fs.map pairS).drop r.toNat=(fs.take r.toNat++e::fs.drop r.toNat).map pairS:=by
     rw[WB,WX,List.map_take,List.map_drop]
    rw[e1];refine⟨_,_,rfl,A3.put,?_,λe' h=>?_,?_⟩
    ·rw[y9 (by omega)];exact O3.keep _ _ A.ne h2
    ·rcases WM.mp h with h | h
     ·exact hf e' (List.mem_of_mem_take h)
     ·rcases W5.mp h with h | h
      ·rw[h];exact hee
      ·exact hf e' (List.mem_of_mem_drop h)
    ·rw[Vo,WG,Wp,XY];omega
 ·rintro ρ S2 ⟨fs,p7,rfl,A2,h2,hf,fl⟩;rw[Vm]at fl;exact⟨_,rfl,_,rfl,_,f6 A2.at',by show 2<=big;decide,q fs S2 hf (by omega) A2.tape A2.on⟩
theorem Hm(m:Nat)(e:Nat×Nat):(Vx m [pairS e]).flatten=(Vx m e).map pairS:=by
 induction m with
 | zero=>rfl
 | succ m ih=>rw[WQ,WQ,Wx,ih];rfl
theorem U0(hd:CJ (Δ kd)){t l i:Nat}{S0 S:Sto}{es:EE}{E:EndsS}{o4 o5 o6 o7:Option SV}(A:Ah t S0 S l es)(hi:i<5)(hl:es.length<=15)
 (q:∀(e:Nat×Nat) (m:Nat) (S':Sto),e.1<e.2->e.2<5->m<=3->Ah t S0 S' l (es++Vx m e)->E.nx [some (.loc t),some (.int ((5:Nat):Int)),some (.loc l),some (.int (i:Nat)),o4,o5,o6,o7] S'):wSs Δ (tzA kd) E [some (.loc t),some (.int ((5:Nat):Int)),some (.loc l),some (.int (i:Nat)),o4,o5,o6,o7] S:=by
 refine⟨_,rfl,⟨_,_,rfl,A.at'⟩,?_⟩
 have key:∃ a b:Nat,(if ((i:Int)+1) % 5<(i:Int) then ((i:Int)+1) % 5 else (i:Int))=(a:Int)/\(if (i:Int)<((i:Int)+1) % 5 then ((i:Int)+1) % 5 else (i:Int))=(b:Int)/\a<b/\b<5:=by
  refine⟨min i ((i+1) % 5),max i ((i+1) % 5),?_⟩;rcases(show i=0\/i=1\/i=2\/i=3\/i=4 by omega) with rfl | rfl | rfl | rfl | rfl<;>decide
 obtain⟨a,b,ea,eb,ab,b5⟩:=key;refine⟨_,rfl,_,rfl,by show(0:Int)<5;decide,_,rfl,_,rfl,by show(0:Int)<5;decide,by show 2<=big;decide,by show 1<=big;decide,_,rfl,?_⟩;show Δ kd [.loc t,.int 3] (S++[SO.lst [SV.tup [SV.int (if ((i:Int)+1) % 5<(i:Int) then ((i:Int)+1) % 5 else (i:Int)),SV.int (if (i:Int)<((i:Int)+1) % 5 then ((i:Int)+1) % 5 else (i:Int))]]]) _;rw[ea,eb];refine hd A.push.tape (by decide) (by decide) λr S1 r0 r1 T1 O1 _=>?_;have hc:S1[S.length]?=some (SO.lst [pairS (a,b)]):=O1.keep _ _ (by have:=A.tape.lt;omega) f8;have A1:=A.push.draw T1 O1;obtain⟨m,hm⟩:∃ m:Nat,1+r=(m:Int):=⟨(1+r).toNat,by omega⟩
 have m3:m<=3:=by omega
 refine⟨_,hc,⟨by omega,by omega⟩,by show 1 * _<=100000;omega,?_⟩;rw[show(1+r).toNat=m by omega];rw[Hm];refine⟨_,_,j7 A1.at',f8,by rw[Vm,Vm,Wj];show _<=100000;omega,?_⟩;rw[<-WB];exact q (a,b) m _ ab b5 m3 A1.push.put
def tzM(k:Nat):Nat:=if k=1 then 9 else 4
theorem U1(hd:CJ (Δ kd)){t l j k:Nat}{S0 S:Sto}{es:EE}{E:EndsS}{o1 o5 o6 o7:Option SV}(A:Ah t S0 S l es)(hl:es.length<=45)
 (q:∀(m:Nat) (S':Sto) (o5:Option SV),m<=tzM k->Ah t S0 S' l (es++Vx m (j,k))->E.nx [some (.loc t),o1,some (.loc l),some (.int (k:Nat)),some (.int (j:Nat)),o5,o6,o7] S'):wSs Δ (tzB kd) E [some (.loc t),o1,some (.loc l),some (.int (k:Nat)),some (.int (j:Nat)),o5,o6,o7] S:=by
 have fin:∀(m:Nat) (S1:Sto),m<=tzM k->Ah t S0 S1 l es->wSs Δ [(.expr (.mt .extend (.var 2) (.cons (.op .Mult (.lst (.cons (.tup (.cons (.var 4) (.cons (.var 3) .nil))) .nil)) (.var 5)) .nil)))] E [some (.loc t),o1,some (.loc l),some (.int (k:Nat)),some (.int (j:Nat)),some (.int (m:Nat)),o6,o7] S1:=by
  intro m S1 hm A1;have m9:m<=9:=by unfold tzM at hm;split at hm<;>omega
  refine⟨_,rfl,⟨_,_,rfl,A1.at'⟩,_,rfl,_,rfl,by show 2<=big;decide,by show 1<=big;decide,_,rfl,_,f8,⟨by omega,by omega⟩,by rw[Ws];show 1 * _<=100000;omega,?_⟩;rw[Ws];rw[show(Vx m [SV.tup [SV.int (j:Nat),SV.int (k:Nat)]]).flatten=(Vx m (j,k)).map pairS from Hm m (j,k)];refine⟨_,_,A1.push.push.at',f8,by rw[Vm,Vm,Wj];show _<=100000;omega,?_⟩;rw[<-WB];exact q m _ _ hm A1.push.push.put
 have pick:∀(v:Nat) (S1:Sto),v<=tzM k->Ah t S0 S1 l es->Mk [.int 0,.int 1,.int 2,.int 3,.int 4,.int (v:Nat)] S1 λx S2=>(wEx Δ (.call kd (.cons (.var 0) (.cons (.c (.int 6)) .nil)))).1 [some (.loc t),o1,some (.loc l),some (.int (k:Nat)),some (.int (j:Nat)),o5,o6,o7] S2 λy S3=>sIx x y S3 λx S4=>wSs Δ [(.expr (.mt .extend (.var 2) (.cons (.op .Mult (.lst (.cons (.tup (.cons (.var 4) (.cons (.var 3) .nil))) .nil)) (.var 5)) .nil)))] E [some (.loc t),o1,some (.loc l),some (.int (k:Nat)),some (.int (j:Nat)),some x,o6,o7] S4:=by
  intro v S1 hv A1;have t1:=A1.tape.lt;refine⟨by show 6<=big;decide,_,rfl,hd A1.push.tape (by decide) (by decide) λr S2 r0 r1 T2 O2 _=>?_⟩;have h2:S2[S1.length]?=some (SO.lst [.int 0,.int 1,.int 2,.int 3,.int 4,.int (v:Nat)]):=O2.keep _ _ (by omega) f8;have A2:=A1.push.draw T2 O2;have m4:4<=tzM k:=by unfold tzM;split<;>omega
  rcases(show r=0\/r=1\/r=2\/r=3\/r=4\/r=5 by omega) with rfl | rfl | rfl | rfl | rfl | rfl
  ·exact⟨_,_,f6 h2,rfl,fin 0 S2 (by omega) A2⟩
  ·exact⟨_,_,f6 h2,rfl,fin 1 S2 (by omega) A2⟩
  ·exact⟨_,_,f6 h2,rfl,fin 2 S2 (by omega) A2⟩
  ·exact⟨_,_,f6 h2,rfl,fin 3 S2 (by omega) A2⟩
  ·exact⟨_,_,f6 h2,rfl,fin 4 S2 (by omega) A2⟩
  ·exact⟨_,_,f6 h2,rfl,fin v S2 (by omega) A2⟩
 refine⟨by show 2<=big;decide,_,rfl,?_⟩;by_cases k1:k=1
 ·subst k1;exact⟨_,_,f6 f8,rfl,pick 9 _ (by decide) A.push⟩
 ·refine⟨_,SV.int ((1:Nat):Int),f6 f8,?_,pick 1 _ (by unfold tzM;split<;>omega) A.push⟩;rw[decide_eq_false (show ¬ ((k:Nat):Int)=1 by omega)];rfl
theorem U2(hΔ:∀ f,MonoN (Δ f))(hd:CJ (Δ kd)){D:Df}(hb:D.body=VU kd)(hN:D.N.length=8)(hp:D.ps.length=1):Rk (g9 Δ D):=by
 intro t S Q T q;unfold g9;rw[hb,hN];have t0:=T.lt;refine⟨hp.symm,_,rfl,hd T (by decide) (by decide) λr1 S1 a0 a1 T1 O1 _=>?_⟩;refine⟨by show 0<=big;decide,?_⟩;have A1:Ah t S (S1++[SO.lst []]) S1.length []:=⟨T1.push,O1.push,f8,O1.len,t0⟩
 obtain⟨n,hn⟩:∃ n:Nat,3+r1=(n:Int):=⟨(3+r1).toNat,by omega⟩
 rw[hn];have n3:3<=n:=by omega
 have n5:n<=5:=by omega
 generalize S1.length=l at *;generalize S1++[SO.lst []]=S2 at *;refine⟨_,rfl,hd A1.tape (by decide) (by decide) λr2 S3 b0 b1 T3 O3 _=>⟨_,rfl,?_⟩⟩;have A3:=A1.draw T3 O3;refine ifD (λ_=>?_) (λ_=>?_)
 ·refine⟨_,rfl,⟨by decide,by decide⟩,?_⟩;refine t7 (j5 hΔ _) (λi ρ S4=>∃(es:EE) (o3:Option SV),ρ=[some (.loc t),some (.int ((5:Nat):Int)),some (.loc l),o3,none,none,none,none]/\Ah t S S4 l es/\(∀ e∈es,e.1<e.2/\e.2<5)/\es.length<=3 * i) ⟨[],none,rfl,A3,(λ_ h=>nomatch h),Vt _⟩ (λ_ _ _ _=>trivial) ?_ ?_
  ·rintro i x ρ S4 E hE hR hx ⟨es,o3,rfl,A4,he,hl⟩;obtain⟨rfl,hi⟩:=AE hx;rw[X2]at hi ⊢;have hi:i<5:=by omega
   refine U0 hd A4 hi (by omega) λe m S5 e1 e2 m3 A5=>hE _ _ ⟨_,_,rfl,A5,λe' h=>?_,by rw[Vo,Wj];omega⟩;rcases WM.mp h with h | h
   ·exact he e' h
   ·rw[YF h];exact⟨e1,e2⟩
  ·rintro ρ S4 ⟨es,o3,rfl,A4,he,hl⟩;have e5:(CC 0 5).length=5:=by rw[u4];rfl
   rw[e5]at hl;exact Hl hΔ hd he (by omega) A4 λes S' h1 h2 T' O'=>q 5 es S' h1 (by omega) h2 T' O'
 ·refine⟨_,rfl,_,rfl,⟨by omega,by omega⟩,?_⟩;refine t7 (j5 hΔ _) (λk ρ S4=>∃(es:EE) (o3 o4 o5:Option SV),ρ=[some (.loc t),some (.int (n:Nat)),some (.loc l),o3,o4,o5,none,none]/\Ah t S S4 l es/\(∀ e∈es,e.1<e.2/\e.2<n)/\es.length<=[0,0,9,17,29,45].getD k 45) ⟨[],none,none,none,rfl,A3,(λ_ h=>nomatch h),Vt _⟩ (λ_ _ _ _=>trivial) ?_ ?_
  ·rintro k x ρ S4 E hE hR hx ⟨es,o3,o4,o5,rfl,A4,he,hl⟩;obtain⟨rfl,hk⟩:=AE hx;rw[X2]at hk ⊢;have hk:k<n:=by omega
   have grow:[0,0,9,17,29,45].getD k 45+k * tzM k<=[0,0,9,17,29,45].getD (k+1) 45/\[0,0,9,17,29,45].getD (k+1) 45<=45:=by
    rcases(show k=0\/k=1\/k=2\/k=3\/k=4 by omega) with rfl | rfl | rfl | rfl | rfl<;>decide
   generalize [0,0,9,17,29,45].getD k 45=B at *;generalize [0,0,9,17,29,45].getD (k+1) 45=B' at *;refine⟨_,rfl,_,rfl,⟨by omega,by omega⟩,?_⟩;have ek:(CC 0 (k:Int)).length=k:=by rw[u4];omega
   refine t7 (j5 hΔ _) (λj ρ S5=>∃(es:EE) (o4 o5:Option SV),ρ=[some (.loc t),some (.int (n:Nat)),some (.loc l),some (.int (k:Nat)),o4,o5,none,none]/\Ah t S S5 l es/\(∀ e∈es,e.1<e.2/\e.2<n)/\es.length<=B+j * tzM k) ⟨es,o4,o5,rfl,A4,he,by omega⟩ (λ_ _ _ _=>trivial) ?_ ?_
   ·rintro j x ρ S5 E' hE' hR' hx ⟨es,o4,o5,rfl,A5,he,hl⟩;have jk:j<k:=by have:=(gM hx).1;rwa [ek]at this
    obtain⟨rfl,hj⟩:=AE hx;rw[X2]at hj ⊢;have jm:j * tzM k+tzM k<=k * tzM k:=by rw[<-Xa];exact Nat.mul_le_mul_right _ jk
    refine U1 hd A5 (by omega) λm S6 o5 hm A6=>hE' _ _ ⟨_,_,_,rfl,A6,λe' h=>?_,by rw[Vo,Wj,Xa];omega⟩;rcases WM.mp h with h | h
    ·exact he e' h
    ·rw[YF h];exact⟨jk,hk⟩
   ·rintro ρ S5 ⟨es,o4,o5,rfl,A5,he,hl⟩;rw[ek]at hl;exact hE _ _ ⟨es,_,_,_,rfl,A5,he,by omega⟩
  ·rintro ρ S4 ⟨es,o3,o4,o5,rfl,A4,he,hl⟩;have en:(CC 0 (n:Int)).length=n:=by rw[u4];omega
   rw[en]at hl
   have h45:[0,0,9,17,29,45].getD n 45<=45:=by
    rcases(show n=3\/n=4\/n=5 by omega) with rfl | rfl | rfl<;>decide
   exact Hl hΔ hd he (by omega) A4 λes S' h1 h2 T' O'=>q n es S' h1 n5 h2 T' O'
end
end Rf
namespace Hue
open PySem L2 Rf
def top(i:Nat):Stmt:=PySem.Challenge.pw_huedties_k25_many_ties_between_two.main.body.getD i (.Pass ⟨0,0,0,0⟩)
def b0:List Stm:=Iy
def d0:Df:=⟨"is_number",top 9,["thing"],["thing"],b0⟩
def b1:List Stm:=VO
def d1:Df:=⟨"is_listed",top 10,["thing"],["thing"],b1⟩
def b2:List Stm:=Ez 0
def d2:Df:=⟨"has_place",top 12,["web","place"],["web","place"],b2⟩
def b3:List Stm:=K1 0
def d3:Df:=⟨"has_tie",top 13,["web","tie"],["web","tie"],b3⟩
def b4:List Stm:=Fj 2
def d4:Df:=⟨"check_place",top 14,["web","place"],["web","place"],b4⟩
def b5:List Stm:=Fj 3
def d5:Df:=⟨"check_tie",top 15,["web","tie"],["web","tie"],b5⟩
def b6:List Stm:=K3 4
def d6:Df:=⟨"ties_at",top 16,["web","place"],["web","place"],b6⟩
def b7:List Stm:=RL
def d7:Df:=⟨"most_at",top 17,["web"],["web","counts","one","other"],b7⟩
def b8:List Stm:=OL
def d8:Df:=⟨"thickest",top 18,["web"],["web","counts","ends"],b8⟩
def b9:List Stm:=KQ 7 8
def d9:Df:=⟨"enough",top 19,["web"],["web"],b9⟩
def b10:List Stm:=K4 5
def d10:Df:=⟨"far_end",top 20,["web","tie","place"],["web","tie","place","one","other"],b10⟩
def b11:List Stm:=Oj
def d11:Df:=⟨"meets",top 21,["web","one","other"],["web","one","other"],b11⟩
def b12:List Stm:=RO 0
def d12:Df:=⟨"is_hue",top 23,["thing"],["thing"],b12⟩
def b13:List Stm:=KB 1 12 14
def d13:Df:=⟨"is_hueing",top 24,["web","thing"],["web","thing"],b13⟩
def b14:List Stm:=Nv
def d14:Df:=⟨"clash_of",top 25,["web","row"],["web","row","first","clashes","tie","ends","hue","place","earlier"],b14⟩
def b15:List Stm:=KH 6
def d15:Df:=⟨"hues_at",top 26,["web","hueing","place"],["web","hueing","place"],b15⟩
def b16:List Stm:=OB 15
def d16:Df:=⟨"free_at",top 27,["web","hueing","place","hues"],["web","hueing","place","hues","taken"],b16⟩
def b17:List Stm:=RP 6
def d17:Df:=⟨"tie_of_hue",top 29,["web","hueing","place","hue"],["web","hueing","place","hue","tie"],b17⟩
def b18:List Stm:=KD
def d18:Df:=⟨"check_unlike",top 30,["one","other"],["one","other"],b18⟩
def b19:List Stm:=RQ 4 18 17 10
def d19:Df:=⟨"row_from",top 31,["web","hueing","place","one","other"],["web","hueing","place","one","other","row","tie"],b19⟩
def b20:List Stm:=RS 18 3 13
def d20:Df:=⟨"exchanged",top 32,["web","hueing","ties","one","other"],["web","hueing","ties","one","other","changed","tie"],b20⟩
def b21:List Stm:=Ri 3
def d21:Df:=⟨"tie_has_hue",top 34,["web","hueing","tie"],["web","hueing","tie"],b21⟩
def b22:List Stm:=O9 3
def d22:Df:=⟨"tie_lacks_hue",top 35,["web","hueing","tie"],["web","hueing","tie"],b22⟩
def b23:List Stm:=RW 13
def d23:Df:=⟨"with_hues",top 36,["web","hueing","given"],["web","hueing","given","changed","tie","hue"],b23⟩
def b24:List Stm:=RX 22 12 23
def d24:Df:=⟨"after_hue",top 37,["web","hueing","tie","hue"],["web","hueing","tie","hue"],b24⟩
def b25:List Stm:=[(.iff (.not (.call 21 (.cons (.var 0) (.cons (.var 1) (.cons (.var 2) .nil))))) [(.ret (.c .non))] []),(.ret (.call 23 (.cons (.var 0) (.cons (.var 1) (.cons (.lst (.cons (.tup (.cons (.var 2) (.cons (.c .non) .nil))) .nil)) .nil)))))]
def d25:Df:=⟨"after_drop",top 38,["web","hueing","tie"],["web","hueing","tie"],b25⟩
def b26:List Stm:=Op 21 22 11 23
def d26:Df:=⟨"after_move",top 39,["web","hueing","tie","other"],["web","hueing","tie","other"],b26⟩
def b27:List Stm:=RT 12 19 20
def d27:Df:=⟨"after_row",top 40,["web","hueing","place","one","other"],["web","hueing","place","one","other"],b27⟩
noncomputable def b28:List Stm:=J3 24 25 26 27
noncomputable def d28:Df:=⟨"after_step",top 41,["web","hueing","step"],["web","hueing","step","word"],b28⟩
def b29:List Stm:=RU 28
def d29:Df:=⟨"done_step",top 42,["web","hueing","step"],["web","hueing","step","changed"],b29⟩
def b30:List Stm:=KJ 28
def d30:Df:=⟨"played",top 43,["web","hueing","steps"],["web","hueing","steps","told","now","at","step"],b30⟩
def b31:List Stm:=Re
def d31:Df:=⟨"next_of_fan",top 45,["hueing","fan","around","free"],["hueing","fan","around","free","there","tie","back","hues"],b31⟩
def b32:List Stm:=OO 10 6 16 31
def d32:Df:=⟨"fan_of",top 46,["web","hueing","tie","place","hues"],["web","hueing","tie","place","hues","around","fan","free","pair","far"],b32⟩
def b33:List Stm:=Hc
def d33:Df:=⟨"turning",top 47,["fan","at","hue"],["fan","at","hue","way","back","steps"],b33⟩
def b34:List Stm:=KR 16 10 33
def d34:Df:=⟨"turned",top 48,["web","hueing","fan","place","hues"],["web","hueing","fan","place","hues","own","at","tie","back","free","shared"],b34⟩
def b35:List Stm:=KS 10 16
def d35:Df:=⟨"shared_hue",top 49,["web","hueing","fan","place","hues"],["web","hueing","fan","place","hues","owner","tie","back","far","hue"],b35⟩
def b36:List Stm:=Hf 35 16
def d36:Df:=⟨"freeing_row",top 50,["web","hueing","fan","place","hues"],["web","hueing","fan","place","hues","hue","first","own"],b36⟩
def b37:List Stm:=KU 32 34 36 29
def d37:Df:=⟨"steps_to_hue",top 51,["web","hueing","tie","hues"],["web","hueing","tie","hues","place","fan","steps","row"],b37⟩
def b38:List Stm:=Rb 9
def d38:Df:=⟨"check_enough",top 52,["web","hues"],["web","hues"],b38⟩
def b39:List Stm:=KW 5 38 37
def d39:Df:=⟨"hued_in",top 53,["web","hueing","tie","hues"],["web","hueing","tie","hues"],b39⟩
def b40:List Stm:=VT 38 37 30
def d40:Df:=⟨"all_hued",top 54,["web","hues"],["web","hues","hueing","steps","tie","added"],b40⟩
def b41:List Stm:=RI
def d41:Df:=⟨"_law_tape",top 56,["_law_script","_law_k"],["_law_script","_law_k","_law_cell","_law_digits"],b41⟩
noncomputable def b42:List Stm:=RJ
noncomputable def d42:Df:=⟨"_law_draw",top 57,["_law_tape_here","_law_many"],["_law_tape_here","_law_many","_law_found","_law_once"],b42⟩
def b43:List Stm:=RM
def d43:Df:=⟨"_law_meet",top 58,["_law_web","_law_one","_law_other"],["_law_web","_law_one","_law_other"],b43⟩
def b44:List Stm:=K8
def d44:Df:=⟨"_law_count",top 59,["_law_web","_law_place"],["_law_web","_law_place"],b44⟩
def b45:List Stm:=KY "_law_web" 44
def d45:Df:=⟨"_law_most",top 60,["_law_web"],["_law_web"],b45⟩
def b46:List Stm:=KZ "_law_web"
def d46:Df:=⟨"_law_thickest",top 61,["_law_web"],["_law_web"],b46⟩
def b47:List Stm:=HV 43
def d47:Df:=⟨"_law_is_hueing",top 62,["_law_web","_law_row_here"],["_law_web","_law_row_here","_law_tie","_law_hue","_law_k"],b47⟩
def b48:List Stm:=OV
def d48:Df:=⟨"_law_row",top 63,["_law_web","_law_hueing","_law_place","_law_one","_law_other"],["_law_web","_law_hueing","_law_place","_law_one","_law_other","_law_found","_law_due","_law_turn","_law_here"],b48⟩
def b49:List Stm:=OY
def d49:Df:=⟨"_law_hues",top 64,["_law_web","_law_hueing","_law_place"],["_law_web","_law_hueing","_law_place"],b49⟩
noncomputable def b50:List Stm:=Hi 48 49 43 47
noncomputable def d50:Df:=⟨"_law_stepped",top 65,["_law_web","_law_hueing","_law_step"],["_law_web","_law_hueing","_law_step","_law_made","_law_many","_law_place","_law_one","_law_other","_law_tie"],b50⟩
noncomputable def b51:List Stm:=Fz 51
noncomputable def d51:Df:=⟨"_law_same",top 66,["_law_found","_law_due"],["_law_found","_law_due"],b51⟩
def b52:List Stm:=Hk "_law_web" 42 43
def d52:Df:=⟨"_law_within",top 67,["_law_tape_here","_law_web","_law_hues_here"],["_law_tape_here","_law_web","_law_hues_here","_law_found","_law_tie","_law_taken","_law_free"],b52⟩
def b53:List Stm:=Oa 50
def d53:Df:=⟨"_law_walked",top 68,["_law_web","_law_hueing","_law_steps","_law_hues_here"],["_law_web","_law_hueing","_law_steps","_law_hues_here","_law_here","_law_step"],b53⟩
def b54:List Stm:=Rh 53
def d54:Df:=⟨"_law_got",top 69,["_law_web","_law_hueing","_law_tie","_law_steps","_law_hues_here"],["_law_web","_law_hueing","_law_tie","_law_steps","_law_hues_here","_law_here","_law_other","_law_hue"],b54⟩
def b55:List Stm:=VU 42
def d55:Df:=⟨"_law_thick",top 70,["_law_tape_here"],["_law_tape_here","_law_many","_law_pairs","_law_k","_law_j","_law_often","_law_ties","_law_pair"],b55⟩
noncomputable def b56:List Stm:=[(.loop (.nm 1) (.rng1 (.op .Add (.c (.int 1)) (.bi .min (.cons (.c (.int 3)) (.cons (.bi .len (.cons (.var 0) .nil)) .nil))))) [(.asg (.nm 2) (.call 41 (.cons (.var 0) (.cons (.var 1) .nil)))),(.asg (.nm 3) (.call 55 (.cons (.var 2) .nil))),(.asg (.nm 4) (.op .Add (.call 45 (.cons (.var 3) .nil)) (.call 46 (.cons (.var 3) .nil)))),(.asg (.tup (.cons (.nm 5) (.cons (.nm 6) .nil))) (.call 40 (.cons (.var 3) (.cons (.var 4) .nil)))),(.asg (.nm 7) (.call 53 (.cons (.var 3) (.cons (.op .Mult (.lst (.cons (.c .non) .nil)) (.bi .len (.cons (.ix (.var 3) (.c (.int 1))) .nil))) (.cons (.var 6) (.cons (.var 4) .nil)))))),(.iff (.or (.cmp .Is (.var 7) (.c .non)) (.or (.cmp .In (.c .non) (.var 7)) (.not (.call 51 (.cons (.var 5) (.cons (.var 7) .nil)))))) [(.ret (.c (.bl false)))] []),(.asg (.nm 7) (.call 52 (.cons (.var 2) (.cons (.var 3) (.cons (.var 4) .nil))))),(.loop (.tup (.cons (.nm 8) (.cons (.nm 9) .nil))) (.enum (.bi .list (.cons (.var 7) .nil))) [(.iff (.cmp .Is (.ix (.var 7) (.var 8)) (.c .non)) [(.asg (.nm 7) (.call 54 (.cons (.var 3) (.cons (.var 7) (.cons (.var 8) (.cons (.call 39 (.cons (.var 3) (.cons (.var 7) (.cons (.var 8) (.cons (.var 4) .nil))))) (.cons (.var 4) .nil))))))),(.iff (.cmp .Is (.var 7) (.c .non)) [(.ret (.c (.bl false)))] [])] [])])]),(.ret (.c (.bl true)))]
noncomputable def d56:Df:=⟨"law",top 71,["_law_script"],["_law_script","_law_k","_law_tape_here","_law_web","_law_hues_here","_law_hueing","_law_steps","_law_here","_law_tie","_law_hue"],b56⟩
noncomputable def prog:List Df:=[d0,d1,d2,d3,d4,d5,d6,d7,d8,d9,d10,d11,d12,d13,d14,d15,d16,d17,d18,d19,d20,d21,d22,d23,d24,d25,d26,d27,d28,d29,d30,d31,d32,d33,d34,d35,d36,d37,d38,d39,d40,d41,d42,d43,d44,d45,d46,d47,d48,d49,d50,d51,d52,d53,d54,d55,d56]
theorem Hn:prog.all (QQ (prog.map (·.name)))=true:=by decide +kernel
theorem hW(d:Nat):∀ f,MonoN (W prog d f):=E1 d
theorem s0(d:Nat):DP (W prog (d+1) 0):=Nm (Δ:=W prog d) (D:=d0) rfl rfl rfl
theorem g0(d:Nat):Tn (W prog (d+1) 0):=QV (Δ:=W prog d) (D:=d0) rfl rfl rfl
theorem s1(d:Nat):To (W prog (d+1) 1):=QX (Δ:=W prog d) (D:=d1) rfl rfl rfl
theorem s2(d:Nat):CK (W prog (d+2) 2):=HP (Δ:=W prog (d+1)) (D:=d2) (s0 d) rfl rfl rfl
theorem s3(d:Nat):BC (W prog (d+2) 3):=LZ (Δ:=W prog (d+1)) (D:=d3) (s0 d) rfl rfl rfl
theorem s4(d:Nat):Ab (W prog (d+3) 4):=EU (Δ:=W prog (d+2)) (D:=d4) (s2 d) rfl rfl rfl
theorem s5(d:Nat):BO (W prog (d+3) 5):=HQ (Δ:=W prog (d+2)) (D:=d5) (s3 d) rfl rfl rfl
theorem s6(d:Nat):Bn (W prog (d+4) 6):=La (Δ:=W prog (d+3)) (D:=d6) (hW _) (s4 d) rfl rfl rfl
theorem s7(d:Nat):Iz (W prog (d+1) 7):=QU (Δ:=W prog d) (D:=d7) (hW _) rfl rfl rfl
theorem s8(d:Nat):Cf (W prog (d+1) 8):=OM (Δ:=W prog d) (D:=d8) (hW _) rfl rfl rfl
theorem s9(d:Nat):ED (W prog (d+2) 9):=Ln (Δ:=W prog (d+1)) (D:=d9) (s7 d) (s8 d) rfl rfl rfl
theorem s10(d:Nat):BD (W prog (d+4) 10):=Lb (Δ:=W prog (d+3)) (D:=d10) (s5 d) rfl rfl rfl
theorem s12(d:Nat):Nx (W prog (d+2) 12):=QZ (Δ:=W prog (d+1)) (D:=d12) (g0 d) rfl rfl rfl
theorem s14(d:Nat):J1 (W prog (d+1) 14):=Lf (Δ:=W prog d) (D:=d14) (hW _) rfl rfl rfl
theorem s13(d:Nat):Ax (W prog (d+3) 13):=J2 (Δ:=W prog (d+2)) (D:=d13) (hW _) (s1 (d+1)) (s12 d) (s14 (d+1)) rfl rfl rfl
theorem s15(d:Nat):D0 (W prog (d+5) 15):=J6 (Δ:=W prog (d+4)) (D:=d15) (hW _) (s6 d) rfl rfl rfl
theorem s16(d:Nat):Bz (W prog (d+6) 16):=OE (Δ:=W prog (d+5)) (D:=d16) (hW _) (s15 d) rfl rfl rfl
theorem s17(d:Nat):Fp (W prog (d+5) 17):=OC (Δ:=W prog (d+4)) (D:=d17) (hW _) (s6 d) rfl rfl rfl
theorem s18(d:Nat):Cc (W prog (d+1) 18):=Lg (Δ:=W prog d) (D:=d18) rfl rfl rfl
theorem s19(d:Nat):Cz (W prog (d+6) 19):=Qf (Δ:=W prog (d+5)) (D:=d19) (hW _) (s4 (d+2)) (s18 (d+4)) (s17 d) (s10 (d+1)) rfl rfl rfl
theorem s20(d:Nat):Fq (W prog (d+4) 20):=OD (Δ:=W prog (d+3)) (D:=d20) (hW _) (s18 (d+2)) (s3 (d+1)) (s13 d) rfl rfl rfl
theorem s27(d:Nat):AX (W prog (d+7) 27) λp a b=>[.int (p:Nat),.int (a:Nat),.int (b:Nat)]:=OJ (Δ:=W prog (d+6)) (D:=d27) (s12 (d+4)) (s19 d) (s20 (d+2)) rfl rfl rfl
theorem s28(d:Nat):AX (W prog (d+8) 28) λp a b=>[w9 (.row p a b)]:=F5 (Δ:=W prog (d+7)) (D:=d28) (s27 d) rfl rfl rfl
theorem s29(d:Nat):AX (W prog (d+9) 29) λp a b=>[w9 (.row p a b)]:=OK (Δ:=W prog (d+8)) (D:=d29) (s28 d) rfl rfl rfl
theorem s11(d:Nat):G7 (W prog (d+1) 11):=Ol (Δ:=W prog d) (D:=d11) (hW _) rfl rfl rfl
theorem s21(d:Nat):JE (W prog (d+3) 21):=Qs (Δ:=W prog (d+2)) (D:=d21) (s3 d) rfl rfl rfl
theorem s22(d:Nat):DQ (W prog (d+3) 22):=OA (Δ:=W prog (d+2)) (D:=d22) (s3 d) rfl rfl rfl
theorem s23(d:Nat):DS (W prog (d+4) 23):=Om (Δ:=W prog (d+3)) (D:=d23) (hW _) (s13 d) rfl rfl rfl
theorem s24(d:Nat):StW (W prog (d+5) 24) JF Lw:=Oo (Δ:=W prog (d+4)) (D:=d24) (s22 (d+1)) (s12 (d+2)) (s23 d) rfl rfl rfl
theorem s26(d:Nat):StW (W prog (d+5) 26) GA Lw:=Lx (Δ:=W prog (d+4)) (D:=d26) (s21 (d+1)) (s22 (d+1)) (s11 (d+3)) (s23 d) rfl rfl rfl
theorem a28(d:Nat):F7 (W prog (d+8) 28):=Ly (Δ:=W prog (d+7)) (D:=d28) (s24 (d+2)) (s26 (d+2)) (s27 d) rfl rfl rfl
theorem s30(d:Nat):D6 (W prog (d+9) 30):=JD (Δ:=W prog (d+8)) (D:=d30) (hW _) (a28 d) rfl rfl rfl
theorem s31(d:Nat):J7 (W prog (d+1) 31):=Qn (Δ:=W prog d) (D:=d31) (hW _) rfl rfl rfl
theorem s32(d:Nat):OP (W prog (d+7) 32):=Tw (Δ:=W prog (d+6)) (D:=d32) (hW _) (s10 (d+2)) (s6 (d+2)) (s16 d) (s31 (d+5)) rfl rfl rfl
theorem s33(d:Nat):D3 (W prog (d+1) 33):=J8 (Δ:=W prog d) (D:=d33) (hW _) rfl rfl rfl
theorem s34(d:Nat):EF (W prog (d+7) 34):=Lp (Δ:=W prog (d+6)) (D:=d34) (hW _) (s16 d) (s10 (d+2)) (s33 (d+5)) rfl rfl rfl
theorem s35(d:Nat):EG (W prog (d+7) 35):=Lq (Δ:=W prog (d+6)) (D:=d35) (hW _) (s10 (d+2)) (s16 d) rfl rfl rfl
theorem s36(d:Nat):D4 (W prog (d+8) 36):=J9 (Δ:=W prog (d+7)) (D:=d36) (s35 d) (s16 (d+1)) rfl rfl rfl
theorem s37(d:Nat):Cg (W prog (d+10) 37):=Lr (Δ:=W prog (d+9)) (D:=d37) (s32 (d+2)) (s34 (d+2)) (s36 (d+1)) (s29 d) rfl rfl rfl
theorem s38(d:Nat):Fu (W prog (d+3) 38):=Qm (Δ:=W prog (d+2)) (D:=d38) (s9 d) rfl rfl rfl
theorem s39(d:Nat):OR (W prog (d+11) 39):=Qq (Δ:=W prog (d+10)) (D:=d39) (s5 (d+7)) (s38 (d+7)) (s37 d) rfl rfl rfl
theorem s40(d:Nat):Rj (W prog (d+11) 40):=Tz (Δ:=W prog (d+10)) (D:=d40) (hW _) (s38 (d+7)) (s37 d) (s30 (d+1)) rfl rfl rfl
theorem s41(d:Nat):Nl (W prog (d+1) 41):=QS (Δ:=W prog d) (D:=d41) rfl rfl rfl
theorem s42(d:Nat):CJ (W prog (d+1) 42):=QR (Δ:=W prog d) (D:=d42) rfl rfl rfl
theorem s43(d:Nat):F1 (W prog (d+1) 43):=Nu (Δ:=W prog d) (D:=d43) rfl rfl rfl
theorem s44(d:Nat):E7 (W prog (d+1) 44):=Lc (Δ:=W prog d) (D:=d44) (hW _) rfl rfl rfl
theorem s45(d:Nat):K9 (W prog (d+2) 45):=Lu (Δ:=W prog (d+1)) (D:=d45) (hW _) (s44 d) rfl rfl rfl
theorem s46(d:Nat):Cf (W prog (d+1) 46):=Lv (Δ:=W prog d) (D:=d46) (hW _) rfl rfl rfl
theorem s47(d:Nat):Ax (W prog (d+2) 47):=J4 (Δ:=W prog (d+1)) (D:=d47) (hW _) (s43 d) rfl rfl rfl
theorem s48(d:Nat):Cz (W prog (d+1) 48):=OX (Δ:=W prog d) (D:=d48) (hW _) rfl rfl rfl
theorem s49(d:Nat):Fw (W prog (d+1) 49):=OZ (Δ:=W prog d) (D:=d49) (hW _) rfl rfl rfl
theorem s50(d:Nat):F7 (W prog (d+3) 50):=JB (Δ:=W prog (d+2)) (D:=d50) (hW _) (s48 (d+1)) (s49 (d+1)) (s43 (d+1)) (s47 d) rfl rfl rfl
theorem U3{S:Sto}{a b:Nat}{cs:List Nat}(ha:S[a]?=some (.lst (f9 cs)))(hb:S[b]?=some (.lst (f9 cs)))(hl:cs.length<=2000)(all:∀ c∈cs,c<1000):O4 (W prog 11 51) S (.loc a) (.loc b):=M0 (Δ0:=W prog 9) (Δ1:=W prog 10) (D:=d51) (hW _) rfl rfl rfl rfl ha hb hl all
theorem s52(d:Nat):F8 (W prog (d+2) 52):=JC (Δ:=W prog (d+1)) (D:=d52) (hW _) (s42 d) (s43 d) rfl rfl rfl
theorem s53(d:Nat):Fy (W prog (d+4) 53):=Of (Δ:=W prog (d+3)) (D:=d53) (hW _) (s50 d) rfl rfl rfl
theorem s54(d:Nat):Og (W prog (d+5) 54):=Qr (Δ:=W prog (d+4)) (D:=d54) (hW _) (s53 d) rfl rfl rfl
theorem s55(d:Nat):Rk (W prog (d+2) 55):=U2 (Δ:=W prog (d+1)) (D:=d55) (hW _) (s42 d) rfl rfl rfl
theorem Ho{n:Nat}{es:EE}(h:es.length<=60):v8 es n<=es.length:=by
 rcases E5 es n with z | ⟨p,_,z⟩
 ·omega
 ·have:t4 es p=(i9 es p es.length).length:=rfl;have:=E3 es p es.length;omega
theorem U4{es:EE}{H:Nat}{ds:List Nat}(hH:H<=1000)(hl:ds.length=es.length)(h:∀ u,u<es.length->hu ds u<H):inS .non (f9 ds)=false:=by
 unfold inS;rw[Y5];intro x hx z;obtain⟨i,hi⟩:=Wu hx;obtain⟨c,hc,rfl⟩:=BS hi;have il:=(gM hc).1;have e:hu ds i=c:=by show ds.getD i 0=_;rw[Vq,hc];rfl
 have:=h i (by omega);rw[p6 (by omega)]at z;cases z
def qa:Stm:=(.asg (.tup (.cons (.nm 5) (.cons (.nm 6) .nil))) (.call 40 (.cons (.var 3) (.cons (.var 4) .nil))))
def qb:Stm:=(.asg (.nm 7) (.call 53 (.cons (.var 3) (.cons (.op .Mult (.lst (.cons (.c .non) .nil)) (.bi .len (.cons (.ix (.var 3) (.c (.int 1))) .nil))) (.cons (.var 6) (.cons (.var 4) .nil))))))
def qc:Stm:=(.iff (.or (.cmp .Is (.var 7) (.c .non)) (.or (.cmp .In (.c .non) (.var 7)) (.not (.call 51 (.cons (.var 5) (.cons (.var 7) .nil)))))) [(.ret (.c (.bl false)))] [])
def qd:Stm:=(.asg (.nm 7) (.call 52 (.cons (.var 2) (.cons (.var 3) (.cons (.var 4) .nil)))))
def qe:List Stm:=[(.iff (.cmp .Is (.ix (.var 7) (.var 8)) (.c .non)) [(.asg (.nm 7) (.call 54 (.cons (.var 3) (.cons (.var 7) (.cons (.var 8) (.cons (.call 39 (.cons (.var 3) (.cons (.var 7) (.cons (.var 8) (.cons (.var 4) .nil))))) (.cons (.var 4) .nil))))))),(.iff (.cmp .Is (.var 7) (.c .non)) [(.ret (.c (.bl false)))] [])] [])]
def qf:Stm:=(.loop (.tup (.cons (.nm 8) (.cons (.nm 9) .nil))) (.enum (.bi .list (.cons (.var 7) .nil))) qe)
theorem U5{E:EndsS}{n H m t:Nat}{es:EE}{S:Sto}{o0 o1 o5 o6 o7 o8 o9:Option SV}(T:TapeS S t)(hen:∀ e∈es,e.1<e.2/\e.2<n)(nn:n<=5)(el:es.length<=45)(hH:H<=1000)(hm:IsTh es m)(hmH:v8 es n+m<=H)
 (q:∀(S':Sto) (o5 o6 o7 o8 o9:Option SV),E.nx [o0,o1,some (.loc t),some (i8 n es),some (.int (H:Nat)),o5,o6,o7,o8,o9] S'):wSs (W prog 11) [qa,qb,qc,qd,qf] E [o0,o1,some (.loc t),some (i8 n es),some (.int (H:Nat)),o5,o6,o7,o8,o9] S:=by
 have hc:∀ y,y<n->t4 es y+m<=H:=λy hy=>by have:=Bp es hy;omega
 obtain⟨k1,k2,k3,k4,_,k6⟩:=GB hen hH hc hm es.length (Vt _);refine⟨_,rfl,_,rfl,s40 0 hen (by omega) (by omega) hH hm hmH λa b S1 G1 al bl ab ha hb=>?_⟩;generalize (AC es H es.length).1=cs at *;generalize (AC es H es.length).2=sts at *;have cl:=k3.P.len
 have all:∀ c∈cs,c<1000:=λc hc'=>by
  obtain⟨i,hi⟩:=Wu hc';have il:=(gM hi).1;have e:hu cs i=c:=by show cs.getD i 0=_;rw[Vq,hi];rfl
  have:=k4 i (by omega);omega
 refine⟨_,rfl,by show 1<=100000;decide,_,rfl,_,_,rfl,rfl,_,rfl,_,f8,⟨by rw[Vm];omega,by rw[Vm];omega⟩,by rw[Vm];show 1 * _<=100000;omega,_,rfl,_,rfl,?_⟩;rw[show(Vx (((es.map pairS).length:Nat):Int).toNat [SV.non]).flatten=f9 (cs0 es.length) by rw[Vm,Ws];exact Hh _];have h0:(S1++[SO.lst [SV.non]]++[SO.lst (f9 (cs0 es.length))])[(S1++[SO.lst [SV.non]]).length]?=some (SO.lst (f9 (cs0 es.length))):=f8;have G4:Gw S1 (S1++[SO.lst [SV.non]]++[SO.lst (f9 (cs0 es.length))]):=(Gw.refl S1).push.push;generalize (S1++[SO.lst [SV.non]]).length=k0 at *;generalize S1++[SO.lst [SV.non]]++[SO.lst (f9 (cs0 es.length))]=S4 at *;refine s53 7 (Hv.loc h0) (hg0 es) hen (by omega) hH (G4.keep _ _ hb) k1 λl5 S5 G5 l5l h5=>?_;rw[<-k2]at h5;have G15:=G4.trans G5;have ha5:=G15.keep _ _ ha;refine⟨_,rfl,.inl ⟨rfl,_,rfl,ifF rfl ⟨_,rfl,?_⟩⟩⟩;show match BU (.loc l5) S5 with | some ms=>_ | none=>_
 rw[Ak h5];refine⟨rfl,_,f6 h5,Hj _,_,rfl,?_⟩;show if inS .non (f9 cs)=true then _ else _
 rw[U4 hH cl k4];refine ifF rfl ⟨_,rfl,_,rfl,U3 ha5 h5 (by omega) all S5 _ (Gw.refl _) λS6 G6 _=>⟨_,rfl,ifF rfl (f7 ?_)⟩⟩;have T6:=((G1.trans G15).trans G6).tape T;refine⟨_,rfl,_,rfl,_,rfl,s52 9 T6 (by omega) hH λl7 ds S7 T7 O7 l7l h7 g7=>?_⟩;refine⟨_,rfl,_,f6 h7,?_⟩;have h8:(S7++[SO.lst (f9 ds)])[S7.length]?=some (SO.lst (f9 ds)):=f8;refine⟨_,f6 h8,?_⟩;refine t7 (j5 (hW _) _) (λi ρ S8=>∃(c:Nat) (ds':List Nat) (o8 o9:Option SV),ρ=[o0,o1,some (.loc t),some (i8 n es),some (.int (H:Nat)),some (.loc a),some (.loc b),some (.loc c),o8,o9]/\Gw (S7++[SO.lst (f9 ds)]) S8/\S8[c]?=some (.lst (f9 ds'))/\Hg H es ds') ⟨l7,ds,o8,o9,rfl,Gw.refl _,j7 h7,g7⟩ (λ_ _ S8 z=>?_) ?_ ?_
 ·obtain⟨_,_,_,_,_,G,_⟩:=z;exact(G.keep _ _ h8).trans h8.symm
 ·rintro i x ρ S8 E' hE' hR' hx ⟨c,ds',o8,o9,rfl,G8,hc8,g8⟩;obtain⟨y,hy,rfl⟩:=B4 hx;obtain⟨c',hc',rfl⟩:=BS hy;have il:i<es.length:=by have:=(gM hc').1;rw[g7.P.len]at this;exact this
  have gt:(f9 ds')[i]?=some (pS (hu ds' i)):=p9 (u7 (by have:=g8.P.len;omega));refine⟨_,rfl,_,rfl,_,_,f6 hc8,i6 gt,.inl ⟨rfl,_,rfl,?_⟩⟩;show if A9 (pS (hu ds' i))=true then _ else _
  rw[CL];by_cases z:hu ds' i<1000
  ·rw[decide_eq_true z];exact ifF rfl (f7 (hE' _ _ ⟨c,ds',_,_,rfl,G8,hc8,g8⟩))
  ·rw[decide_eq_false z];obtain⟨ok,gs⟩:=C0 hen hH g8 il z hc hm.1;have ef:EH es ds' i H=u9 es ds' i H:=iG z;have hl:=CN (n:=n) (H:=H) (cs:=ds') il;refine ifT rfl ⟨_,rfl,_,rfl,_,rfl,_,rfl,_,rfl,_,rfl,_,rfl,s39 0 (Hv.loc hc8) g8 hen (by omega) (by omega) hH il hm hmH λl9 S9 G9 l9l h9=>⟨_,rfl,?_⟩⟩;refine s54 6 (Hv.loc (G9.keep _ _ hc8)) g8 hen (by omega) hH h9 (by omega) (ef▸ok) (ef▸gs) il λl10 S10 G10 l10l h10=>?_;rw[ef]at h10;exact⟨_,rfl,.inl ⟨rfl,_,rfl,ifF rfl (f7 (hE' _ _ ⟨l10,_,_,_,rfl,(G8.trans G9).trans G10,h10,OkR3.hg hen hH g8 ok⟩))⟩⟩
 ·rintro ρ S8 ⟨c,ds',o8,o9,rfl,G8,hc8,g8⟩;exact q _ _ _ _ _ _
theorem law_main(ns:List Int)(h:ns.length<=63):W prog 12 56 [.ro (ns.map SV.int)] [] λx _=>x = .bl true:=by
 show g9 (W prog 11) d56 _ _ _
 have hj:∃ m:Nat,1+(if ((ns.map SV.int).length:Int)<(3:Int) then ((ns.map SV.int).length:Int) else 3)=(m:Int)/\m<=10:=by
  rw[Vm];generalize ns.length=k;refine⟨1+min k 3,?_,by omega⟩;split<;>omega
 obtain⟨m,hm,hm4⟩:=hj;refine⟨rfl,_,rfl,_,rfl,m,congrArg SV.int hm,⟨by omega,by omega⟩,?_⟩;refine t7 (j5 (hW _) _) (λi ρ S'=>∃ o1 o2 o3 o4 o5 o6 o7 o8 o9,ρ=[some (.ro (ns.map SV.int)),o1,o2,o3,o4,o5,o6,o7,o8,o9]) ⟨none,none,none,none,none,none,none,none,none,rfl⟩ (λ_ _ _ _=>trivial) ?_ ?_
 ·rintro i x ρ S E hE hR hx ⟨o1,o2,o3,o4,o5,o6,o7,o8,o9,rfl⟩;obtain⟨rfl,hi⟩:=AE hx;rw[X2]at hi ⊢;refine⟨_,rfl,_,rfl,s41 10 h (by omega) λa b ha hb hb2=>?_⟩;have T1:TapeS (S++[SO.lst [.int a,.int b]]) S.length:=⟨a,b,f8,ha,hb,hb2⟩
  refine⟨_,rfl,s55 9 T1 λn es S3 hen nn el T3 O3=>?_⟩;refine⟨_,rfl,s45 9 (by omega) (by omega) λS4 G4=>⟨_,rfl,s46 10 (by omega) λth S5 hth G5=>?_⟩⟩;have T5:=(G4.trans G5).tape T3;have ml:=Ho (n:=n) (show es.length<=60 by omega);have thl:=Qi hth
  have fin:∀ z:Int,z=((v8 es n+th:Nat):Int)->wSs (W prog 11) [qa,qb,qc,qd,qf] E [some (.ro (ns.map SV.int)),some (.int (i:Nat)),some (.loc S.length),some (i8 n es),some (.int z),o5,o6,o7,o8,o9] S5:=by
   rintro _ rfl;exact U5 T5 hen nn el (by omega) hth (by omega) λS' o5 o6 o7 o8 o9=>hE _ _ ⟨_,_,_,_,_,_,_,_,_,rfl⟩
  have e4:(v8 es n:Int)+(th:Int)=((v8 es n+th:Nat):Int):=by omega
  exact fin _ e4
 ·rintro ρ S ⟨o1,o2,o3,o4,o5,o6,o7,o8,o9,rfl⟩;exact rfl
end Hue
namespace PySem.W.Fast
theorem tw4116438094931265828:True:=⟨⟩
theorem tw5382640002211861463:True:=⟨⟩
theorem tw1863403523599749310:True:=⟨⟩
theorem tw10970761362270241674:True:=⟨⟩
theorem tw9454483492414523093:True:=⟨⟩
theorem tw16549220546633146433:True:=⟨⟩
theorem tw9028895017814649170:True:=⟨⟩
theorem tw3934311066939809612:True:=⟨⟩
theorem tw17613273417355393505:True:=⟨⟩
theorem tw7382566947204877695:True:=⟨⟩
theorem tw6328396976881539973:True:=⟨⟩
theorem tw17297300819692662877:True:=⟨⟩
theorem tw10323220046056726532:True:=⟨⟩
theorem tw5428821946655839195:True:=⟨⟩
theorem tw15712286022753544238:True:=⟨⟩
theorem tw8603855614069872515:True:=⟨⟩
theorem tw2700083896468800486:True:=⟨⟩
theorem tw11495480641687993122:True:=⟨⟩
theorem tw18235258370341262061:True:=⟨⟩
theorem tw6359675659923336017:True:=⟨⟩
theorem tw4998386061759737363:True:=⟨⟩
theorem tw11036916641615883798:True:=⟨⟩
theorem tw5315214351532299578:True:=⟨⟩
theorem tw18095285976860453361:True:=⟨⟩
theorem tw7212939708180782431:True:=⟨⟩
theorem tw5233312373521088967:True:=⟨⟩
theorem tw6941084854615311436:True:=⟨⟩
theorem tw16481295376812387011:True:=⟨⟩
theorem tw8928012306227426884:True:=⟨⟩
theorem tw9781097031107706525:True:=⟨⟩
theorem tw11801753343612306321:True:=⟨⟩
theorem tw2167390591795708145:True:=⟨⟩
theorem tw11965956427938146902:True:=⟨⟩
theorem tw17352057070919607970:True:=⟨⟩
theorem tw10006621635084327203:True:=⟨⟩
theorem tw10965758056200980294:True:=⟨⟩
theorem tw12903991205728242770:True:=⟨⟩
theorem tw17280049924847568765:True:=⟨⟩
theorem tw16330566683407276796:True:=⟨⟩
theorem tw10529355403509187147:True:=⟨⟩
theorem tw10354006103201612527:True:=⟨⟩
theorem tw1169654076002872259:True:=⟨⟩
theorem tw11234474811436640714:True:=⟨⟩
theorem tw10308215415484878991:True:=⟨⟩
theorem tw1229423950865157195:True:=⟨⟩
theorem tw5405062048809305405:True:=⟨⟩
theorem tw16731305530797947546:True:=⟨⟩
theorem tw14049604381553824798:True:=⟨⟩
theorem tw9423867147801058018:True:=⟨⟩
theorem tw9185350563611906492:True:=⟨⟩
theorem tw1297968451231474013:True:=⟨⟩
theorem tw15117730152660046606:True:=⟨⟩
theorem tw12189650632830041332:True:=⟨⟩
theorem tw4166403829999838312:True:=⟨⟩
theorem tw4390347658445960482:True:=⟨⟩
theorem tw9894762729567652572:True:=⟨⟩
theorem tw10733446066620870075:True:=⟨⟩
theorem tw10004677462533958146:True:=⟨⟩
theorem tw482083827581488421:True:=⟨⟩
theorem tw4790810656974850668:True:=⟨⟩
theorem tw17967872778722786533:True:=⟨⟩
theorem tw1570106653369638730:True:=⟨⟩
theorem tw11592352570795668247:True:=⟨⟩
theorem tw3993148315509024421:True:=⟨⟩
theorem tw7049568526203629596:True:=⟨⟩
theorem tw3113925581047202774:True:=⟨⟩
theorem tw2938638326253558875:True:=⟨⟩
theorem tw10620057316241981686:True:=⟨⟩
theorem tw10245863246887122197:True:=⟨⟩
theorem tw18219008921418839554:True:=⟨⟩
theorem tw6910764457058187578:True:=⟨⟩
theorem tw6510912836523460704:True:=⟨⟩
theorem tw17009238897152232284:True:=⟨⟩
theorem tw319521430857925239:True:=⟨⟩
theorem tw14777479313714540175:True:=⟨⟩
theorem tw12009365593803477843:True:=⟨⟩
theorem tw10717958077682014705:True:=⟨⟩
theorem tw4137857106390769335:True:=⟨⟩
theorem tw12319300159317285129:True:=⟨⟩
theorem tw11015174202589449363:True:=⟨⟩
theorem tw18063806895813530369:True:=⟨⟩
theorem tw5086164012974466890:True:=⟨⟩
theorem tw12866566400802604019:True:=⟨⟩
theorem tw14904482649624060155:True:=⟨⟩
theorem tw2300871913098820640:True:=⟨⟩
theorem tw17796531063847637755:True:=⟨⟩
theorem tw8147140909434993817:True:=⟨⟩
theorem tw14538343797261565254:True:=⟨⟩
theorem tw17797645185077536752:True:=⟨⟩
theorem tw2694808759137650656:True:=⟨⟩
theorem tw9221142528473355411:True:=⟨⟩
theorem tw2904371525335716745:True:=⟨⟩
theorem tw7587693969852928091:True:=⟨⟩
theorem tw10278776167929654621:True:=⟨⟩
theorem tw2428318521441220695:True:=⟨⟩
theorem tw6350271602022744733:True:=⟨⟩
theorem tw10294279000857197594:True:=⟨⟩
theorem tw5626546237082137833:True:=⟨⟩
theorem tw12061086415896462568:True:=⟨⟩
theorem tw16928604369424762891:True:=⟨⟩
theorem tw7057197652027244257:True:=⟨⟩
theorem tw42296213500321557:True:=⟨⟩
theorem tw5833990512644412733:True:=⟨⟩
theorem tw3438354745966599004:True:=⟨⟩
theorem tw9896308282441857407:True:=⟨⟩
theorem tw4937803475152977167:True:=⟨⟩
theorem tw15426037762734921863:True:=⟨⟩
theorem tw15814505764232744451:True:=⟨⟩
theorem tw7294515096826579932:True:=⟨⟩
theorem tw13286835272410117264:True:=⟨⟩
theorem tw17689807511701877208:True:=⟨⟩
theorem tw6769742827601785816:True:=⟨⟩
theorem tw16638283432895273325:True:=⟨⟩
theorem tw17531296321896397164:True:=⟨⟩
theorem tw2799821177696746892:True:=⟨⟩
theorem tw17735003437752411995:True:=⟨⟩
theorem tw4055428478225202872:True:=⟨⟩
theorem tw3860349512360643645:True:=⟨⟩
theorem tw13984795688517913753:True:=⟨⟩
theorem tw18296375923441063858:True:=⟨⟩
theorem tw16539111722626586124:True:=⟨⟩
theorem tw11842612872691641423:True:=⟨⟩
theorem tw12682349242224501360:True:=⟨⟩
theorem tw1298030979678357889:True:=⟨⟩
theorem tw9530355609586427999:True:=⟨⟩
theorem tw13828143747773466094:True:=⟨⟩
theorem tw14642746274835894010:True:=⟨⟩
theorem tw5355656969635434584:True:=⟨⟩
theorem tw3237765714358786798:True:=⟨⟩
theorem tw18382165837582994085:True:=⟨⟩
theorem tw15133193860438408251:True:=⟨⟩
theorem tw3295998102325516762:True:=⟨⟩
theorem tw14635500481915426510:True:=⟨⟩
theorem tw9179137693001029859:True:=⟨⟩
theorem tw3469369988403207573:True:=⟨⟩
theorem tw10156876252544966302:True:=⟨⟩
theorem tw10254712177222243588:True:=⟨⟩
theorem tw6166253481380856258:True:=⟨⟩
theorem tw5992411698285376936:True:=⟨⟩
theorem tw9474032266702684552:True:=⟨⟩
theorem tw7711120948193358230:True:=⟨⟩
theorem tw14247478052700094134:True:=⟨⟩
theorem tw6025485859979198196:True:=⟨⟩
theorem tw17738691454892235610:True:=⟨⟩
theorem tw5080658187611279469:True:=⟨⟩
theorem tw17928406065352133878:True:=⟨⟩
theorem tw16137449456257640626:True:=⟨⟩
theorem tw12953883228606107911:True:=⟨⟩
theorem tw7629073981105783485:True:=⟨⟩
theorem tw11854524482971876756:True:=⟨⟩
theorem tw3968421526157544744:True:=⟨⟩
theorem tw2631714449178465119:True:=⟨⟩
theorem tw11628411610179566508:True:=⟨⟩
theorem tw2865424307929958568:True:=⟨⟩
theorem tw8186985432308699324:True:=⟨⟩
theorem tw11618824701662647655:True:=⟨⟩
theorem tw11619650030411314389:True:=⟨⟩
theorem tw16944893905854096217:True:=⟨⟩
theorem tw1263646700025237354:True:=⟨⟩
theorem tw3623616888018879377:True:=⟨⟩
theorem tw695684731848767222:True:=⟨⟩
theorem tw9056251430710254147:True:=⟨⟩
theorem tw12599222635120992498:True:=⟨⟩
theorem tw17603629337531204145:True:=⟨⟩
theorem tw15945433228362929122:True:=⟨⟩
theorem tw15096155478597804450:True:=⟨⟩
theorem tw11956967427227128390:True:=⟨⟩
theorem tw9104566015774623584:True:=⟨⟩
theorem tw12229015676396438976:True:=⟨⟩
theorem tw460648308656607470:True:=⟨⟩
theorem tw7004771333653521249:True:=⟨⟩
theorem tw11324583550476479045:True:=⟨⟩
theorem tw3829890025725845373:True:=⟨⟩
theorem tw6157843546250176427:True:=⟨⟩
theorem tw16684090838831175497:True:=⟨⟩
theorem tw9513086540399476463:True:=⟨⟩
theorem tw6657090214405812907:True:=⟨⟩
theorem tw14862036193719339559:True:=⟨⟩
theorem tw6602369968195054426:True:=⟨⟩
theorem tw15331497674183244225:True:=⟨⟩
theorem tw14299974451500985210:True:=⟨⟩
theorem tw1708958745942047259:True:=⟨⟩
theorem tw328700407602007271:True:=⟨⟩
theorem tw7207584443526609621:True:=⟨⟩
theorem tw9074410515562163548:True:=⟨⟩
theorem tw7051620062719506632:True:=⟨⟩
theorem tw9827959572952361953:True:=⟨⟩
theorem tw9222686335822892766:True:=⟨⟩
theorem tw5164996385634811036:True:=⟨⟩
theorem tw17114429983785226632:True:=⟨⟩
theorem tw15586945635337203054:True:=⟨⟩
theorem tw2996659475615488576:True:=⟨⟩
theorem tw8731543838008053164:True:=⟨⟩
theorem tw10081340402232557072:True:=⟨⟩
theorem tw9077889384489866307:True:=⟨⟩
theorem tw14417888680330631772:True:=⟨⟩
theorem tw10622817580307192067:True:=⟨⟩
theorem tw16220155832413547125:True:=⟨⟩
theorem tw17699529922228009400:True:=⟨⟩
theorem tw6397258715206980671:True:=⟨⟩
theorem tw7182642318658438349:True:=⟨⟩
theorem tw5982213699419981559:True:=⟨⟩
theorem tw3636979923627623980:True:=⟨⟩
theorem tw12850890844628684024:True:=⟨⟩
theorem tw9495238344824550743:True:=⟨⟩
theorem tw4215121341331553065:True:=⟨⟩
theorem tw23446805225657524:True:=⟨⟩
theorem tw14107793822470598755:True:=⟨⟩
theorem tw15092778274800858645:True:=⟨⟩
theorem tw10129843669047700798:True:=⟨⟩
theorem tw6180872884630533150:True:=⟨⟩
theorem tw7952816812563231813:True:=⟨⟩
theorem tw7244435180662145825:True:=⟨⟩
theorem tw8630546556827938275:True:=⟨⟩
theorem tw335776560683417943:True:=⟨⟩
theorem tw13250767831452589303:True:=⟨⟩
theorem tw6043424872828352676:True:=⟨⟩
theorem tw3083857648435182099:True:=⟨⟩
theorem tw15233603011396665410:True:=⟨⟩
theorem tw1386808592937854079:True:=⟨⟩
theorem tw10767218344078434736:True:=⟨⟩
theorem tw9718920307810359316:True:=⟨⟩
theorem tw8312106534322739026:True:=⟨⟩
theorem tw7730272220891363242:True:=⟨⟩
theorem tw7545957875265475625:True:=⟨⟩
theorem tw6705946140538865873:True:=⟨⟩
theorem tw6580918072014011094:True:=⟨⟩
theorem tw5387371652955598562:True:=⟨⟩
theorem tw5053282116220464010:True:=⟨⟩
theorem tw3407617098258887925:True:=⟨⟩
theorem tw3333598174350538314:True:=⟨⟩
theorem tw2357217820019609946:True:=⟨⟩
theorem tw16015005915259276163:True:=⟨⟩
theorem tw15964972314148182291:True:=⟨⟩
theorem tw14860552286851666045:True:=⟨⟩
theorem tw10387042171035190082:True:=⟨⟩
theorem tw10120107378084565915:True:=⟨⟩
theorem tw17022730628947508964:True:=⟨⟩
theorem tw16212310500502924155:True:=⟨⟩
theorem tw4838357421947053441:True:=⟨⟩
theorem tw16682117152700844032:True:=⟨⟩
theorem tw15598368010920189491:True:=⟨⟩
theorem tw3212435437899928839:True:=⟨⟩
theorem tw1698378983019702716:True:=⟨⟩
theorem tw15980280776518770451:True:=⟨⟩
theorem tw15846993029270741579:True:=⟨⟩
theorem tw1240702114415912512:True:=⟨⟩
theorem tw1019448767407103058:True:=⟨⟩
theorem tw6278116382148595999:True:=⟨⟩
theorem tw10214455517737387969:True:=⟨⟩
theorem tw7321960964647309625:True:=⟨⟩
theorem tw526062068740503490:True:=⟨⟩
theorem tw14581549285837300592:True:=⟨⟩
theorem tw14531307393625540104:True:=⟨⟩
theorem tw1208791473674241904:True:=⟨⟩
theorem tw901812967594699636:True:=⟨⟩
theorem tw8935389987739876807:True:=⟨⟩
theorem tw8400693938590794424:True:=⟨⟩
theorem tw8291164759362408722:True:=⟨⟩
theorem tw7916190795237529857:True:=⟨⟩
theorem tw3272306746099511051:True:=⟨⟩
theorem tw3109048303716801750:True:=⟨⟩
theorem tw2129677152677918924:True:=⟨⟩
theorem tw17454564501244442421:True:=⟨⟩
theorem tw16766107217934861498:True:=⟨⟩
theorem tw15423251194192105685:True:=⟨⟩
theorem tw12684718776815511105:True:=⟨⟩
theorem tw11754201729171963799:True:=⟨⟩
theorem tw18060361023315630052:True:=⟨⟩
theorem tw8243582140967126713:True:=⟨⟩
end PySem.W.Fast
namespace Hue
open PySem L2 Rf
noncomputable def p0(K:Vl)(nm:Str)(i:Nat):Prop:=∃(f:ZT) (od an:Option ZT) (sl:Array (Option ZR)) (oc kV dc pm cd ct:ZR),PySem.W.nsIn K ZZ nm=some (some (.ref f))/\K.lookup f=some ⟨oc,od,.func (PySem.W.fnOf nm nm (defArgs (top i)) (defBody (top i)) (defScope (top i)) .none kV dc pm an cd ct),sl⟩/\PySem.W.codeIn K cd nm=true/\PySem.W.keepIn K (.ref f)=true
theorem lnkK_mk{K:Vl}{nm:Str}{i:Nat}{f:ZT}{od an:Option ZT}{sl:Array (Option ZR)}{oc kV dc pm cd ct:ZR}(a:PySem.W.nsIn K ZZ nm=some (some (.ref f)))(l:K.lookup f=some ⟨oc,od,.func (PySem.W.fnOf nm nm (defArgs (top i)) (defBody (top i)) (defScope (top i)) .none kV dc pm an cd ct),sl⟩)(c:PySem.W.codeIn K cd nm=true)(k:PySem.W.keepIn K (.ref f)=true):p0 K nm i:=⟨f,od,an,sl,oc,kV,dc,pm,cd,ct,a,l,c,k⟩
theorem i5{K:Vl}{h:Heap}{mg:Str->Option ZR}(X:K.In h)(G:h.Ns ZZ mg)(D:Df){i:Nat}(x:p0 K D.name i)(e:D.st=top i)(b:∀(kV doc pm:ZR) (an:Option ZT) (cdv ct:ZR) (us:List ZR),us.length=D.ps.length->bindArgs (PySem.W.fnOf D.name D.name (defArgs (top i)) (defBody (top i)) (defScope (top i)) .none kV doc pm an cdv ct) ⟨us,[]⟩=pure (D.ps.zip us)):PIn K mg D:=by
 obtain⟨_,_,_,_,_,_,_,_,_,_,a,l,c,k⟩:=x;exact⟨_,_,e▸ID (st:=top i) l c k,PySem.W.mg_of X G a,k,(ID (st:=top i) l c k).binds (ps:=D.ps) b⟩
theorem j6{P:Df->Prop}{D:Df}{l:List Df}(a:P D)(b:∀ x∈l,P x):∀ x∈D::l,P x:=List.forall_mem_cons.mpr ⟨a,b⟩
theorem all_mk{l:PySem.W.OpenLaw}{w:Za}{K:Vl}{h:Heap}{mg:Str->Option ZR}{fa:ZT}(X:K.In h)(G:h.Ns ZZ mg)(hfa:mg "law"=some (.ref fa))
 (x0:p0 K "is_number" 9)
 (x1:p0 K "is_listed" 10)
 (x2:p0 K "has_place" 12)
 (x3:p0 K "has_tie" 13)
 (x4:p0 K "check_place" 14)
 (x5:p0 K "check_tie" 15)
 (x6:p0 K "ties_at" 16)
 (x7:p0 K "most_at" 17)
 (x8:p0 K "thickest" 18)
 (x9:p0 K "enough" 19)
 (x10:p0 K "far_end" 20)
 (x11:p0 K "meets" 21)
 (x12:p0 K "is_hue" 23)
 (x13:p0 K "is_hueing" 24)
 (x14:p0 K "clash_of" 25)
 (x15:p0 K "hues_at" 26)
 (x16:p0 K "free_at" 27)
 (x17:p0 K "tie_of_hue" 29)
 (x18:p0 K "check_unlike" 30)
 (x19:p0 K "row_from" 31)
 (x20:p0 K "exchanged" 32)
 (x21:p0 K "tie_has_hue" 34)
 (x22:p0 K "tie_lacks_hue" 35)
 (x23:p0 K "with_hues" 36)
 (x24:p0 K "after_hue" 37)
 (x25:p0 K "after_drop" 38)
 (x26:p0 K "after_move" 39)
 (x27:p0 K "after_row" 40)
 (x28:p0 K "after_step" 41)
 (x29:p0 K "done_step" 42)
 (x30:p0 K "played" 43)
 (x31:p0 K "next_of_fan" 45)
 (x32:p0 K "fan_of" 46)
 (x33:p0 K "turning" 47)
 (x34:p0 K "turned" 48)
 (x35:p0 K "shared_hue" 49)
 (x36:p0 K "freeing_row" 50)
 (x37:p0 K "steps_to_hue" 51)
 (x38:p0 K "check_enough" 52)
 (x39:p0 K "hued_in" 53)
 (x40:p0 K "all_hued" 54)
 (x41:p0 K "_law_tape" 56)
 (x42:p0 K "_law_draw" 57)
 (x43:p0 K "_law_meet" 58)
 (x44:p0 K "_law_count" 59)
 (x45:p0 K "_law_most" 60)
 (x46:p0 K "_law_thickest" 61)
 (x47:p0 K "_law_is_hueing" 62)
 (x48:p0 K "_law_row" 63)
 (x49:p0 K "_law_hues" 64)
 (x50:p0 K "_law_stepped" 65)
 (x51:p0 K "_law_same" 66)
 (x52:p0 K "_law_within" 67)
 (x53:p0 K "_law_walked" 68)
 (x54:p0 K "_law_got" 69)
 (x55:p0 K "_law_thick" 70)
 (x56:p0 K "law" 71)
 (z0:PySem.W.nsIn K ZZ "len"=some none)
 (z1:PySem.W.nsIn K ZZ "abs"=some none)
 (z2:PySem.W.nsIn K ZZ "min"=some none)
 (z3:PySem.W.nsIn K ZZ "max"=some none)
 (z4:PySem.W.nsIn K ZZ "int"=some none)
 (z5:PySem.W.nsIn K ZZ "list"=some none)
 (z6:PySem.W.nsIn K ZZ "tuple"=some none)
 (z7:PySem.W.nsIn K ZZ "all"=some none)
 (z8:PySem.W.nsIn K ZZ "any"=some none)
 (z9:PySem.W.nsIn K ZZ "sorted"=some none)
 (z10:PySem.W.nsIn K ZZ "isinstance"=some none)
 (z11:PySem.W.nsIn K ZZ "str"=some none)
 (z12:PySem.W.nsIn K ZZ "range"=some none)
 (z13:PySem.W.nsIn K ZZ "enumerate"=some none)
 (z14:PySem.W.nsIn K ZZ "zip"=some none)
 (z15:PySem.W.nsIn K ZZ "set"=some none)
 (z16:PySem.W.nsIn K ZZ "bool"=some none)
 (z17:PySem.W.nsIn K ZZ "dict"=some none)
 (z18:PySem.W.nsIn K ZZ "reversed"=some none)
 (z19:PySem.W.nsIn K ZZ "repr"=some none)
 (z20:PySem.W.nsIn K ZZ "sum"=some none)
 : ∃ fd:A07,(∀(s:ZS) (v:ZR),BindsTo s fd ⟨[v],[]⟩ [("_law_script",v)])/\∀ base:Heap,K.In base->base.Ns ZZ mg->FnOk l.prog w K mg base CX0 12 fa fd ["_law_script"] (spS K (W prog 12 56)):=by
 have y:=x56;obtain⟨f56,od56,an56,sl56,oc56,kV56,dc56,pm56,cd56,ct56,a56,l56,c56,k56⟩:=x56;have e:=hfa.symm.trans (PySem.W.mg_of X G a56);cases e
 have B:Bl mg:=by
  refine⟨λb=>?_,W9 X G z12,W9 X G z13,W9 X G z18,W9 X G z14,W9 X G z20,W9 X G z15,W9 X G z17,λt ht=>?_⟩
  ·cases b with
   | len=>exact W9 X G z0
   | abs=>exact W9 X G z1
   | min=>exact W9 X G z2
   | max=>exact W9 X G z3
   | int=>exact W9 X G z4
   | list=>exact W9 X G z5
   | tuple=>exact W9 X G z6
   | all=>exact W9 X G z7
   | any=>exact W9 X G z8
   | sorted=>exact W9 X G z9
   | isi=>exact W9 X G z10
   | str=>exact W9 X G z11
   | repr=>exact W9 X G z19
  ·cases t with
   | int=>exact W9 X G z4
   | bool=>exact W9 X G z16
   | str=>exact W9 X G z11
   | list=>exact W9 X G z5
   | tuple=>exact W9 X G z6
   | none=>exact absurd rfl ht
 have hin:∀ D∈prog,PIn K mg D:=j6 (i5 X G d0 x0 rfl λ_ _ _ _ _ _=>Dz λ_=>rfl) (j6 (i5 X G d1 x1 rfl λ_ _ _ _ _ _=>Dz λ_=>rfl) (j6 (i5 X G d2 x2 rfl λ_ _ _ _ _ _=>C2 λ_ _=>rfl) (j6 (i5 X G d3 x3 rfl λ_ _ _ _ _ _=>C2 λ_ _=>rfl) (j6 (i5 X G d4 x4 rfl λ_ _ _ _ _ _=>C2 λ_ _=>rfl) (j6 (i5 X G d5 x5 rfl λ_ _ _ _ _ _=>C2 λ_ _=>rfl) (j6 (i5 X G d6 x6 rfl λ_ _ _ _ _ _=>C2 λ_ _=>rfl) (j6 (i5 X G d7 x7 rfl λ_ _ _ _ _ _=>Dz λ_=>rfl) (j6 (i5 X G d8 x8 rfl λ_ _ _ _ _ _=>Dz λ_=>rfl) (j6 (i5 X G d9 x9 rfl λ_ _ _ _ _ _=>Dz λ_=>rfl) (j6 (i5 X G d10 x10 rfl λ_ _ _ _ _ _=>C3 λ_ _ _=>rfl) (j6 (i5 X G d11 x11 rfl λ_ _ _ _ _ _=>C3 λ_ _ _=>rfl) (j6 (i5 X G d12 x12 rfl λ_ _ _ _ _ _=>Dz λ_=>rfl) (j6 (i5 X G d13 x13 rfl λ_ _ _ _ _ _=>C2 λ_ _=>rfl) (j6 (i5 X G d14 x14 rfl λ_ _ _ _ _ _=>C2 λ_ _=>rfl) (j6 (i5 X G d15 x15 rfl λ_ _ _ _ _ _=>C3 λ_ _ _=>rfl) (j6 (i5 X G d16 x16 rfl λ_ _ _ _ _ _=>Fh λ_ _ _ _=>rfl) (j6 (i5 X G d17 x17 rfl λ_ _ _ _ _ _=>Fh λ_ _ _ _=>rfl) (j6 (i5 X G d18 x18 rfl λ_ _ _ _ _ _=>C2 λ_ _=>rfl) (j6 (i5 X G d19 x19 rfl λ_ _ _ _ _ _=>Fi λ_ _ _ _ _=>rfl) (j6 (i5 X G d20 x20 rfl λ_ _ _ _ _ _=>Fi λ_ _ _ _ _=>rfl) (j6 (i5 X G d21 x21 rfl λ_ _ _ _ _ _=>C3 λ_ _ _=>rfl) (j6 (i5 X G d22 x22 rfl λ_ _ _ _ _ _=>C3 λ_ _ _=>rfl) (j6 (i5 X G d23 x23 rfl λ_ _ _ _ _ _=>C3 λ_ _ _=>rfl) (j6 (i5 X G d24 x24 rfl λ_ _ _ _ _ _=>Fh λ_ _ _ _=>rfl) (j6 (i5 X G d25 x25 rfl λ_ _ _ _ _ _=>C3 λ_ _ _=>rfl) (j6 (i5 X G d26 x26 rfl λ_ _ _ _ _ _=>Fh λ_ _ _ _=>rfl) (j6 (i5 X G d27 x27 rfl λ_ _ _ _ _ _=>Fi λ_ _ _ _ _=>rfl) (j6 (i5 X G d28 x28 rfl λ_ _ _ _ _ _=>C3 λ_ _ _=>rfl) (j6 (i5 X G d29 x29 rfl λ_ _ _ _ _ _=>C3 λ_ _ _=>rfl) (j6 (i5 X G d30 x30 rfl λ_ _ _ _ _ _=>C3 λ_ _ _=>rfl) (j6 (i5 X G d31 x31 rfl λ_ _ _ _ _ _=>Fh λ_ _ _ _=>rfl) (j6 (i5 X G d32 x32 rfl λ_ _ _ _ _ _=>Fi λ_ _ _ _ _=>rfl) (j6 (i5 X G d33 x33 rfl λ_ _ _ _ _ _=>C3 λ_ _ _=>rfl) (j6 (i5 X G d34 x34 rfl λ_ _ _ _ _ _=>Fi λ_ _ _ _ _=>rfl) (j6 (i5 X G d35 x35 rfl λ_ _ _ _ _ _=>Fi λ_ _ _ _ _=>rfl) (j6 (i5 X G d36 x36 rfl λ_ _ _ _ _ _=>Fi λ_ _ _ _ _=>rfl) (j6 (i5 X G d37 x37 rfl λ_ _ _ _ _ _=>Fh λ_ _ _ _=>rfl) (j6 (i5 X G d38 x38 rfl λ_ _ _ _ _ _=>C2 λ_ _=>rfl) (j6 (i5 X G d39 x39 rfl λ_ _ _ _ _ _=>Fh λ_ _ _ _=>rfl) (j6 (i5 X G d40 x40 rfl λ_ _ _ _ _ _=>C2 λ_ _=>rfl) (j6 (i5 X G d41 x41 rfl λ_ _ _ _ _ _=>C2 λ_ _=>rfl) (j6 (i5 X G d42 x42 rfl λ_ _ _ _ _ _=>C2 λ_ _=>rfl) (j6 (i5 X G d43 x43 rfl λ_ _ _ _ _ _=>C3 λ_ _ _=>rfl) (j6 (i5 X G d44 x44 rfl λ_ _ _ _ _ _=>C2 λ_ _=>rfl) (j6 (i5 X G d45 x45 rfl λ_ _ _ _ _ _=>Dz λ_=>rfl) (j6 (i5 X G d46 x46 rfl λ_ _ _ _ _ _=>Dz λ_=>rfl) (j6 (i5 X G d47 x47 rfl λ_ _ _ _ _ _=>C2 λ_ _=>rfl) (j6 (i5 X G d48 x48 rfl λ_ _ _ _ _ _=>Fi λ_ _ _ _ _=>rfl) (j6 (i5 X G d49 x49 rfl λ_ _ _ _ _ _=>C3 λ_ _ _=>rfl) (j6 (i5 X G d50 x50 rfl λ_ _ _ _ _ _=>C3 λ_ _ _=>rfl) (j6 (i5 X G d51 x51 rfl λ_ _ _ _ _ _=>C2 λ_ _=>rfl) (j6 (i5 X G d52 x52 rfl λ_ _ _ _ _ _=>C3 λ_ _ _=>rfl) (j6 (i5 X G d53 x53 rfl λ_ _ _ _ _ _=>Fh λ_ _ _ _=>rfl) (j6 (i5 X G d54 x54 rfl λ_ _ _ _ _ _=>Fi λ_ _ _ _ _=>rfl) (j6 (i5 X G d55 x55 rfl λ_ _ _ _ _ _=>Dz λ_=>rfl) (j6 (i5 X G d56 y rfl λ_ _ _ _ _ _=>Dz λ_=>rfl) (λ_ h=>nomatch h)))))))))))))))))))))))))))))))))))))))))))))))))))))))));refine⟨PySem.W.fnOf "law" "law" (defArgs (top 71)) (defBody (top 71)) (defScope (top 71)) .none kV56 dc56 pm56 an56 cd56 ct56,λs v => .of_eq rfl,λbase _ _=>?_⟩
 exact Nk (P:=l.prog) (w:=w) (base:=base) (k:=11) (Δ:=W prog 11) (D:=d56) (ID (st:=top 71) l56 c56 k56) (WJ.mp Hn d56 (Vp (show prog[56]?=some d56 from rfl))) B (λg x hx=>by
  rw[Vu]at hx;cases hg:prog[g]? with
  | none=>rw[hg]at hx;cases hx
  | some D'=>
    rw[hg]at hx;have:D'.name=x:=by simpa using hx
    subst this;exact⟨D'.ps,Jy Hn B hin 11 g D' hg⟩) (E1 11)
theorem walkL{l:PySem.W.OpenLaw}{q:ZX}{loose:List Str}{XP:(Str->Option ZR)->Heap->Prop}{YP:Za->Heap->Prop}{d:DefRec}{K:Params->Vl}(hn:l.most=some 63)(hdf:d.params.defaults=[])
 (hY:∀(w:Za) (h:Heap),YP w h->(K w.params).In h)
 (F:∀(w:Za) (mg:Str->Option ZR) (fa:ZT) (h:Heap),(K w.params).In h->h.Ns ZZ mg->mg d.name=some (.ref fa)->
   ∃ fd:A07,(∀(s:ZS) (u:ZR),BindsTo s fd ⟨[u],[]⟩ [("_law_script",u)])/\∀ base:Heap,(K w.params).In base->base.Ns ZZ mg->FnOk l.prog w (K w.params) mg base CX0 12 fa fd ["_law_script"] (spS (K w.params) (W prog 12 56))):
 PySem.W.WalkO q loose XP YP l.row.toRowW d [] (λf vs=>PySem.call f vs):=
 L2.walk_of (n:=63) (k:=12) (x:="_law_script") (CX:=λ_=>CX0) (sp:=λw=>spS (K w.params) (W prog 12 56)) hn (by decide) hdf ⟨rfl,by decide,by decide,rfl⟩ hY F (λ_ _ a ns hl hO hS=>Th (law_main ns hl) hO hS) λ_ _ _ _ _ z=>z
end Hue
open PySem PySem.W PyProof.Rows
set_option maxRecDepth 100000 in
set_option maxHeartbeats 0 in
theorem PySem.Challenge.cw_huedties_k25_many_ties_between_two_holds : PySem.Challenge.rw_huedties_k25_many_ties_between_two.Holds := by
 w_on;o_law;k_head;(case hw=>w_witness2)
 k_fill
 refine Hue.walkL (l:=PySem.Challenge.rw_huedties_k25_many_ties_between_two) rfl rfl (λw h Y=>PySem.W.kIn_of Y) ?F
 case F=>
  intro w mg fa h KX G hmg;refine' Hue.all_mk KX G hmg ?_ ?_ ?_ ?_ ?_ ?_ ?_ ?_ ?_ ?_ ?_ ?_ ?_ ?_ ?_ ?_ ?_ ?_ ?_ ?_ ?_ ?_ ?_ ?_ ?_ ?_ ?_ ?_ ?_ ?_ ?_ ?_ ?_ ?_ ?_ ?_ ?_ ?_ ?_ ?_ ?_ ?_ ?_ ?_ ?_ ?_ ?_ ?_ ?_ ?_ ?_ ?_ ?_ ?_ ?_ ?_ ?_ ?_ ?_ ?_ ?_ ?_ ?_ ?_ ?_ ?_ ?_ ?_ ?_ ?_ ?_ ?_ ?_ ?_ ?_ ?_ ?_ ?_
  all_goals first | exact Hue.lnkK_mk (by k_is) (by k_is) (by k_is) (by k_is) | k_is
