import PyProof.Rows.All
import Wide.All
import OpenK.AllK
import PySem.Challenge.RW_huedties_k22_all_ties_keep_hues
set_option Elab.async false
set_option linter.all false
set_option maxRecDepth 100000
open PySem.W renaming Frag->V5,mg_none_of->VV
open Bool renaming and_eq_true->V6,false_ne_true->VH,not_eq_true'->VZ,eq_iff_iff->Vo,or_eq_true->Vu,false_eq_true->WC,true_and->Xa,true_or->Y6,not_not->Y9,noConfusion->YI,false_and->YN,false_or->YV,or_false->YW
open List renaming length_map->V7,length_append->V8,mem_of_getElem?->V9,getD_eq_getElem?_getD->VA,getElem?_eq_getElem->VB,size_toArray->VC,range->VD,getElem?_map->VG,mem_cons_of_mem->VI,replicate->VL,map_append->VM,mem_cons_self->VN,getElem?_append_left->VP,mem_singleton->VQ,mem_cons->VT,mem_append->VU,mem_range->VW,mem_map->VX,length_cons->VY,all_eq_true->Va,getElem?_concat_length->Vb,find?_cons->Vd,getElem?_set_self->Vf,map_cons->Vh,take_length->Vi,replicate_succ->Vj,prefix_refl->Vk,take_succ->Vl,length_range->Vm,isEmpty_iff->Vn,length_set->Vp,getElem?_append_right->Vq,getElem?_eq_none->Vr,mem_filter->Vs,append_nil->Vt,mem_append_right->Vv,length_singleton->Vw,nodup_cons->Vx,length_take->Vy,getElem_mem->W0,getElem?_range->W1,getElem?_set_ne->W3,length_nil->W4,getD->W6,all_cons->W7,any_cons->W8,range_succ->WB,find?_eq_none->WD,getElem?_replicate->WG,lookup_cons->WH,getElem?_of_mem->WK,filter_cons->WL,flatten_cons->WM,findSome?_eq_none_iff->WQ,drop_eq_getElem_cons->WU,any_eq_true->WV,nodup_append->WY,length_replicate->Wa,length_filter_le->Wc,of_mem_zip->Wd,mem_append_left->We,reverse_cons->Wf,ext_getElem?->Wi,eraseIdx_eq_take_drop_succ->Wl,length_drop->Wn,getLast?_eq_some_getLast->Wp,prefix_append->Wq,filter_append->Wr,mem_iff_getElem->Wv,nodup_range->Ww,mem_of_find?_eq_some->Wx,getLast?_eq_getElem?->Wy,filterMap_cons->Wz,length_reverse->X0,filter_filter->X3,findIdx?_eq_some_iff_getElem->X4,any_map->X6,eraseIdxIfInBounds_toArray->X7,take_append_drop->X8,replicate_succ'->XA,countP_eq_length_filter->XB,map_congr_left->XD,map_map->XE,map_set->XF,countP_append->XI,count_eq_zero->XM,findIdx?_eq_none_iff->XO,getLastD_eq_getLast?->XQ,any_eq_false->XR,length->XS,append_assoc->XU,find?_append->XW,pairwise_map->XX,filter_congr->XY,flatMap_cons->XZ,filterMap_cons_none->Xb,length_filterMap_le->Xc,cons_ne_nil->Xe,countP_cons->Xf,mem_flatMap->Xg,take_of_length_le->Xj,all_map->Xl,find?_cons_of_pos->Xm,find?_cons_of_neg->Xn,head?_eq_none_iff->Xo,nil_append->Xp,countP_nil->Xq,dropLast_eq_take->Xr,getElem?_zipWith->Xs,lookup->Xt,getElem_of_mem->Xw,findSome?_cons->Xx,filter_eq_self->Xy,flatMap_append->Xz,mem_filterMap->Y0,zip_cons_cons->Y1,pairwise_cons->Y2,getElem?_inj->Y5,not_mem_nil->YE,drop_length->YH,countP->YJ,filter->YK,head?_drop->YL,find?_some->YM,foldl->YO,nodup_nil->YQ,filterMap->YR,tail_drop->YS,take_zero->YU,map_take->YX,map_drop->YY,map_nil->Ya,any_nil->Yb
open PySem.Heap renaming get?_push_of_some->VE,lt_size->VJ,get?_push_size->VR,get?_update_other->Vz,get?_update_self->W2,SameBut->W5,size_push->W9,update->Xu,ExtBut->Yd
open Nat renaming le_refl->VF,ne_of_lt->VO,lt_of_lt_of_le->Vc,le_trans->Ve,zero_le->WJ,lt_succ_of_lt->WW,lt_or_ge->Wg,lt_irrefl->Wj,lt_succ_self->Wo,not_lt_zero->Wt,succ_mul->X5,succ_le_succ->X9,add_le_add_left->XC,lt_of_le_of_lt->XH,pos_of_ne_zero->XJ,le_succ->XT,le_of_lt->Xi,mul_le_mul->Xv,le_of_eq->Y4,le_succ_of_le->Y7,lt_trichotomy->YA,le_of_not_lt->YC,succ_ne_self->YF,not_lt_of_gt->YG,succ_pos->Yc
open Int renaming natCast_inj->Vg,toNat_natCast->WX,emod_lt_of_pos->WZ,zero_add->Wh,emod_nonneg->Ws,toNat_of_nonneg->X1,natCast_nonneg->X2,eq_ofNat_of_zero_le->Xh,emod_eq_of_lt->Y8,le_refl->Ye
open Option renaming map_eq_none_iff->WN,map_some->WR,isSome_iff_exists->Wk,isNone_iff_eq_none->XN,bind_some->Xd,map_eq_some_iff->Xk,isSome_some->Y3,getD_none->YB,getD_some->YD,none_or->YT
open Array renaming length_toList->Wm,getElem?_toList->Wu,getElem?_eq_some_iff->XG,toList->YZ
open PySem renaming wpAny_bind->Yf,Value->Yg,Shared->Yh,Addr->Yi,wpAny_pure->Yj,wpAny->Yk,sizeLine->Yl,model->Ym,Program->Yn,mainGlobals->Yo,bootBuiltins->Yp,World->Yq,starEach->Yr,wpAny_newObj_type->Ys,Around->Yt,Scope->Yu,compareOp->Yv,wpAny_truthy_bool->Yw,swappedStores->Yx,wpAny_callSpecial?_slot->Yy,wpAny_holding->Yz,sysModules->Z0,wpAny_tryCatch->Z1,NameKind->Z3,wpAny_typeNameOfWhole_valiter->Z4,cellsFrom->Z5,wpAny_mono->Z6,assignEach->Z7,wpAny_call_entry->Z8,wpAny_seqItems->Z9,wpAny_passesOwn->ZA,wpAny_pyIter_list->ZC,plainId_quiet->ZD,wpAny_typeNameOf_valiter->ZE,swapsWith->ZF,richCompare->ZG,wpAny_letGo->ZH,wpAny_Call_Name_kw->ZI,wpAny_pyIter_tuple->ZJ,Operator->ZK,FuncData->ZL,codeAny_builtin->ZM,wpAny_updateSeq->ZN,DictEntry->ZO,keywordEach->ZP,wpAny_field->ZQ,swapsWithSole->ZR,binaryOp->ZS,attributeBase->ZT,letOwnedTupleGo->ZU,call_meets->ZV,tupleKind_room_in1->ZW,sliceBounds->ZX,foldedSetIterable->ZY,wpAny_pyIter_enum->ZZ,wpAny_dictEntries->Za,wpAny_isOneOf_valiter->Zb,wpAny_rule->Zc,seqItems?->Zd,wpAny_standAt->Ze,wpAny_execs_nil->Zf,call_meetsIn->Zg,tupleKind->Zh,backToKw->Zj,newFunctionEnv->Zk,wpAny_setField->Zl,firstArgMember->Zm,wpAny_letOwnedTupleGo_enum->Zn,wpAny_Call_method->Zo,wpAny_comprehension_free->Zp,ExceptHandler->Zq,wpAny_Call_method0_late->Zr,compEnvC->Zs,wpAny_pyNext_enum_itemD->Zt,SetTable->Zu,typeIs_int->Zw,wpAny_pyNext_enum_endD->Zx,pushCells_keeps->Zy,wpAny_dictEpoch->Zz,wpAny_notOrdered_dict->A00,subscripted->A01,fitsIndex_both->A02,wpAny_of_eq->A03,dictSetDefault->A04,assignInOrder->A06,behindInMarks->A07,builtinsNs->A09,wpAny_assign_Name->A0b,codeAny_mono->A0d,wpAny_sequenceKey->A0e,wpAny_typeOf->A0f,seqIndex_neg->A0g,PassesOwn->A0h,pushCells->A0i,wpAny_Dict_empty->A0j,updateSeq->A0k,seqIndex_of->A0l,entryOfKey->A0m,GenState->A0n,wpAny_Name->A0o,bindName->A0p,wpAny_bindName->A0q,recursionLimit->A0r,wpAny_fieldsOf->A0u,constantsAlone->A0v,lastMarks->A0w,seqIndex?->A0x
open PyProof.Rows renaming assignInOrder_cons->Zi,subscriptTail_builtinR->Zv,entry_tuple_getitem->A05,subscriptTail->A08,args_tuple_getitem->A0a,assignInOrder_nil->A0c,slicePart_none->A0s,Subscript_->A0t
abbrev EE:=List (Nat×Nat)
theorem gM{α:Type}{l:List α}{i:Nat}{a:α}(h:l[i]?=some a):∃h:i<l.length,l[i]=a:=List.getElem?_eq_some_iff.mp h
theorem oj{α:Type}{a b:α}(h:some a=some b):a=b:=Option.some.inj h
theorem dQ{p:Prop}[Decidable p]:(decide p=true)=p:=decide_eq_true_eq
theorem iG{c:Prop}{h:Decidable c}(k:¬c){α:Sort u}{t e:α}:ite c t e=e:=if_neg k
theorem iP{c:Prop}{h:Decidable c}(k:c){α:Sort u}{t e:α}:ite c t e=t:=if_pos k
namespace L2
open PySem PySem.Spec PyProof.Rows
abbrev Key:=Sum Int Str
def EA:Key->Yg->Bool
 | .inl k,v=>Value.isInt k v
 | .inr x,v=>Value.isStrOf x v
def Ui(w:Yq):Key->Int
 | .inl k=>hashInt k
 | .inr x=>hashStr w x
theorem n6:∀{k:Key} {v:Yg},EA k v=true->(∃ i t,k=Sum.inl i/\v=Value.int i t)\/(∃ x t,k=Sum.inr x/\v=Value.str x t)
 | .inl i,v,h=>by
   obtain⟨t,e⟩:=Value.isInt_shape (k:=i) (v:=v) h;exact .inl ⟨i,t,rfl,e⟩
 | .inr x,v,h=>by
   obtain⟨t,e⟩:=Value.isStrOf_shape (x:=x) (v:=v) h;exact .inr ⟨x,t,rfl,e⟩
theorem K4(i:Int)(t:Tok):EA (.inl i) (.int i t)=true:=by simp[EA,Value.isInt]
theorem K5(x:Str)(t:Tok):EA (.inr x) (.str x t)=true:=by simp[EA,Value.isStrOf]
theorem Qz(a b:Int):decide ((Sum.inl a:Key)=Sum.inl b)=(a == b):=by
 by_cases e:a=b
 ·subst e;simp
 ·have h:¬ (Sum.inl a:Key)=Sum.inl b:=λq=>e (Sum.inl.inj q);rw[decide_eq_false h];exact(beq_eq_false_iff_ne.mpr e).symm
theorem R0(a b:Str):decide ((Sum.inr a:Key)=Sum.inr b)=decide (a=b):=by
 by_cases e:a=b
 ·subst e;simp
 ·have h:¬ (Sum.inr a:Key)=Sum.inr b:=λq=>e (Sum.inr.inj q);rw[decide_eq_false h,decide_eq_false e]
theorem R1(a:Int)(b:Str):decide ((Sum.inl a:Key)=Sum.inr b)=false:=decide_eq_false (λq=>nomatch q)
theorem R3(a:Str)(b:Int):decide ((Sum.inr a:Key)=Sum.inl b)=false:=decide_eq_false (λq=>nomatch q)
noncomputable def m8(prog:Yn)(w:Yq):PySem.KeyKind prog w Key where
 is:=EA
 hash:=Ui w
 inj:=λv a b ha hb=>by
  rcases n6 ha with⟨i,t,rfl,rfl⟩ | ⟨x,t,rfl,rfl⟩
  ·rcases n6 hb with⟨j,u,rfl,e⟩ | ⟨y,u,rfl,e⟩
   ·injection e with e1 _;rw[e1]
   ·exact nomatch e
  ·rcases n6 hb with⟨j,u,rfl,e⟩ | ⟨y,u,rfl,e⟩
   ·exact nomatch e
   ·injection e with e1 _;rw[e1]
 byValue:=λk v h=>by
   rcases n6 h with⟨i,t,rfl,rfl⟩ | ⟨x,t,rfl,rfl⟩<;>rfl
 pyHash:=λhv h=>by
  rcases n6 hv with⟨i,t,rfl,rfl⟩ | ⟨x,t,rfl,rfl⟩
  ·exact wpAny_pyHash_int h
  ·exact wpAny_pyHash_str h
 eqBool:=λhu hv h=>by
  rcases n6 hu with⟨i,t,rfl,rfl⟩ | ⟨x,t,rfl,rfl⟩
  ·rcases n6 hv with⟨j,u,rfl,rfl⟩ | ⟨y,u,rfl,rfl⟩
   ·rw[Qz]at h;exact wpAny_eqBool_int h
   ·rw[R1]at h;exact SeqAt.EqAt.int_str i t y u _ _ _ _ h
  ·rcases n6 hv with⟨j,u,rfl,rfl⟩ | ⟨y,u,rfl,rfl⟩
   ·rw[R3]at h;exact SeqAt.EqAt.str_int x t j u _ _ _ _ h
   ·rw[R0]at h;exact wpAny_eqBool_str h
 «strs»:=λk x t v h=>by
  rcases n6 h with⟨i,u,rfl,e⟩ | ⟨y,u,rfl,e⟩
  ·exact nomatch e
  ·injection e with e1 _;subst e1;cases v<;>rfl
theorem FV(prog:Yn)(w:Yq)(i:Int)(t:Tok):(m8 prog w).is (.inl i) (.int i t)=true:=K4 i t
theorem FW(prog:Yn)(w:Yq)(x:Str)(t:Tok):(m8 prog w).is (.inr x) (.str x t)=true:=K5 x t
inductive V where
 | non | bl (b:Bool) | int (i:Int) | str (x:Str) | byt (b:Array UInt8) | flt (b:UInt64) | ref (a:Yi) | ty (n:String)
 deriving DecidableEq
def RelV:V->Yg->Prop
 | .non,u=>u=Value.none
 | .bl b,u=>u=Value.bool b
 | .int i,u=>∃ t,u=Value.int i t
 | .str x,u=>∃ t,u=Value.str x t
 | .byt b,u=>∃ t,u=Value.bytes b t
 | .flt b,u=>∃ t,u=Value.float b t
 | .ref a,u=>u=Value.ref a
 | .ty n,u=>u=Value.type n
abbrev Vals:List V->List Yg->Prop:=Paired RelV
theorem Vals.length{xs:List V}{us:List Yg}(r:Vals xs us):xs.length=us.length:=Paired.length r
theorem Vals.get:∀{xs:List V} {us:List Yg} {i:Nat} {x:V},Vals xs us->xs[i]?=some x->∃ u,us[i]?=some u/\RelV x u
 | _,_,_,_,.nil,e=>by simp at e
 | _,_,0,_,.cons r _,e=>by simp at e;subst e;exact⟨_,rfl,r⟩
 | _,_,i+1,x,.cons _ t,e=>by
   obtain⟨u,h1,h2⟩:=Vals.get (i:=i) (x:=x) t (by simpa using e);exact⟨u,by simpa using h1,h2⟩
theorem Vals.set{x:V}{u:Yg}(r:RelV x u):∀{xs:List V} {us:List Yg} (i:Nat),Vals xs us->Vals (xs.set i x) (us.set i u)
 | _,_,_,.nil => .nil
 | _,_,0,.cons _ t => .cons r t
 | _,_,i+1,.cons q t => .cons q (Vals.set r i t)
theorem Vals.append:∀{xs ys:List V} {us ws:List Yg},Vals xs us->Vals ys ws->Vals (xs++ys) (us++ws)
 | _,_,_,_,.nil,s=>s
 | _,_,_,_,.cons r t,s => .cons r (Vals.append t s)
theorem Vals.take:∀{xs:List V} {us:List Yg} (n:Nat),Vals xs us->Vals (xs.take n) (us.take n)
 | _,_,0,_ => .nil
 | _,_,_+1,.nil => .nil
 | _,_,n+1,.cons r t => .cons r (Vals.take n t)
theorem Vals.drop:∀{xs:List V} {us:List Yg} (n:Nat),Vals xs us->Vals (xs.drop n) (us.drop n)
 | _,_,0,r=>r
 | _,_,_+1,.nil => .nil
 | _,_,n+1,.cons _ t=>Vals.drop n t
def RelO:Option V->Option Yg->Prop
 | some v,some u=>RelV v u
 | none,none=>True
 | _,_=>False
def KV{κ:Type}:List (κ×V)->List (κ×Yg)->Prop:=Paired λ(p:κ×V) (q:κ×Yg)=>p.1=q.1/\RelV p.2 q.2
def kV:Key->V
 | .inl i => .int i
 | .inr x => .str x
inductive HO where
 | lst (xs:List V)
 | tup (xs:List V)
 | dK (kvs:List (Key×V)) | dT (kvs:List (List Key×V))
 | set (S:Int->Bool) (n:Nat)
 | ins (C dx:Yi) (fs:List (Str×V))
 | own (x:Yi)
 | xd (fs:List (Str×V))
 | met (f x:Yi)
 | rng (lo hi:Int)
 | frz (o:Obj) (u:HO)
 | tbl (ps:Array Yg)
 | ext (φ:Heap->Prop)
abbrev Hp:=Yi->Option HO
def upd(H:Hp)(a:Yi)(o:HO):Hp:=λb=>if b=a then some o else H b
theorem m7{H:Hp}{a:Yi}{o:HO}:upd H a o a=some o:=by unfold upd;rw[iP rfl]
theorem i8{H:Hp}{a b:Yi}{o:HO}(h:b≠a):upd H a o b=H b:=by unfold upd;rw[iG h]
theorem LS{H:Hp}{a b:Yi}{o u:HO}(h:H a=some o)(h':H b=some u)(d:o≠u):a≠b:=by
 intro e;subst e;rw[h]at h';exact d (oj h')
theorem j6{H:Hp}{a b:Yi}{o:HO}(h:H a=some o)(h':H b=none):a≠b:=by
 intro e;subst e;rw[h]at h';cases h'
section
variable(P:Yn)(w:Yq)
noncomputable def ObjOk(H:Hp)(h:Heap)(a:Yi):HO->Prop
 | .lst xs=>xs.length<=Yl/\∃(its:List Yg) (n:Nat),Vals xs its/\h.get? a=some {cls := .type "list",data := .seq its.toArray n}
 | .tup xs=>xs.length<=Yl/\∃ its:List Yg,Vals xs its/\IsTup h a its.toArray
 | .dK kvs=>kvs.length<=Yl/\(a == Z0)=false/\∃ vs,KV kvs vs/\h.DictOf (m8 P w) a vs
 | .dT kvs=>kvs.length<=Yl/\(a == Z0)=false/\∃ xs:List (List Key×Yi×Yg),
    Paired (λ(p:List Key×V) (q:List Key×Yi×Yg)=>p.1=q.1/\H q.2.1=some (.tup (p.1.map kV))/\RelV p.2 q.2.2) kvs xs/\
    ∃ o es ep,h.get? a=some o/\o.ExactDict/\o.data = .dict es ep/\es.toList=xs.map (A0m (Zh (m8 P w)))/\(xs.map (·.1)).Nodup
 | .set S n=>h.SetOf (intKind P w) a S n
 | .ins C dx fs=>H dx=some (.own a)/\fs.length<=1000/\dx≠a/\h.get? a=some (PySem.W.instObj C dx)/\
    ∃ mA,h.Ns1 dx mA/\(∀ f,RelO (fs.lookup f) (mA f))/\PySem.Within mA (fs.map (·.1))
 | .own _=>∃ o,h.get? a=some o
 | .xd fs=>∃ mA,h.Ns1 a mA/\∀ f,RelO (fs.lookup f) (mA f)
 | .rng lo hi=>∃ t u v,h.get? a=some {cls := .type "range",data := .fields #[.int lo t,.int hi u,.int 1 v]}
 | .frz o u=>h.get? a=some o/\ObjOk H h a u
 | .tbl ps=>h.get? a=some {cls := .none,data := .fields ps}
 | .met f x=>h.get? a=some (PySem.W.methodObj (.ref f) (.ref x))
 | .ext φ=>φ h/\(∃ o,h.get? a=some o)/\∀ h1 h2:Heap,φ h1->(∀ o,h1.get? a=some o->h2.get? a=some o)->φ h2
noncomputable def HOk(H:Hp)(h:Heap):Prop:=∀ a o,H a=some o->ObjOk P w H h a o
end
section
variable{P:Yn}{w:Yq}{H H':Hp}{h h':Heap}{a:Yi}{o:HO}
theorem ObjOk.lt(x:ObjOk P w H h a o):a<h.objs.size:=by
 cases o with
 | lst xs=>obtain⟨_,_,_,_,e⟩:=x;exact VJ e
 | tup xs=>obtain⟨_,_,_,p⟩:=x;exact p.lt
 | dK kvs=>obtain⟨_,_,_,_,o,_,_,e,_⟩:=x;exact VJ e
 | dT kvs=>obtain⟨_,_,_,_,o,_,_,e,_⟩:=x;exact VJ e
 | set S n=>obtain⟨o,_,_,_,e,_⟩:=x;exact VJ e
 | ins C dx fs=>obtain⟨_,_,_,e,_⟩:=x;exact VJ e
 | own y=>obtain⟨_,e⟩:=x;exact VJ e
 | xd fs=>obtain⟨_,⟨_,_,_,e,_⟩,_⟩:=x;exact VJ e
 | rng lo hi=>obtain⟨_,_,_,e⟩:=x;exact VJ e
 | frz ob u=>obtain⟨e,_⟩:=x;exact VJ e
 | tbl ps=>exact VJ (show h.get? a=some _ from x)
 | met f y=>exact VJ (show h.get? a=some _ from x)
 | ext φ=>obtain⟨_,⟨_,e⟩,_⟩:=x;exact VJ e
theorem Paired.mapP{α β:Type}{F G:α->β->Prop}:∀{l₁:List α} {l₂:List β},Paired F l₁ l₂->(∀ a b,F a b->G a b)->Paired G l₁ l₂
 | _,_,.nil,_ => .nil
 | _,_,.cons r t,f => .cons (f _ _ r) (Paired.mapP t f)
theorem ObjOk.stay(x:ObjOk P w H h a o)(k:∀ b u,(b=a\/H b=some (.own a))->h.get? b=some u->h'.get? b=some u)
 (ho:∀ b,H b=some (.own a)->H' b=some (.own a)) (ht:∀ b xs,H b=some (.tup xs)->H' b=some (.tup xs)):ObjOk P w H' h' a o:=by
 induction o with
 | lst xs=>obtain⟨z,its,n,r,e⟩:=x;exact⟨z,its,n,r,k _ _ (.inl rfl) e⟩
 | tup xs=>obtain⟨z,its,r,ob,e,c⟩:=x;exact⟨z,its,r,ob,k _ _ (.inl rfl) e,c⟩
 | dK kvs=>obtain⟨z,y,vs,r,ob,es,ep,e,c⟩:=x;exact⟨z,y,vs,r,ob,es,ep,k _ _ (.inl rfl) e,c⟩
 | dT kvs=>
   obtain⟨z,y,xs,r,ob,es,ep,e,c⟩:=x;exact⟨z,y,xs,Paired.mapP r λp q z=>⟨z.1,ht _ _ z.2.1,z.2.2⟩,ob,es,ep,k _ _ (.inl rfl) e,c⟩
 | set S n=>obtain⟨ob,es,ep,t,e,c⟩:=x;exact⟨ob,es,ep,t,k _ _ (.inl rfl) e,c⟩
 | ins C dx fs=>
   obtain⟨d,z,ne,e,mA,⟨od,es,ep,e2,c⟩,r⟩:=x;exact⟨ho _ d,z,ne,k _ _ (.inl rfl) e,mA,⟨od,es,ep,k _ _ (.inr d) e2,c⟩,r⟩
 | own y=>obtain⟨ob,e⟩:=x;exact⟨ob,k _ _ (.inl rfl) e⟩
 | xd fs=>obtain⟨mA,⟨od,es,ep,e,c⟩,r⟩:=x;exact⟨mA,⟨od,es,ep,k _ _ (.inl rfl) e,c⟩,r⟩
 | rng lo hi=>obtain⟨t,u,v,e⟩:=x;exact⟨t,u,v,k _ _ (.inl rfl) e⟩
 | frz ob u ih=>obtain⟨e,q⟩:=x;exact⟨k _ _ (.inl rfl) e,ih q⟩
 | tbl ps=>
   have e:h.get? a=some {cls := .none,data := .fields ps}:=x;show h'.get? a=some {cls := .none,data := .fields ps};exact k a _ (.inl rfl) e
 | met f y=>
   have e:h.get? a=some (PySem.W.methodObj (.ref f) (.ref y)):=x;show h'.get? a=some (PySem.W.methodObj (.ref f) (.ref y));exact k a _ (.inl rfl) e
 | ext φ=>obtain⟨p,⟨o,e⟩,st⟩:=x;exact⟨st _ _ p λo q=>k _ _ (.inl rfl) q,⟨o,k _ _ (.inl rfl) e⟩,st⟩
theorem HOk.lt(x:HOk P w H h)(e:H a=some o):a<h.objs.size:=(x a o e).lt
theorem HOk.fresh(x:HOk P w H h)(e:h.objs.size<=a):H a=none:=by
 cases q:H a with
 | none=>rfl
 | some u=>exact absurd (Vc (x.lt q) e) (Wj _)
theorem HOk.kept(x:HOk P w H h)(k:∀ b u,h.get? b=some u->h'.get? b=some u):HOk P w H h':=λa o e=>
 (x a o e).stay (λb u _ q=>k b u q) (λ_ q=>q) λ_ _ q=>q
theorem HOk.laid(x:HOk P w H h)(k:∀ b u,h.get? b=some u->h'.get? b=some u)(hp:h.objs.size<=a)(new:ObjOk P w (upd H a o) h' a o):HOk P w (upd H a o) h':=λb u e=>by
 have hn:=x.fresh hp;by_cases hb:b=a
 ·subst hb;rw[m7]at e;cases e;exact new
 ·rw[i8 hb]at e;exact(x b u e).stay (λc v _ q=>k c v q) (λc q=>by rw[i8 (j6 q hn)];exact q) λc xs q=>by rw[i8 (j6 q hn)];exact q
end
def Rd(H:Hp)(a:Yi)(u:HO):Prop:=H a=some u\/∃ o,H a=some (.frz o u)
theorem Rd.ok{P:Yn}{w:Yq}{H:Hp}{h:Heap}{a:Yi}{u:HO}(r:Rd H a u)(x:HOk P w H h):ObjOk P w H h a u:=by
 rcases r with r | ⟨o,r⟩
 ·exact x a u r
 ·obtain⟨_,q⟩:=x a _ r;exact q
def Mut:Option HO->Prop
 | some (.lst _)=>True
 | some (.dK _)=>True
 | some (.dT _)=>True
 | some (.set _ _)=>True
 | some (.ins _ _ _)=>True
 | some (.ext _)=>True
 | _=>False
section
variable{P:Yn}{w:Yq}{H:Hp}{h h':Heap}{x e:Yi}{o':HO}
theorem HOk.write(ok:HOk P w H h)(mu:Mut (H x))(he:e=x\/H e=some (.own x))(k:∀ b u,b≠e->h.get? b=some u->h'.get? b=some u)(heo:∃ u,h'.get? e=some u)
 (new:ObjOk P w (upd H x o') h' x o'):HOk P w (upd H x o') h':=λb u q=>by
 have nown:∀ c y,H c=some (.own y)->c≠x:=λc y r z=>by subst z;rw[r]at mu;exact mu
 have ntup:∀ c xs,H c=some (.tup xs)->c≠x:=λc xs r z=>by subst z;rw[r]at mu;exact mu
 by_cases hb:b=x
 ·subst hb;rw[m7]at q;cases q;exact new
 ·rw[i8 hb]at q;by_cases hbe:b=e
  ·have q':H b=some (.own x):=by
    rcases he with z | z
    ·exact absurd (hbe.trans z) hb
    ·rw[hbe];exact z
   rw[q]at q';cases q';obtain⟨v,hv⟩:=heo;exact⟨v,by rw[hbe];exact hv⟩
  ·refine(ok b u q).stay (λc v hc r=>k c v ?_ r) (λc r=>by rw[i8 (nown c b r)];exact r) λc xs r=>by rw[i8 (ntup c xs r)];exact r
   rcases hc with rfl | hc
   ·exact hbe
   ·rintro rfl;rcases he with z | z
    ·exact nown c b hc z
    ·rw[hc]at z;cases z;exact hb rfl
end
structure Un(fs ex:List Yi)(H H':Hp)(h h':Heap):Prop where
 keep:∀ b o,h.get? b=some o->H b=none->b∉fs->b∉ex->h'.get? b=some o
 slot:∀ b o,h.get? b=some o->H b=none->b∈fs->b∉ex->∃ sl,h'.get? b=some {o with slots:=sl}
 free:∀ b o,h.get? b=some o->H b=none->b∉ex->H' b=none
 there:∀ b o,h.get? b=some o->b∉ex->∃ o',h'.get? b=some o'
 tups:∀ b xs,H b=some (.tup xs)->H' b=some (.tup xs)
 frzs:∀ b o u,H b=some (.frz o (.lst u))->H' b=some (.frz o (.lst u))
 tbls:∀ b ps,H b=some (.tbl ps)->∃ more,H' b=some (.tbl (ps++more))
section
variable{fs fs' ex ex':List Yi}{H H1 H2:Hp}{h h1 h2 h':Heap}{a x e:Yi}{o:HO}
theorem Un.any(u:Un fs ex H H1 h h1){b:Yi}{ob:Obj}(q:h.get? b=some ob)(n:H b=none)(hx:b∉ex):∃ sl,h1.get? b=some {ob with slots:=sl}:=by
 by_cases hb:b∈fs
 ·exact u.slot b ob q n hb hx
 ·exact⟨ob.slots,u.keep b ob q n hb hx⟩
theorem Un.kept(k:∀ b u,h.get? b=some u->h'.get? b=some u):Un fs ex H H h h':=
 ⟨λb ob q _ _ _=>k b ob q,λb ob q _ _ _=>⟨ob.slots,k b ob q⟩,λ_ _ _ n _=>n,λb ob q _=>⟨ob,k b ob q⟩,λ_ _ q=>q,λ_ _ _ q=>q,λ_ ps q=>⟨#[],by rw[q];simp⟩⟩
theorem Un.refl:Un fs ex H H h h:=Un.kept λ_ _ q=>q
theorem Un.laid(k:∀ b u,h.get? b=some u->h'.get? b=some u)(hp:h.objs.size<=a)(hn:H a=none):Un fs ex H (upd H a o) h h' where
 keep:=λb u q _ _ _=>k b u q
 slot:=λb u q _ _ _=>⟨u.slots,k b u q⟩
 free:=λb u q n _=>by rw[i8 (VO (Vc (VJ q) hp))];exact n
 there:=λb u q _=>⟨u,k b u q⟩
 tups:=λb xs q=>by rw[i8 (j6 q hn)];exact q
 frzs:=λb u xs q=>by rw[i8 (j6 q hn)];exact q
 tbls:=λb ps q=>⟨#[],by rw[i8 (j6 q hn),q];simp⟩
theorem Un.write(mu:Mut (H x))(he:e=x\/H e=some (.own x))(k:∀ b u,b≠e->h.get? b=some u->h'.get? b=some u)(heo:∃ u,h'.get? e=some u):Un fs ex H (upd H x o) h h':=by
 have hx:∀ b,H b=none->b≠x:=λb n z=>by subst z;rw[n]at mu;exact mu
 have hb:∀ b,H b=none->b≠e:=λb n z=>by
  subst z;rcases he with r | r
  ·exact hx b n r
  ·rw[n]at r;cases r
 have hm:∀ b u,H b=some u->¬ Mut (some u)->b≠x:=λb u q nm z=>by subst z;rw[q]at mu;exact nm mu
 refine⟨λb u q n _ _=>k b u (hb b n) q,λb u q n _ _=>⟨u.slots,k b u (hb b n) q⟩,λb u q n _=>by rw[i8 (hx b n)];exact n,λb u q _=>?_,
  λb xs q=>by rw[i8 (hm b _ q λz=>z)];exact q,λb u xs q=>by rw[i8 (hm b _ q λz=>z)];exact q,λb ps q=>⟨#[],by rw[i8 (hm b _ q λz=>z),q];simp⟩⟩
 by_cases hbe:b=e
 ·subst hbe;exact heo
 ·exact⟨u,k b u hbe q⟩
end
def trk(h:Heap)(H:Hp):List Yi:=(VD h.objs.size).filter λa=>(H a).isSome
noncomputable def En(h:Heap)(H:Hp):Heap:=PySem.W.hideAll h (trk h H)
theorem K6(h:Heap)(H:Hp):(En h H).objs.size=h.objs.size:=PySem.W.hideAll_size _ _
theorem LU{h:Heap}{H:Hp}{b:Yi}{o:Obj}(e:h.get? b=some o)(n:H b=none):(En h H).get? b=some o:=
 PySem.W.hideAll_get _ e λhm=>by
  have q:(H b).isSome=true:=(Vs.mp hm).2;rw[n]at q;simp at q
theorem O6{h:Heap}{H:Hp}{b:Yi}{o:Obj}(e:(En h H).get? b=some o):h.get? b=some o/\H b=none:=by
 have e':h.get? b=some o:=PySem.W.of_hideAll (trk h H) e;refine⟨e',?_⟩;cases q:H b with
 | none=>rfl
 | some x=>
   have hm:b∈trk h H:=Vs.mpr ⟨VW.mpr (VJ e'),by simp[q]⟩;have z:(En h H).get? b=none:=PySem.W.hideAll_none (trk h H) hm;rw[z]at e;cases e
structure Mod(K:V5)(mg:Str->Option Yg)(base:Heap):Prop where
 kin:K.In base
 glob:base.Ns Yo mg
 blt:∃ mb,base.Ns A09 mb/\∀ x:Str,x≠"__name__"->mb x=Yp x
 nolimit:base.NoLimit
structure Cx where
 prog:Yn
 w:Yq
 K:V5
 mg:Str->Option Yg
 base:Heap
 A:Yt
 N:List Str
 s₀:Yh
 H₀:Hp
 env:Env
 outer:List Env
 stack:List Env
 ex:List Yi
 fn:Str->Bool
 calm:Bool
 pn:List (Yi×Obj)
 xe:Yg->Yh->Prop
def frs(l:List Env):List Yi:=l.filterMap (·.frame)
abbrev Cx.fs(X:Cx):List Yi:=frs X.outer
def Vis(sc:Yu)(x:Str):Prop:=sc.names.lookup x=some .local\/sc.names.lookup x=some .cell\/sc.names.lookup x=some .free
def Loc(sc:Yu)(x:Str):Prop:=sc.names.lookup x=some .local\/sc.names.lookup x=some .cell
def Look(env:Env)(h:Heap)(m:Str->Option Yg)(x:Str)(u:Yg):Prop:=
 (env.kindOf x=some .local/\m x=some u)\/((env.kindOf x=some .cell\/env.kindOf x=some .free)/\∃ c,env.cells.lookup x=some c/\h.IsCell c (some u))
structure Cx.Ok(X:Cx):Prop where
 mod:Mod X.K X.mg X.base
 kind:X.env.scope.kind = .function
 glob:X.env.globals=Yo
 blt:X.env.builtins=A09
 above:X.s₀.heap.objs.size<=X.env.locals
 inj:∀ x y c,X.env.cells.lookup x=some c->X.env.cells.lookup y=some c->x=y
 has:∀ x,(X.env.kindOf x=some .cell\/X.env.kindOf x=some .free)->∃ c,X.env.cells.lookup x=some c
 cab:∀ x c,X.fn x=true->X.env.cells.lookup x=some c->X.s₀.heap.objs.size<=c
 hd:X.calm=true->X.A.handled=none
 frames:X.A.frames=some X.stack
 stk:X.stack=X.outer\/(X.stack=X.env::X.outer/\X.env.frame=some X.env.locals)
 exf:∀ b∈X.ex,b≠X.env.locals/\∀ x c,X.env.cells.lookup x=some c->c≠b
 bs:∀ b o,X.base.get? b=some o->X.s₀.heap.get? b=some o/\X.H₀ b=none
 bsz:X.base.objs.size<=X.s₀.heap.objs.size
 noex:∀ b o,X.base.get? b=some o->b∉X.ex
 exfs:∀ b∈X.ex,b∉X.fs
 funs:X.s₀.heap.FunFrames X.base X.outer
 frf:∀ b∈X.fs,X.H₀ b=none
structure Inv(X:Cx)(pq:List (Yi×Obj))(σ:List (Option V))(H:Hp)(s:Yh):Prop where
 ok:X.Ok
 os:s.os=X.s₀.os
 bare:AllBare s.gens
 base:Un X.fs X.ex X.H₀ H X.s₀.heap s.heap
 loc:∃ m,s.heap.Ns X.env.locals m/\∀(i:Nat) (x:Str) (v:V),X.N[i]?=some x->σ[i]?=some (some v)->Vis X.env.scope x->∃ u,RelV v u/\Look X.env s.heap m x u
 cell:∀ x c,X.env.cells.lookup x=some c->∃ v,s.heap.IsCell c v
 free:H X.env.locals=none
 freeC:∀ x c,X.env.cells.lookup x=some c->H c=none
 pin:∀ p∈X.pn++pq,s.heap.get? p.1=some p.2/\H p.1=none/\p.1≠X.env.locals/\p.1∉X.fs/\∀ v,p.2.data ≠ .cell v
 hok:HOk X.prog X.w H s.heap
 len:σ.length=X.N.length
section
variable{X:Cx}{pq:List (Yi×Obj)}{σ:List (Option V)}{H H':Hp}{s:Yh}{h':Heap}
theorem Cx.Ok.nofr(ok:X.Ok){b:Yi}{o:Obj}(e:X.base.get? b=some o):b∉X.fs:=λhb=>by
 have:=(ok.funs.mem hb).1;rw[e]at this;cases this
theorem Inv.bs(I:Inv X pq σ H s):∀ b o,X.base.get? b=some o->s.heap.get? b=some o/\H b=none:=λb o e=>
 ⟨I.base.keep b o (I.ok.bs b o e).1 (I.ok.bs b o e).2 (I.ok.nofr e) (I.ok.noex b o e),I.base.free b o (I.ok.bs b o e).1 (I.ok.bs b o e).2 (I.ok.noex b o e)⟩
theorem Inv.bk(I:Inv X pq σ H s):∀ b o,X.base.get? b=some o->s.heap.get? b=some o:=λb o e=>(I.bs b o e).1
theorem Inv.mod(I:Inv X pq σ H s):Mod X.K X.mg X.base:=I.ok.mod
theorem Inv.kIn(I:Inv X pq σ H s):X.K.In s.heap:=I.ok.mod.kin.keeps I.bk
theorem Inv.fr(I:Inv X pq σ H s):∃ m,Fr X.base X.env.locals s.heap m:=
 let ⟨m,hn,_⟩:=I.loc
 ⟨m,hn,I.bk,Ve I.ok.bsz I.ok.above⟩
theorem Inv.lt(I:Inv X pq σ H s):X.env.locals<s.heap.objs.size:=let ⟨_,hn,_⟩:=I.loc;hn.lt
theorem Inv.sz(I:Inv X pq σ H s):X.s₀.heap.objs.size<=s.heap.objs.size:=Ve I.ok.above (Xi I.lt)
theorem Inv.nofs(I:Inv X pq σ H s){a:Yi}(h:s.heap.objs.size<=a):a∉X.fs:=λhb=>by
 obtain⟨_,o,ho,_⟩:=I.ok.funs.mem hb;exact absurd (Vc (VJ ho) (Ve I.sz h)) (Wj _)
theorem Inv.cne(I:Inv X pq σ H s):∀ x c,X.env.cells.lookup x=some c->c≠X.env.locals:=λx c e z=>by
 obtain⟨v,o,ho,hd⟩:=I.cell x c e;obtain⟨m,⟨o',es,ep,ho',hd',_⟩,_⟩:=I.loc;rw[z,ho']at ho;cases ho;rw[hd']at hd;cases hd
theorem Inv.funs(I:Inv X pq σ H s):s.heap.FunFrames X.base X.outer:=by
 have all:∀(l:List Env),(∀ b∈frs l,b∈X.fs)->X.s₀.heap.FunFrames X.base l->s.heap.FunFrames X.base l:=by
  intro l
  induction l with
  | nil=>intro _ _;trivial
  | cons env r ih=>
    intro hs hl;obtain⟨hk,⟨L,o,hf,hn,ho,hd⟩,hr⟩:=hl;have hL:L∈X.fs:=hs L (by unfold frs;rw[Wz,hf];exact VN);obtain⟨sl,e⟩:=I.base.slot L o ho (I.ok.frf L hL) hL λz=>I.ok.exfs L z hL;exact⟨hk,⟨L,_,hf,hn,e,hd⟩,ih (λb hb=>hs b (by unfold frs;rw[Wz,hf];exact VI _ hb)) hr⟩
 exact all X.outer (λ_ hb=>hb) I.ok.funs
theorem Inv.stack(I:Inv X pq σ H s):s.heap.FunFrames X.base X.stack:=by
 rcases I.ok.stk with e | ⟨e,hf⟩
 ·rw[e];exact I.funs
 ·rw[e];obtain⟨m,hn,_⟩:=I.loc;refine .cons (by rw[I.ok.kind];decide) hf hn ?_ I.funs;exact Heap.get?_none_of_le (Ve I.ok.bsz I.ok.above)
theorem Inv.stkSub(I:Inv X pq σ H s):∀ b∈frs X.stack,b∈X.env.locals::X.fs:=λb hb=>by
 rcases I.ok.stk with e | ⟨e,hf⟩
 ·rw[e]at hb;exact VI _ hb
 ·rw[e]at hb;unfold frs at hb;rw[Wz,hf]at hb;exact hb
theorem Inv.stkFree(I:Inv X pq σ H s):∀ b∈frs X.stack,H b=none:=λb hb=>by
 rcases VT.mp (I.stkSub b hb) with e | hb
 ·rw[e];exact I.free
 ·obtain⟨_,o,ho,_⟩:=I.ok.funs.mem hb;exact I.base.free b o ho (I.ok.frf b hb) λz=>I.ok.exfs b z hb
theorem Inv.step{g':Array A0n}{t':Nat}{d':Drawn}{ch:List Yi}(I:Inv X pq σ H s)
 (hch:∀ b∈ch,(b∈X.ex\/X.s₀.heap.objs.size<=b)/\b≠X.env.locals/\(∀ x c,X.env.cells.lookup x=some c->c≠b)/\∀ p∈X.pn++pq,p.1≠b)
 (keep:∀ b o,b≠X.env.locals->b∉X.fs->b∉ch->s.heap.get? b=some o->H b=none->h'.get? b=some o)
 (slot:∀ b o,b≠X.env.locals->b∈X.fs->b∉ch->s.heap.get? b=some o->H b=none->∃ sl,h'.get? b=some {o with slots:=sl}) (free:∀ b o,b∉ch->s.heap.get? b=some o->H b=none->H' b=none)
 (there:∀ b o,b∉ch->s.heap.get? b=some o->∃ o',h'.get? b=some o')
 (tups:∀ b xs,H b=some (.tup xs)->H' b=some (.tup xs)) (frzs:∀ b o u,H b=some (.frz o (.lst u))->H' b=some (.frz o (.lst u))) (tbls:∀ b ps,H b=some (.tbl ps)->∃ more,H' b=some (.tbl (ps++more)))
 (ns:∀ m,s.heap.Ns X.env.locals m->h'.Ns X.env.locals m) (hok:HOk X.prog X.w H' h') (hg:AllBare g'):
 Inv X pq σ H' {s with heap:=h',gens:=g',drawn:=d',toks:=t'}:=by
 have neL:∀ b o,X.s₀.heap.get? b=some o->b≠X.env.locals:=λb o e=>VO (Vc (VJ e) I.ok.above)
 have neC:∀ b o,X.s₀.heap.get? b=some o->b∉X.ex->b∉ch:=λb o e hx hb=>by
  rcases(hch b hb).1 with z | z
  ·exact hx z
  ·exact absurd (Vc (VJ e) z) (Wj _)
 have cellK:∀ x c,X.env.cells.lookup x=some c->∀ v,s.heap.IsCell c v->h'.IsCell c v:=λx c e v ⟨o,ho,hd⟩=>by
  have nch:c∉ch:=λz=>(hch c z).2.2.1 x c e rfl;by_cases hc:c∈X.fs
  ·obtain⟨sl,q⟩:=slot c o (I.cne x c e) hc nch ho (I.freeC x c e);exact⟨_,q,hd⟩
  ·exact⟨o,keep c o (I.cne x c e) hc nch ho (I.freeC x c e),hd⟩
 refine⟨I.ok,I.os,hg,⟨λb o e n hb hx=>?_,λb o e n hb hx=>?_,λb o e n hx=>?_,λb o e hx=>?_,λb xs e=>tups b xs (I.base.tups b xs e),λb o xs e=>frzs b o xs (I.base.frzs b o xs e),λb ps e=>?_⟩,?_,λx c e=>?_,?_,λx c e=>?_,λp hp=>?_,hok,I.len⟩
 ·exact keep b o (neL b o e) hb (neC b o e hx) (I.base.keep b o e n hb hx) (I.base.free b o e n hx)
 ·obtain⟨sl,e1⟩:=I.base.slot b o e n hb hx;obtain⟨sl',e2⟩:=slot b _ (neL b o e) hb (neC b o e hx) e1 (I.base.free b o e n hx);exact⟨sl',e2⟩
 ·obtain⟨o',e1⟩:=I.base.there b o e hx;exact free b o' (neC b o e hx) e1 (I.base.free b o e n hx)
 ·obtain⟨o',e1⟩:=I.base.there b o e hx;exact there b o' (neC b o e hx) e1
 ·obtain⟨m1,e1⟩:=I.base.tbls b ps e;obtain⟨m2,e2⟩:=tbls b _ e1;exact⟨m1++m2,by rw[e2,Array.append_assoc]⟩
 ·obtain⟨m,hn,hl⟩:=I.loc;refine⟨m,ns m hn,λi x v e1 e2 e3=>?_⟩;obtain⟨u,r,l⟩:=hl i x v e1 e2 e3;refine⟨u,r,?_⟩;rcases l with l | ⟨k,c,e,z⟩
  ·exact .inl l
  ·exact .inr ⟨k,c,e,cellK x c e _ z⟩
 ·obtain⟨v,z⟩:=I.cell x c e;exact⟨v,cellK x c e v z⟩
 ·obtain⟨m,⟨o,_,_,ho,_⟩,_⟩:=I.loc;exact free _ o (λz=>(hch _ z).2.1 rfl) ho I.free
 ·obtain⟨v,o,ho,hd⟩:=I.cell x c e;exact free c o (λz=>(hch c z).2.2.1 x c e rfl) ho (I.freeC x c e)
 ·obtain⟨e,n,ne,nf,d⟩:=I.pin p hp;have nch:p.1∉ch:=λz=>(hch p.1 z).2.2.2 p hp rfl;exact⟨keep p.1 p.2 ne nf nch e n,free p.1 p.2 nch e n,ne,nf,d⟩
theorem Inv.un{t':Nat}(I:Inv X pq σ H s)(u:Un X.fs [] H H' s.heap h')(hok:HOk X.prog X.w H' h'):Inv X pq σ H' {s with heap:=h',toks:=t'}:=by
 obtain⟨m,⟨o,es,ep,ho,r⟩,_⟩:=id I.loc;obtain⟨sl,hL⟩:=u.any ho I.free (by simp)
 exact I.step (g':=s.gens) (d':=s.drawn) (ch:=[]) (λ_ z=>nomatch z) (λb o _ hb _ e n=>u.keep b o e n hb (by simp)) (λb o _ hb _ e n=>u.slot b o e n hb (by simp)) (λb o _ e n=>u.free b o e n (by simp)) (λb o _ e=>u.there b o e (by simp)) u.tups u.frzs u.tbls (λm' hm=>by
  obtain⟨o',es',ep',ho',r'⟩:=hm;rw[ho]at ho';cases ho';exact⟨_,es',ep',hL,r'⟩) hok I.bare
theorem Inv.call{g':Array A0n}{t':Nat}{d':Drawn}{ch:List Yi}(I:Inv X pq σ H s)(u:Un (frs X.stack) ch H H' s.heap h')(hok:HOk X.prog X.w H' h')(hg:AllBare g')
 (hch:∀ b∈ch,(b∈X.ex\/X.s₀.heap.objs.size<=b)/\b≠X.env.locals/\(∀ x c,X.env.cells.lookup x=some c->c≠b)/\∀ p∈X.pn++pq,p.1≠b):
 Inv X pq σ H' {s with heap:=h',gens:=g',drawn:=d',toks:=t'}:=by
 obtain⟨m,⟨o,es,ep,ho,r⟩,_⟩:=id I.loc;obtain⟨sl,hL⟩:=u.any ho I.free λz=>(hch _ z).2.1 rfl
 exact I.step (ch:=ch) hch (λb o hL hb hc e n=>u.keep b o e n (λz=>(VT.mp (I.stkSub b z)).elim hL hb) hc) (λb o _ _ hc e n=>u.any e n hc) (λb o hc e n=>u.free b o e n hc) (λb o hc e=>u.there b o e hc) u.tups u.frzs u.tbls (λm' hm=>by
  obtain⟨o',es',ep',ho',r'⟩:=hm;rw[ho]at ho';cases ho';exact⟨_,es',ep',hL,r'⟩) hok hg
theorem Inv.turned{t':Nat}{it:Yi}(I:Inv X pq σ H s)(k:∀ b o,b≠it->s.heap.get? b=some o->h'.get? b=some o)(hn:H it=none)(hL:it≠X.env.locals)
 (h1:it∈X.ex\/X.s₀.heap.objs.size<=it) (h2:∀ x c,X.env.cells.lookup x=some c->c≠it) (h3:∀ p∈X.pn++pq,p.1≠it):Inv X pq σ H {s with heap:=h',toks:=t'}:=by
 have nit:∀ b u,H b=some u->b≠it:=λb u e z=>by rw[z,hn]at e;cases e
 refine I.step (g':=s.gens) (d':=s.drawn) (ch:=[it]) (λb hb=>?_) (λb o _ _ hc e _=>k b o (λz=>hc (by simp[z])) e) (λb o _ _ hc e _=>⟨o.slots,k b o (λz=>hc (by simp[z])) e⟩) (λ_ _ _ _ n=>n)
  (λb o hc e=>⟨o,k b o (λz=>hc (by simp[z])) e⟩) (λ_ _ e=>e) (λ_ _ _ e=>e) (λb ps e=>⟨#[],by rw[e];simp⟩) (λm hm=>?_) (λb u e=>?_) I.bare
 ·have e:b=it:=by simpa using hb
  subst e;exact⟨h1,hL,h2,h3⟩
 ·obtain⟨o,es,ep,ho,r⟩:=hm;exact⟨o,es,ep,k _ o (Ne.symm hL) ho,r⟩
 ·refine(I.hok b u e).stay (λc v hc q=>k c v ?_ q) (λ_ q=>q) λ_ _ q=>q;rcases hc with z | z
  ·rw[z];exact nit b u e
  ·exact nit c _ z
theorem Inv.tok(I:Inv X pq σ H s)(t:Nat):Inv X pq σ H {s with toks:=t}:=I.un (h':=s.heap) (t':=t) Un.refl I.hok
theorem Inv.kept{t':Nat}(I:Inv X pq σ H s)(k:∀ b u,s.heap.get? b=some u->h'.get? b=some u):Inv X pq σ H {s with heap:=h',toks:=t'}:=I.un (Un.kept k) (I.hok.kept k)
theorem Inv.laid{a:Yi}{o:HO}{t':Nat}(I:Inv X pq σ H s)(k:∀ b u,s.heap.get? b=some u->h'.get? b=some u)(hp:s.heap.objs.size<=a)(new:ObjOk X.prog X.w (upd H a o) h' a o):
 Inv X pq σ (upd H a o) {s with heap:=h',toks:=t'}:=I.un (Un.laid k hp (I.hok.fresh hp)) (I.hok.laid k hp new)
theorem Inv.write{x e:Yi}{o:HO}{t':Nat}(I:Inv X pq σ H s)(mu:Mut (H x))(he:e=x\/H e=some (.own x))(k:∀ b u,b≠e->s.heap.get? b=some u->h'.get? b=some u)(heo:∃ u,h'.get? e=some u)
 (new:ObjOk X.prog X.w (upd H x o) h' x o):Inv X pq σ (upd H x o) {s with heap:=h',toks:=t'}:=I.un (Un.write mu he k heo) (I.hok.write mu he k heo new)
theorem Inv.weak{σ':List (Option V)}(I:Inv X pq σ H s)(hl:σ'.length=σ.length)(w:∀(i:Nat) v,σ'[i]?=some (some v)->σ[i]?=some (some v)):Inv X pq σ' H s:=
 ⟨I.ok,I.os,I.bare,I.base,let ⟨m,hn,hl'⟩:=I.loc;⟨m,hn,λi x v e1 e2 e3=>hl' i x v e1 (w i v e2) e3⟩,I.cell,I.free,I.freeC,I.pin,I.hok,hl.trans I.len⟩
theorem Inv.pins_of{pq':List (Yi×Obj)}(I:Inv X pq σ H s)(h:∀ p∈pq',s.heap.get? p.1=some p.2/\H p.1=none/\p.1≠X.env.locals/\p.1∉X.fs/\∀ v,p.2.data ≠ .cell v):Inv X pq' σ H s:=
 ⟨I.ok,I.os,I.bare,I.base,I.loc,I.cell,I.free,I.freeC,λp hp=>(VU.mp hp).elim (λz=>I.pin p (We _ z)) (h p),I.hok,I.len⟩
theorem FX{N:List Str}(hN:N.Nodup){i j:Nat}{x:Str}(a:N[i]?=some x)(b:N[j]?=some x):i=j:=by
 obtain⟨h1,e1⟩:=gM a;obtain⟨h2,e2⟩:=gM b;exact(List.getElem_inj hN).mp (e1.trans e2.symm)
theorem EB{M:Model}{A:Yt}{E:Yg->Yh->Prop}{i:Nat}{x:Str}{v:V}{u:Yg}{Q:Unit->Yh->Prop}(I:Inv X pq σ H s)(hN:X.N.Nodup)(hi:X.N[i]?=some x)(hx:Loc X.env.scope x)(r:RelV v u)
 (h:∀ s',Inv X pq (σ.set i (some v)) H s'->(∃ a,W5 a s.heap s'.heap/\(a=X.env.locals\/X.env.cells.lookup x=some a))->Q () s') (hf:X.fn x=true\/X.env.scope.names.lookup x=some .local:=by first | exact .inl rfl | exact .inr rfl | assumption):Yk M A (storeName X.env x u) Q E s:=by
 obtain⟨m,hn,hl⟩:=id I.loc;have hcls:(X.env.scope.kind == .class||(X.env.scope.kind == .module&&X.env.locals != X.env.globals))=false:=by rw[I.ok.kind];rfl
 have hiσ:i<σ.length:=by rw[I.len];exact(gM hi).1
 have cne:=I.cne
 have tracked:∀{a:Yi} {h':Heap},(∃ o,s.heap.get? a=some o/\H a=none)->W5 a s.heap h'->HOk X.prog X.w H h':=λ{a h'} ha hs b ob e=>by
  obtain⟨_,_,hfree⟩:=ha;refine(I.hok b ob e).stay (λc w' hc q=>(hs.2 c ?_).trans q) (λ_ q=>q) λ_ _ q=>q;rintro rfl;rcases hc with rfl | hc
  ·rw[hfree]at e;cases e
  ·rw[hfree]at hc;cases hc
 rcases hx with hk | hk
 ·refine wpAny_storeName_local hk hn (λh' hn' hs=>?_) hcls;obtain⟨oL,_,_,hoL,_⟩:=id hn;refine h _ ⟨I.ok,I.os,I.bare,⟨λb o e n hb hx=>?_,λb o e n hb hx=>?_,I.base.free,λb o e hx=>?_,I.base.tups,I.base.frzs,I.base.tbls⟩,⟨_,hn',λj y v' e1 e2 e3=>?_⟩,λy c e=>?_,I.free,I.freeC,λp hp=>?_,tracked ⟨oL,hoL,I.free⟩ hs,by simpa using I.len⟩ ⟨_,hs,.inl rfl⟩
  ·exact(hs.2 b (VO (Vc (VJ e) I.ok.above))).trans (I.base.keep b o e n hb hx)
  ·obtain⟨sl,e1⟩:=I.base.slot b o e n hb hx;exact⟨sl,(hs.2 b (VO (Vc (VJ e) I.ok.above))).trans e1⟩
  ·obtain⟨o',e1⟩:=I.base.there b o e hx;exact⟨o',(hs.2 b (VO (Vc (VJ e) I.ok.above))).trans e1⟩
  ·by_cases hj:j=i
   ·subst hj;rw[hi]at e1;cases e1;rw[Vf hiσ]at e2;cases e2;exact⟨u,r,.inl ⟨hk,by simp⟩⟩
   ·rw[W3 (Ne.symm hj)]at e2;obtain⟨u',r',q⟩:=hl j y v' e1 e2 e3;refine⟨u',r',?_⟩;rcases q with⟨k,e⟩ | ⟨k,c,e,z⟩
    ·refine .inl ⟨k,?_⟩;have:y≠x:=λe=>hj (FX hN e1 (e▸hi));simp[this,e]
    ·exact .inr ⟨k,c,e,z.sameBut hs (cne y c e)⟩
  ·obtain⟨w',z⟩:=I.cell y c e;exact⟨w',z.sameBut hs (cne y c e)⟩
  ·obtain⟨e,n,ne,nf,d⟩:=I.pin p hp;exact⟨(hs.2 p.1 ne).trans e,n,ne,nf,d⟩
 ·have hfn:X.fn x=true:=by
   rcases hf with z | z
   ·exact z
   ·rw[z]at hk;cases hk
  obtain⟨c,hc⟩:=I.ok.has x (.inl hk);obtain⟨w',z⟩:=I.cell x c hc;refine wpAny_storeName_cell I.ok.kind hk hc z (λh' hc' hs=>?_);obtain⟨oc,hoc,hocd⟩:=id z;refine h {s with heap:=h'} ⟨I.ok,I.os,I.bare,⟨λb o e n hb hx=>?_,λb o e n hb hx=>?_,I.base.free,λb o e hx=>?_,I.base.tups,I.base.frzs,I.base.tbls⟩,⟨m,hn.sameBut hs (Ne.symm (cne x c hc)),λj y v' e1 e2 e3=>?_⟩,λy c' e=>?_,I.free,I.freeC,λp hp=>?_,tracked ⟨oc,hoc,I.freeC x c hc⟩ hs,by simpa using I.len⟩ ⟨c,hs,.inr hc⟩
  ·exact(hs.2 b (VO (Vc (VJ e) (I.ok.cab x c hfn hc)))).trans (I.base.keep b o e n hb hx)
  ·obtain⟨sl,e1⟩:=I.base.slot b o e n hb hx;exact⟨sl,(hs.2 b (VO (Vc (VJ e) (I.ok.cab x c hfn hc)))).trans e1⟩
  ·obtain⟨o',e1⟩:=I.base.there b o e hx;exact⟨o',(hs.2 b (VO (Vc (VJ e) (I.ok.cab x c hfn hc)))).trans e1⟩
  ·by_cases hj:j=i
   ·subst hj;rw[hi]at e1;cases e1;rw[Vf hiσ]at e2;cases e2;exact⟨u,r,.inr ⟨.inl hk,c,hc,hc'⟩⟩
   ·rw[W3 (Ne.symm hj)]at e2;obtain⟨u',r',q⟩:=hl j y v' e1 e2 e3;refine⟨u',r',?_⟩;rcases q with q | ⟨k,c',e,z'⟩
    ·exact .inl q
    ·refine .inr ⟨k,c',e,z'.sameBut hs ?_⟩;rintro rfl;exact hj (FX hN e1 (I.ok.inj _ _ _ e hc▸hi))
  ·by_cases hcc:c'=c
   ·subst hcc;exact⟨_,hc'⟩
   ·obtain⟨w2,z2⟩:=I.cell y c' e;exact⟨w2,z2.sameBut hs hcc⟩
  ·obtain⟨e,n,ne,nf,d⟩:=I.pin p hp;refine⟨(hs.2 p.1 ?_).trans e,n,ne,nf,d⟩;intro q;rw[q,hoc]at e;have q':oc=p.2:=oj e;exact d w' (by rw[<-q'];exact hocd)
theorem C5{M:Model}{A:Yt}{E:Yg->Yh->Prop}{i:Nat}{x:Str}{v:V}{u:Yg}{Q:Unit->Yh->Prop}(I:Inv X pq σ H s)(hN:X.N.Nodup)(hi:X.N[i]?=some x)(hx:Loc X.env.scope x)(r:RelV v u)
 (h:∀ s',Inv X pq (σ.set i (some v)) H s'->Q () s') (hf:X.fn x=true\/X.env.scope.names.lookup x=some .local:=by first | exact .inl rfl | exact .inr rfl | assumption):Yk M A (storeName X.env x u) Q E s:=
 EB I hN hi hx r (λs' I' _=>h s' I') hf
theorem Inv.call'{s':Yh}{ch:List Yi}(I:Inv X pq σ H s)(ho:s'.os=s.os)(u:Un (frs X.stack) ch H H' s.heap s'.heap)(hok:HOk X.prog X.w H' s'.heap)(hg:AllBare s'.gens)
 (hch:∀ b∈ch,(b∈X.ex\/X.s₀.heap.objs.size<=b)/\b≠X.env.locals/\(∀ x c,X.env.cells.lookup x=some c->c≠b)/\∀ p∈X.pn++pq,p.1≠b):Inv X pq σ H' s':=by
 obtain⟨h',g',d',t',o'⟩:=s';have e:o'=s.os:=ho;subst e;exact I.call (g':=g') (t':=t') (d':=d') u hok hg hch
end
abbrev XK:=Yg->Option Yi->Hp->Prop
abbrev St:=List (Option V)
abbrev VK:=V->Hp->Prop
abbrev TE:=St->Hp->VK->Prop
abbrev TT:=St->Hp->(Bool->Hp->Prop)->Prop
abbrev TA:=St->Hp->(List V->Hp->Prop)->Prop
structure Ends where
 nx:St->Hp->Prop
 rt:VK
 bk:St->Hp->Prop:=λ_ _=>False
 ct:St->Hp->Prop:=λ_ _=>False
abbrev TS:=Ends->St->Hp->Prop
def EP(X:Cx)(pq:List (Yi×Obj))(σ:St)(Q:VK)(u:Yg)(s':Yh):Prop:=∃ v H',Inv X pq σ H' s'/\RelV v u/\Q v H'
def TP(X:Cx)(pq:List (Yi×Obj))(σ:St)(Q:Bool->Hp->Prop)(b:Bool)(s':Yh):Prop:=∃ H',Inv X pq σ H' s'/\Q b H'
def AP(X:Cx)(pq:List (Yi×Obj))(σ:St)(Q:List V->Hp->Prop)(us:List Yg)(s':Yh):Prop:=∃ vs H',Inv X pq σ H' s'/\Vals vs us/\Q vs H'
def SP(X:Cx)(pq:List (Yi×Obj))(D:Ends)(f:Flow)(s':Yh):Prop:=
 match f with
 | .next=>∃ σ' H',Inv X pq σ' H' s'/\D.nx σ' H'
 | .brk=>∃ σ' H',Inv X pq σ' H' s'/\D.bk σ' H'
 | .cont=>∃ σ' H',Inv X pq σ' H' s'/\D.ct σ' H'
 | .ret u=>∃ v σ' H',Inv X pq σ' H' s'/\RelV v u/\D.rt v H'
noncomputable def PE(X:Cx)(e:Expr)(t:TE):Prop:=
 ∀(pq:List (Yi×Obj)) (s:Yh) (σ:St) (H:Hp) (Q:VK),Inv X pq σ H s->t σ H Q->Yk (Ym X.prog X.w) X.A (eval e X.env) (EP X pq σ Q) X.xe s
noncomputable def PT(X:Cx)(e:Expr)(t:TT):Prop:=
 ∀(pq:List (Yi×Obj)) (s:Yh) (σ:St) (H:Hp) (Q:Bool->Hp->Prop),Inv X pq σ H s->t σ H Q->Yk (Ym X.prog X.w) X.A (isTrue e X.env (eval e X.env)) (TP X pq σ Q) X.xe s
noncomputable def PW(X:Cx)(e:Expr)(t:TT):Prop:=
 ∀(whole:Sem Yg) (pq:List (Yi×Obj)) (s:Yh) (σ:St) (H:Hp) (Q:Bool->Hp->Prop),Inv X pq σ H s->t σ H Q->Yk (Ym X.prog X.w) X.A (isTrue e X.env whole) (TP X pq σ Q) X.xe s
theorem PW.pt{X:Cx}{e:Expr}{t:TT}(h:PW X e t):PT X e t:=h _
noncomputable def PA(X:Cx)(es:List Expr)(t:TA):Prop:=
 ∀(pos:Pos) (pq:List (Yi×Obj)) (s:Yh) (σ:St) (H:Hp) (Q:List V->Hp->Prop),Inv X pq σ H s->t σ H Q->Yk (Ym X.prog X.w) X.A (spliced (backTo pos (Yr es X.env))) (AP X pq σ Q) X.xe s
noncomputable def PS(X:Cx)(st:Stmt)(t:TS):Prop:=
 ∀(pq:List (Yi×Obj)) (s:Yh) (σ:St) (H:Hp) (D:Ends),Inv X pq σ H s->t D σ H->Yk (Ym X.prog X.w) X.A (exec st X.env) (SP X pq D) X.xe s
noncomputable def PSs(X:Cx)(st:List Stmt)(t:TS):Prop:=
 ∀(pq:List (Yi×Obj)) (s:Yh) (σ:St) (H:Hp) (D:Ends),Inv X pq σ H s->t D σ H->Yk (Ym X.prog X.w) X.A (execs st X.env) (SP X pq D) X.xe s
theorem thn{α:Type}{t:Sem α}{Q Q':α->Yh->Prop}{M:Model}{A:Yt}{E:Yg->Yh->Prop}{s:Yh}(h:Yk M A t Q E s)(hQ:∀ a s,Q a s->Q' a s):Yk M A t Q' E s:=Z6 h hQ λ_ _ x=>x
section
variable{X:Cx}
def O9(i:Nat):TE:=λσ H Q=>∃ v,σ[i]?=some (some v)/\Q v H
def tC(v:V):TE:=λ_ H Q=>Q v H
theorem R4{i:Nat}{x:Str}{pos:Pos}(hN:X.N[i]?=some x)(hv:Vis X.env.scope x)(hd:(x == ("__debug__":Str))=false:=by decide)(hcd:(x == ("__classdict__":Str))=false:=by decide):PE X (.Name x pos) (O9 i):=by
 intro pq s σ H Q I h;obtain⟨v,e,h⟩:=h;obtain⟨m,hn,hl⟩:=I.loc;obtain⟨u,r,l⟩:=hl i x v hN e hv;have fin:EP X pq σ Q u s:=⟨v,H,I,r,h⟩
 rcases l with⟨hk,hm⟩ | ⟨hk,c,hc,hcell⟩
 ·exact A0o (wpAny_loadName_local I.ok.kind hk hn hm fin) hd
 ·rcases hk with hk | hk
  ·exact A0o (wpAny_loadName_cell I.ok.kind hk hc hcell fin) hd
  ·exact A0o (wpAny_loadName_free I.ok.kind hk hc hcell fin hcd) hd
theorem R5{i j pos}:PE X (.Constant (.int i) j pos) (tC (.int i)):=λ_ _ _ H _ I h=>wpAny_Constant_int ⟨.int i,H,I.tok _,⟨_,rfl⟩,h⟩
theorem T9{b j pos}:PE X (.Constant (.bool b) j pos) (tC (.bl b)):=λ_ _ _ H _ I h=>Constant_bool ⟨.bl b,H,I,rfl,h⟩
theorem R6{j pos}:PE X (.Constant .none j pos) (tC .non):=λ_ _ _ H _ I h=>Constant_none ⟨.non,H,I,rfl,h⟩
theorem R7{x j pos}:PE X (.Constant (.str x) j pos) (tC (.str x)):=λ_ _ _ H _ I h=>Calls.Constant_str ⟨.str x,H,I.tok _,⟨_,rfl⟩,h⟩
def Gl(X:Cx)(x:Str):Prop:=X.env.kindOf x=some .globalImplicit
theorem OA{E:Yg->Yh->Prop}{pq:List (Yi×Obj)}{s:Yh}{σ:St}{H:Hp}{x:Str}{u:Yg}{pos:Pos}{Q:Yg->Yh->Prop}(I:Inv X pq σ H s)(hg:Gl X x)(hm:X.mg x=some u)(h:Q u s)
 (hd:(x == ("__debug__":Str))=false:=by decide):Yk (Ym X.prog X.w) X.A (eval (.Name x pos) X.env) Q E s:=
 Calls.Name_function_global I.ok.kind hg (Calls.loadGlobal_global (by rw[I.ok.glob];exact I.mod.glob.keeps I.bk) hm h) hd
theorem BF{E:Yg->Yh->Prop}{pq:List (Yi×Obj)}{s:Yh}{σ:St}{H:Hp}{x:Str}{u:Yg}{pos:Pos}{Q:Yg->Yh->Prop}(I:Inv X pq σ H s)(hg:Gl X x)(hm:X.mg x=none)(hv:Yp x=some u)(h:Q u s)
 (hn:x≠"__name__":=by decide) (hd:(x == ("__debug__":Str))=false:=by decide):Yk (Ym X.prog X.w) X.A (eval (.Name x pos) X.env) Q E s:=by
 obtain⟨mb,h1,h2⟩:=I.mod.blt;exact Calls.Name_function_global I.ok.kind hg (Calls.loadGlobal_builtin (by rw[I.ok.glob];exact I.mod.glob.keeps I.bk) hm (by rw[I.ok.blt];exact h1.keeps I.bk) ((h2 x hn).trans hv) h) hd
theorem OB{x:Str}{v:V}{u:Yg}{pos:Pos}(hg:Gl X x)(hm:X.mg x=none)(hv:Yp x=some u)(r:RelV v u)(hn:x≠"__name__":=by decide)(hd:(x == ("__debug__":Str))=false:=by decide):PE X (.Name x pos) (tC v):=
 λ_ _ _ H _ I h=>BF I hg hm hv ⟨v,H,I,r,h⟩ hn hd
variable{a b:Expr}{ta tb:TE}{pos:Pos}
variable{tA tB':TT}{rest:List Expr}
def TB(t u:TT):TT:=λσ H Q=>t σ H λc H1=>if c=true then u σ H1 Q else Q false H1
def tOr(t u:TT):TT:=λσ H Q=>t σ H λc H1=>if c=true then Q true H1 else u σ H1 Q
def TC(t:TT):TT:=λσ H Q=>t σ H λc H1=>Q (!c) H1
theorem OC(ha:PT X a tA):PW X (.BoolOp .And [a] pos) tA:=by
 intro wh pq s σ H Q I h;refine isTrue_and (thn (ha pq s σ H Q I h) λc s1 e=>?_);cases c with
 | true=>exact isTrue_and_nil e
 | false=>exact e
theorem R8(ha:PT X a tA):PW X (.BoolOp .Or [a] pos) tA:=by
 intro wh pq s σ H Q I h;refine isTrue_or (thn (ha pq s σ H Q I h) λc s1 e=>?_);cases c with
 | false=>exact isTrue_or_nil e
 | true=>exact e
theorem LV(ha:PT X a tA)(hb:PW X (.BoolOp .And (b::rest) pos) tB'):PW X (.BoolOp .And (a::b::rest) pos) (TB tA tB'):=by
 intro wh pq s σ H Q I h;refine isTrue_and (thn (ha pq s σ H _ I h) λc s1 ⟨H1,I1,q1⟩=>?_);cases c with
 | true=>exact hb wh pq s1 σ H1 Q I1 q1
 | false=>exact⟨H1,I1,q1⟩
theorem QA(ha:PT X a tA)(hb:PW X (.BoolOp .Or (b::rest) pos) tB'):PW X (.BoolOp .Or (a::b::rest) pos) (tOr tA tB'):=by
 intro wh pq s σ H Q I h;refine isTrue_or (thn (ha pq s σ H _ I h) λc s1 ⟨H1,I1,q1⟩=>?_);cases c with
 | true=>exact⟨H1,I1,q1⟩
 | false=>exact hb wh pq s1 σ H1 Q I1 q1
theorem R9(ha:PT X a tA):PT X (.UnaryOp .Not a pos) (TC tA):=by
 intro pq s σ H Q I h;exact isTrue_not (ha pq s σ H (λc H1=>Q (!c) H1) I h)
def QB(ta tb:TE):TE:=λσ H Q=>ta σ H λx H1=>∃ c,x = .bl c/\if c=true then tb σ H1 Q else Q (.bl false) H1
def TD(ta tb:TE):TE:=λσ H Q=>ta σ H λx H1=>∃ c,x = .bl c/\if c=true then Q (.bl true) H1 else tb σ H1 Q
def QC(ta:TE):TE:=λσ H Q=>ta σ H λx H1=>∃ c,x = .bl c/\Q (.bl (!c)) H1
theorem LW{op}{t:TE}(h:PE X a t):PE X (.BoolOp op [a] pos) t:=λpq s σ H Q I hw=>BoolOp_one (h pq s σ H Q I hw)
theorem LX(ha:PE X a ta)(hb:PE X (.BoolOp .And (b::rest) pos) tb):PE X (.BoolOp .And (a::b::rest) pos) (QB ta tb):=by
 intro pq s σ H Q I h;refine BoolOp_and (thn (ha pq s σ H _ I h) λv s1 ⟨x,H1,I1,r1,q1⟩=>?_);obtain⟨c,rfl,q1⟩:=q1;cases r1;refine Yw ?_;cases c with
 | true=>exact hb pq s1 σ H1 Q I1 q1
 | false=>exact⟨.bl false,H1,I1,rfl,q1⟩
theorem QD(ha:PE X a ta)(hb:PE X (.BoolOp .Or (b::rest) pos) tb):PE X (.BoolOp .Or (a::b::rest) pos) (TD ta tb):=by
 intro pq s σ H Q I h;refine BoolOp_or (thn (ha pq s σ H _ I h) λv s1 ⟨x,H1,I1,r1,q1⟩=>?_);obtain⟨c,rfl,q1⟩:=q1;cases r1;refine Yw ?_;cases c with
 | false=>exact hb pq s1 σ H1 Q I1 q1
 | true=>exact⟨.bl true,H1,I1,rfl,q1⟩
theorem RA(ha:PE X a ta):PE X (.UnaryOp .Not a pos) (QC ta):=by
 intro pq s σ H Q I h;refine UnaryOp_ (thn (ha pq s σ H _ I h) λv s1 ⟨x,H1,I1,r1,q1⟩=>?_);obtain⟨c,rfl,q1⟩:=q1;cases r1;exact not_of (Yw ⟨.bl (!c),H1,I1,rfl,q1⟩)
def tIf(t:TT)(ta tb:TE):TE:=λσ H Q=>t σ H λc H1=>if c=true then ta σ H1 Q else tb σ H1 Q
theorem LY{c:Expr}(hc:PT X c tA)(ha:PE X a ta)(hb:PE X b tb):PE X (.IfExp c a b pos) (tIf tA ta tb):=by
 intro pq s σ H Q I h;refine wpAny_IfExp (thn (hc pq s σ H _ I h) λd s1 ⟨H1,I1,q1⟩=>?_);cases d with
 | true=>exact ha pq s1 σ H1 Q I1 q1
 | false=>exact hb pq s1 σ H1 Q I1 q1
end
def SqL(K:V5)(H:Hp)(a:Yi)(xs:List V):Prop:=
 Rd H a (.lst xs)\/
  ∃(o:Obj) (its:Array Yg) (n:Nat),K.lookup a=some o/\o.cls = .type "list"/\o.dict=none/\o.data = .seq its n/\its.size<=Yl/\Vals xs its.toList
def SqT(K:V5)(H:Hp)(a:Yi)(xs:List V):Prop:=
 Rd H a (.tup xs)\/
  ∃(o:Obj) (its:Array Yg) (n:Nat),K.lookup a=some o/\o.cls = .type "tuple"/\o.data = .seq its n/\its.size<=Yl/\Vals xs its.toList
def Uj:Yg->Option V
 | .none=>some .non
 | .bool b=>some (.bl b)
 | .int i _=>some (.int i)
 | .str x _=>some (.str x)
 | .bytes b _=>some (.byt b)
 | .float b _=>some (.flt b)
 | .ref a=>some (.ref a)
 | .type n=>some (.ty n)
 | _=>none
theorem RelV.abs{x:V}{u:Yg}(r:RelV x u):Uj u=some x:=by
 cases x with
 | non=>cases r;rfl
 | bl _=>cases r;rfl
 | int _=>obtain⟨t,rfl⟩:=r;rfl
 | str _=>obtain⟨t,rfl⟩:=r;rfl
 | byt _=>obtain⟨t,rfl⟩:=r;rfl
 | flt _=>obtain⟨t,rfl⟩:=r;rfl
 | ref _=>cases r;rfl
 | ty _=>cases r;rfl
theorem RelV.inj{x y:V}{u:Yg}(r:RelV x u)(q:RelV y u):x=y:=oj (r.abs.symm.trans q.abs)
theorem Vals.inj:∀{xs ys:List V} {us:List Yg},Vals xs us->Vals ys us->xs=ys
 | _,_,_,.nil,.nil=>rfl
 | _,_,_,.cons r t,.cons r' t'=>by rw[r.inj r',Vals.inj t t']
section
variable{X:Cx}{pq:List (Yi×Obj)}{σ:St}{H:Hp}{s:Yh}{a:Yi}{xs ys:List V}
theorem SqL.of{K:V5}(h:H a=some (.lst xs)):SqL K H a xs := .inl (.inl h)
theorem SqT.of{K:V5}(h:H a=some (.tup xs)):SqT K H a xs := .inl (.inl h)
theorem Inv.list(I:Inv X pq σ H s)(h:SqL X.K H a xs):∃ its:List Yg,Vals xs its/\PlainL s.heap a its.toArray/\xs.length<=Yl:=by
 rcases h with h | ⟨o,its,n,hk,hc,hd,hs,hz,r⟩
 ·obtain⟨z,its,n,r,e⟩:=h.ok I.hok;exact⟨its,r,⟨_,n,e,rfl,rfl,rfl⟩,z⟩
 ·refine⟨its.toList,r,⟨o,n,I.kIn a o hk,hc,hd,by simpa using hs⟩,?_⟩;have e:=r.length;simp only[Wm]at e;omega
theorem Inv.tuple(I:Inv X pq σ H s)(h:SqT X.K H a xs):∃ its:List Yg,Vals xs its/\IsTup s.heap a its.toArray/\xs.length<=Yl:=by
 rcases h with h | ⟨o,its,n,hk,hc,hs,hz,r⟩
 ·obtain⟨z,its,r,p⟩:=h.ok I.hok;exact⟨its,r,p,z⟩
 ·refine⟨its.toList,r,⟨o,I.kIn a o hk,hc,n,by simpa using hs⟩,?_⟩;have e:=r.length;simp only[Wm]at e;omega
theorem Inv.list_inj(I:Inv X pq σ H s)(h:SqL X.K H a xs)(h':SqL X.K H a ys):xs=ys:=by
 obtain⟨its,r,⟨o,n,e,_,_,d⟩,_⟩:=I.list h;obtain⟨its',r',⟨o',n',e',_,_,d'⟩,_⟩:=I.list h';rw[e]at e';cases e';rw[d]at d';injection d' with d1 _;have:its=its':=by simpa using congrArg YZ d1
 subst this;exact r.inj r'
theorem Inv.tuple_inj(I:Inv X pq σ H s)(h:SqT X.K H a xs)(h':SqT X.K H a ys):xs=ys:=by
 obtain⟨its,r,⟨o,e,_,n,d⟩,_⟩:=I.tuple h;obtain⟨its',r',⟨o',e',_,n',d'⟩,_⟩:=I.tuple h';rw[e]at e';cases e';rw[d]at d';injection d' with d1 _;have:its=its':=by simpa using congrArg YZ d1
 subst this;exact r.inj r'
end
abbrev Cx.wish(X:Cx)(E:Yg->Yh->Prop):Cx:={X with xe:=E}
abbrev Cx.nox(X:Cx):Cx:=X.wish λ_ _=>False
theorem Cx.Ok.wish{X:Cx}(ok:X.Ok)(E:Yg->Yh->Prop):(X.wish E).Ok:=
 ⟨ok.mod,ok.kind,ok.glob,ok.blt,ok.above,ok.inj,ok.has,ok.cab,ok.hd,ok.frames,ok.stk,ok.exf,ok.bs,ok.bsz,ok.noex,ok.exfs,ok.funs,ok.frf⟩
theorem Cx.Ok.unwish{X:Cx}{E:Yg->Yh->Prop}(ok:(X.wish E).Ok):X.Ok:=
 ⟨ok.mod,ok.kind,ok.glob,ok.blt,ok.above,ok.inj,ok.has,ok.cab,ok.hd,ok.frames,ok.stk,ok.exf,ok.bs,ok.bsz,ok.noex,ok.exfs,ok.funs,ok.frf⟩
section
variable{X:Cx}{pq:List (Yi×Obj)}{σ:St}{H:Hp}{s:Yh}{E:Yg->Yh->Prop}
theorem Inv.wish(I:Inv X pq σ H s)(E:Yg->Yh->Prop):Inv (X.wish E) pq σ H s:=⟨I.ok.wish E,I.os,I.bare,I.base,I.loc,I.cell,I.free,I.freeC,I.pin,I.hok,I.len⟩
theorem Inv.unwish(I:Inv (X.wish E) pq σ H s):Inv X pq σ H s:=⟨I.ok.unwish,I.os,I.bare,I.base,I.loc,I.cell,I.free,I.freeC,I.pin,I.hok,I.len⟩
theorem SP.unwish{D:Ends}{f:Flow}{s':Yh}(h:SP (X.wish E) pq D f s'):SP X pq D f s':=by
 cases f with
 | next=>obtain⟨σ',H',I,q⟩:=h;exact⟨σ',H',I.unwish,q⟩
 | brk=>obtain⟨σ',H',I,q⟩:=h;exact⟨σ',H',I.unwish,q⟩
 | cont=>obtain⟨σ',H',I,q⟩:=h;exact⟨σ',H',I.unwish,q⟩
 | ret u=>obtain⟨v,σ',H',I,r,q⟩:=h;exact⟨v,σ',H',I.unwish,r,q⟩
theorem PSs.nox{st:List Stmt}{t:TS}(h:PSs X.nox st t):PSs X st t:=λpq s σ H D I hw=>
 Z6 (h pq s σ H D (I.wish _) hw) (λ_ _ q=>q.unwish) λ_ _ z=>False.elim z
end
section
variable{X:Cx}{st:Stmt}{rest:List Stmt}{t u:TS}{e:Expr}{te:TE}{pos:Pos}
def TF:TS:=λD σ H=>D.nx σ H
def Uk(t u:TS):TS:=λD σ H=>t {D with nx:=u D} σ H
theorem OD:PSs X [] TF:=λ_ _ σ H _ I h=>Zf ⟨σ,H,I,h⟩
theorem LZ(h1:PS X st t)(h2:PSs X rest u):PSs X (st::rest) (Uk t u):=by
 intro pq s σ H D I h;refine wpAny_execs_cons (thn (h1 pq s σ H {D with nx:=u D} I h) λf s1 q=>?_);cases f with
 | next=>
   obtain⟨σ',H',I',q⟩:=q;exact h2 pq s1 σ' H' D I' q
 | ret v=>exact q
 | brk=>exact q
 | cont=>exact q
theorem Inv.quiet{pq:List (Yi×Obj)}{σ:St}{H:Hp}{s:Yh}(I:Inv X pq σ H s):interactive X.env=false:=by simp[interactive,I.ok.kind]
def TH(te:TE):TS:=λD σ H=>te σ H λ_ H1=>D.nx σ H1
theorem OE(he:PE X e te)(hs:ZF e none pos.line X.env=pure false:=by rfl):PS X (.Expr e pos) (TH te):=by
 intro pq s σ H D I h;exact wpAny_Expr_any (thn (he pq s σ H _ I h) λv s1 ⟨x,H1,I1,r1,q1⟩=>⟨σ,H1,I1,q1⟩) I.quiet hs
def Ul(te:TE):TS:=λD σ H=>te σ H D.rt
theorem RB(he:PE X e te):PS X (.Return (some e) pos) (Ul te):=by
 intro pq s σ H D I h;exact wpAny_Return_some (thn (he pq s σ H _ I h) λv s1 ⟨x,H1,I1,r1,q1⟩=>⟨x,σ,H1,I1,r1,q1⟩)
def TJ(c:TT)(t u:TS):TS:=λD σ H=>c σ H λb H1=>if b=true then t D σ H1 else u D σ H1
theorem TK{c:Expr}{a b:List Stmt}{tc:TT}(hc:PT X c tc)(ha:PSs X a t)(hb:PSs X b u):PS X (.If c a b pos) (TJ tc t u):=by
 intro pq s σ H D I h;refine wpAny_If (thn (hc pq s σ H _ I h) λd s1 ⟨H1,I1,q1⟩=>?_);cases d with
 | true=>exact ha pq s1 σ H1 D I1 q1
 | false=>exact hb pq s1 σ H1 D I1 q1
end
abbrev TG:=V->St->Hp->(St->Hp->Prop)->Prop
abbrev TGs:=List V->St->Hp->(St->Hp->Prop)->Prop
noncomputable def PG(X:Cx)(target:Expr)(t:TG):Prop:=
 ∀(pq:List (Yi×Obj)) (s:Yh) (σ:St) (H:Hp) (v:V) (u:Yg) (Q:St->Hp->Prop),Inv X pq σ H s->RelV v u->t v σ H Q->
  Yk (Ym X.prog X.w) X.A (assign target X.env u) (λ_ s'=>∃ σ' H',Inv X pq σ' H' s'/\Q σ' H') X.xe s
noncomputable def PGs(X:Cx)(ts:List Expr)(t:TGs):Prop:=
 ∀(pq:List (Yi×Obj)) (s:Yh) (σ:St) (H:Hp) (vs:List V) (us:List Yg) (Q:St->Hp->Prop),Inv X pq σ H s->Vals vs us->t vs σ H Q->
  Yk (Ym X.prog X.w) X.A (A06 ((Z7 ts X.env).map (·.2)) us) (λ_ s'=>∃ σ' H',Inv X pq σ' H' s'/\Q σ' H') X.xe s
abbrev La:=V->V->V->Hp->(Hp->Prop)->Prop
noncomputable def RC(X:Cx)(t:La):Prop:=
 ∀(pq:List (Yi×Obj)) (s:Yh) (σ:St) (H:Hp) (o i v:V) (ov iv u:Yg) (Q:Hp->Prop),Inv X pq σ H s->RelV o ov->RelV i iv->RelV v u->t o i v H Q->
  Yk (Ym X.prog X.w) X.A (setItem ov iv u) (λ_ s'=>∃ H',Inv X pq σ H' s'/\Q H') X.xe s
abbrev TIp:=V->V->Hp->VK->Prop
noncomputable def PIp(X:Cx)(op:ZK)(t:TIp):Prop:=
 ∀(pq:List (Yi×Obj)) (s:Yh) (σ:St) (H:Hp) (x y:V) (v u:Yg) (Q:VK),Inv X pq σ H s->RelV x v->RelV y u->t x y H Q->
  Yk (Ym X.prog X.w) X.A (inplaceOp op v u) (EP X pq σ Q) X.xe s
section
variable{X:Cx}{pos:Pos}
def Im(i:Nat):TG:=λv σ H Q=>Q (σ.set i (some v)) H
theorem OF{i:Nat}{x:Str}(hN:X.N.Nodup)(hi:X.N[i]?=some x)(hx:Loc X.env.scope x)(hf:X.fn x=true\/X.env.scope.names.lookup x=some .local:=by first | exact .inl rfl | exact .inr rfl | assumption):PG X (.Name x pos) (Im i):=by
 intro pq s σ H v u Q I r h;exact A0b (C5 I hN hi hx r (λs' I'=>⟨_,H,I',h⟩) hf)
def TL:TGs:=λvs σ H Q=>vs=[]/\Q σ H
def Lb(t:TG)(u:TGs):TGs:=λvs σ H Q=>∃ v r,vs=v::r/\t v σ H λσ' H'=>u r σ' H' Q
theorem Io:PGs X [] TL:=by
 intro pq s σ H vs us Q I r h;obtain⟨e,h⟩:=h;subst e;cases r;exact A0c ⟨σ,H,I,h⟩
theorem D6{e:Expr}{es:List Expr}{t:TG}{u:TGs}(h1:PG X e t)(h2:PGs X es u)
 (hs:(Z7 (e::es) X.env).map (·.2)=assign e X.env::(Z7 es X.env).map (·.2):=by rfl):PGs X (e::es) (Lb t u):=by
 intro pq s σ H vs us Q I r h;obtain⟨v,vr,e1,h⟩:=h;subst e1;cases r with
 | cons r rr=>
   rw[hs];refine Zi (thn (h1 pq s σ H _ _ _ I r h) λ_ s1 ⟨σ1,H1,I1,q1⟩=>?_);exact h2 pq s1 σ1 H1 _ _ Q I1 rr q1
def TM(K:V5)(n:Nat)(t:TGs):TG:=λv σ H Q=>∃ a xs,v = .ref a/\SqT K H a xs/\xs.length=n/\t xs σ H Q
theorem Lc{es:List Expr}{k:Nat}{t:TGs}{n:Nat}(hc:X.calm=true)(h:PGs X es t)
 (hn:(Z7 es X.env).length=n:=by rfl) (hst:(Z7 es X.env).findIdx? (·.1)=none:=by rfl):PG X (.Tuple es k pos) (TM X.K n t):=by
 intro pq s σ H v u Q I r hw;obtain⟨a,xs,e1,hq,hl,hw⟩:=hw;subst e1;cases r;obtain⟨its,rv,ht,hz⟩:=I.tuple hq;refine assign_Tuple_tuple (I.ok.hd hc) ht (by simp[hn,<-hl,rv.length]) hst λh' hx=>?_;have I1:Inv X pq σ H {s with heap:=h'}:=I.kept (t':=s.toks) λb o e=>hx b o (VO (VJ e)) e;exact h pq _ σ H xs _ Q I1 (by simpa using rv) hw
def OG(to ti:TE)(t:La):TG:=λv σ H Q=>to σ H λo H1=>ti σ H1 λi H2=>t o i v H2 λH3=>Q σ H3
theorem HP{o i:Expr}{to ti:TE}{t:La}(ho:PE X o to)(hi:PE X i ti)(hs:RC X t)
 (ha:∀ v,assign (.Subscript o i pos) X.env v=(do
   let ov <- holding [v] (eval o X.env)
   let iv <- holding [v,ov] (eval i X.env)
   standAt pos
   holding [v,ov,iv] (setItem ov iv v)
   release [v,ov,iv] []):=by intro _;rfl):PG X (.Subscript o i pos) (OG to ti t):=by
 intro pq s σ H v u Q I r h;rw[ha];refine Yf (Yz (thn (ho pq s σ H _ I h) λov s1 ⟨x,H1,I1,r1,q1⟩=>?_));refine Yf (Yz (thn (hi pq s1 σ H1 _ I1 q1) λiv s2 ⟨y,H2,I2,r2,q2⟩=>?_));refine Yf (Ze (Yf (Yz (thn (hs pq s2 σ H2 x y v ov iv u _ I2 r1 r2 r q2) λ_ s3 ⟨H3,I3,q3⟩=>?_))));exact wpAny_release ⟨σ,H3,I3,q3⟩
def HQ(te:TE)(g:TG):TS:=λD σ H=>te σ H λx H1=>g x σ H1 D.nx
theorem HR{tg e:Expr}{te:TE}{g:TG}(he:PE X e te)(hg:PG X tg g)(hs:ZR [tg] e pos.line X.env=pure false:=by rfl)(hw:Yx [tg] e X.env=pure none:=by rfl)
 (h1:(Z7 [tg] X.env).map (·.2)=[assign tg X.env]:=by rfl):PS X (.Assign [tg] e pos) (HQ te g):=by
 intro pq s σ H D I h;refine wpAny_Assign_stores (thn (he pq s σ H _ I h) λv s1 ⟨x,H1,I1,r1,q1⟩=>?_) hs hw;rw[h1];exact thn (hg pq s1 σ H1 x v _ I1 r1 q1) λ_ s2 q=>q
theorem RD{i:Nat}{x:Str}{e:Expr}{te:TE}{pos':Pos}(hN:X.N.Nodup)(hi:X.N[i]?=some x)(hx:Loc X.env.scope x)(he:PE X e te)(hs:ZF e (some (.Name x pos')) pos.line X.env=pure false:=by rfl)(hf:X.fn x=true\/X.env.scope.names.lookup x=some .local:=by first | exact .inl rfl | exact .inr rfl | assumption):
 PS X (.Assign [.Name x pos'] e pos) (HQ te (Im i)):=by
 intro pq s σ H D I h;refine wpAny_Assign_Name (thn (he pq s σ H _ I h) λv s1 ⟨y,H1,I1,r1,q1⟩=>?_) hs;exact C5 I1 hN hi hx r1 (λs2 I2=>⟨_,H1,I2,q1⟩) hf
def TN(i j:Nat)(ta:TA):TS:=λD σ H=>ta σ H λvs H1=>∃ v w,vs=[v,w]/\D.nx ((σ.set i (some v)).set j (some w)) H1
theorem RE{i j:Nat}{x y:Str}{a b:Expr}{ta:TA}{px py pt:Pos}{kt k2 pt2}(hc:X.calm=true)(hN:X.N.Nodup)(hi:X.N[i]?=some x)(hj:X.N[j]?=some y)(hij:i≠j)
 (hx:X.env.scope.names.lookup x=some .local) (hy:X.env.scope.names.lookup y=some .local) (ha:PA X [a,b] ta)
 (hw:Yx [.Tuple [.Name x px,.Name y py] kt pt] (.Tuple [a,b] k2 pt2) X.env=pure (some [x,y]))
 (hs:ZR [.Tuple [.Name x px,.Name y py] kt pt] (.Tuple [a,b] k2 pt2) pos.line X.env=pure false:=by rfl):
 PS X (.Assign [.Tuple [.Name x px,.Name y py] kt pt] (.Tuple [a,b] k2 pt2) pos) (TN i j ta):=by
 intro pq s σ H D I h;rw[exec_Assign_arm];refine Yf (Ze ?_);rw[hs];refine Yf (Yj ?_);rw[iG (by decide)];refine Yf (Tuple_ (thn (ha _ pq s σ H _ I h) λus s1 ⟨vs,H1,I1,r1,q1⟩=>?_));obtain⟨v,w,e1,q1⟩:=q1;subst e1
 obtain⟨u1,u2,rfl,rv,rw'⟩:∃ u1 u2,us=[u1,u2]/\RelV v u1/\RelV w u2:=by
  cases r1 with
  | cons p q=>
    cases q with
    | cons p' q'=>
      cases q';exact⟨_,_,rfl,p,p'⟩
 refine Ys ?_ (by show 2<=Yl;decide);have I2:Inv X pq σ H1 {s1 with heap:=s1.heap.push {cls := .type "tuple",data := .seq [u1,u2].toArray}}:=I1.kept (t':=s1.toks) λb o e=>VE _ e;rw[hw];refine Yf (Yj ?_);show Yk (Ym X.prog X.w) X.A (do rule "assign.swapped-stores";let items <- unpackItems (.ref s1.heap.objs.size) 2 none;A06 [λv=>A0p X.env y v,λv=>A0p X.env x v] items.reverse;pure Flow.next) _ _ _;refine Yf (Zc (Yf (unpackItems_tuple (items:=#[u1,u2]) (I.ok.hd hc) (IsTup.new s1.heap _) λh' hx'=>?_)));have I3:=I2.kept (h':=h') (t':=s1.toks) λb o e=>hx' b o (VO (VJ e)) e;show Yk _ _ (A06 [λv=>A0p X.env y v,λv=>A0p X.env x v] [u2,u1] >>= λ_=>pure Flow.next) _ _ _;refine Yf (Zi (A0q (C5 I3 hN hj (.inl hy) rw' (λs2 I4=>?_) (.inr hy))));refine Zi (A0q (C5 I4 hN hi (.inl hx) rv (λs3 I5=>A0c (Yj ?_)) (.inr hx)));rw[List.set_comm _ _ (Ne.symm hij)]at I5;exact⟨_,H1,I5,q1⟩
def QF(to ti te:TE)(tget:V->V->Hp->VK->Prop)(tip:TIp)(tset:La):TS:=λD σ H=>to σ H λo H1=>ti σ H1 λi H2=>tget o i H2 λx H3=>te σ H3 λy H4=>tip x y H4 λz H5=>tset o i z H5 λH6=>D.nx σ H6
noncomputable def TQ(X:Cx)(t:V->V->Hp->VK->Prop):Prop:=
 ∀(pq:List (Yi×Obj)) (s:Yh) (σ:St) (H:Hp) (o i:V) (ov iv:Yg) (Q:VK),Inv X pq σ H s->RelV o ov->RelV i iv->t o i H Q->
  Yk (Ym X.prog X.w) X.A (getItem ov iv) (EP X pq σ Q) X.xe s
theorem OH{o i e:Expr}{to ti te:TE}{tget:V->V->Hp->VK->Prop}{tip:TIp}{tset:La}{op:ZK}{tpos:Pos}(ho:PE X o to)(hi:PE X i ti)(hg:TQ X tget)(he:PE X e te)(hp:PIp X op tip)(hs:RC X tset)
 (ha:∀ ov iv new,augStore i ov iv new=(do holding [new,ov,iv] (setItem ov iv new);release [new,ov,iv] [];pure .next):=by intros;rfl):PS X (.AugAssign (.Subscript o i tpos) op e pos) (QF to ti te tget tip tset):=by
 intro pq s σ H D I h;refine wpAny_AugAssign_SubscriptAny (thn (ho pq s σ H _ I h) λov s1 ⟨x1,H1,I1,r1,q1⟩=>?_) ha;refine thn (hi pq s1 σ H1 _ I1 q1) λiv s2 ⟨x2,H2,I2,r2,q2⟩=>?_;refine thn (hg pq s2 σ H2 x1 x2 ov iv _ I2 r1 r2 q2) λold s3 ⟨x3,H3,I3,r3,q3⟩=>?_;refine thn (he pq s3 σ H3 _ I3 q3) λv s4 ⟨x4,H4,I4,r4,q4⟩=>?_;refine thn (hp pq s4 σ H4 x3 x4 old v _ I4 r3 r4 q4) λnew s5 ⟨x5,H5,I5,r5,q5⟩=>?_;exact thn (hs pq s5 σ H5 x1 x2 x5 ov iv new _ I5 r1 r2 r5 q5) λ_ s6 ⟨H6,I6,q6⟩=>⟨σ,H6,I6,q6⟩
def ipI(f:Int->Int->Int):TIp:=λx y H Q=>∃ i j,x = .int i/\y = .int j/\Q (.int (f i j)) H
theorem RF:PIp X .Add (ipI λi j=>i+j):=by
 intro pq s σ H x y v u Q I r1 r2 h;obtain⟨i,j,e1,e2,q⟩:=h;subst e1;subst e2;obtain⟨t,rfl⟩:=r1;obtain⟨t',rfl⟩:=r2;exact iadd_int ⟨.int _,H,I.tok _,⟨_,rfl⟩,q⟩
noncomputable def Ld(c:TT)(tb:TS):TS:=λD σ H=>∃ W:Nat->St->Hp->Prop,(∃ m,W m σ H)/\∀ m σ H,W m σ H->
 c σ H λb H1=>if b=true then ∃ N:St->Hp->Prop,(∀ σ' H',N σ' H'->∃ m',m'<m/\W m' σ' H')/\tb {D with nx:=N,ct:=N,bk:=D.nx} σ H1 else D.nx σ H1
theorem Lf{c:Expr}{body:List Stmt}{tc:TT}{tb:TS}(hp:A0h (Ym X.prog X.w) X.A X.env X.xe)(hc:PT X c tc)(hb:PSs X body tb):PS X (.While c body [] pos) (Ld tc tb):=by
 intro pq s σ H D I h;obtain⟨W,⟨m0,w0⟩,turn⟩:=h;refine wpAny_While (codeAny_whileLoop (λn s'=>∃ σ' H',Inv X pq σ' H' s'/\W n σ' H') ?_ m0 ⟨σ,H,I,w0⟩);rintro n s1 ⟨σ1,H1,I1,w1⟩;refine ZA hp (thn (hc pq s1 σ1 H1 _ I1 (turn n σ1 H1 w1)) λb s2 ⟨H2,I2,q2⟩=>?_);cases b with
 | true=>
   obtain⟨N,hN,q2⟩:=q2;rw[iP rfl];refine ZA hp (thn (hb pq s2 σ1 H2 _ I2 q2) λf s3 q3=>?_);cases f with
   | next=>
     obtain⟨σ3,H3,I3,n3⟩:=q3;obtain⟨m',hm,w3⟩:=hN σ3 H3 n3;exact⟨m',hm,σ3,H3,I3,w3⟩
   | cont=>
     obtain⟨σ3,H3,I3,n3⟩:=q3;obtain⟨m',hm,w3⟩:=hN σ3 H3 n3;exact⟨m',hm,σ3,H3,I3,w3⟩
   | brk=>exact q3
   | ret v=>exact q3
 | false=>
   rw[iG VH];exact Zf ⟨σ1,H2,I2,q2⟩
end
structure It where
 go:Nat->Hp->Prop
 yld:Nat->Hp->V->Hp->Prop
 stop:Nat->Hp->Prop
def FpOk(X:Cx)(pq:List (Yi×Obj))(H:Hp)(b:Yi):Prop:=
 H b=none/\b≠X.env.locals/\b∉X.fs/\(b∈X.ex\/X.s₀.heap.objs.size<=b)/\(∀ x c,X.env.cells.lookup x=some c->c≠b)/\∀ p∈X.pn++pq,p.1≠b
theorem Inv.fpOk{X:Cx}{pq:List (Yi×Obj)}{σ:St}{H H':Hp}{s:Yh}{b:Yi}(I:Inv X pq σ H s)(hb:s.heap.objs.size<=b)(hn:H' b=none):FpOk X pq H' b:=by
 refine⟨hn,Nat.ne_of_gt (Vc I.lt hb),I.nofs hb,.inr (Ve I.sz hb),λx c e z=>?_,λp hp z=>?_⟩
 ·obtain⟨v,q⟩:=I.cell x c e;exact absurd (Vc q.lt (by rw[z];exact hb)) (Wj _)
 ·exact absurd (Vc (VJ (I.pin p hp).1) (by rw[z];exact hb)) (Wj _)
structure Turn(P:Yn)(w:Yq)(K:V5)(tg:Expr)(J:It)(fp:List Yi)(it:Yi)(tn:Nat->Heap->Prop):Prop where
 mem:it∈fp
 obj:∀ i h,tn i h->∀ b∈fp,∃ o,h.get? b=some o/\∀ v,o.data ≠ .cell v
 keep:∀ i h h',tn i h->(∀ b∈fp,∀ o,h.get? b=some o->h'.get? b=some o)->tn i h'
 item:∀(X:Cx),X.prog=P->X.w=w->X.K=K->X.calm=true->∀(i:Nat) (pq:List (Yi×Obj)) (s:Yh) (σ:St) (H:Hp) (E:Yg->Yh->Prop),Inv X pq σ H s->(∀ b∈fp,FpOk X pq H b)->tn i s.heap->J.go i H->
  Yk (Ym P w) X.A (pyNext (.ref it)) (λr s1=>∃ u,r=some u/\
   Yk (Ym P w) X.A (ZU tg (.ref it) u) (λ_ s2=>∃ x H',Inv X pq σ H' s2/\RelV x u/\J.yld i H x H'/\tn (i+1) s2.heap/\∀ b∈fp,H' b=none) E s1) E s
 done:∀(X:Cx),X.prog=P->X.w=w->X.K=K->X.calm=true->∀(i:Nat) (pq:List (Yi×Obj)) (s:Yh) (σ:St) (H:Hp) (E:Yg->Yh->Prop),Inv X pq σ H s->(∀ b∈fp,FpOk X pq H b)->tn i s.heap->J.stop i H->
   Yk (Ym P w) X.A (pyNext (.ref it)) (λr s1=>r=none/\Inv X pq σ H s1) E s
 self:∀(A:Yt) (i:Nat) (s:Yh) (Q:Yg->Yh->Prop) (E:Yg->Yh->Prop),tn i s.heap->Q (.ref it) s->Yk (Ym P w) A (pyIter (.ref it)) Q E s
abbrev TI:=St->Hp->(It->Hp->Prop)->Prop
noncomputable def PIE(X:Cx)(pq:List (Yi×Obj))(σ:St)(tg:Expr)(R:It->Hp->Prop)(itv:Yg)(s2:Yh):Prop:=
 ∃(it:Yi) (fp:List Yi) (tn:Nat->Heap->Prop) (J:It) (H':Hp),itv = .ref it/\Inv X pq σ H' s2/\Turn X.prog X.w X.K tg J fp it tn/\tn 0 s2.heap/\(∀ b∈fp,FpOk X pq H' b)/\R J H'
noncomputable def PI(X:Cx)(tg iter:Expr)(wi:TI):Prop:=
 ∀(pq:List (Yi×Obj)) (s:Yh) (σ:St) (H:Hp) (R:It->Hp->Prop),Inv X pq σ H s->wi σ H R->
  Yk (Ym X.prog X.w) X.A (eval iter X.env) (λv s1=>Yk (Ym X.prog X.w) X.A (pyIter v) (PIE X pq σ tg R) X.xe s1) X.xe s
theorem Lg{M:Model}{A:Yt}{E:Yg->Yh->Prop}{s:Yh}{tg:Expr}{it:Yi}{u:Yg}{o:Obj}{n:String}{vs:Array Yg}{Q:Unit->Yh->Prop}(ho:s.heap.get? it=some o)(hc:o.cls = .type n)(hd:o.data = .fields vs)
 (hn:["enumerate","zip","dict_itemiterator","dict_reverseitemiterator","odict_iterator","itertools.zip_longest","itertools.pairwise"].contains n=false) (hQ:Q () s):Yk M A (ZU tg (.ref it) u) Q E s:=by
 unfold ZU
 cases tg<;>first
  | exact Yj hQ
  | (cases u<;>first
      | exact Yj hQ
      | (refine Yf (wpAny_load ho ?_)
         rw[hc,hd];show Yk M A (if (["enumerate","zip","dict_itemiterator","dict_reverseitemiterator","odict_iterator","itertools.zip_longest","itertools.pairwise"].contains n&&vs[0]? == some (rawInt _))=true then _ else _) Q E s;rw[iG (by intro h;rw[hn,YN]at h;cases h)];exact Yj hQ))
def Itl(K:V5)(a:Yi):It:=
 ⟨λi H=>∃ xs x,SqL K H a xs/\xs[i]?=some x,λi H x H'=>H'=H/\∀ xs,SqL K H a xs->xs[i]?=some x,λi H=>∃ xs,SqL K H a xs/\xs.length<=i⟩
def Itt(K:V5)(a:Yi):It:=
 ⟨λi H=>∃ xs x,SqT K H a xs/\xs[i]?=some x,λi H x H'=>H'=H/\∀ xs,SqT K H a xs->xs[i]?=some x,λi H=>∃ xs,SqT K H a xs/\xs.length<=i⟩
def Itr(lo:Int)(n:Nat):It:=⟨λi _=>i<n,λi H x H'=>H'=H/\x = .int (lo+i),λi _=>n<=i⟩
theorem K7{P:Yn}{w:Yq}{K:V5}{tg:Expr}(a it:Yi):Turn P w K tg (Itl K a) [it] it (λi h=>h.IsListIter it a i) where
 mem:=by simp
 obj:=λi h st b hb=>by
  have e:b=it:=by simpa using hb
  subst e;obtain⟨o,e,c,d⟩:=st;exact⟨o,e,λv z=>by rw[d]at z;cases z⟩
 keep:=λi h h' st k=>st.at λo e=>k it (by simp) o e
 item:=by
  intro X hP hw hK hc i pq s σ H E I hf st hg;subst hP hw hK;obtain⟨xs,x,hq,hx⟩:=hg;obtain⟨its,rv,p,hz⟩:=I.list hq;obtain⟨u,hu,ru⟩:=rv.get hx;obtain⟨f0,f1,f2,f3,f4,f5⟩:=hf it (by simp);refine wpAny_pyNext_list_item st p.isList (x:=u) (by simpa using hu) λh' st' sb=>?_;have I1:Inv X pq σ H {s with heap:=h'}:=I.turned (t':=s.toks) (λb o hb e=>(sb.2 b hb).trans e) f0 f1 f3 f4 f5;obtain⟨o,e,c,d⟩:=id st';exact⟨u,rfl,Lg (s:={s with heap:=h'}) e c d (by decide) ⟨x,H,I1,ru,⟨rfl,λys hy=>by rw[I.list_inj hy hq];exact hx⟩,st',λb hb=>(hf b hb).1⟩⟩
 done:=by
   intro X hP hw hK hc i pq s σ H E I hf st hg;subst hP hw hK;obtain⟨xs,hq,hx⟩:=hg;obtain⟨its,rv,p,hz⟩:=I.list hq;obtain⟨f0,f1,f2,f3,f4,f5⟩:=hf it (by simp);have hl:=rv.length;exact wpAny_pyNext_list_end (I.ok.hd hc) st p.isList (by simp;omega) λh' eb=>⟨rfl,I.turned (t':=s.toks) (λb o hb e=>eb b o hb e) f0 f1 f3 f4 f5⟩
 self:=λ_ _ _ _ _ st h=>wpAny_pyIter_listiter st h
theorem HS{P:Yn}{w:Yq}{K:V5}{tg:Expr}(a it:Yi):Turn P w K tg (Itt K a) [it] it (λi h=>h.IsTupleIter it a i) where
 mem:=by simp
 obj:=λi h st b hb=>by
  have e:b=it:=by simpa using hb
  subst e;obtain⟨o,e,c,d⟩:=st;exact⟨o,e,λv z=>by rw[d]at z;cases z⟩
 keep:=λi h h' st k=>st.at λo e=>k it (by simp) o e
 item:=by
  intro X hP hw hK hc i pq s σ H E I hf st hg;subst hP hw hK;obtain⟨xs,x,hq,hx⟩:=hg;obtain⟨its,rv,p,hz⟩:=I.tuple hq;obtain⟨u,hu,ru⟩:=rv.get hx;obtain⟨f0,f1,f2,f3,f4,f5⟩:=hf it (by simp);refine wpAny_pyNext_tuple_item st (show s.heap.IsTuple a its.toArray from p) (x:=u) (by simpa using hu) λh' st' sb=>?_;have I1:Inv X pq σ H {s with heap:=h'}:=I.turned (t':=s.toks) (λb o hb e=>(sb.2 b hb).trans e) f0 f1 f3 f4 f5;obtain⟨o,e,c,d⟩:=id st';exact⟨u,rfl,Lg (s:={s with heap:=h'}) e c d (by decide) ⟨x,H,I1,ru,⟨rfl,λys hy=>by rw[I.tuple_inj hy hq];exact hx⟩,st',λb hb=>(hf b hb).1⟩⟩
 done:=by
   intro X hP hw hK hc i pq s σ H E I hf st hg;subst hP hw hK;obtain⟨xs,hq,hx⟩:=hg;obtain⟨its,rv,p,hz⟩:=I.tuple hq;obtain⟨f0,f1,f2,f3,f4,f5⟩:=hf it (by simp);have hl:=rv.length;exact wpAny_pyNext_tuple_end (I.ok.hd hc) st (show s.heap.IsTuple a its.toArray from p) (by simp;omega) λh' eb=>⟨rfl,I.turned (t':=s.toks) (λb o hb e=>eb b o hb e) f0 f1 f3 f4 f5⟩
 self:=λ_ _ _ _ _ st h=>wpAny_pyIter_tupleiter st h
theorem HU{P:Yn}{w:Yq}{K:V5}{tg:Expr}(it:Yi)(lo:Int)(n:Nat):Turn P w K tg (Itr lo n) [it] it (λi h=>IsRangeIter h it (lo+(i:Nat) * 1) ((n:Int) - (i:Nat)) 1) where
 mem:=by simp
 obj:=λi h st b hb=>by
  have e:b=it:=by simpa using hb
  subst e
  exact⟨_,st,λv z=>by
   have z':Data.fields _=Data.cell v:=z;cases z'⟩
 keep:=λi h h' st k=>k it (by simp) _ st
 item:=by
  intro X hP hw hK hc i pq s σ H E I hf st hg;subst hP hw hK;obtain⟨f0,f1,f2,f3,f4,f5⟩:=hf it (by simp);have W:=Walks.range (prog:=X.prog) (w:=X.w) (I.ok.hd hc) it lo 1 n;refine W.item i s _ _ hg st λv h' tk hv st' kk=>?_;obtain⟨t,rfl⟩:=hv;have I1:Inv X pq σ H {s with heap:=h',toks:=tk}:=I.turned (λb o hb e=>kk b o (by simpa using hb) e) f0 f1 f3 f4 f5;refine⟨_,rfl,Lg (s:={s with heap:=h',toks:=tk}) (n:="range_iterator") st' rfl rfl (by decide) ⟨.int (lo+i),H,I1,⟨t,?_⟩,⟨rfl,rfl⟩,st',λb hb=>(hf b hb).1⟩⟩;rw[Int.mul_one]
 done:=by
   intro X hP hw hK hc i pq s σ H E I hf st hg;subst hP hw hK;obtain⟨f0,f1,f2,f3,f4,f5⟩:=hf it (by simp);exact wpAny_pyNext_range_end (I.ok.hd hc) st (by have:n<=i:=hg;omega) λh' eb=>⟨rfl,I.turned (t':=s.toks) (λb o hb e=>eb b o hb e) f0 f1 f3 f4 f5⟩
 self:=λ_ _ _ _ _ st h=>wpAny_pyIter_rangeiter st h
section
variable{X:Cx}{tg:Expr}
theorem FY{pq:List (Yi×Obj)}{σ:St}{H:Hp}{s:Yh}{R:It->Hp->Prop}{E:Yg->Yh->Prop}{lo hi:Int}{t u v:Tok}{tk:Nat}(I:Inv X pq σ H s)(h1:-(2 ^ 62)<=lo)(h2:lo<2 ^ 62)(h3:-(2 ^ 62)<=hi)(h4:hi<2 ^ 62)
 (q:R (Itr lo (hi - lo).toNat) H):Yk (Ym X.prog X.w) X.A (pyIter (.ref s.heap.objs.size)) (PIE X pq σ tg R) E {s with heap:=s.heap.push {cls := .type "range",data := .fields #[.int lo t,.int hi u,.int 1 v]},toks:=tk}:=by
 refine wpAny_pyIter_range (IsRange.new ..) (small_one h1 h2 h3 h4) ?_;have I1:Inv X pq σ H {s with heap:=s.heap.push {cls := .type "range",data := .fields #[.int lo t,.int hi u,.int 1 v]},toks:=tk}:=I.kept λb o e=>VE _ e
 refine⟨(s.heap.push {cls := .type "range",data := .fields #[.int lo t,.int hi u,.int 1 v]}).objs.size,[(s.heap.push {cls := .type "range",data := .fields #[.int lo t,.int hi u,.int 1 v]}).objs.size],_,_,H,rfl,
  I1.kept (t':=tk) λb o e=>VE _ e,HU _ lo (hi - lo).toNat,?_,λb hb=>?_,q⟩
 ·have e1:lo+((0:Nat):Int) * 1=lo:=by simp
  have e2:(((hi - lo).toNat:Nat):Int) - ((0:Nat):Int)=Builtin.Range.rangeSize lo hi 1:=by rw[rangeSize_one];split<;>omega
  show IsRangeIter _ _ (lo+((0:Nat):Int) * 1) ((((hi - lo).toNat:Nat):Int) - ((0:Nat):Int)) 1;rw[e1,e2];exact VR _ rfl
 ·have e:b=(s.heap.push {cls := .type "range",data := .fields #[.int lo t,.int hi u,.int 1 v]}).objs.size:=by simpa using hb
  subst e;exact I1.fpOk (VF _) (I1.hok.fresh (VF _))
def TR(ta:TA):TI:=λσ H R=>ta σ H λvs H1=>∃ j:Int,vs=[.int j] /\ -(2 ^ 62)<=j/\j<2 ^ 62/\R (Itr 0 j.toNat) H1
def TU(ta:TA):TI:=λσ H R=>ta σ H λvs H1=>∃ i j:Int,vs=[.int i,.int j]/\(-(2 ^ 62)<=i/\i<2 ^ 62 /\ -(2 ^ 62)<=j/\j<2 ^ 62)/\R (Itr i (j - i).toNat) H1
theorem K8{a:Expr}{ta:TA}{p pos:Pos}(hg:Gl X "range")(hm:X.mg "range"=none)(ha:PA X [a] ta)(hs:Yr [a] X.env=[(false,eval a X.env)]:=by rfl):PI X tg (.Call (.Name "range" p) [a] [] pos) (TR ta):=by
 intro pq s σ H R I h;refine Call_ (BF I hg hm boot_range (PyProof.Rows.callWith_type1 (thn (ha pos pq s σ H _ I h) λus s1 ⟨vs,H1,I1,r1,q1⟩=>?_) hs rfl));obtain⟨j,e,q1,q2,q⟩:=q1;subst e;cases r1 with
 | cons r rr=>
   cases rr;obtain⟨t,rfl⟩:=r;exact call_range_1 (FY I1 (by omega) (by omega) q1 q2 (by simpa using q))
theorem K9{a b:Expr}{ta:TA}{p pos:Pos}(hg:Gl X "range")(hm:X.mg "range"=none)(ha:PA X [a,b] ta)(hs:Yr [a,b] X.env=[(false,eval a X.env),(false,eval b X.env)]:=by rfl)(hs2:Yr [b] X.env=[(false,eval b X.env)]:=by rfl):
 PI X tg (.Call (.Name "range" p) [a,b] [] pos) (TU ta):=by
 intro pq s σ H R I h;refine Call_ (BF I hg hm boot_range (PyProof.Rows.callWith_type1 (thn (ha pos pq s σ H _ I h) λus s1 ⟨vs,H1,I1,r1,q1⟩=>?_) (by rw[hs,hs2]) (by rw[hs2];rfl)));obtain⟨i,j,e,⟨q1,q2,q3,q4⟩,q⟩:=q1;subst e;cases r1 with
 | cons r rr=>
   cases rr with
   | cons r' rr=>
     cases rr;obtain⟨t,rfl⟩:=r;obtain⟨t',rfl⟩:=r';exact call_range_2 (FY I1 q1 q2 q3 q4 q)
noncomputable def TV(wi:TI)(g:TG)(tb:TS):TS:=λD σ H=>wi σ H λJ H1=>∃ W:Nat->Nat->St->Hp->Prop,(∃ m,W 0 m σ H1)/\∀ i m σ H,W i m σ H->
 (J.stop i H/\D.nx σ H)\/(J.go i H/\∃ N:St->Hp->Prop,(∀ σ' H',N σ' H'->∃ m',m'<m/\W (i+1) m' σ' H')/\∀ x H',J.yld i H x H'->g x σ H' λσ2 H2=>tb {D with nx:=N,ct:=N,bk:=D.nx} σ2 H2)
def Bs(fp:List Yi)(h:Heap):List (Yi×Obj):=fp.filterMap λb=>(h.get? b).map λo=>(b,o)
theorem Ay{fp:List Yi}{h:Heap}{b:Yi}{o:Obj}(hb:b∈fp)(e:h.get? b=some o):(b,o)∈Bs fp h:=Y0.mpr ⟨b,hb,by rw[e];rfl⟩
theorem KA{fp:List Yi}{h:Heap}{p:Yi×Obj}(hp:p∈Bs fp h):p.1∈fp/\h.get? p.1=some p.2:=by
 obtain⟨b,hb,e⟩:=Y0.mp hp;cases q:h.get? b with
 | none=>rw[q]at e;cases e
 | some o=>
   rw[q]at e;have e':(b,o)=p:=oj e;subst e';exact⟨hb,q⟩
theorem Inv.pinned{pq:List (Yi×Obj)}{σ:St}{H:Hp}{s:Yh}{fp:List Yi}(I:Inv X pq σ H s)(hf:∀ b∈fp,FpOk X pq H b)(ho:∀ b∈fp,∃ o,s.heap.get? b=some o/\∀ v,o.data ≠ .cell v):Inv X (pq++Bs fp s.heap) σ H s:=
 I.pins_of λp hp=>(VU.mp hp).elim (λz=>I.pin p (Vv _ z)) λz=>by
  obtain⟨hb,e⟩:=KA z;obtain⟨f0,f1,f2,_⟩:=hf p.1 hb;obtain⟨o,e',d⟩:=ho p.1 hb;rw[e]at e';cases e';exact⟨e,f0,f1,f2,d⟩
theorem Inv.unpinned{pq pl:List (Yi×Obj)}{σ:St}{H:Hp}{s:Yh}(I:Inv X (pq++pl) σ H s):Inv X pq σ H s:=I.pins_of λp hp=>I.pin p (Vv _ (We _ hp))
theorem RG{iter:Expr}{body:List Stmt}{wi:TI}{g:TG}{tb:TS}{pos:Pos}(hp:A0h (Ym X.prog X.w) X.A X.env X.xe)(hc:X.calm=true)(hi:PI X tg iter wi)(hg:PG X tg g)(hb:PSs X body tb)
 (hs:∀ x,ZY iter X.env x=pure x:=by intro _;rfl):PS X (.For tg iter body [] pos) (TV wi g tb):=by
 intro pq s σ H D I h;refine wpAny_For (thn (hi pq s σ H _ I h) λv s1 h1=>thn h1 λitv s2 h2=>?_) hs;obtain⟨it,fp,tn,J,H2,e,I2,T,st2,f2,W,⟨m0,w0⟩,turn⟩:=h2;subst e;have stat:∀{H':Hp},(∀ b∈fp,H' b=none)->∀ b∈fp,FpOk X pq H' b:=λhn b hb=>⟨hn b hb,(f2 b hb).2⟩
 refine codeAny_forLoop_any (λn s'=>∃ i σ' H',Inv X pq σ' H' s'/\tn i s'.heap/\(∀ b∈fp,H' b=none)/\W i n σ' H') ?_ m0 ⟨0,σ,H2,I2,st2,λb hb=>(f2 b hb).1,w0⟩;rintro n s3 ⟨i,σ3,H3,I3,st3,fr3,w3⟩;rcases turn i n σ3 H3 w3 with⟨stop,qn⟩ | ⟨go,N,hN,step⟩
 ·refine ZA hp (thn (T.done X rfl rfl rfl hc i pq s3 σ3 H3 X.xe I3 (stat fr3) st3 stop) λr s4 ⟨hr,I4⟩=>?_);subst hr;exact Zf ⟨σ3,H3,I4,qn⟩
 ·refine ZA hp (thn (T.item X rfl rfl rfl hc i pq s3 σ3 H3 X.xe I3 (stat fr3) st3 go) λr s4 ⟨u,hr,h4⟩=>?_);subst hr;refine ZA hp (thn h4 λ_ s5 ⟨x,H5,I5,r5,y5,st5,fr5⟩=>?_);have I5':=I5.pinned (stat fr5) (T.obj _ _ st5);refine ZA hp (thn (hg _ s5 σ3 H5 x u _ I5' r5 (step x H5 y5)) λ_ s6 ⟨σ6,H6,I6,q6⟩=>?_);refine ZA hp (thn (hb _ s6 σ6 H6 _ I6 q6) λf s7 q7=>?_)
  have again:∀{σ7:St} {H7:Hp},Inv X (pq++Bs fp s5.heap) σ7 H7 s7->N σ7 H7->∃ m,m<n/\∃ i σ' H',Inv X pq σ' H' s7/\tn i s7.heap/\(∀ b∈fp,H' b=none)/\W i m σ' H':=λ{σ7 H7} I7 n7=>by
   obtain⟨m',hm,w7⟩:=hN σ7 H7 n7;refine⟨m',hm,i+1,σ7,H7,I7.unpinned,T.keep _ _ _ st5 λb hb o e=>(I7.pin (b,o) (Vv _ (Vv _ (Ay hb e)))).1,λb hb=>?_,w7⟩;obtain⟨o,e,d⟩:=T.obj _ _ st5 b hb;exact(I7.pin (b,o) (Vv _ (Vv _ (Ay hb e)))).2.1
  cases f with
  | next=>obtain⟨σ7,H7,I7,n7⟩:=q7;exact again I7 n7
  | cont=>obtain⟨σ7,H7,I7,n7⟩:=q7;exact again I7 n7
  | brk=>obtain⟨σ7,H7,I7,q7⟩:=q7;exact⟨σ7,H7,I7.unpinned,q7⟩
  | ret v=>obtain⟨x7,σ7,H7,I7,r7,q7⟩:=q7;exact⟨x7,σ7,H7,I7.unpinned,r7,q7⟩
end
abbrev R2:=V->V->Hp->VK->Prop
noncomputable def OpR(X:Cx)(f:Yg->Yg->Sem Yg)(r:R2):Prop:=
 ∀(pq:List (Yi×Obj)) (s:Yh) (σ:St) (H:Hp) (x y:V) (v u:Yg) (Q:VK),Inv X pq σ H s->RelV x v->RelV y u->r x y H Q->
  Yk (Ym X.prog X.w) X.A (f v u) (EP X pq σ Q) X.xe s
noncomputable def UnR(X:Cx)(f:Yg->Sem Yg)(r:V->Hp->VK->Prop):Prop:=
 ∀(pq:List (Yi×Obj)) (s:Yh) (σ:St) (H:Hp) (x:V) (v:Yg) (Q:VK),Inv X pq σ H s->RelV x v->r x H Q->
  Yk (Ym X.prog X.w) X.A (f v) (EP X pq σ Q) X.xe s
noncomputable def CallR(X:Cx)(f:Yg)(r:List V->Hp->VK->Prop):Prop:=
 ∀(pq:List (Yi×Obj)) (s:Yh) (σ:St) (H:Hp) (xs:List V) (us:List Yg) (Q:VK),Inv X pq σ H s->Vals xs us->r xs H Q->
  Yk (Ym X.prog X.w) X.A (call f us) (EP X pq σ Q) X.xe s
noncomputable def Um(X:Cx)(r:V->Hp->(Bool->Hp->Prop)->Prop):Prop:=
 ∀(pq:List (Yi×Obj)) (s:Yh) (σ:St) (H:Hp) (x:V) (v:Yg) (Q:Bool->Hp->Prop),Inv X pq σ H s->RelV x v->r x H Q->
  Yk (Ym X.prog X.w) X.A (truthy v) (TP X pq σ Q) X.xe s
def tOp(r:R2)(ta tb:TE):TE:=λσ H Q=>ta σ H λx H1=>tb σ H1 λy H2=>r x y H2 Q
def tUn(r:V->Hp->VK->Prop)(ta:TE):TE:=λσ H Q=>ta σ H λx H1=>r x H1 Q
def rI(C:Int->Int->Prop)(g:Int->Int->V):R2:=λx y H Q=>∃ i j,x = .int i/\y = .int j/\C i j/\Q (g i j) H
def rI0(g:Int->Int->V):R2:=λx y H Q=>∃ i j,x = .int i/\y = .int j/\Q (g i j) H
def rU(g:Int->V):V->Hp->VK->Prop:=λx H Q=>∃ i,x = .int i/\Q (g i) H
section
variable{X:Cx}{a b c:Expr}{ta tb tc:TE}{pos:Pos}
theorem RH(ha:PE X a ta)(hb:PE X b tb){pq:List (Yi×Obj)}{s:Yh}{σ:St}{H:Hp}{R:V->V->Hp->Prop}(I:Inv X pq σ H s)
 (h:ta σ H λx H1=>tb σ H1 λy H2=>R x y H2) {Q:Yg->Yh->Prop} {f:Yg->Yg->Sem Yg}
 (hf:∀ v u s2 x y H2,Inv X pq σ H2 s2->RelV x v->RelV y u->R x y H2->Yk (Ym X.prog X.w) X.A (f v u) Q X.xe s2):
 Yk (Ym X.prog X.w) X.A (eval a X.env) (λv s₁=>Yk (Ym X.prog X.w) X.A (eval b X.env) (λu s₂=>Yk (Ym X.prog X.w) X.A (f v u) Q X.xe s₂) X.xe s₁) X.xe s:=by
 refine thn (ha pq s σ H _ I h) λv s1 ⟨x,H1,I1,r1,q1⟩=>?_;refine thn (hb pq s1 σ H1 _ I1 q1) λu s2 ⟨y,H2,I2,r2,q2⟩=>?_;exact hf v u s2 x y H2 I2 r1 r2 q2
theorem TW{op:ZK}{r:R2}(ho:OpR X (ZS op) r)(ha:PE X a ta)(hb:PE X b tb):PE X (.BinOp a op b pos) (tOp r ta tb):=by
 intro pq s σ H Q I h;exact wpAny_BinOp (RH ha hb I h λv u s2 x y H2 I2 rx ry q=>ho pq s2 σ H2 x y v u Q I2 rx ry q)
theorem TX{op:UnaryOp}{r:V->Hp->VK->Prop}(ho:UnR X (unaryOp op) r)(ha:PE X a ta):PE X (.UnaryOp op a pos) (tUn r ta):=by
 intro pq s σ H Q I h;exact UnaryOp_ (thn (ha pq s σ H _ I h) λv s1 ⟨x,H1,I1,r1,q1⟩=>ho pq s1 σ H1 x v Q I1 r1 q1)
theorem opI{f:Yg->Yg->Sem Yg}{C:Int->Int->Prop}{g:Int->Int->Int}
 (rule:∀(i j:Int) (t u:Tok) (s:Yh) (Q:Yg->Yh->Prop) (E:Yg->Yh->Prop),C i j->Q (.int (g i j) s.toks) {s with toks:=s.toks+1}->Yk (Ym X.prog X.w) X.A (f (.int i t) (.int j u)) Q E s):
 OpR X f (rI C λi j => .int (g i j)):=by
 intro pq s σ H x y v u Q I rx ry h;obtain⟨i,j,rfl,rfl,hc,q⟩:=h;obtain⟨t,rfl⟩:=rx;obtain⟨t',rfl⟩:=ry;exact rule i j t t' s _ _ hc ⟨.int (g i j),H,I.tok _,⟨_,rfl⟩,q⟩
theorem TY{f:Yg->Yg->Sem Yg}{g:Int->Int->Int}
 (rule:∀(i j:Int) (t u:Tok) (s:Yh) (Q:Yg->Yh->Prop) (E:Yg->Yh->Prop),Q (.int (g i j) s.toks) {s with toks:=s.toks+1}->Yk (Ym X.prog X.w) X.A (f (.int i t) (.int j u)) Q E s):
 OpR X f (rI0 λi j => .int (g i j)):=by
 intro pq s σ H x y v u Q I rx ry h;obtain⟨i,j,rfl,rfl,q⟩:=h;obtain⟨t,rfl⟩:=rx;obtain⟨t',rfl⟩:=ry;exact rule i j t t' s _ _ ⟨.int (g i j),H,I.tok _,⟨_,rfl⟩,q⟩
theorem OI{f:Yg->Yg->Sem Yg}{g:Int->Int->Bool}
 (rule:∀(i j:Int) (t u:Tok) (s:Yh) (Q:Yg->Yh->Prop) (E:Yg->Yh->Prop),Q (.bool (g i j)) s->Yk (Ym X.prog X.w) X.A (f (.int i t) (.int j u)) Q E s):
 OpR X f (rI0 λi j => .bl (g i j)):=by
 intro pq s σ H x y v u Q I rx ry h;obtain⟨i,j,rfl,rfl,q⟩:=h;obtain⟨t,rfl⟩:=rx;obtain⟨t',rfl⟩:=ry;exact rule i j t t' s _ _ ⟨.bl (g i j),H,I,rfl,q⟩
def TZ(i j:Int):Prop:=0<j/\j<1073741824
def Ta(i j:Int):Prop:=0<=j/\j<=1000000/\i.natAbs<2 ^ 64
def CMul(i j:Int):Prop:=(-(2 ^ 64)<i/\i<2 ^ 64)\/(-(2 ^ 64)<j/\j<2 ^ 64)
theorem CMul.ok{i j:Int}(h:CMul i j):IntMulOk i j:=by
 rcases h with⟨h1,h2⟩ | ⟨h1,h2⟩
 ·exact .of_left (intBits_le_64 h1 h2)
 ·exact .of_right (intBits_le_64 h1 h2)
theorem op_add:OpR X (ZS .Add) (rI0 λi j => .int (i+j)):=TY λ_ _ _ _ _ _ _ q=>add_int q
theorem RI:OpR X (ZS .Sub) (rI0 λi j => .int (i - j)):=TY λ_ _ _ _ _ _ _ q=>sub_int q
theorem op_mul:OpR X (ZS .Mult) (rI CMul λi j => .int (i * j)):=opI λ_ _ _ _ _ _ _ hc q=>mul_int q hc.ok
theorem OJ:OpR X (ZS .FloorDiv) (rI TZ λi j => .int (i / j)):=opI λi j _ _ _ _ _ hc q=>by
 have h1:(0:Int)<j:=hc.1;have h2:j<1073741824:=hc.2;exact floordiv_int (by omega) (by rw[Int.fdiv_eq_ediv_of_nonneg i (by omega)];exact q) (.inl (PyProof.noPylong_small (by omega)))
theorem RJ:OpR X (ZS .Mod) (rI (λ_ j=>0<j) λi j => .int (i % j)):=opI λi j _ _ _ _ _ hc q=>by
 have h1:(0:Int)<j:=hc;exact mod_int' (by omega) (by rw[Int.fmod_eq_emod_of_nonneg i (by omega)];exact q)
theorem RK:OpR X (ZS .Pow) (rI Ta λi j => .int (i ^ j.toNat)):=opI λ_ _ _ _ _ _ _ hc q=>pow_int_small hc.1 hc.2.1 hc.2.2 q
theorem unI{f:Yg->Sem Yg}{g:Int->Int}
 (rule:∀(i:Int) (t:Tok) (s:Yh) (Q:Yg->Yh->Prop) (E:Yg->Yh->Prop),Q (.int (g i) s.toks) {s with toks:=s.toks+1}->Yk (Ym X.prog X.w) X.A (f (.int i t)) Q E s):
 UnR X f (rU λi => .int (g i)):=by
 intro pq s σ H x v Q I rx h;obtain⟨i,rfl,q⟩:=h;obtain⟨t,rfl⟩:=rx;exact rule i t s _ _ ⟨.int (g i),H,I.tok _,⟨_,rfl⟩,q⟩
theorem RL:UnR X (unaryOp .USub) (rU λi => .int (-i)):=unI λ_ _ _ _ _ q=>neg_int q
end
def RM:V->V->Bool
 | .non,.non=>true | .non,.int _=>true | .int _,.non=>true | .non,.bl _=>true | .bl _,.non=>true | .non,.str _=>true | .str _,.non=>true
 | .int _,.int _=>true | .bl _,.bl _=>true | .str _,.str _=>true | .byt _,.byt _=>true
 | .int _,.str _=>true | .str _,.int _=>true | .bl _,.str _=>true | .str _,.bl _=>true
 | _,_=>false
def rEq:R2:=λx y H Q=>RM x y=true/\Q (.bl (decide (x=y))) H
def rNe:R2:=λx y H Q=>RM x y=true/\Q (.bl (!decide (x=y))) H
theorem Ip{i j:Int}:decide (V.int i=V.int j)=(i == j):=by
 rw[Vo];simp
theorem Lh{i j:Bool}:decide (V.bl i=V.bl j)=(i == j):=by
 rw[Vo];simp
theorem Iq{i j:Str}:decide (V.str i=V.str j)=(i == j):=by
 rw[Vo];simp
theorem Ir{i j:Array UInt8}:decide (V.byt i=V.byt j)=(i.toList == j.toList):=by
 rw[Vo];cases i;cases j;simp
section
variable{X:Cx}{a b c:Expr}{ta tb tc:TE}{pos:Pos}
theorem j8{pq:List (Yi×Obj)}{σ:St}{H:Hp}{s:Yh}{Q:VK}{k k':Bool}(I:Inv X pq σ H s)(q:Q (.bl k) H)(e:k=k'):EP X pq σ Q (.bool k') s:=by
 subst e;exact⟨.bl k,H,I,rfl,q⟩
theorem op_eq:OpR X (Yv .Eq) rEq:=by
 intro pq s σ H x y v u Q I rx ry h;obtain⟨hs,q⟩:=h;cases x with
 | non=>
   cases rx;cases y with
   | non=>cases ry;exact PySem.EqNone.eq_none_none (j8 I q (by simp))
   | bl j=>cases ry;exact PySem.EqNone.eq_none_bool (j8 I q (by simp))
   | int j=>obtain⟨t',rfl⟩:=ry;exact PySem.EqNone.eq_none_int (j8 I q (by simp))
   | str j=>obtain⟨t',rfl⟩:=ry;exact PySem.EqNone.eq_none_str (j8 I q (by simp))
   | _=>exact absurd (show false=true from hs) VH
 | bl i=>
   cases rx;cases y with
   | non=>cases ry;exact PySem.EqNone.eq_bool_none (j8 I q (by simp))
   | bl j=>cases ry;exact eq_bool (j8 I q Lh)
   | str j=>obtain⟨t',rfl⟩:=ry;exact PySem.EqMixed.eq_bool_str (j8 I q (by simp))
   | _=>exact absurd (show false=true from hs) VH
 | int i=>
   obtain⟨t,rfl⟩:=rx;cases y with
   | non=>cases ry;exact PySem.EqNone.eq_int_none (j8 I q (by simp))
   | int j=>obtain⟨t',rfl⟩:=ry;exact eq_int (j8 I q Ip)
   | str j=>obtain⟨t',rfl⟩:=ry;exact PySem.EqMixed.eq_int_str (j8 I q (by simp))
   | _=>exact absurd (show false=true from hs) VH
 | str i=>
   obtain⟨t,rfl⟩:=rx;cases y with
   | non=>cases ry;exact PySem.EqNone.eq_str_none (j8 I q (by simp))
   | bl j=>cases ry;exact PySem.EqMixed.eq_str_bool (j8 I q (by simp))
   | int j=>obtain⟨t',rfl⟩:=ry;exact PySem.EqMixed.eq_str_int (j8 I q (by simp))
   | str j=>obtain⟨t',rfl⟩:=ry;exact eq_str (j8 I q Iq)
   | _=>exact absurd (show false=true from hs) VH
 | byt i=>
   obtain⟨t,rfl⟩:=rx;cases y with
   | byt j=>obtain⟨t',rfl⟩:=ry;exact PySem.W.eq_bytes (j8 I q Ir)
   | _=>exact absurd (show false=true from hs) VH
 | _=>cases y<;>exact absurd (show false=true from hs) VH
theorem op_ne:OpR X (Yv .NotEq) rNe:=by
 intro pq s σ H x y v u Q I rx ry h;obtain⟨hs,q⟩:=h;cases x with
 | non=>
   cases rx;cases y with
   | non=>cases ry;exact PySem.EqNone.ne_none_none (j8 I q (by simp))
   | bl j=>cases ry;exact PySem.EqNone.ne_none_bool (j8 I q (by simp))
   | int j=>obtain⟨t',rfl⟩:=ry;exact PySem.EqNone.ne_none_int (j8 I q (by simp))
   | str j=>obtain⟨t',rfl⟩:=ry;exact PySem.EqNone.ne_none_str (j8 I q (by simp))
   | _=>exact absurd (show false=true from hs) VH
 | bl i=>
   cases rx;cases y with
   | non=>cases ry;exact PySem.EqNone.ne_bool_none (j8 I q (by simp))
   | bl j=>cases ry;exact ne_bool (j8 I q (congrArg not Lh))
   | str j=>obtain⟨t',rfl⟩:=ry;exact PySem.EqMixed.ne_bool_str (j8 I q (by simp))
   | _=>exact absurd (show false=true from hs) VH
 | int i=>
   obtain⟨t,rfl⟩:=rx;cases y with
   | non=>cases ry;exact PySem.EqNone.ne_int_none (j8 I q (by simp))
   | int j=>obtain⟨t',rfl⟩:=ry;exact ne_int (j8 I q (congrArg not Ip))
   | str j=>obtain⟨t',rfl⟩:=ry;exact PySem.EqMixed.ne_int_str (j8 I q (by simp))
   | _=>exact absurd (show false=true from hs) VH
 | str i=>
   obtain⟨t,rfl⟩:=rx;cases y with
   | non=>cases ry;exact PySem.EqNone.ne_str_none (j8 I q (by simp))
   | bl j=>cases ry;exact PySem.EqMixed.ne_str_bool (j8 I q (by simp))
   | int j=>obtain⟨t',rfl⟩:=ry;exact PySem.EqMixed.ne_str_int (j8 I q (by simp))
   | str j=>obtain⟨t',rfl⟩:=ry;exact ne_str (j8 I q (congrArg not Iq))
   | _=>exact absurd (show false=true from hs) VH
 | byt i=>
   obtain⟨t,rfl⟩:=rx;cases y with
   | byt j=>obtain⟨t',rfl⟩:=ry;exact PySem.W.ne_bytes (j8 I q (congrArg not Ir))
   | _=>exact absurd (show false=true from hs) VH
 | _=>cases y<;>exact absurd (show false=true from hs) VH
theorem Tb:OpR X (Yv .Lt) (rI0 λi j => .bl (decide (i<j))):=OI λ_ _ _ _ _ _ _ q=>lt_int q
theorem Tc:OpR X (Yv .LtE) (rI0 λi j => .bl (decide (i<=j))):=OI λ_ _ _ _ _ _ _ q=>le_int q
theorem Td:OpR X (Yv .Gt) (rI0 λi j => .bl (decide (j<i))):=OI λ_ _ _ _ _ _ _ q=>gt_int q
theorem Te:OpR X (Yv .GtE) (rI0 λi j => .bl (decide (j<=i))):=OI λ_ _ _ _ _ _ _ q=>ge_int q
theorem RN:OpR X (Yv .Is) (λx y H Q=>y = .non/\Q (.bl (decide (x = .non))) H):=by
 intro pq s σ H x y v u Q I rx ry h;obtain⟨rfl,q⟩:=h;cases ry;refine is_none_gen (j8 I q ?_)
 cases x<;>first
  | (cases rx;rfl)
  | (obtain⟨t,rfl⟩:=rx;rfl)
theorem op_notN:OpR X (Yv .IsNot) (λx y H Q=>y = .non/\Q (.bl (!decide (x = .non))) H):=by
 intro pq s σ H x y v u Q I rx ry h;obtain⟨rfl,q⟩:=h;cases ry;refine isnot_none_gen (j8 I q ?_)
 cases x<;>first
  | (cases rx;rfl)
  | (obtain⟨t,rfl⟩:=rx;rfl)
theorem OpR.or{f:Yg->Yg->Sem Yg}{r r':R2}(h:OpR X f r)(h':OpR X f r'):OpR X f (λx y H Q=>r x y H Q\/r' x y H Q):=by
 intro pq s σ H x y v u Q I rx ry q;rcases q with q | q
 ·exact h pq s σ H x y v u Q I rx ry q
 ·exact h' pq s σ H x y v u Q I rx ry q
theorem Iu{op:CmpOp}{r:R2}(ho:OpR X (Yv op) r)(ha:PE X a ta)(hb:PE X b tb)(hm:A07 op b=false):PE X (.Compare a [op] [b] pos) (tOp r ta tb):=by
 intro pq s σ H Q I h;exact wpAny_Compare1 (RH ha hb I h λv u s2 x y H2 I2 rx ry q=>ho pq s2 σ H2 x y v u Q I2 rx ry q) hm
def QG(t:TE):TT:=λσ H Q=>t σ H λx H'=>∃ k,x = .bl k/\Q k H'
theorem Iv{op:CmpOp}{r:R2}(ho:OpR X (Yv op) r)(ha:PE X a ta)(hb:PE X b tb)(hm:A07 op b=false):PT X (.Compare a [op] [b] pos) (QG (tOp r ta tb)):=by
 intro pq s σ H Q I h
 refine wpAny_isTrue_Compare1 (thn (ha pq s σ H _ I h) λv s1 ⟨x,H1,I1,r1,q1⟩=>thn (hb pq s1 σ H1 _ I1 q1) λu s2 ⟨y,H2,I2,r2,q2⟩=>
  thn (ho pq s2 σ H2 x y v u _ I2 r1 r2 q2) λc s3 ⟨z,H3,I3,r3,k,e,q3⟩=>?_) hm
 subst e;cases r3;exact Yw ⟨H3,I3,q3⟩
def HV(r r':R2)(ta tb tc:TE):TE:=λσ H Q=>ta σ H λx H1=>tb σ H1 λy H2=>r x y H2 λz H3=>∃ k,z = .bl k/\
 (if k=true then tc σ H3 λw' H4=>r' y w' H4 Q else Q (.bl false) H3)
theorem Li{op op':CmpOp}{r r':R2}(ho:OpR X (Yv op) r)(ho':OpR X (Yv op') r')(ha:PE X a ta)(hb:PE X b tb)(hc:PE X c tc)
 (hm:A0w [op,op'] [b,c]=false:=by with_unfolding_all rfl):PE X (.Compare a [op,op'] [b,c] pos) (HV r r' ta tb tc):=by
 intro pq s σ H Q I h
 refine Compare_chain (thn (ha pq s σ H _ I h) λv s1 ⟨x,H1,I1,r1,q1⟩=>chain_link (thn (hb pq s1 σ H1 _ I1 q1) λu s2 ⟨y,H2,I2,r2,q2⟩=>
  thn (ho pq s2 σ H2 x y v u _ I2 r1 r2 q2) λd s3 ⟨z,H3,I3,r3,k,e,q3⟩=>?_)) hm
 subst e;cases r3;refine Yw ?_;cases k with
 | false=>exact ite_ff ⟨.bl false,H3,I3,rfl,q3⟩
 | true=>exact ite_tt (chain_last (thn (hc pq s3 σ H3 _ I3 q3) λw' s4 ⟨z',H4,I4,r4,q4⟩=>ho' pq s4 σ H4 y z' u w' Q I4 r2 r4 q4))
theorem Lj{op op':CmpOp}{r r':R2}(ho:OpR X (Yv op) r)(ho':OpR X (Yv op') r')(ha:PE X a ta)(hb:PE X b tb)(hc:PE X c tc)
 (hm:A0w [op,op'] [b,c]=false:=by with_unfolding_all rfl):PT X (.Compare a [op,op'] [b,c] pos) (QG (HV r r' ta tb tc)):=by
 intro pq s σ H Q I h
 refine isTrue_chain (thn (ha pq s σ H _ I h) λv s1 ⟨x,H1,I1,r1,q1⟩=>test_link (thn (hb pq s1 σ H1 _ I1 q1) λu s2 ⟨y,H2,I2,r2,q2⟩=>
  thn (ho pq s2 σ H2 x y v u _ I2 r1 r2 q2) λd s3 ⟨z,H3,I3,r3,k,e,q3⟩=>?_)) hm
 subst e;cases r3;refine Yw ?_;cases k with
 | false=>
   obtain⟨k',e',q'⟩:=q3;cases e';exact ite_ff ⟨H3,I3,q'⟩
 | true=>
   refine ite_tt (test_last (thn (hc pq s3 σ H3 _ I3 q3) λw' s4 ⟨z',H4,I4,r4,q4⟩=>thn (ho' pq s4 σ H4 y z' u w' _ I4 r2 r4 q4) λd' s5 ⟨z2,H5,I5,r5,k2,e2,q5⟩=>?_));subst e2;cases r5;exact Yw ⟨H5,I5,q5⟩
def OK(K:V5)(x:V)(H:Hp)(k:Bool):Prop:=
 match x with
 | .non=>k=false
 | .bl b=>k=b
 | .int i=>k=(i != 0)
 | .str y=>y.length<=Yl/\k=((y.length:Int) != 0)
 | .byt y=>y.size<=Yl/\k=((y.size:Int) != 0)
 | .ref p=>(∃ xs,SqL K H p xs/\k=!xs.isEmpty)\/(∃ xs,SqT K H p xs/\k=!xs.isEmpty)\/∃ kvs,H p=some (.dK kvs)/\k=!kvs.isEmpty
 | _=>False
theorem HW{κ:Type}{kvs:List (κ×V)}{vs:List (κ×Yg)}(r:KV kvs vs):(!vs.isEmpty)=!kvs.isEmpty:=by
 cases r<;>rfl
theorem D7{xs:List V}{its:List Yg}(r:Vals xs its):(!its.toArray.isEmpty)=!xs.isEmpty:=by
 cases r<;>simp
theorem Bt:(Yl:Nat)<2 ^ 63:=by rw[sizeLine_eq];decide
theorem RO:Um X (λx H Q=>∃ k,OK X.K x H k/\Q k H):=by
 intro pq s σ H x v Q I rx h;obtain⟨k,e,q⟩:=h;have hl:=Bt;have hs:Yl=16777216:=sizeLine_eq;cases x with
 | non=>
   cases rx;have e':k=false:=e;subst e';exact truthy_none ⟨H,I,q⟩
 | bl b=>
   cases rx;have e':k=b:=e;subst e';exact Yw ⟨H,I,q⟩
 | int i=>
   obtain⟨t,rfl⟩:=rx;have e':k=(i != 0):=e;subst e';exact PySem.P.truthy_int ⟨H,I,q⟩
 | str y=>
   obtain⟨t,rfl⟩:=rx;obtain⟨hy,e'⟩:y.length<=Yl/\k=((y.length:Int) != 0):=e;subst e';exact PySem.P.truthy_str (by omega) ⟨H,I.tok _,q⟩
 | byt y=>
   obtain⟨t,rfl⟩:=rx;obtain⟨hy,e'⟩:y.size<=Yl/\k=((y.size:Int) != 0):=e;subst e';exact PySem.W.truthy_bytes (by omega) ⟨H,I.tok _,q⟩
 | ref p=>
   cases rx;have e':(∃ xs,SqL X.K H p xs/\k=!xs.isEmpty)\/(∃ xs,SqT X.K H p xs/\k=!xs.isEmpty)\/∃ kvs,H p=some (.dK kvs)/\k=!kvs.isEmpty:=e;rcases e' with⟨xs,hx,e'⟩ | ⟨xs,hx,e'⟩ | ⟨kvs,hx,e'⟩
   ·subst e';obtain⟨its,r,pl,hz⟩:=I.list hx;have hlen:=r.length;exact wpAny_truthy_list pl.isList (by simp only[VC];omega) ⟨H,I.tok _,by rw[D7 r];exact q⟩
   ·subst e';obtain⟨its,r,pl,hz⟩:=I.tuple hx;have hlen:=r.length;exact truthy_tuple pl (by simp only[VC];omega) ⟨H,I.tok _,by rw[D7 r];exact q⟩
   ·subst e';obtain⟨hz,hS,vs,r,m⟩:kvs.length<=Yl/\(p == Z0)=false/\∃ vs,KV kvs vs/\s.heap.DictOf (m8 X.prog X.w) p vs:=I.hok p _ hx;have hlen:kvs.length=vs.length:=Paired.length r;exact wpAny_truthy_dict hS m (by omega) ⟨H,I.tok _,by rw[HW r];exact q⟩
 | _=>exact(show False from e).elim
theorem Lk(ha:PE X a ta)(he:∀ whole,isTrue a X.env whole=(do let v <- whole;standAt a.pos;holding [v] (truthy v))):
 PT X a (λσ H Q=>ta σ H λx H'=>∃ k,OK X.K x H' k/\Q k H'):=by
 intro pq s σ H Q I h;exact isTrue_plain (thn (ha pq s σ H _ I h) λv s1 ⟨x,H1,I1,r1,q1⟩=>RO pq s1 σ H1 x v Q I1 r1 q1) (he _)
theorem AQ{x:V}{us:List Yg}(r:Vals [x] us):∃ u,us=[u]/\RelV x u:=by
 cases r with
 | cons r1 r2=>cases r2;exact⟨_,rfl,r1⟩
theorem QH{x y:V}{us:List Yg}(r:Vals [x,y] us):∃ u w',us=[u,w']/\RelV x u/\RelV y w':=by
 cases r with
 | cons r1 r2=>
   cases r2 with
   | cons r3 r4=>cases r4;exact⟨_,_,rfl,r1,r3⟩
theorem Ll:CallR X (.builtin "abs") (λxs H Q=>∃ i,xs=[.int i]/\Q (.int (if i<0 then -i else i)) H):=by
 intro pq s σ H xs us Q I r h;obtain⟨i,rfl,q⟩:=h;obtain⟨u,rfl,t,rfl⟩:=AQ r;exact call_abs_int λu tk=>⟨.int (if i<0 then -i else i),H,I.tok _,⟨_,rfl⟩,q⟩
theorem KB(hc:X.calm=true):CallR X (.builtin "max") (λxs H Q=>∃ i j,xs=[.int i,.int j]/\Q (.int (if j>i then j else i)) H):=by
 intro pq s σ H xs us Q I r h;obtain⟨i,j,rfl,q⟩:=h;obtain⟨u,w',rfl,⟨t,rfl⟩,⟨t',rfl⟩⟩:=QH r;refine max_two_ints (I.ok.hd hc) λh' tk k=>⟨_,H,I.kept k,?_,q⟩
 by_cases hj:j>i
 ·rw[iP hj,iP hj];exact⟨_,rfl⟩
 ·rw[iG hj,iG hj];exact⟨_,rfl⟩
theorem KC(hc:X.calm=true):CallR X (.builtin "min") (λxs H Q=>∃ i j,xs=[.int i,.int j]/\Q (.int (if j<i then j else i)) H):=by
 intro pq s σ H xs us Q I r h;obtain⟨i,j,rfl,q⟩:=h;obtain⟨u,w',rfl,⟨t,rfl⟩,⟨t',rfl⟩⟩:=QH r;refine min_two_ints (I.ok.hd hc) λh' tk k=>⟨_,H,I.kept k,?_,q⟩
 by_cases hj:j<i
 ·rw[iP hj,iP hj];exact⟨_,rfl⟩
 ·rw[iG hj,iG hj];exact⟨_,rfl⟩
theorem KD:CallR X (.type "int") (λxs H Q=>(∃ i,xs=[.int i]/\Q (.int i) H)\/∃ k,xs=[.bl k]/\Q (.int (if k then 1 else 0)) H):=by
 intro pq s σ H xs us Q I r h;rcases h with⟨i,rfl,q⟩ | ⟨k,rfl,q⟩
 ·obtain⟨u,rfl,t,rfl⟩:=AQ r;exact call_int_int ⟨.int i,H,I,⟨_,rfl⟩,q⟩
 ·obtain⟨u,rfl,r1⟩:=AQ r;cases r1;exact call_int_bool ⟨.int (if k then 1 else 0),H,I.tok _,⟨_,rfl⟩,q⟩
end
structure ObjM(h:Heap)(x dx C:Yi)(mA:Str->Option Yg):Prop where
 obj:h.get? x=some (PySem.W.instObj C dx)
 ns:h.Ns1 dx mA
 ne:dx≠x
theorem KF{h:Heap}{dx:Yi}{mA:Str->Option Yg}(n:h.Ns1 dx mA):∃ od,h.get? dx=some od/\∀ name,PySem.W.lookIn name od=some (mA name):=by
 obtain⟨o,es,ep,ho,hd,hk,_,hm⟩:=n;refine⟨o,ho,λname=>?_⟩;have e:=hm name;unfold nsFind findBy at e;rw[<-Array.find?_toList]at e;unfold PySem.W.lookIn;rw[hd];dsimp only;split
 ·rename_i y q;rw[q]at e;exact congrArg some e
 ·rename_i q;rw[q]at e
  have a:es.toList.any (·.refKey)=false:=by
   rw[XR];intro y hy;obtain⟨z,t,hkey⟩:=hk y (Array.mem_toList_iff.mp hy);simp[DictEntry.refKey,hkey]
  have a':¬ es.toList.any (·.refKey)=true:=by rw[a];exact VH
  rw[iG a'];exact congrArg some e
theorem ObjM.look{h:Heap}{x dx C:Yi}{mA:Str->Option Yg}(I:ObjM h x dx C mA):∃ od,PySem.W.InstAt h x (PySem.W.instObj C dx) C (some od)/\∀ name,PySem.W.lookIn name od=some (mA name):=
 let ⟨od,ho,hl⟩:=KF I.ns
 ⟨od,⟨I.obj,rfl,rfl,ho⟩,hl⟩
theorem RelO.some_of{v:V}{o:Option Yg}(r:RelO (some v) o):∃ u,o=some u/\RelV v u:=by
 cases o with
 | none=>exact(show False from r).elim
 | some u=>exact⟨u,rfl,r⟩
section
variable{P:Yn}{w:Yq}{H H':Hp}{h h':Heap}{a C dx:Yi}{fs fs':List (Str×V)}
theorem Iw(hok:HOk P w H h)(e:H a=some (.ins C dx fs)):∃ mA,ObjM h a dx C mA/\(∀ f,RelO (fs.lookup f) (mA f))/\PySem.Within mA (fs.map (·.1))/\fs.length<=1000/\H dx=some (.own a):=by
 obtain⟨d,z,ne,ob,mA,n,r,q⟩:=(show ObjOk P w H h a (.ins C dx fs) from hok a _ e)
 exact⟨mA,⟨ob,n,ne⟩,r,q,z,d⟩
end
structure Cls(K:V5)(C:Yi):Prop where
 pg:PySem.W.plainGet K C Str.empty=true
 hd:PySem.W.hasDictIn K C=true
 po:PySem.W.plainOver K C=true
 sa:PySem.W.findIn K (.ref C) "__setattr__"=some (some (.builtin "object.__setattr__"))
theorem Cls.get{K:V5}{C:Yi}(c:Cls K C)(f:Str):PySem.W.plainGet K C f=true:=c.pg
section
variable{X:Cx}{pq:List (Yi×Obj)}{σ:St}{H:Hp}{s:Yh}{A:Yt}{E:Yg->Yh->Prop}{Q:Yg->Yh->Prop}{c:Yg}{b:Bool}
inductive TyOf(K:V5)(H:Hp):V->Yg->Prop where
 | non:TyOf K H .non (.type "NoneType")
 | bl (x:Bool):TyOf K H (.bl x) (.type "bool")
 | int (i:Int):TyOf K H (.int i) (.type "int")
 | str (x:Str):TyOf K H (.str x) (.type "str")
 | flt (x:UInt64):TyOf K H (.flt x) (.type "float")
 | lst {a:Yi} {xs:List V} (e:H a=some (.lst xs)):TyOf K H (.ref a) (.type "list")
 | frz {a:Yi} {o:Obj} {xs:List V} (e:H a=some (.frz o (.lst xs))):TyOf K H (.ref a) (.type "list")
 | tup {a:Yi} {xs:List V} (e:H a=some (.tup xs)):TyOf K H (.ref a) (.type "tuple")
 | dK {a:Yi} {kvs:List (Key×V)} (e:H a=some (.dK kvs)):TyOf K H (.ref a) (.type "dict")
 | dT {a:Yi} {kvs:List (List Key×V)} (e:H a=some (.dT kvs)):TyOf K H (.ref a) (.type "dict")
 | ins {a C dx:Yi} {fs:List (Str×V)} (e:H a=some (.ins C dx fs)) (cl:Cls K C) (ha:PySem.W.findIn K (.ref C) "__class__"=some (some (.builtin "object.__class__")))
    (hn:PySem.W.specialIn K (.builtin "object.__class__") "__get__"=some (some (.builtin "getset_descriptor.__get__"))) (htk:PySem.W.takesIn K (.builtin "object.__class__")=some true)
    (hm:PySem.W.mroIn K C (.type "object")=some true):TyOf K H (.ref a) (.ref C)
theorem KG{x:V}{u t:Yg}(I:Inv X pq σ H s)(rx:RelV x u)(ty:TyOf X.K H x t)(e:PySem.W.kitOne X.K t c=some b)(h:∀ tk,Q (.bool b) {s with toks:=tk}):
 Yk (Ym X.prog X.w) A (call (.builtin "isinstance") [u,c]) Q E s:=by
 cases ty with
 | non=>cases(show u=Value.none from rx);exact PySem.W.kia_one PySem.W.kitx_none I.kIn True.intro e (λz=>nomatch z) h
 | bl y=>cases(show u=Value.bool y from rx);exact PySem.W.kia_one PySem.W.kitx_bool I.kIn True.intro e (λz=>nomatch z) h
 | int i=>obtain⟨t,q⟩:=(show ∃ t,u=Value.int i t from rx);cases q;exact PySem.W.kia_one PySem.W.kitx_int I.kIn True.intro e (λz=>nomatch z) h
 | str y=>obtain⟨t,q⟩:=(show ∃ t,u=Value.str y t from rx);cases q;exact PySem.W.kia_one PySem.W.kitx_str I.kIn True.intro e (λz=>nomatch z) h
 | flt y=>obtain⟨t,q⟩:=(show ∃ t,u=Value.float y t from rx);cases q;exact PySem.W.kia_one PySem.W.kitx_float I.kIn True.intro e (λz=>nomatch z) h
 | @lst a xs ea=>
   cases(show u=Value.ref a from rx);obtain⟨_,_,n,_,h1⟩:=(show ObjOk X.prog X.w H s.heap a (.lst xs) from I.hok a _ ea)
   exact PySem.W.kia_one PySem.W.kitx_list I.kIn ⟨_,h1,rfl⟩ e (λz=>nomatch z) h
 | @frz a ob xs ea=>
   cases(show u=Value.ref a from rx);obtain⟨_,_,_,n,_,h1⟩:=(show ObjOk X.prog X.w H s.heap a (.frz ob (.lst xs)) from I.hok a _ ea)
   exact PySem.W.kia_one PySem.W.kitx_list I.kIn ⟨_,h1,rfl⟩ e (λz=>nomatch z) h
 | @tup a xs ea=>
   cases(show u=Value.ref a from rx);obtain⟨_,_,_,p⟩:=(show ObjOk X.prog X.w H s.heap a (.tup xs) from I.hok a _ ea)
   obtain⟨o,h1,h2,_⟩:=p;exact PySem.W.kia_one PySem.W.kitx_tuple I.kIn ⟨o,h1,h2⟩ e (λz=>nomatch z) h
 | @dK a kvs ea=>
   cases(show u=Value.ref a from rx);obtain⟨_,_,vs,_,p⟩:=(show ObjOk X.prog X.w H s.heap a (.dK kvs) from I.hok a _ ea)
   obtain⟨o,es,ep,h1,h2,_⟩:=p;exact PySem.W.kia_one PySem.W.kitx_dict I.kIn ⟨o,h1,h2.1⟩ e (λz=>nomatch z) h
 | @dT a kvs ea=>
   cases(show u=Value.ref a from rx);obtain⟨_,_,xs,_,o,es,ep,h1,h2,_⟩:=(show ObjOk X.prog X.w H s.heap a (.dT kvs) from I.hok a _ ea)
   exact PySem.W.kia_one PySem.W.kitx_dict I.kIn ⟨o,h1,h2.1⟩ e (λz=>nomatch z) h
 | @ins a C dx fs ea cl ha hn htk hm=>
   cases(show u=Value.ref a from rx);obtain⟨mA,O,_⟩:=Iw I.hok ea;obtain⟨od,J,_⟩:=O.look;exact PySem.W.kia_one (PySem.W.kitx_own (cl.get _) cl.hd ha hn htk hm) I.kIn J e (λz=>nomatch z) h
end
structure Room(k:Nat)(A:Yt):Prop where
 hd:A.handled=none
 dp:A.depth+3 * k+5<A0r
 un:A.units+16 * k+200<cLine
 gd:A.guards=some []
theorem Room.deeper{k:Nat}{A:Yt}(r:Room (k+1) A)(env:Env):Room k (A.deeper env):=
 ⟨r.hd,by have:=r.dp;show A.depth+1+3 * k+5<_;omega,by have:=r.un;show A.units+3+16 * k+200<_;omega,r.gd⟩
theorem Room.depth{k:Nat}{A:Yt}(r:Room k A):A.depth<A0r:=by have:=r.dp;omega
def RP:TA:=λ_ H Q=>Q [] H
def FZ(ta:TE)(tr:TA):TA:=λσ H Q=>ta σ H λx H1=>tr σ H1 λxs H2=>Q (x::xs) H2
section
variable{X:Cx}{e:Expr}{es:List Expr}{te:TE}{t:TA}{pos:Pos}
theorem Az:PA X [] RP:=λ_ _ _ _ H Q I h=>Calls.spliced_nil ⟨[],H,I,.nil,h⟩
theorem y1(ha:PE X e te)(hr:PA X es t)(hs:Yr (e::es) X.env=(false,eval e X.env)::Yr es X.env:=by rfl):PA X (e::es) (FZ te t):=by
 intro pos pq s σ H Q I h;rw[hs];show Yk _ _ (spliced ((false,eval e X.env)::backTo pos (Yr es X.env))) _ _ s;refine Calls.spliced_cons (thn (ha pq s σ H _ I h) λu s1 ⟨x,H1,I1,r1,q1⟩=>?_);exact thn (hr pos pq s1 σ H1 _ I1 q1) λus s2 ⟨xs,H2,I2,r2,q2⟩=>⟨x::xs,H2,I2,.cons r1 r2,q2⟩
def Tf(t:TA):TE:=λσ H Q=>t σ H λxs H1=>xs.length<=Yl/\∀ p,H1 p=none->Q (.ref p) (upd H1 p (.tup xs))
def Th(t:TA):TE:=λσ H Q=>t σ H λxs H1=>xs.length<=Yl/\∀ p,H1 p=none->Q (.ref p) (upd H1 p (.lst xs))
theorem RQ{x1}(h:PA X es t):PE X (.Tuple es x1 pos) (Tf t):=by
 intro pq s σ H Q I hq;refine wpAny_Tuple_spliced (thn (h pos pq s σ H _ I hq) λus s1 ⟨xs,H1,I1,r,z,q⟩=>⟨by rw[<-r.length];exact z,?_⟩);have hf:H1 s1.heap.objs.size=none:=I1.hok.fresh (VF _);refine⟨.ref s1.heap.objs.size,upd H1 s1.heap.objs.size (.tup xs),I1.laid (t':=s1.toks) (λb u e=>VE _ e) (VF _) ?_,rfl,q _ hf⟩;exact⟨z,us,r,⟨_,VR _ rfl,rfl,_,rfl⟩⟩
theorem RS(h:PA X es t):PE X (.List es pos) (Th t):=by
 intro pq s σ H Q I hq;refine wpAny_List_spliced (thn (h pos pq s σ H _ I hq) λus s1 ⟨xs,H1,I1,r,z,q⟩=>⟨by rw[<-r.length];exact z,?_⟩);have hf:H1 s1.heap.objs.size=none:=I1.hok.fresh (VF _);refine⟨.ref s1.heap.objs.size,upd H1 s1.heap.objs.size (.lst xs),I1.laid (t':=s1.toks) (λb u e=>VE _ e) (VF _) ?_,rfl,q _ hf⟩;exact⟨z,us,0,r,VR _ rfl⟩
end
abbrev Sp:=List V->Hp->VK->XK->Prop
abbrev CXT:=List Env->Hp->Yh->XK->Yg->Yh->Prop
structure Env0(P:Yn)(w:Yq)(K:V5)(mg:Str->Option Yg)(base:Heap)(A:Yt)(outer:List Env)(s:Yh)(H:Hp):Prop where
 frames:A.frames=some outer
 mod:Mod K mg base
 bs:∀ b o,base.get? b=some o->s.heap.get? b=some o/\H b=none
 bsz:base.objs.size<=s.heap.objs.size
 funs:s.heap.FunFrames base outer
 frf:∀ b∈frs outer,H b=none
 hok:HOk P w H s.heap
 bare:AllBare s.gens
noncomputable def CE(outer:List Env)(P:Yn)(w:Yq)(H:Hp)(s:Yh)(Q:VK)(u:Yg)(s':Yh):Prop:=
 ∃ v H',s'.os=s.os/\AllBare s'.gens/\Un (frs outer) [] H H' s.heap s'.heap/\HOk P w H' s'.heap/\RelV v u/\Q v H'
noncomputable def CR(CX:CXT)(outer:List Env)(P:Yn)(w:Yq)(H:Hp)(s:Yh)(Q:VK)(E:XK)(r:Result)(s':Yh):Prop:=
 match r with
 | .ok (.ret u)=>CE outer P w H s Q u s'
 | .ok _=>False
 | .error e=>CX outer H s E e s'
structure FnOk(P:Yn)(w:Yq)(K:V5)(mg:Str->Option Yg)(base:Heap)(CX:CXT)(k:Nat)(f:Yi)(fd:ZL)(ps:List Str)(sp:Sp):Prop where
 len:∀ vs H Q E,sp vs H Q E->vs.length=ps.length
 run:∀(A:Yt) (outer:List Env) (s:Yh) (H:Hp) (args:Args) (us:List Yg) (vs:List V) (Q:VK) (E:XK),Room k A->Env0 P w K mg base A outer s H->BindsTo s fd args (ps.zip us)->Vals vs us->sp vs H Q E->
  codeAny (Ym P w) A (.call (.ref f) args) (CR CX outer P w H s Q E) s
section
variable{X:Cx}{pq:List (Yi×Obj)}{σ:St}{H:Hp}{s s':Yh}
theorem Inv.env0(I:Inv X pq σ H s):Env0 X.prog X.w X.K X.mg X.base X.A X.stack s H:=
 ⟨I.ok.frames,I.ok.mod,I.bs,Ve I.ok.bsz I.sz,I.stack,I.stkFree,I.hok,I.bare⟩
theorem Inv.after{Q:VK}{u:Yg}(I:Inv X pq σ H s)(h:CE X.stack X.prog X.w H s Q u s'):EP X pq σ Q u s':=by
 obtain⟨v,H',os,bare,un,hok,r,q⟩:=h;obtain⟨hh,g,d,t,os'⟩:=s';obtain rfl:os'=s.os:=os;exact⟨v,H',I.call (h':=hh) (g':=g) (d':=d) (t':=t) (ch:=[]) un hok bare (λb z=>absurd z (by simp)),r,q⟩
end
def QI(sp:Sp)(dvs:List V)(E:XK)(t:TA):TE:=λσ H Q=>t σ H λvs H1=>sp (vs++dvs) H1 Q E
def Binds(K:V5)(fd:ZL)(ps:List Str)(ds:List Yg):Prop:=
 ∀(s:Yh) (us:List Yg),K.In s.heap->(us++ds).length=ps.length->BindsTo s fd ⟨us,[]⟩ (ps.zip (us++ds))
theorem Binds.all{K:V5}{fd:ZL}{ps:List Str}(h:∀ us:List Yg,us.length=ps.length->bindArgs fd ⟨us,[]⟩=pure (ps.zip us)):Binds K fd ps []:=λs us _ hl=>by
 rw[Vt]at hl ⊢;exact .of_eq (h us hl)
def HX(CX:CXT)(X:Cx)(E:XK):Prop:=∀(pq:List (Yi×Obj)) (σ:St) (H:Hp) (s:Yh) (e:Yg) (s':Yh),Inv X pq σ H s->CX X.stack H s E e s'->X.xe e s'
section
variable{X:Cx}{CX:CXT}{k:Nat}{f C:Yi}{fd:ZL}{ps:List Str}{sp:Sp}{dvs:List V}{ds:List Yg}{E:XK}{x m:Str}{p pos apos:Pos}{e o:Expr}{es:List Expr}{ta:TE}{t:TA}
theorem RT{pq:List (Yi×Obj)}{σ:St}{H:Hp}{s:Yh}{Q:VK}{us:List Yg}{vs:List V}(F:FnOk X.prog X.w X.K X.mg X.base CX k f fd ps sp)(hr:Room k X.A)(hb:Binds X.K fd ps ds)(hd:Vals dvs ds)(hx:HX CX X E)
 (I:Inv X pq σ H s) (r:Vals vs us) (h:sp (vs++dvs) H Q E):Yk (Ym X.prog X.w) X.A (call (.ref f) us) (EP X pq σ Q) X.xe s:=by
 have r2:Vals (vs++dvs) (us++ds):=r.append hd;have hl:(us++ds).length=ps.length:=by rw[<-r2.length];exact F.len _ _ _ _ h
 refine wpAny_call (A0d (F.run X.A X.stack s H ⟨us,[]⟩ (us++ds) (vs++dvs) Q E hr I.env0 (hb s us I.kIn hl) r2 h) λr s' hq=>?_);cases r with
 | error e=>exact hx pq σ H s e s' I hq
 | ok fl=>
   cases fl with
   | ret u=>exact I.after hq
   | next=>exact False.elim hq
   | brk=>exact False.elim hq
   | cont=>exact False.elim hq
theorem OL(F:FnOk X.prog X.w X.K X.mg X.base CX k f fd ps sp)(hr:Room k X.A)(hg:Gl X x)(hm:X.mg x=some (.ref f))(hk:PySem.W.keepIn X.K (.ref f)=true)(hb:Binds X.K fd ps ds)(hd:Vals dvs ds)(hx:HX CX X E)
 (ha:PA X (e::es) t) (hdb:(x == ("__debug__":Str))=false:=by decide) (he:Yr (e::es) X.env=(false,eval e X.env)::Yr es X.env:=by rfl) (hpl:(backTo pos (Yr es X.env)).any (·.1)=false:=by rfl):
 PE X (.Call (.Name x p) (e::es) [] pos) (QI sp dvs E t):=by
 intro pq s σ H Q I h;refine ZI (OA I hg hm ?_ hdb);refine PySem.W.callWith_K (h₀:=X.base) I.ok.mod.kin hk (thn (ha pos pq s σ H _ I h) λus s1 ⟨vs,H1,I1,r,q⟩=>⟨I1.kIn,?_⟩) he hpl;exact RT F hr hb hd hx I1 r q
end
noncomputable def PK(X:Cx)(kws:List Keyword)(t:TA):Prop:=
 ∀(pos:Pos) (pq:List (Yi×Obj)) (s:Yh) (σ:St) (H:Hp) (Q:List V->Hp->Prop),Inv X pq σ H s->t σ H Q->Yk (Ym X.prog X.w) X.A (evalAll ((Zj pos (ZP kws X.env)).map (·.2))) (AP X pq σ Q) X.xe s
section
variable{X:Cx}{CX:CXT}{k:Nat}{f C:Yi}{fd:ZL}{ps ks:List Str}{sp:Sp}{E:XK}{x m:Str}{p pos apos kpos:Pos}{e o:Expr}{es:List Expr}{kws:List Keyword}{te ta:TE}{t tk:TA}{nm:Option Str}
theorem Lm:PK X [] RP:=λ_ _ _ _ H Q I h=>wpAny_evalAll_nil ⟨[],H,I,.nil,h⟩
theorem Ix(ha:PE X e te)(hr:PK X kws t):PK X (⟨nm,e,kpos⟩::kws) (FZ te t):=by
 intro pos pq s σ H Q I h;show Yk _ _ (evalAll ((do let v <- eval e X.env;standAt pos;pure v)::(Zj pos (ZP kws X.env)).map (·.2))) _ _ s;refine wpAny_evalAll_cons (Yf (thn (ha pq s σ H _ I h) λu s1 ⟨x,H1,I1,r1,q1⟩=>Yf (Ze (Yj ?_))));exact thn (hr pos pq s1 σ H1 _ I1 q1) λus s2 ⟨xs,H2,I2,r2,q2⟩=>⟨x::xs,H2,I2,.cons r1 r2,q2⟩
variable{g:List Yg->List Yg->List Yg}{gV:List V->List V->List V}
end
structure FnScope(N P:List Str)(sc:Yu):Prop where
 kind:sc.kind = .function
 co:sc.isCoroutine=false
 gen:sc.isGenerator=false
 nd:N.Nodup
 pre:N.take P.length=P
 par:∀ x∈P,sc.names.lookup x=some .local\/sc.names.lookup x=some .cell
 nofree:∀ y∈sc.names,y.2 ≠ .free
theorem EC{kindOf:Str->Option Z3}{x:Str}:∀{binds:List (Str×Yg)} {m:Str->Option Yg},(∀ v,(x,v)∉binds)->bindL kindOf binds m x=m x
 | [],_,_=>rfl
 | (n,v)::r,m,h=>by
   unfold bindL;rw[EC λw hw=>h w (VI _ hw)];split
   ·have:x≠n:=by rintro rfl;exact h v VN
    simp[this]
   ·rfl
theorem ED{kindOf:Str->Option Z3}{x:Str}:∀{binds:List (Str×Yg)} {m:Str->Option Yg},(∀ v,(x,v)∉binds)->bindC kindOf binds m x=m x
 | [],_,_=>rfl
 | (n,v)::r,m,h=>by
   unfold bindC;rw[ED λw hw=>h w (VI _ hw)];split
   ·rfl
   ·have:x≠n:=by rintro rfl;exact h v VN
    simp[this]
theorem EF{kindOf:Str->Option Z3}{x:Str}{v:Yg}:∀{P:List Str} {vs:List Yg} {i:Nat} {m:Str->Option Yg},P.Nodup->P[i]?=some x->vs[i]?=some v->kindOf x=some .local->
 bindL kindOf (P.zip vs) m x=some v
 | [],_,_,_,_,h,_,_=>by simp at h
 | _::_,[],_,_,_,_,h,_=>by simp at h
 | p::P,w::vs,0,m,nd,h1,h2,hk=>by
   simp at h1 h2;subst h1;subst h2;show bindL kindOf ((p,w)::P.zip vs) m p=_;unfold bindL;rw[EC λv hv=>(Vx.mp nd).1 (Wd hv).1,iP hk];simp
 | p::P,w::vs,i+1,m,nd,h1,h2,hk=>by
   show bindL kindOf ((p,w)::P.zip vs) m x=_;unfold bindL;exact EF (i:=i) (Vx.mp nd).2 (by simpa using h1) (by simpa using h2) hk
theorem EG{kindOf:Str->Option Z3}{x:Str}{v:Yg}:∀{P:List Str} {vs:List Yg} {i:Nat} {m:Str->Option Yg},P.Nodup->P[i]?=some x->vs[i]?=some v->kindOf x≠some .local->
 bindC kindOf (P.zip vs) m x=some v
 | [],_,_,_,_,h,_,_=>by simp at h
 | _::_,[],_,_,_,_,h,_=>by simp at h
 | p::P,w::vs,0,m,nd,h1,h2,hk=>by
   simp at h1 h2;subst h1;subst h2;show bindC kindOf ((p,w)::P.zip vs) m p=_;unfold bindC;rw[ED λv hv=>(Vx.mp nd).1 (Wd hv).1,iG hk];simp
 | p::P,w::vs,i+1,m,nd,h1,h2,hk=>by
   show bindC kindOf ((p,w)::P.zip vs) m x=_;unfold bindC;exact EG (i:=i) (Vx.mp nd).2 (by simpa using h1) (by simpa using h2) hk
def start(N:List Str)(vs:List V):St:=vs.map some++VL (N.length - vs.length) none
noncomputable def HY(CX:CXT)(P:Yn)(w:Yq)(K:V5)(mg:Str->Option Yg)(base:Heap)(N:List Str)(qual:Str)(scope:Yu)(f:Yi)(cd:Yg)(A:Yt)(outer:List Env)(s:Yh)(H:Hp)(E:XK):Cx where
 prog:=P
 w:=w
 K:=K
 mg:=mg
 base:=base
 A:=A.deeper (envOfC qual scope s.heap.objs.size f cd)
 N:=N
 s₀:=s
 H₀:=H
 env:=envOfC qual scope s.heap.objs.size f cd
 outer:=outer
 stack:=envOfC qual scope s.heap.objs.size f cd::outer
 ex:=[]
 calm:=true
 fn:=λ_=>true
 pn:=[]
 xe:=λe s'=>Yk (Ym P w) (A.deeper (envOfC qual scope s.heap.objs.size f cd)) (leaving (envOfC qual scope s.heap.objs.size f cd) e) (λ_ s''=>CX outer H s E e s'') (λe' s''=>CX outer H s E e' s'') s'
theorem Fa{sc:Yu}{n:Nat}{x:Str}(h:sc.names.lookup x=some .cell):∃ c,(Z5 n sc.names []).lookup x=some c:=by
 have q:=PySem.W.cellsFrom_some sc.names n [] (.inl h);exact Wk.mp q
theorem KH{CX:CXT}{P:Yn}{w:Yq}{K:V5}{mg:Str->Option Yg}{base:Heap}{N ps:List Str}{qual:Str}{scope:Yu}{f:Yi}{cd:Yg}{A:Yt}{outer:List Env}{s s1:Yh}{H:Hp}{E:XK}{us:List Yg}{vs:List V}
 (S:FnScope N ps scope) (hd:A.handled=none) (e0:Env0 P w K mg base A outer s H) (hl:vs.length=ps.length) (r:Vals vs us)
 (x:InCallC s s.heap.objs.size (bindL (envOfC qual scope s.heap.objs.size f cd).kindOf (ps.zip us) λ_=>none) (Z5 (s.heap.objs.size+1) scope.names []) (bindC (envOfC qual scope s.heap.objs.size f cd).kindOf (ps.zip us) λ_=>none) s1):
 Inv (HY CX P w K mg base N qual scope f cd A outer s H E) [] (start N vs) H s1:=by
 have hpl:ps.length<=N.length:=by have:=congrArg XS S.pre;rw[Vy]at this;omega
 obtain⟨h1,tk,rfl,hk⟩:=x.done;have noA:∀ b:Yi,b∉(HY CX P w K mg base N qual scope f cd A outer s H E).ex:=λb z=>absurd (show b∈([]:List Yi) from z) (by simp)
 refine⟨⟨e0.mod,S.kind,rfl,rfl,VF _,λy z c h1 h2=>?_,λy hy=>?_,λy c _ h=>?_,λ_=>hd,Around.frames_deeper e0.frames,.inr ⟨rfl,rfl⟩,λb z=>absurd z (noA b),e0.bs,e0.bsz,λb _ _=>noA b,λb z=>absurd z (noA b),e0.funs,e0.frf⟩,
  rfl,e0.bare,Un.kept hk,⟨_,x.toInCall.ns,λi y v h1 h2 h3=>?_⟩,λy c h=>⟨_,x.cell y c h⟩,e0.hok.fresh (VF _),λy c h=>?_,λp hp=>absurd (show p∈([]:List (Yi×Obj)) from hp) (by simp),e0.hok.kept hk,?_⟩
 ·exact name_of_addr x.apart (PySem.mem_of_lookup h1) (PySem.mem_of_lookup h2)
 ·have hy:scope.names.lookup y=some .cell\/scope.names.lookup y=some .free:=hy;rcases hy with hy | hy
  ·exact Fa hy
  ·exact absurd rfl (S.nofree _ (PySem.mem_of_lookup hy))
 ·exact Xi (x.above y c (PySem.mem_of_lookup h))
 ·have hi:i<vs.length:=by
   unfold start at h2;by_cases hi:i<vs.length
   ·exact hi
   ·rw[Vq (by simpa using hi)]at h2;rw[WG]at h2;split at h2<;>cases h2
  have ha:vs[i]?=some v:=by
   unfold start at h2;rw[VP (by simpa using hi),VG]at h2;cases e:vs[i]? with
   | none=>rw[e]at h2;cases h2
   | some a=>rw[e]at h2;cases h2;rfl
  obtain⟨u,hu,rv⟩:=r.get ha
  have hp:ps[i]?=some y:=by
   rw[<-S.pre,List.getElem?_take_of_lt (by omega)];exact h1
  have ndP:ps.Nodup:=by rw[<-S.pre];exact S.nd.sublist (List.take_sublist _ _)
  refine⟨u,rv,?_⟩;rcases S.par y (V9 hp) with k | k
  ·exact .inl ⟨k,EF ndP hp hu k⟩
  ·obtain⟨c,e⟩:=Fa (n:=s.heap.objs.size+1) k;refine .inr ⟨.inl k,c,e,?_⟩;have q:=x.cell y c e;rw[EG ndP hp hu (by show scope.names.lookup y≠_;rw[k];decide)]at q;exact q
 ·exact e0.hok.fresh (Xi (x.above y c (PySem.mem_of_lookup h)))
 ·unfold start;show _=N.length;rw[V8,V7,Wa];omega
theorem Ti{CX:CXT}{P:Yn}{w:Yq}{K:V5}{mg:Str->Option Yg}{base:Heap}{k:Nat}{f:Yi}{name qual:Str}{params:Arguments}{body:List Stmt}{scope:Yu}{dV kV doc pm cdv ct oc:Yg}{an od:Option Yi}
 {osl:Array (Option Yg)} {N ps:List Str} {sp:Sp} (lk:K.lookup f=some ⟨oc,od,.func (PySem.W.fnOf name qual params body scope dV kV doc pm an cdv ct),osl⟩) (hcd:PySem.W.codeIn K cdv qual=true) (S:FnScope N ps scope)
 (len:∀ vs H Q E,sp vs H Q E->vs.length=ps.length)
 (hbody:∀(A:Yt) (outer:List Env) (s:Yh) (H:Hp) (vs:List V) (Q:VK) (E:XK),Room k (A.deeper (envOfC qual scope s.heap.objs.size f cdv))->sp vs H Q E->
   ∃ t,PSs (HY CX P w K mg base N qual scope f cdv A outer s H E) body t/\t {nx:=λ_ H'=>Q .non H',rt:=Q} (start N vs) H):
 FnOk P w K mg base CX (k+1) f (PySem.W.fnOf name qual params body scope dV kV doc pm an cdv ct) ps sp:=by
 refine⟨len,λA outer s H args us vs Q E hr e0 hb r hsp=>?_⟩;have hl:=len _ _ _ _ hsp;have KX:K.In s.heap:=e0.mod.kin.keeps λb o e=>(e0.bs b o e).1;have lim:s.heap.NoLimit:=e0.mod.nolimit.keeps λb o e=>(e0.bs b o e).1
 have hkind:∀ y∈ps.zip us,scope.names.lookup y.1=some .local\/(scope.names.lookup y.1=some .cell/\((Z5 (s.heap.objs.size+1) scope.names []).lookup y.1).isSome=true):=λ⟨n,v⟩ hy=>by
  rcases S.par n (Wd hy).1 with q | q
  ·exact .inl q
  ·exact .inr ⟨q,PySem.W.cellsFrom_some _ _ _ (.inl q)⟩
 refine codeAny_call_function hr.depth (KX _ _ lk) rfl S.co S.gen rfl (PySem.W.codeRec_of KX hcd) (hb _ _ _ _ ?_);refine wpAny_newFunctionEnv_cells S.kind hkind λenv he s1 x=>?_;subst he;refine⟨lim.keeps x.toInCall.keep,codeAny_func ?_⟩;obtain⟨t,ht,hq⟩:=hbody A outer s H vs Q E (hr.deeper _) hsp;have I:Inv (HY CX P w K mg base N qual scope f cdv A outer s H E) [] (start N vs) H s1:=KH S hr.hd e0 hl r x;refine Z6 (ht [] s1 (start N vs) H _ I hq) (λfl s' hs=>?_) λe s' hs=>hs
 have fin:∀{σ':St} {H':Hp} {v:V} {u:Yg},Inv (HY CX P w K mg base N qual scope f cdv A outer s H E) [] σ' H' s'->RelV v u->Q v H'->CE outer P w H s Q u s':=
  λ{σ' H' v u} J rv q=>⟨v,H',J.os,J.bare,J.base,J.hok,rv,q⟩
 cases fl with
 | ret u=>
   obtain⟨v,σ',H',J,rv,q⟩:=hs;exact fin J rv q
 | next=>
   obtain⟨σ',H',J,q⟩:=hs;exact fin (v:=V.non) (u:=Value.none) J rfl q
 | brk=>
   obtain⟨_,_,_,q⟩:=hs;exact False.elim q
 | cont=>
   obtain⟨_,_,_,q⟩:=hs;exact False.elim q
section
variable{X:Cx}{x:Str}{p pos:Pos}{e:Expr}{es:List Expr}{t:TA}{id T:String}{r:List V->Hp->VK->Prop}
def tCB(r:List V->Hp->VK->Prop)(t:TA):TE:=λσ H Q=>t σ H λvs H1=>r vs H1 Q
theorem u7(hc:CallR X (.builtin id) r)(hg:Gl X x)(hm:X.mg x=none)(hv:Yp x=some (.builtin id))(ha:PA X (e::es) t)(hn:x≠"__name__":=by decide)(hdb:(x == ("__debug__":Str))=false:=by decide)
 (he:Yr (e::es) X.env=(false,eval e X.env)::Yr es X.env:=by rfl) (hpl:(backTo pos (Yr es X.env)).any (·.1)=false:=by rfl):PE X (.Call (.Name x p) (e::es) [] pos) (tCB r t):=by
 intro pq s σ H Q I h;refine ZI (BF I hg hm hv ?_ hn hdb);exact PyProof.Rows.callWith_builtin1 (thn (ha pos pq s σ H _ I h) λus s1 ⟨vs,H1,I1,r1,q1⟩=>hc pq s1 σ H1 vs us Q I1 r1 q1) he hpl
theorem Bc(hc:CallR X (.type T) r)(hg:Gl X x)(hm:X.mg x=none)(hv:Yp x=some (.type T))(ha:PA X (e::es) t)(hn:x≠"__name__":=by decide)(hdb:(x == ("__debug__":Str))=false:=by decide)
 (he:Yr (e::es) X.env=(false,eval e X.env)::Yr es X.env:=by rfl) (hpl:(backTo pos (Yr es X.env)).any (·.1)=false:=by rfl):PE X (.Call (.Name x p) (e::es) [] pos) (tCB r t):=by
 intro pq s σ H Q I h;refine ZI (BF I hg hm hv ?_ hn hdb);exact PyProof.Rows.callWith_type1 (thn (ha pos pq s σ H _ I h) λus s1 ⟨vs,H1,I1,r1,q1⟩=>hc pq s1 σ H1 vs us Q I1 r1 q1) he hpl
end
end L2
namespace HT
open PySem PyProof.Rows
def lexLt:List Int->List Int->Bool
 | [],[]=>false
 | [],_::_=>true
 | _::_,[]=>false
 | x::xs,y::ys=>if x=y then lexLt xs ys else decide (x<y)
theorem HZ(x y:Int)(xs ys:List Int):lexLt (x::xs) (y::ys)=if x=y then lexLt xs ys else decide (x<y):=rfl
theorem Du:lexLt [] []=false:=rfl
theorem D8(y:Int)(ys:List Int):lexLt [] (y::ys)=true:=rfl
theorem D9(x:Int)(xs:List Int):lexLt (x::xs) []=false:=rfl
theorem Ln(A:Yt)(s:Yh)(a:Int)(t:Tok)(c:Int)(u:Tok):∃ e,SeqAt.EqAt A s (.int a t) (.int c u) e/\(e=true↔a=c):=
 ⟨(a == c),SeqAt.EqAt.int_int a t c u,by simp⟩
theorem rcLt_int(A:Yt)(s:Yh)(a:Int)(t:Tok)(c:Int)(u:Tok)(prog:Yn)(w:Yq)(E:Yg->Yh->Prop)(Q:Yg->Yh->Prop)(h:Q (.bool (decide (a<c))) s):
 Yk (Ym prog w) A (ZG .Lt (.int a t) (.int c u)) Q E s:=
 (PyProof.Rows.lt_int h:Yk (Ym prog w) A (Yv .Lt (.int a t) (.int c u)) Q E s)
section
open PySem.SeqAt
open PySem.AutoSeq1 (wpAny_loadPart')
open PySem.MeetsSeq PySem.MeetsSeq2 PySem.MeetsSeq3
theorem Dv(l b:Yi)(items items2:Array Yg)(n n2:Nat)(dd dd2:Option Yi)(sl sl2:Array (Option Yg))(ns ms:List Int)(hi:IntsAre items.toList ns)(hj:IntsAre items2.toList ms):
 Meets (Builtin.«tuple.__lt__» ⟨[.ref l,.ref b],[]⟩)
  (λ_ R s=>s.heap.get? l=some {cls := .type "tuple",dict:=dd,data := .seq items n,slots:=sl}/\s.heap.get? b=some {cls := .type "tuple",dict:=dd2,data := .seq items2 n2,slots:=sl2}/\
    R (.ok (.ret (.bool (lexLt ns ms)))) s):=
 .of_wp λprog w A R s h=>by
  obtain⟨hp,g,d,tk,os⟩:=s;obtain⟨hl,hb,h⟩:=h;have f2:=AutoSeq1.sub_tuple_tuple;have z1:items.size=ns.length:=by rw[<-hi.length];simp
  have z2:items2.size=ms.length:=by rw[<-hj.length];simp
  wp_walk using wpAny_loadPart' hl,wpAny_loadPart' hb,wpAny_forIn_list _ (λrest b s'=>b.1=none/\s'=⟨hp,g,d,tk,os⟩/\∃(vs ws:List Yg) (ns' ms':List Int),rest=vs.zip ws/\
   IntsAre vs ns'/\IntsAre ws ms'/\ns'.length+items2.size=ms'.length+items.size/\R (.ok (.ret (.bool (lexLt ns' ms')))) ⟨hp,g,d,tk,os⟩) _
  case turn=>
   rintro⟨y,x⟩ rest b s' ⟨hb',rfl,vs,ws,ns',ms',hz,hvi,hwi,hlen,hR⟩;cases hvi with
   | nil=>rw[List.zip_nil_left]at hz;cases hz
   | cons a t hvi'=>
     cases hwi with
     | nil=>rw[List.zip_nil_right]at hz;cases hz
     | cons c u hwi'=>
       rw[Y1]at hz;injection hz with hyx hrest;injection hyx with hy hx;subst hy hx;rw[HZ]at hR;simp only[VY]at hlen;obtain⟨e,he,hiff⟩:=Ln A.in1 ⟨hp,g,d,tk,os⟩ a t c u;refine Yf (he prog w _ _ ?_);cases e with
       | true=>
         rw[iP (hiff.mp rfl)]at hR
         wp_walk
         exact⟨rfl,rfl,_,_,_,_,hrest,hvi',hwi',by omega,hR⟩
       | false=>
         rw[iG (λq=>absurd (hiff.mpr q) VH)]at hR;have hri:=rcLt_int A.in1 ⟨hp,g,d,tk,os⟩ a t c u prog w
         wp_walk using hri
         exact⟨_,rfl,by simpa using hR⟩
  case fin=>
   rintro⟨b1,b2⟩ s' ⟨hb',rfl,vs,ws,ns',ms',hz,hvi,hwi,hlen,hR⟩;simp only at hb';subst hb'
   have hv:lexLt ns' ms'=decide (items.size<items2.size):=by
    cases hvi with
    | nil=>
      cases hwi with
      | nil=>
        simp only[W4]at hlen;rw[Du];exact(decide_eq_false (by omega)).symm
      | cons c u hw=>
        simp only[W4,VY]at hlen;rw[D8];exact(decide_eq_true (by omega)).symm
    | cons a t hv=>
      cases hwi with
      | nil=>
        simp only[W4,VY]at hlen;rw[D9];exact(decide_eq_false (by omega)).symm
      | cons c u hw=>
        rw[Y1]at hz;cases hz
   rw[hv]at hR
   wp_walk
   exact⟨_,rfl,by simpa[Builtin.Tuple.tupleCompareSizes] using hR⟩
  case h=>
   exact⟨rfl,rfl,items.toList,items2.toList,ns,ms,rfl,hi,hj,by omega,h⟩
end
section
variable{prog:Yn}{w:Yq}{A:Yt}{E:Yg->Yh->Prop}{s:Yh}
theorem lt_tupInts{l b:Yi}{items items2:Array Yg}{ns ms:List Int}{Q:Yg->Yh->Prop}(hl:IsTup s.heap l items)(hb:IsTup s.heap b items2)(hi:IntsAre items.toList ns)(hj:IntsAre items2.toList ms)
 (hu:A.units<cLine) (h:Q (.bool (lexLt ns ms)) s):Yk (Ym prog w) A (Yv .Lt (.ref l) (.ref b)) Q E s:=by
 obtain⟨⟨cls,dd,data,sl⟩,ho,hc,n,hd⟩:=id hl;obtain⟨⟨cls2,dd2,data2,sl2⟩,ho2,hc2,n2,hd2⟩:=id hb;simp only at hc hd hc2 hd2;subst hc hd hc2 hd2
 exact richCompare_meets_room (op := .Lt) ⟨_,ho,rfl⟩ ⟨_,ho2,rfl⟩ PySem.F.slot_tuple_lt PySem.F.entry_tuple_lt (PySem.F.args_tuple_lt_2 _ _) (Dv l b items items2 n n2 dd dd2 sl sl2 ns ms hi hj)
  ⟨ho,ho2,show Value.bool (lexLt ns ms)≠Value.notImplemented/\Q (.bool (lexLt ns ms)) s from ⟨(λx=>nomatch x),h⟩⟩ hu
def sIx(n d:Nat):Option Int->Nat
 | none=>d
 | some v=>if v<0 then (v+(n:Int)).toNat else min v.toNat n
theorem RU(n d:Nat)(hd:d<=n)(o:Option Int):sIx n d o<=n:=by
 cases o with
 | none=>exact hd
 | some v=>
   show(if v<0 then (v+(n:Int)).toNat else min v.toNat n)<=n;by_cases hv:v<0
   ·rw[iP hv];omega
   ·rw[iG hv];exact Nat.min_le_right _ _
theorem Iy(v:Int)(n d:Nat):(if v<0 then max (v+(n:Int)) 0 else min v (n:Int))=((sIx n d (some v):Nat):Int):=by
 show(if v<0 then max (v+(n:Int)) 0 else min v (n:Int))=(((if v<0 then (v+(n:Int)).toNat else min v.toNat n):Nat):Int)
 by_cases hv:v<0
 ·simp only[iP hv];omega
 ·simp only[iG hv];omega
theorem Ha(lo hi:Option Int)(n:Nat):Builtin.Slice.sliceAdjust lo hi 1 (n:Int)=(((sIx n 0 lo:Nat):Int),((sIx n n hi:Nat):Int)):=by
 have h1:¬ ((1:Int)<0):=by omega
 unfold Builtin.Slice.sliceAdjust;simp only[h1,if_false];refine Prod.ext ?_ ?_
 ·cases lo with
  | none=>rfl
  | some v=>exact Iy v n 0
 ·cases hi with
  | none=>rfl
  | some v=>exact Iy v n n
theorem Hb(i j:Nat):Builtin.Slice.slicePlaces (i:Int) (j:Int) 1=j - i:=by
 unfold Builtin.Slice.slicePlaces;have h1:(1:Int)>0:=by omega
 simp only[h1,if_true,Int.ediv_one];split<;>omega
theorem DA{v:Yg}{o:Option Int}{Q:Option Int->Yh->Prop}(p:IsPart v o)(h:Q o s):Yk (Ym prog w) A (Builtin.Slice.slicePartIndex v) Q E s:=by
 cases p with
 | none=>exact A0s h
 | int i t=>exact slicePart_int h
theorem Ap{sl:Yi}{vl vu:Yg}{lo hi:Option Int}{n:Nat}{Q:Int×Int×Nat->Yh->Prop}(hs:s.heap.IsSliceOf sl vl vu .none)(pl:IsPart vl lo)(pu:IsPart vu hi)
 (h:Q (((sIx n 0 lo:Nat):Int),1,sIx n n hi - sIx n 0 lo) s):Yk (Ym prog w) A (Builtin.Slice.sliceApplied (.ref sl) (pure (n:Int))) Q E s:=by
 obtain⟨os,hos,hcs,hds⟩:=id hs;unfold Builtin.Slice.sliceApplied Builtin.Slice.sliceFields;refine Yf (Yf (ZQ hos hds (x:=vl) rfl (Yf (ZQ hos hds (x:=vu) rfl (Yf (ZQ hos hds (x := .none) rfl (Yj ?_)))))));refine Yf (A0s ?_);show Yk _ _ (if ((1:Int) == 0)=true then _ else _) _ _ s;rw[iG (by decide)];refine Yf (DA pl (Yf (DA pu (Yf (Yj ?_)))));show Yk _ _ (match Builtin.Slice.sliceAdjust lo hi 1 (n:Int) with | (lo,hi)=>pure (lo,(1:Int),Builtin.Slice.slicePlaces lo hi 1)) _ _ s;rw[Ha lo hi n];show Yk _ _ (pure (((sIx n 0 lo:Nat):Int),(1:Int),Builtin.Slice.slicePlaces ((sIx n 0 lo:Nat):Int) ((sIx n n hi:Nat):Int) 1)) _ _ s;rw[Hb];exact Yj h
theorem Lo(xs:Array Yg)(i k:Nat):((VD k).filterMap λ(m:Nat)=>xs[((i:Int)+(m:Int) * 1).toNat]?).toArray=((xs.toList.drop i).take k).toArray:=by
 have e:(λ(m:Nat)=>xs[((i:Int)+(m:Int) * 1).toNat]?)=λm=>xs[i+m]?:=by
  funext m
  have:((i:Int)+(m:Int) * 1).toNat=i+m:=by omega
  rw[this]
 rw[e];have:=pick_run xs i k;rw[List.filterMap_map]at this;have e2:((λx=>xs[x]?)∘λx=>i+x)=λm=>xs[i+m]?:=rfl;rw[e2]at this;rw[this]
theorem getItem_tuple_cut{t sl:Yi}{items:Array Yg}{vl vu:Yg}{lo hi:Option Int}{Q:Yg->Yh->Prop}(ht:IsTup s.heap t items)(hs:s.heap.IsSliceOf sl vl vu .none)(pl:IsPart vl lo)(pu:IsPart vu hi)
 (hw:¬ (sIx items.size 0 lo=0/\sIx items.size items.size hi=items.size))
 (h:Q (.ref s.heap.objs.size) {s with heap:=s.heap.push {cls := .type "tuple",data := .seq ((items.toList.drop (sIx items.size 0 lo)).take (sIx items.size items.size hi - sIx items.size 0 lo)).toArray}})
 (hsz:items.size<=Yl):Yk (Ym prog w) A (getItem (.ref t) (.ref sl)) Q E s:=by
 have htake:sizeOk (.seq ((items.toList.drop (sIx items.size 0 lo)).take (sIx items.size items.size hi - sIx items.size 0 lo)).toArray):=by
  show((items.toList.drop (sIx items.size 0 lo)).take (sIx items.size items.size hi - sIx items.size 0 lo)).toArray.size<=Yl;rw[VC,Vy,Wn,Wm];omega
 have hj:sIx items.size items.size hi<=items.size:=RU _ _ (VF _) hi;obtain⟨os,hos,hcs,hds⟩:=id hs;have hTs:s.TypeIs (.ref sl) "slice":=⟨os,hos,hcs⟩
 unfold getItem
 try with_reducible refine Yz ?_
 first | refine Yf (Yj ?_) | skip
 refine Yf (A0e ht.typeIs (by decide) ?_)
 refine Yf (Yy (name:=Str.ofString "__getitem__") ht.typeIs PyProof.Rows.slot_tuple_getitem
  (Z8 PyProof.Rows.slot_tuple_getitem ht.typeIs A05 ?_ (A0a _ _)))
 show Yk _ _ (Builtin.Tuple.tupleItemsOf (.ref t) >>= _) _ _ s;refine Yf (tupleItemsOf_ ht ?_);refine Yf (A0f hTs ?_);rw[iP (by decide)];refine Yf (Ap hs pl pu ?_)
 have hno:¬ ((((sIx items.size 0 lo:Nat):Int) == 0&&(1:Int) == 1&&(sIx items.size items.size hi - sIx items.size 0 lo) == items.size)=true):=by
  intro q;rw[V6,V6]at q;have q1:((sIx items.size 0 lo:Nat):Int)=0:=eq_of_beq q.1.1;have q2:sIx items.size items.size hi - sIx items.size 0 lo=items.size:=eq_of_beq q.2;exact hw ⟨by omega,by omega⟩
 show Yk _ _ (if (((sIx items.size 0 lo:Nat):Int) == 0&&(1:Int) == 1&&(sIx items.size items.size hi - sIx items.size 0 lo) == items.size)=true then _ else _) _ _ s;rw[iG hno,Lo]
 first
  | exact Yf (m:=Builtin.Tuple.tupleExact _) (Ys (Yj ⟨_,rfl,Yj h⟩) htake)
  | exact Yf (m:=Builtin.Tuple.tupleExact _) (Ys (Yf (Yj (Yj ⟨_,rfl,Yj h⟩))) htake)
  | exact Yf (Yf (m:=Builtin.Tuple.tupleExact _) (Ys (Yj (Yj ⟨_,rfl,Yj h⟩)) htake))
  | exact Yf (Yf (m:=Builtin.Tuple.tupleExact _) (Ys (Yj ⟨_,rfl,Yj h⟩) htake))
end
end HT
namespace L2
open PySem PySem.Spec PyProof.Rows
abbrev TO:=St->Hp->(Option Int->Hp->Prop)->Prop
noncomputable def PO(X:Cx)(e:Option Expr)(t:TO):Prop:=
 ∀(pq:List (Yi×Obj)) (s:Yh) (σ:St) (H:Hp) (Q:Option Int->Hp->Prop),Inv X pq σ H s->t σ H Q->
  Yk (Ym X.prog X.w) X.A (evalPart e X.env) (λu s'=>∃ o H',Inv X pq σ H' s'/\IsPart u o/\Q o H') X.xe s
def OM:TO:=λ_ H Q=>Q none H
def Tj(t:TE):TO:=λσ H Q=>t σ H λx H1=>∃ i,x = .int i/\Q (some i) H1
section
variable{X:Cx}{e:Expr}{te:TE}{lo hi:Option Expr}{tl th:TO}{pos p2:Pos}
theorem ON:PO X none OM:=by
 intro pq s σ H Q I h;rw[evalPart_none];exact Yj ⟨none,H,I,.none,h⟩
theorem OO(h:PE X e te):PO X (some e) (Tj te):=by
 intro pq s σ H Q I hw;rw[evalPart_some];refine thn (h pq s σ H _ I hw) λu s1 ⟨x,H1,I1,r1,q1⟩=>?_;obtain⟨i,rfl,q⟩:=q1;obtain⟨t,rfl⟩:=r1;exact⟨some i,H1,I1,.int i t,q⟩
noncomputable def SlR(X:Cx)(r:V->Option Int->Option Int->Hp->VK->Prop):Prop:=
 ∀(pq:List (Yi×Obj)) (s:Yh) (σ:St) (H:Hp) (x:V) (v vl vu:Yg) (lo hi:Option Int) (sl:Yi) (Q:VK),Inv X pq σ H s->RelV x v->s.heap.IsSliceOf sl vl vu .none->IsPart vl lo->IsPart vu hi->r x lo hi H Q->
  ∃ T id,typeLookup (.type T) "__getitem__"=pure (some (.builtin id))/\s.TypeIs v T/\Yk (Ym X.prog X.w) X.A (getItem v (.ref sl)) (EP X pq σ Q) X.xe s
theorem SlR.or{r r':V->Option Int->Option Int->Hp->VK->Prop}(h:SlR X r)(h':SlR X r'):SlR X (λx lo hi H Q=>r x lo hi H Q\/r' x lo hi H Q):=by
 intro pq s σ H x v vl vu lo hi sl Q I rx hs pl pu q;rcases q with q | q
 ·exact h pq s σ H x v vl vu lo hi sl Q I rx hs pl pu q
 ·exact h' pq s σ H x v vl vu lo hi sl Q I rx hs pl pu q
def tSl(r:V->Option Int->Option Int->Hp->VK->Prop)(te:TE)(tl th:TO):TE:=λσ H Q=>te σ H λx H1=>tl σ H1 λl H2=>th σ H2 λu H3=>r x l u H3 Q
theorem Lp{r:V->Option Int->Option Int->Hp->VK->Prop}(hr:SlR X r)(he:PE X e te)(hl:PO X lo tl)(hu:PO X hi th):PE X (.Subscript e (.Slice lo hi none p2) pos) (tSl r te tl th):=by
 intro pq s σ H Q I h;refine A0t (thn (he pq s σ H _ I h) λv s1 ⟨x,H1,I1,r1,q1⟩=>?_);refine wpAny_Slice (thn (hl pq s1 σ H1 _ I1 q1) λvl s2 ⟨l,H2,I2,pl,q2⟩=>thn (hu pq s2 σ H2 _ I2 q2) λvu s3 ⟨u,H3,I3,pu,q3⟩=>?_);rw[evalPart_none];refine Yj ?_;have I4:Inv X pq σ H3 {s3 with heap:=s3.heap.push {cls := .type "slice",data := .fields #[vl,vu,.none]}}:=I3.kept (t':=s3.toks) λb ob q=>VE _ q;obtain⟨T,id,hT,ht,hg⟩:=hr pq {s3 with heap:=s3.heap.push {cls := .type "slice",data := .fields #[vl,vu,.none]}} σ H3 x v vl vu l u s3.heap.objs.size Q I4 r1 (Heap.IsSliceOf.new ..) pl pu q3;show Yk (Ym X.prog X.w) X.A (A08 e (.Slice lo hi none p2) v (.ref s3.heap.objs.size)) (EP X pq σ Q) X.xe {s3 with heap:=s3.heap.push {cls := .type "slice",data := .fields #[vl,vu,.none]}};exact tail_any (ops:=[.ref s3.heap.objs.size,v]) ht hT hg (by with_unfolding_all rfl)
def Fb(xs:List V)(lo hi:Option Int):List V:=(xs.drop (HT.sIx xs.length 0 lo)).take (HT.sIx xs.length xs.length hi - HT.sIx xs.length 0 lo)
theorem Cn(xs:List V)(lo hi:Option Int):(Fb xs lo hi).length<=xs.length:=by
 unfold Fb;rw[Vy,Wn];omega
def Tl(K:V5):V->Option Int->Option Int->Hp->VK->Prop:=λx lo hi H Q=>∃ a xs,x = .ref a/\SqT K H a xs/\
 ¬ (HT.sIx xs.length 0 lo=0/\HT.sIx xs.length xs.length hi=xs.length)/\∀ p,H p=none->Q (.ref p) (upd H p (.tup (Fb xs lo hi)))
theorem sl_tup:SlR X (Tl X.K):=by
 intro pq s σ H x v vl vu lo hi sl Q I rx hs pl pu h;obtain⟨a,xs,rfl,hx,hw,q⟩:=h;cases rx;obtain⟨its,r,ht,hz⟩:=I.tuple hx;have hlen:its.toArray.size=xs.length:=by rw[VC];exact r.length.symm
 refine⟨"tuple",_,PyProof.Rows.slot_tuple_getitem.lookup,ht.typeIs,?_⟩;refine HT.getItem_tuple_cut ht hs pl pu (by rw[hlen];exact hw) ?_ (by rw[hlen];exact hz);rw[hlen];refine⟨.ref s.heap.objs.size,_,I.laid (t':=s.toks) (o := .tup (Fb xs lo hi)) (λb ob q=>VE _ q) (VF _) ?_,rfl,q _ (I.hok.fresh (VF _))⟩;exact⟨Ve (Cn xs lo hi) hz,_,(r.drop (HT.sIx xs.length 0 lo)).take (HT.sIx xs.length xs.length hi - HT.sIx xs.length 0 lo),IsTup.new _ _⟩
end
def ixN(n:Nat)(i:Int):Option Nat:=if 0<=i then (if i<n then some i.toNat else none) else if -(n:Int)<=i then some (i+n).toNat else none
def atI{α:Type}(xs:List α)(i:Int):Option α:=(ixN xs.length i).bind λj=>xs[j]?
theorem Iz{n:Nat}{i:Int}{j:Nat}(h:ixN n i=some j):A0x i n=some j/\j<n /\ -(n:Int)<=i/\i<n:=by
 unfold ixN at h;by_cases h0:0<=i
 ·rw[iP h0]at h;by_cases h1:i<n
  ·rw[iP h1]at h;have e:i.toNat=j:=oj h;exact⟨by rw[A0l h0 h1,e],by omega,by omega,h1⟩
  ·rw[iG h1]at h;cases h
 ·rw[iG h0]at h;by_cases h1:-(n:Int)<=i
  ·rw[iP h1]at h;have e:(i+n).toNat=j:=oj h;exact⟨by rw[A0g (by omega) h1,e],by omega,h1,by omega⟩
  ·rw[iG h1]at h;cases h
theorem J1{α:Type}{xs:List α}{i:Int}{v:α}(h:atI xs i=some v):∃ j,A0x i xs.length=some j/\xs[j]?=some v/\j<xs.length /\ -(xs.length:Int)<=i/\i<xs.length:=by
 unfold atI at h;cases e:ixN xs.length i with
 | none=>rw[e]at h;cases h
 | some j=>
   rw[e]at h;obtain⟨h1,h2,h3,h4⟩:=Iz e;exact⟨j,h1,h,h2,h3,h4⟩
theorem f8{α:Type}{xs:List α}{j:Nat}{v:α}(h:xs[j]?=some v):atI xs (j:Int)=some v:=by
 have hj:j<xs.length:=(gM h).1
 have e:ixN xs.length (j:Int)=some j:=by
  unfold ixN;rw[iP (by omega),iP (by omega)];simp
 unfold atI;rw[e];exact h
theorem Lq{α:Type}(xs:List α)(v:α):atI (xs++[v]) (-1)=some v:=by
 have hl:(xs++[v]).length=xs.length+1:=by simp
 have e:ixN (xs++[v]).length (-1)=some xs.length:=by
  unfold ixN;rw[hl,iG (by decide),iP (by omega)]
  congr 1
  omega
 unfold atI;rw[e];show(xs++[v])[xs.length]?=some v;simp
def J2(b:Expr):Prop:=∀ o i,A01 b false o i=operate [o,i] (getItem o i)
noncomputable def IxR(X:Cx)(r:R2):Prop:=
 ∀(value slice:Expr) (pq:List (Yi×Obj)) (s:Yh) (σ:St) (H:Hp) (x y:V) (v u:Yg) (Q:VK),Inv X pq σ H s->RelV x v->RelV y u->r x y H Q->
  A01 slice false v u=operate [v,u] (getItem v u)->Yk (Ym X.prog X.w) X.A (A08 value slice v u) (EP X pq σ Q) X.xe s
noncomputable def MtR(X:Cx)(id:String)(r:V->List V->Hp->VK->Prop):Prop:=
 ∀(pq:List (Yi×Obj)) (s:Yh) (σ:St) (H:Hp) (x:V) (xs:List V) (v:Yg) (us:List Yg) (Q:VK),Inv X pq σ H s->RelV x v->Vals xs us->r x xs H Q->
  Yk (Ym X.prog X.w) X.A (call (.builtin id) (v::us)) (EP X pq σ Q) X.xe s
section
variable{X:Cx}{a b:Expr}{ta tb:TE}{pos:Pos}
theorem IxR.or{r r':R2}(h:IxR X r)(h':IxR X r'):IxR X (λx y H Q=>r x y H Q\/r' x y H Q):=by
 intro value slice pq s σ H x y v u Q I rx ry q hs;rcases q with q | q
 ·exact h value slice pq s σ H x y v u Q I rx ry q hs
 ·exact h' value slice pq s σ H x y v u Q I rx ry q hs
theorem Tm{r:R2}(hr:IxR X r)(ha:PE X a ta)(hb:PE X b tb)(hs:J2 b):PE X (.Subscript a b pos) (tOp r ta tb):=by
 intro pq s σ H Q I h;exact A0t (RH ha hb I h λv u s2 x y H2 I2 rx ry q=>hr a b pq s2 σ H2 x y v u Q I2 rx ry q (hs _ _))
def Tn(K:V5):R2:=λx y H Q=>∃ p xs i v,x = .ref p/\y = .int i/\SqL K H p xs/\atI xs i=some v/\Q v H
def To(K:V5):R2:=λx y H Q=>∃ p xs i v,x = .ref p/\y = .int i/\SqT K H p xs/\atI xs i=some v/\Q v H
theorem ix_list:IxR X (Tn X.K):=by
 intro value slice pq s σ H x y v u Q I rx ry h hs;obtain⟨p,xs,i,z,rfl,rfl,hq,he,q⟩:=h;cases rx;obtain⟨t,rfl⟩:=ry;obtain⟨its,r,pl,hz⟩:=I.list hq;obtain⟨j,h1,h2,h3,h4,h5⟩:=J1 he;obtain⟨w,ew,rw'⟩:=r.get h2;have hl:=r.length;have hn:=Bt;have fin:EP X pq σ Q w s:=⟨z,H,I,rw',q⟩
 by_cases h0:0<=i
 ·have hj:i.toNat=j:=by
   rw[A0l h0 h5]at h1;exact oj h1
  exact item_listR pl.isList h0 (by omega) (by rw[hj];simpa using ew) fin hs
 ·have hj:(i+(its.toArray.size:Int)).toNat=j:=by
   rw[A0g (by omega) h4]at h1;rw[VC,<-hl];exact oj h1
  exact Zv (x:=w) pl.isList.typeIs slot_list_getitem.lookup
   (wpAny_getItem_list_neg (Q:=λr s'=>r=w/\EP X pq σ Q r s') pl.isList (by omega) (by rw[VC]<;>omega) (by omega) (by rw[hj];simpa using ew) ⟨rfl,fin⟩) hs
theorem RV:IxR X (To X.K):=by
 intro value slice pq s σ H x y v u Q I rx ry h hs;obtain⟨p,xs,i,z,rfl,rfl,hq,he,q⟩:=h;cases rx;obtain⟨t,rfl⟩:=ry;obtain⟨its,r,pl,hz⟩:=I.tuple hq;obtain⟨j,h1,h2,h3,h4,h5⟩:=J1 he;obtain⟨w,ew,rw'⟩:=r.get h2;have hl:=r.length;have hn:=Bt;have fin:EP X pq σ Q w s:=⟨z,H,I,rw',q⟩
 exact Zv (x:=w) pl.typeIs slot_tuple_getitem.lookup
  (getItem_tuple (j:=j) (Q:=λr s'=>r=w/\EP X pq σ Q r s') pl (by omega) (by omega) (by rw[VC,<-hl];exact h1) (by simpa using ew) ⟨rfl,fin⟩) hs
theorem Hc(its:List Yg)(n j:Nat)(u:Yg):Obj.mapSeq (·.setIfInBounds j u) {cls := .type "list",data := .seq its.toArray n}={cls := .type "list",data := .seq (its.set j u).toArray n}:=by
 simp[Obj.mapSeq]
theorem Inv.lst{pq:List (Yi×Obj)}{σ:St}{H:Hp}{s:Yh}{p:Yi}{xs:List V}(I:Inv X pq σ H s)(h:H p=some (.lst xs)):
 ∃(its:List Yg) (n:Nat),Vals xs its/\s.heap.get? p=some {cls := .type "list",data := .seq its.toArray n}/\xs.length<=Yl:=by
 obtain⟨z,its,n,r,e⟩:=I.hok p _ h;exact⟨its,n,r,e,z⟩
theorem Inv.lstUpd{pq:List (Yi×Obj)}{σ:St}{H:Hp}{s:Yh}{p:Yi}{xs ys:List V}{its its':List Yg}{n n':Nat}{f:Obj->Obj}(I:Inv X pq σ H s)(h:H p=some (.lst xs))
 (ho:s.heap.get? p=some {cls := .type "list",data := .seq its.toArray n}) (hf:f {cls := .type "list",data := .seq its.toArray n}={cls := .type "list",data := .seq its'.toArray n'}) (r:Vals ys its') (hz:ys.length<=Yl) (t:Nat):
 Inv X pq σ (upd H p (.lst ys)) {s with heap:=s.heap.update p f,toks:=t}:=by
 have e:(s.heap.update p f).get? p=some {cls := .type "list",data := .seq its'.toArray n'}:=by
  rw[W2 f ho (by rw[hf]<;>rfl),hf]
 refine I.write (x:=p) (e:=p) (by rw[h];trivial) (.inl rfl) (λb u hb q=>(Vz _ _ (Ne.symm hb)).trans q) ⟨_,e⟩ ?_;exact⟨hz,its',n',r,e⟩
def EH:V->V->V->Hp->(Hp->Prop)->Prop:=λo i v H Q=>∃ p xs k j,o = .ref p/\i = .int k/\H p=some (.lst xs)/\ixN xs.length k=some j/\Q (upd H p (.lst (xs.set j v)))
theorem C6:RC X EH:=by
 intro pq s σ H o i v ov iv u Q I ro ri rv h;obtain⟨p,xs,k,j,rfl,rfl,hp,hj,q⟩:=h;cases ro;obtain⟨t,rfl⟩:=ri;obtain⟨its,n,r,ho,hz⟩:=I.lst hp;obtain⟨h1,h2,h3,h4⟩:=Iz hj;have hl:=r.length;have hn:=Bt
 have I':Inv X pq σ (upd H p (.lst (xs.set j v))) {s with heap:=s.heap.update p (Obj.mapSeq (·.setIfInBounds j u))}:=
  I.lstUpd hp ho (Hc its n j u) (r.set rv j) (by rw[Vp];exact hz) s.toks
 by_cases h0:0<=k
 ·have hk:k.toNat=j:=by
   rw[A0l h0 h4]at h1;exact oj h1
  exact PySem.W.ki_setAt ho h0 (by omega) (by rw[VC,<-hl];exact h4) (by rw[hk];exact⟨_,I',q⟩)
 ·have hk:(k+(its.toArray.size:Int)).toNat=j:=by
   rw[A0g (by omega) h3]at h1;rw[VC,<-hl];exact oj h1
  exact PySem.W.ki_setBack ho (by omega) (by rw[VC,<-hl];exact h3) (by omega) (by rw[hk];exact⟨_,I',q⟩)
theorem Ep(lo hi:Option Int)(n:Nat):(ZX lo hi none n).1=((HT.sIx n 0 lo:Nat):Int)/\(ZX lo hi none n).2.1=((HT.sIx n n hi:Nat):Int)/\(ZX lo hi none n).2.2=1:=by
 refine⟨?_,?_,rfl⟩
 ·cases lo with
  | none=>simp[ZX,HT.sIx]
  | some i=>
    simp only[ZX,HT.sIx,YB,show(1:Int)>0 by decide,if_true];by_cases h:i<0
    ·simp only[h,if_true]<;>omega
    ·simp only[h,if_false]<;>omega
 ·cases hi with
  | none=>simp[ZX,HT.sIx]
  | some i=>
    simp only[ZX,HT.sIx,YB,show(1:Int)>0 by decide,if_true];by_cases h:i<0
    ·simp only[h,if_true]<;>omega
    ·simp only[h,if_false]<;>omega
theorem Dw(its:List Yg)(lo hi:Option Int):slicePick its.toArray lo hi none=((its.drop (HT.sIx its.length 0 lo)).take (HT.sIx its.length its.length hi - HT.sIx its.length 0 lo)).toArray:=by
 obtain⟨h1,h2,h3⟩:=Ep lo hi its.toArray.size;unfold slicePick;rw[h1,h2,h3];simp only[sliceRange_one,pick_run,VC]<;>rfl
def Tp(K:V5):V->Option Int->Option Int->Hp->VK->Prop:=λx lo hi H Q=>∃ a xs,x = .ref a/\SqL K H a xs/\∀ p,H p=none->Q (.ref p) (upd H p (.lst (Fb xs lo hi)))
theorem sl_list:SlR X (Tp X.K):=by
 intro pq s σ H x v vl vu lo hi sl Q I rx hs pl pu h;obtain⟨a,xs,rfl,hx,q⟩:=h;cases rx;obtain⟨its,r,ht,hz⟩:=I.list hx;have hlen:=r.length;refine⟨"list",_,slot_list_getitem.lookup,ht.isList.typeIs,?_⟩;refine wpAny_getItem_list_slice ht.isList hs pl pu .none (by simp) ?_ (by rw[VC]<;>omega);rw[Dw,<-hlen];refine⟨.ref s.heap.objs.size,_,I.laid (t':=s.toks) (o := .lst (Fb xs lo hi)) (λb ob q=>VE _ q) (VF _) ?_,rfl,q _ (I.hok.fresh (VF _))⟩;exact⟨Ve (Cn xs lo hi) hz,_,0,(r.drop (HT.sIx xs.length 0 lo)).take (HT.sIx xs.length xs.length hi - HT.sIx xs.length 0 lo),VR _ rfl⟩
def A9:V->Bool
 | .non=>true
 | .bl _=>true
 | .int _=>true
 | .str _=>true
 | _=>false
def eqV:V->V->Bool
 | .non,.non=>true
 | .bl a,.bl b=>a == b
 | .bl a,.int b=>(if a then 1 else 0) == b
 | .int a,.bl b=>a == (if b then 1 else 0)
 | .int a,.int b=>a == b
 | .str a,.str b=>a == b
 | _,_=>false
theorem Lr{A:Yt}{s:Yh}{y x:V}{u v:Yg}(ry:RelV y u)(rx:RelV x v)(fy:A9 y=true)(fx:A9 x=true):SeqAt.EqAt A s u v (eqV y x):=by
 cases y with
 | non=>
   cases ry;cases x with
   | non=>cases rx;exact SeqAt.EqAt.same _
   | bl b=>cases rx;exact SeqAt.EqAt.none_bool b
   | int b=>obtain⟨t,rfl⟩:=rx;exact SeqAt.EqAt.none_int b t
   | str b=>obtain⟨t,rfl⟩:=rx;exact SeqAt.EqAt.none_str b t
   | _=>exact absurd (show false=true from fx) VH
 | bl a=>
   cases ry;cases x with
   | non=>cases rx;exact SeqAt.EqAt.bool_none a
   | bl b=>cases rx;exact SeqAt.EqAt.bool_bool a b
   | int b=>obtain⟨t,rfl⟩:=rx;exact SeqAt.EqAt.bool_int a b t
   | str b=>obtain⟨t,rfl⟩:=rx;exact SeqAt.EqAt.bool_str a b t
   | _=>exact absurd (show false=true from fx) VH
 | int a=>
   obtain⟨t',rfl⟩:=ry;cases x with
   | non=>cases rx;exact SeqAt.EqAt.int_none a t'
   | bl b=>cases rx;exact SeqAt.EqAt.int_bool a t' b
   | int b=>obtain⟨t,rfl⟩:=rx;exact SeqAt.EqAt.int_int a t' b t
   | str b=>obtain⟨t,rfl⟩:=rx;exact SeqAt.EqAt.int_str a t' b t
   | _=>exact absurd (show false=true from fx) VH
 | str a=>
   obtain⟨t',rfl⟩:=ry;cases x with
   | non=>cases rx;exact SeqAt.EqAt.str_none a t'
   | bl b=>cases rx;exact SeqAt.EqAt.str_bool a t' b
   | int b=>obtain⟨t,rfl⟩:=rx;exact SeqAt.EqAt.str_int a t' b t
   | str b=>obtain⟨t,rfl⟩:=rx;exact SeqAt.EqAt.str_str a t' b t
   | _=>exact absurd (show false=true from fx) VH
 | _=>exact absurd (show false=true from fy) VH
def eqU(x:V)(u:Yg):Bool:=match u with
 | .none=>eqV .non x
 | .bool b=>eqV (.bl b) x
 | .int i _=>eqV (.int i) x
 | .str z _=>eqV (.str z) x
 | _=>false
theorem Ls{x y:V}{u:Yg}(r:RelV y u)(f:A9 y=true):eqU x u=eqV y x:=by
 cases y with
 | non=>cases r;rfl
 | bl b=>cases r;rfl
 | int i=>obtain⟨t,rfl⟩:=r;rfl
 | str z=>obtain⟨t,rfl⟩:=r;rfl
 | _=>exact absurd (show false=true from f) VH
theorem C7{x:V}:∀{xs:List V} {us:List Yg},Vals xs us->xs.all A9=true->us.any (eqU x)=xs.any λy=>eqV y x
 | _,_,.nil,_=>rfl
 | y::xs,u::us,.cons r t,f=>by
   rw[W7,V6]at f;rw[W8,W8,Ls r f.1,C7 t f.2]
theorem BG{A:Yt}{s:Yh}{x:V}{v:Yg}(rx:RelV x v)(fx:A9 x=true):∀{xs:List V} {us:List Yg},Vals xs us->xs.all A9=true->∀ u∈us,SeqAt.EqAt A s u v (eqU x u)
 | _,_,.nil,_=>λu hu=>by cases hu
 | y::xs,u::us,.cons r t,f=>λu' hu=>by
   rw[W7,V6]at f;rcases VT.mp hu with rfl | hu
   ·rw[Ls r f.1];exact Lr r rx f.1 fx
   ·exact BG rx fx t f.2 u' hu
def inV(x:V)(xs:List V):Bool:=xs.any λy=>eqV y x
def rIn(K:V5)(neg:Bool):R2:=λx y H Q=>∃ p xs,y = .ref p/\(SqL K H p xs\/SqT K H p xs)/\A9 x=true/\xs.all A9=true/\Q (.bl (if neg then !inV x xs else inV x xs)) H
theorem KI:OpR X (Yv .In) (rIn X.K false):=by
 intro pq s σ H x y v u Q I rx ry h;obtain⟨p,xs,rfl,hq,fx,fs,q⟩:=h;cases ry;rcases hq with hq | hq
 ·obtain⟨its,r,pl,hz⟩:=I.list hq;refine SeqAt.in_listAt (eqU x) pl.isList (λw hw=>BG rx fx r fs w (by simpa using hw)) ⟨.bl _,H,I,rfl,?_⟩;rw[show its.toArray.any (eqU x)=its.any (eqU x) by simp,C7 r fs];exact q
 ·obtain⟨its,r,pl,hz⟩:=I.tuple hq;refine SeqAt.in_tupleAt (eqU x) pl (λw hw=>BG rx fx r fs w (by simpa using hw)) ⟨.bl _,H,I,rfl,?_⟩;rw[show its.toArray.any (eqU x)=its.any (eqU x) by simp,C7 r fs];exact q
theorem Er:OpR X (Yv .NotIn) (rIn X.K true):=by
 intro pq s σ H x y v u Q I rx ry h;obtain⟨p,xs,rfl,hq,fx,fs,q⟩:=h;cases ry;rcases hq with hq | hq
 ·obtain⟨its,r,pl,hz⟩:=I.list hq;refine SeqAt.notIn_listAt (eqU x) pl.isList (λw hw=>BG rx fx r fs w (by simpa using hw)) ⟨.bl _,H,I,rfl,?_⟩;rw[show its.toArray.any (eqU x)=its.any (eqU x) by simp,C7 r fs];exact q
 ·obtain⟨its,r,pl,hz⟩:=I.tuple hq;refine SeqAt.notIn_tupleAt (eqU x) pl (λw hw=>BG rx fx r fs w (by simpa using hw)) ⟨.bl _,H,I,rfl,?_⟩;rw[show its.toArray.any (eqU x)=its.any (eqU x) by simp,C7 r fs];exact q
theorem Es:CallR X (.builtin "len") (λxs H Q=>∃ p ys,xs=[.ref p]/\(SqL X.K H p ys\/SqT X.K H p ys)/\Q (.int ys.length) H):=by
 intro pq s σ H xs us Q I r h;obtain⟨p,ys,rfl,hq,q⟩:=h;obtain⟨u,rfl,rx⟩:=AQ r;cases rx;have hn:=Bt;rcases hq with hq | hq
 ·obtain⟨its,r',pl,hz⟩:=I.list hq;have hlen:=r'.length;exact Calls.call_len_list pl.isList (by simp only[VC]<;>omega) ⟨.int ys.length,H,I.tok _,⟨s.toks+1,by rw[VC,hlen]⟩,q⟩
 ·obtain⟨its,r',pl,hz⟩:=I.tuple hq;have hlen:=r'.length;exact len_tuple pl (by simp only[VC]<;>omega) ⟨.int ys.length,H,I.tok _,⟨s.toks+1,by rw[VC,hlen]⟩,q⟩
theorem CallR.or{f:Yg}{r r':List V->Hp->VK->Prop}(h:CallR X f r)(h':CallR X f r'):CallR X f (λxs H Q=>r xs H Q\/r' xs H Q):=by
 intro pq s σ H xs us Q I rs q;rcases q with q | q
 ·exact h pq s σ H xs us Q I rs q
 ·exact h' pq s σ H xs us Q I rs q
theorem Et:CallR X (.type "list") (λxs H Q=>∃ p ys,xs=[.ref p]/\(SqL X.K H p ys\/SqT X.K H p ys)/\∀ l,H l=none->Q (.ref l) (upd H l (.lst ys))):=by
 intro pq s σ H xs us Q I r h;obtain⟨p,ys,rfl,hq,q⟩:=h;obtain⟨u,rfl,rx⟩:=AQ r;cases rx
 have fin:∀(its:List Yg),Vals ys its->ys.length<=Yl->∀(h':Heap) (c':Nat),(∀ b o',s.heap.get? b=some o'->h'.get? b=some o')->
  h'.get? s.heap.objs.size=some {cls := .type "list",dict:=none,data := .seq its.toArray c',slots:=#[]}->EP X pq σ Q (.ref s.heap.objs.size) {s with heap:=h'}:=λits r' hz h' c' kp e=>
  ⟨.ref s.heap.objs.size,_,I.laid (t':=s.toks) kp (VF _) (show ObjOk X.prog X.w _ h' _ (.lst ys) from ⟨hz,its,c',r',e⟩),rfl,q _ (I.hok.fresh (VF _))⟩
 rcases hq with hq | hq
 ·obtain⟨its,r',pl,hz⟩:=I.list hq;have hlen:=r'.length;obtain⟨o,ho,hc,n,hd⟩:=pl.isList;exact call_list_seq p (.inl rfl) ho hc hd (λh' c' kp e=>fin its r' hz h' c' kp e) (by simp only[VC]<;>omega)
 ·obtain⟨its,r',pl,hz⟩:=I.tuple hq;have hlen:=r'.length;obtain⟨o,ho,hc,n,hd⟩:=pl;exact call_list_seq p (.inr rfl) ho hc hd (λh' c' kp e=>fin its r' hz h' c' kp e) (by simp only[VC]<;>omega)
theorem Dx:CallR X (.type "tuple") (λxs H Q=>∃ p ys,xs=[.ref p]/\((SqL X.K H p ys/\∀ l,H l=none->Q (.ref l) (upd H l (.tup ys)))\/(SqT X.K H p ys/\Q (.ref p) H))):=by
 intro pq s σ H xs us Q I r h;obtain⟨p,ys,rfl,h⟩:=h;obtain⟨u,rfl,rx⟩:=AQ r;cases rx;rcases h with⟨hq,q⟩ | ⟨hq,q⟩
 ·obtain⟨its,r',pl,hz⟩:=I.list hq;have hlen:=r'.length;refine call_tuple_list pl.isList (λh' kp=>?_) (by simp only[VC]<;>omega);have I1:Inv X pq σ H {s with heap:=h'}:=I.kept (t':=s.toks) kp
  have I2:Inv X pq σ (upd H h'.objs.size (.tup ys)) {s with heap:=h'.push {cls := .type "tuple",data := .seq its.toArray}}:=
   I1.laid (t':=s.toks) (λb o e=>VE _ e) (VF _) (show ObjOk X.prog X.w _ _ _ (.tup ys) from ⟨hz,its,r',IsTup.new _ _⟩)
  exact⟨.ref h'.objs.size,_,I2,rfl,q _ (I1.hok.fresh (VF _))⟩
 ·obtain⟨its,r',pl,hz⟩:=I.tuple hq;exact call_tuple_same pl ⟨.ref p,H,I,rfl,q⟩
def tyV(K:V5)(T:String)(x:V)(H:Hp):Prop:=match x with
 | .str _=>T="str"
 | .int _=>T="int"
 | .ref p=>(T="list"/\∃ xs,SqL K H p xs)\/(T="tuple"/\∃ o,K.lookup p=some o/\o.cls = .type "tuple"/\o.dict=none)\/
    (T="dict"/\((∃ kvs,H p=some (.dK kvs))\/∃ kvs,H p=some (.dT kvs)))\/(T="set"/\∃ S n,H p=some (.set S n))
 | _=>False
theorem Lu{pq:List (Yi×Obj)}{σ:St}{H:Hp}{s:Yh}{T:String}{x:V}{v:Yg}(I:Inv X pq σ H s)(r:RelV x v)(ty:tyV X.K T x H):
 s.TypeIs v T/\∀ a,v = .ref a->∃ ob,s.heap.get? a=some ob/\ob.dict=none:=by
 cases x with
 | str z=>
   obtain⟨t,rfl⟩:=r;cases(show T="str" from ty);exact⟨typeIs_str s z t,λ_ e=>nomatch e⟩
 | int i=>
   obtain⟨t,rfl⟩:=r;cases(show T="int" from ty);exact⟨Zw s i t,λ_ e=>nomatch e⟩
 | ref p=>
   cases r;rcases ty with⟨rfl,xs,hq⟩ | ⟨rfl,o,hk,hc,hd⟩ | ⟨rfl,hk⟩ | ⟨rfl,S,n,hk⟩
   ·obtain⟨its,_,pl,_⟩:=I.list hq;refine⟨pl.isList.typeIs,λa e=>?_⟩;cases e;obtain⟨o,n,e,c,hd,_⟩:=pl;exact⟨o,e,hd⟩
   ·refine⟨⟨o,I.kIn p o hk,hc⟩,λa e=>?_⟩;cases e;exact⟨o,I.kIn _ o hk,hd⟩
   ·have z:∃ o,s.heap.get? p=some o/\o.ExactDict:=by
     rcases hk with⟨kvs,hk⟩ | ⟨kvs,hk⟩
     ·obtain⟨_,_,_,_,o,_,_,e,ex,_⟩:=I.hok p _ hk;exact⟨o,e,ex⟩
     ·obtain⟨_,_,_,_,o,_,_,e,ex,_⟩:=I.hok p _ hk;exact⟨o,e,ex⟩
    obtain⟨o,e,ex⟩:=z;refine⟨⟨o,e,ex.1⟩,λa e2=>?_⟩;cases e2;exact⟨o,e,ex.2.1⟩
   ·obtain⟨o,_,_,_,e,ex,_⟩:=I.hok p _ hk;refine⟨⟨o,e,ex.1⟩,λa e2=>?_⟩;cases e2;exact⟨o,e,ex.2.1⟩
 | _=>exact False.elim ty
def RW(K:V5)(T:String)(r:V->List V->Hp->VK->Prop)(to:TE):TE:=λσ H Q=>to σ H λx H1=>tyV K T x H1/\r x [] H1 Q
def tBM(K:V5)(T:String)(r:V->List V->Hp->VK->Prop)(to:TE)(t:TA):TE:=λσ H Q=>to σ H λx H1=>tyV K T x H1/\t σ H1 λxs H2=>r x xs H2 Q
variable{o e:Expr}{es:List Expr}{to:TE}{t:TA}{name:Str}{apos cpos:Pos}{T id:String}{r:V->List V->Hp->VK->Prop}
theorem DB(pa:PlainAttrs T)(slot:Slot T name id)(hty:typeOf (.builtin id)=pure (.type "method_descriptor"))(hm:MtR X id r)(ho:PE X o to)
 (hbase:ZT o name X.env (eval o X.env)=eval o X.env:=by rfl) (hline:(apos.endLine == cpos.line)=true:=by rfl):PE X (.Call (.Attribute o name apos) [] [] cpos) (RW X.K T r to):=by
 intro pq s σ H Q I h;refine Zr hbase hline (thn (ho pq s σ H _ I h) λv s1 ⟨x,H1,I1,r1,ty,q1⟩=>?_);obtain⟨h1,h2⟩:=Lu I1 r1 ty;exact⟨T,id,pa,slot,hty,h1,h2,Calls.callWith_builtin rfl (PySem.evalArgs_none (hm pq s1 σ H1 x [] v [] Q I1 r1 .nil q1))⟩
theorem Fc(pa:PlainAttrs T)(slot:Slot T name id)(hty:typeOf (.builtin id)=pure (.type "method_descriptor"))(hm:MtR X id r)(ho:PE X o to)(ha:PA X (e::es) t)
 (hbase:ZT o name X.env (eval o X.env)=eval o X.env:=by rfl)
 (hfew:((backTo cpos (Yr (e::es) X.env)).all (λx=>!x.1)&&(Zj cpos (ZP [] X.env)).all (λx=>x.1.isSome)
   && decide ((e::es).length+([]:List Keyword).length+(if ([]:List Keyword).isEmpty then 0 else 1)<30))=true:=by rfl)
 (hline:(apos.endLine == cpos.line)=true:=by rfl) (hs:Yr (e::es) X.env=(false,eval e X.env)::Yr es X.env:=by rfl) (hplain:(backTo cpos (Yr es X.env)).any (·.1)=false:=by rfl):
 PE X (.Call (.Attribute o name apos) (e::es) [] cpos) (tBM X.K T r to t):=by
 intro pq s σ H Q I h;refine wpAny_Call_method_late hbase hfew hline rfl (thn (ho pq s σ H _ I h) λv s1 ⟨x,H1,I1,r1,ty,q1⟩=>?_);obtain⟨h1,h2⟩:=Lu I1 r1 ty;refine⟨T,id,pa,slot,hty,h1,h2,?_⟩;have hA:=ha cpos pq s1 σ H1 _ I1 q1;rw[hs]at hA ⊢;refine Calls.callWith_builtin (by show(false||(backTo cpos (Yr es X.env)).any (·.1))=false;rw[hplain]<;>rfl) (Calls.evalArgs_plain ?_);exact thn hA λus s2 ⟨vs,H2,I2,r2,q2⟩=>hm pq s2 σ H2 x vs v us Q I2 r1 r2 q2
end
noncomputable def MtM(X:Cx)(id:String)(r:V->List V->Hp->VK->Prop):Prop:=
 ∀(pq:List (Yi×Obj)) (s:Yh) (σ:St) (H:Hp) (x:V) (xs:List V) (v:Yg) (us:List Yg) (Q:VK),Inv X pq σ H s->RelV x v->Vals xs us->r x xs H Q->
  Yk (Ym X.prog X.w) X.A (call (.builtin id) (v::us)) (EP X pq σ Q) X.xe s
theorem Vals.one{x:V}{us:List Yg}(h:Vals [x] us):∃ u,us=[u]/\RelV x u:=by
 cases h with
 | cons r q=>cases q;exact⟨_,rfl,r⟩
theorem Vals.two{x y:V}{us:List Yg}(h:Vals [x,y] us):∃ u v,us=[u,v]/\RelV x u/\RelV y v:=by
 cases h with
 | cons r q=>
   obtain⟨v,rfl,s⟩:=Vals.one q;exact⟨_,v,rfl,r,s⟩
theorem Vals.zero:∀{us:List Yg},Vals [] us->us=[]
 | _,.nil=>rfl
theorem Vals.dropLast{xs:List V}{us:List Yg}(h:Vals xs us):Vals xs.dropLast us.dropLast:=by
 induction h with
 | nil=>exact .nil
 | cons r t ih=>
   cases t with
   | nil=>exact .nil
   | cons q t'=>exact .cons r ih
theorem Vals.eraseIdx:∀{xs:List V} {us:List Yg} (i:Nat),Vals xs us->Vals (xs.eraseIdx i) (us.eraseIdx i)
 | _,_,_,.nil => .nil
 | _,_,0,.cons _ t=>t
 | _,_,i+1,.cons r t => .cons r (Vals.eraseIdx i t)
theorem Vals.reverse{xs:List V}{us:List Yg}(h:Vals xs us):Vals xs.reverse us.reverse:=by
 induction h with
 | nil=>exact .nil
 | cons r t ih=>rw[Wf,Wf];exact Vals.append ih (.cons r .nil)
theorem Vals.rep{xs:List V}{us:List Yg}(h:Vals xs us):∀ k:Nat,Vals (VL k xs).flatten (VL k us).flatten
 | 0 => .nil
 | k+1=>by
   rw[Vj,Vj,WM,WM];exact Vals.append h (Vals.rep h k)
theorem Hd{α:Type}(l:List α):l.eraseIdx (l.length - 1)=l.dropLast:=by
 induction l with
 | nil=>rfl
 | cons a r ih=>
   cases r with
   | nil=>rfl
   | cons b r=>
     have e:(a::b::r).length - 1=((b::r).length - 1)+1:=by
      have h1:(a::b::r).length=r.length+2:=rfl;have h2:(b::r).length=r.length+1:=rfl;omega
     rw[e,List.eraseIdx_cons_succ,ih]
     all_goals rfl
theorem EI{α:Type}:∀(l:List α) (i:Nat),(l.eraseIdx i).length<=l.length
 | [],_=>VF _
 | _::_,0=>XT _
 | _::r,i+1=>X9 (EI r i)
theorem EJ(its:List Yg):∀(k:Nat) (acc:List Yg),
 YO (λx1 x2=>x1++x2) acc.toArray (VL k its.toArray)=(acc++(VL k its).flatten).toArray
 | 0,acc=>by simp
 | k+1,acc=>by
   have e:acc.toArray++its.toArray=(acc++its).toArray:=by simp
   have e2:(acc++its)++(VL k its).flatten=acc++(VL (k+1) its).flatten:=by
    rw[Vj,WM,XU]
   rw[<-e2,<-EJ its k (acc++its),<-e,Vj,List.foldl_cons]
section
variable{X:Cx}{pq:List (Yi×Obj)}{σ:St}{H:Hp}{s:Yh}{l b:Yi}{xs ys zs:List V}
theorem Inv.lset{its its':List Yg}{n:Nat}{f:Array Yg->Array Yg}{t':Nat}(I:Inv X pq σ H s)(hH:H l=some (.lst xs))
 (e:s.heap.get? l=some {cls := .type "list",data := .seq its.toArray n}) (hf:f its.toArray=its'.toArray) (hv:Vals ys its') (hz:ys.length<=Yl):
 Inv X pq σ (upd H l (.lst ys)) {s with heap:=s.heap.update l (Obj.mapSeq f),toks:=t'}:=by
 have q:=PySem.IsL.update e f;rw[hf]at q;refine I.write (x:=l) (e:=l) (by rw[hH];exact trivial) (.inl rfl) (λb' u hb hu=>(Vz s.heap (Obj.mapSeq f) (Ne.symm hb)).trans hu) ⟨_,q⟩ ?_;exact⟨hz,its',_,hv,q⟩
theorem Inv.lnew{its:List Yg}{t':Nat}(I:Inv X pq σ H s)(hv:Vals ys its)(hz:ys.length<=Yl):
 Inv X pq σ (upd H s.heap.objs.size (.lst ys)) {s with heap:=s.heap.push {cls := .type "list",data := .seq its.toArray},toks:=t'}:=
 I.laid (λ_ _ q=>VE _ q) (VF _) ⟨hz,its,0,hv,VR _ rfl⟩
theorem Inv.fresh(I:Inv X pq σ H s):H s.heap.objs.size=none:=I.hok.fresh (VF _)
theorem Inv.lstM(I:Inv X pq σ H s)(hH:H l=some (.lst xs)):xs.length<=Yl/\∃(its:List Yg) (n:Nat),Vals xs its/\xs.length=its.length/\s.heap.get? l=some {cls := .type "list",data := .seq its.toArray n}:=by
 obtain⟨z,its,n,r,e⟩:=I.hok l _ hH;exact⟨z,its,n,r,r.length,e⟩
theorem Fd{n:Nat}(h:n<=Yl):Builtin.List.listTooLong n=false:=by
 unfold Builtin.List.listTooLong;exact decide_eq_false (by omega)
end
section
variable{X:Cx}
def J3:V->List V->Hp->VK->Prop:=λx vs H Q=>∃ l xs y,x = .ref l/\vs=[y]/\H l=some (.lst xs)/\xs.length<Yl/\Q .non (upd H l (.lst (xs++[y])))
theorem CP:MtM X "list.append" J3:=by
 intro pq s σ H x vs v us Q I rx rv h;obtain⟨l,xs,y,rfl,rfl,hH,hz,q⟩:=h;cases rx;obtain⟨u,rfl,ru⟩:=rv.one;obtain⟨z,its,n,r,hl,e⟩:=I.lstM hH;refine ZV F.slot_list_append ⟨_,e,rfl⟩ F.entry_list_append (F.args_list_append_2 _ _) (PySem.list_append l its.toArray n u (by rw[VC];omega)) ⟨e,?_⟩;refine⟨.non,_,I.lset (its':=its++[u]) hH e (by simp) (r.append (.cons ru .nil)) ?_,rfl,q⟩;rw[V8,Vw];omega
def J4:V->List V->Hp->VK->Prop:=λx vs H Q=>∃ l b xs zs,x = .ref l/\vs=[.ref b]/\H l=some (.lst xs)/\H b=some (.lst zs)/\xs.length+zs.length<=Yl/\Q .non (upd H l (.lst (xs++zs)))
theorem EK:MtM X "list.extend" J4:=by
 intro pq s σ H x vs v us Q I rx rv h;obtain⟨l,b,xs,zs,rfl,rfl,hH,hB,hz,q⟩:=h;cases rx;obtain⟨u,rfl,ru⟩:=rv.one;cases ru;obtain⟨z,its,n,r,hl,e⟩:=I.lstM hH;obtain⟨z2,its2,n2,r2,hl2,e2⟩:=I.lstM hB;have hsz:its.toArray.size+its2.toArray.size<=Yl:=by rw[VC,VC];omega
 have hlong:¬ (!its.toArray.isEmpty&&Builtin.List.listTooLong (its.toArray.size+its2.toArray.size))=true:=by
  rw[Fd hsz,Bool.and_false];exact VH
 refine ZV F.slot_list_extend ⟨_,e,rfl⟩ F.entry_list_extend (F.args_list_extend_2 _ _)
  (AutoSeq1.list_extend_list_list_0 l its.toArray n b its2.toArray n2 hlong (by rw[VC];omega) (by omega)) ⟨e,e2,?_⟩
 refine⟨.non,_,I.lset (its':=its++its2) hH e (by simp) (r.append r2) ?_,rfl,q⟩;rw[V8];omega
def Tq:V->List V->Hp->VK->Prop:=λx vs H Q=>∃ l xs y,x = .ref l/\vs=[]/\H l=some (.lst xs)/\xs[xs.length - 1]?=some y/\Q y (upd H l (.lst xs.dropLast))
theorem Lv:MtM X "list.pop" Tq:=by
 intro pq s σ H x vs v us Q I rx rv h;obtain⟨l,xs,y,rfl,rfl,hH,hy,q⟩:=h;cases rx;have hus:=rv.zero;subst hus;obtain⟨z,its,n,r,hl,e⟩:=I.lstM hH;obtain⟨u,hu,ru⟩:=r.get hy
 have hy':its.toArray[its.toArray.size - 1]?=some u:=by
  show its.toArray[its.length - 1]?=some u;rw[<-Wu,<-hl];exact hu
 refine ZV F.slot_list_pop ⟨_,e,rfl⟩ F.entry_list_pop (F.args_list_pop_1 _) (MeetsSeq.list_pop_last l its.toArray n u hy' (by rw[VC];omega)) ⟨e,?_⟩;refine⟨y,_,I.lset (its':=its.dropLast) hH e ?_ r.dropLast ?_,ru,q⟩
 ·show its.toArray.eraseIdxIfInBounds (its.toArray.size - 1)=its.dropLast.toArray;rw[VC,X7,Hd]
 ·rw[List.length_dropLast];omega
def Lw:V->List V->Hp->VK->Prop:=λx vs H Q=>∃ l xs i k y,x = .ref l/\vs=[.int i]/\H l=some (.lst xs) /\ -(2 ^ 63)<=i/\i<2 ^ 63/\A0x i xs.length=some k/\xs[k]?=some y/\Q y (upd H l (.lst (xs.eraseIdx k)))
theorem Fe:MtM X "list.pop" Lw:=by
 intro pq s σ H x vs v us Q I rx rv h;obtain⟨l,xs,i,k,y,rfl,rfl,hH,h1,h2,hk,hy,q⟩:=h;cases rx;obtain⟨u,rfl,ru⟩:=rv.one;obtain⟨t,rfl⟩:=ru;obtain⟨z,its,n,r,hl,e⟩:=I.lstM hH;obtain⟨w,hw,rw'⟩:=r.get hy
 refine ZV F.slot_list_pop ⟨_,e,rfl⟩ F.entry_list_pop (F.args_list_pop_2 _ _)
  (MeetsSeq.list_pop_at l its.toArray n i t k w (A02 h1 h2) (by rw[VC,<-hl];exact hk) (by rw[<-Wu];exact hw) (by rw[VC];omega)) ⟨e,?_⟩
 refine⟨y,_,I.lset (its':=its.eraseIdx k) hH e ?_ (r.eraseIdx k) ?_,rw',q⟩
 ·show its.toArray.eraseIdxIfInBounds k=(its.eraseIdx k).toArray;rw[X7]
 ·have:=EI xs k;omega
def Ff:V->List V->Hp->VK->Prop:=λx vs H Q=>∃ l xs,x = .ref l/\vs=[]/\H l=some (.lst xs)/\Q .non (upd H l (.lst xs.reverse))
theorem DC:MtM X "list.reverse" Ff:=by
 intro pq s σ H x vs v us Q I rx rv h;obtain⟨l,xs,rfl,rfl,hH,q⟩:=h;cases rx;have hus:=rv.zero;subst hus;obtain⟨z,its,n,r,hl,e⟩:=I.lstM hH;refine ZV F.slot_list_reverse ⟨_,e,rfl⟩ F.entry_list_reverse (F.args_list_reverse_1 _) (AutoSeq1.list_reverse_list_0 l its.toArray n (by rw[VC];omega)) ⟨e,?_⟩;refine⟨.non,_,I.lset (its':=its.reverse) hH e (by simp) r.reverse ?_,rfl,q⟩;rw[X0];omega
def Tr:R2:=λx y H Q=>∃ l b xs zs,x = .ref l/\y = .ref b/\H l=some (.lst xs)/\H b=some (.lst zs)/\xs.length+zs.length<=Yl/\∀ p,H p=none->Q (.ref p) (upd H p (.lst (xs++zs)))
theorem RX:OpR X (ZS .Add) Tr:=by
 intro pq s σ H x y v u Q I rx ry h;obtain⟨l,b,xs,zs,rfl,rfl,hH,hB,hz,q⟩:=h;cases rx;cases ry;obtain⟨z,its,n,r,hl,e⟩:=I.lstM hH;obtain⟨z2,its2,n2,r2,hl2,e2⟩:=I.lstM hB;refine PySem.P.add_list e e2 ?_ (by rw[VC,VC];omega);have ea:its.toArray++its2.toArray=(its++its2).toArray:=by simp
 rw[ea];exact⟨.ref _,_,I.lnew (t':=s.toks) (r.append r2) (by rw[V8];omega),rfl,q _ I.fresh⟩
def Tt:R2:=λx y H Q=>∃ l k xs,x = .ref l/\y = .int k/\H l=some (.lst xs) /\ -(2 ^ 63)<=k/\k<2 ^ 63/\xs.length * k.toNat<=Yl/\
 ∀ p,H p=none->Q (.ref p) (upd H p (.lst (VL k.toNat xs).flatten))
theorem OP{α:Type}(xs:List α)(k:Nat):(VL k xs).flatten.length=k * xs.length:=by
 induction k with
 | zero=>simp
 | succ k ih=>rw[Vj,WM,V8,ih,X5,Nat.add_comm]
theorem RY:OpR X (ZS .Mult) Tt:=by
 intro pq s σ H x y v u Q I rx ry h;obtain⟨l,k,xs,rfl,rfl,hH,h1,h2,hz,q⟩:=h;cases rx;obtain⟨t,rfl⟩:=ry;obtain⟨z,its,n,r,hl,e⟩:=I.lstM hH;have hlen:its.toArray.size * k.toNat<=Yl:=by rw[VC,<-hl];exact hz
 have hcap:¬ its.toArray.size * k.toNat>(2 ^ 63 - 1) / 8:=by
  have:(Yl:Nat)<=(2 ^ 63 - 1) / 8:=by decide
  omega
 have hfit:¬ (!Builtin.List.listFitsIndex k)=true:=by
  rw[A02 h1 h2];exact VH
 have hlong:¬ Builtin.List.listTooLong (its.toArray.size * k.toNat)=true:=by
  rw[Fd hlen];exact VH
 have hnew:YO (λx1 x2=>x1++x2) #[] (VL (if its.toArray.isEmpty=true then 0 else k.toNat) its.toArray)=(VL k.toNat its).flatten.toArray:=by
  have f0:∀ m:Nat,YO (λx1 x2=>x1++x2) #[] (VL m its.toArray)=(VL m its).flatten.toArray:=λm=>by
   have:=EJ its m [];rw[Xp]at this;exact this
  rw[f0];cases its with
  | nil=>simp
  | cons a r'=>rw[iG (by simp)]
 refine wpAny_binaryOp_repeat_ref (T:="list") (U:="int") (by decide) ⟨_,e,rfl⟩ (λs'=>Zw s' k t) noFill_list_mul F.fills_int_mul F.slot_int_rmul repeat_list F.slot_int_index.lookup
  (ZV F.slot_int_rmul (Zw s k t) F.entry_int_rmul (F.args_int_rmul_2 _ _) (int___rmul___int_list k t l its.toArray n)
    ⟨e,rfl,⟨_,e,rfl⟩,ZV F.slot_list_mul ⟨_,e,rfl⟩ F.entry_list_mul (F.args_list_mul_2 _ _) (AutoListH.list___mul___list_int_3 l its.toArray n k t hfit hcap hlong) ⟨e,?_⟩⟩)
 rw[hnew];exact⟨.ref _,_,I.lnew (t':=s.toks) (r.rep k.toNat) (by rw[OP,Nat.mul_comm];exact hz),rfl,q _ I.fresh⟩
end
end L2
namespace Att
open PySem PySem.W PySem.Calls PyProof.Rows
theorem Cr{P:Params}{h:Heap}:∀(ns:List Int) (vs:List Yg),WellAll P h vs (ns.map WData.int)->IntsAre vs ns:=by
 intro ns
 induction ns with
 | nil=>
   intro vs w;rw[Ya]at w;cases w;exact .nil
 | cons n ns ih=>
   intro vs w;rw[Vh]at w;cases w with
   | cons a b=>
     cases a;exact .cons _ _ (ih _ b)
theorem KJ{l:OpenLaw}{n:Nat}(hn:l.most=some n){P:Params}{h:Heap}{args:List WData}{vals:List Yg}
 (hpre:l.row.toRowW.claim.pre args=true) (hwl:WellAll P h vals args):
 ∃ a vs ns,vals=[Value.ref a]/\args=[WData.list (ns.map WData.int)]/\h.get? a=some {cls := .type "list",data := .seq vs.toArray}/\IntsAre vs ns/\ns.length<=n:=by
 have hsh:WShape.hasAll [] args [.list .int]=true:=(pre_splitW hpre).1;have hc:l.pre.holds [] {args:=args}=true:=(pre_splitW hpre).2;obtain⟨d,r,rfl,h1,h2⟩:=hasAllW_cons hsh;obtain rfl:=hasAllW_nil h2;obtain⟨xs,rfl,h3⟩:=hasW_list h1;obtain⟨ns,rfl⟩:=items_int h3
 have hlen:ns.length<=n:=by
  unfold OpenLaw.pre at hc
  have h4:(WTm.not (.lt (.lit (.int (n:Int))) (.len (.arg 0)))).holds [] {args:=[.list (ns.map .int)]}=true:=by
   have h4:=(holds_andW hc).1;rw[hn]at h4;exact h4
  have h5:=condW_of h4 (w_not (w_lt w_lit (w_len_list (w_arg rfl))));rw[V7]at h5;refine YC λq=>?_;have q':(n:Int)<((ns.length:Nat):Int):=by omega
  first
   | (rw[decide_eq_true q']at h5;exact absurd h5 (by decide))
   | (simp at h5;omega)
 cases hwl with
 | cons w1 w2=>
   cases w2;cases w1 with
   | list ho hall=>exact⟨_,_,ns,rfl,rfl,ho,Cr ns _ hall,hlen⟩
theorem KK(l:OpenLaw)(args:List WData):l.row.toRowW.claim.post args (.bool true) args=true:=
 postW_of (r:=l.row.toRowW) (X:=(true == true))
  (show WShape.has [] (.bool true) .bool=true by first | rfl | decide | simp[WShape.has,WShape.arms,WShape.armsAll])
  (show(WTm.eq .res (.lit (.bool true))).value [] {args:=args,res:=some (.bool true),after:=args}=some (.bool (true == true)) from w_eq_bool (w_res rfl) w_lit) rfl
theorem attach_call{l:OpenLaw}{n:Nat}{q:Yn}{loose:List Str}{XP:(Str->Option Yg)->Heap->Prop}{YP:Yq->Heap->Prop}{d:DefRec}
 (hn:l.most=some n) (hdf:d.params.defaults=[])
 (call:∀(w:Yq) (s₀ s₁:Yh) (mg mb:Str->Option Yg) (fa:Yi) (o:Obj) (pm cd doc:Yg) (a:Yi) (vs:List Yg) (ns:List Int),
   Ground q loose [] XP w s₀ mg mb s₁.heap->YP w s₁.heap->
   s₁.heap.get? fa=some o->o.data = .func (docDef d.name d.params d.body d.scope pm cd doc)->s₁.heap.CodeRec cd d.name->mg d.name=some (.ref fa)->
   s₁.heap.get? a=some {cls := .type "list",data := .seq vs.toArray}->IntsAre vs ns->ns.length<=n->s₁.gens=#[]->
   codeAny (Ym l.prog w) callerA (.call (.ref fa) ⟨[.ref a],[]⟩) (λr s'=>r = .ok (.ret (.bool true))/\OldK s₁.heap s'.heap/\s'.os=s₁.os/\AllBare s'.gens) s₁):
 WalkO q loose XP YP l.row.toRowW d [] (λf vs=>PySem.call f vs):=by
 intro w s₀ s₁ mg mb G Y fa o pm cd doc dV kV ho hd hcd hD hmg hg args vals as hpre hlay hrd hwl hlo;obtain rfl:dV = .none:=Dflts.none hD hdf;obtain rfl:kV = .none:=Dflts.noKw hD;obtain⟨a,vs,ns,rfl,rfl,hobj,hints,hlen⟩:=KJ hn hpre hwl;refine enter_call (A0d (call w s₀ s₁ mg mb fa o pm cd doc a vs ns G Y ho (fd_plain hd) hcd hmg hobj hints hlen hg) λr s' hq=>?_);obtain⟨rfl,h2,h3,h4⟩:=hq;exact⟨.inl ⟨.bool true,.bool true,[],rfl,λ_=>rfl,.bool true,KK l _,λ_=>⟨List.Pairwise.nil,λ_ hm=>(nomatch hm)⟩⟩,h2,h3,h4⟩
end Att
namespace L2
open PySem PySem.Spec PyProof.Rows
theorem EL:∀{vs:List Yg} {ns:List Int},IntsAre vs ns->Vals (ns.map V.int) vs
 | _,_,.nil => .nil
 | _,_,.cons n t h => .cons ⟨t,rfl⟩ (EL h)
def OQ(H:Hp):Prop:=∀ b,H b=none\/∃ o xs,H b=some (.frz o (.lst xs))
theorem Lx{P:Yn}{w:Yq}{K:V5}{mg mb:Str->Option Yg}{CX:CXT}{k:Nat}{fa a:Yi}{fd:ZL}{x:Str}{sp:Sp}{s₁:Yh}{vs:List Yg}{ns:List Int}
 (KX:K.In s₁.heap) (hns:s₁.heap.Ns Yo mg) (hb:s₁.heap.Ns A09 mb) (hbb:∀ x:Str,x≠"__name__"->mb x=Yp x) (hlim:s₁.heap.NoLimit) (hg:s₁.gens=#[])
 (ha:s₁.heap.get? a=some {cls := .type "list",data := .seq vs.toArray}) (hi:IntsAre vs ns) (hl:ns.length<=Yl) (hr:Room k callerA)
 (F:∀ base:Heap,K.In base->base.Ns Yo mg->FnOk P w K mg base CX k fa fd [x] sp) (hbind:∀(s:Yh) (u:Yg),BindsTo s fd ⟨[u],[]⟩ [(x,u)])
 (hsp:∀ H:Hp,OQ H->SqL K H a (ns.map V.int)->sp [.ref a] H (λv _=>v = .bl true) λ_ _ _=>False)
 (hCX:∀ H e s',CX [] H s₁ (λ_ _ _=>False) e s'->False):
 codeAny (Ym P w) callerA (.call (.ref fa) ⟨[.ref a],[]⟩) (λr s'=>r = .ok (.ret (.bool true))/\OldK s₁.heap s'.heap/\s'.os=s₁.os/\AllBare s'.gens) s₁:=by
 have rv:=EL hi;have lenV:=hi.length
 have core:∀ H:Hp,OQ H->SqL K H a (ns.map V.int)->HOk P w H s₁.heap->(∀ b,H b≠none->b=a)->(H a≠none->K.lookup a=none)->
  codeAny (Ym P w) callerA (.call (.ref fa) ⟨[.ref a],[]⟩) (λr s'=>r = .ok (.ret (.bool true))/\OldK s₁.heap s'.heap/\s'.os=s₁.os/\AllBare s'.gens) s₁:=by
  intro H hO hS hok hA hK;have n9:∀{b:Yi} {o:Obj},s₁.heap.get? b=some o->H b=none->(En s₁.heap H).get? b=some o:=λe n=>LU e n
  have noA:∀{b:Yi} {o:Obj} {es:Array ZO} {ep:Nat},s₁.heap.get? b=some o->o.data = .dict es ep->H b=none:=λ{b o es ep} e d=>by
   cases q:H b with
   | none=>rfl
   | some u=>
     have e':b=a:=hA b (by rw[q];simp);subst e';rw[ha]at e;cases e;have d':Data.seq vs.toArray _=Data.dict es ep:=d;cases d'
  have nsK:∀{b:Yi} {m:Str->Option Yg},s₁.heap.Ns b m->(En s₁.heap H).Ns b m:=λ{b m} ⟨o,es,ep,e,d,r⟩=>⟨o,es,ep,n9 e (noA e d),d,r⟩
  have hKb:K.In (En s₁.heap H):=λb o e=>n9 (KX b o e) (by
   cases q:H b with
   | none=>rfl
   | some u=>
     have e':b=a:=hA b (by rw[q];simp);subst e';rw[hK (by rw[q];simp)]at e;cases e)
  have hM:Mod K mg (En s₁.heap H):=⟨hKb,nsK hns,⟨mb,nsK hb,hbb⟩,let ⟨mc,h1,h2⟩:=hlim;⟨mc,nsK h1,h2⟩⟩
  have e0:Env0 P w K mg (En s₁.heap H) callerA [] s₁ H:=⟨rfl,hM,λb o e=>O6 e,Y4 (K6 _ _),trivial,λb hb=>absurd (show b∈([]:List Yi) from hb) (by simp),hok,.of_eq hg⟩
  refine A0d ((F _ hKb (nsK hns)).run callerA [] s₁ H ⟨[.ref a],[]⟩ [.ref a] [.ref a] _ _ hr e0 (hbind s₁ (.ref a)) (.cons rfl .nil) (hsp H hO hS)) λr s' h=>?_;cases r with
  | error e=>exact(hCX H e s' h).elim
  | ok fl=>
    cases fl with
    | next=>exact False.elim h
    | brk=>exact False.elim h
    | cont=>exact False.elim h
    | ret u=>
      obtain⟨v,H',os,bare,un,hok',r',q⟩:=h;have q':v = .bl true:=q;subst q';obtain rfl:u=Value.bool true:=r';refine⟨rfl,OldK.of_keep λb o e=>?_,os,bare⟩;cases q:H b with
      | none=>exact un.keep b o e q (by intro z;exact absurd (show b∈([]:List Yi) from z) (by simp)) (by simp)
      | some u=>
        rcases hO b with z | ⟨ob,xs,z⟩
        ·rw[q]at z;cases z
        ·have z2:=un.frzs b ob _ z;obtain⟨e1,_⟩:=hok b _ z;obtain⟨e2,_⟩:=hok' b _ z2;rw[e]at e1;cases e1;exact e2
 cases hk:K.lookup a with
 | some o=>
   have e:=KX a o hk;rw[ha]at e;cases e;refine core (λ_=>none) (λ_ => .inl rfl) (.inr ⟨_,vs.toArray,_,hk,rfl,rfl,rfl,by rw[VC,lenV];exact hl,by simpa using rv⟩) (λb u z=>by have z':(none:Option HO)=some u:=z;cases z') (λb z=>absurd rfl z) λz=>absurd rfl z
 | none=>
   refine core (λb=>if b=a then some (.frz {cls := .type "list",data := .seq vs.toArray} (.lst (ns.map V.int))) else none) (λb=>?_) (.inl (.inr ⟨{cls := .type "list",data := .seq vs.toArray},iP rfl⟩)) (λb u z=>?_) (λb z=>?_) λ_=>hk
   ·by_cases hb:b=a
    ·exact .inr ⟨_,_,iP hb⟩
    ·exact .inl (iG hb)
   ·by_cases hb:b=a
    ·have z':=(iP hb).symm.trans z;cases z';subst hb;exact⟨ha,by rw[V7];exact hl,vs,_,rv,ha⟩
    ·have z':=(iG hb).symm.trans z;cases z'
   ·by_cases hb:b=a
    ·exact hb
    ·exact absurd (iG hb) z
theorem walk_of{l:PySem.W.OpenLaw}{n k:Nat}{q:Yn}{loose:List Str}{XP:(Str->Option Yg)->Heap->Prop}{YP:Yq->Heap->Prop}{d:DefRec}{K:Params->V5}{CX:Yq->CXT}{sp:Yq->Sp}{x:Str}
 (hn:l.most=some n) (hn2:n<=Yl) (hdf:d.params.defaults=[]) (hr:Room k callerA)
 (hY:∀(w:Yq) (h:Heap),YP w h->(K w.params).In h)
 (F:∀(w:Yq) (mg:Str->Option Yg) (fa:Yi) (h:Heap),(K w.params).In h->h.Ns Yo mg->mg d.name=some (.ref fa)->
   ∃ fd:ZL,(∀(s:Yh) (u:Yg),BindsTo s fd ⟨[u],[]⟩ [(x,u)])/\
    ∀ base:Heap,(K w.params).In base->base.Ns Yo mg->FnOk l.prog w (K w.params) mg base (CX w) k fa fd [x] (sp w))
 (hsp:∀(w:Yq) (H:Hp) (a:Yi) (ns:List Int),ns.length<=n->OQ H->SqL (K w.params) H a (ns.map V.int)->sp w [.ref a] H (λv _=>v = .bl true) λ_ _ _=>False)
 (hCX:∀(w:Yq) (H:Hp) (s:Yh) (e:Yg) (s':Yh),CX w [] H s (λ_ _ _=>False) e s'->False):
 PySem.W.WalkO q loose XP YP l.row.toRowW d [] (λf vs=>PySem.call f vs):=by
 refine Att.attach_call hn hdf λw s₀ s₁ mg mb fa o pm cd doc a vs ns G Y ho hd hcd hmg hobj hints hlen hg=>?_;have KX:=hY w _ Y;obtain⟨fd,hb,hF⟩:=F w mg fa _ KX G.T.g hmg;exact Lx KX G.T.g G.T.b G.T.builtins G.T.nolimit hg hobj hints (Ve hlen hn2) hr hF hb (λH hO hS=>hsp w H a ns hlen hO hS) λH e s'=>hCX w H s₁ e s'
def defArgs(s:Stmt):Arguments:=match s with
 | .FunctionDef _ a _ _ _ _ _ _ _ _=>a
 | _=>{posonlyargs:=[],args:=[],vararg:=none,kwonlyargs:=[],kw_defaults:=[],kwarg:=none,defaults:=[]}
def defBody(s:Stmt):List Stmt:=match s with
 | .FunctionDef _ _ b _ _ _ _ _ _ _=>b
 | _=>[]
def defScope(s:Stmt):Yu:=match s with
 | .FunctionDef _ _ _ _ _ _ sc _ _ _=>sc
 | _=>{kind := .function,names:=[],isGenerator:=false,isCoroutine:=false}
abbrev CX0:CXT:=λ_ _ _ _ _ _=>False
abbrev E0:XK:=λ_ _ _=>False
theorem Tu{X:Cx}:HX CX0 X E0:=λ_ _ _ _ _ _ _ h=>h.elim
structure Fun(K:V5)(x qual:Str)(st:Stmt)(f:Yi)(fd:ZL):Prop where
 ex:∃(oc:Yg) (od:Option Yi) (kV doc pm:Yg) (an:Option Yi) (cdv ct:Yg) (osl:Array (Option Yg)),
  fd=PySem.W.fnOf x qual (defArgs st) (defBody st) (defScope st) .none kV doc pm an cdv ct/\K.lookup f=some ⟨oc,od,.func fd,osl⟩/\PySem.W.codeIn K cdv qual=true
 kp:PySem.W.keepIn K (.ref f)=true
section
variable{P:Yn}{w:Yq}{K:V5}{mg:Str->Option Yg}{base:Heap}
theorem Fun.ok{x qual:Str}{st:Stmt}{f:Yi}{fd:ZL}{N ps:List Str}{k:Nat}{sp:Sp}(F:Fun K x qual st f fd)(S:FnScope N ps (defScope st))(len:∀ vs H Q E,sp vs H Q E->vs.length=ps.length)
 (hbody:∀(cdv:Yg) (A:Yt) (outer:List Env) (s:Yh) (H:Hp) (vs:List V) (Q:VK) (E:XK),Room k (A.deeper (envOfC qual (defScope st) s.heap.objs.size f cdv))->sp vs H Q E->
   ∃ t,PSs (HY CX0 P w K mg base N qual (defScope st) f cdv A outer s H E).nox (defBody st) t/\t {nx:=λ_ H'=>Q .non H',rt:=Q} (start N vs) H):FnOk P w K mg base CX0 (k+1) f fd ps sp:=by
 obtain⟨oc,od,kV,doc,pm,an,cdv,ct,osl,rfl,lk,hcd⟩:=F.ex;refine Ti lk hcd S len λA outer s H vs Q E hr hsp=>?_;obtain⟨t,h,q⟩:=hbody cdv A outer s H vs Q E hr hsp;exact⟨t,h.nox,q⟩
theorem Fun.binds{x qual:Str}{st:Stmt}{f:Yi}{fd:ZL}{ps:List Str}(F:Fun K x qual st f fd)
 (h:∀(kV doc pm:Yg) (an:Option Yi) (cdv ct:Yg) (us:List Yg),us.length=ps.length->bindArgs (PySem.W.fnOf x qual (defArgs st) (defBody st) (defScope st) .none kV doc pm an cdv ct) ⟨us,[]⟩=pure (ps.zip us)):Binds K fd ps []:=by
 obtain⟨oc,od,kV,doc,pm,an,cdv,ct,osl,rfl,lk,hcd⟩:=F.ex;exact .all (h kV doc pm an cdv ct)
theorem He{x qual:Str}{st:Stmt}{f:Yi}{oc:Yg}{od an:Option Yi}{osl:Array (Option Yg)}{kV doc pm cdv ct:Yg}(l:K.lookup f=some ⟨oc,od,.func (PySem.W.fnOf x qual (defArgs st) (defBody st) (defScope st) .none kV doc pm an cdv ct),osl⟩)
 (c:PySem.W.codeIn K cdv qual=true) (k:PySem.W.keepIn K (.ref f)=true):Fun K x qual st f (PySem.W.fnOf x qual (defArgs st) (defBody st) (defScope st) .none kV doc pm an cdv ct):=⟨⟨oc,od,kV,doc,pm,an,cdv,ct,osl,rfl,l,c⟩,k⟩
end
end L2
set_option maxHeartbeats 4000000
namespace L2
open PySem PySem.Spec PyProof.Rows
def y4(env:Env):List (Str×Z3)->List (Str×Yi)->List (Str×Yi)
 | [],acc=>acc
 | (n,k)::r,acc=>if k == .free then y4 env r ((n,(env.cells.lookup n).getD 0)::acc) else y4 env r acc
theorem Aq{env:Env}{scope:Yu}(h:∀ x∈scope.names,x.2 = .free->∃ c,env.cells.lookup x.1=some c):closureFor scope env=pure (y4 env scope.names []):=by
 unfold closureFor
 have go:∀(names:List (Str×Z3)) (acc:List (Str×Yi)),(∀ x∈names,x.2 = .free->∃ c,env.cells.lookup x.1=some c)->
  (forIn names acc λx r=>match x with
    | (name,kind)=>if (kind == NameKind.free)=true then do let __do_lift <- cellOf env name;pure (ForInStep.yield ((name,__do_lift)::r)) else pure (ForInStep.yield r):Sem (List (Str×Yi)))=pure (y4 env names acc):=by
  intro names
  induction names with
  | nil=>intro acc _;rfl
  | cons x r ih=>
    intro acc hx;obtain⟨n,k⟩:=x;rw[List.forIn_cons];have hr:=λy hy=>hx y (VI _ hy);by_cases hk:k = .free
    ·subst hk;obtain⟨c,hc⟩:=hx (n,.free) VN rfl;have hc':env.cells.lookup n=some c:=hc;unfold y4;simp only[beq_self_eq_true,if_true,cellOf,hc',YD,pure_bind];exact ih _ hr
    ·have hb:(k == NameKind.free)=false:=by simpa using hk
     unfold y4;simp only[hb,WC,if_false,pure_bind];exact ih _ hr
 have:=go scope.names [] h;simp only[this]
 first | rfl | simp
theorem CQ{env:Env}:∀(names:List (Str×Z3)) (acc:List (Str×Yi)),(∀ x∈names,x.2 = .free->∃ c,env.cells.lookup x.1=some c)->(∀ p∈acc,env.cells.lookup p.1=some p.2)->
 ∀ p∈y4 env names acc,env.cells.lookup p.1=some p.2
 | [],_,_,ha,p,hp=>ha p hp
 | (n,k)::r,acc,h,ha,p,hp=>by
   unfold y4 at hp;have hr:=λy hy=>h y (VI _ hy);split at hp
   ·rename_i hk;have hk:k = .free:=by simpa using hk
    obtain⟨c,hc⟩:=h (n,k) VN hk;have hc':env.cells.lookup n=some c:=hc;refine CQ r _ hr (λq hq=>?_) p hp;rcases VT.mp hq with rfl | hq
    ·show env.cells.lookup n=some ((env.cells.lookup n).getD 0);rw[hc'];rfl
    ·exact ha q hq
   ·exact CQ r acc hr ha p hp
theorem CS{env:Env}:∀(names:List (Str×Z3)) (acc:List (Str×Yi)),∀ p∈acc,p∈y4 env names acc
 | [],_,_,hp=>hp
 | (n,k)::r,acc,p,hp=>by
   unfold y4;split
   ·exact CS r _ p (VI _ hp)
   ·exact CS r acc p hp
theorem CT{env:Env}:∀(names:List (Str×Z3)) (acc:List (Str×Yi)) (n:Str),(n,NameKind.free)∈names->∃ c,(n,c)∈y4 env names acc
 | (m,k)::r,acc,n,hn=>by
   unfold y4;rcases VT.mp hn with e | hn
   ·cases e;simp only[beq_self_eq_true,if_true];exact⟨_,CS r _ _ VN⟩
   ·split
    ·exact CT r _ n hn
    ·exact CT r _ n hn
theorem BH{env:Env}:∀(names:List (Str×Z3)) (acc:List (Str×Yi)),∀ p∈y4 env names acc,p∈acc\/(p.1,NameKind.free)∈names
 | [],_,_,hp => .inl hp
 | (n,k)::r,acc,p,hp=>by
   unfold y4 at hp;split at hp
   ·rename_i hk;have hk:k = .free:=by simpa using hk
    subst hk;rcases BH r _ p hp with z | z
    ·rcases VT.mp z with rfl | z
     ·exact .inr VN
     ·exact .inl z
    ·exact .inr (VI _ z)
   ·rcases BH r _ p hp with z | z
    ·exact .inl z
    ·exact .inr (VI _ z)
theorem AE:∀(names:List (Str×Z3)) (n:Nat) (acc:List (Str×Yi)),∀ p∈Z5 n names acc,p∈acc\/(n<=p.2/\(p.1,NameKind.cell)∈names)
 | [],_,_,_,hp => .inl hp
 | (x,k)::r,n,acc,p,hp=>by
   unfold Z5 at hp;split at hp
   ·rename_i hk;have hk:k = .cell:=by simpa using hk
    subst hk;rcases AE r (n+1) _ p hp with z | ⟨z,w⟩
    ·rcases VT.mp z with rfl | z
     ·exact .inr ⟨VF _,VN⟩
     ·exact .inl z
    ·exact .inr ⟨Nat.le_of_succ_le z,VI _ w⟩
   ·rcases AE r n acc p hp with z | ⟨z,w⟩
    ·exact .inl z
    ·exact .inr ⟨z,VI _ w⟩
theorem AF:∀(names:List (Str×Z3)) (n:Nat) (acc:List (Str×Yi)),∀ p∈acc,p∈Z5 n names acc
 | [],_,_,_,hp=>hp
 | (x,k)::r,n,acc,p,hp=>by
   unfold Z5;split
   ·exact AF r _ _ p (VI _ hp)
   ·exact AF r _ _ p hp
theorem Aj:∀(names:List (Str×Z3)) (n:Nat) (acc:List (Str×Yi)) (x:Str),(x,NameKind.cell)∈names->∃ c,(x,c)∈Z5 n names acc
 | (y,k)::r,n,acc,x,hx=>by
   unfold Z5;rcases VT.mp hx with e | hx
   ·cases e;simp only[beq_self_eq_true,if_true];exact⟨_,AF r _ _ _ VN⟩
   ·split
    ·exact Aj r _ _ x hx
    ·exact Aj r _ _ x hx
theorem Ak:∀(names:List (Str×Z3)) (h:Heap) (acc:List (Str×Yi)),∀ p∈Z5 h.objs.size names acc,p∈acc\/(A0i h names).IsCell p.2 none
 | [],_,_,_,hp => .inl hp
 | (x,k)::r,h,acc,p,hp=>by
   unfold Z5 at hp;unfold A0i;split at hp
   ·rename_i hk;rw[iP hk];have:=Ak r (h.push {cls := .type "cell",data := .cell none}) ((x,h.objs.size)::acc) p (by rw[W9];exact hp);rcases this with z | z
    ·rcases VT.mp z with rfl | z
     ·exact .inr ⟨_,Zy _ _ _ _ (VR _ rfl),rfl⟩
     ·exact .inl z
    ·exact .inr z
   ·rename_i hk;rw[iG hk];exact Ak r h acc p hp
theorem AJ:∀(names:List (Str×Z3)) (n:Nat) (acc:List (Str×Yi)),(acc.Pairwise λx y=>x.2≠y.2)->(∀ p∈acc,p.2<n)->(Z5 n names acc).Pairwise λx y=>x.2≠y.2
 | [],_,_,h,_=>h
 | (x,k)::r,n,acc,h,hl=>by
   unfold Z5;split
   ·refine AJ r (n+1) _ (Y2.mpr ⟨λy hy e=>?_,h⟩) λp hp=>?_
    ·have h1:=hl y hy;have e':n=y.2:=e;exact absurd h1 (by rw[<-e'];exact Wj _)
    ·rcases VT.mp hp with rfl | hp
     ·exact Wo _
     ·exact WW (hl p hp)
   ·exact AJ r n acc h hl
theorem BJ{env:Env}(inj:∀ x y c,env.cells.lookup x=some c->env.cells.lookup y=some c->x=y):∀(names:List (Str×Z3)) (acc:List (Str×Yi)),(names.map (·.1)).Nodup->
 (∀ x∈names,x.2 = .free->∃ c,env.cells.lookup x.1=some c)->(acc.Pairwise λx y=>x.2≠y.2)->(∀ p∈acc,env.cells.lookup p.1=some p.2/\p.1∉names.map (·.1))->(y4 env names acc).Pairwise λx y=>x.2≠y.2
 | [],_,_,_,h,_=>h
 | (n,k)::r,acc,nd,hf,h,ha=>by
   unfold y4;have nd':=Vx.mp nd;have hr:=λy hy=>hf y (VI _ hy);split
   ·rename_i hk;have hk:k = .free:=by simpa using hk
    obtain⟨c,hc⟩:=hf (n,k) VN hk;have hc':env.cells.lookup n=some c:=hc;refine BJ inj r _ nd'.2 hr (Y2.mpr ⟨λy hy e=>?_,h⟩) λp hp=>?_
    ·have e':(env.cells.lookup n).getD 0=y.2:=e;rw[hc']at e';have e2:c=y.2:=e';have q:=(ha y hy).1;have:=inj n y.1 c hc' (by rw[e2];exact q);exact(ha y hy).2 (by rw[<-this];exact VN)
    ·rcases VT.mp hp with rfl | hp
     ·refine⟨?_,nd'.1⟩;show env.cells.lookup n=some ((env.cells.lookup n).getD 0);rw[hc'];rfl
     ·exact⟨(ha p hp).1,λz=>(ha p hp).2 (VI _ z)⟩
   ·exact BJ inj r acc nd'.2 hr h λp hp=>⟨(ha p hp).1,λz=>(ha p hp).2 (VI _ z)⟩
theorem y6{env:Env}:∀(names:List (Str×Z3)) (x:Str),
 (names.map λ(n,k)=>if (k == NameKind.free&&env.scope.kind == .function&&env.kindOf n == some .cell) then (n,NameKind.cell) else (n,k)).lookup x=
   (names.lookup x).map λk=>if (k == NameKind.free&&env.scope.kind == .function&&env.kindOf x == some .cell) then NameKind.cell else k
 | [],x=>rfl
 | (n,k)::r,x=>by
   have ih:=y6 (env:=env) r x;rw[Vh];show Xt x ((if (k == NameKind.free&&env.scope.kind == .function&&env.kindOf n == some .cell)=true then (n,NameKind.cell) else (n,k))::_)=_;split
   ·rename_i hc;rw[WH,WH];cases hx:x == n with
    | false=>exact ih
    | true=>
      have e:x=n:=by simpa using hx
      subst e;simp only[WR];rw[iP hc]
   ·rename_i hc;rw[WH,WH];cases hx:x == n with
    | false=>exact ih
    | true=>
      have e:x=n:=by simpa using hx
      subst e;simp only[WR];rw[iG hc]
theorem m9{α:Type}:∀{l:List (Str×α)} {n:Str} {c:α},(l.map (·.1)).Nodup->(n,c)∈l->l.lookup n=some c
 | (k,v)::r,n,c,nd,h=>by
   have nd':=Vx.mp nd;rw[WH];rcases VT.mp h with e | h2
   ·cases e;simp
   ·cases hb:n == k with
    | true=>
      have e:n=k:=by simpa using hb
      exact absurd (VX.mpr ⟨(n,c),h2,e⟩:k∈r.map (·.1)) nd'.1
    | false=>exact m9 nd'.2 h2
theorem Bq{α:Type}:∀{l:List (Str×α)} {n:Str} {c:α},(n,c)∈l->∃ d,l.lookup n=some d
 | (k,v)::r,n,c,h=>by
   rw[WH];cases hb:n == k with
   | true=>exact⟨v,rfl⟩
   | false=>
     rcases VT.mp h with e | h
     ·cases e;simp at hb
     ·exact Bq h
noncomputable abbrev j9(X:Cx)(scope:Yu)(N':List Str)(s2:Yh)(H2:Hp)(cs:List (Str×Yi))(C:Yi)(fp:List Yi):Cx where
 prog:=X.prog
 w:=X.w
 K:=X.K
 mg:=X.mg
 base:=X.base
 A:=X.A
 N:=N'
 s₀:=s2
 H₀:=H2
 env:=Zs scope cs C X.env
 outer:=X.stack
 stack:=X.stack
 ex:=fp
 fn:=λx=>scope.names.lookup x == some .cell
 calm:=X.calm
 pn:=X.pn
 xe:=λ_ _=>False
def AA(sc0 sc:Yu)(own cn N:List Str)(js:List Nat):Bool:=
 (decide (sc.kind = .function))&&(sc.names.all λx=>!decide (x.2 = .free)||decide (sc0.names.lookup x.1=some .cell)||decide (sc0.names.lookup x.1=some .free))
 && decide ((sc.names.map (·.1)).Nodup)&&(own.all λx=>decide (sc.names.lookup x=some .local)||decide (sc.names.lookup x=some .cell))&&(cn.all λx=>decide (sc.names.lookup x=some .free))
 && decide ((own++cn).Nodup)&&decide (js.map (λj=>N[j]?)=cn.map some)
def BD(k:Nat)(js:List Nat)(σ:St):St:=VL k none++js.map λj=>(σ[j]?).join
noncomputable def Dy(X:Cx)(ifs:List Expr)(t:TT):Prop:=
 ∀(pq:List (Yi×Obj)) (s:Yh) (σ:St) (H:Hp) (Q:Bool->Hp->Prop),Inv X pq σ H s->t σ H Q->
  Yk (Ym X.prog X.w) X.A (forIn ifs true λc r=>if r=true then do let ok <- isTrue c X.env (eval c X.env);pure (ForInStep.yield ok) else pure (ForInStep.yield r)) (TP X pq σ Q) X.xe s
theorem Ly{X:Cx}:Dy X [] (λ_ H Q=>Q true H):=λ_ _ _ H _ I h=>wpAny_tests_nil ⟨H,I,h⟩
theorem Lz{X:Cx}{c:Expr}{t:TT}(h:PT X c t):Dy X [c] t:=λpq s σ H Q I hw=>wpAny_tests_one (h pq s σ H Q I hw)
theorem M0{M:Model}{A:Yt}{E:Yg->Yh->Prop}{s:Yh}{scope:Yu}{env:Env}{cl:List (Str×Yi)}{Q:Env->Yh->Prop}
 (h:Q (newEnv scope s.heap.objs.size env.globals (Z5 (s.heap.objs.size+1) scope.names cl) env.qual none .none (some env) A09) {s with heap:=A0i (s.heap.push {cls := .type "dict",data := .dict #[]}) scope.names}):
 Yk M A (Zk scope env.globals cl [] env.qual none .none (some env)) Q E s:=by
 simp only[Zk,Y3,if_true];refine Yf (wpAny_alloc ?_);refine Yf (wpAny_layCells _ (λname kind cells=>by cases hkc:kind == NameKind.cell<;>simp[hkc]) _ _ _ _ ?_);rw[show({s with heap:=s.heap.push {cls := .type "dict",data := .dict #[]}}:Yh).heap.objs.size=s.heap.objs.size+1 from W9 ..];refine Yf ?_;rw[List.forIn_nil];exact Yj (Yj h)
structure CForm(prog:Yn)(w:Yq)(A:Yt)(E tg iter:Expr)(ifs:List Expr)(emit:Yg->Env->Sem Unit)(dp:Nat:=0):Prop where
 turn:∀(it:Yg) (D:Yi) (env:Env),compTurn E dp it (.ref D) env=(do
  standAt iter.pos
  match <- pyNext it with
  | none=>pure (.done .next)
  | some v=>
    ZU tg it v
    assign tg env v
    let mut ok:=true
    for c in ifs do
     if ok then ok <- isTrue c env (eval c env)
    if ok then emit (.ref D) env
    again (.compLoop E dp it (.ref D) env))
 und:∀(it acc:Yg) (env:Env),A.under (.compLoop E dp it acc env)=A
 den:∀(it acc:Yg) (env:Env),(Ym prog w).den (.compLoop E dp it acc env)=(compTurn E dp it acc env).onRaise (λx=>do noteFrame x env;theTreesLotGoes x)
 start:∀{R:Result->Yh->Prop} {s:Yh} {it acc:Yg} {env:Env},codeAny (Ym prog w) A (.compLoop E dp it acc env) R s->Yk (Ym prog w) A (pyIter it) (λit' s'=>codeAny (Ym prog w) A (.compLoop E dp it' acc env) R s') (notedBy (Ym prog w) A env λx s'=>R (.error x) s') s->
  codeAny (Ym prog w) A (.compStart E dp it acc env) R s
theorem CForm.loop{prog:Yn}{w:Yq}{A:Yt}{E tg iter:Expr}{ifs:List Expr}{emit:Yg->Env->Sem Unit}{dp:Nat}(F:CForm prog w A E tg iter ifs emit dp){R:Result->Yh->Prop}{s:Yh}{it:Yg}{D:Yi}{env:Env}(I:Nat->Yh->Prop)
 (turn:∀ n s,I n s->Yk (Ym prog w) A (pyNext it) (λr s₁=>match r with
   | none=>R (.ok .next) s₁
   | some v=>Yk (Ym prog w) A (ZU tg it v) (λ_ s₁'=>Yk (Ym prog w) A (assign tg env v) (λ_ s₂=>
      Yk (Ym prog w) A (forIn ifs true λc r=>if r=true then do let ok <- isTrue c env (eval c env);pure (ForInStep.yield ok) else pure (ForInStep.yield r)) (λok s₃=>
       if ok=true then Yk (Ym prog w) A (emit (.ref D) env) (λ_ s₅=>∃ m,m<n/\I m s₅) (λ_ _=>False) s₃
       else ∃ m,m<n/\I m s₃) (λ_ _=>False) s₂) (λ_ _=>False) s₁') (λ_ _=>False) s₁) (λ_ _=>False) s)
 (n:Nat) (h:I n s):
 codeAny (Ym prog w) A (.compLoop E dp it (.ref D) env) R s:=by
 refine codeAny_loop rfl I (λn s hI=>?_) n h;rw[F.und,F.den];refine wpAny_noted ?_;rw[F.turn];refine Yf (Ze (Yf (Z6 (turn n s hI) (λr s₁ h₁=>?_) λ_ _ h'=>False.elim h')));cases r with
 | none=>exact Yj h₁
 | some v=>
   refine Yf (Z6 h₁ (λ_ s₁' h₁'=>?_) λ_ _ h'=>False.elim h');refine Yf (Z6 h₁' (λ_ s₂ h₂=>Yf (Z6 h₂ (λok s₃ h₃=>?_) λ_ _ h'=>False.elim h')) λ_ _ h'=>False.elim h');cases ok with
   | false=>exact Yj ⟨rfl,h₃⟩
   | true=>exact Yf (Z6 h₃ (λ_ s₅ h₅=>Yj ⟨rfl,h₅⟩) λ_ _ h'=>False.elim h')
noncomputable def RZ{α:Type}(J:It)(g:TG)(tt:TT)(tem:α->St->Hp->(α->Hp->Prop)->Prop)(σ':St)(Q:Hp->Prop)(W:Nat->Nat->α->Hp->Prop):Prop:=
 ∀ i m a H,W i m a H->(J.stop i H/\Q H)\/(J.go i H/\∃ N:α->Hp->Prop,(∀ a' H',N a' H'->∃ m',m'<m/\W (i+1) m' a' H')/\∀ x H',J.yld i H x H'->g x σ' H' λσ2 H2=>tt σ2 H2 λb H3=>if b=true then tem a σ2 H3 N else N a H3)
def Tv(elt:Expr)(acc:Yg)(env:Env):Sem Unit:=do
 let x <- eval elt env
 let _ <- call (.builtin "list.append") [acc,x]
theorem Hf{prog:Yn}{w:Yq}{A:Yt}{elt tg iter:Expr}{ifs:List Expr}{scope:Yu}{pos:Pos}:CForm prog w A (.ListComp elt [⟨tg,iter,ifs,0⟩] scope pos) tg iter ifs (Tv elt) where
 turn:=λ_ _ _=>compTurn_list ..
 und:=λ_ _ _=>rfl
 den:=λ_ _ _=>rfl
 start:=λh0 h=>codeAny_compStart_list h0 h
def Uo(te:TE)(D:Yi)(ys:List V)(σ:St)(H:Hp)(N:List V->Hp->Prop):Prop:=te σ H λv H4=>H4 D=some (.lst ys)/\ys.length<Yl/\N (ys++[v]) (upd H4 D (.lst (ys++[v])))
noncomputable def QJ(J:It)(g:TG)(tt:TT)(te:TE)(D:Yi)(σ':St)(Q:List V->Hp->Prop)(W:Nat->Nat->List V->Hp->Prop):Prop:=
 ∀ i m ys H,W i m ys H->(J.stop i H/\Q ys H)\/(J.go i H/\∃ N:List V->Hp->Prop,(∀ ys' H',N ys' H'->∃ m',m'<m/\W (i+1) m' ys' H')/\∀ x H',J.yld i H x H'->g x σ' H' λσ2 H2=>tt σ2 H2 λb H3=>
  if b=true then te σ2 H3 λv H4=>H4 D=some (.lst ys)/\ys.length<Yl/\N (ys++[v]) (upd H4 D (.lst (ys++[v]))) else N ys H3)
noncomputable def M1(wi:TI)(g:TG)(tt:TT)(te:TE)(k:Nat)(js:List Nat):TE:=λσ H Q=>wi σ H λJ H1=>∀ D,H1 D=none->
 ∃ W:Nat->Nat->List V->Hp->Prop,(∃ m,W 0 m [] (upd H1 D (.lst [])))/\QJ J g tt te D (BD k js σ) (λ_ H=>Q (.ref D) H) W
section
variable{X:Cx}{pq:List (Yi×Obj)}{σ:St}{H2:Hp}{s2:Yh}{tg elt iter:Expr}{ifs:List Expr}{scope:Yu}{pos:Pos}{own cn:List Str}{js:List Nat}{g:TG}{tt:TT}{te:TE}
theorem Fg{α:Type}{E:Expr}{emit:Yg->Env->Sem Unit}{mk:Sem Yg}{o0:Obj}{u0:HO}{a0:α}{tem:Yi->α->St->Hp->(α->Hp->Prop)->Prop}(F:CForm X.prog X.w X.A E tg iter ifs emit)(hmk:∀{Q:Yg->Yh->Prop},Q (.ref s2.heap.objs.size) {s2 with heap:=s2.heap.push o0}->Yk (Ym X.prog X.w) X.A mk Q X.xe s2)(nf0:o0.isFreed=false)(new0:∀(H:Hp) (h:Heap),h.get? s2.heap.objs.size=some o0->ObjOk X.prog X.w H h s2.heap.objs.size u0)(hok:AA X.env.scope scope own cn X.N js=true)(hc:X.calm=true)
 (hg:∀ s2 H2 cs C fp,PG (j9 X scope (own++cn) s2 H2 cs C fp) tg g) (ht:∀ s2 H2 cs C fp,Dy (j9 X scope (own++cn) s2 H2 cs C fp) ifs tt) (hem:∀ D s2 H2 cs C fp pq s σ H (a:α) (N:α->Hp->Prop),Inv (j9 X scope (own++cn) s2 H2 cs C fp) pq σ H s->tem D a σ H N->Yk (Ym X.prog X.w) X.A (emit (.ref D) (Zs scope cs C X.env)) (λ_ s1=>∃ σ1 a1 H1,Inv (j9 X scope (own++cn) s2 H2 cs C fp) pq σ1 H1 s1/\N a1 H1) (λ_ _=>False) s)
 (I2:Inv X pq σ H2 s2) {it:Yi} {fp:List Yi} {tn:Nat->Heap->Prop} {J:It} (T:Turn X.prog X.w X.K tg J fp it tn) (st2:tn 0 s2.heap) (f2:∀ b∈fp,FpOk X pq H2 b)
 {Qe:Hp->Prop} (hW:∃ W:Nat->Nat->α->Hp->Prop,(∃ m,W 0 m a0 (upd H2 s2.heap.objs.size u0))/\RZ J g tt (tem s2.heap.objs.size) (BD own.length js σ) Qe W)
 {RR:Yg->Yi->Result->Yh->Prop}
 (hRR:∀ C H' s',Inv X pq σ H' s'->FpOk X pq H' C->(∃ m,s'.heap.Ns C m)->Qe H'->RR (.ref s2.heap.objs.size) C (.ok .next) s'):
 Yk (Ym X.prog X.w) X.A mk (λacc s₃=>Yk (Ym X.prog X.w) X.A (Zk scope X.env.globals (y4 X.env scope.names []) [] X.env.qual none .none (some X.env)) (λcenv s₄=>
  codeAny (Ym X.prog X.w) X.A (.compStart E 0 (.ref it) acc {cenv with scope:=relabel scope X.env}) (RR acc cenv.locals) s₄) X.xe s₃) X.xe s2:=by
 unfold AA at hok;simp only[V6,dQ,Va,Vu,VZ,decide_eq_false_iff_not]at hok;obtain⟨⟨⟨⟨⟨⟨k1,k2⟩,k3⟩,k4⟩,k5⟩,k6⟩,k7⟩:=hok
 have hfreeK:∀ x∈scope.names,x.2 = .free->X.env.kindOf x.1=some .cell\/X.env.kindOf x.1=some .free:=λx hx hf=>by
  rcases k2 x hx with(z | z) | z
  ·exact absurd hf z
  ·exact .inl z
  ·exact .inr z
 have hfree:∀ x∈scope.names,x.2 = .free->∃ c,X.env.cells.lookup x.1=some c:=λx hx hf=>I2.ok.has x.1 (hfreeK x hx hf);refine hmk (M0 ?_);have hsz3:(s2.heap.push o0).objs.size=s2.heap.objs.size+1:=W9 ..;dsimp only;generalize hh3:s2.heap.push o0=h3 at hsz3 ⊢;have old3:∀ b o,s2.heap.get? b=some o->h3.get? b=some o:=λb o e=>hh3▸VE _ e;have hD3:h3.get? s2.heap.objs.size=some o0:=hh3▸VR _ nf0;generalize hcs:Z5 (h3.objs.size+1) scope.names (y4 X.env scope.names [])=cs;generalize hh4:A0i (h3.push {cls := .type "dict",data := .dict #[]}) scope.names=h4;have old4:∀ b o,h3.get? b=some o->h4.get? b=some o:=λb o e=>hh4▸Zy _ _ b o (VE _ e);have old:∀ b o,s2.heap.get? b=some o->h4.get? b=some o:=λb o e=>old4 b o (old3 b o e);have hD4:h4.get? s2.heap.objs.size=some o0:=old4 _ _ hD3;have hNs:h4.Ns h3.objs.size (λ_=>none):=hh4▸(Heap.Ns.new h3 (.type "dict")).keeps (Zy _ _);generalize hC:h3.objs.size=C at hNs hcs ⊢;have hCD:@Eq Nat C (s2.heap.objs.size+1):=by rw[<-hC];exact hsz3
 have clM:=CQ (env:=X.env) scope.names [] hfree (λp hp=>absurd hp (by simp));have cellLt:∀ x c,X.env.cells.lookup x=some c->@LT.lt Nat _ c s2.heap.objs.size:=λx c e=>by obtain⟨v,z⟩:=I2.cell x c e;exact z.lt
 have apart:cs.Pairwise λx y=>x.2≠y.2:=by
  rw[<-hcs];refine AJ _ _ _ (BJ I2.ok.inj scope.names [] k3 hfree List.Pairwise.nil λp hp=>absurd hp (by simp)) λp hp=>?_;have:=cellLt _ _ (clM p hp);show @LT.lt Nat _ p.2 (C+1);omega
 have csM:∀ p∈cs,X.env.cells.lookup p.1=some p.2\/(C+1<=p.2/\(p.1,NameKind.cell)∈scope.names/\h4.IsCell p.2 none):=λp hp=>by
  have hp0:=hp;rw[<-hcs]at hp;rcases AE _ _ _ p hp with z | ⟨z,y⟩
  ·exact .inl (clM p z)
  ·have e:h3.objs.size+1=(h3.push {cls := .type "dict",data := .dict #[]}).objs.size:=by rw[W9]
   have hp':=hp;rw[<-hC,e]at hp';rcases Ak _ _ _ p hp' with q | q
   ·exact .inl (clM p q)
   ·exact .inr ⟨z,y,hh4▸q⟩
 have hX:(j9 X scope (own++cn) s2 H2 cs C fp).Ok:=by
  refine⟨I2.ok.mod,k1,I2.ok.glob,I2.ok.blt,by show @LE.le Nat _ s2.heap.objs.size C;omega,λx y c h1 h2=>name_of_addr apart (PySem.mem_of_lookup h1) (PySem.mem_of_lookup h2),λx hx=>?_,λx c hf hx=>?_,I2.ok.hd,I2.ok.frames,.inl rfl,λb hb=>?_,I2.bs,Ve I2.ok.bsz I2.sz,λb o e hb=>?_,λb hb hf=>?_,I2.stack,I2.stkFree⟩
  ·have hx':(relabel scope X.env).names.lookup x=some .cell\/(relabel scope X.env).names.lookup x=some .free:=hx
   have hl:scope.names.lookup x=some .cell\/scope.names.lookup x=some .free:=by
    unfold relabel at hx';dsimp only at hx';rw[y6]at hx';cases e:scope.names.lookup x with
    | none=>rw[e]at hx';simp at hx'
    | some k=>
      rw[e]at hx';cases k<;>simp_all
   have:∃ c,(x,c)∈cs:=by
    rw[<-hcs];rcases hl with hl | hl
    ·exact Aj _ _ _ x (PySem.mem_of_lookup hl)
    ·obtain⟨c,hc'⟩:=CT (env:=X.env) scope.names [] x (PySem.mem_of_lookup hl);exact⟨c,AF _ _ _ _ hc'⟩
   obtain⟨c,hm⟩:=this;exact Bq hm
  ·have hf':scope.names.lookup x=some .cell:=by simpa using hf
   have hm:=PySem.mem_of_lookup (show cs.lookup x=some c from hx);rcases csM _ hm with z | ⟨z,_⟩
   ·
    rw[<-hcs]at hm;rcases AE _ _ _ _ hm with q | ⟨q,_⟩
    ·rcases BH (env:=X.env) scope.names [] _ q with q' | q'
     ·exact absurd q' (by simp)
     ·have:=m9 k3 q';have h2:scope.names.lookup x=some .free:=this;rw[hf']at h2;cases h2
    ·show @LE.le Nat _ s2.heap.objs.size c;have q2:@LE.le Nat _ (C+1) c:=q;omega
   ·show @LE.le Nat _ s2.heap.objs.size c;have z2:@LE.le Nat _ (C+1) c:=z;omega
  ·obtain⟨f0,f1,f2',f3,f4,f5⟩:=f2 b hb;obtain⟨o,ho,_⟩:=T.obj 0 _ st2 b hb;have hb2:@LT.lt Nat _ b s2.heap.objs.size:=VJ ho;refine⟨?_,λx c e=>?_⟩
   ·show @Ne Nat b C;omega
   ·rcases csM _ (PySem.mem_of_lookup (show cs.lookup x=some c from e)) with z | ⟨z,_⟩
    ·exact f4 x c z
    ·have z2:@LE.le Nat _ (C+1) c:=z;show @Ne Nat c b;omega
  ·obtain⟨f0,f1,f2',f3,f4,f5⟩:=f2 b hb;rcases f3 with z | z
   ·exact I2.ok.noex b o e z
   ·exact absurd (Vc (VJ e) (Ve I2.ok.bsz z)) (Wj _)
  ·obtain⟨f0,f1,f2',_⟩:=f2 b hb;rcases VT.mp (I2.stkSub b hf) with z | z
   ·exact f1 z
   ·exact f2' z
 have hDn:H2 s2.heap.objs.size=none:=I2.fresh;have hCn:H2 C=none:=I2.hok.fresh (show @LE.le Nat _ s2.heap.objs.size C by omega)
 have stkNe:∀ b,b≠X.env.locals->b∉X.fs->b∉frs X.stack:=λb h1 h2 hb=>by
  rcases VT.mp (I2.stkSub b hb) with z | z
  ·exact h1 z
  ·exact h2 z
 have I4:Inv (j9 X scope (own++cn) s2 H2 cs C fp) pq (BD own.length js σ) (upd H2 s2.heap.objs.size u0) {s2 with heap:=h4}:=by
  refine⟨hX,rfl,I2.bare,Un.laid old (VF _) hDn,⟨λ_=>none,hNs,λi x v e1 e2 e3=>?_⟩,λx c e=>?_,?_,λx c e=>?_,λp hp=>?_,I2.hok.laid old (VF _) (new0 _ _ hD4),?_⟩
  ·
   have hi:own.length<=i:=by
    rcases Wg i own.length with z | z
    ·exfalso;unfold BD at e2;rw[VP (by simpa using z),WG,iP z]at e2;cases e2
    ·exact z
   have e1':cn[i - own.length]?=some x:=by
    have:(own++cn)[i]?=some x:=e1;rw[Vq hi]at this;exact this
   have e2':(js.map λj=>(σ[j]?).join)[i - own.length]?=some (some v):=by
    unfold BD at e2;rw[Vq (by simpa using hi)]at e2;simpa using e2
   rw[VG]at e2';cases hj:js[i - own.length]? with
   | none=>rw[hj]at e2';cases e2'
   | some j=>
     rw[hj]at e2';have e2'':(σ[j]?).join=some v:=by simpa using e2'
     have hσ:σ[j]?=some (some v):=by
      cases q:σ[j]? with
      | none=>rw[q]at e2'';cases e2''
      | some z=>rw[q]at e2'';simp at e2'';rw[e2'']
     have hNx:X.N[j]?=some x:=by
      have:=congrArg (λl=>l[i - own.length]?) k7;simp only[VG,hj,e1',WR]at this;exact oj this
     have hfx:scope.names.lookup x=some .free:=k5 x (V9 e1');have hK:=hfreeK (x,.free) (PySem.mem_of_lookup hfx) rfl;have hK':X.env.kindOf x=some .cell\/X.env.kindOf x=some .free:=hK;obtain⟨m,hn,hl⟩:=I2.loc
     have hvis:Vis X.env.scope x:=by
      rcases hK' with z | z
      ·exact .inr (.inl z)
      ·exact .inr (.inr z)
     obtain⟨u,r,l⟩:=hl j x v hNx hσ hvis;refine⟨u,r,.inr ?_⟩;rcases l with⟨l1,_⟩ | ⟨l1,c,l2,l3⟩
     ·rcases hK' with z | z
      ·rw[z]at l1;cases l1
      ·rw[z]at l1;cases l1
     ·have hrl:(Zs scope cs C X.env).kindOf x=some .cell\/(Zs scope cs C X.env).kindOf x=some .free:=by
       show(relabel scope X.env).names.lookup x=_\/(relabel scope X.env).names.lookup x=_;unfold relabel;dsimp only;rw[y6,hfx];simp only[WR];split
       ·exact .inl rfl
       ·exact .inr rfl
      refine⟨hrl,c,?_,l3.keeps λb o e=>old b o e⟩;show cs.lookup x=some c;obtain⟨c',hc'⟩:=hX.has x hrl;have hc2:cs.lookup x=some c':=hc';rw[hc2];have hm:=PySem.mem_of_lookup hc2
      have:X.env.cells.lookup x=some c':=by
       rcases csM _ hm with z | ⟨_,z,_⟩
       ·exact z
       ·have:=m9 k3 z;have h2:scope.names.lookup x=some .cell:=this;rw[hfx]at h2;cases h2
      rw[l2]at this;exact this.symm
  ·rcases csM _ (PySem.mem_of_lookup (show cs.lookup x=some c from e)) with z | ⟨_,_,z⟩
   ·obtain⟨v,q⟩:=I2.cell _ _ z;exact⟨v,q.keeps λb o e=>old b o e⟩
   ·exact⟨none,z⟩
  ·show upd H2 s2.heap.objs.size u0 C=none;rw[i8 (show @Ne Nat C s2.heap.objs.size by omega)];exact hCn
  ·have hne:c≠s2.heap.objs.size/\H2 c=none:=by
    rcases csM _ (PySem.mem_of_lookup (show cs.lookup x=some c from e)) with z | ⟨z,_,_⟩
    ·exact⟨VO (cellLt _ _ z),I2.freeC _ _ z⟩
    ·have z2:@LE.le Nat _ (C+1) c:=z;exact⟨show @Ne Nat c s2.heap.objs.size by omega,I2.hok.fresh (show @LE.le Nat _ s2.heap.objs.size c by omega)⟩
   rw[i8 hne.1];exact hne.2
  ·obtain⟨e,n,ne,nf,d⟩:=I2.pin p hp;have hlt:@LT.lt Nat _ p.1 s2.heap.objs.size:=VJ e;refine⟨old _ _ e,?_,?_,stkNe _ ne nf,d⟩
   ·rw[i8 (VO hlt)];exact n
   ·show @Ne Nat p.1 C;omega
  ·show(BD own.length js σ).length=(own++cn).length;unfold BD;have hl:=congrArg XS k7;simp only[V7]at hl;simp[hl]
 have stat:∀{H':Hp},(∀ b∈fp,H' b=none)->∀ b∈fp,FpOk (j9 X scope (own++cn) s2 H2 cs C fp) pq H' b:=λhn b hb=>by
  obtain⟨f0,f1,f2',f3,f4,f5⟩:=f2 b hb;exact⟨hn b hb,(hX.exf b hb).1,stkNe b f1 f2',.inl hb,λx c e=>(hX.exf b hb).2 x c e,f5⟩
 have back:∀{σ':St} {H':Hp} {s':Yh},Inv (j9 X scope (own++cn) s2 H2 cs C fp) pq σ' H' s'->Inv X pq σ H' s':=λ{σ' H' s'} J'=>
  I2.call' (ch:=fp) J'.os J'.base J'.hok J'.bare λb hb=>by
   obtain⟨f0,f1,f2',f3,f4,f5⟩:=f2 b hb;exact⟨f3,f1,f4,f5⟩
 obtain⟨W,⟨m0,w0⟩,turn⟩:=hW
 have loop:codeAny (Ym X.prog X.w) X.A (.compLoop E 0 (.ref it) (.ref s2.heap.objs.size) (Zs scope cs C X.env)) (RR (.ref s2.heap.objs.size) C) {s2 with heap:=h4}:=by
  refine F.loop (λn s'=>∃ i ys H',Inv (j9 X scope (own++cn) s2 H2 cs C fp) pq (BD own.length js σ) H' s'/\tn i s'.heap/\(∀ b∈fp,H' b=none)/\W i n ys H') ?_ m0
   ⟨0,a0,_,I4,T.keep _ _ _ st2 λb hb o e=>old b o e,λb hb=>?_,w0⟩
  ·rintro n s3 ⟨i,ys,H3,I3,st3,fr3,w3⟩;rcases turn i n ys H3 w3 with⟨stop,q⟩ | ⟨go,N,hN,step⟩
   ·refine thn (T.done (j9 X scope (own++cn) s2 H2 cs C fp) rfl rfl rfl hc i pq s3 _ H3 _ I3 (stat fr3) st3 stop) λr s4 ⟨hr,I5⟩=>?_;subst hr;obtain⟨m,hn,_⟩:=I5.loc;exact hRR C H3 s4 (back I5) (I2.fpOk (show @LE.le Nat _ s2.heap.objs.size C by omega) I5.free) ⟨m,hn⟩ q
   ·refine thn (T.item (j9 X scope (own++cn) s2 H2 cs C fp) rfl rfl rfl hc i pq s3 _ H3 _ I3 (stat fr3) st3 go) λr s4 ⟨u,hr,h4'⟩=>?_;subst hr;refine thn h4' λ_ s5 ⟨x,H5,I5,r5,y5,st5,fr5⟩=>?_;have I5':=I5.pinned (stat fr5) (T.obj _ _ st5);refine thn (hg s2 H2 cs C fp _ s5 _ H5 x u _ I5' r5 (step x H5 y5)) λ_ s6 ⟨σ6,H6,I6,q6⟩=>?_;refine thn (ht s2 H2 cs C fp _ s6 σ6 H6 _ I6 q6) λb s7 ⟨H7,I7,q7⟩=>?_
    have again:∀{σ8:St} {H8:Hp} {s8:Yh} {ys8:α},Inv (j9 X scope (own++cn) s2 H2 cs C fp) (pq++Bs fp s5.heap) σ8 H8 s8->(∀(j:Nat) v,(BD own.length js σ)[j]?=some (some v)->σ8[j]?=some (some v))->(∃ m',m'<n/\W (i+1) m' ys8 H8)->
     ∃ m,m<n/\∃ i ys H',Inv (j9 X scope (own++cn) s2 H2 cs C fp) pq (BD own.length js σ) H' s8/\tn i s8.heap/\(∀ b∈fp,H' b=none)/\W i m ys H':=λ{σ8 H8 s8 ys8} I8 hw8 ⟨m',hm,w8⟩=>by
     refine⟨m',hm,i+1,ys8,H8,I8.unpinned.weak (by rw[I8.len,I4.len]) hw8,T.keep _ _ _ st5 λb hb o e=>(I8.pin (b,o) (Vv _ (Vv _ (Ay hb e)))).1,λb hb=>?_,w8⟩;obtain⟨o,e,d⟩:=T.obj _ _ st5 b hb;exact(I8.pin (b,o) (Vv _ (Vv _ (Ay hb e)))).2.1
    have capK:∀{σ8:St} {H8:Hp} {s8:Yh},Inv (j9 X scope (own++cn) s2 H2 cs C fp) (pq++Bs fp s5.heap) σ8 H8 s8->Inv (j9 X scope (own++cn) s2 H2 cs C fp) (pq++Bs fp s5.heap) (BD own.length js σ) H8 s8:=λ{σ8 H8 s8} I8=>by
     have IX:=back I8.unpinned;refine⟨I8.ok,I8.os,I8.bare,I8.base,?_,I8.cell,I8.free,I8.freeC,I8.pin,I8.hok,I4.len⟩;obtain⟨m,hn,_⟩:=I8.loc;refine⟨m,hn,λi x v e1 e2 e3=>?_⟩;obtain⟨mx,hnx,hlx⟩:=IX.loc
     have hi:own.length<=i:=by
      rcases Wg i own.length with z | z
      ·exfalso;unfold BD at e2;rw[VP (by simpa using z),WG,iP z]at e2;cases e2
      ·exact z
     have e1':cn[i - own.length]?=some x:=by
      have:(own++cn)[i]?=some x:=e1;rw[Vq hi]at this;exact this
     have e2':(js.map λj=>(σ[j]?).join)[i - own.length]?=some (some v):=by
      unfold BD at e2;rw[Vq (by simpa using hi)]at e2;simpa using e2
     rw[VG]at e2';cases hj:js[i - own.length]? with
     | none=>rw[hj]at e2';cases e2'
     | some j=>
       rw[hj]at e2';have e2'':(σ[j]?).join=some v:=by simpa using e2'
       have hσ:σ[j]?=some (some v):=by
        cases q:σ[j]? with
        | none=>rw[q]at e2'';cases e2''
        | some z=>rw[q]at e2'';simp at e2'';rw[e2'']
       have hNx:X.N[j]?=some x:=by
        have:=congrArg (λl=>l[i - own.length]?) k7;simp only[VG,hj,e1',WR]at this;exact oj this
       have hfx:scope.names.lookup x=some .free:=k5 x (V9 e1');have hK':X.env.kindOf x=some .cell\/X.env.kindOf x=some .free:=hfreeK (x,.free) (PySem.mem_of_lookup hfx) rfl
       have hvis:Vis X.env.scope x:=by
        rcases hK' with z | z
        ·exact .inr (.inl z)
        ·exact .inr (.inr z)
       obtain⟨u,r,l⟩:=hlx j x v hNx hσ hvis;refine⟨u,r,.inr ?_⟩;rcases l with⟨l1,_⟩ | ⟨l1,c,l2,l3⟩
       ·rcases hK' with z | z
        ·rw[z]at l1;cases l1
        ·rw[z]at l1;cases l1
       ·have hrl:(Zs scope cs C X.env).kindOf x=some .cell\/(Zs scope cs C X.env).kindOf x=some .free:=by
         show(relabel scope X.env).names.lookup x=_\/(relabel scope X.env).names.lookup x=_;unfold relabel;dsimp only;rw[y6,hfx];simp only[WR];split
         ·exact .inl rfl
         ·exact .inr rfl
        refine⟨hrl,c,?_,l3⟩;show cs.lookup x=some c;obtain⟨c',hc'⟩:=hX.has x hrl;have hc2:cs.lookup x=some c':=hc';rw[hc2];have hm:=PySem.mem_of_lookup hc2
        have:X.env.cells.lookup x=some c':=by
         rcases csM _ hm with z | ⟨_,z,_⟩
         ·exact z
         ·have:=m9 k3 z;have h2:scope.names.lookup x=some .cell:=this;rw[hfx]at h2;cases h2
        rw[l2]at this;exact this.symm
    cases b with
    | false=>
      rw[iG VH];rw[iG VH]at q7;exact again (capK I7) (λ_ _ e=>e) (hN _ _ q7)
    | true=>
      rw[iP rfl];rw[iP rfl]at q7;exact thn (hem _ s2 H2 cs C fp _ s7 σ6 H7 _ _ I7 q7) λ_ s9 ⟨σ9,a9,H9,I9,q9⟩=>again (capK I9) (λ_ _ e=>e) (hN _ _ q9)
  ·obtain⟨f0,_⟩:=f2 b hb;obtain⟨o,ho,_⟩:=T.obj 0 _ st2 b hb;rw[i8 (VO (VJ ho))];exact f0
 exact F.start loop (T.self _ 0 _ _ _ (T.keep _ _ _ st2 λb hb o e=>old b o e) loop)
theorem DD(hok:AA X.env.scope scope own cn X.N js=true)(hc:X.calm=true)
 (hg:∀ s2 H2 cs C fp,PG (j9 X scope (own++cn) s2 H2 cs C fp) tg g) (ht:∀ s2 H2 cs C fp,Dy (j9 X scope (own++cn) s2 H2 cs C fp) ifs tt) (he:∀ s2 H2 cs C fp,PE (j9 X scope (own++cn) s2 H2 cs C fp) elt te)
 (I2:Inv X pq σ H2 s2) {it:Yi} {fp:List Yi} {tn:Nat->Heap->Prop} {J:It} (T:Turn X.prog X.w X.K tg J fp it tn) (st2:tn 0 s2.heap) (f2:∀ b∈fp,FpOk X pq H2 b)
 {Qe:Hp->Prop} (hW:∃ W:Nat->Nat->List V->Hp->Prop,(∃ m,W 0 m [] (upd H2 s2.heap.objs.size (.lst [])))/\QJ J g tt te s2.heap.objs.size (BD own.length js σ) (λ_ H=>Qe H) W)
 {RR:Yg->Yi->Result->Yh->Prop}
 (hRR:∀ C H' s',Inv X pq σ H' s'->FpOk X pq H' C->(∃ m,s'.heap.Ns C m)->Qe H'->RR (.ref s2.heap.objs.size) C (.ok .next) s'):
 Yk (Ym X.prog X.w) X.A (newList []) (λacc s₃=>Yk (Ym X.prog X.w) X.A (Zk scope X.env.globals (y4 X.env scope.names []) [] X.env.qual none .none (some X.env)) (λcenv s₄=>
  codeAny (Ym X.prog X.w) X.A (.compStart (.ListComp elt [⟨tg,iter,ifs,0⟩] scope pos) 0 (.ref it) acc {cenv with scope:=relabel scope X.env}) (RR acc cenv.locals) s₄) X.xe s₃) X.xe s2:=by
 obtain⟨W,w0,hw⟩:=hW;refine Fg (RR:=RR) (a0:=[]) (o0:={cls := .type "list",dict:=none,data := .seq ([]:List Yg).toArray}) (u0 := .lst []) (tem:=Uo te) Hf (λhq=>Ys hq) rfl (λ_ _ hD=>⟨WJ _,[],0,.nil,hD⟩) hok hc hg ht (λD s2 H2 cs C fp pq s σ H ys N I h=>?_) I2 T st2 f2 ⟨W,w0,hw⟩ hRR;refine Yf (thn (he s2 H2 cs C fp _ s σ H _ I h) λy s8 ⟨v,H8,I8,r8,hD8,hz8,q8⟩=>?_);refine Yf (thn (CP (X:=j9 X scope (own++cn) s2 H2 cs C fp) _ s8 σ H8 (.ref D) [v] (.ref D) [y] (λ_ H9=>H9=upd H8 D (.lst (ys++[v]))) I8 rfl (.cons r8 .nil) ⟨_,ys,v,rfl,rfl,hD8,hz8,rfl⟩) λ_ s9 ⟨z,H9,I9,r9,e9⟩=>?_);subst e9;exact Yj ⟨_,_,_,I9,q8⟩
theorem OR{wi:TI}(own cn:List Str)(js:List Nat)(hi:PI X tg iter wi)(hg:∀ s2 H2 cs C fp,PG (j9 X scope (own++cn) s2 H2 cs C fp) tg g)(ht:∀ s2 H2 cs C fp,Dy (j9 X scope (own++cn) s2 H2 cs C fp) ifs tt)
 (he:∀ s2 H2 cs C fp,PE (j9 X scope (own++cn) s2 H2 cs C fp) elt te) (hc:X.calm=true:=by rfl) (hok:AA X.env.scope scope own cn X.N js=true:=by kernel_rfl)
 (hs:∀ x,ZY iter X.env x=pure x:=by intro _;rfl):PE X (.ListComp elt [⟨tg,iter,ifs,0⟩] scope pos) (M1 wi g tt te own.length js):=by
 intro pq s σ H Q I h;have hok':=hok;unfold AA at hok';simp only[V6,dQ,Va,Vu,VZ,decide_eq_false_iff_not]at hok';obtain⟨⟨⟨⟨⟨⟨k1,k2⟩,k3⟩,k4⟩,k5⟩,k6⟩,k7⟩:=hok'
 have hfree:∀ x∈scope.names,x.2 = .free->∃ c,X.env.cells.lookup x.1=some c:=λx hx hf=>I.ok.has x.1 (by
  rcases k2 x hx with(z | z) | z
  ·exact absurd hf z
  ·exact .inl z
  ·exact .inr z)
 rw[eval_ListComp];refine Zp (use:=none) rfl hs (Aq hfree) k1 (λx hx hl=>?_) (thn (hi pq s σ H _ I h) λv s1 h1=>thn h1 λitv s2 h2=>?_)
 ·have:=m9 k3 (show(x.1,x.2)∈scope.names from hx);rw[this,hl]
 ·obtain⟨it,fp,tn,J,H2,e,I2,T,st2,f2,q⟩:=h2;subst e;refine DD (RR:=λacc C=>compPost (Ym X.prog X.w) X.A X.xe none (EP X pq σ Q) acc C) hok hc hg ht he I2 T st2 f2 (q _ I2.fresh) ?_;intro C H' s' I' fC ⟨m,hn⟩ q';obtain⟨f0,f1,f2',f3,f4,f5⟩:=fC;refine⟨m,hn,λh' hs'=>⟨.ref s2.heap.objs.size,H',?_,rfl,q'⟩⟩;exact I'.turned (t':=s'.toks) (λb o hb e=>(hs'.2 b hb).trans e) f0 f1 f3 f4 f5
theorem Hh{wi:TI}{i:Nat}{x:Str}{px spos:Pos}(own cn:List Str)(js:List Nat)(hN:X.N.Nodup)(hix:X.N[i]?=some x)(hx:X.env.scope.names.lookup x=some .local)(hi:PI X tg iter wi)
 (hg:∀ s2 H2 cs C fp,PG (j9 X scope (own++cn) s2 H2 cs C fp) tg g) (ht:∀ s2 H2 cs C fp,Dy (j9 X scope (own++cn) s2 H2 cs C fp) ifs tt)
 (he:∀ s2 H2 cs C fp,PE (j9 X scope (own++cn) s2 H2 cs C fp) elt te) (hc:X.calm=true:=by rfl) (hok:AA X.env.scope scope own cn X.N js=true:=by kernel_rfl)
 (hsw:ZF (.ListComp elt [⟨tg,iter,ifs,0⟩] scope pos) (some (.Name x px)) spos.line X.env=pure true:=by rfl)
 (hs:∀ x,ZY iter X.env x=pure x:=by intro _;rfl):PS X (.Assign [.Name x px] (.ListComp elt [⟨tg,iter,ifs,0⟩] scope pos) spos) (HQ (M1 wi g tt te own.length js) (Im i)):=by
 intro pq s σ H D I h;have hok':=hok;unfold AA at hok';simp only[V6,dQ,Va,Vu,VZ,decide_eq_false_iff_not]at hok';obtain⟨⟨⟨⟨⟨⟨k1,k2⟩,k3⟩,k4⟩,k5⟩,k6⟩,k7⟩:=hok'
 have hfree:∀ x∈scope.names,x.2 = .free->∃ c,X.env.cells.lookup x.1=some c:=λx hx hf=>I.ok.has x.1 (by
  rcases k2 x hx with(z | z) | z
  ·exact absurd hf z
  ·exact .inl z
  ·exact .inr z)
 rw[exec_Assign_Name_used _ _ _ _ hsw];refine Yf (Ze (Yf ?_));show Yk _ X.A (do let _ <- comprehension (.ListComp elt [⟨tg,iter,ifs,0⟩] scope pos) scope X.env _ (newList []) false (eval iter X.env) (some (assign (.Name x px) X.env))) _ _ s
 refine Yf (Z6 (Zp (use:=some (assign (.Name x px) X.env)) (Q:=λ_ s'=>SP X pq D .next s') rfl hs (Aq hfree) k1 (λx hx hl=>?_)
  (thn (hi pq s σ H _ I h) λv s1 h1=>thn h1 λitv s2 h2=>?_)) (λ_ s' hq=>Yj (Yj hq)) λ_ _ e=>e)
 ·have:=m9 k3 (show(x.1,x.2)∈scope.names from hx);rw[this,hl]
 ·obtain⟨it,fp,tn,J,H2,e,I2,T,st2,f2,q⟩:=h2;subst e;refine DD (RR:=λacc C=>compPost (Ym X.prog X.w) X.A X.xe (some (assign (.Name x px) X.env)) (λ_ s'=>SP X pq D .next s') acc C) hok hc hg ht he I2 T st2 f2 (q _ I2.fresh) ?_;intro C H' s' I' fC ⟨m,hn⟩ q';obtain⟨f0,f1,f2',f3,f4,f5⟩:=fC;show Yk _ X.A (assign (.Name x px) X.env (.ref s2.heap.objs.size)) _ _ _;refine A0b (EB I' hN hix (.inl hx) (v := .ref s2.heap.objs.size) rfl (λs3 I3 hch=>?_) (.inr hx));obtain⟨a,hsb,ha⟩:=hch
  have hCa:C≠a:=by
   rcases ha with z | z
   ·rw[z];exact f1
   ·exact λe=>f4 x a z e.symm
  refine⟨m,hn.sameBut hsb hCa,λh' hs'=>?_⟩;exact⟨_,H',I3.turned (t':=s3.toks) (λb o hb e=>(hs'.2 b hb).trans e) f0 f1 f3 f4 f5,q'⟩
end
end L2
namespace PySem
open AutoSeq1 (wpAny_loadPart')
section
variable{prog:Yn}{w:Yq}{A:Yt}{E:Yg->Yh->Prop}{s:Yh}
theorem BE{it l:Yi}{i:Nat}{items}{x:Yg}{Q:Yg->Yh->Prop}(hit:s.heap.IsTupleIter it l i)
 (hl:s.heap.IsTuple l items) (hx:items[i]?=some x)
 (hQ:∀ h',h'.IsTupleIter it l (i+1)->W5 it s.heap h'->Q x {s with heap:=h'}):
 Yk (Ym prog w) A (Builtin.SmallTypes.nextOf (.ref it)) Q E s:=by
 obtain⟨o,ho,hc,hd⟩:=id hit;obtain⟨ol,hol,_,nl,hdl⟩:=hl;unfold Builtin.SmallTypes.nextOf
 refine Yf (Yy (name:=Str.ofString "__next__") hit.typeIs F.slot_tuple_iterator_next
  (Z8 F.slot_tuple_iterator_next hit.typeIs F.entry_tuple_iterator_next ?_ (F.args_tuple_iterator_next_1 _)))
 show Yk _ _ (field (.ref it) 0 >>= _) _ _ s;refine Yf (ZQ ho hd (x := .ref l) rfl ?_);show Yk _ _ (if (Value.ref l == Value.none)=true then _ else _) _ _ s;rw[iG (show ¬ ((Value.ref l == Value.none)=true) from VH)];show Yk _ _ (field (.ref it) 1 >>= _) _ _ s;refine Yf (ZQ ho hd (x := .int i 0) rfl ?_);show Yk _ _ (Zd (.ref l) >>= _) _ _ s;refine Yf (Z9 hol hdl ?_);simp only[WX,hx];refine Yf (Zl ho hd (by simp) (Yj ⟨x,rfl,Yj (hQ _ ?_ (W5.update ..))⟩))
 exact⟨_,W2 _ ho (Obj.isFreed_of_fields (Obj.data_mapFields hd _)),(Obj.cls_mapFields ..).trans hc,by
  rw[Obj.data_mapFields hd];simp[rawInt]⟩
theorem BK{it l:Yi}{i:Nat}{items}{Q:Yg->Yh->Prop}(hh:A.handled=none)
 (hit:s.heap.IsTupleIter it l i) (hl:s.heap.IsTuple l items) (hx:items[i]?=none)
 (hE:∀ h' e,Yd it s.heap h'->(∃ o,h'.get? e=some o/\o.cls = .type "StopIteration")->E (.ref e) {s with heap:=h'}):
 Yk (Ym prog w) A (Builtin.SmallTypes.nextOf (.ref it)) Q E s:=by
 obtain⟨o,ho,hc,hd⟩:=id hit;obtain⟨ol,hol,_,nl,hdl⟩:=hl;unfold Builtin.SmallTypes.nextOf
 refine Yf (Yy (name:=Str.ofString "__next__") hit.typeIs F.slot_tuple_iterator_next
  (Z8 F.slot_tuple_iterator_next hit.typeIs F.entry_tuple_iterator_next ?_ (F.args_tuple_iterator_next_1 _)))
 show Yk _ _ (field (.ref it) 0 >>= _) _ _ s;refine Yf (ZQ ho hd (x := .ref l) rfl ?_);show Yk _ _ (if (Value.ref l == Value.none)=true then _ else _) _ _ s;rw[iG (show ¬ ((Value.ref l == Value.none)=true) from VH)];show Yk _ _ (field (.ref it) 1 >>= _) _ _ s;refine Yf (ZQ ho hd (x := .int i 0) rfl ?_);show Yk _ _ (Zd (.ref l) >>= _) _ _ s;refine Yf (Z9 hol hdl ?_);simp only[WX,hx];refine Yf (Zc (Yf (Zl ho hd (by simp) ?_)))
 first
  | refine Yf (ZH ?_)
  | skip
 show Yk _ _ (newExc (.type "StopIteration") [] >>= _) _ _ _;refine Yf ?_;simp only[newExc,newTuple];refine Yf (Ys ?_ (by size_fits));refine Yf (m:=Zm _ _) (A03 (a:=Value.none) (by first | rfl | (simp only[Zm];rfl)) ?_);refine Ys ?_ (by size_fits);simp only[raiseNew];refine Yf (wpAny_handled ?_)
 first | rw[show A.in1.handled=none from hh] | rw[hh]
 refine Yf (Yj (wpAny_throw ?_));exact hE _ _ (((W5.update ..).extBut.push _).push _) ⟨_,VR _ rfl,rfl⟩
end
theorem BB{prog:Yn}{w:Yq}{A:Yt}(hh:A.handled=none)(it l:Yi)(hne:l≠it)(items:Array Yg):
 Draws prog w A it [it,l] items.size (λi v=>items[i]?=some v) (λi h=>h.IsTupleIter it l i/\h.IsTuple l items) where
 live:=λ_ _ st=>let ⟨o,ho,_⟩:=st.1;⟨o,ho⟩
 frame:=λ_ _ _ st hk=>⟨st.1.at λo e=>hk it (by simp) o e,let ⟨o,ho,r⟩:=st.2;⟨o,hk l (by simp) o ho,r⟩⟩
 item:=λi s Q E hi st hQ=>by
  refine BE st.1 st.2 (x:=items[i]) (by simp[hi]) λh' hit' hs'=>?_;exact hQ _ h' s.toks (by simp[hi]) ⟨hit',st.2.extBut hs'.extBut hne⟩ hs'
 done:=λs Q E st hE=>BK hh st.1 st.2 (by simp) hE
theorem Bu(l:Yi)(items:Array Yg)(n:Nat)(dct:Option Yi)(sl:Array (Option Yg)):
 Meets (Builtin.«enumerate.__new__» ⟨[.type "enumerate",.ref l],[]⟩) (λ_ R s=>s.heap.get? l=some {cls := .type "tuple",dict:=dct,data := .seq items n,slots:=sl}/\
  R (.ok (.ret (.ref (s.heap.push {cls := .type "tuple_iterator",data := .fields #[.ref l,.int 0 0]}).objs.size)))
   {s with heap:=(s.heap.push {cls := .type "tuple_iterator",data := .fields #[.ref l,.int 0 0]}).push {cls := .type "enumerate",data := .fields #[.none,.bool false,.ref s.heap.objs.size,rawInt 0,.none,.none]}}):=
 .of_wp λprog w A R s h=>by
  obtain⟨hp,g,d,tk,os⟩:=s;obtain⟨hl,h⟩:=h;have hsub:=sub_enumerate;have hL:Heap.IsTuple (Shared.heap ⟨hp,g,d,tk,os⟩) l items:=⟨_,hl,rfl,n,rfl⟩
  wp_walk using wpAny_loadPart' hl
  refine wpAny_stack_any λst=>Yj ?_;split
  ·rename_i c _ _ _ _ _;cases(c == Value.type "enumerate")
   ·wp_walk using wpAny_loadPart' hl,ZJ hL
    exact⟨_,rfl,h⟩
   ·wp_walk using wpAny_loadPart' hl,ZJ hL
    exact⟨_,rfl,h⟩
  ·wp_walk using wpAny_loadPart' hl,ZJ hL
   exact⟨_,rfl,h⟩
section
variable{prog:Yn}{w:Yq}{A:Yt}{E:Yg->Yh->Prop}{s:Yh}
theorem Al{l:Yi}{items:Array Yg}{Q:Yg->Yh->Prop}(hL:s.heap.IsTuple l items)
 (h:∀ h',IsEnum h' (s.heap.objs.size+1) s.heap.objs.size 0 .none->h'.IsTupleIter s.heap.objs.size l 0->h'.objs.size=s.heap.objs.size+2->
   (∀ b o,s.heap.get? b=some o->h'.get? b=some o)->Q (.ref (s.heap.objs.size+1)) {s with heap:=h'}):
 Yk (Ym prog w) A (call (.type "enumerate") [.ref l]) Q E s:=by
 obtain⟨⟨c,dct,dt,sl⟩,hl,hc,n,hd⟩:=hL;replace hc:c = .type "tuple":=hc;replace hd:dt = .seq items n:=hd;subst hc hd
 refine callType_new F.called_enumerate (by decide) (F.typeCall_enumerate_1 _) (F.newCall_enumerate_1 _) (λobj=>F.args_object_init_2 obj _) F.entry_enumerate_new
  (Bu l items n dct sl) ⟨hl,?_⟩
 have hz:(s.heap.push {cls := .type "tuple_iterator",data := .fields #[.ref l,.int 0 0]}).objs.size=s.heap.objs.size+1:=W9 ..;show _/\_;rw[hz]
 have he:IsEnum ((s.heap.push {cls := .type "tuple_iterator",data := .fields #[.ref l,.int 0 0]}).push
  {cls := .type "enumerate",data := .fields #[.none,.bool false,.ref s.heap.objs.size,rawInt 0,.none,.none]}) (s.heap.objs.size+1) s.heap.objs.size 0 .none:=by
  have:=VR (s.heap.push {cls := .type "tuple_iterator",data := .fields #[.ref l,.int 0 0]})
   (o:={cls := .type "enumerate",data := .fields #[.none,.bool false,.ref s.heap.objs.size,rawInt 0,.none,.none]}) rfl
  rw[hz]at this;exact this
 refine⟨⟨_,he,rfl⟩,h _ he ⟨_,VE _ (VR _ rfl),rfl,rfl⟩ (by rw[W9,hz]) λb o x=>VE _ (VE _ x)⟩
end
end PySem
namespace L2
open PySem PySem.Spec PyProof.Rows
section
variable{X:Cx}{pq:List (Yi×Obj)}{σ:St}{H:Hp}{s:Yh}{h':Heap}
theorem Inv.turnedL{t':Nat}{ch:List Yi}(I:Inv X pq σ H s)(k:∀ b o,b∉ch->s.heap.get? b=some o->h'.get? b=some o)(hf:∀ b∈ch,FpOk X pq H b):Inv X pq σ H {s with heap:=h',toks:=t'}:=by
 have nit:∀ b u,H b=some u->b∉ch:=λb u e z=>by rw[(hf b z).1]at e;cases e
 refine I.step (g':=s.gens) (d':=s.drawn) (ch:=ch) (λb hb=>?_) (λb o _ _ hc e _=>k b o hc e) (λb o _ _ hc e _=>⟨o.slots,k b o hc e⟩) (λ_ _ _ _ n=>n)
  (λb o hc e=>⟨o,k b o hc e⟩) (λ_ _ e=>e) (λ_ _ _ e=>e) (λb ps e=>⟨#[],by rw[e];simp⟩) (λm hm=>?_) (λb u e=>?_) I.bare
 ·obtain⟨f0,f1,f2,f3,f4,f5⟩:=hf b hb;exact⟨f3,f1,f4,f5⟩
 ·obtain⟨o,es,ep,ho,r⟩:=hm;exact⟨o,es,ep,k _ o (λz=>(hf _ z).2.1 rfl) ho,r⟩
 ·refine(I.hok b u e).stay (λc v hc q=>k c v ?_ q) (λ_ q=>q) λ_ _ q=>q;rcases hc with z | z
  ·rw[z];exact nit b u e
  ·exact nit c _ z
theorem Inv.turnLay{t':Nat}{ch:List Yi}{o:HO}(I:Inv X pq σ H s)(k:∀ b u,b∉ch->s.heap.get? b=some u->h'.get? b=some u)(hf:∀ b∈ch,FpOk X pq H b)
 (new:ObjOk X.prog X.w (upd H s.heap.objs.size o) h' s.heap.objs.size o):Inv X pq σ (upd H s.heap.objs.size o) {s with heap:=h',toks:=t'}:=by
 have hT:H s.heap.objs.size=none:=I.fresh;have nit:∀ b u,H b=some u->b∉ch:=λb u e z=>by rw[(hf b z).1]at e;cases e
 have lt:∀ b u,s.heap.get? b=some u->b≠s.heap.objs.size:=λb u e=>VO (VJ e)
 refine I.step (g':=s.gens) (d':=s.drawn) (ch:=ch) (λb hb=>?_) (λb o _ _ hc e _=>k b o hc e) (λb o _ _ hc e _=>⟨o.slots,k b o hc e⟩) (λb u _ e n=>by rw[i8 (lt b u e)];exact n)
  (λb o hc e=>⟨o,k b o hc e⟩) (λb xs e=>by rw[i8 (j6 e hT)];exact e) (λb u xs e=>by rw[i8 (j6 e hT)];exact e) (λb ps e=>⟨#[],by rw[i8 (j6 e hT),e];simp⟩) (λm hm=>?_) (λb u e=>?_) I.bare
 ·obtain⟨f0,f1,f2,f3,f4,f5⟩:=hf b hb;exact⟨f3,f1,f4,f5⟩
 ·obtain⟨o,es,ep,ho,r⟩:=hm;exact⟨o,es,ep,k _ o (λz=>(hf _ z).2.1 rfl) ho,r⟩
 ·by_cases hb:b=s.heap.objs.size
  ·subst hb;rw[m7]at e;cases e;exact new
  ·rw[i8 hb]at e;refine(I.hok b u e).stay (λc v hc q=>k c v ?_ q) (λc q=>by rw[i8 (j6 q hT)];exact q) λc xs q=>by rw[i8 (j6 q hT)];exact q
   rcases hc with z | z
   ·rw[z];exact nit b u e
   ·exact nit c _ z
end
def Ra(K:V5)(a:Yi):It:=
 ⟨λi H=>∃ xs x,SqL K H a xs/\xs[i]?=some x,λi H x H'=>∃ p v,H p=none/\x = .ref p/\(∀ xs,SqL K H a xs->xs[i]?=some v)/\H'=upd H p (.tup [.int i,v]),λi H=>∃ xs,SqL K H a xs/\xs.length=i⟩
def Rb(K:V5)(a:Yi):It:=
 ⟨λi H=>∃ xs x,SqT K H a xs/\xs[i]?=some x,λi H x H'=>∃ p v,H p=none/\x = .ref p/\(∀ xs,SqT K H a xs->xs[i]?=some v)/\H'=upd H p (.tup [.int i,v]),λi H=>∃ xs,SqT K H a xs/\xs.length=i⟩
theorem M3:2<=Yl:=by decide
theorem Hi{P:Yn}{w:Yq}{K:V5}{elts:List Expr}{kx:Nat}{tp:Pos}(a e it:Yi)(hei:e≠it)(hae:a≠e)(hai:a≠it):Turn P w K (.Tuple elts kx tp) (Ra K a) [e,it] e (λi h=>(∃ old,IsEnum h e it i old)/\h.IsListIter it a i) where
 mem:=by simp
 obj:=λi h st b hb=>by
  rcases VT.mp hb with rfl | hb
  ·obtain⟨⟨old,z⟩,_⟩:=st;exact⟨_,z,λv q=>by cases q⟩
  ·have e':b=it:=by simpa using hb
   subst e';obtain⟨o,q,c,d⟩:=st.2;exact⟨o,q,λv z=>by rw[d]at z;cases z⟩
 keep:=λi h h' st k=>⟨let ⟨old,z⟩:=st.1;⟨old,k e (by simp) _ z⟩,st.2.at λo q=>k it (by simp) o q⟩
 item:=by
  intro X hP hw hK hc i pq s σ H E I hf st hg;subst hP hw hK;obtain⟨xs,x,hq,hx⟩:=hg;obtain⟨its,rv,p,hz⟩:=I.list hq;obtain⟨u,hu,ru⟩:=rv.get hx;obtain⟨⟨old,he⟩,hli⟩:=st
  have hil:i<its.toArray.size:=by
   have:=(gM hu).1;simpa using this
  refine Zt (Draws.list (prog:=X.prog) (w:=X.w) (A:=X.A.in1) (show X.A.in1.handled=none from I.ok.hd hc) it a hai its.toArray) he ⟨hli,p.isList⟩ hil hei (by simp[hei,Ne.symm hae]) λy h' tk hy ho hs' hT hsz hk=>?_
  have hyu:y=u:=by
   have:its.toArray[i]?=some u:=by simpa using hu
   rw[this]at hy;exact(oj hy).symm
  subst hyu;refine⟨_,rfl,?_⟩
  have I1:Inv X pq σ (upd H s.heap.objs.size (.tup [.int i,x])) {s with heap:=h',toks:=tk+1}:=
   I.turnLay (ch:=[e,it]) (λb o hb q=>hk b o (λz=>hb (by simp[z])) (λz=>hb (by simp[z])) q) hf ⟨M3,[.int i tk,y],.cons ⟨tk,rfl⟩ (.cons ru .nil),⟨_,hT,rfl,_,rfl⟩⟩
  refine Zn ho λh2 he2 hs2=>?_
  have hfp1:∀ b∈[e,it],FpOk X pq (upd H s.heap.objs.size (.tup [.int i,x])) b:=λb hb=>by
   obtain⟨f0,f1⟩:=hf b hb
   have hbl:b≠s.heap.objs.size:=by
    rcases VT.mp hb with rfl | hb
    ·exact VO (VJ he)
    ·have e':b=it:=by simpa using hb
     subst e';obtain⟨o,q,_⟩:=hli;exact VO (VJ q)
   exact⟨by rw[i8 hbl];exact f0,f1⟩
  have I2:Inv X pq σ (upd H s.heap.objs.size (.tup [.int i,x])) {s with heap:=h2,toks:=tk+1}:=
   Inv.turnedL (s:={s with heap:=h',toks:=tk+1}) (t':=tk+1) (ch:=[e,it]) I1 (λb o hb q=>(hs2.2 b (λz=>hb (by simp[z]))).trans q) hfp1
  refine⟨.ref s.heap.objs.size,_,I2,rfl,⟨_,x,I.fresh,rfl,λys hy=>by rw[I.list_inj hy hq];exact hx,rfl⟩,⟨⟨y,by simpa using he2⟩,hs'.1.extBut hs2.extBut (Ne.symm hei)⟩,λb hb=>(hfp1 b hb).1⟩
 done:=by
   intro X hP hw hK hc i pq s σ H E I hf st hg;subst hP hw hK;obtain⟨xs,hq,hx⟩:=hg;obtain⟨its,rv,p,hz⟩:=I.list hq;obtain⟨⟨old,he⟩,hli⟩:=st;have hl:=rv.length;have hn:its.toArray.size=i:=by simp;omega
   refine Zx (Draws.list (prog:=X.prog) (w:=X.w) (A:=X.A.in1) (show X.A.in1.handled=none from I.ok.hd hc) it a hai its.toArray) he (by rw[hn];exact⟨hli,p.isList⟩) λh' eb=>⟨rfl,I.turnedL (t':=s.toks) (ch:=[e,it]) (λb o hb q=>eb b o (λz=>hb (by simp[z])) q) hf⟩
 self:=λ_ _ _ _ _ st h=>let ⟨old,z⟩:=st.1;ZZ z h
theorem Hj{P:Yn}{w:Yq}{K:V5}{elts:List Expr}{kx:Nat}{tp:Pos}(a e it:Yi)(hei:e≠it)(hae:a≠e)(hai:a≠it):Turn P w K (.Tuple elts kx tp) (Rb K a) [e,it] e (λi h=>(∃ old,IsEnum h e it i old)/\h.IsTupleIter it a i) where
 mem:=by simp
 obj:=λi h st b hb=>by
  rcases VT.mp hb with rfl | hb
  ·obtain⟨⟨old,z⟩,_⟩:=st;exact⟨_,z,λv q=>by cases q⟩
  ·have e':b=it:=by simpa using hb
   subst e';obtain⟨o,q,c,d⟩:=st.2;exact⟨o,q,λv z=>by rw[d]at z;cases z⟩
 keep:=λi h h' st k=>⟨let ⟨old,z⟩:=st.1;⟨old,k e (by simp) _ z⟩,st.2.at λo q=>k it (by simp) o q⟩
 item:=by
  intro X hP hw hK hc i pq s σ H E I hf st hg;subst hP hw hK;obtain⟨xs,x,hq,hx⟩:=hg;obtain⟨its,rv,p,hz⟩:=I.tuple hq;obtain⟨u,hu,ru⟩:=rv.get hx;obtain⟨⟨old,he⟩,hli⟩:=st
  have hil:i<its.toArray.size:=by
   have:=(gM hu).1;simpa using this
  refine Zt (BB (prog:=X.prog) (w:=X.w) (A:=X.A.in1) (show X.A.in1.handled=none from I.ok.hd hc) it a hai its.toArray) he ⟨hli,p⟩ hil hei (by simp[hei,Ne.symm hae]) λy h' tk hy ho hs' hT hsz hk=>?_
  have hyu:y=u:=by
   have:its.toArray[i]?=some u:=by simpa using hu
   rw[this]at hy;exact(oj hy).symm
  subst hyu;refine⟨_,rfl,?_⟩
  have I1:Inv X pq σ (upd H s.heap.objs.size (.tup [.int i,x])) {s with heap:=h',toks:=tk+1}:=
   I.turnLay (ch:=[e,it]) (λb o hb q=>hk b o (λz=>hb (by simp[z])) (λz=>hb (by simp[z])) q) hf ⟨M3,[.int i tk,y],.cons ⟨tk,rfl⟩ (.cons ru .nil),⟨_,hT,rfl,_,rfl⟩⟩
  refine Zn ho λh2 he2 hs2=>?_
  have hfp1:∀ b∈[e,it],FpOk X pq (upd H s.heap.objs.size (.tup [.int i,x])) b:=λb hb=>by
   obtain⟨f0,f1⟩:=hf b hb
   have hbl:b≠s.heap.objs.size:=by
    rcases VT.mp hb with rfl | hb
    ·exact VO (VJ he)
    ·have e':b=it:=by simpa using hb
     subst e';obtain⟨o,q,_⟩:=hli;exact VO (VJ q)
   exact⟨by rw[i8 hbl];exact f0,f1⟩
  have I2:Inv X pq σ (upd H s.heap.objs.size (.tup [.int i,x])) {s with heap:=h2,toks:=tk+1}:=
   Inv.turnedL (s:={s with heap:=h',toks:=tk+1}) (t':=tk+1) (ch:=[e,it]) I1 (λb o hb q=>(hs2.2 b (λz=>hb (by simp[z]))).trans q) hfp1
  refine⟨.ref s.heap.objs.size,_,I2,rfl,⟨_,x,I.fresh,rfl,λys hy=>by rw[I.tuple_inj hy hq];exact hx,rfl⟩,⟨⟨y,by simpa using he2⟩,hs'.1.extBut hs2.extBut (Ne.symm hei)⟩,λb hb=>(hfp1 b hb).1⟩
 done:=by
   intro X hP hw hK hc i pq s σ H E I hf st hg;subst hP hw hK;obtain⟨xs,hq,hx⟩:=hg;obtain⟨its,rv,p,hz⟩:=I.tuple hq;obtain⟨⟨old,he⟩,hli⟩:=st;have hl:=rv.length;have hn:its.toArray.size=i:=by simp;omega
   refine Zx (BB (prog:=X.prog) (w:=X.w) (A:=X.A.in1) (show X.A.in1.handled=none from I.ok.hd hc) it a hai its.toArray) he (by rw[hn];exact⟨hli,p⟩) λh' eb=>⟨rfl,I.turnedL (t':=s.toks) (ch:=[e,it]) (λb o hb q=>eb b o (λz=>hb (by simp[z])) q) hf⟩
 self:=λ_ _ _ _ _ st h=>let ⟨old,z⟩:=st.1;ZZ z h
section
variable{X:Cx}
def Tw(K:V5)(ta:TA):TI:=λσ H R=>ta σ H λvs H1=>∃ a,vs=[.ref a]/\(((∃ xs,SqL K H1 a xs)/\R (Ra K a) H1)\/((∃ xs,SqT K H1 a xs)/\R (Rb K a) H1))
theorem DE:Yp "enumerate"=some (.type "enumerate"):=by decide +kernel
theorem OS{a:Expr}{ta:TA}{p pos:Pos}{elts:List Expr}{kx:Nat}{tp:Pos}(hg:Gl X "enumerate")(hm:X.mg "enumerate"=none)(ha:PA X [a] ta)(hs:Yr [a] X.env=[(false,eval a X.env)]:=by rfl):
 PI X (.Tuple elts kx tp) (.Call (.Name "enumerate" p) [a] [] pos) (Tw X.K ta):=by
 intro pq s σ H R I h;refine Call_ (BF I hg hm DE (PyProof.Rows.callWith_type1 (thn (ha pos pq s σ H _ I h) λus s1 ⟨vs,H1,I1,r1,q1⟩=>?_) hs rfl));obtain⟨l,e,q1⟩:=q1;subst e;cases r1 with
 | cons r rr=>
   cases rr;cases r;rcases q1 with⟨⟨xs,hq⟩,q⟩ | ⟨⟨xs,hq⟩,q⟩
   ·obtain⟨its,rv,pl,hz⟩:=I1.list hq;have hlt:@LT.lt Nat _ l s1.heap.objs.size:=by obtain⟨o,n,e,_⟩:=pl;exact VJ e
    refine call_enumerate_list pl.isList λh' he hli hsz hk=>?_;refine ZZ he ?_;have I2:Inv X pq σ H1 {s1 with heap:=h'}:=I1.kept (t':=s1.toks) hk;refine⟨s1.heap.objs.size+1,[s1.heap.objs.size+1,s1.heap.objs.size],_,_,H1,rfl,I2,Hi l _ s1.heap.objs.size (show @Ne Nat _ _ by omega) (show @Ne Nat _ _ by omega) (show @Ne Nat _ _ by omega),⟨⟨_,he⟩,hli⟩,λb hb=>?_,q⟩
    have hb2:@LE.le Nat _ s1.heap.objs.size b:=by
     rcases VT.mp hb with rfl | hb
     ·exact XT _
     ·have e:b=s1.heap.objs.size:=by simpa using hb
      rw[e];exact VF _
    exact I1.fpOk hb2 (I1.hok.fresh hb2)
   ·obtain⟨its,rv,pl,hz⟩:=I1.tuple hq;have hlt:@LT.lt Nat _ l s1.heap.objs.size:=by obtain⟨o,e,_⟩:=pl;exact VJ e
    refine Al (show s1.heap.IsTuple l its.toArray from pl) λh' he hli hsz hk=>?_;refine ZZ he ?_;have I2:Inv X pq σ H1 {s1 with heap:=h'}:=I1.kept (t':=s1.toks) hk;refine⟨s1.heap.objs.size+1,[s1.heap.objs.size+1,s1.heap.objs.size],_,_,H1,rfl,I2,Hj l _ s1.heap.objs.size (show @Ne Nat _ _ by omega) (show @Ne Nat _ _ by omega) (show @Ne Nat _ _ by omega),⟨⟨_,he⟩,hli⟩,λb hb=>?_,q⟩
    have hb2:@LE.le Nat _ s1.heap.objs.size b:=by
     rcases VT.mp hb with rfl | hb
     ·exact XT _
     ·have e:b=s1.heap.objs.size:=by simpa using hb
      rw[e];exact VF _
    exact I1.fpOk hb2 (I1.hok.fresh hb2)
end
theorem KL(its:List Yg)(k:Nat)(y:Yg):(its.toArray.extract 0 k).push y++its.toArray.extract k=(its.take k++y::its.drop k).toArray:=by
 apply Array.toList_inj.mp;simp
 first
  | done
  | exact Xj (by simp)
section
variable{X:Cx}
def J5:V->List V->Hp->VK->Prop:=λx vs H Q=>∃ l xs i y,x = .ref l/\vs=[.int i,y]/\H l=some (.lst xs)/\0<=i/\i<=xs.length/\xs.length<Yl/\Q .non (upd H l (.lst (xs.take i.toNat++y::xs.drop i.toNat)))
theorem EM:MtM X "list.insert" J5:=by
 intro pq s σ H x vs v us Q I rx rv h;obtain⟨l,xs,i,y,rfl,rfl,hH,h0,h1,hz,q⟩:=h;cases rx;obtain⟨u1,u2,rfl,⟨t,rfl⟩,ru⟩:=Vals.two rv;obtain⟨z,its,n,r,hl,e⟩:=I.lstM hH;have hn:=Bt;refine ZV F.slot_list_insert ⟨_,e,rfl⟩ F.entry_list_insert (F.args_list_insert_3 _ _ _) (AutoSeq1.list_insert_list_int_val_1 l its.toArray n i t u2 (by rw[A02 (by omega) (by omega)];exact VH) (by rw[VC];omega)) ⟨e,?_⟩;refine⟨.non,_,I.lset (its':=its.take i.toNat++u2::its.drop i.toNat) hH e ?_ (Vals.append (r.take _) (.cons ru (r.drop _))) ?_,rfl,q⟩
 ·have hk:(if i<0 then (i+(its.toArray.size:Int)).toNat else min i.toNat its.toArray.size)=i.toNat:=by
   rw[iG (by omega),VC];omega
  show(let k:=if i<0 then (i+(its.toArray.size:Int)).toNat else min i.toNat its.toArray.size;(its.toArray.extract 0 k).push u2++its.toArray.extract k)=_;rw[hk];exact KL its i.toNat u2
 ·rw[V8,Vy,VY,Wn];omega
def Am(xs ys:List V):Bool:=xs.length == ys.length&&(xs.zip ys).all λp=>eqV p.1 p.2
def OT(K:V5)(neg:Bool):R2:=λx y H Q=>∃ a b xs ys,x = .ref a/\y = .ref b/\SqL K H a xs/\SqL K H b ys/\((xs.all A9=true/\ys.all A9=true)\/xs=[]\/ys=[])/\Q (.bl (if neg then !Am xs ys else Am xs ys)) H
theorem DF{xs ys:List V}(hl:xs.length=ys.length):(VD xs.length).all (λj=>eqV (xs.getD j .non) (ys.getD j .non))=Am xs ys:=by
 have e1:Am xs ys=(xs.zip ys).all λp=>eqV p.1 p.2:=by unfold Am;simp[hl]
 rw[e1,Vo,Va,Va];constructor
 ·intro h p hp;obtain⟨j,hj,e⟩:=Wv.mp hp;have hj1:j<xs.length:=by simp at hj;omega
  have hj2:j<ys.length:=by omega
  have:=h j (VW.mpr hj1);rw[<-e];simpa[W6,hj1,hj2] using this
 ·intro h j hj;have hj1:j<xs.length:=VW.mp hj;have hj2:j<ys.length:=by omega
  have:=h (xs[j],ys[j]) (Wv.mpr ⟨j,by simp;omega,by simp⟩);simpa[W6,hj1,hj2] using this
theorem Bv{xs ys:List V}{us ws:List Yg}{A:Yt}{s:Yh}(r1:Vals xs us)(r2:Vals ys ws)(f:(xs.all A9=true/\ys.all A9=true)\/xs=[]\/ys=[]):
 ∀ j (h1:j<us.toArray.size) (h2:j<ws.toArray.size),SeqAt.EqAt A s us.toArray[j] ws.toArray[j] (eqV (xs.getD j .non) (ys.getD j .non)):=by
 intro j h1 h2;have l1:=r1.length;have l2:=r2.length;simp only[VC]at h1 h2;have hj1:j<xs.length:=by omega
 have hj2:j<ys.length:=by omega
 obtain⟨f1,f2⟩:xs.all A9=true/\ys.all A9=true:=by
  rcases f with f | f | f
  ·exact f
  ·subst f;simp at hj1
  ·subst f;simp at hj2
 obtain⟨u,eu,ru⟩:=r1.get (i:=j) (x:=xs[j]) (by simp[hj1]);obtain⟨w',ew,rw'⟩:=r2.get (i:=j) (x:=ys[j]) (by simp[hj2])
 have e1:us.toArray[j]=u:=by
  have:=gM eu;obtain⟨_,q⟩:=this;simpa using q
 have e2:ws.toArray[j]=w':=by
  obtain⟨_,q⟩:=gM ew;simpa using q
 rw[e1,e2];have g1:xs.getD j .non=xs[j]:=by simp[W6,hj1]
 have g2:ys.getD j .non=ys[j]:=by simp[W6,hj2]
 rw[g1,g2];exact Lr ru rw' (Va.mp f1 _ (W0 hj1)) (Va.mp f2 _ (W0 hj2))
theorem Rc(hu:X.A.units<cLine):OpR X (Yv .Eq) (OT X.K false):=by
 intro pq s σ H x y v u Q I rx ry h;obtain⟨a,b,xs,ys,rfl,rfl,h1,h2,f,q⟩:=h;cases rx;cases ry;obtain⟨its1,r1,p1,_⟩:=I.list h1;obtain⟨its2,r2,p2,_⟩:=I.list h2;have l1:=r1.length;have l2:=r2.length;by_cases hl:xs.length=ys.length
 ·refine SeqAt.eq_listAt p1.isList p2.isList (by simp;omega) hu (Bv r1 r2 f) ⟨.bl _,H,I,rfl,?_⟩;rw[VC,<-l1,DF hl];exact q
 ·refine SeqAt.eq_list_lengthsAt p1.isList p2.isList (by simp;omega) hu ⟨.bl false,H,I,rfl,?_⟩;have e:Am xs ys=false:=by unfold Am;simp[hl]
  rw[show(if false=true then !Am xs ys else Am xs ys)=Am xs ys from rfl,e]at q;exact q
theorem Re(hu:X.A.units<cLine):OpR X (Yv .NotEq) (OT X.K true):=by
 intro pq s σ H x y v u Q I rx ry h;obtain⟨a,b,xs,ys,rfl,rfl,h1,h2,f,q⟩:=h;cases rx;cases ry;obtain⟨its1,r1,p1,_⟩:=I.list h1;obtain⟨its2,r2,p2,_⟩:=I.list h2;have l1:=r1.length;have l2:=r2.length;by_cases hl:xs.length=ys.length
 ·refine(SeqAt.RcNeAt.lists p1.isList p2.isList (by simp;omega) hu (Bv r1 r2 f)) _ _ _ _ ?_;refine⟨.bl _,H,I,rfl,?_⟩;rw[VC,<-l1,DF hl];exact q
 ·refine(SeqAt.RcNeAt.lists_lengths p1.isList p2.isList (by simp;omega) hu) _ _ _ _ ?_;refine⟨.bl true,H,I,rfl,?_⟩;have e:Am xs ys=false:=by unfold Am;simp[hl]
  rw[show(if true=true then !Am xs ys else Am xs ys)=!Am xs ys from rfl,e]at q;exact q
theorem call_isi1:CallR X (.builtin "isinstance") (λxs H Q=>∃ x T t b,xs=[x,.ty T]/\TyOf X.K H x t/\PySem.W.kitOne X.K t (.type T)=some b/\Q (.bl b) H):=by
 intro pq s σ H xs us Q I r h;obtain⟨x,T,t,b,rfl,ty,e,q⟩:=h;obtain⟨u1,u2,rfl,r1,r2⟩:=Vals.two r;cases r2;exact KG I r1 ty e λtk=>⟨.bl b,H,I.tok tk,rfl,q⟩
theorem Hk{pq:List (Yi×Obj)}{σ:St}{H:Hp}{s:Yh}{A:Yt}{E:Yg->Yh->Prop}{Q:Yg->Yh->Prop}{b:Bool}{x:V}{u t:Yg}{tp:Yi}{dd:Option Yi}{its:List Yg}{n:Nat}{sl:Array (Option Yg)}(I:Inv X pq σ H s)(rx:RelV x u)(ty:TyOf X.K H x t)
 (htp:s.heap.get? tp=some ⟨.type "tuple",dd,.seq its.toArray n,sl⟩) (e:PySem.W.kitAny X.K t its=some b) (h:∀ tk,Q (.bool b) {s with toks:=tk}):
 Yk (Ym X.prog X.w) A (call (.builtin "isinstance") [u,.ref tp]) Q E s:=by
 cases ty with
 | non=>cases(show u=Value.none from rx);exact PySem.W.kia_tup PySem.W.kitx_none I.kIn True.intro htp e (λz=>nomatch z) h
 | bl y=>cases(show u=Value.bool y from rx);exact PySem.W.kia_tup PySem.W.kitx_bool I.kIn True.intro htp e (λz=>nomatch z) h
 | int i=>obtain⟨t,q⟩:=(show ∃ t,u=Value.int i t from rx);cases q;exact PySem.W.kia_tup PySem.W.kitx_int I.kIn True.intro htp e (λz=>nomatch z) h
 | str y=>obtain⟨t,q⟩:=(show ∃ t,u=Value.str y t from rx);cases q;exact PySem.W.kia_tup PySem.W.kitx_str I.kIn True.intro htp e (λz=>nomatch z) h
 | flt y=>obtain⟨t,q⟩:=(show ∃ t,u=Value.float y t from rx);cases q;exact PySem.W.kia_tup PySem.W.kitx_float I.kIn True.intro htp e (λz=>nomatch z) h
 | @lst a xs ea=>
   cases(show u=Value.ref a from rx);obtain⟨_,_,n,_,h1⟩:=(show ObjOk X.prog X.w H s.heap a (.lst xs) from I.hok a _ ea)
   exact PySem.W.kia_tup PySem.W.kitx_list I.kIn ⟨_,h1,rfl⟩ htp e (λz=>nomatch z) h
 | @frz a ob xs ea=>
   cases(show u=Value.ref a from rx);obtain⟨_,_,_,n,_,h1⟩:=(show ObjOk X.prog X.w H s.heap a (.frz ob (.lst xs)) from I.hok a _ ea)
   exact PySem.W.kia_tup PySem.W.kitx_list I.kIn ⟨_,h1,rfl⟩ htp e (λz=>nomatch z) h
 | @tup a xs ea=>
   cases(show u=Value.ref a from rx);obtain⟨_,_,_,p⟩:=(show ObjOk X.prog X.w H s.heap a (.tup xs) from I.hok a _ ea)
   obtain⟨o,h1,h2,_⟩:=p;exact PySem.W.kia_tup PySem.W.kitx_tuple I.kIn ⟨o,h1,h2⟩ htp e (λz=>nomatch z) h
 | @dK a kvs ea=>
   cases(show u=Value.ref a from rx);obtain⟨_,_,vs,_,p⟩:=(show ObjOk X.prog X.w H s.heap a (.dK kvs) from I.hok a _ ea)
   obtain⟨o,es,ep,h1,h2,_⟩:=p;exact PySem.W.kia_tup PySem.W.kitx_dict I.kIn ⟨o,h1,h2.1⟩ htp e (λz=>nomatch z) h
 | @dT a kvs ea=>
   cases(show u=Value.ref a from rx);obtain⟨_,_,xs,_,o,es,ep,h1,h2,_⟩:=(show ObjOk X.prog X.w H s.heap a (.dT kvs) from I.hok a _ ea)
   exact PySem.W.kia_tup PySem.W.kitx_dict I.kIn ⟨o,h1,h2.1⟩ htp e (λz=>nomatch z) h
 | @ins a C dx fs ea cl ha hn htk hm=>
   cases(show u=Value.ref a from rx);obtain⟨mA,O,_⟩:=Iw I.hok ea;obtain⟨od,J,_⟩:=O.look;exact PySem.W.kia_tup (PySem.W.kitx_own (cl.get _) cl.hd ha hn htk hm) I.kIn J htp e (λz=>nomatch z) h
theorem J6:∀(Ts:List String) {us:List Yg},Vals (Ts.map V.ty) us->us=Ts.map Value.type
 | [],_,.nil=>rfl
 | T::r,_,.cons h t=>by cases h;rw[J6 r t];rfl
theorem KM:CallR X (.builtin "isinstance") (λxs H Q=>∃(x:V) (p:Yi) (Ts:List String) (t:Yg) (b:Bool),xs=[x,.ref p]/\H p=some (.tup (Ts.map V.ty))/\TyOf X.K H x t/\PySem.W.kitAny X.K t (Ts.map Value.type)=some b/\Q (.bl b) H):=by
 intro pq s σ H xs us Q I r h;obtain⟨x,p,Ts,t,b,rfl,hp,ty,e,q⟩:=h;obtain⟨u1,u2,rfl,r1,r2⟩:=Vals.two r;cases r2;obtain⟨_,its,rv,⟨⟨c,dd,dt,sl⟩,h1,h2,n,h3⟩⟩:=(show ObjOk X.prog X.w H s.heap p (.tup (Ts.map V.ty)) from I.hok p _ hp)
 have ei:=J6 Ts rv;subst ei;replace h2:c = .type "tuple":=h2;replace h3:dt = .seq (Ts.map Value.type).toArray n:=h3;subst h2 h3;exact Hk I r1 ty h1 e λtk=>⟨.bl b,H,I.tok tk,rfl,q⟩
theorem KN(hc:X.calm=true):CallR X (.builtin "all") (λxs H Q=>∃(a:Yi) (bs:List Bool),xs=[.ref a]/\SqL X.K H a (bs.map V.bl)/\Q (.bl (bs.all id)) H):=by
 intro pq s σ H xs us Q I r h;obtain⟨a,bs,rfl,hq,q⟩:=h;obtain⟨u,rfl,ru⟩:=AQ r;cases ru;obtain⟨its,rv,pl,hz⟩:=I.list hq;have hl:=rv.length;rw[V7]at hl;refine call_all_walk (ZC pl.isList ?_);have hlt:a<s.heap.objs.size:=by obtain⟨o,n,e,_⟩:=pl;exact VJ e
 refine⟨s.heap.objs.size,_,_,_,_,_,λi=>bs.getD i false,rfl,Walks.list (by exact I.ok.hd hc) s.heap.objs.size a (VO hlt) its.toArray,⟨⟨_,VR _ rfl,rfl,rfl⟩,pl.isList.push _⟩,?_,λh' tk hk=>?_⟩
 ·intro i v s' Q' E' hv hQ';have hv':its[i]?=some v:=by simpa using hv
  have hi:i<its.length:=(gM hv').1;have hb:(bs.map V.bl)[i]?=some (.bl (bs[i]'(by omega))):=by simp
  obtain⟨u',eu,ru'⟩:=rv.get hb;rw[hv']at eu;cases eu;cases ru';have hg:bs.getD i false=bs[i]'(by omega):=by simp[W6,show i<bs.length by omega]
  have hQ2:Q' (bs.getD i false) s':=hQ';rw[hg]at hQ2;exact Yw hQ2
 ·have I1:Inv X pq σ H {s with heap:=h',toks:=tk}:=I.kept λb o e=>hk b o (by simp;exact VO (VJ e)) (VE _ e);refine⟨.bl _,H,I1,rfl,?_⟩
  have e:(VD its.toArray.size).all (λi=>bs.getD i false)=bs.all id:=by
   rw[VC,<-hl,Vo,Va,Va];constructor
   ·intro h b hb;obtain⟨j,hj,e⟩:=Wv.mp hb;have:=h j (VW.mpr hj);simpa[W6,hj,e] using this
   ·intro h j hj;have hj1:j<bs.length:=VW.mp hj;have:=h bs[j] (W0 hj1);simpa[W6,hj1] using this
  rw[e];exact q
end
def srt(ns:List Int):List Int:=ns.mergeSort (λa b=>decide (a<=b))
theorem M4(ns:List Int):(srt ns).Perm ns:=List.mergeSort_perm _ _
theorem Rg(ns:List Int):(srt ns).Pairwise (·<=·):=by
 have h:=List.pairwise_mergeSort (le:=λ(a b:Int)=>decide (a<=b)) (λa b c h1 h2=>by simp only[dQ]at *;omega) (λa b=>by simp only[Vu,dQ];omega) ns;exact h.imp λh=>of_decide_eq_true h
theorem Rh{ns ns':List Int}(hp:ns'.Perm ns)(hs:ns'.Pairwise (·<=·)):ns'=srt ns:=
 List.Perm.eq_of_pairwise (λ_ _ _ _ a b=>Int.le_antisymm a b) hs (Rg ns) (hp.trans (M4 ns).symm)
theorem B1:∀{ns:List Int} {us:List Yg},Vals (ns.map V.int) us->IntsAre us ns
 | [],_,.nil => .nil
 | _::_,_,.cons ⟨_,e⟩ t=>by subst e;exact .cons _ _ (B1 t)
theorem EN:∀{ns:List Int} {us:List Yg},IntsAre us ns->Vals (ns.map V.int) us
 | _,_,.nil => .nil
 | _,_,.cons _ _ t => .cons ⟨_,rfl⟩ (EN t)
theorem M5:Yp "sorted"=some (.builtin "sorted"):=by decide +kernel
section
variable{X:Cx}
theorem Fh:CallR X (.builtin "sorted") (λxs H Q=>∃ p ns,xs=[.ref p]/\SqL X.K H p (ns.map V.int)/\ns.length<64/\∀ l,H l=none->Q (.ref l) (upd H l (.lst ((srt ns).map V.int)))):=by
 intro pq s σ H xs us Q I r h;obtain⟨p,ns,rfl,hq,h64,q⟩:=h;obtain⟨u,rfl,rx⟩:=AQ r;cases rx;obtain⟨its,r',pl,hz⟩:=I.list hq;have hlen:=r'.length;rw[V7]at hlen;refine sorted_ints pl.isList (B1 r') (by omega) λout ns' a1 a2 a3=>?_;obtain⟨e,he⟩:=sortedAll_at s.heap its out;have en:=Rh a2 a3;subst en;refine⟨.ref (s.heap.objs.size+1),_,I.laid (t':=s.toks) (λb o h=>sortedAll_old h) (XT _) (show ObjOk X.prog X.w _ _ _ (.lst ((srt ns).map V.int)) from ⟨?_,out.toList,e,EN a1,by simpa using he⟩),rfl,q _ (I.hok.fresh (XT _))⟩;rw[V7,a2.length_eq];exact Ve (Xi h64) (by decide)
end
end L2
set_option maxHeartbeats 1000000
namespace Rf
open PySem L2
inductive TyN where
 | int | bool | str | list | tuple | none
 deriving DecidableEq
def TyN.nm:TyN->String
 | .int=>"int" | .bool=>"bool" | .str=>"str" | .list=>"list" | .tuple=>"tuple" | .none=>"NoneType"
inductive SV where
 | non | bl (b:Bool) | int (i:Int) | str (x:Str) | tup (xs:List SV) | loc (k:Nat) | ro (xs:List SV) | ty (t:TyN)
inductive SO where
 | lst (xs:List SV)
 | iset (ms:List Int)
 | dtp (kvs:List ((Int×Int)×Int)) | dtl (kvs:List (List Int×SV)) | dtf (o:Obj) (us:List (List Key×V)) (kvs:List (List Int×SV)) | dct (kvs:List (Int×SV)) | dcf (o:Obj) (ks:List (Key×V)) (kvs:List (Int×SV))
abbrev Sto:=List SO
abbrev EnvS:=List (Option SV)
def FzL(K:V5)(H:Hp)(a:Yi)(vs:List V):Prop:=(∃ o,H a=some (.frz o (.lst vs)))\/
 ∃(o:Obj) (its:Array Yg) (n:Nat),K.lookup a=some o/\o.cls = .type "list"/\o.dict=none/\o.data = .seq its n/\its.size<=Yl/\Vals vs its.toList
theorem FzL.sq{K:V5}{H:Hp}{a:Yi}{vs:List V}(h:FzL K H a vs):SqL K H a vs:=h.imp (λ⟨o,e⟩ => .inr ⟨o,e⟩) id
mutual
noncomputable def Rl(K:V5)(as:List Yi)(H:Hp):V->SV->Prop
 | v,.non=>v = .non
 | v,.bl b=>v = .bl b
 | v,.int i=>v = .int i
 | v,.str x=>v = .str x
 | v,.tup xs=>∃ p vs,v = .ref p/\H p=some (.tup vs)/\RlAll K as H vs xs
 | v,.loc k=>∃ a,as[k]?=some a/\v = .ref a
 | v,.ro xs=>∃ a vs,v = .ref a/\FzL K H a vs/\RlAll K as H vs xs
 | v,.ty t=>v = .ty t.nm
noncomputable def RlAll(K:V5)(as:List Yi)(H:Hp):List V->List SV->Prop
 | vs,[]=>vs=[]
 | vs,x::xs=>∃ v r,vs=v::r/\Rl K as H v x/\RlAll K as H r xs
end
def imm:HO->Bool
 | .tup _=>true
 | .frz _ (.lst _)=>true
 | _=>false
def KeepU(H H':Hp):Prop:=∀ b o,H b=some o->imm o=true->H' b=some o
theorem KeepU.refl(H:Hp):KeepU H H:=λ_ _ h _=>h
theorem KeepU.trans{H H' H'':Hp}(a:KeepU H H')(b:KeepU H' H''):KeepU H H'':=λx o h i=>b x o (a x o h i) i
theorem Ar{H:Hp}{p:Yi}{o:HO}(hp:H p=none):KeepU H (upd H p o):=λb u h _=>by
 rw[i8 (j6 h hp)];exact h
theorem CU{H:Hp}{a:Yi}{u o:HO}(h:H a=some u)(i:imm u=false):KeepU H (upd H a o):=λb v hb iv=>by
 rw[i8 (LS hb h (by intro z;rw[z,i]at iv;cases iv))];exact hb
theorem FzL.mono{K:V5}{H H':Hp}{a:Yi}{vs:List V}(k:KeepU H H')(h:FzL K H a vs):FzL K H' a vs:=h.imp (λ⟨o,e⟩=>⟨o,k _ _ e rfl⟩) id
theorem B2{α:Type}{as as':List α}(h:as <+: as'){k:Nat}{a:α}(e:as[k]?=some a):as'[k]?=some a:=by
 obtain⟨t,rfl⟩:=h;rw[VP ((gM e).1)];exact e
mutual
theorem Rl.mono{K:V5}{as as':List Yi}{H H':Hp}(ha:as <+: as')(hH:KeepU H H'):∀(x:SV) (v:V),Rl K as H v x->Rl K as' H' v x
 | .non,v,h=>by unfold Rl at h ⊢;exact h
 | .bl _,v,h=>by unfold Rl at h ⊢;exact h
 | .int _,v,h=>by unfold Rl at h ⊢;exact h
 | .str _,v,h=>by unfold Rl at h ⊢;exact h
 | .tup xs,v,h=>by
   unfold Rl at h ⊢;obtain⟨p,vs,e,hp,h⟩:=h;exact⟨p,vs,e,hH p _ hp rfl,RlAll.mono ha hH xs vs h⟩
 | .ro xs,v,h=>by
   unfold Rl at h ⊢;obtain⟨p,vs,e,hp,h⟩:=h;exact⟨p,vs,e,hp.mono hH,RlAll.mono ha hH xs vs h⟩
 | .ty _,v,h=>by unfold Rl at h ⊢;exact h
 | .loc k,v,h=>by
   unfold Rl at h ⊢;obtain⟨a,e,z⟩:=h;exact⟨a,B2 ha e,z⟩
theorem RlAll.mono{K:V5}{as as':List Yi}{H H':Hp}(ha:as <+: as')(hH:KeepU H H'):∀(xs:List SV) (vs:List V),RlAll K as H vs xs->RlAll K as' H' vs xs
 | [],vs,h=>by unfold RlAll at h ⊢;exact h
 | x::xs,vs,h=>by
   unfold RlAll at h ⊢;obtain⟨v,r,e,h1,h2⟩:=h;exact⟨v,r,e,Rl.mono ha hH x v h1,RlAll.mono ha hH xs r h2⟩
end
section
variable{K:V5}{as:List Yi}{H:Hp}
theorem rl_non{v:V}:Rl K as H v .non↔v = .non:=by unfold Rl;exact Iff.rfl
theorem rl_bl{v:V}{b:Bool}:Rl K as H v (.bl b)↔v = .bl b:=by unfold Rl;exact Iff.rfl
theorem rl_int{v:V}{i:Int}:Rl K as H v (.int i)↔v = .int i:=by unfold Rl;exact Iff.rfl
theorem rl_str{v:V}{x:Str}:Rl K as H v (.str x)↔v = .str x:=by unfold Rl;exact Iff.rfl
theorem rl_tup{v:V}{xs:List SV}:Rl K as H v (.tup xs)↔∃ p vs,v = .ref p/\H p=some (.tup vs)/\RlAll K as H vs xs:=by rw[Rl]
theorem rl_loc{v:V}{k:Nat}:Rl K as H v (.loc k)↔∃ a,as[k]?=some a/\v = .ref a:=by unfold Rl;exact Iff.rfl
theorem rl_ro{v:V}{xs:List SV}:Rl K as H v (.ro xs)↔∃ a vs,v = .ref a/\FzL K H a vs/\RlAll K as H vs xs:=by rw[Rl]
theorem rl_ty{v:V}{n:TyN}:Rl K as H v (.ty n)↔v = .ty n.nm:=by unfold Rl;exact Iff.rfl
theorem rla_nil{vs:List V}:RlAll K as H vs []↔vs=[]:=by unfold RlAll;exact Iff.rfl
theorem rla_cons{vs:List V}{x:SV}{xs:List SV}:RlAll K as H vs (x::xs)↔∃ v r,vs=v::r/\Rl K as H v x/\RlAll K as H r xs:=by rw[RlAll]
theorem RlAll.nil:RlAll K as H [] []:=rla_nil.mpr rfl
theorem RlAll.cons{v:V}{x:SV}{vs:List V}{xs:List SV}(h:Rl K as H v x)(t:RlAll K as H vs xs):RlAll K as H (v::vs) (x::xs):=rla_cons.mpr ⟨v,vs,rfl,h,t⟩
theorem RlAll.length:∀{xs:List SV} {vs:List V},RlAll K as H vs xs->vs.length=xs.length
 | [],_,h=>by rw[rla_nil.mp h];rfl
 | x::xs,_,h=>by
   obtain⟨v,r,rfl,_,t⟩:=rla_cons.mp h;simp[t.length]
theorem RlAll.get:∀{xs:List SV} {vs:List V} {i:Nat} {x:SV},RlAll K as H vs xs->xs[i]?=some x->∃ v,vs[i]?=some v/\Rl K as H v x
 | [],_,i,_,_,e=>by simp at e
 | y::xs,_,0,_,h,e=>by
   obtain⟨v,r,rfl,a,_⟩:=rla_cons.mp h;simp at e;subst e;exact⟨v,rfl,a⟩
 | y::xs,_,i+1,_,h,e=>by
   obtain⟨v,r,rfl,_,t⟩:=rla_cons.mp h;simpa using t.get (by simpa using e)
theorem RlAll.append:∀{xs ys:List SV} {vs us:List V},RlAll K as H vs xs->RlAll K as H us ys->RlAll K as H (vs++us) (xs++ys)
 | [],_,_,_,h,h'=>by rw[rla_nil.mp h];exact h'
 | x::xs,_,_,_,h,h'=>by
   obtain⟨v,r,rfl,a,t⟩:=rla_cons.mp h;exact .cons a (t.append h')
theorem RlAll.take:∀{xs:List SV} {vs:List V} (n:Nat),RlAll K as H vs xs->RlAll K as H (vs.take n) (xs.take n)
 | _,_,0,_=>by simpa using RlAll.nil
 | [],_,n+1,h=>by rw[rla_nil.mp h];exact .nil
 | x::xs,_,n+1,h=>by
   obtain⟨v,r,rfl,a,t⟩:=rla_cons.mp h;exact .cons a (t.take n)
theorem RlAll.drop:∀{xs:List SV} {vs:List V} (n:Nat),RlAll K as H vs xs->RlAll K as H (vs.drop n) (xs.drop n)
 | _,_,0,h=>h
 | [],_,n+1,h=>by rw[rla_nil.mp h];exact .nil
 | x::xs,_,n+1,h=>by
   obtain⟨v,r,rfl,a,t⟩:=rla_cons.mp h;exact t.drop n
theorem RlAll.set{x:SV}{v:V}(hx:Rl K as H v x):∀{xs:List SV} {vs:List V} (n:Nat),RlAll K as H vs xs->RlAll K as H (vs.set n v) (xs.set n x)
 | [],_,n,h=>by rw[rla_nil.mp h];exact .nil
 | y::xs,_,0,h=>by
   obtain⟨_,r,rfl,_,t⟩:=rla_cons.mp h;exact .cons hx t
 | y::xs,_,n+1,h=>by
   obtain⟨_,r,rfl,a,t⟩:=rla_cons.mp h;exact .cons a (t.set hx n)
theorem RlAll.rev:∀{xs:List SV} {vs:List V},RlAll K as H vs xs->RlAll K as H vs.reverse xs.reverse
 | [],_,h=>by rw[rla_nil.mp h];exact .nil
 | x::xs,_,h=>by
   obtain⟨v,r,rfl,a,t⟩:=rla_cons.mp h;rw[Wf,Wf];exact t.rev.append (.cons a .nil)
theorem RlAll.ins{x:SV}{v:V}(hx:Rl K as H v x){xs:List SV}{vs:List V}(h:RlAll K as H vs xs)(n:Nat):RlAll K as H (vs.take n++v::vs.drop n) (xs.take n++x::xs.drop n):=(h.take n).append (.cons hx (h.drop n))
theorem RlAll.ints{is:List Int}:RlAll K as H (is.map V.int) (is.map SV.int):=by
 induction is with
 | nil=>exact .nil
 | cons i is ih=>exact .cons (rl_int.mpr rfl) ih
end
noncomputable def RlD(K:V5)(as:List Yi)(H:Hp):List (Key×V)->List (Int×SV)->Prop
 | ks,[]=>ks=[]
 | ks,p::r=>∃ v t,ks=(.inl p.1,v)::t/\Rl K as H v p.2/\RlD K as H t r
theorem RlD.mono{K:V5}{as as':List Yi}{H H':Hp}(ha:as <+: as')(hH:KeepU H H'):∀(kvs:List (Int×SV)) (ks:List (Key×V)),RlD K as H ks kvs->RlD K as' H' ks kvs
 | [],_,h=>h
 | p::r,_,⟨v,t,e,h1,h2⟩=>⟨v,t,e,Rl.mono ha hH p.2 v h1,RlD.mono ha hH r t h2⟩
noncomputable def RlT(K:V5)(as:List Yi)(H:Hp):List (List Key×V)->List (List Int×SV)->Prop
 | us,[]=>us=[]
 | us,p::r=>∃ v t,us=(p.1.map Sum.inl,v)::t/\Rl K as H v p.2/\RlT K as H t r
theorem RlT.mono{K:V5}{as as':List Yi}{H H':Hp}(ha:as <+: as')(hH:KeepU H H'):∀(kvs:List (List Int×SV)) (us:List (List Key×V)),RlT K as H us kvs->RlT K as' H' us kvs
 | [],_,h=>h
 | p::r,_,⟨v,t,e,h1,h2⟩=>⟨v,t,e,Rl.mono ha hH p.2 v h1,RlT.mono ha hH r t h2⟩
def dtV(kvs:List ((Int×Int)×Int)):List (List Key×V):=kvs.map λp=>([.inl p.1.1,.inl p.1.2],V.int p.2)
noncomputable def RlO(K:V5)(as:List Yi)(H:Hp)(a:Yi):SO->Prop
 | .lst xs=>∃ vs,H a=some (.lst vs)/\RlAll K as H vs xs
 | .iset ms=>∃ F,H a=some (.set F ms.length)/\∀ k,F k=decide (k∈ms)
 | .dtp kvs=>H a=some (.dT (dtV kvs))
 | .dtl kvs=>∃ us,H a=some (.dT us)/\RlT K as H us kvs
 | .dtf o us kvs=>H a=some (.frz o (.dT us))/\RlT K as H us kvs
 | .dct kvs=>∃ ks,H a=some (.dK ks)/\RlD K as H ks kvs
 | .dcf o ks kvs=>H a=some (.frz o (.dK ks))/\RlD K as H ks kvs
structure Ok(K:V5)(as:List Yi)(H:Hp)(S:Sto):Prop where
 len:as.length=S.length
 nd:as.Nodup
 obj:∀(k:Nat) (o:SO) (a:Yi),S[k]?=some o->as[k]?=some a->RlO K as H a o
noncomputable def EnvOk(K:V5)(as:List Yi)(H:Hp)(σ:St)(ρ:EnvS):Prop:=σ.length=ρ.length/\∀(i:Nat) (x:SV),ρ[i]?=some (some x)->∃ v,σ[i]?=some (some v)/\Rl K as H v x
theorem EnvOk.mono{K:V5}{as as':List Yi}{H H':Hp}{σ:St}{ρ:EnvS}(h:EnvOk K as H σ ρ)(ha:as <+: as')(hH:KeepU H H'):EnvOk K as' H' σ ρ:=⟨h.1,λi x e=>let ⟨v,a,b⟩:=h.2 i x e;⟨v,a,Rl.mono ha hH x v b⟩⟩
theorem EnvOk.set{K:V5}{as:List Yi}{H:Hp}{σ:St}{ρ:EnvS}(h:EnvOk K as H σ ρ){i:Nat}{v:V}{x:SV}(hx:Rl K as H v x):EnvOk K as H (σ.set i (some v)) (ρ.set i (some x)):=⟨by rw[Vp,Vp];exact h.1,λj y e=>by
 by_cases hij:i=j
 ·subst hij;have hi:i<ρ.length:=by have:=(gM e).1;rwa [Vp]at this
  rw[Vf hi]at e;rw[Vf (by rw[h.1];exact hi)];cases e;exact⟨v,rfl,hx⟩
 ·rw[W3 hij]at e ⊢;exact h.2 j y e⟩
section
variable{K:V5}{as:List Yi}{H:Hp}{S:Sto}
theorem RlO.mono{as':List Yi}{H':Hp}{a:Yi}(ha:as <+: as')(hH:KeepU H H')(e:∀ u,H a=some u->H' a=some u):∀{o:SO},RlO K as H a o->RlO K as' H' a o
 | .lst xs,⟨vs,h1,h2⟩=>⟨vs,e _ h1,RlAll.mono ha hH xs vs h2⟩
 | .iset ms,⟨F,h1,h2⟩=>⟨F,e _ h1,h2⟩
 | .dtp kvs,h1=>e _ h1
 | .dtl kvs,⟨us,h1,h2⟩=>⟨us,e _ h1,RlT.mono ha hH kvs us h2⟩
 | .dtf _ us kvs,⟨h1,h2⟩=>⟨e _ h1,RlT.mono ha hH kvs us h2⟩
 | .dct kvs,⟨ks,h1,h2⟩=>⟨ks,e _ h1,RlD.mono ha hH kvs ks h2⟩
 | .dcf _ ks kvs,⟨h1,h2⟩=>⟨e _ h1,RlD.mono ha hH kvs ks h2⟩
theorem RlO.some{a:Yi}:∀{o:SO},RlO K as H a o->∃ u,H a=some u/\imm u=false
 | .lst _,⟨_,h,_⟩=>⟨_,h,rfl⟩
 | .iset _,⟨_,h,_⟩=>⟨_,h,rfl⟩
 | .dtp _,h=>⟨_,h,rfl⟩
 | .dtl _,⟨_,h,_⟩=>⟨_,h,rfl⟩
 | .dtf _ _ _,⟨h,_⟩=>⟨_,h,rfl⟩
 | .dct _,⟨_,h,_⟩=>⟨_,h,rfl⟩
 | .dcf _ _ _,⟨h,_⟩=>⟨_,h,rfl⟩
theorem Ok.of(h:Ok K as H S){k:Nat}{a:Yi}(e:as[k]?=some a):∃ o,S[k]?=some o/\RlO K as H a o:=by
 have hk:k<S.length:=by rw[<-h.len];exact(gM e).1
 exact⟨S[k],VB hk,h.obj k _ a (VB hk) e⟩
theorem Ok.new(h:Ok K as H S){p:Yi}{o:HO}(hp:H p=none):Ok K as (upd H p o) S:=⟨h.len,h.nd,λk u a e ea=>by
 have r:=h.obj k u a e ea;obtain⟨z,hz,_⟩:=r.some;exact r.mono (Vk as) (Ar hp) λvs hv=>by rw[i8 (j6 hz hp)];exact hv⟩
theorem Ok.free(h:Ok K as H S){p:Yi}(hp:H p=none):p∉as:=λhm=>by
 obtain⟨k,hk⟩:=WK hm;obtain⟨o,_,r⟩:=h.of hk;obtain⟨z,hz,_⟩:=r.some;rw[hp]at hz;cases hz
theorem Ok.pushO(h:Ok K as H S){p:Yi}(hp:H p=none){u:HO}{x:SO}(r:RlO K (as++[p]) (upd H p u) p x):Ok K (as++[p]) (upd H p u) (S++[x]):=by
 have pre:as <+: as++[p]:=Wq _ _;refine⟨by rw[V8,V8,h.len];rfl,?_,λk o a e ea=>?_⟩
 ·rw[WY];refine⟨h.nd,by simp,λa ha b hb=>?_⟩;rw[VQ.mp hb];intro z;subst z;exact h.free hp ha
 ·by_cases hk:k<S.length
  ·rw[VP hk]at e;rw[VP (by rw[h.len];exact hk)]at ea;exact((h.new (o:=u) hp).obj k o a e ea).mono pre (KeepU.refl _) λ_ z=>z
  ·have hk':k=S.length:=by
    have:=(gM e).1;rw[V8,Vw]at this;omega
   subst hk';rw[Vb]at e;rw[<-h.len,Vb]at ea;cases e;cases ea;exact r
theorem Ok.push(h:Ok K as H S){p:Yi}(hp:H p=none){vs:List V}{xs:List SV}(r:RlAll K as H vs xs):Ok K (as++[p]) (upd H p (.lst vs)) (S++[.lst xs]):=h.pushO hp ⟨vs,m7,RlAll.mono (Wq _ _) (Ar hp) xs vs r⟩
theorem Ok.writeO(h:Ok K as H S){k:Nat}{a:Yi}{y x:SO}{u:HO}(e:S[k]?=some y)(ea:as[k]?=some a)(r:KeepU H (upd H a u)->RlO K as (upd H a u) a x):Ok K as (upd H a u) (S.set k x)/\KeepU H (upd H a u):=by
 obtain⟨z,h1,iz⟩:=(h.obj k _ a e ea).some;have ku:KeepU H (upd H a u):=CU h1 iz;refine⟨⟨by rw[Vp];exact h.len,h.nd,λj o b eo eb=>?_⟩,ku⟩;by_cases hj:k=j
 ·subst hj;rw[Vf ((gM e).1)]at eo;rw[ea]at eb;cases eo;cases eb;exact r ku
 ·rw[W3 hj]at eo
  have hab:b≠a:=λz=>by
   subst z;exact hj ((Y5 ((gM ea).1) h.nd).mp (ea.trans eb.symm))
  exact(h.obj j o b eo eb).mono (Vk as) ku λws hw=>by rw[i8 hab];exact hw
theorem Ok.write(h:Ok K as H S){k:Nat}{a:Yi}{ys xs:List SV}{vs:List V}(e:S[k]?=some (.lst ys))(ea:as[k]?=some a)(r:RlAll K as H vs xs):Ok K as (upd H a (.lst vs)) (S.set k (.lst xs))/\KeepU H (upd H a (.lst vs)):=h.writeO e ea λku=>⟨vs,m7,RlAll.mono (Vk as) ku xs vs r⟩
end
structure Go(as:List Yi)(H:Hp)(as':List Yi)(H':Hp):Prop where
 pre:as <+: as'
 keep:∀ b o,H b=some o->b∉as->H' b=some o/\b∉as'
theorem Go.refl(as:List Yi)(H:Hp):Go as H as H:=⟨Vk _,λ_ _ h n=>⟨h,n⟩⟩
theorem Go.trans{as as1 as2:List Yi}{H H1 H2:Hp}(a:Go as H as1 H1)(b:Go as1 H1 as2 H2):Go as H as2 H2:=⟨a.pre.trans b.pre,λx o h n=>let ⟨h1,n1⟩:=a.keep x o h n;b.keep x o h1 n1⟩
theorem Go.new{as:List Yi}{H:Hp}{p:Yi}{o:HO}(hp:H p=none):Go as H as (upd H p o):=⟨Vk _,λb u h n=>⟨by rw[i8 (j6 h hp)];exact h,n⟩⟩
theorem Go.push{as:List Yi}{H:Hp}{p:Yi}{o:HO}(hp:H p=none):Go as H (as++[p]) (upd H p o):=⟨Wq _ _,λb u h n=>⟨by rw[i8 (j6 h hp)];exact h,by
 rw[VU,VQ];rintro(z | z)
 ·exact n z
 ·exact j6 h hp z⟩⟩
theorem Go.write{as:List Yi}{H:Hp}{a:Yi}{o:HO}(ha:a∈as):Go as H as (upd H a o):=⟨Vk _,λb u h n=>⟨by rw[i8 (λz=>n (by rw[z];exact ha))];exact h,n⟩⟩
section
variable{K:V5}{as as':List Yi}{H H':Hp}{S:Sto}
theorem Ok.away(h:Ok K as H S){b:Yi}{o:HO}(e:H b=some o)(i:imm o=true):b∉as:=λhm=>by
 obtain⟨k,hk⟩:=WK hm;obtain⟨_,_,r⟩:=h.of hk;obtain⟨z,hz,iz⟩:=r.some;rw[e]at hz;cases hz;rw[i]at iz;cases iz
theorem Go.ku(g:Go as H as' H')(ok:Ok K as H S):KeepU H H':=λb o h i=>(g.keep b o h (ok.away h i)).1
theorem Ok.other(h:Ok K as H S){b:Yi}{vs us:List V}(hb:H b=some (.lst vs))(n:b∉as):Ok K as (upd H b (.lst us)) S:=⟨h.len,h.nd,λk o a e ea=>(h.obj k o a e ea).mono (Vk as) (CU hb rfl) λws hw=>by
 rw[i8 (λz=>n (by rw[<-z];exact V9 ea))];exact hw⟩
end
end Rf
namespace L2
open PySem PySem.Spec PyProof.Rows
section
variable{κ:Type}[DecidableEq κ]
def v7(kvs:List (κ×V))(k:κ):Option V:=(kvs.find? λkv=>decide (kv.1=k)).map (·.2)
def Ac(kvs:List (κ×V))(k:κ)(v:V):List (κ×V):=
 if (kvs.any λkv=>decide (kv.1=k))=true then kvs.map (λkv=>if kv.1=k then (kv.1,v) else kv) else kvs++[(k,v)]
theorem BL{p:κ×V}{r:List (κ×V)}{k:κ}(e:p.1=k):v7 (p::r) k=some p.2:=by simp[v7,Vd,e]
theorem BM{p:κ×V}{r:List (κ×V)}{k:κ}(e:¬ p.1=k):v7 (p::r) k=v7 r k:=by simp[v7,Vd,e]
theorem DG(k:κ):∀ kvs:List (κ×V),(kvs.any λkv=>decide (kv.1=k))=(v7 kvs k).isSome
 | []=>rfl
 | p::r=>by
   rw[W8];by_cases e:p.1=k
   ·simp only[BL e,decide_eq_true e,Y6,Y3]
   ·rw[BM e,decide_eq_false e,YV];exact DG k r
theorem Ae(kvs:List (κ×V))(k:κ)(v:V):(Ac kvs k v).length<=kvs.length+1:=by
 unfold Ac;split
 ·rw[V7];omega
 ·rw[V8,VY,W4];omega
theorem Fi{kvs:List (κ×V)}{k:κ}(v:V)(h:v7 kvs k=none):Ac kvs k v=kvs++[(k,v)]:=by
 unfold Ac;rw[DG,h];exact iG (by decide)
theorem RelO.isSome_eq{o:Option V}{u:Option Yg}(r:RelO o u):o.isSome=u.isSome:=by
 cases o with
 | none=>cases u with
   | none=>rfl
   | some _=>exact(show False from r).elim
 | some _=>cases u with
   | none=>exact(show False from r).elim
   | some _=>rfl
theorem RelO.getD{o:Option V}{u:Option Yg}{d:V}{d':Yg}(r:RelO o u)(rd:RelV d d'):RelV (o.getD d) (u.getD d'):=by
 cases o with
 | none=>cases u with
   | none=>exact rd
   | some _=>exact(show False from r).elim
 | some _=>cases u with
   | none=>exact(show False from r).elim
   | some _=>exact r
theorem KV.val{kvs:List (κ×V)}{vs:List (κ×Yg)}(r:KV kvs vs)(k:κ):RelO (v7 kvs k) (valueAt vs k):=by
 unfold KV at r
 induction r with
 | nil=>exact True.intro
 | @cons p q ps qs h t ih=>
   obtain⟨h1,h2⟩:=h;by_cases e:p.1=k
   ·have e':q.1=k:=h1.symm.trans e;have b:valueAt (q::qs) k=some q.2:=by simp[valueAt,Vd,e']
    rw[BL e,b];exact h2
   ·have e':¬ q.1=k:=λz=>e (h1.trans z);have b:valueAt (q::qs) k=valueAt qs k:=by simp[valueAt,Vd,e']
    rw[BM e,b];exact ih
theorem KV.any{kvs:List (κ×V)}{vs:List (κ×Yg)}(r:KV kvs vs)(k:κ):(kvs.any λkv=>decide (kv.1=k))=vs.any λkv=>decide (kv.1=k):=by
 unfold KV at r
 induction r with
 | nil=>rfl
 | cons h t ih=>rw[W8,W8,ih,h.1]
theorem KV.repl{kvs:List (κ×V)}{vs:List (κ×Yg)}(r:KV kvs vs)(k:κ){y:V}{u:Yg}(ry:RelV y u):
 KV (kvs.map λkv=>if kv.1=k then (kv.1,y) else kv) (vs.map λkv=>if kv.1=k then (kv.1,u) else kv):=by
 unfold KV at r ⊢
 induction r with
 | nil=>exact .nil
 | @cons p q ps qs h t ih=>
   rw[Vh,Vh];refine .cons ?_ ih;obtain⟨h1,h2⟩:=h;by_cases e:p.1=k
   ·rw[iP e,iP (h1.symm.trans e)];exact⟨h1,ry⟩
   ·rw[iG e,iG (λz=>e (h1.trans z))];exact⟨h1,h2⟩
theorem KV.put{kvs:List (κ×V)}{vs:List (κ×Yg)}(r:KV kvs vs)(k:κ){y:V}{u:Yg}(ry:RelV y u):KV (Ac kvs k y) (stored vs k u):=by
 unfold Ac stored;rw[r.any k];by_cases e:(vs.any λkv=>decide (kv.1=k))=true
 ·rw[iP e,iP e];exact r.repl k ry
 ·rw[iG e,iG e];exact Paired.snoc r ⟨rfl,ry⟩
theorem KV.keys{kvs:List (κ×V)}{vs:List (κ×Yg)}(r:KV kvs vs):kvs.map (·.1)=vs.map (·.1):=by
 unfold KV at r
 induction r with
 | nil=>rfl
 | cons h t ih=>rw[Vh,Vh,ih,h.1]
theorem KV.length{kvs:List (κ×V)}{vs:List (κ×Yg)}(r:KV kvs vs):kvs.length=vs.length:=Paired.length r
end
theorem Fj{P:Yn}{w:Yq}{k:Key}{u:Yg}(r:RelV (kV k) u):(m8 P w).is k u=true:=by
 cases k with
 | inl i=>obtain⟨t,e⟩:=(show ∃ t,u=Value.int i t from r);subst e;exact FV P w i t
 | inr x=>obtain⟨t,e⟩:=(show ∃ t,u=Value.str x t from r);subst e;exact FW P w x t
theorem EO{P:Yn}{w:Yq}:∀{ks:List Key} {us:List Yg},Vals (ks.map kV) us->ItemsAre (m8 P w) ks us
 | [],_,r=>by rw[Ya]at r;cases r;exact .nil
 | k::ks,_,r=>by
   rw[Vh]at r;cases r with
   | cons h t=>exact .cons (Fj h) (EO t)
abbrev KT(H:Hp):List (List Key×V)->List (List Key×Yi×Yg)->Prop:=Paired λp q=>p.1=q.1/\H q.2.1=some (.tup (p.1.map kV))/\RelV p.2 q.2.2
theorem KT.val{H:Hp}{kvs:List (List Key×V)}{xs:List (List Key×Yi×Yg)}(r:KT H kvs xs)(k:List Key):RelO (v7 kvs k) ((atKey xs k).map (·.2)):=by
 induction r with
 | nil=>exact True.intro
 | @cons p q ps qs h t ih=>
   obtain⟨h1,_,h2⟩:=h;by_cases e:p.1=k
   ·have e':q.1=k:=h1.symm.trans e;have b:atKey (q::qs) k=some q.2:=by simp[atKey,Vd,e']
    rw[BL e,b];exact h2
   ·have e':¬ q.1=k:=λz=>e (h1.trans z);have b:atKey (q::qs) k=atKey qs k:=by simp[atKey,Vd,e']
    rw[BM e,b];exact ih
theorem KT.repl{H:Hp}{kvs:List (List Key×V)}{xs:List (List Key×Yi×Yg)}(r:KT H kvs xs)(k:List Key){y:V}{u:Yg}(ry:RelV y u):
 KT H (kvs.map λkv=>if kv.1=k then (kv.1,y) else kv) (xs.map (putAt k u)):=by
 induction r with
 | nil=>exact .nil
 | @cons p q ps qs h t ih=>
   rw[Vh,Vh];refine .cons ?_ ih;obtain⟨h1,h2,h3⟩:=h;unfold putAt;by_cases e:p.1=k
   ·rw[iP e,iP (h1.symm.trans e)];exact⟨h1,h2,ry⟩
   ·rw[iG e,iG (λz=>e (h1.trans z))];exact⟨h1,h2,h3⟩
theorem KT.put{H:Hp}{kvs:List (List Key×V)}{xs:List (List Key×Yi×Yg)}(r:KT H kvs xs)(k:List Key){b:Yi}{y:V}{u:Yg}(hb:H b=some (.tup (k.map kV)))(ry:RelV y u):
 KT H (Ac kvs k y) (storedH xs k b u):=by
 have e:(kvs.any λkv=>decide (kv.1=k))=(atKey xs k).isSome:=by
  rw[DG,(r.val k).isSome_eq,Option.isSome_map]
 unfold Ac storedH;rw[e];by_cases q:(atKey xs k).isSome=true
 ·rw[iP q,iP q];exact r.repl k ry
 ·rw[iG q,iG q];exact Paired.snoc r ⟨rfl,hb,ry⟩
theorem KT.keeps{H H':Hp}{kvs:List (List Key×V)}{xs:List (List Key×Yi×Yg)}(r:KT H kvs xs)(ht:∀ b ys,H b=some (.tup ys)->H' b=some (.tup ys)):KT H' kvs xs:=
 Paired.mapP r λ_ _ z=>⟨z.1,ht _ _ z.2.1,z.2.2⟩
section
variable{P:Yn}{w:Yq}{H:Hp}{h:Heap}{a:Yi}
theorem QK{u:HO}(ok:HOk P w H h)(e:Rd H a u):ObjOk P w H h a u:=e.ok ok
theorem Fk{kvs:List (Key×V)}(ok:HOk P w H h)(e:Rd H a (.dK kvs)):kvs.length<=Yl/\(a == Z0)=false/\∃ vs,KV kvs vs/\h.DictOf (m8 P w) a vs:=
 show ObjOk P w H h a (.dK kvs) from QK ok e
theorem QL{kvs:List (Key×V)}(ok:HOk P w H h)(e:H a=some (.dK kvs)):kvs.length<=Yl/\(a == Z0)=false/\∃ vs,KV kvs vs/\h.DictOf (m8 P w) a vs:=Fk ok (.inl e)
theorem DH{ks:List Key}(ok:HOk P w H h)(e:H a=some (.tup (ks.map kV))):(Zh (m8 P w)).is h ks a:=by
 obtain⟨_,its,r,o,h1,h2,n,h3⟩:=(show ObjOk P w H h a (.tup (ks.map kV)) from ok a _ e)
 exact⟨o,its.toArray,n,h1,h2,h3,by simpa using EO r⟩
theorem Fl{kvs:List (List Key×V)}(ok:HOk P w H h)(e:Rd H a (.dT kvs)):kvs.length<=Yl/\(a == Z0)=false/\
 ∃ xs,KT H kvs xs/\h.DictOfH (Zh (m8 P w)) a xs:=by
 obtain⟨z,y,xs,r,o,es,ep,h1,h2,h3,h4,h5⟩:=(show ObjOk P w H h a (.dT kvs) from QK ok e)
 refine⟨z,y,xs,r,o,es,ep,h1,h2,h3,h4,λx hx=>?_,h5⟩
 have all:∀{l:List (List Key×V)} {m:List (List Key×Yi×Yg)},KT H l m->∀ x∈m,(Zh (m8 P w)).is h x.1 x.2.1:=by
  intro l m q
  induction q with
  | nil=>intro x hx;exact nomatch hx
  | @cons p q ps qs hq t ih=>
    intro x hx;rcases VT.mp hx with e | hx
    ·subst e;exact DH ok (by rw[<-hq.1];exact hq.2.1)
    ·exact ih x hx
 exact all r x hx
theorem M6{kvs:List (List Key×V)}(ok:HOk P w H h)(e:H a=some (.dT kvs)):kvs.length<=Yl/\(a == Z0)=false/\
 ∃ xs,KT H kvs xs/\h.DictOfH (Zh (m8 P w)) a xs:=Fl ok (.inl e)
end
def DGet(H:Hp)(a:Yi)(y:V)(r:Option V):Prop:=
 (∃ kvs k,Rd H a (.dK kvs)/\y=kV k/\r=v7 kvs k)\/∃ kvs k b,Rd H a (.dT kvs)/\y = .ref b/\H b=some (.tup (k.map kV))/\r=v7 kvs k
def DPut(H:Hp)(a:Yi)(y v:V)(H':Hp):Prop:=
 (∃ kvs k,H a=some (.dK kvs)/\y=kV k/\kvs.length<Yl/\H'=upd H a (.dK (Ac kvs k v)))\/
 ∃ kvs k b,H a=some (.dT kvs)/\y = .ref b/\H b=some (.tup (k.map kV))/\kvs.length<Yl/\H'=upd H a (.dT (Ac kvs k v))
theorem DGet.t{H:Hp}{a b:Yi}{kvs:List (List Key×V)}{k:List Key}(e:H a=some (.dT kvs))(eb:H b=some (.tup (k.map kV))):DGet H a (.ref b) (v7 kvs k) := .inr ⟨kvs,k,b,.inl e,rfl,eb,rfl⟩
theorem DPut.t{H:Hp}{a b:Yi}{kvs:List (List Key×V)}{k:List Key}{v:V}(e:H a=some (.dT kvs))(eb:H b=some (.tup (k.map kV)))(hl:kvs.length<Yl):
 DPut H a (.ref b) v (upd H a (.dT (Ac kvs k v))) := .inr ⟨kvs,k,b,e,rfl,eb,hl,rfl⟩
section
variable{X:Cx}{pq:List (Yi×Obj)}{σ:St}{H:Hp}{s:Yh}{a:Yi}{y v:V}{u r:Yg}{o:Option V}{A:Yt}{E:Yg->Yh->Prop}
theorem Inv.big(I:Inv X pq σ H s):Z0<s.heap.objs.size:=by
 have h:Yo<s.heap.objs.size:=(I.mod.glob.keeps I.bk).lt;exact Nat.lt_trans (by decide) h
theorem KO{Q:Yg->Yh->Prop}(hu:A.units+1<cLine)(I:Inv X pq σ H s)(g:DGet H a y (some v))(ry:RelV y u)(h:∀ w' s',Inv X pq σ H s'->RelV v w'->Q w' s'):
 Yk (Ym X.prog X.w) A (getItem (.ref a) u) Q E s:=by
 rcases g with⟨kvs,k,e,ey,l⟩ | ⟨kvs,k,b,e,ey,eb,l⟩
 ·subst ey;obtain⟨z,hd,vs,rel,dd⟩:=Fk I.hok e;obtain⟨w',hw,rw'⟩:=RelO.some_of (v:=v) (o:=valueAt vs k) (by rw[l];exact rel.val k);exact wpAny_getItem_of (Fj ry) dd.mapOf hw (h w' _ (I.tok _) rw')
 ·subst ey;cases(show u=Value.ref b from ry);obtain⟨z,hd,xs,rel,dd⟩:=Fl I.hok e;obtain⟨w',hw,rw'⟩:=RelO.some_of (v:=v) (o:=(atKey xs k).map (·.2)) (by rw[l];exact rel.val k);obtain⟨p,hp,hp2⟩:=Xk.mp hw;refine wpAny_getItem_heap (ZW hu) (DH I.hok eb) dd hp ?_;rw[hp2];exact h w' _ (I.tok _) rw'
theorem Cw{h':Heap}{t':Nat}{ob:HO}(I:Inv X pq σ H s)(mu:Mut (H a))(hs:W5 a s.heap h')(he:∃ q,h'.get? a=some q)(new:ObjOk X.prog X.w (upd H a ob) h' a ob):
 Inv X pq σ (upd H a ob) {s with heap:=h',toks:=t'}:=
 I.write (x:=a) (e:=a) mu (.inl rfl) (λb q hb z=>(hs.2 b hb).trans z) he new
theorem M7{P:Yn}{w:Yq}{H':Hp}{h':Heap}{kvs:List (Key×V)}{vs:List (Key×Yg)}(z:kvs.length<=Yl)(hd:(a == Z0)=false)(rel:KV kvs vs)(dd:h'.DictOf (m8 P w) a vs):
 ObjOk P w H' h' a (.dK kvs):=⟨z,hd,vs,rel,dd⟩
theorem KP{H':Hp}{Q:Unit->Yh->Prop}(hu:A.units+1<cLine)(I:Inv X pq σ H s)(g:DPut H a y v H')(ry:RelV y u)(rv:RelV v r)(h:∀ s',Inv X pq σ H' s'->Q () s'):
 Yk (Ym X.prog X.w) A (setItem (.ref a) u r) Q E s:=by
 rcases g with⟨kvs,k,e,ey,l,eH⟩ | ⟨kvs,k,b,e,ey,eb,l,eH⟩
 ·subst ey eH;obtain⟨z,hd,vs,rel,dd⟩:=QL I.hok e;have hz:vs.length<=Yl:=by rw[<-rel.length];exact z
  have hl:(Ac kvs k v).length<=Yl:=by have:=Ae kvs k v;omega
  refine wpAny_setItem_pairs (hsz:=hz) (Fj ry) dd λh' dd' hs=>h _ ?_;have he:∃ q,h'.get? a=some q:=let ⟨q,_,_,hq,_⟩:=dd';⟨q,hq⟩
  exact Cw I (by rw[e];exact True.intro) hs he (M7 hl hd (rel.put k rv) dd')
 ·subst ey eH;cases(show u=Value.ref b from ry);obtain⟨z,hd,xs,rel,dd⟩:=M6 I.hok e;have hz:xs.length<=Yl:=by rw[<-Paired.length rel];exact z
  have hl:(Ac kvs k v).length<=Yl:=by have:=Ae kvs k v;omega
  refine wpAny_setItem_heap (hsz:=hz) (ZW hu) (DH I.hok eb) dd λh' dd' hs=>h _ ?_;obtain⟨q,es,ep,hq,h2,h3,h4,_,h5⟩:=dd';refine Cw I (by rw[e];exact True.intro) hs ⟨q,hq⟩ ⟨hl,hd,_,(rel.put k eb rv).keeps λc ys ec=>?_,q,es,ep,hq,h2,h3,h4,h5⟩;rw[i8 (LS ec e (λz=>nomatch z))];exact ec
end
def Tx(i:Expr):Prop:=∀ ov iv,A01 i false ov iv=operate [ov,iv] (getItem ov iv)
theorem OU{prog:Yn}{w:Yq}{A:Yt}{E:Yg->Yh->Prop}{s:Yh}{env:Env}{value slice:Expr}{pos:Pos}{T id:String}{Q:Yg->Yh->Prop}
 (hl:typeLookup (.type T) "__getitem__"=pure (some (.builtin id))) (hs:Tx slice)
 (h:Yk (Ym prog w) A (eval value env) (λo s₁=>Yk (Ym prog w) A (eval slice env) (λi s₂=>s₂.TypeIs o T/\Yk (Ym prog w) A (getItem o i) Q E s₂) E s₁) E s):
 Yk (Ym prog w) A (eval (.Subscript value slice pos) env) Q E s:=by
 refine A0t (Z6 h (λo s₁ h₁=>Z6 h₁ (λi s₂ h₂=>?_) λ_ _ x=>x) λ_ _ x=>x);obtain⟨hT,h₂⟩:=h₂;unfold A08;refine Yf ?_;rw[getitemInPython_of_ne hT.not_modules];refine Yf (wpAny_specialOf hT hl ?_)
 have fin:Yk (Ym prog w) A (A01 slice false o i) (λr s₃=>Yk (Ym prog w) A (letTemporaryGo value o r >>= λ_=>pure r) Q E s₃) E s₂:=by
  rw[hs o i];exact wpAny_operating (Z6 h₂ (λr s₃ h₃=>Yf (wpAny_letTemporaryGo (Yj h₃))) λ_ _ x=>x)
 first
  | exact Yj (Yf fin)
  | exact Yf (Yj (Yf fin))
  | exact Yf fin
theorem Fm{X:Cx}{pq:List (Yi×Obj)}{σ:St}{H:Hp}{s:Yh}{a:Yi}{y:V}{o:Option V}(I:Inv X pq σ H s)(g:DGet H a y o):s.TypeIs (.ref a) "dict":=by
 rcases g with⟨kvs,k,e,_,_⟩ | ⟨kvs,k,b,e,_,_,_⟩
 ·obtain⟨_,_,vs,_,dd⟩:=Fk I.hok e;exact dd.typeIs
 ·obtain⟨_,_,xs,_,dd⟩:=Fl I.hok e;exact dd.typeIs
def Ty(td ty:TE):TE:=λσ H Q=>td σ H λx H1=>ty σ H1 λy H2=>∃ a v,x = .ref a/\DGet H2 a y (some v)/\Q v H2
def QM(td ty tv:TE):TS:=λD σ H=>tv σ H λv H1=>td σ H1 λx H2=>ty σ H2 λy H3=>∃ a H4,x = .ref a/\DPut H3 a y v H4/\D.nx σ H4
section
variable{X:Cx}{o i e value:Expr}{pos pos' tpos:Pos}{td ty tv:TE}
theorem OV(hu:X.A.units+1<cLine)(ho:PE X o td)(hi:PE X i ty)(hs:Tx i):PE X (.Subscript o i pos) (Ty td ty):=by
 intro pq s σ H Q I h;refine OU PySem.F.slot_dict_getitem.lookup hs (thn (ho pq s σ H _ I h) λu s1 ⟨x,H1,I1,rx,q1⟩=>thn (hi pq s1 σ H1 _ I1 q1) λiv s2 ⟨y,H2,I2,ry,a,v,ex,g,q2⟩=>?_);subst ex;obtain rfl:u=Value.ref a:=rx;exact⟨Fm I2 g,KO hu I2 g ry λw' s3 I3 rw'=>⟨v,H2,I3,rw',q2⟩⟩
theorem OW(hu:X.A.units+1<cLine)(ho:PE X o td)(hi:PE X i ty)(hv:PE X value tv)(hs:ZF value (some (.Subscript o i pos')) pos.line X.env=pure false):
 PS X (.Assign [.Subscript o i pos'] value pos) (QM td ty tv):=by
 intro pq s σ H D I h;refine wpAny_Assign_Subscript (thn (hv pq s σ H _ I h) λr s1 ⟨v,H1,I1,rv,q1⟩=>thn (ho pq s1 σ H1 _ I1 q1) λu s2 ⟨x,H2,I2,rx,q2⟩=>thn (hi pq s2 σ H2 _ I2 q2) λiv s3 ⟨y,H3,I3,ry,a,H4,ex,g,q3⟩=>?_) hs;subst ex;obtain rfl:u=Value.ref a:=rx;exact KP hu I3 g ry rv λs4 I4=>⟨σ,H4,I4,q3⟩
end
theorem M8{P:Yn}{w:Yq}{H:Hp}(h:Heap)(hb:Z0<h.objs.size):ObjOk P w H (h.push {cls := .type "dict",data := .dict #[]}) h.objs.size (.dK []):=
 ⟨WJ _,beq_eq_false_iff_ne.mpr (Ne.symm (VO hb)),[],.nil,Heap.DictOf.new h⟩
theorem M9{P:Yn}{w:Yq}{H:Hp}(h:Heap)(hb:Z0<h.objs.size):ObjOk P w H (h.push {cls := .type "dict",data := .dict #[]}) h.objs.size (.dT []):=
 ⟨WJ _,beq_eq_false_iff_ne.mpr (Ne.symm (VO hb)),[],.nil,_,#[],0,VR _ rfl,⟨rfl,rfl,rfl⟩,rfl,rfl,YQ⟩
def Ri:TE:=λ_ H Q=>∀ p,H p=none->Q (.ref p) (upd H p (.dK []))
def Rj:TE:=λ_ H Q=>∀ p,H p=none->Q (.ref p) (upd H p (.dT []))
section
variable{X:Cx}{pos:Pos}
theorem MA:PE X (.Dict [] [] pos) Ri:=λpq s σ H Q I h=>
 A0j ⟨.ref s.heap.objs.size,_,I.laid (a:=s.heap.objs.size) (o := .dK []) (t':=s.toks) (λ_ _ q=>VE _ q) (VF _) (M8 s.heap I.big),rfl,h _ (I.hok.fresh (VF _))⟩
theorem Fn:PE X (.Dict [] [] pos) Rj:=λpq s σ H Q I h=>
 A0j ⟨.ref s.heap.objs.size,_,I.laid (a:=s.heap.objs.size) (o := .dT []) (t':=s.toks) (λ_ _ q=>VE _ q) (VF _) (M9 s.heap I.big),rfl,h _ (I.hok.fresh (VF _))⟩
end
structure M2(X:Cx)(o:Expr)(m:Str)(apos:Pos)(e f:Expr)(cpos:Pos):Prop where
 base:ZT o m X.env (eval o X.env)=eval o X.env
 few:((backTo cpos (Yr [e,f] X.env)).all (λx=>!x.1)&&(Zj cpos (ZP [] X.env)).all (λx=>x.1.isSome)
  && decide (([e,f]:List Expr).length+([]:List Keyword).length+(if ([]:List Keyword).isEmpty then 0 else 1)<30))=true
 line:(apos.endLine == cpos.line)=true
 trees:backTo cpos (Yr [e,f] X.env)=[(false,eval e X.env),(false,eval f X.env)]
def IsD(H:Hp)(a:Yi):Prop:=(∃ kvs,Rd H a (.dK kvs))\/∃ kvs,Rd H a (.dT kvs)
theorem Hl{X:Cx}{pq:List (Yi×Obj)}{σ:St}{H:Hp}{s:Yh}{a:Yi}(I:Inv X pq σ H s)(d:IsD H a):
 s.TypeIs (.ref a) "dict"/\(∀ b,Value.ref a = .ref b->∃ ob,s.heap.get? b=some ob/\ob.dict=none)/\(a == Z0)=false:=by
 rcases d with⟨kvs,e⟩ | ⟨kvs,e⟩
 ·obtain⟨_,hd,vs,_,dd⟩:=Fk I.hok e;refine⟨dd.typeIs,λb q=>?_,hd⟩;cases q;obtain⟨ob,_,_,h1,h2,_⟩:=dd;exact⟨ob,h1,h2.2.1⟩
 ·obtain⟨_,hd,xs,_,dd⟩:=Fl I.hok e;refine⟨dd.typeIs,λb q=>?_,hd⟩;cases q;obtain⟨ob,_,_,h1,h2,_⟩:=dd;exact⟨ob,h1,h2.2.1⟩
section
variable{X:Cx}{pq:List (Yi×Obj)}{σ:St}{H:Hp}{s:Yh}{a:Yi}{y d:V}{u r:Yg}{o:Option V}{A:Yt}{E:Yg->Yh->Prop}
theorem Rk{Q:Yg->Yh->Prop}(hu:A.units+1<cLine)(I:Inv X pq σ H s)(g:DGet H a y o)(ry:RelV y u)(rd:RelV d r)(h:∀ w' s',Inv X pq σ H s'->RelV (o.getD d) w'->Q w' s'):
 Yk (Ym X.prog X.w) A (call (.builtin "dict.get") [.ref a,u,r]) Q E s:=by
 rcases g with⟨kvs,k,e,ey,l⟩ | ⟨kvs,k,b,e,ey,eb,l⟩
 ·subst ey;obtain⟨z,hd,vs,rel,dd⟩:=Fk I.hok e;refine Zg PySem.F.slot_dict_get dd.typeIs PySem.F.entry_dict_get (PySem.F.args_dict_get_3 _ _ _) (meets_dict_get_default (m8 X.prog X.w) a (Fj ry) hd r) ⟨_,dd.mapOf,h _ _ (I.tok _) ?_⟩;rw[l];exact(rel.val k).getD rd
 ·subst ey;cases(show u=Value.ref b from ry);obtain⟨z,hd,xs,rel,dd⟩:=Fl I.hok e;refine Zg PySem.F.slot_dict_get dd.typeIs PySem.F.entry_dict_get (PySem.F.args_dict_get_3 _ _ _) (meetsH_dict_get_default (Zh (m8 X.prog X.w)) a b hd r) ⟨ZW hu,k,xs,DH I.hok eb,dd,h _ _ (I.tok _) ?_⟩;rw[l];exact(rel.val k).getD rd
end
def Rm(td ty tx:TE):TE:=λσ H Q=>td σ H λx H1=>∃ a,x = .ref a/\IsD H1 a/\ty σ H1 λy H2=>tx σ H2 λz H3=>∃ o,DGet H3 a y o/\Q (o.getD z) H3
section
variable{X:Cx}{o e f:Expr}{apos cpos:Pos}{td ty tx:TE}
theorem MB(hu:X.A.units+1<cLine)(ho:PE X o td)(he:PE X e ty)(hf:PE X f tx)(m:M2 X o "get" apos e f cpos):PE X (.Call (.Attribute o "get" apos) [e,f] [] cpos) (Rm td ty tx):=by
 intro pq s σ H Q I h;refine Zo m.base m.few m.line PySem.F.plainAttrs_dict PySem.F.slot_dict_get PySem.F.type_dict_get (thn (ho pq s σ H _ I h) λu s1 ⟨x,H1,I1,rx,a,ex,d,q1⟩=>?_);subst ex;obtain rfl:u=Value.ref a:=rx;obtain⟨t1,t2,_⟩:=Hl I1 d;refine⟨t1,t2,?_⟩;rw[m.trees]
 refine Calls.callWith_builtin rfl (Calls.evalArgs_plain (Calls.spliced_cons (thn (he pq s1 σ H1 _ I1 q1) λiv s2 ⟨y,H2,I2,ry,q2⟩=>
  Calls.spliced_cons (thn (hf pq s2 σ H2 _ I2 q2) λfv s3 ⟨z,H3,I3,rz,ov,g,q3⟩=>Calls.spliced_nil ?_))))
 exact Rk hu I3 g ry rz λw' s4 I4 rw'=>⟨_,H3,I4,rw',q3⟩
end
mutual
noncomputable def Dat(H:Hp):V->PyData->Prop
 | x,.none=>x = .non
 | x,.bool b=>x = .bl b
 | x,.int i=>x = .int i
 | x,.str s=>x = .str s
 | x,.list ds=>∃ a xs,x = .ref a/\H a=some (.lst xs)/\DatAll H xs ds
 | x,.tuple ds=>∃ a xs,x = .ref a/\H a=some (.tup xs)/\DatAll H xs ds
 | _,.dict _=>False
noncomputable def DatAll(H:Hp):List V->List PyData->Prop
 | [],[]=>True
 | x::xs,d::ds=>Dat H x d/\DatAll H xs ds
 | [],_::_=>False
 | _::_,[]=>False
end
mutual
theorem Dat.mono{H H':Hp}(k:∀ b o,H b=some o->H' b=some o):∀(x:V) (d:PyData),Dat H x d->Dat H' x d
 | _,.none,h=>by unfold Dat at h ⊢;exact h
 | _,.bool _,h=>by unfold Dat at h ⊢;exact h
 | _,.int _,h=>by unfold Dat at h ⊢;exact h
 | _,.str _,h=>by unfold Dat at h ⊢;exact h
 | x,.list ds,h=>by
   unfold Dat at h ⊢;obtain⟨a,xs,e,h1,h2⟩:=h;exact⟨a,xs,e,k _ _ h1,DatAll.mono k xs ds h2⟩
 | x,.tuple ds,h=>by
   unfold Dat at h ⊢;obtain⟨a,xs,e,h1,h2⟩:=h;exact⟨a,xs,e,k _ _ h1,DatAll.mono k xs ds h2⟩
 | _,.dict _,h=>by unfold Dat at h;exact h.elim
theorem DatAll.mono{H H':Hp}(k:∀ b o,H b=some o->H' b=some o):∀(xs:List V) (ds:List PyData),DatAll H xs ds->DatAll H' xs ds
 | [],[],_=>by unfold DatAll;trivial
 | x::xs,d::ds,h=>by
   unfold DatAll at h ⊢;exact⟨Dat.mono k x d h.1,DatAll.mono k xs ds h.2⟩
 | [],_::_,h=>by unfold DatAll at h;exact h.elim
 | _::_,[],h=>by unfold DatAll at h;exact h.elim
end
section
variable{X:Cx}{a b:Expr}{ta:TE}{pos:Pos}
theorem KQ:OpR X (Yv .IsNot) (λx y H Q=>∃ c d,x = .bl c/\y = .bl d/\Q (.bl (c != d)) H):=by
 intro pq s σ H x y v u Q I rx ry h;obtain⟨c,d,rfl,rfl,q⟩:=h;cases rx;cases ry;exact isnot_bool ⟨.bl (c != d),H,I,rfl,q⟩
end
section
variable{prog:Yn}{w:Yq}{A:Yt}{E:Yg->Yh->Prop}{s:Yh}
open HT in
theorem Dz{t sl:Yi}{items:Array Yg}{vl vu:Yg}{lo hi:Option Int}{Q:Yg->Yh->Prop}(ht:IsTup s.heap t items)(hs:s.heap.IsSliceOf sl vl vu .none)(pl:IsPart vl lo)(pu:IsPart vu hi)
 (hw:sIx items.size 0 lo=0/\sIx items.size items.size hi=items.size) (h:Q (.ref t) s):Yk (Ym prog w) A (getItem (.ref t) (.ref sl)) Q E s:=by
 obtain⟨os,hos,hcs,hds⟩:=id hs;have hTs:s.TypeIs (.ref sl) "slice":=⟨os,hos,hcs⟩
 unfold getItem
 try with_reducible refine Yz ?_
 first | refine Yf (Yj ?_) | skip
 refine Yf (A0e ht.typeIs (by decide) ?_)
 refine Yf (Yy (name:=Str.ofString "__getitem__") ht.typeIs PyProof.Rows.slot_tuple_getitem
  (Z8 PyProof.Rows.slot_tuple_getitem ht.typeIs A05 ?_ (A0a _ _)))
 show Yk _ _ (Builtin.Tuple.tupleItemsOf (.ref t) >>= _) _ _ s;refine Yf (tupleItemsOf_ ht ?_);refine Yf (A0f hTs ?_);rw[iP (by decide)];refine Yf (Ap hs pl pu ?_)
 have hyes:(((sIx items.size 0 lo:Nat):Int) == 0&&(1:Int) == 1&&(sIx items.size items.size hi - sIx items.size 0 lo) == items.size)=true:=by
  rw[hw.1,hw.2];simp
 show Yk _ _ (if (((sIx items.size 0 lo:Nat):Int) == 0&&(1:Int) == 1&&(sIx items.size items.size hi - sIx items.size 0 lo) == items.size)=true then _ else _) _ _ s;rw[iP hyes];unfold Builtin.Tuple.tupleIsExact;refine Yf (Yf (A0f ht.typeIs (Yj ?_)));rw[iP (by decide)];exact Yf (Zc (Yj ⟨_,rfl,Yj h⟩))
end
section
variable{X:Cx}
def Tz(K:V5):V->Option Int->Option Int->Hp->VK->Prop:=λx lo hi H Q=>∃ a xs,x = .ref a/\SqT K H a xs/\(HT.sIx xs.length 0 lo=0/\HT.sIx xs.length xs.length hi=xs.length)/\Q (.ref a) H
theorem OX:SlR X (Tz X.K):=by
 intro pq s σ H x v vl vu lo hi sl Q I rx hs pl pu h;obtain⟨a,xs,rfl,hx,hw,q⟩:=h;cases rx;obtain⟨its,r,ht,hz⟩:=I.tuple hx;have hlen:its.toArray.size=xs.length:=by rw[VC];exact r.length.symm
 exact⟨"tuple",_,PyProof.Rows.slot_tuple_getitem.lookup,ht.typeIs,Dz ht hs pl pu (by rw[hlen];exact hw) ⟨.ref a,H,I,rfl,q⟩⟩
end
section
variable{prog:Yn}{w:Yq}{A:Yt}{E:Yg->Yh->Prop}{s:Yh}
def IsPr(h:Heap)(v:Yg)(a b:Int):Prop:=∃ p o n t u,v = .ref p/\h.get? p=some o/\o.cls = .type "tuple"/\o.data = .seq #[.int a t,.int b u] n
theorem IsPr.at{h h':Heap}{v:Yg}{a b:Int}(x:IsPr h v a b)(k:∀ p o,h.get? p=some o->o.cls = .type "tuple"->h'.get? p=some o):IsPr h' v a b:=by
 obtain⟨p,o,n,t1,t2,e,ho,hc,hd⟩:=x;exact⟨p,o,n,t1,t2,e,k p o ho hc,hc,hd⟩
end
def Up(xs:Array Nat):Prop:=∀ i j (hi:i<xs.size) (hj:j<xs.size),i<j->xs[i]<xs[j]
structure Tab(w:Yq)(t:Zu):Prop where
 up:Up t.place
 no:t.dummies=#[]
 led:t.led=!w.params.followText "set-order"
noncomputable def SetX(prog:Yn)(w:Yq)(h:Heap)(a:Yi)(L:List Int):Prop:=
 ∃ o es ep t,h.get? a=some o/\o.ExactSet/\o.data = .set es ep t/\ElemsOf (intKind prog w) es.toList/\es.size<scanBound/\t.fits es.size=true/\Tab w t/\(es.toList.map λe=>numOf e.2).Perm L
section
variable{prog:Yn}{w:Yq}{A:Yt}{E:Yg->Yh->Prop}{s:Yh}
theorem SetX.keep{h h':Heap}{a:Yi}{L:List Int}(x:SetX prog w h a L)(k:∀ o,h.get? a=some o->h'.get? a=some o):SetX prog w h' a L:=by
 obtain⟨o,es,ep,t,ho,r⟩:=x;exact⟨o,es,ep,t,k o ho,r⟩
theorem J7{k:Int}{v:Yg}(h:(intKind prog w).is k v=true):numOf v=k:=by
 obtain⟨t,rfl⟩:=Value.isInt_shape (k:=k) (v:=v) h;rfl
end
end L2
set_option maxHeartbeats 400000
namespace L2
open PySem PySem.Spec PyProof.Rows
def SetAt(w:Yq)(h:Heap)(a:Yi)(es:Array (Int×Yg))(ep:Nat)(t:Zu):Prop:=∃ o,h.get? a=some o/\o.cls = .type "set"/\o.data = .set es ep t/\t.fits es.size=true/\Tab w t
theorem SetAt.keep{w:Yq}{h h':Heap}{a:Yi}{es:Array (Int×Yg)}{ep:Nat}{t:Zu}(x:SetAt w h a es ep t)(k:∀ o,h.get? a=some o->h'.get? a=some o):SetAt w h' a es ep t:=let ⟨o,e,r⟩:=x;⟨o,k o e,r⟩
def slotAt(t:Zu)(i:Nat):Nat:=if i=0 then 0 else t.place.getD (i - 1) 0+1
inductive Way(w:Yq)(h:Heap)(T0 S:Yi)(es:Array (Int×Yg))(ep:Nat)(t:Zu)(fs:List (Int×Yg))(i:Nat):Yg->Prop where
 | text (hw:w.params.followText "set-order"=true) (hf:fs=(pickOrder (w.params.setOrder S ep) es).toList):Way w h T0 S es ep t fs i (.int 0 0)
 | table (hw:w.params.followText "set-order"=false) (hd:(!t.plain&&decide (es.size>1))=false) (hf:fs=es.toList):Way w h T0 S es ep t fs i (.int (slotAt t i:Nat) 0)
 | drawn (hw:w.params.followText "set-order"=false) (pl:List Nat) (o:Obj) (n:Nat) (ho:h.get? T0=some o) (hd:o.data = .seq (pl.map λk=>Value.int (k:Nat) 0).toArray n) (hl:pl.length=fs.length)
    (hf:∀(k:Nat) p,pl[k]?=some p->es[p]?=fs[k]?):Way w h T0 S es ep t fs i (.ref T0)
def Sit(w:Yq)(h:Heap)(T0 I S:Yi)(es:Array (Int×Yg))(ep:Nat)(t:Zu)(fs:List (Int×Yg))(i:Nat):Prop:=
 ∃ o first,h.get? I=some o/\o.cls = .type "set_iterator"/\o.data = .fields #[first,.int (i:Nat) 0,.ref S,.int (es.size:Nat) 0,.int (ep:Nat) 0]/\Way w h T0 S es ep t fs i first
section
variable{prog:Yn}{w:Yq}{A:Yt}{E:Yg->Yh->Prop}{s:Yh}{T0 I S:Yi}{es:Array (Int×Yg)}{ep:Nat}{t:Zu}{fs:List (Int×Yg)}{i:Nat}
theorem Sit.typeIs(x:Sit w s.heap T0 I S es ep t fs i):s.TypeIs (.ref I) "set_iterator":=let ⟨o,_,e,c,_⟩:=x;⟨o,e,c⟩
theorem Sit.keep{h h':Heap}(x:Sit w h T0 I S es ep t fs i)(k:∀ b,b=I\/b=T0->∀ o,h.get? b=some o->h'.get? b=some o):Sit w h' T0 I S es ep t fs i:=by
 obtain⟨o,first,ho,hc,hd,W⟩:=x;refine⟨o,first,k I (.inl rfl) _ ho,hc,hd,?_⟩;cases W with
 | text hw hf=>exact .text hw hf
 | table hw hp hf=>exact .table hw hp hf
 | drawn hw pl oT n hoT hdT hl hf=>exact .drawn hw pl oT n (k T0 (.inr rfl) _ hoT) hdT hl hf
end
end L2
set_option maxHeartbeats 800000
namespace L2
open PySem PySem.Spec PyProof.Rows
theorem _root_.L2.Inv.dr{X:Cx}{pq:List (Yi×Obj)}{σ:St}{H:Hp}{s:Yh}(I:Inv X pq σ H s)(d:Drawn):Inv X pq σ H {s with drawn:=d}:=
 ⟨I.ok,I.os,I.bare,I.base,I.loc,I.cell,I.free,I.freeC,I.pin,I.hok,I.len⟩
theorem U0:Yp "sum"=some (.builtin "sum"):=by decide +kernel
section
variable{X:Cx}
theorem KR(hc:X.calm=true):CallR X (.builtin "sum") (λxs H Q=>∃(p:Yi) (a b:Int),xs=[.ref p]/\SqT X.K H p [.int a,.int b]/\Q (.int (a+b)) H):=by
 intro pq s σ H xs us Q I r h;obtain⟨p,a,b,rfl,hq,q⟩:=h;obtain⟨u,rfl,ru⟩:=AQ r;cases ru;obtain⟨its,rv,pt,hz⟩:=I.tuple hq;have hI:=B1 (ns:=[a,b]) rv;have hl:=rv.length;have hlt:p<s.heap.objs.size:=by obtain⟨o,e,_⟩:=pt;exact VJ e
 have hpt:s.heap.IsTuple p its.toArray:=pt;refine call_sum_walkG (ZJ hpt ?_);refine⟨s.heap.objs.size,_,_,_,_,_,λi=>[a,b].getD i 0,rfl,Walks.tuple (by exact I.ok.hd hc) s.heap.objs.size p (VO hlt) its.toArray,⟨⟨_,VR _ rfl,rfl,rfl⟩,hpt.at λo e=>VE _ e⟩,?_,?_,?_⟩
 ·intro b hb;rw[W9];rcases VT.mp hb with z | z
  ·rw[z];exact Wo _
  ·rw[VQ.mp z];exact WW hlt
 ·intro i v hv;exact IntsAre.int_at hI i v (by simpa using hv)
 ·intro h' tk t' hk;have I1:Inv X pq σ H {s with heap:=h',toks:=tk}:=I.kept λb o e=>hk b o (by simp;exact VO (VJ e)) (VE _ e);refine⟨.int (a+b),H,I1,⟨t',?_⟩,q⟩;have e:its.toArray.size=2:=by rw[VC,<-hl];rfl
  rw[e];show Value.int (0+a+b) t'=_;rw[Wh]
end
end L2
set_option maxHeartbeats 2000000
namespace L2
open PySem PySem.Spec PyProof.Rows
open PySem.AutoSeq1 (wpAny_loadPart')
open PySem.MeetsSeq PySem.MeetsSeq2 PySem.MeetsSeq3
theorem rcLt_int{prog:Yn}{w:Yq}{A:Yt}{E:Yg->Yh->Prop}{s:Yh}{a b:Int}{t u:Tok}{Q:Yg->Yh->Prop}(h:Q (.bool (decide (a<b))) s):Yk (Ym prog w) A (ZG .Lt (.int a t) (.int b u)) Q E s:=by
 exact wpAny_richCompare_same (Zw s a t) (Zw s b u) slot_int_lt (call_int_lt ⟨(λx=>nomatch x),h⟩)
section
variable{prog:Yn}{w:Yq}{A:Yt}{E:Yg->Yh->Prop}{s:Yh}{a₀:Array Keyed}
structure SBk(κ:SortKind)(a₀:Array Keyed)(st:SortSt):Prop where
 perm:(arrOf st).Perm a₀
 kind:kindOf st=κ
 failed:failedOf st=none
 pend:pendingOf st=#[]
theorem SBk.size{κ:SortKind}{st:SortSt}(h:SBk κ a₀ st):(arrOf st).size=a₀.size:=h.perm.size_eq
variable{κ:SortKind}
end
section
variable{X:Cx}
theorem U1:Yp "any"=some (.builtin "any"):=by decide +kernel
theorem KS(hc:X.calm=true):CallR X (.builtin "any") (λxs H Q=>∃(a:Yi) (bs:List Bool),xs=[.ref a]/\SqL X.K H a (bs.map V.bl)/\Q (.bl (bs.any id)) H):=by
 intro pq s σ H xs us Q I r h;obtain⟨a,bs,rfl,hq,q⟩:=h;obtain⟨u,rfl,ru⟩:=AQ r;cases ru;obtain⟨its,rv,pl,hz⟩:=I.list hq;have hl:=rv.length;rw[V7]at hl;refine call_any_walk (ZC pl.isList ?_);have hlt:a<s.heap.objs.size:=by obtain⟨o,n,e,_⟩:=pl;exact VJ e
 refine⟨s.heap.objs.size,_,_,_,_,_,λi=>bs.getD i false,rfl,Walks.list (by exact I.ok.hd hc) s.heap.objs.size a (VO hlt) its.toArray,⟨⟨_,VR _ rfl,rfl,rfl⟩,pl.isList.push _⟩,?_,λh' tk hk=>?_⟩
 ·intro i v s' Q' E' hv hQ';have hv':its[i]?=some v:=by simpa using hv
  have hi:i<its.length:=(gM hv').1;have hb:(bs.map V.bl)[i]?=some (.bl (bs[i]'(by omega))):=by simp
  obtain⟨u',eu,ru'⟩:=rv.get hb;rw[hv']at eu;cases eu;cases ru';have hg:bs.getD i false=bs[i]'(by omega):=by simp[W6,show i<bs.length by omega]
  have hQ2:Q' (bs.getD i false) s':=hQ';rw[hg]at hQ2;exact Yw hQ2
 ·have I1:Inv X pq σ H {s with heap:=h',toks:=tk}:=I.kept λb o e=>hk b o (by simp;exact VO (VJ e)) (VE _ e);refine⟨.bl _,H,I1,rfl,?_⟩
  have e:(VD its.toArray.size).any (λi=>bs.getD i false)=bs.any id:=by
   rw[VC,<-hl,Vo,WV,WV];constructor
   ·rintro⟨j,hj,e⟩;have hj1:j<bs.length:=VW.mp hj;exact⟨bs[j],W0 hj1,by simpa[W6,hj1] using e⟩
   ·rintro⟨b,hb,e⟩;obtain⟨j,hj,e2⟩:=Wv.mp hb;exact⟨j,VW.mpr hj,by simpa[W6,hj,e2] using e⟩
  rw[e];exact q
end
end L2
namespace Rf
open PySem L2
abbrev QE:=SV->Sto->Prop
abbrev WE:=EnvS->Sto->QE->Prop
abbrev WA:=EnvS->Sto->(List SV->Sto->Prop)->Prop
abbrev WT:=EnvS->Sto->(Bool->Sto->Prop)->Prop
noncomputable def Post(K:V5)(as:List Yi)(H:Hp)(Q:VK):QE:=λx S'=>∀ as' H' v,Go as H as' H'->Ok K as' H' S'->Rl K as' H' v x->Q v H'
noncomputable def U2(K:V5)(as:List Yi)(H:Hp)(Q:List V->Hp->Prop):List SV->Sto->Prop:=λxs S'=>∀ as' H' vs,Go as H as' H'->Ok K as' H' S'->RlAll K as' H' vs xs->Q vs H'
def PostT(K:V5)(as:List Yi)(H:Hp)(Q:Bool->Hp->Prop):Bool->Sto->Prop:=λb S'=>∀ as' H',Go as H as' H'->Ok K as' H' S'->Q b H'
noncomputable def lift(K:V5)(w:WE):TE:=λσ H Q=>∃ as ρ S,Ok K as H S/\EnvOk K as H σ ρ/\w ρ S (Post K as H Q)
noncomputable def liftA(K:V5)(w:WA):TA:=λσ H Q=>∃ as ρ S,Ok K as H S/\EnvOk K as H σ ρ/\w ρ S (U2 K as H Q)
noncomputable def liftT(K:V5)(w:WT):TT:=λσ H Q=>∃ as ρ S,Ok K as H S/\EnvOk K as H σ ρ/\w ρ S (PostT K as H Q)
def Mono(w:WE):Prop:=∀ ρ S (P P':QE),(∀ x S',P x S'->P' x S')->w ρ S P->w ρ S P'
def MonoA(w:WA):Prop:=∀ ρ S (P P':List SV->Sto->Prop),(∀ x S',P x S'->P' x S')->w ρ S P->w ρ S P'
def MonoT(w:WT):Prop:=∀ ρ S (P P':Bool->Sto->Prop),(∀ x S',P x S'->P' x S')->w ρ S P->w ρ S P'
theorem i9{X:Cx}{e:Expr}{t:TE}(t':TE)(h:PE X e t)(imp:∀ σ H Q,t' σ H Q->t σ H Q):PE X e t':=λpq s σ H Q I hw=>h pq s σ H Q I (imp σ H Q hw)
theorem DK{X:Cx}{e:Expr}{t:TT}(t':TT)(h:PT X e t)(imp:∀ σ H Q,t' σ H Q->t σ H Q):PT X e t':=λpq s σ H Q I hw=>h pq s σ H Q I (imp σ H Q hw)
theorem MC{X:Cx}{e:List Expr}{t:TA}(t':TA)(h:PA X e t)(imp:∀ σ H Q,t' σ H Q->t σ H Q):PA X e t':=λp pq s σ H Q I hw=>h p pq s σ H Q I (imp σ H Q hw)
section
variable{K:V5}{as as1 as2:List Yi}{H H1 H2:Hp}
theorem Post.mono{Q:VK}{x:SV}{S:Sto}(h:Post K as H Q x S)(g:Go as H as1 H1):Post K as1 H1 Q x S:=λas' H' v g'=>h as' H' v (g.trans g')
end
abbrev S2:=SV->SV->Sto->QE->Prop
abbrev S1:=SV->Sto->QE->Prop
abbrev Sn:=List SV->Sto->QE->Prop
def w2(s:S2)(a b:WE):WE:=λρ S Q=>a ρ S λx S1=>b ρ S1 λy S2=>s x y S2 Q
def w1(s:S1)(a:WE):WE:=λρ S Q=>a ρ S λx S1=>s x S1 Q
def wn(s:Sn)(a:WA):WE:=λρ S Q=>a ρ S λxs S1=>s xs S1 Q
def Mono2(s:S2):Prop:=∀ x y S (P P':QE),(∀ x S',P x S'->P' x S')->s x y S P->s x y S P'
def Fo(s:S1):Prop:=∀ x S (P P':QE),(∀ x S',P x S'->P' x S')->s x S P->s x S P'
def MonoN(s:Sn):Prop:=∀ x S (P P':QE),(∀ x S',P x S'->P' x S')->s x S P->s x S P'
theorem Mono.two{s:S2}{a b:WE}(hs:Mono2 s)(ha:Mono a)(hb:Mono b):Mono (w2 s a b):=λρ S P P' i h=>ha _ _ _ _ (λ_ _ h=>hb _ _ _ _ (λ_ _ h=>hs _ _ _ _ _ i h) h) h
theorem Mono.one{s:S1}{a:WE}(hs:Fo s)(ha:Mono a):Mono (w1 s a):=λρ S P P' i h=>ha _ _ _ _ (λ_ _ h=>hs _ _ _ _ i h) h
theorem Mono.n{s:Sn}{a:WA}(hs:MonoN s)(ha:MonoA a):Mono (wn s a):=λρ S P P' i h=>ha _ _ _ _ (λ_ _ h=>hs _ _ _ _ i h) h
noncomputable def BN(K:V5)(s:S2)(r:R2):Prop:=∀ as H S x y v u Q,Ok K as H S->Rl K as H v x->Rl K as H u y->s x y S (Post K as H Q)->r v u H Q
noncomputable def Uq(K:V5)(s:S1)(r:V->Hp->VK->Prop):Prop:=∀ as H S x v Q,Ok K as H S->Rl K as H v x->s x S (Post K as H Q)->r v H Q
noncomputable def U3(K:V5)(s:Sn)(r:List V->Hp->VK->Prop):Prop:=∀ as H S xs vs Q,Ok K as H S->RlAll K as H vs xs->s xs S (Post K as H Q)->r vs H Q
theorem B3{K:V5}{s:S2}{r:R2}{wa wb:WE}(sim:BN K s r)(ms:Mono2 s)(ma:Mono wa)(mb:Mono wb):∀ σ H Q,lift K (w2 s wa wb) σ H Q->tOp r (lift K wa) (lift K wb) σ H Q:=by
 rintro σ H Q ⟨as,ρ,S,ok,en,h⟩;refine⟨as,ρ,S,ok,en,ma _ _ _ _ (λx S1 hb as1 H1 v g1 ok1 rv=>?_) h⟩;refine⟨as1,ρ,S1,ok1,en.mono g1.pre (g1.ku ok),mb _ _ _ _ (λy S2 hs as2 H2 u g2 ok2 ru=>?_) hb⟩;exact sim as2 H2 S2 x y v u Q ok2 (Rl.mono g2.pre (g2.ku ok1) x v rv) ru (ms _ _ _ _ _ (λz S3 hz=>hz.mono (g1.trans g2)) hs)
theorem Rn{K:V5}{s:S1}{r:V->Hp->VK->Prop}{wa:WE}(sim:Uq K s r)(ms:Fo s)(ma:Mono wa):∀ σ H Q,lift K (w1 s wa) σ H Q->tUn r (lift K wa) σ H Q:=by
 rintro σ H Q ⟨as,ρ,S,ok,en,h⟩;refine⟨as,ρ,S,ok,en,ma _ _ _ _ (λx S1 hs as1 H1 v g1 ok1 rv=>?_) h⟩;exact sim as1 H1 S1 x v Q ok1 rv (ms _ _ _ _ (λz S3 hz=>hz.mono g1) hs)
theorem U4{K:V5}{s:Sn}{r:List V->Hp->VK->Prop}{wa:WA}(sim:U3 K s r)(ms:MonoN s)(ma:MonoA wa):∀ σ H Q,lift K (wn s wa) σ H Q->tCB r (liftA K wa) σ H Q:=by
 rintro σ H Q ⟨as,ρ,S,ok,en,h⟩;refine⟨as,ρ,S,ok,en,ma _ _ _ _ (λx S1 hs as1 H1 v g1 ok1 rv=>?_) h⟩;exact sim as1 H1 S1 x v Q ok1 rv (ms _ _ _ _ (λz S3 hz=>hz.mono g1) hs)
def EQ:WA:=λ_ S Q=>Q [] S
def DL(a:WE)(b:WA):WA:=λρ S Q=>a ρ S λx S1=>b ρ S1 λxs S2=>Q (x::xs) S2
theorem MonoA.nil:MonoA EQ:=λ_ _ _ _ i h=>i _ _ h
theorem MonoA.cons{a:WE}{b:WA}(ha:Mono a)(hb:MonoA b):MonoA (DL a b):=λ_ _ _ _ i h=>ha _ _ _ _ (λ_ _ h=>hb _ _ _ _ (λ_ _ h=>i _ _ h) h) h
theorem OY{X:Cx}{K:V5}:PA X [] (liftA K EQ):=MC _ Az λσ H Q ⟨as,ρ,S,ok,en,h⟩=>h as H [] (Go.refl _ _) ok .nil
theorem MD{K:V5}{a:WE}{b:WA}(ma:Mono a)(mb:MonoA b):∀ σ H Q,liftA K (DL a b) σ H Q->FZ (lift K a) (liftA K b) σ H Q:=by
 rintro σ H Q ⟨as,ρ,S,ok,en,h⟩;refine⟨as,ρ,S,ok,en,ma _ _ _ _ (λx S1 hs as1 H1 v g1 ok1 rv=>?_) h⟩;refine⟨as1,ρ,S1,ok1,en.mono g1.pre (g1.ku ok),mb _ _ _ _ (λxs S2 hq as2 H2 vs g2 ok2 rs=>?_) hs⟩;exact hq as2 H2 _ (g1.trans g2) ok2 (.cons (Rl.mono g2.pre (g2.ku ok1) x v rv) rs)
theorem ME{X:Cx}{K:V5}{e:Expr}{es:List Expr}{a:WE}{b:WA}(ma:Mono a)(mb:MonoA b)(h1:PE X e (lift K a))(h2:PA X es (liftA K b))(hs:Yr (e::es) X.env=(false,eval e X.env)::Yr es X.env):PA X (e::es) (liftA K (DL a b)):=MC _ (y1 h1 h2 hs) (MD ma mb)
def Ro(i:Nat):WE:=λρ S Q=>∃ x,ρ[i]?=some (some x)/\Q x S
def wC(x:SV):WE:=λ_ S Q=>Q x S
theorem Mono.var{i:Nat}:Mono (Ro i):=λ_ _ _ _ i ⟨x,a,b⟩=>⟨x,a,i _ _ b⟩
theorem Mono.c{x:SV}:Mono (wC x):=λ_ _ _ _ i h=>i _ _ h
theorem OZ{K:V5}{i:Nat}:∀ σ H Q,lift K (Ro i) σ H Q->O9 i σ H Q:=λσ H Q ⟨as,ρ,S,ok,en,x,e,h⟩=>let ⟨v,ev,rv⟩:=en.2 i x e;⟨v,ev,h as H v (Go.refl _ _) ok rv⟩
theorem Fp{K:V5}{x:SV}{v:V}(hx:∀ as H,Rl K as H v x):∀ σ H Q,lift K (wC x) σ H Q->tC v σ H Q:=λσ H Q ⟨as,ρ,S,ok,en,h⟩=>h as H v (Go.refl _ _) ok (hx as H)
def big:Nat:=100000
theorem AR{n:Nat}(h:n<=big):n<=Yl:=Ve h (by decide)
theorem Eu{n:Nat}(h:n<big):n<Yl:=Vc h (by decide)
def Oa:Sn:=λxs S Q=>xs.length<=big/\Q (.tup xs) S
def Ob:Sn:=λxs S Q=>xs.length<=big/\Q (.loc S.length) (S++[.lst xs])
theorem MonoN.tup:MonoN Oa:=λ_ _ _ _ i h=>⟨h.1,i _ _ h.2⟩
theorem MonoN.lst:MonoN Ob:=λ_ _ _ _ i h=>⟨h.1,i _ _ h.2⟩
theorem Rp{K:V5}{as:List Yi}{H:Hp}{S:Sto}{p:Yi}(ok:Ok K as H S):Rl K (as++[p]) (upd H p (.lst vs)) (.ref p) (.loc S.length):=rl_loc.mpr ⟨p,by rw[<-ok.len,Vb],rfl⟩
theorem AS{K:V5}{as:List Yi}{H:Hp}{S:Sto}{Q:VK}{xs:List SV}{vs:List V}(ok:Ok K as H S)(r:RlAll K as H vs xs)(h:Post K as H Q (.loc S.length) (S++[.lst xs])):∀ p,H p=none->Q (.ref p) (upd H p (.lst vs)):=λp hp=>
 h (as++[p]) _ (.ref p) (Go.push hp) (ok.push hp r) (Rp ok)
theorem C8{K:V5}{as:List Yi}{H:Hp}{S:Sto}{Q:VK}{xs:List SV}{vs:List V}(ok:Ok K as H S)(r:RlAll K as H vs xs)(h:Post K as H Q (.tup xs) S):∀ p,H p=none->Q (.ref p) (upd H p (.tup vs)):=λp hp=>
 h as _ (.ref p) (Go.new hp) (ok.new hp) (rl_tup.mpr ⟨p,vs,rfl,m7,RlAll.mono (Vk _) (Ar hp) xs vs r⟩)
theorem Oc{K:V5}{wa:WA}(ma:MonoA wa):∀ σ H Q,lift K (wn Oa wa) σ H Q->Tf (liftA K wa) σ H Q:=by
 rintro σ H Q ⟨as,ρ,S,ok,en,h⟩;refine⟨as,ρ,S,ok,en,ma _ _ _ _ (λxs S1 hs as1 H1 vs g1 ok1 rv=>?_) h⟩;exact⟨by rw[rv.length];exact AR hs.1,C8 ok1 rv (hs.2.mono g1)⟩
theorem Od{K:V5}{wa:WA}(ma:MonoA wa):∀ σ H Q,lift K (wn Ob wa) σ H Q->Th (liftA K wa) σ H Q:=by
 rintro σ H Q ⟨as,ρ,S,ok,en,h⟩;refine⟨as,ρ,S,ok,en,ma _ _ _ _ (λxs S1 hs as1 H1 vs g1 ok1 rv=>?_) h⟩;exact⟨by rw[rv.length];exact AR hs.1,AS ok1 rv (hs.2.mono g1)⟩
end Rf
namespace L2
open PySem PySem.Spec PyProof.Rows
section
variable{prog:Yn}{w:Yq}{A:Yt}{E:Yg->Yh->Prop}{s:Yh}
theorem SetX.kind{h:Heap}{a:Yi}{L:List Int}(x:SetX prog w h a L):h.SetOf (intKind prog w) a (λk=>decide (k∈L)) L.length:=by
 obtain⟨o,es,ep,t,ho,hx,hd,hel,hb,hf,hT,hp⟩:=x;refine⟨o,es,ep,t,ho,hx,hd,hel,λk=>?_,hb,hf,by rw[<-hp.length_eq];simp⟩;rw[dQ,<-hp.mem_iff,VX];constructor
 ·rintro⟨e,he,rfl⟩;obtain⟨⟨k,hk,_⟩,_⟩:=hel e he;exact⟨e,he,by rw[J7 hk];exact hk⟩
 ·rintro⟨e,he,hk⟩;exact⟨e,he,J7 hk⟩
end
section
variable{X:Cx}
theorem MF:OpR X (Yv .In) (λx y H Q=>∃(k:Int) (p:Yi) (S:Int->Bool) (n:Nat),x = .int k/\y = .ref p/\H p=some (.set S n)/\Q (.bl (S k)) H):=by
 intro pq s σ H x y v u Q I rx ry h;obtain⟨k,p,S,n,rfl,rfl,hp,q⟩:=h;obtain⟨t,rfl⟩:=rx;cases ry;have hS:s.heap.SetOf (intKind X.prog X.w) p S n:=I.hok p _ hp;exact wpAny_inSet_of (k:=k) (intKind_is _ _ _ _) rfl hS ⟨.bl _,H,I.tok _,rfl,q⟩
end
theorem Vals.rev:∀{xs:List V} {us:List Yg},Vals xs us->Vals xs.reverse us.reverse
 | _,_,.nil => .nil
 | _,_,.cons r rr=>by
   rw[Wf,Wf];exact(Vals.rev rr).append (.cons r .nil)
open PySem PySem.Spec PyProof.Rows PySem.SeqAt
section
variable{X:Cx}
def QN(K:V5):R2:=λx y H Q=>∃ a t,x = .ref a/\y = .str t/\((∃ xs,SqL K H a xs)\/∃ xs,SqT K H a xs)/\Q (.bl false) H
theorem Oe(hu:X.A.units<cLine):OpR X (Yv .Eq) (QN X.K):=by
 intro pq s σ H x y v u Q I rx ry h;obtain⟨a,t,rfl,rfl,h1,q⟩:=h;cases rx;obtain⟨tk,rfl⟩:=ry
 have e:Yk (Ym X.prog X.w) X.A (ZG .Eq (.ref a) (.str t tk)) (EP X pq σ Q) X.xe s:=by
  rcases h1 with⟨xs,h1⟩ | ⟨xs,h1⟩
  ·obtain⟨its,r1,p1,_⟩:=I.list h1;exact RcAt.list_str t tk p1.isList hu _ _ _ _ ⟨.bl false,H,I,rfl,q⟩
  ·obtain⟨its,r1,p1,_⟩:=I.tuple h1;exact RcAt.tuple_str (items:=its.toArray) t tk p1 hu _ _ _ _ ⟨.bl false,H,I,rfl,q⟩
 exact e
end
end L2
namespace Rf
open PySem L2
def y0:SV->Bool
 | .non=>true | .bl _=>true | .int _=>true | .str _=>true | _=>false
def toV:SV->V
 | .non => .non | .bl b => .bl b | .int i => .int i | .str x => .str x | _ => .non
def eqF:SV->SV->Bool
 | .non,.non=>true
 | .bl a,.bl b=>a == b
 | .bl a,.int b=>(if a then 1 else 0) == b
 | .int a,.bl b=>a == (if b then 1 else 0)
 | .int a,.int b=>a == b
 | .str a,.str b=>a == b
 | _,_=>false
def Fq(xs ys:List SV):Bool:=xs.length == ys.length&&(xs.zip ys).all λp=>eqF p.1 p.2
def inS(x:SV)(xs:List SV):Bool:=xs.any λy=>eqF y x
section
variable{K:V5}{as:List Yi}{H:Hp}
theorem J8{x:SV}{v:V}(f:y0 x=true)(r:Rl K as H v x):v=toV x:=by
 cases x with
 | non=>exact rl_non.mp r
 | bl _=>exact rl_bl.mp r
 | int _=>exact rl_int.mp r
 | str _=>exact rl_str.mp r
 | _=>cases f
theorem As:∀{xs:List SV} {vs:List V},xs.all y0=true->RlAll K as H vs xs->vs=xs.map toV
 | [],_,_,r=>rla_nil.mp r
 | x::xs,_,f,r=>by
   rw[W7,V6]at f;obtain⟨v,vs,rfl,r1,r2⟩:=rla_cons.mp r;rw[J8 f.1 r1,As f.2 r2];rfl
theorem Fs{x:SV}(f:y0 x=true):A9 (toV x)=true:=by cases x<;>first | rfl | cases f
theorem CV{xs:List SV}(f:xs.all y0=true):(xs.map toV).all A9=true:=by
 rw[Va]at f ⊢;intro v hv;obtain⟨x,hx,rfl⟩:=VX.mp hv;exact Fs (f x hx)
theorem Ev{x y:SV}(fx:y0 x=true)(fy:y0 y=true):eqV (toV x) (toV y)=eqF x y:=by
 cases x<;>first | cases fx;done | (cases y<;>first | rfl | cases fy)
theorem Rq{x:SV}{xs:List SV}(fx:y0 x=true)(f:xs.all y0=true):inV (toV x) (xs.map toV)=inS x xs:=by
 unfold inV inS;rw[X6];rw[Va]at f;rw[Vo,WV,WV];constructor
 ·rintro⟨y,hy,e⟩;exact⟨y,hy,by rw[<-Ev (f y hy) fx];exact e⟩
 ·rintro⟨y,hy,e⟩;exact⟨y,hy,by show eqV (toV y) (toV x)=true;rw[Ev (f y hy) fx];exact e⟩
theorem Of:∀{xs ys:List SV},xs.all y0=true->ys.all y0=true->Am (xs.map toV) (ys.map toV)=Fq xs ys:=by
 intro xs ys fx fy;unfold Am Fq;rw[V7,V7,List.zip_map,Xl]
 congr 1
 rw[Vo,Va,Va];rw[Va]at fx fy;constructor
 ·rintro h ⟨a,b⟩ hm;have:=h (a,b) hm;rw[<-Ev (fx a (Wd hm).1) (fy b (Wd hm).2)];exact this
 ·rintro h ⟨a,b⟩ hm;have:=h (a,b) hm;show eqV (toV a) (toV b)=true;rw[Ev (fx a (Wd hm).1) (fy b (Wd hm).2)];exact this
def seqS:SV->Sto->Option (List SV)
 | .tup xs,_=>some xs
 | .ro xs,_=>some xs
 | .loc k,S=>match S[k]? with | some (.lst xs)=>some xs | _=>none
 | _,_=>none
theorem Ew{x:SV}{v:V}{S:Sto}{xs:List SV}(ok:Ok K as H S)(r:Rl K as H v x)(h:seqS x S=some xs):∃ a vs,v = .ref a/\(SqL K H a vs\/SqT K H a vs)/\RlAll K as H vs xs:=by
 cases x with
 | tup ys=>
   cases h;obtain⟨p,vs,rfl,hp,rr⟩:=rl_tup.mp r;exact⟨p,vs,rfl,.inr (SqT.of hp),rr⟩
 | ro ys=>
   cases h;obtain⟨p,vs,rfl,hp,rr⟩:=rl_ro.mp r;exact⟨p,vs,rfl,.inl hp.sq,rr⟩
 | loc k=>
   obtain⟨a,ea,rfl⟩:=rl_loc.mp r;unfold seqS at h;cases hs:S[k]? with
   | none=>simp only[hs]at h;cases h
   | some o=>
     cases o with
     | lst ys=>
       simp only[hs]at h;cases h;obtain⟨vs,h1,rr⟩:=ok.obj k _ a hs ea;exact⟨a,vs,rfl,.inl (SqL.of h1),rr⟩
     | iset _=>simp only[hs]at h;cases h
     | dtl _=>simp only[hs]at h;cases h
     | dtf _ _ _=>simp only[hs]at h;cases h
     | dtp _=>simp only[hs]at h;cases h
     | dct _=>simp only[hs]at h;cases h
     | dcf _ _ _=>simp only[hs]at h;cases h
 | _=>cases h
theorem p9{k:Nat}{v:V}{S:Sto}{xs:List SV}(ok:Ok K as H S)(r:Rl K as H v (.loc k))(h:S[k]?=some (.lst xs)):∃ a vs,v = .ref a/\as[k]?=some a/\H a=some (.lst vs)/\RlAll K as H vs xs:=by
 obtain⟨a,ea,rfl⟩:=rl_loc.mp r;obtain⟨vs,h1,rr⟩:=ok.obj k _ a h ea;exact⟨a,vs,rfl,ea,h1,rr⟩
end
def MG:S2
 | .int i,.int j,S,Q=>Q (.int (i+j)) S
 | .loc k,.loc l,S,Q=>∃ xs ys,S[k]?=some (.lst xs)/\S[l]?=some (.lst ys)/\xs.length+ys.length<=big/\Q (.loc S.length) (S++[.lst (xs++ys)])
 | _,_,_,_=>False
def Hm(C:Int->Int->Prop)(g:Int->Int->SV):S2
 | .int i,.int j,S,Q=>C i j/\Q (g i j) S
 | _,_,_,_=>False
def C9(g:Int->Int->SV):S2
 | .int i,.int j,S,Q=>Q (g i j) S
 | _,_,_,_=>False
def MH:S2
 | .int i,.int j,S,Q=>CMul i j/\Q (.int (i * j)) S
 | .loc k,.int j,S,Q=>∃ xs,S[k]?=some (.lst xs)/\(-1000000<j/\j<1000000)/\xs.length * j.toNat<=big/\Q (.loc S.length) (S++[.lst (VL j.toNat xs).flatten])
 | _,_,_,_=>False
theorem Mono2.add:Mono2 MG:=λx y S P P' i h=>by
 unfold MG at h ⊢
 split at h<;>first
  | exact i _ _ h
  | exact⟨h.1,i _ _ h.2⟩
  | (obtain⟨xs,ys,a,b,c,d⟩:=h;exact⟨xs,ys,a,b,c,i _ _ d⟩)
  | exact h.elim
theorem Mono2.int{C:Int->Int->Prop}{g:Int->Int->SV}:Mono2 (Hm C g):=λx y S P P' i h=>by
 unfold Hm at h ⊢;split at h
 ·exact⟨h.1,i _ _ h.2⟩
 ·exact h.elim
theorem Mono2.int0{g:Int->Int->SV}:Mono2 (C9 g):=λx y S P P' i h=>by
 unfold C9 at h ⊢;split at h
 ·exact i _ _ h
 ·exact h.elim
theorem Mono2.mul:Mono2 MH:=λx y S P P' i h=>by
 unfold MH at h ⊢;split at h
 ·exact⟨h.1,i _ _ h.2⟩
 ·obtain⟨xs,a,b,c,d⟩:=h;exact⟨xs,a,b,c,i _ _ d⟩
 ·exact h.elim
section
variable{K:V5}
theorem Post.here{as:List Yi}{H:Hp}{Q:VK}{x:SV}{S:Sto}{v:V}(h:Post K as H Q x S)(ok:Ok K as H S)(r:Rl K as H v x):Q v H:=h as H v (Go.refl _ _) ok r
theorem Ey{C:Int->Int->Prop}{g:Int->Int->SV}{g':Int->Int->V}(hg:∀ as H i j,Rl K as H (g' i j) (g i j)):BN K (Hm C g) (rI C g'):=λas H S x y v u Q ok rx ry h=>by
 unfold Hm at h;split at h
 ·rw[rl_int]at rx ry;exact⟨_,_,rx,ry,h.1,h.2.here ok (hg _ _ _ _)⟩
 ·exact h.elim
theorem BO{g:Int->Int->SV}{g':Int->Int->V}(hg:∀ as H i j,Rl K as H (g' i j) (g i j)):BN K (C9 g) (rI0 g'):=λas H S x y v u Q ok rx ry h=>by
 unfold C9 at h;split at h
 ·rw[rl_int]at rx ry;exact⟨_,_,rx,ry,h.here ok (hg _ _ _ _)⟩
 ·exact h.elim
def U5(K:V5):R2:=λx y H Q=>(rI0 λi j => .int (i+j)) x y H Q\/Tr x y H Q
theorem Og{X:Cx}:OpR X (ZS .Add) (U5 X.K):=op_add.or RX
theorem Oh:BN K MG (U5 K):=λas H S x y v u Q ok rx ry h=>by
 unfold MG at h;split at h
 ·rw[rl_int]at rx ry;exact .inl ⟨_,_,rx,ry,h.here ok (rl_int.mpr rfl)⟩
 ·obtain⟨xs,ys,h1,h2,h3,h4⟩:=h;obtain⟨a,vs,rfl,_,ha,ra⟩:=p9 ok rx h1;obtain⟨b,us,rfl,_,hb,rb⟩:=p9 ok ry h2;exact(.inr (⟨a,b,vs,us,rfl,rfl,ha,hb,by rw[ra.length,rb.length];exact AR h3,AS ok (ra.append rb) h4⟩))
 ·exact h.elim
theorem RlAll.rep{as:List Yi}{H:Hp}{vs:List V}{xs:List SV}(h:RlAll K as H vs xs):∀ n,RlAll K as H (VL n vs).flatten (VL n xs).flatten
 | 0=>by simpa using RlAll.nil
 | n+1=>by
   rw[Vj,Vj,WM,WM];exact h.append (RlAll.rep h n)
theorem Oi:BN K MH (λx y H Q=>(rI CMul λi j => .int (i * j)) x y H Q\/Tt x y H Q):=λas H S x y v u Q ok rx ry h=>by
 unfold MH at h;split at h
 ·rw[rl_int]at rx ry;exact .inl ⟨_,_,rx,ry,h.1,h.2.here ok (rl_int.mpr rfl)⟩
 ·rename_i k j;obtain⟨xs,h1,h2,h3,h4⟩:=h;obtain⟨a,vs,rfl,_,ha,ra⟩:=p9 ok rx h1;rw[rl_int]at ry;subst ry;exact .inr (⟨a,j,vs,rfl,rfl,ha,by omega,by omega,by rw[ra.length];exact AR h3,AS ok (ra.rep _) h4⟩)
 ·exact h.elim
end
def scS:SV->SV->Option Bool
 | .int i,.int j=>some (decide (i=j))
 | .bl i,.bl j=>some (decide (i=j))
 | .str i,.str j=>some (decide (i=j))
 | .non,.non=>some true
 | .non,.int _=>some false | .int _,.non=>some false | .non,.bl _=>some false | .bl _,.non=>some false | .non,.str _=>some false | .str _,.non=>some false
 | .int _,.str _=>some false | .str _,.int _=>some false | .bl _,.str _=>some false | .str _,.bl _=>some false
 | _,_=>none
def Hn:SV->SV->Sto->(Bool->Prop)->Prop
 | .loc k,.loc l,S,Q=>∃ xs ys,S[k]?=some (.lst xs)/\S[l]?=some (.lst ys)/\((xs.all y0=true/\ys.all y0=true)\/xs=[]\/ys=[])/\Q (Fq xs ys)
 | _,_,_,_=>False
def KU:SV->SV->Sto->(Bool->Prop)->Prop
 | .loc k,.loc l,S,Q=>∃ xs ys,S[k]?=some (.lst xs)/\S[l]?=some (.lst ys)/\((xs.all y0=true/\ys.all y0=true)\/xs=[]\/ys=[])/\Q (Fq xs ys)
 | .loc k,.str _,S,Q=>(∃ xs,S[k]?=some (.lst xs))/\Q false
 | .tup _,.str _,_,Q=>Q false
 | _,_,_,_=>False
theorem Rr{x y:SV}{S:Sto}{Q:Bool->Prop}(h:KU x y S Q):Hn x y S Q\/(∃ t,y = .str t/\((∃ k xs,x = .loc k/\S[k]?=some (.lst xs))\/∃ xs,x = .tup xs)/\Q false):=by
 unfold KU at h;split at h
 ·exact .inl h
 ·obtain⟨⟨xs,e⟩,q⟩:=h;exact .inr ⟨_,rfl,.inl ⟨_,xs,rfl,e⟩,q⟩
 ·exact .inr ⟨_,rfl,.inr ⟨_,rfl⟩,h⟩
 ·exact h.elim
theorem KW{x y:SV}{S:Sto}{P P':Bool->Prop}(i:∀ b,P b->P' b)(h:KU x y S P):KU x y S P':=by
 unfold KU at h ⊢;split at h
 ·obtain⟨xs,ys,a,b,c,d⟩:=h;exact⟨xs,ys,a,b,c,i _ d⟩
 ·exact⟨h.1,i _ h.2⟩
 ·exact i _ h
 ·exact h.elim
def sEq:S2:=λx y S Q=>match scS x y with | some b=>Q (.bl b) S | none=>KU x y S λb=>Q (.bl b) S
def sNe:S2:=λx y S Q=>match scS x y with | some b=>Q (.bl (!b)) S | none=>Hn x y S λb=>Q (.bl (!b)) S
def BC:SV->Sto->Option (List Int)
 | .loc k,S=>match S[k]? with | some (.iset ms)=>some ms | _=>none
 | _,_=>none
def sIn(neg:Bool):S2:=λx y S Q=>match BC y S with
 | some ms=>∃ i,x = .int i/\neg=false/\Q (.bl (decide (i∈ms))) S
 | none=>y0 x=true/\∃ ys,seqS y S=some ys/\ys.all y0=true/\Q (.bl (if neg then !inS x ys else inS x ys)) S
def y7:SV->Bool
 | .non=>true
 | _=>false
def MI(neg:Bool):S2:=λx y S Q=>(y = .non/\Q (.bl (if neg then !y7 x else y7 x)) S)\/∃ c d,neg=true/\x = .bl c/\y = .bl d/\Q (.bl (c != d)) S
theorem KY{x y:SV}{S:Sto}{P P':Bool->Prop}(i:∀ b,P b->P' b)(h:Hn x y S P):Hn x y S P':=by
 unfold Hn at h ⊢;split at h
 ·obtain⟨xs,ys,a,b,c,d⟩:=h;exact⟨xs,ys,a,b,c,i _ d⟩
 ·exact h.elim
theorem Mono2.eq:Mono2 sEq:=λx y S P P' i h=>by
 unfold sEq at h ⊢;split at h
 ·exact i _ _ h
 ·exact KW (λ_=>i _ _) h
theorem Mono2.ne:Mono2 sNe:=λx y S P P' i h=>by
 unfold sNe at h ⊢;split at h
 ·exact i _ _ h
 ·exact KY (λ_=>i _ _) h
theorem Mono2.in'{n:Bool}:Mono2 (sIn n):=λx y S P P' i h=>by
 unfold sIn at h ⊢;split at h
 ·obtain⟨j,e,z,h⟩:=h;exact⟨j,e,z,i _ _ h⟩
 ·obtain⟨f,ys,a,b,h⟩:=h;exact⟨f,ys,a,b,i _ _ h⟩
theorem Mono2.isN{n:Bool}:Mono2 (MI n):=λx y S P P' i h=>h.imp (λh=>⟨h.1,i _ _ h.2⟩) λ⟨c,d,z,a,b,h⟩=>⟨c,d,z,a,b,i _ _ h⟩
section
variable{K:V5}
theorem MJ{as:List Yi}{H:Hp}{x y:SV}{v u:V}{b:Bool}(e:scS x y=some b)(rx:Rl K as H v x)(ry:Rl K as H u y):RM v u=true/\decide (v=u)=b:=by
 cases x<;>first | (unfold scS at e;cases e;done) | (cases y<;>first | (unfold scS at e;cases e;done) | (simp only[rl_non,rl_bl,rl_int,rl_str]at rx ry;subst rx ry;unfold scS at e;injection e with e;subst e;exact⟨rfl,by simp⟩))
theorem J9{as:List Yi}{H:Hp}{S:Sto}{x y:SV}{v u:V}{Q:Bool->Prop}(ok:Ok K as H S)(rx:Rl K as H v x)(ry:Rl K as H u y)(h:Hn x y S Q):∃ a b xs ys,v = .ref a/\u = .ref b/\SqL K H a xs/\SqL K H b ys/\((xs.all A9=true/\ys.all A9=true)\/xs=[]\/ys=[])/\Q (Am xs ys):=by
 unfold Hn at h;split at h
 ·obtain⟨xs,ys,h1,h2,h3,h4⟩:=h;obtain⟨a,vs,rfl,_,ha,ra⟩:=p9 ok rx h1;obtain⟨b,us,rfl,_,hb,rb⟩:=p9 ok ry h2;refine⟨a,b,vs,us,rfl,rfl,SqL.of ha,SqL.of hb,?_,?_⟩
  ·rcases h3 with⟨f1,f2⟩ | h3 | h3
   ·rw[As f1 ra,As f2 rb];exact .inl ⟨CV f1,CV f2⟩
   ·subst h3;exact .inr (.inl (rla_nil.mp ra))
   ·subst h3;exact .inr (.inr (rla_nil.mp rb))
  ·have e:Am vs us=Fq xs ys:=by
    rcases h3 with⟨f1,f2⟩ | h3 | h3
    ·rw[As f1 ra,As f2 rb,Of f1 f2]
    ·subst h3;have:=rla_nil.mp ra;subst this;have l:=rb.length;unfold Am Fq;simp[l]
    ·subst h3;have:=rla_nil.mp rb;subst this;have l:=ra.length;unfold Am Fq;simp[l]
   rw[e];exact h4
 ·exact h.elim
theorem Rs:BN K sEq (λx y H Q=>rEq x y H Q\/(OT K false x y H Q\/QN K x y H Q)):=λas H S x y v u Q ok rx ry h=>by
 unfold sEq at h;split at h
 ·rename_i b e;obtain⟨h1,h2⟩:=MJ e rx ry;exact .inl ⟨h1,by rw[h2];exact h.here ok (rl_bl.mpr rfl)⟩
 ·rcases Rr h with h | ⟨t,rfl,h,q⟩
  ·obtain⟨a,b,xs,ys,e1,e2,h1,h2,h3,h4⟩:=J9 ok rx ry h;exact .inr (.inl ⟨a,b,xs,ys,e1,e2,h1,h2,h3,h4.here ok (rl_bl.mpr rfl)⟩)
  ·rw[rl_str]at ry;subst ry;rcases h with⟨k,xs,rfl,hk⟩ | ⟨xs,rfl⟩
   ·obtain⟨a,vs,rfl,_,ha,_⟩:=p9 ok rx hk;exact .inr (.inr ⟨a,t,rfl,rfl,.inl ⟨vs,SqL.of ha⟩,Post.here q ok (rl_bl.mpr rfl)⟩)
   ·obtain⟨p,vs,rfl,hp,_⟩:=rl_tup.mp rx;exact .inr (.inr ⟨p,t,rfl,rfl,.inr ⟨vs,SqT.of hp⟩,Post.here q ok (rl_bl.mpr rfl)⟩)
theorem Rt:BN K sNe (λx y H Q=>rNe x y H Q\/OT K true x y H Q):=λas H S x y v u Q ok rx ry h=>by
 unfold sNe at h;split at h
 ·rename_i b e;obtain⟨h1,h2⟩:=MJ e rx ry;exact .inl ⟨h1,by rw[h2];exact h.here ok (rl_bl.mpr rfl)⟩
 ·obtain⟨a,b,xs,ys,e1,e2,h1,h2,h3,h4⟩:=J9 ok rx ry h;exact .inr ⟨a,b,xs,ys,e1,e2,h1,h2,h3,h4.here ok (rl_bl.mpr rfl)⟩
theorem Oj{as:List Yi}{H:Hp}{S:Sto}{y:SV}{u:V}{ms:List Int}(ok:Ok K as H S)(r:Rl K as H u y)(h:BC y S=some ms):∃ a k F,y = .loc k/\u = .ref a/\as[k]?=some a/\S[k]?=some (.iset ms)/\H a=some (.set F ms.length)/\∀ k,F k=decide (k∈ms):=by
 cases y with
 | loc k=>
   obtain⟨a,ea,rfl⟩:=rl_loc.mp r;unfold BC at h;cases hs:S[k]? with
   | none=>simp only[hs]at h;cases h
   | some o=>
     cases o with
     | lst ys=>simp only[hs]at h;cases h
     | iset ns=>
       simp only[hs]at h;cases h;obtain⟨F,h1,h2⟩:=ok.obj k _ a hs ea;exact⟨a,k,F,rfl,rfl,ea,hs,h1,h2⟩
     | dtl _=>simp only[hs]at h;cases h
     | dtf _ _ _=>simp only[hs]at h;cases h
     | dtp _=>simp only[hs]at h;cases h
     | dct _=>simp only[hs]at h;cases h
     | dcf _ _ _=>simp only[hs]at h;cases h
 | _=>cases h
def Ru(K:V5)(neg:Bool):R2:=λx y H Q=>rIn K neg x y H Q\/(neg=false/\∃(k:Int) (p:Yi) (S:Int->Bool) (n:Nat),x = .int k/\y = .ref p/\H p=some (.set S n)/\Q (.bl (S k)) H)
theorem Rv{X:Cx}:OpR X (Yv .In) (Ru X.K false):=λpq s σ H x y v u Q I rx ry h=>h.elim (KI pq s σ H x y v u Q I rx ry) λh=>MF pq s σ H x y v u Q I rx ry h.2
theorem KZ{X:Cx}:OpR X (Yv .NotIn) (Ru X.K true):=λpq s σ H x y v u Q I rx ry h=>h.elim (Er pq s σ H x y v u Q I rx ry) λh=>by cases h.1
theorem MK{n:Bool}:BN K (sIn n) (Ru K n):=λas H S x y v u Q ok rx ry h=>by
 unfold sIn at h;split at h
 ·rename_i ms hi;obtain⟨i,rfl,rfl,h⟩:=h;obtain⟨a,k,F,rfl,rfl,ea,es,hF,hk⟩:=Oj ok ry hi;rw[rl_int]at rx;exact .inr ⟨rfl,i,a,F,_,rx,rfl,hF,by rw[hk];exact h.here ok (rl_bl.mpr rfl)⟩
 ·obtain⟨f,ys,hs,fs,h⟩:=h;obtain⟨a,vs,rfl,hq,rr⟩:=Ew ok ry hs;have ev:=J8 f rx;have es:=As fs rr;subst ev es;exact .inl ⟨a,_,rfl,hq,Fs f,CV fs,by rw[Rq f fs];exact h.here ok (rl_bl.mpr rfl)⟩
theorem Ft{as:List Yi}{H:Hp}{x:SV}{v:V}(r:Rl K as H v x):decide (v=V.non)=y7 x:=by
 cases x with
 | non=>rw[rl_non.mp r];rfl
 | bl _=>rw[rl_bl.mp r];rfl
 | int _=>rw[rl_int.mp r];rfl
 | str _=>rw[rl_str.mp r];rfl
 | tup _=>obtain⟨p,vs,rfl,_⟩:=rl_tup.mp r;rfl
 | loc _=>obtain⟨p,_,rfl⟩:=rl_loc.mp r;rfl
 | ro _=>obtain⟨p,vs,rfl,_⟩:=rl_ro.mp r;rfl
 | ty _=>rw[rl_ty.mp r];rfl
theorem Ol:BN K (MI false) (λx y H Q=>y = .non/\Q (.bl (decide (x = .non))) H):=λas H S x y v u Q ok rx ry h=>by
 rcases h with⟨e,h⟩ | ⟨c,d,z,_⟩
 ·subst e;exact⟨rl_non.mp ry,by rw[Ft rx];exact h.here ok (rl_bl.mpr rfl)⟩
 ·cases z
theorem ML:BN K (MI true) (λx y H Q=>(y = .non/\Q (.bl (!decide (x = .non))) H)\/∃ c d,x = .bl c/\y = .bl d/\Q (.bl (c != d)) H):=λas H S x y v u Q ok rx ry h=>by
 rcases h with⟨e,h⟩ | ⟨c,d,_,rfl,rfl,h⟩
 ·subst e;exact .inl ⟨rl_non.mp ry,by rw[Ft rx];exact h.here ok (rl_bl.mpr rfl)⟩
 ·exact .inr ⟨c,d,rl_bl.mp rx,rl_bl.mp ry,h.here ok (rl_bl.mpr rfl)⟩
end
def sIx:S2
 | x,.int i,S,Q=>∃ xs y,seqS x S=some xs/\atI xs i=some y/\Q y S
 | _,_,_,_=>False
theorem Mono2.ix:Mono2 sIx:=λx y S P P' i h=>by
 unfold sIx at h ⊢;split at h
 ·obtain⟨xs,z,a,b,c⟩:=h;exact⟨xs,z,a,b,i _ _ c⟩
 ·exact h.elim
section
variable{K:V5}
theorem RlAll.atI{as:List Yi}{H:Hp}{xs:List SV}{vs:List V}{i:Int}{y:SV}(h:RlAll K as H vs xs)(e:L2.atI xs i=some y):∃ v,L2.atI vs i=some v/\Rl K as H v y:=by
 unfold L2.atI at e ⊢;rw[h.length];cases hj:ixN xs.length i with
 | none=>rw[hj]at e;cases e
 | some j=>
   rw[hj]at e;exact h.get e
theorem Rw:BN K sIx (λx y H Q=>Tn K x y H Q\/To K x y H Q):=λas H S x y v u Q ok rx ry h=>by
 unfold sIx at h;split at h
 ·obtain⟨xs,z,h1,h2,h3⟩:=h;obtain⟨a,vs,rfl,hq,rr⟩:=Ew ok rx h1;obtain⟨w,hw,rw'⟩:=rr.atI h2;rw[rl_int]at ry;rcases hq with hq | hq
  ·exact .inl ⟨a,vs,_,w,rfl,ry,hq,hw,h3.here ok rw'⟩
  ·exact .inr ⟨a,vs,_,w,rfl,ry,hq,hw,h3.here ok rw'⟩
 ·exact h.elim
end
end Rf
namespace L2
open PySem PySem.Spec PyProof.Rows
section
variable{prog:Yn}{w:Yq}{A:Yt}{R:Result->Yh->Prop}{I:Yi}{fp wr:List Yi}{n:Nat}{P:Nat->Yg->Prop}{St:Nat->Heap->Prop}
structure CmpIn(prog:Yn)(w:Yq)(A:Yt)(wr:List Yi)(S:Yi)(P:Nat->Yg->Prop)(bt:Nat->Nat->Bool)(G:Heap->Prop):Prop where
 keep:∀ h h',G h->(∀ b o,b∉wr->b≠S->h.get? b=some o->h'.get? b=some o)->G h'
 cmp:∀(s:Yh),G s.heap->∀(i j:Nat) (vi vj:Yg) (Q:Yg->Yh->Prop) (E:Yg->Yh->Prop),P i vi->P j vj->Q (.bool (bt i j)) s->Yk (Ym prog w) A (ZG .Lt vi vj) Q E s
theorem Ez{kw:List (Str×Yg)}(W:Walks prog w A.in1 I fp wr n P St){bt:Nat->Nat->Bool}{S:Yi}{G:Heap->Prop}(C:CmpIn prog w A.in1 wr S P bt G)(hSf:S∉fp)(k:Nat):
 ∀(j:Nat) (s:Yh) (vb:Yg) (c:Nat),n=j+1+k->St (j+1) s.heap->G s.heap->P (argBest bt j) vb->
 s.heap.get? S=some {cls := .type "list",dict:=none,data := .seq #[vb,vb] c,slots:=#[]}->
 (∀ v h' tk,P (argBest bt (n - 1)) v->(∀ b o,b∉wr->b≠S->s.heap.get? b=some o->h'.get? b=some o)->R (.ok (.ret v)) {s with heap:=h',toks:=tk})->
 codeAny (Ym prog w) A (.builtin "min.loop" ⟨[.ref I,.none,.ref S],kw⟩) R s:=by
 have hSw:S∉wr:=λz=>hSf (W.sub _ z);have nm:(toString "min"++toString ".loop":String)="min.loop":=by decide
 induction k with
 | zero=>
   intro j s vb c hk hst hG hPb hS hR;refine ZM F.entry_min_loop ?_;rw[Around.under_plainId F.plain_min_loop _];refine Yf (m:=Zd (.ref S)) (Z9 hS rfl ?_);have hst':St n s.heap:=by rw[hk];exact hst
   refine Yf (m:=tryCatch (pyNext (.ref I)) _) (Z1 (W.done s _ _ hst' λh1 tk k1=>?_));have hS1:=k1 S _ hSw hS;refine Yf (m:=A0k S (λ_=>#[])) (ZN hS1 rfl (Yf (ZH (Yj ?_))));exact hR vb _ tk (by rw[hk];exact hPb) λb o hb hn e=>(Vz _ _ (Ne.symm hn)).trans (k1 b o hb e)
 | succ k ih=>
   intro j s vb c hk hst hG hPb hS hR;refine ZM F.entry_min_loop ?_;rw[Around.under_plainId F.plain_min_loop _];refine Yf (m:=Zd (.ref S)) (Z9 hS rfl ?_);refine Yf (m:=tryCatch (pyNext (.ref I)) _) (Z1 (W.item (j+1) s _ _ (by omega) hst λv h1 tk hP st1 k1=>?_));have hS1:=k1 S _ hSw hS;have hG1:=C.keep _ _ hG λb o hb _ e=>k1 b o hb e;refine Yf (m:=tryCatch (holding [v,v] (ZG .Lt v vb >>= _)) _) (Z1 (Yz (Yf (C.cmp _ hG1 (j+1) (argBest bt j) v vb _ _ hP hPb ?_))));refine Yf (Yz (Yw (Yf (ZH (Yj ?_)))));cases hb:bt (j+1) (argBest bt j) with
   | true=>
     simp only[if_true];refine Yf (ZN hS1 rfl (Yf (ZH ?_)));rw[nm];have up:∀ b o,b≠S->h1.get? b=some o->(Xu h1 S (Obj.mapSeq λ_=>#[v,v])).get? b=some o:=λb o hn e=>(Vz _ _ (Ne.symm hn)).trans e;refine Yj ⟨ZD F.plain_min_loop _,ih (j+1) _ v _ (by omega) (W.frame _ _ _ st1 λb hbf o e=>up b o (λz=>hSf (z▸hbf)) e) (C.keep _ _ hG1 λb o _ hn e=>up b o hn e) ?_ (W2 _ hS1 rfl) λv' h2 tk2 hP' k2=>?_⟩
     ·simp only[argBest,hb,if_true];exact hP
     ·exact hR v' h2 tk2 hP' λb o hbw hn e=>k2 b o hbw hn (up b o hn (k1 b o hbw e))
   | false=>
     simp only[WC,if_false];refine Yf (ZH ?_);rw[nm];refine Yj ⟨ZD F.plain_min_loop _,ih (j+1) _ vb c (by omega) st1 hG1 ?_ hS1 λv' h2 tk2 hP' k2=>?_⟩
     ·simp only[argBest,hb,WC,if_false];exact hPb
     ·exact hR v' h2 tk2 hP' λb o hbw hn e=>k2 b o hbw hn (k1 b o hbw e)
theorem E1{d:Yg}(W:Walks prog w A.in1 I fp wr n P St){bt:Nat->Nat->Bool}{S:Yi}{G:Heap->Prop}(C:CmpIn prog w A.in1 wr S P bt G)(hSf:S∉fp){s:Yh}{c:Nat}(hst:St 0 s.heap)(hG:G s.heap)
 (hS:s.heap.get? S=some {cls := .type "list",dict:=none,data := .seq #[] c,slots:=#[]})
 (h0:n=0->∀ h' tk,(∀ b o,b∉wr->b≠S->s.heap.get? b=some o->h'.get? b=some o)->R (.ok (.ret d)) {s with heap:=h',toks:=tk})
 (hR:0<n->∀ v h' tk,P (argBest bt (n - 1)) v->(∀ b o,b∉wr->b≠S->s.heap.get? b=some o->h'.get? b=some o)->R (.ok (.ret v)) {s with heap:=h',toks:=tk}):
 codeAny (Ym prog w) A (.builtin "min.loop" ⟨[.ref I,.none,.ref S],[(Str.ofString "default",d)]⟩) R s:=by
 have hSw:S∉wr:=λz=>hSf (W.sub _ z);have nm:(toString "min"++toString ".loop":String)="min.loop":=by decide
 refine ZM F.entry_min_loop ?_;rw[Around.under_plainId F.plain_min_loop _];refine Yf (m:=Zd (.ref S)) (Z9 hS rfl ?_);by_cases hn:n=0
 ·subst hn;refine Yf (m:=tryCatch (pyNext (.ref I)) _) (Z1 (W.done s _ _ hst λh1 tk k1=>?_));exact Yf (Zc (Yj (h0 rfl h1 tk λb o hb _ e=>k1 b o hb e)))
 ·refine Yf (m:=tryCatch (pyNext (.ref I)) _) (Z1 (W.item 0 s _ _ (by omega) hst λv h1 tk hP st1 k1=>?_));have hS1:=k1 S _ hSw hS;have up:∀ b o,b≠S->h1.get? b=some o->(Xu h1 S (Obj.mapSeq λ_=>#[v,v])).get? b=some o:=λb o hn e=>(Vz _ _ (Ne.symm hn)).trans e;refine Yf (m:=A0k S (λ_=>#[v,v])) (ZN hS1 rfl ?_);rw[nm];refine Yj ⟨ZD F.plain_min_loop _,Ez W C hSf (n - 1) 0 _ v _ (by omega) (W.frame _ _ _ st1 λb hbf o e=>up b o (λz=>hSf (z▸hbf)) e) (C.keep _ _ (C.keep _ _ hG λb o hb _ e=>k1 b o hb e) λb o _ hn e=>up b o hn e) hP (W2 _ hS1 rfl) λv' h2 tk2 hP' k2=>?_⟩;exact hR (by omega) v' h2 tk2 hP' λb o hbw hn e=>k2 b o hbw hn (up b o hn (k1 b o hbw e))
end
theorem E3{a b:Int}{us:List Yg}(r:Vals [V.int a,V.int b] us):IntsAre us [a,b]:=by
 cases r with
 | cons r1 r2=>
   obtain⟨t1,rfl⟩:=r1;cases r2 with
   | cons r2 r3=>
     obtain⟨t2,rfl⟩:=r2;cases r3;exact .cons _ _ (.cons _ _ .nil)
theorem F0(a v:Yg):argsOk "min" ⟨[a],[(Str.ofString "default",v)]⟩:=by unfold argsOk;kernel_rfl
section
variable{prog:Yn}{w:Yq}{A:Yt}{E:Yg->Yh->Prop}{s:Yh}
theorem F1{l:Yi}{items:Array Yg}{d:Yg}{Q:Yg->Yh->Prop}(hh:A.handled=none)(hl:s.heap.IsList l items)(bt:Nat->Nat->Bool)(G:Heap->Prop)(hG:G s.heap)
 (hkeep:∀ h h',G h->(∀ b o,b<s.heap.objs.size->h.get? b=some o->h'.get? b=some o)->G h')
 (hcmp:∀(s':Yh),G s'.heap->∀(i j:Nat) (vi vj:Yg) (Q:Yg->Yh->Prop) (E:Yg->Yh->Prop),items[i]?=some vi->items[j]?=some vj->Q (.bool (bt i j)) s'->Yk (Ym prog w) A.in1 (ZG .Lt vi vj) Q E s')
 (h0:items.size=0->∀ h' tk,(∀ b o,s.heap.get? b=some o->h'.get? b=some o)->Q d {s with heap:=h',toks:=tk})
 (hR:0<items.size->∀ v h' tk,items[argBest bt (items.size - 1)]?=some v->(∀ b o,s.heap.get? b=some o->h'.get? b=some o)->Q v {s with heap:=h',toks:=tk}):
 Yk (Ym prog w) A (call (.builtin "min") [.ref l] [(Str.ofString "default",d)]) Q E s:=by
 have nm:(toString "min"++toString ".loop":String)="min.loop":=by decide
 have hlt:l<s.heap.objs.size:=by obtain⟨o,ho,_⟩:=hl;exact VJ ho
 refine kmb_tree F.kind_min F.plain_min F.entry_min (F0 _ _) ?_;refine Yf (m:=Builtin.Builtins.bindParams "min" ["key","default"] 0 ⟨[],[(Str.ofString "default",d)]⟩) (A03 (show Builtin.Builtins.bindParams "min" ["key","default"] 0 ⟨[],[(Str.ofString "default",d)]⟩=pure [none,some d] from rfl) ?_);refine Yf (Yj ?_);refine Yf (ZC hl ?_);refine Yf (Ys ?_);rw[nm];have W:=Walks.list (prog:=prog) (w:=w) (A:=A.in1) hh s.heap.objs.size l (VO hlt) items;have k1:∀ b o,s.heap.get? b=some o->((s.heap.push {cls := .type "list_iterator",data := .fields #[.ref l,.int 0 0]}).push {cls := .type "list",data := .seq ([]:List Yg).toArray}).get? b=some o:=λb o e=>VE _ (VE _ e);have nS:(s.heap.push {cls := .type "list_iterator",data := .fields #[.ref l,.int 0 0]}).objs.size=s.heap.objs.size+1:=by simp[W9]
 have C:CmpIn prog w A.in1 [s.heap.objs.size] (s.heap.push {cls := .type "list_iterator",data := .fields #[.ref l,.int 0 0]}).objs.size (λi v=>items[i]?=some v) bt G:=⟨λh h' g k=>hkeep h h' g λb o hb e=>k b o (by simp;exact VO hb) (by rw[nS];exact VO (WW hb)) e,hcmp⟩
 have old:∀(h:Heap),(∀ b o,b∉[s.heap.objs.size]->b≠(s.heap.push {cls := .type "list_iterator",data := .fields #[.ref l,.int 0 0]}).objs.size->((s.heap.push {cls := .type "list_iterator",data := .fields #[.ref l,.int 0 0]}).push {cls := .type "list",data := .seq ([]:List Yg).toArray}).get? b=some o->h.get? b=some o)->∀ b o,s.heap.get? b=some o->h.get? b=some o:=λh k b o e=>k b o (by simp;exact VO (VJ e)) (by rw[nS];have:=VJ e;exact VO (WW this)) (k1 b o e);refine Yj ⟨ZD F.plain_min_loop _,E1 (d:=d) W C ?_ ?_ (hkeep _ _ hG λb o _ e=>k1 b o e) (VR _ rfl) (λhz h' tk k=>h0 hz h' tk (old h' k)) (λhz v h' tk hv k=>hR hz v h' tk hv (old h' k))⟩
 ·rw[nS];simp only[VT,YE,or_false,not_or];exact⟨YF _,λz=>absurd hlt (by rw[<-z];exact YG (Wo _))⟩
 ·exact⟨⟨_,VE _ (VR _ rfl),rfl,rfl⟩,hl.at λo e=>k1 _ _ e⟩
end
section
variable{X:Cx}
noncomputable def Ho(X:Cx)(f:Yg)(ks:List Str)(r:List V->List V->Hp->VK->Prop):Prop:=
 ∀(pq:List (Yi×Obj)) (s:Yh) (σ:St) (H:Hp) (vs zs:List V) (us ws:List Yg) (Q:VK),Inv X pq σ H s->Vals vs us->Vals zs ws->r vs zs H Q->Yk (Ym X.prog X.w) X.A (call f us (ks.zip ws)) (EP X pq σ Q) X.xe s
def Ur(r:List V->List V->Hp->VK->Prop)(t tk:TA):TE:=λσ H Q=>t σ H λvs H1=>tk σ H1 λzs H2=>r vs zs H2 Q
theorem ER{id:String}{ks:List Str}{r:List V->List V->Hp->VK->Prop}{x:Str}{p pos:Pos}{e:Expr}{es:List Expr}{kws:List Keyword}{t tk:TA}(hc:Ho X (.builtin id) ks r)(hg:Gl X x)(hm:X.mg x=none)(hv:Yp x=some (.builtin id))(ha:PA X (e::es) t)(hkw:PK X kws tk)
 (hks:(Zj pos (ZP kws X.env)).filterMap (·.1)=ks:=by rfl) (hn:x≠"__name__":=by decide) (hdb:(x == ("__debug__":Str))=false:=by decide)
 (he:backTo pos (Yr (e::es) X.env)=(false,eval e X.env)::backTo pos (Yr es X.env):=by rfl) (hpl:(backTo pos (Yr (e::es) X.env)).any (·.1)=false:=by rfl)
 (hall:(Zj pos (ZP kws X.env)).all (·.1.isSome)=true:=by rfl) (hno:(Zj pos (ZP kws X.env)).any (·.1.isNone)=false:=by rfl):PE X (.Call (.Name x p) (e::es) kws pos) (Ur r t tk):=by
 intro pq s σ H Q I h;refine ZI (BF I hg hm hv ?_ hn hdb);refine callWith_kw (thn (ha pos pq s σ H _ I h) λus s1 ⟨vs,H1,I1,r1,q1⟩=>thn (hkw pos pq s1 σ H1 _ I1 q1) λws s2 ⟨zs,H2,I2,r2,q2⟩=>?_) he hpl hall hno;rw[hks];exact hc pq s2 σ H2 vs zs us ws Q I2 r1 r2 q2
def Om(H:Hp)(vs:List V)(ps:List (Int×Int)):Prop:=vs.length=ps.length/\∀(i:Nat) (p:Int×Int),ps[i]?=some p->∃ q,vs[i]?=some (.ref q)/\H q=some (.tup [.int p.1,.int p.2])
def lt2(p q:Int×Int):Bool:=HT.lexLt [p.1,p.2] [q.1,q.2]
def U6:List V->List V->Hp->VK->Prop:=λxs zs H Q=>∃ l vs ps,xs=[.ref l]/\zs=[.non]/\H l=some (.lst vs)/\Om H vs ps/\(ps=[]->Q .non H)/\
 ∀(i:Nat) p q,ps[i]?=some p->vs[i]?=some (.ref q)->i=argBest (λa b=>lt2 (ps.getD a (0,0)) (ps.getD b (0,0))) (ps.length - 1)->0<ps.length->Q (.ref q) H
theorem Ka(hc:X.calm=true)(hu:X.A.units+1<cLine):Ho X (.builtin "min") ["default"] U6:=by
 intro pq s σ H xs zs us ws Q I r rz h;obtain⟨l,vs,ps,rfl,rfl,hl,⟨hlen,hps⟩,q0,q1⟩:=h;obtain⟨u,rfl,ru⟩:=AQ r;cases ru;obtain⟨z,rfl,rz'⟩:=AQ rz;cases rz';obtain⟨its,rv,pl,hz⟩:=I.list (SqL.of hl);have hl2:=rv.length
 have tup:∀(i:Nat) (v:Yg),its.toArray[i]?=some v->∃ q p,v = .ref q/\ps[i]?=some p/\vs[i]?=some (.ref q)/\H q=some (.tup [.int p.1,.int p.2])/\∃ ti:List Yg,IsTup s.heap q ti.toArray/\IntsAre ti [p.1,p.2]:=λi v hv=>by
  have hv':its[i]?=some v:=by simpa using hv
  have hi:i<ps.length:=by have:=(gM hv').1;omega
  obtain⟨q,e1,e2⟩:=hps i ps[i] (by simp[hi]);obtain⟨u',eu,ru'⟩:=rv.get e1;rw[hv']at eu;cases eu;cases ru';obtain⟨ti,rt,pt,_⟩:=I.tuple (SqT.of e2);exact⟨q,ps[i],rfl,by simp[hi],e1,e2,ti,pt,E3 rt⟩
 refine F1 (I.ok.hd hc) pl.isList (λa b=>lt2 (ps.getD a (0,0)) (ps.getD b (0,0))) (λh=>∀(i:Nat) (v:Yg),its.toArray[i]?=some v->∃ q p,v = .ref q/\q<s.heap.objs.size/\ps[i]?=some p/\∃ ti:List Yg,IsTup h q ti.toArray/\IntsAre ti [p.1,p.2]) ?_ ?_ ?_ ?_ ?_
 ·intro i v hv;obtain⟨q,p,e1,e2,_,_,ti,e3,e4⟩:=tup i v hv;obtain⟨o,ho,_⟩:=e3;exact⟨q,p,e1,VJ ho,e2,ti,⟨o,ho,by assumption⟩,e4⟩
 ·intro h h' g k i v hv;obtain⟨q,p,e1,e2,e3,ti,⟨o,ho,hr⟩,e5⟩:=g i v hv;exact⟨q,p,e1,e2,e3,ti,⟨o,k q o e2 ho,hr⟩,e5⟩
 ·intro s' g i j vi vj Q' E' hi hj q;obtain⟨qi,pi,rfl,_,ei,ti,ti1,ti2⟩:=g i vi hi;obtain⟨qj,pj,rfl,_,ej,tj,tj1,tj2⟩:=g j vj hj;refine HT.lt_tupInts ti1 tj1 (by simpa using ti2) (by simpa using tj2) (show X.A.units+1<cLine from hu) ?_;have e1:ps.getD i (0,0)=pi:=by simp[W6,ei]
  have e2:ps.getD j (0,0)=pj:=by simp[W6,ej]
  rw[e1,e2]at q;exact q
 ·intro hz' h' tk k
  have:ps=[]:=by
   cases ps with
   | nil=>rfl
   | cons p r=>rw[VC]at hz';simp at hlen;omega
  exact⟨.non,H,I.kept (t':=tk) k,rfl,q0 this⟩
 ·intro hp v h' tk hv k;obtain⟨q,p,rfl,e2,e3,e4,_⟩:=tup _ v hv;have hsz:its.toArray.size=ps.length:=by rw[VC];omega
  rw[hsz]at e2 e3 hp;exact⟨.ref q,H,I.kept (t':=tk) k,rfl,q1 _ p q e2 e3 rfl hp⟩
end
section
variable{prog:Yn}{w:Yq}{κ:Type}[DecidableEq κ]{knd:HeapKind prog w κ}{A:Yt}{E:Yg->Yh->Prop}{s:Yh}
theorem Hq{d a:Yi}{o:Obj}{es:Array ZO}{ep:Nat}{xs:List (κ×Yi×Yg)}{k:κ}{v:Yg}(hkey:knd.is s.heap k a)(ho:s.heap.get? d=some o)(hc:o.ExactDict)(hd:o.data = .dict es ep)(he:es.toList=xs.map (A0m knd))(his:∀ x∈xs,knd.is s.heap x.1 x.2.1)(hn:(xs.map (·.1)).Nodup)
 (hno:atKey xs k=none) (hnot:k∉xs.map (·.1)):(s.heap.update d (Obj.mapDictKeys (·.push ⟨knd.hash k,.ref a,v⟩))).DictOfH knd d (storedH xs k a v):=by
 have same:W5 d s.heap (s.heap.update d (Obj.mapDictKeys (·.push ⟨knd.hash k,.ref a,v⟩))):=W5.update ..;rw[storedH_new hno];refine⟨_,_,ep+1,W2 _ ho (Obj.isFreed_of_dict (Obj.data_mapDictKeys hd _)),hc.mapDictKeys _,Obj.data_mapDictKeys hd _,by simp[he,A0m],λx hx=>?_,?_⟩
 ·have hx':x∈xs\/x=(k,a,v):=by simpa using hx
  rcases hx' with hx' | rfl
  ·exact knd.keeps (his x hx') ho hd same
  ·exact knd.keeps hkey ho hd same
 ·rw[VM];exact WY.mpr ⟨hn,by simp,λx hx y hy z=>hnot (by simp at hy;subst hy;rw[<-z];exact hx)⟩
theorem MM{d a:Yi}{xs:List (κ×Yi×Yg)}{k:κ}{v:Yg}{Q:Yg->Yh->Prop}(hu:knd.room A)(hkey:knd.is s.heap k a)(hm:s.heap.DictOfH knd d xs)
 (h1:∀ p,atKey xs k=some p->∀ tk,Q p.2 {s with toks:=tk})
 (h2:atKey xs k=none->∀ h' tk,h'.DictOfH knd d (storedH xs k a v)->W5 d s.heap h'->Q v {s with heap:=h',toks:=tk}) (hsz:xs.length<=Yl):Yk (Ym prog w) A (A04 d (.ref a) v) Q E s:=by
 obtain⟨o,es,ep,ho,hc,hd,he,his,hn⟩:=id hm;unfold A04
 try with_reducible refine Yz ?_
 refine Yf (knd.pyHash hu hkey (Yf (wpAny_dictFind_heap (s:={s with toks:=s.toks+knd.draws k}) hu hkey ho hd he his hn (λhno=>?_) (λj p hj=>?_))))
 ·have e0:=atKey_none_of_get hno;refine Yf (Zc (Yf (wpAny_updateDictKeys (hz:=by have e:=size_of_entries he;omega) (s:={s with toks:=s.toks+knd.draws k}) ho hd (Yj ?_))));exact h2 e0 _ _ (Hq hkey ho hc hd he his hn e0 (not_mem_keys_of_get hno)) (W5.update ..)
 ·refine Yf (Za (s:={s with toks:=s.toks+knd.draws k}) ho hd ?_);rw[entry_at he j,hj];exact Yf (Zc (Yj (h1 p (atKey_of_get hn hj) _)))
theorem DM(d a:Yi)(hd:(d == Z0)=false)(v:Yg):
 MeetsIn prog w (Builtin.«dict.setdefault» ⟨[.ref d,.ref a,v],[]⟩) (λA R s=>knd.room A.in1/\∃ k xs,knd.is s.heap k a/\s.heap.DictOfH knd d xs/\xs.length<=Yl/\s.TypeIs (.ref d) "dict"/\
  (∀ p,atKey xs k=some p->∀ tk,R (.ok (.ret p.2)) {s with toks:=tk})/\
  (atKey xs k=none->∀ h' tk,h'.DictOfH knd d (storedH xs k a v)->W5 d s.heap h'->R (.ok (.ret v)) {s with heap:=h',toks:=tk})):=
 .of_wp λA R s ⟨hu,k,xs,hkey,hm,hz,ht,h1,h2⟩=>by
  unfold Builtin.«dict.setdefault»;refine Yf ?_;unfold Builtin.Dict.keyAndDefault;refine Yf (A00 ht ?_);refine Yj ?_;show Yk _ _ (if (d == Z0)=true then _ else (A04 d (.ref a) v >>= _)) _ _ s;rw[hd];rw[iG VH];exact Yf (MM hu hkey hm (λp e tk=>Yj ⟨p.2,rfl,h1 p e tk⟩) (λe h' tk m' b'=>Yj ⟨v,rfl,h2 e h' tk m' b'⟩) hz)
end
section
variable{X:Cx}{o e f:Expr}{apos cpos:Pos}{td ty tx:TE}
def U7(td ty tx:TE):TE:=λσ H Q=>td σ H λx H1=>∃ a,x = .ref a/\IsD H1 a/\ty σ H1 λy H2=>tx σ H2 λz H3=>∃ kvs k b,y = .ref b/\H3 a=some (.dT kvs)/\H3 b=some (.tup (k.map kV))/\kvs.length<Yl/\
 (∀ v,v7 kvs k=some v->Q v H3)/\(v7 kvs k=none->Q z (upd H3 a (.dT (Ac kvs k z))))
theorem Oo(hu:X.A.units+1<cLine)(ho:PE X o td)(he:PE X e ty)(hf:PE X f tx)(m:M2 X o "setdefault" apos e f cpos):PE X (.Call (.Attribute o "setdefault" apos) [e,f] [] cpos) (U7 td ty tx):=by
 intro pq s σ H Q I h;refine Zo m.base m.few m.line PySem.F.plainAttrs_dict PySem.F.slot_dict_setdefault PySem.F.type_dict_setdefault (thn (ho pq s σ H _ I h) λu s1 ⟨x,H1,I1,rx,a,ex,d,q1⟩=>?_);subst ex;obtain rfl:u=Value.ref a:=rx;obtain⟨t1,t2,_⟩:=Hl I1 d;refine⟨t1,t2,?_⟩;rw[m.trees]
 refine Calls.callWith_builtin rfl (Calls.evalArgs_plain (Calls.spliced_cons (thn (he pq s1 σ H1 _ I1 q1) λiv s2 ⟨y,H2,I2,ry,q2⟩=>
  Calls.spliced_cons (thn (hf pq s2 σ H2 _ I2 q2) λfv s3 ⟨z,H3,I3,rz,kvs,k,b,ey,ha,hb,hz,qs,qn⟩=>Calls.spliced_nil ?_))))
 subst ey;cases ry;obtain⟨hl,hd,xs,rel,dd⟩:=M6 I3.hok ha;have hxl:xs.length<=Yl:=by rw[<-Paired.length rel];exact hl
 refine Zg PySem.F.slot_dict_setdefault dd.typeIs PySem.F.entry_dict_setdefault (PySem.F.args_dict_setdefault_3 _ _ _) (DM (knd:=Zh (m8 X.prog X.w)) a b hd fv) ⟨ZW hu,k,xs,DH I3.hok hb,dd,hxl,dd.typeIs,λp e tk=>?_,λe h' tk dd' hs=>?_⟩
 ·have rv:=rel.val k;rw[e]at rv;cases hv:v7 kvs k with
  | none=>rw[hv]at rv;exact rv.elim
  | some v=>rw[hv]at rv;exact⟨v,H3,I3.tok tk,rv,qs v hv⟩
 ·have hv:v7 kvs k=none:=by
   have rv:=rel.val k;rw[e]at rv;cases hv:v7 kvs k with
   | none=>rfl
   | some v=>rw[hv]at rv;exact rv.elim
  refine⟨z,_,?_,rz,qn hv⟩;obtain⟨q,es,ep,hq,h2,h3,h4,_,h5⟩:=dd';have hl2:(Ac kvs k z).length<=Yl:=by have:=Ae kvs k z;omega
  refine Cw I3 (by rw[ha];exact True.intro) hs ⟨q,hq⟩ ⟨hl2,hd,_,(rel.put k hb rz).keeps λc ys ec=>?_,q,es,ep,hq,h2,h3,h4,h5⟩;rw[i8 (LS ec ha (λz=>nomatch z))];exact ec
end
section
variable{prog:Yn}{w:Yq}{A:Yt}{R:Result->Yh->Prop}{I:Yi}{fp wr:List Yi}{n:Nat}{P:Nat->Yg->Prop}{St:Nat->Heap->Prop}
structure CmpMx(prog:Yn)(w:Yq)(A:Yt)(wr:List Yi)(S:Yi)(P:Nat->Yg->Prop)(bt:Nat->Nat->Bool)(G:Heap->Prop):Prop where
 keep:∀ h h',G h->(∀ b o,b∉wr->b≠S->h.get? b=some o->h'.get? b=some o)->G h'
 cmp:∀(s:Yh),G s.heap->∀(i j:Nat) (vi vj:Yg) (Q:Yg->Yh->Prop) (E:Yg->Yh->Prop),P i vi->P j vj->Q (.bool (bt i j)) s->Yk (Ym prog w) A (ZG .Gt vi vj) Q E s
theorem F2{kw:List (Str×Yg)}(W:Walks prog w A.in1 I fp wr n P St){bt:Nat->Nat->Bool}{S:Yi}{G:Heap->Prop}(C:CmpMx prog w A.in1 wr S P bt G)(hSf:S∉fp)(k:Nat):
 ∀(j:Nat) (s:Yh) (vb:Yg) (c:Nat),n=j+1+k->St (j+1) s.heap->G s.heap->P (argBest bt j) vb->
 s.heap.get? S=some {cls := .type "list",dict:=none,data := .seq #[vb,vb] c,slots:=#[]}->
 (∀ v h' tk,P (argBest bt (n - 1)) v->(∀ b o,b∉wr->b≠S->s.heap.get? b=some o->h'.get? b=some o)->R (.ok (.ret v)) {s with heap:=h',toks:=tk})->
 codeAny (Ym prog w) A (.builtin "max.loop" ⟨[.ref I,.none,.ref S],kw⟩) R s:=by
 have hSw:S∉wr:=λz=>hSf (W.sub _ z);have nm:(toString "max"++toString ".loop":String)="max.loop":=by decide
 induction k with
 | zero=>
   intro j s vb c hk hst hG hPb hS hR;refine ZM F.entry_max_loop ?_;rw[Around.under_plainId F.plain_max_loop _];refine Yf (m:=Zd (.ref S)) (Z9 hS rfl ?_);have hst':St n s.heap:=by rw[hk];exact hst
   refine Yf (m:=tryCatch (pyNext (.ref I)) _) (Z1 (W.done s _ _ hst' λh1 tk k1=>?_));have hS1:=k1 S _ hSw hS;refine Yf (m:=A0k S (λ_=>#[])) (ZN hS1 rfl (Yf (ZH (Yj ?_))));exact hR vb _ tk (by rw[hk];exact hPb) λb o hb hn e=>(Vz _ _ (Ne.symm hn)).trans (k1 b o hb e)
 | succ k ih=>
   intro j s vb c hk hst hG hPb hS hR;refine ZM F.entry_max_loop ?_;rw[Around.under_plainId F.plain_max_loop _];refine Yf (m:=Zd (.ref S)) (Z9 hS rfl ?_);refine Yf (m:=tryCatch (pyNext (.ref I)) _) (Z1 (W.item (j+1) s _ _ (by omega) hst λv h1 tk hP st1 k1=>?_));have hS1:=k1 S _ hSw hS;have hG1:=C.keep _ _ hG λb o hb _ e=>k1 b o hb e;refine Yf (m:=tryCatch (holding [v,v] (ZG .Gt v vb >>= _)) _) (Z1 (Yz (Yf (C.cmp _ hG1 (j+1) (argBest bt j) v vb _ _ hP hPb ?_))));refine Yf (Yz (Yw (Yf (ZH (Yj ?_)))));cases hb:bt (j+1) (argBest bt j) with
   | true=>
     simp only[if_true];refine Yf (ZN hS1 rfl (Yf (ZH ?_)));rw[nm];have up:∀ b o,b≠S->h1.get? b=some o->(Xu h1 S (Obj.mapSeq λ_=>#[v,v])).get? b=some o:=λb o hn e=>(Vz _ _ (Ne.symm hn)).trans e;refine Yj ⟨ZD F.plain_max_loop _,ih (j+1) _ v _ (by omega) (W.frame _ _ _ st1 λb hbf o e=>up b o (λz=>hSf (z▸hbf)) e) (C.keep _ _ hG1 λb o _ hn e=>up b o hn e) ?_ (W2 _ hS1 rfl) λv' h2 tk2 hP' k2=>?_⟩
     ·simp only[argBest,hb,if_true];exact hP
     ·exact hR v' h2 tk2 hP' λb o hbw hn e=>k2 b o hbw hn (up b o hn (k1 b o hbw e))
   | false=>
     simp only[WC,if_false];refine Yf (ZH ?_);rw[nm];refine Yj ⟨ZD F.plain_max_loop _,ih (j+1) _ vb c (by omega) st1 hG1 ?_ hS1 λv' h2 tk2 hP' k2=>?_⟩
     ·simp only[argBest,hb,WC,if_false];exact hPb
     ·exact hR v' h2 tk2 hP' λb o hbw hn e=>k2 b o hbw hn (k1 b o hbw e)
theorem E4{d:Yg}(W:Walks prog w A.in1 I fp wr n P St){bt:Nat->Nat->Bool}{S:Yi}{G:Heap->Prop}(C:CmpMx prog w A.in1 wr S P bt G)(hSf:S∉fp){s:Yh}{c:Nat}(hst:St 0 s.heap)(hG:G s.heap)
 (hS:s.heap.get? S=some {cls := .type "list",dict:=none,data := .seq #[] c,slots:=#[]})
 (h0:n=0->∀ h' tk,(∀ b o,b∉wr->b≠S->s.heap.get? b=some o->h'.get? b=some o)->R (.ok (.ret d)) {s with heap:=h',toks:=tk})
 (hR:0<n->∀ v h' tk,P (argBest bt (n - 1)) v->(∀ b o,b∉wr->b≠S->s.heap.get? b=some o->h'.get? b=some o)->R (.ok (.ret v)) {s with heap:=h',toks:=tk}):
 codeAny (Ym prog w) A (.builtin "max.loop" ⟨[.ref I,.none,.ref S],[(Str.ofString "default",d)]⟩) R s:=by
 have hSw:S∉wr:=λz=>hSf (W.sub _ z);have nm:(toString "max"++toString ".loop":String)="max.loop":=by decide
 refine ZM F.entry_max_loop ?_;rw[Around.under_plainId F.plain_max_loop _];refine Yf (m:=Zd (.ref S)) (Z9 hS rfl ?_);by_cases hn:n=0
 ·subst hn;refine Yf (m:=tryCatch (pyNext (.ref I)) _) (Z1 (W.done s _ _ hst λh1 tk k1=>?_));exact Yf (Zc (Yj (h0 rfl h1 tk λb o hb _ e=>k1 b o hb e)))
 ·refine Yf (m:=tryCatch (pyNext (.ref I)) _) (Z1 (W.item 0 s _ _ (by omega) hst λv h1 tk hP st1 k1=>?_));have hS1:=k1 S _ hSw hS;have up:∀ b o,b≠S->h1.get? b=some o->(Xu h1 S (Obj.mapSeq λ_=>#[v,v])).get? b=some o:=λb o hn e=>(Vz _ _ (Ne.symm hn)).trans e;refine Yf (m:=A0k S (λ_=>#[v,v])) (ZN hS1 rfl ?_);rw[nm];refine Yj ⟨ZD F.plain_max_loop _,F2 W C hSf (n - 1) 0 _ v _ (by omega) (W.frame _ _ _ st1 λb hbf o e=>up b o (λz=>hSf (z▸hbf)) e) (C.keep _ _ (C.keep _ _ hG λb o hb _ e=>k1 b o hb e) λb o _ hn e=>up b o hn e) hP (W2 _ hS1 rfl) λv' h2 tk2 hP' k2=>?_⟩;exact hR (by omega) v' h2 tk2 hP' λb o hbw hn e=>k2 b o hbw hn (up b o hn (k1 b o hbw e))
end
theorem F3(a v:Yg):argsOk "max" ⟨[a],[(Str.ofString "default",v)]⟩:=by unfold argsOk;kernel_rfl
section
variable{prog:Yn}{w:Yq}{A:Yt}{E:Yg->Yh->Prop}{s:Yh}
theorem F4{l:Yi}{items:Array Yg}{d:Yg}{Q:Yg->Yh->Prop}(hh:A.handled=none)(hl:s.heap.IsList l items)(bt:Nat->Nat->Bool)(G:Heap->Prop)(hG:G s.heap)
 (hkeep:∀ h h',G h->(∀ b o,b<s.heap.objs.size->h.get? b=some o->h'.get? b=some o)->G h')
 (hcmp:∀(s':Yh),G s'.heap->∀(i j:Nat) (vi vj:Yg) (Q:Yg->Yh->Prop) (E:Yg->Yh->Prop),items[i]?=some vi->items[j]?=some vj->Q (.bool (bt i j)) s'->Yk (Ym prog w) A.in1 (ZG .Gt vi vj) Q E s')
 (h0:items.size=0->∀ h' tk,(∀ b o,s.heap.get? b=some o->h'.get? b=some o)->Q d {s with heap:=h',toks:=tk})
 (hR:0<items.size->∀ v h' tk,items[argBest bt (items.size - 1)]?=some v->(∀ b o,s.heap.get? b=some o->h'.get? b=some o)->Q v {s with heap:=h',toks:=tk}):
 Yk (Ym prog w) A (call (.builtin "max") [.ref l] [(Str.ofString "default",d)]) Q E s:=by
 have nm:(toString "max"++toString ".loop":String)="max.loop":=by decide
 have hlt:l<s.heap.objs.size:=by obtain⟨o,ho,_⟩:=hl;exact VJ ho
 refine kmb_tree F.kind_max F.plain_max F.entry_max (F3 _ _) ?_;refine Yf (m:=Builtin.Builtins.bindParams "max" ["key","default"] 0 ⟨[],[(Str.ofString "default",d)]⟩) (A03 (show Builtin.Builtins.bindParams "max" ["key","default"] 0 ⟨[],[(Str.ofString "default",d)]⟩=pure [none,some d] from rfl) ?_);refine Yf (Yj ?_);refine Yf (ZC hl ?_);refine Yf (Ys ?_);rw[nm];have W:=Walks.list (prog:=prog) (w:=w) (A:=A.in1) hh s.heap.objs.size l (VO hlt) items;have k1:∀ b o,s.heap.get? b=some o->((s.heap.push {cls := .type "list_iterator",data := .fields #[.ref l,.int 0 0]}).push {cls := .type "list",data := .seq ([]:List Yg).toArray}).get? b=some o:=λb o e=>VE _ (VE _ e);have nS:(s.heap.push {cls := .type "list_iterator",data := .fields #[.ref l,.int 0 0]}).objs.size=s.heap.objs.size+1:=by simp[W9]
 have C:CmpMx prog w A.in1 [s.heap.objs.size] (s.heap.push {cls := .type "list_iterator",data := .fields #[.ref l,.int 0 0]}).objs.size (λi v=>items[i]?=some v) bt G:=⟨λh h' g k=>hkeep h h' g λb o hb e=>k b o (by simp;exact VO hb) (by rw[nS];exact VO (WW hb)) e,hcmp⟩
 have old:∀(h:Heap),(∀ b o,b∉[s.heap.objs.size]->b≠(s.heap.push {cls := .type "list_iterator",data := .fields #[.ref l,.int 0 0]}).objs.size->((s.heap.push {cls := .type "list_iterator",data := .fields #[.ref l,.int 0 0]}).push {cls := .type "list",data := .seq ([]:List Yg).toArray}).get? b=some o->h.get? b=some o)->∀ b o,s.heap.get? b=some o->h.get? b=some o:=λh k b o e=>k b o (by simp;exact VO (VJ e)) (by rw[nS];have:=VJ e;exact VO (WW this)) (k1 b o e);refine Yj ⟨ZD F.plain_max_loop _,E4 (d:=d) W C ?_ ?_ (hkeep _ _ hG λb o _ e=>k1 b o e) (VR _ rfl) (λhz h' tk k=>h0 hz h' tk (old h' k)) (λhz v h' tk hv k=>hR hz v h' tk hv (old h' k))⟩
 ·rw[nS];simp only[VT,YE,or_false,not_or];exact⟨YF _,λz=>absurd hlt (by rw[<-z];exact YG (Wo _))⟩
 ·exact⟨⟨_,VE _ (VR _ rfl),rfl,rfl⟩,hl.at λo e=>k1 _ _ e⟩
end
section
variable{X:Cx}
def gtB(ns:List Int)(a b:Nat):Bool:=decide (ns.getD a 0>ns.getD b 0)
theorem JA(ns:List Int):∀ k j,j<=k->ns.getD j 0<=ns.getD (argBest (gtB ns) k) 0
 | 0,j,hj=>by
   have:j=0:=by omega
   subst this;exact Ye _
 | k+1,j,hj=>by
   have ih:=JA ns k;simp only[argBest];split
   ·rename_i hb;have hb:=of_decide_eq_true hb;by_cases e:j=k+1
    ·subst e;exact Ye _
    ·have:=ih j (by omega);omega
   ·rename_i hb;have hb:¬ ns.getD (k+1) 0>ns.getD (argBest (gtB ns) k) 0:=λz=>hb (decide_eq_true z);by_cases e:j=k+1
    ·subst e;omega
    ·exact ih j (by omega)
theorem Fu(bt:Nat->Nat->Bool):∀ k,argBest bt k<=k
 | 0=>VF _
 | k+1=>by
   simp only[argBest];split
   ·exact VF _
   ·exact Y7 (Fu bt k)
def Grt(ns:List Int)(m:Int):Prop:=m∈ns/\∀ n∈ns,n<=m
theorem Fv{ns:List Int}(h:0<ns.length):Grt ns (ns.getD (argBest (gtB ns) (ns.length - 1)) 0):=by
 have hb:=Fu (gtB ns) (ns.length - 1);have hlt:argBest (gtB ns) (ns.length - 1)<ns.length:=by omega
 refine⟨by rw[show ns.getD (argBest (gtB ns) (ns.length - 1)) 0=ns[argBest (gtB ns) (ns.length - 1)] by simp[W6,hlt]];exact W0 hlt,λn hn=>?_⟩;obtain⟨j,hj⟩:=WK hn;have hjl:=(gM hj).1;have:=JA ns (ns.length - 1) j (by omega);rw[show ns.getD j 0=n by simp[W6,hj]]at this;exact this
def U8:List V->List V->Hp->VK->Prop:=λxs zs H Q=>∃ l ns d,xs=[.ref l]/\zs=[.int d]/\H l=some (.lst (ns.map V.int))/\(ns=[]->Q (.int d) H)/\∀ m,Grt ns m->Q (.int m) H
theorem Cy{ns:List Int}{its:List Yg}(rv:Vals (ns.map V.int) its){i:Nat}{v:Yg}(h:its[i]?=some v):∃ n t,ns[i]?=some n/\v = .int n t:=by
 have hl:=rv.length;rw[V7]at hl;have hi:i<ns.length:=by have:=(gM h).1;omega
 have e:(ns.map V.int)[i]?=some (.int ns[i]):=by simp[hi]
 obtain⟨u,eu,ru⟩:=rv.get e;rw[h]at eu;cases eu;obtain⟨t,rfl⟩:=ru;exact⟨_,t,by simp[hi],rfl⟩
theorem Kb(hc:X.calm=true):Ho X (.builtin "max") ["default"] U8:=by
 intro pq s σ H xs zs us ws Q I r rz h;obtain⟨l,ns,d,rfl,rfl,hl,q0,q1⟩:=h;obtain⟨u,rfl,ru⟩:=AQ r;cases ru;obtain⟨z,rfl,rz'⟩:=AQ rz;obtain⟨t,rfl⟩:=rz';obtain⟨its,rv,pl,hz⟩:=I.list (SqL.of hl);have hl2:ns.length=its.length:=by have:=rv.length;rwa [V7]at this
 refine F4 (I.ok.hd hc) pl.isList (gtB ns) (λ_=>True) trivial (λ_ _ _ _=>trivial) ?_ ?_ ?_
 ·intro s' _ i j vi vj Q' E' hi hj q
  exact CmpOf.ints_gt (P:=λi v=>its.toArray[i]?=some v) (λi=>ns.getD i 0) (λi v h=>by
   obtain⟨n,t1,e1,rfl⟩:=Cy rv (show its[i]?=some v by simpa using h);exact⟨t1,by simp[W6,e1]⟩) i j vi vj s' Q' E' hi hj q
 ·intro hz' h' tk k
  have:ns=[]:=by
   cases ns with
   | nil=>rfl
   | cons p r=>rw[VC]at hz';simp at hl2;omega
  exact⟨.int d,H,I.kept (t':=tk) k,⟨t,rfl⟩,q0 this⟩
 ·intro hp v h' tk hv k;obtain⟨n,t1,e1,rfl⟩:=Cy rv (show its[argBest (gtB ns) (its.toArray.size - 1)]?=some v by simpa using hv);have hsz:its.toArray.size=ns.length:=by rw[VC];omega
  rw[hsz]at e1 hp;have g:=Fv hp;rw[show ns.getD (argBest (gtB ns) (ns.length - 1)) 0=n by simp[W6,e1]]at g;exact⟨.int n,H,I.kept (t':=tk) k,⟨t1,rfl⟩,q1 n g⟩
theorem Kc(hc:X.calm=true):CallR X (.builtin "max") (λxs H Q=>∃ l ns,xs=[.ref l]/\H l=some (.lst (ns.map V.int))/\0<ns.length/\∀ m,Grt ns m->Q (.int m) H):=by
 intro pq s σ H xs us Q I r h;obtain⟨l,ns,rfl,hl,hn,q1⟩:=h;obtain⟨u,rfl,ru⟩:=AQ r;cases ru;obtain⟨its,rv,pl,hz⟩:=I.list (SqL.of hl);have hl2:ns.length=its.length:=by have:=rv.length;rwa [V7]at this
 have hlt:l<s.heap.objs.size:=by obtain⟨o,ho,_⟩:=pl.isList;exact VJ ho
 have hne:l≠s.heap.objs.size:=VO hlt;refine call_max_walk (ZC pl.isList ⟨s.heap.objs.size,[s.heap.objs.size,l],[s.heap.objs.size],its.toArray.size,_,_,gtB ns,rfl,Walks.list (prog:=X.prog) (w:=X.w) (A:=X.A.in1) (I.ok.hd hc) s.heap.objs.size l hne its.toArray,?_,?_,?_,?_,?_⟩)
 ·exact⟨⟨_,VR _ rfl,rfl,rfl⟩,pl.isList.at λo e=>VE _ e⟩
 ·intro b hb;rcases VT.mp hb with rfl | hb
  ·show _<(s.heap.push _).objs.size;rw[W9];exact Wo _
  ·rw[VQ.mp hb];show _<(s.heap.push _).objs.size;rw[W9];exact WW hlt
 ·rw[VC];omega
 ·exact CmpOf.ints_gt (λi=>ns.getD i 0) (λi v h=>by
   obtain⟨n,t1,e1,rfl⟩:=Cy rv (show its[i]?=some v by simpa using h);exact⟨t1,by simp[W6,e1]⟩)
 ·intro v h' tk hv k;obtain⟨n,t1,e1,rfl⟩:=Cy rv (show its[argBest (gtB ns) (its.toArray.size - 1)]?=some v by simpa using hv);have hsz:its.toArray.size=ns.length:=by rw[VC];omega
  rw[hsz]at e1;have g:=Fv hn;rw[show ns.getD (argBest (gtB ns) (ns.length - 1)) 0=n by simp[W6,e1]]at g;refine⟨.int n,H,I.kept (t':=tk) (λb o e=>k b o (λz=>?_) (VE _ e)),⟨t1,rfl⟩,q1 n g⟩;rw[VQ.mp z]at e;exact Wj _ (VJ e)
theorem Op{body:List Stmt}{h₀:Zq}{hs:List Zq}{pos:Pos}{t:TS}(hx:∀ e s,¬ X.xe e s)(hb:PSs X body t):PS X (.Try body (h₀::hs) [] [] pos) t:=by
 intro pq s σ H D I hw;refine wpAny_Try_except (Z6 (hb pq s σ H D I hw) (λf s1 q=>?_) λe s1 z=>(hx e s1 z).elim);cases f with
 | next=>exact Zf q
 | _=>exact q
end
end L2
namespace Rf
open PySem L2
inductive BI where
 | len | abs | min | max | int | list | tuple | all | any | sorted | isi | str | repr
 deriving DecidableEq
def BI.name:BI->Str
 | .len=>"len" | .abs=>"abs" | .min=>"min" | .max=>"max" | .int=>"int" | .list=>"list" | .tuple=>"tuple" | .all=>"all" | .any=>"any" | .sorted=>"sorted" | .isi=>"isinstance" | .str=>"str" | .repr=>"repr"
def blS:List SV->Option (List Bool)
 | []=>some []
 | .bl b::xs=>(blS xs).map (b::·)
 | _::_=>none
def Hr:List SV->Option (List Int)
 | []=>some []
 | .int i::xs=>(Hr xs).map (i::·)
 | _::_=>none
def tyS:SV->Sto->Option TyN
 | .non,_=>some .none
 | .bl _,_=>some .bool
 | .int _,_=>some .int
 | .str _,_=>some .str
 | .tup _,_=>some .tuple
 | .loc k,S=>match S[k]? with | some (.lst _)=>some .list | _=>none
 | _,_=>none
def Fw:TyN->TyN->Bool
 | .bool,.int=>true
 | a,b=>decide (a=b)
def Kd:List SV->Option (List TyN)
 | []=>some []
 | .ty t::xs=>(Kd xs).map (t::·)
 | _::_=>none
def a0(f:Sto->QE->Prop):Sn:=λxs S Q=>match xs with | []=>f S Q | _=>False
def a1(f:S1):Sn:=λxs S Q=>match xs with | [x]=>f x S Q | _=>False
def a2(f:S2):Sn:=λxs S Q=>match xs with | [x,y]=>f x y S Q | _=>False
def oI(f:Int->Sto->QE->Prop):S1:=λx S Q=>match x with | .int i=>f i S Q | _=>False
theorem U9{f:Sto->QE->Prop}{xs:List SV}{S:Sto}{Q:QE}(h:a0 f xs S Q):xs=[]/\f S Q:=match xs,h with | [],h=>⟨rfl,h⟩
theorem DN{f:S1}{xs:List SV}{S:Sto}{Q:QE}(h:a1 f xs S Q):∃ x,xs=[x]/\f x S Q:=match xs,h with | [x],h=>⟨x,rfl,h⟩
theorem MN{f:S2}{xs:List SV}{S:Sto}{Q:QE}(h:a2 f xs S Q):∃ x y,xs=[x,y]/\f x y S Q:=match xs,h with | [x,y],h=>⟨x,y,rfl,h⟩
theorem CW{f:Int->Sto->QE->Prop}{x:SV}{S:Sto}{Q:QE}(h:oI f x S Q):∃ i,x = .int i/\f i S Q:=match x,h with | .int i,h=>⟨i,rfl,h⟩
theorem AG{f:S1}(m:Fo f):MonoN (a1 f):=λxs S P P' i h=>by
 replace h:=DN h;obtain⟨x,rfl,h⟩:=h;exact m x S P P' i h
theorem Cz{f:S2}(m:Mono2 f):MonoN (a2 f):=λxs S P P' i h=>by
 replace h:=MN h;obtain⟨x,y,rfl,h⟩:=h;exact m x y S P P' i h
theorem Oq{f:Int->Sto->QE->Prop}(m:∀ k S P P',(∀ x S',P x S'->P' x S')->f k S P->f k S P'):Fo (oI f):=λx S P P' i h=>by
 replace h:=CW h;obtain⟨k,rfl,h⟩:=h;exact m k S P P' i h
def UA:S1
 | .int i,S,Q=>Q (.int i) S
 | .bl b,S,Q=>Q (.int (if b then 1 else 0)) S
 | _,_,_=>False
theorem QO{x:SV}{S:Sto}{Q:QE}(h:UA x S Q):(∃ i,x = .int i/\Q (.int i) S)\/∃ b,x = .bl b/\Q (.int (if b then 1 else 0)) S:=match x,h with
 | .int i,h => .inl ⟨i,rfl,h⟩
 | .bl b,h => .inr ⟨b,rfl,h⟩
def UB:S2:=λx y S Q=>match y with
 | .ty t=>∃ a,t ≠ .none/\tyS x S=some a/\Q (.bl (Fw a t)) S
 | .tup ts=>∃ a bs,TyN.none∉bs/\tyS x S=some a/\Kd ts=some bs/\Q (.bl (bs.any (Fw a))) S
 | _=>False
theorem QP{x y:SV}{S:Sto}{Q:QE}(h:UB x y S Q):(∃ t a,y = .ty t/\t ≠ .none/\tyS x S=some a/\Q (.bl (Fw a t)) S)\/∃ ts a bs,y = .tup ts/\TyN.none∉bs/\tyS x S=some a/\Kd ts=some bs/\Q (.bl (bs.any (Fw a))) S:=match y,h with
 | .ty t,⟨a,h⟩ => .inl ⟨t,a,rfl,h⟩
 | .tup ts,⟨a,bs,h⟩ => .inr ⟨ts,a,bs,rfl,h⟩
def Us:S1:=λx S Q=>∃ xs,seqS x S=some xs/\Q (.int xs.length) S
def Ut:S1:=oI λi S Q=>Q (.int (if i<0 then -i else i)) S
def Uu:S2:=λx y S Q=>oI (λi S Q=>oI (λj S Q=>Q (.int (if j<i then j else i)) S) y S Q) x S Q
def Uv:S2:=λx y S Q=>oI (λi S Q=>oI (λj S Q=>Q (.int (if j>i then j else i)) S) y S Q) x S Q
def UC:S1:=λx S Q=>∃ xs,seqS x S=some xs/\Q (.loc S.length) (S++[.lst xs])
def Rx:S1:=λx S Q=>∃ xs,seqS x S=some xs/\Q (.tup xs) S
def Uw:S1:=λx S Q=>∃ xs bs,x ≠ .tup xs/\seqS x S=some xs/\blS xs=some bs/\Q (.bl (bs.all id)) S
def Ux:S1:=λx S Q=>∃ xs bs,x ≠ .tup xs/\seqS x S=some xs/\blS xs=some bs/\Q (.bl (bs.any id)) S
def Os:S1:=λx S Q=>∃ xs ns,x ≠ .tup xs/\seqS x S=some xs/\Hr xs=some ns/\ns.length<64/\Q (.loc S.length) (S++[.lst ((srt ns).map SV.int)])
def sBi:BI->Sn
 | .len=>a1 Us
 | .abs=>a1 Ut
 | .min=>a2 Uu
 | .max=>a2 Uv
 | .int=>a1 UA
 | .list=>a1 UC
 | .tuple=>a1 Rx
 | .all=>a1 Uw
 | .any=>a1 Ux
 | .sorted=>a1 Os
 | .isi=>a2 UB
 | .str=>λ_ _ _=>False
 | .repr=>λ_ _ _=>False
theorem MonoN.bi:∀{b:BI},MonoN (sBi b)
 | .len=>AG λ_ _ _ _ i ⟨a,c,d⟩=>⟨a,c,i _ _ d⟩
 | .abs=>AG (Oq λ_ _ _ _ i h=>i _ _ h)
 | .min=>Cz λx y S P P' i h=>by
   replace h:=CW h;obtain⟨k,rfl,h1⟩:=h;obtain⟨l,rfl,h2⟩:=CW h1;exact i _ _ h2
 | .max=>Cz λx y S P P' i h=>by
   replace h:=CW h;obtain⟨k,rfl,h1⟩:=h;obtain⟨l,rfl,h2⟩:=CW h1;exact i _ _ h2
 | .int=>AG λx S P P' i h=>by
   replace h:=QO h;rcases h with⟨k,rfl,h⟩ | ⟨b,rfl,h⟩
   ·exact i _ _ h
   ·exact i _ _ h
 | .list=>AG λ_ _ _ _ i ⟨a,c,d⟩=>⟨a,c,i _ _ d⟩
 | .tuple=>AG λ_ _ _ _ i ⟨a,c,d⟩=>⟨a,c,i _ _ d⟩
 | .all=>AG λ_ _ _ _ i ⟨a,b,c,d,e,f⟩=>⟨a,b,c,d,e,i _ _ f⟩
 | .any=>AG λ_ _ _ _ i ⟨a,b,c,d,e,f⟩=>⟨a,b,c,d,e,i _ _ f⟩
 | .sorted=>AG λ_ _ _ _ i ⟨a,b,c,d,e,f,g⟩=>⟨a,b,c,d,e,f,i _ _ g⟩
 | .isi=>Cz λx y S P P' i h=>by
   replace h:=QP h;rcases h with⟨t,a,rfl,h1,h2,h⟩ | ⟨ts,a,bs,rfl,h1,h2,h3,h⟩
   ·exact⟨a,h1,h2,i _ _ h⟩
   ·exact⟨a,bs,h1,h2,h3,i _ _ h⟩
 | .str=>λ_ _ _ _ _ h=>h
 | .repr=>λ_ _ _ _ _ h=>h
section
variable{K:V5}{as:List Yi}{H:Hp}{S:Sto}
theorem Hs:∀{xs:List SV} {bs:List Bool} {vs:List V},blS xs=some bs->RlAll K as H vs xs->vs=bs.map V.bl
 | [],_,_,e,r=>by cases e;exact rla_nil.mp r
 | .bl b::xs,_,_,e,r=>by
   obtain⟨v,vs,rfl,r1,r2⟩:=rla_cons.mp r;unfold blS at e;cases h:blS xs with
   | none=>rw[h]at e;cases e
   | some cs=>
     rw[h]at e;cases e;rw[rl_bl.mp r1,Hs h r2];rfl
 | .non::_,_,_,e,_=>by cases e
 | .int _::_,_,_,e,_=>by cases e
 | .str _::_,_,_,e,_=>by cases e
 | .tup _::_,_,_,e,_=>by cases e
 | .loc _::_,_,_,e,_=>by cases e
 | .ro _::_,_,_,e,_=>by cases e
 | .ty _::_,_,_,e,_=>by cases e
theorem JB:∀{xs:List SV} {bs:List Int} {vs:List V},Hr xs=some bs->RlAll K as H vs xs->vs=bs.map V.int
 | [],_,_,e,r=>by cases e;exact rla_nil.mp r
 | .int b::xs,_,_,e,r=>by
   obtain⟨v,vs,rfl,r1,r2⟩:=rla_cons.mp r;unfold Hr at e;cases h:Hr xs with
   | none=>rw[h]at e;cases e
   | some cs=>
     rw[h]at e;cases e;rw[rl_int.mp r1,JB h r2];rfl
 | .non::_,_,_,e,_=>by cases e
 | .bl _::_,_,_,e,_=>by cases e
 | .str _::_,_,_,e,_=>by cases e
 | .tup _::_,_,_,e,_=>by cases e
 | .loc _::_,_,_,e,_=>by cases e
 | .ro _::_,_,_,e,_=>by cases e
 | .ty _::_,_,_,e,_=>by cases e
theorem AL{x:SV}{v:V}{xs:List SV}(ok:Ok K as H S)(r:Rl K as H v x)(n:x ≠ .tup xs)(h:seqS x S=some xs):∃ a vs,v = .ref a/\SqL K H a vs/\RlAll K as H vs xs:=by
 cases x with
 | tup ys=>cases h;exact absurd rfl n
 | ro ys=>
   cases h;obtain⟨p,vs,rfl,hp,rr⟩:=rl_ro.mp r;exact⟨p,vs,rfl,hp.sq,rr⟩
 | loc k=>
   obtain⟨a,ea,rfl⟩:=rl_loc.mp r;unfold seqS at h;cases hs:S[k]? with
   | none=>simp only[hs]at h;cases h
   | some o=>
     cases o with
     | lst ys=>
       simp only[hs]at h;cases h;obtain⟨vs,h1,rr⟩:=ok.obj k _ a hs ea;exact⟨a,vs,rfl,SqL.of h1,rr⟩
     | iset _=>simp only[hs]at h;cases h
     | dtl _=>simp only[hs]at h;cases h
     | dtf _ _ _=>simp only[hs]at h;cases h
     | dtp _=>simp only[hs]at h;cases h
     | dct _=>simp only[hs]at h;cases h
     | dcf _ _ _=>simp only[hs]at h;cases h
 | _=>cases h
theorem Cs{vs:List V}{x:SV}(r:RlAll K as H vs [x]):∃ v,vs=[v]/\Rl K as H v x:=by
 obtain⟨v,t,rfl,r1,r2⟩:=rla_cons.mp r;rw[rla_nil.mp r2];exact⟨v,rfl,r1⟩
theorem Ht{vs:List V}{x y:SV}(r:RlAll K as H vs [x,y]):∃ v u,vs=[v,u]/\Rl K as H v x/\Rl K as H u y:=by
 obtain⟨v,t,rfl,r1,r2⟩:=rla_cons.mp r;obtain⟨u,rfl,r3⟩:=Cs r2;exact⟨v,u,rfl,r1,r3⟩
end
theorem MO{K:V5}{as:List Yi}{H:Hp}{S:Sto}{Q:VK}{x:SV}{v:V}{ys:List SV}(ok:Ok K as H S)(r1:Rl K as H v x)(h1:seqS x S=some ys)(h2:Post K as H Q (.tup ys) S):∃ p us,v = .ref p/\((SqL K H p us/\∀ l,H l=none->Q (.ref l) (upd H l (.tup us)))\/(SqT K H p us/\Q (.ref p) H)):=by
 cases x with
 | tup zs=>
   cases h1;obtain⟨p,us,rfl,hp,rr⟩:=rl_tup.mp r1;exact⟨p,us,rfl,.inr ⟨SqT.of hp,h2.here ok r1⟩⟩
 | loc k=>
   obtain⟨a,us,rfl,hq,rr⟩:=AL ok r1 (by intro z;cases z) h1;exact⟨a,us,rfl,.inl ⟨hq,C8 ok rr h2⟩⟩
 | ro k=>
   obtain⟨a,us,rfl,hq,rr⟩:=AL ok r1 (by intro z;cases z) h1;exact⟨a,us,rfl,.inl ⟨hq,C8 ok rr h2⟩⟩
 | _=>cases h1
section
variable{K:V5}{as:List Yi}{H:Hp}{S:Sto}
theorem QQ{x:SV}{v:V}{a:TyN}(ok:Ok K as H S)(r:Rl K as H v x)(h:tyS x S=some a):TyOf K H v (.type a.nm):=by
 cases x with
 | non=>cases h;rw[rl_non.mp r];exact .non
 | bl b=>cases h;rw[rl_bl.mp r];exact .bl b
 | int b=>cases h;rw[rl_int.mp r];exact .int b
 | str b=>cases h;rw[rl_str.mp r];exact .str b
 | tup xs=>cases h;obtain⟨p,vs,rfl,hp,_⟩:=rl_tup.mp r;exact .tup hp
 | loc k=>
   obtain⟨b,eb,rfl⟩:=rl_loc.mp r;unfold tyS at h;cases hs:S[k]? with
   | none=>simp only[hs]at h;cases h
   | some o=>
     cases o with
     | lst ys=>
       simp only[hs]at h;cases h;obtain⟨vs,h1,_⟩:=ok.obj k _ b hs eb;exact .lst h1
     | iset _=>simp only[hs]at h;cases h
     | dtl _=>simp only[hs]at h;cases h
     | dtf _ _ _=>simp only[hs]at h;cases h
     | dtp _=>simp only[hs]at h;cases h
     | dct _=>simp only[hs]at h;cases h
     | dcf _ _ _=>simp only[hs]at h;cases h
 | _=>cases h
noncomputable def ktn(t c:String):Option Bool:=if (Value.type t == Value.type c)=true then some true else if PySem.W.kitMeta c=true then (fastBuiltinMro t).map (·.contains (.type c)) else none
theorem JC{K:V5}(a:TyN)(t:TyN)(ht:t ≠ .none):PySem.W.kitOne K (.type a.nm) (.type t.nm)=some (Fw a t):=by
 have e:PySem.W.kitOne K (.type a.nm) (.type t.nm)=ktn a.nm t.nm:=rfl;rw[e];cases a<;>cases t<;>first | exact absurd rfl ht | decide +kernel
theorem JD{K:V5}(a:TyN):∀(bs:List TyN),TyN.none∉bs->PySem.W.kitAny K (.type a.nm) ((bs.map TyN.nm).map Value.type)=some (bs.any (Fw a))
 | [],_=>rfl
 | b::bs,h=>by
   rw[Vh,Vh,PySem.W.kitAny,JC a b (λz=>h (by rw[z];simp)),W8];cases Fw a b with
   | true=>rfl
   | false=>exact JD a bs (λz=>h (VI _ z))
theorem MP:∀{xs:List SV} {bs:List TyN} {vs:List V},Kd xs=some bs->RlAll K as H vs xs->vs=(bs.map TyN.nm).map V.ty
 | [],_,_,e,r=>by cases e;exact rla_nil.mp r
 | .ty b::xs,_,_,e,r=>by
   obtain⟨v,vs,rfl,r1,r2⟩:=rla_cons.mp r;unfold Kd at e;cases h:Kd xs with
   | none=>rw[h]at e;cases e
   | some cs=>
     rw[h]at e;cases e;rw[rl_ty.mp r1,MP h r2];rfl
 | .non::_,_,_,e,_=>by cases e
 | .bl _::_,_,_,e,_=>by cases e
 | .str _::_,_,_,e,_=>by cases e
 | .tup _::_,_,_,e,_=>by cases e
 | .loc _::_,_,_,e,_=>by cases e
 | .ro _::_,_,_,e,_=>by cases e
 | .int _::_,_,_,e,_=>by cases e
end
noncomputable def rBi(K:V5):BI->List V->Hp->VK->Prop
 | .len=>λxs H Q=>∃ p ys,xs=[.ref p]/\(SqL K H p ys\/SqT K H p ys)/\Q (.int ys.length) H
 | .abs=>λxs H Q=>∃ i,xs=[.int i]/\Q (.int (if i<0 then -i else i)) H
 | .min=>λxs H Q=>∃ i j,xs=[.int i,.int j]/\Q (.int (if j<i then j else i)) H
 | .max=>λxs H Q=>∃ i j,xs=[.int i,.int j]/\Q (.int (if j>i then j else i)) H
 | .int=>λxs H Q=>(∃ i,xs=[.int i]/\Q (.int i) H)\/∃ k,xs=[.bl k]/\Q (.int (if k then 1 else 0)) H
 | .list=>λxs H Q=>∃ p ys,xs=[.ref p]/\(SqL K H p ys\/SqT K H p ys)/\∀ l,H l=none->Q (.ref l) (upd H l (.lst ys))
 | .tuple=>λxs H Q=>∃ p ys,xs=[.ref p]/\((SqL K H p ys/\∀ l,H l=none->Q (.ref l) (upd H l (.tup ys)))\/(SqT K H p ys/\Q (.ref p) H))
 | .all=>λxs H Q=>∃(a:Yi) (bs:List Bool),xs=[.ref a]/\SqL K H a (bs.map V.bl)/\Q (.bl (bs.all id)) H
 | .any=>λxs H Q=>∃(a:Yi) (bs:List Bool),xs=[.ref a]/\SqL K H a (bs.map V.bl)/\Q (.bl (bs.any id)) H
 | .sorted=>λxs H Q=>∃ p ns,xs=[.ref p]/\SqL K H p (ns.map V.int)/\ns.length<64/\∀ l,H l=none->Q (.ref l) (upd H l (.lst ((srt ns).map V.int)))
 | .isi=>λxs H Q=>(∃ x T t b,xs=[x,.ty T]/\TyOf K H x t/\PySem.W.kitOne K t (.type T)=some b/\Q (.bl b) H)\/(∃(x:V) (p:Yi) (Ts:List String) (t:Yg) (b:Bool),xs=[x,.ref p]/\H p=some (.tup (Ts.map V.ty))/\TyOf K H x t/\PySem.W.kitAny K t (Ts.map Value.type)=some b/\Q (.bl b) H)
 | .str=>λ_ _ _=>False
 | .repr=>λ_ _ _=>False
theorem Ry{K:V5}:∀{b:BI},U3 K (sBi b) (rBi K b)
 | .len=>λas H S xs vs Q ok r h=>by
   replace h:=DN h;obtain⟨x,rfl,ys,h1,h2⟩:=h;obtain⟨v,rfl,r1⟩:=Cs r;obtain⟨a,us,rfl,hq,rr⟩:=Ew ok r1 h1;exact⟨a,us,rfl,hq,by rw[rr.length];exact h2.here ok (rl_int.mpr rfl)⟩
 | .abs=>λas H S xs vs Q ok r h=>by
   replace h:=DN h;obtain⟨x,rfl,h⟩:=h;replace h:=CW h;obtain⟨i,rfl,h⟩:=h;obtain⟨v,rfl,r1⟩:=Cs r;exact⟨_,by rw[rl_int.mp r1],Post.here h ok (rl_int.mpr rfl)⟩
 | .min=>λas H S xs vs Q ok r h=>by
   replace h:=MN h;obtain⟨x,y,rfl,h⟩:=h;replace h:=CW h;obtain⟨i,rfl,h⟩:=h;replace h:=CW h;obtain⟨j,rfl,h⟩:=h;obtain⟨v,u,rfl,r1,r2⟩:=Ht r;exact⟨_,_,by rw[rl_int.mp r1,rl_int.mp r2],Post.here h ok (rl_int.mpr rfl)⟩
 | .max=>λas H S xs vs Q ok r h=>by
   replace h:=MN h;obtain⟨x,y,rfl,h⟩:=h;replace h:=CW h;obtain⟨i,rfl,h⟩:=h;replace h:=CW h;obtain⟨j,rfl,h⟩:=h;obtain⟨v,u,rfl,r1,r2⟩:=Ht r;exact⟨_,_,by rw[rl_int.mp r1,rl_int.mp r2],Post.here h ok (rl_int.mpr rfl)⟩
 | .int=>λas H S xs vs Q ok r h=>by
   replace h:=DN h;obtain⟨x,rfl,h⟩:=h;obtain⟨v,rfl,r1⟩:=Cs r;replace h:=QO h;rcases h with⟨k,rfl,h⟩ | ⟨b,rfl,h⟩
   ·exact .inl ⟨_,by rw[rl_int.mp r1],Post.here h ok (rl_int.mpr rfl)⟩
   ·exact .inr ⟨_,by rw[rl_bl.mp r1],Post.here h ok (rl_int.mpr rfl)⟩
 | .list=>λas H S xs vs Q ok r h=>by
   replace h:=DN h;obtain⟨x,rfl,ys,h1,h2⟩:=h;obtain⟨v,rfl,r1⟩:=Cs r;obtain⟨a,us,rfl,hq,rr⟩:=Ew ok r1 h1;exact⟨a,us,rfl,hq,AS ok rr h2⟩
 | .tuple=>λas H S xs vs Q ok r h=>by
   replace h:=DN h;obtain⟨x,rfl,ys,h1,h2⟩:=h;obtain⟨v,rfl,r1⟩:=Cs r;obtain⟨p,us,rfl,z⟩:=MO ok r1 h1 h2;exact⟨p,us,rfl,z⟩
 | .all=>λas H S xs vs Q ok r h=>by
   replace h:=DN h;obtain⟨x,rfl,ys,bs,h0,h1,h2,h3⟩:=h;obtain⟨v,rfl,r1⟩:=Cs r;obtain⟨a,us,rfl,hq,rr⟩:=AL ok r1 h0 h1;rw[Hs h2 rr]at hq;exact⟨a,bs,rfl,hq,h3.here ok (rl_bl.mpr rfl)⟩
 | .any=>λas H S xs vs Q ok r h=>by
   replace h:=DN h;obtain⟨x,rfl,ys,bs,h0,h1,h2,h3⟩:=h;obtain⟨v,rfl,r1⟩:=Cs r;obtain⟨a,us,rfl,hq,rr⟩:=AL ok r1 h0 h1;rw[Hs h2 rr]at hq;exact⟨a,bs,rfl,hq,h3.here ok (rl_bl.mpr rfl)⟩
 | .sorted=>λas H S xs vs Q ok r h=>by
   replace h:=DN h;obtain⟨x,rfl,ys,ns,h0,h1,h2,h3,h4⟩:=h;obtain⟨v,rfl,r1⟩:=Cs r;obtain⟨a,us,rfl,hq,rr⟩:=AL ok r1 h0 h1;rw[JB h2 rr]at hq;exact⟨a,ns,rfl,hq,h3,AS ok RlAll.ints h4⟩
 | .isi=>λas H S xs vs Q ok r h=>by
   replace h:=MN h;obtain⟨x,y,rfl,h⟩:=h;obtain⟨v,u,rfl,r1,r2⟩:=Ht r;replace h:=QP h;rcases h with⟨t,a,rfl,h0,h1,h2⟩ | ⟨ts,a,bs,rfl,h0,h1,h2,h3⟩
   ·rw[rl_ty.mp r2];exact .inl ⟨v,_,_,_,rfl,QQ ok r1 h1,JC _ _ h0,h2.here ok (rl_bl.mpr rfl)⟩
   ·obtain⟨p,vs,rfl,hp,rr⟩:=rl_tup.mp r2;rw[MP h2 rr]at hp;exact .inr ⟨v,p,_,_,_,rfl,hp,QQ ok r1 h1,JD _ _ h0,h3.here ok (rl_bl.mpr rfl)⟩
 | .str=>λ_ _ _ _ _ _ _ _ h=>False.elim h
 | .repr=>λ_ _ _ _ _ _ _ _ h=>False.elim h
theorem F5{K:V5}{as:List Yi}{H:Hp}:∀{ns:List Int} {vs:List V},RlAll K as H vs (ns.map SV.int)->vs=ns.map V.int
 | [],vs,h=>rla_nil.mp h
 | n::ns,vs,h=>by
   obtain⟨v,r,rfl,h1,h2⟩:=rla_cons.mp h;rw[rl_int.mp h1,F5 h2];rfl
inductive MT where
 | append | extend | pop | insert | reverse
 deriving DecidableEq
def MT.name:MT->Str
 | .append=>"append" | .extend=>"extend" | .pop=>"pop" | .insert=>"insert" | .reverse=>"reverse"
def oL(f:Nat->Sto->QE->Prop):S1:=λx S Q=>match x with | .loc k=>f k S Q | _=>False
theorem Ct{f:Nat->Sto->QE->Prop}{x:SV}{S:Sto}{Q:QE}(h:oL f x S Q):∃ k,x = .loc k/\f k S Q:=match x,h with | .loc k,h=>⟨k,rfl,h⟩
def QR:Nat->Sto->QE->Prop:=λk S Q=>∃ xs y,S[k]?=some (.lst xs)/\xs[xs.length - 1]?=some y/\Q y (S.set k (.lst xs.dropLast))
def QS(k:Nat):Int->Sto->QE->Prop:=λi S Q=>∃ xs y,S[k]?=some (.lst xs)/\(0<=i/\i<xs.length)/\xs.length<=big/\xs[i.toNat]?=some y/\Q y (S.set k (.lst (xs.eraseIdx i.toNat)))
def QT(y:SV):Nat->Sto->QE->Prop:=λk S Q=>oI (QS k) y S Q
def UD(x:SV):Sn:=λxs S Q=>match xs with
 | []=>oL QR x S Q
 | [y]=>oL (QT y) x S Q
 | _=>False
def Ot(x:SV):S1:=λy S Q=>oL (λk S Q=>∃ xs,S[k]?=some (.lst xs)/\xs.length<big/\Q .non (S.set k (.lst (xs++[y])))) x S Q
def Ou(x:SV):S1:=λy S Q=>oL (λk S Q=>oL (λl S Q=>∃ xs ys,S[k]?=some (.lst xs)/\S[l]?=some (.lst ys)/\xs.length+ys.length<=big/\Q .non (S.set k (.lst (xs++ys)))) y S Q) x S Q
def Ov(x:SV):S2:=λz y S Q=>oL (λk S Q=>oI (λi S Q=>∃ xs,S[k]?=some (.lst xs)/\(0<=i/\i<=xs.length)/\xs.length<big/\Q .non (S.set k (.lst (xs.take i.toNat++y::xs.drop i.toNat)))) z S Q) x S Q
def MQ(x:SV):Sto->QE->Prop:=λS Q=>oL (λk S Q=>∃ xs,S[k]?=some (.lst xs)/\Q .non (S.set k (.lst xs.reverse))) x S Q
def sMt:MT->SV->Sn
 | .append,x=>a1 (Ot x)
 | .extend,x=>a1 (Ou x)
 | .pop,x=>UD x
 | .insert,x=>a2 (Ov x)
 | .reverse,x=>a0 (MQ x)
theorem QU{x:SV}{xs:List SV}{S:Sto}{Q:QE}(h:UD x xs S Q):∃ k,x = .loc k/\((xs=[]/\∃ xs y,S[k]?=some (.lst xs)/\xs[xs.length - 1]?=some y/\Q y (S.set k (.lst xs.dropLast)))\/
 ∃ i,xs=[.int i]/\∃ xs y,S[k]?=some (.lst xs)/\(0<=i/\i<xs.length)/\xs.length<=big/\xs[i.toNat]?=some y/\Q y (S.set k (.lst (xs.eraseIdx i.toNat)))):=match xs,h with
 | [],h=>by
   have h:oL QR x S Q:=h;obtain⟨k,e,h⟩:=Ct h;exact⟨k,e,.inl ⟨rfl,h⟩⟩
 | [y],h=>by
   have h:oL (QT y) x S Q:=h;obtain⟨k,e,h⟩:=Ct h;have h:oI (QS k) y S Q:=h;obtain⟨i,e2,h⟩:=CW h;exact⟨k,e,.inr ⟨i,by rw[e2],h⟩⟩
theorem F6:∀{m:MT} {x:SV},MonoN (sMt m x)
 | .append,x=>AG λy S P P' i h=>by
   replace h:=Ct h;obtain⟨k,rfl,a,c,d,e⟩:=h;exact⟨a,c,d,i _ _ e⟩
 | .extend,x=>AG λy S P P' i h=>by
   replace h:=Ct h;obtain⟨k,rfl,h⟩:=h;replace h:=Ct h;obtain⟨l,rfl,a,c,d,e,f,g⟩:=h;exact⟨a,c,d,e,f,i _ _ g⟩
 | .pop,x=>λxs S P P' i h=>by
   replace h:=QU h;obtain⟨k,rfl,h⟩:=h;rcases h with⟨rfl,a,c,d,e,f⟩ | ⟨j,rfl,a,c,d,e,f,g,h⟩
   ·exact⟨a,c,d,e,i _ _ f⟩
   ·exact⟨a,c,d,e,f,g,i _ _ h⟩
 | .insert,x=>Cz λz y S P P' i h=>by
   replace h:=Ct h;obtain⟨k,rfl,h⟩:=h;replace h:=CW h;obtain⟨j,rfl,a,c,d,e,f⟩:=h;exact⟨a,c,d,e,i _ _ f⟩
 | .reverse,x=>λxs S P P' i h=>by
   replace h:=U9 h;obtain⟨rfl,h⟩:=h;replace h:=Ct h;obtain⟨k,rfl,a,c,d⟩:=h;exact⟨a,c,i _ _ d⟩
def rMt:MT->V->List V->Hp->VK->Prop
 | .append=>J3
 | .extend=>J4
 | .pop=>λx vs H Q=>Tq x vs H Q\/Lw x vs H Q
 | .insert=>J5
 | .reverse=>Ff
section
variable{K:V5}{as:List Yi}{H:Hp}{S:Sto}
theorem RlAll.erase:∀{xs:List SV} {vs:List V} (n:Nat),RlAll K as H vs xs->RlAll K as H (vs.eraseIdx n) (xs.eraseIdx n)
 | [],_,n,h=>by rw[rla_nil.mp h];exact .nil
 | x::xs,_,0,h=>by
   obtain⟨v,r,rfl,a,t⟩:=rla_cons.mp h;exact t
 | x::xs,_,n+1,h=>by
   obtain⟨v,r,rfl,a,t⟩:=rla_cons.mp h;exact .cons a (t.erase n)
theorem RlAll.dropLast{xs:List SV}{vs:List V}(h:RlAll K as H vs xs):RlAll K as H vs.dropLast xs.dropLast:=by
 rw[Xr,Xr,h.length];exact h.take _
theorem AB{Q:VK}{k:Nat}{a:Yi}{xs ys:List SV}{us:List V}{x:SV}{v:V}(ok:Ok K as H S)(e:S[k]?=some (.lst xs))(ea:as[k]?=some a)(r:RlAll K as H us ys)(h:Post K as H Q x (S.set k (.lst ys)))(rx:Rl K as H v x):Q v (upd H a (.lst us)):=by
 obtain⟨ok',ku⟩:=ok.write e ea r;exact h as _ v (Go.write (V9 ea)) ok' (Rl.mono (Vk _) ku x v rx)
theorem MR:∀{m:MT} {Q:VK} {x:SV} {v:V} {xs:List SV} {vs:List V} (ok:Ok K as H S) (rx:Rl K as H v x) (r:RlAll K as H vs xs) (h:sMt m x xs S (Post K as H Q)),rMt m v vs H Q
 | .append,Q,x,v,xs,vs,ok,rx,r,h=>by
   replace h:=DN h;obtain⟨y,rfl,h⟩:=h;replace h:=Ct h;obtain⟨k,rfl,ys,h1,h2,h3⟩:=h;obtain⟨a,us,rfl,ea,ha,ra⟩:=p9 ok rx h1;obtain⟨u,rfl,ru⟩:=Cs r;exact⟨a,us,u,rfl,rfl,ha,by rw[ra.length];exact Eu h2,AB ok h1 ea (ra.append (.cons ru .nil)) h3 (rl_non.mpr rfl)⟩
 | .extend,Q,x,v,xs,vs,ok,rx,r,h=>by
   replace h:=DN h;obtain⟨y,rfl,h⟩:=h;replace h:=Ct h;obtain⟨k,rfl,h⟩:=h;replace h:=Ct h;obtain⟨l,rfl,ys,zs,h1,h2,h3,h4⟩:=h;obtain⟨a,us,rfl,ea,ha,ra⟩:=p9 ok rx h1;obtain⟨u,rfl,ru⟩:=Cs r;obtain⟨b,ws,rfl,eb,hb,rb⟩:=p9 ok ru h2;exact⟨a,b,us,ws,rfl,rfl,ha,hb,by rw[ra.length,rb.length];exact AR h3,AB ok h1 ea (ra.append rb) h4 (rl_non.mpr rfl)⟩
 | .pop,Q,x,v,xs,vs,ok,rx,r,h=>by
   replace h:=QU h;obtain⟨k,rfl,h⟩:=h;rcases h with⟨rfl,ys,y,h1,h2,h3⟩ | ⟨i,rfl,ys,y,h1,h2,h3,h4,h5⟩
   ·obtain⟨a,us,rfl,ea,ha,ra⟩:=p9 ok rx h1;obtain⟨z,hz,rz⟩:=ra.get h2;rw[rla_nil.mp r];exact .inl ⟨a,us,z,rfl,rfl,ha,by rw[ra.length];exact hz,AB ok h1 ea ra.dropLast h3 rz⟩
   ·obtain⟨a,us,rfl,ea,ha,ra⟩:=p9 ok rx h1;obtain⟨u,rfl,ru⟩:=Cs r;obtain⟨z,hz,rz⟩:=ra.get h4;rw[rl_int.mp ru];have hb:big=100000:=rfl;refine .inr ⟨a,us,i,i.toNat,z,rfl,rfl,ha,by omega,by omega,?_,hz,AB ok h1 ea (ra.erase _) h5 rz⟩;rw[ra.length];exact PySem.seqIndex_of h2.1 h2.2
 | .insert,Q,x,v,xs,vs,ok,rx,r,h=>by
   replace h:=MN h;obtain⟨z,y,rfl,h⟩:=h;replace h:=Ct h;obtain⟨k,rfl,h⟩:=h;replace h:=CW h;obtain⟨i,rfl,ys,h1,h2,h3,h4⟩:=h;obtain⟨a,us,rfl,ea,ha,ra⟩:=p9 ok rx h1;obtain⟨u,w,rfl,ru,rw'⟩:=Ht r;rw[rl_int.mp ru];exact⟨a,us,i,w,rfl,rfl,ha,h2.1,by rw[ra.length];exact h2.2,by rw[ra.length];exact Eu h3,AB ok h1 ea (ra.ins rw' _) h4 (rl_non.mpr rfl)⟩
 | .reverse,Q,x,v,xs,vs,ok,rx,r,h=>by
   replace h:=U9 h;obtain⟨rfl,h⟩:=h;replace h:=Ct h;obtain⟨k,rfl,ys,h1,h2⟩:=h;obtain⟨a,us,rfl,ea,ha,ra⟩:=p9 ok rx h1;rw[rla_nil.mp r];exact⟨a,us,rfl,rfl,ha,AB ok h1 ea ra.rev h2 (rl_non.mpr rfl)⟩
end
mutual
inductive Tg where
 | nm (i:Nat) | tup (ts:Tgs)
inductive Tgs where
 | nil | cons (t:Tg) (ts:Tgs)
end
mutual
inductive Ex where
 | var (i:Nat) | c (x:SV) | op (o:ZK) (a b:Ex) | neg (a:Ex) | cmp (o:CmpOp) (a b:Ex) | chn (o p:CmpOp) (a b c:Ex)
 | and (a b:Ex) | or (a b:Ex) | not (a:Ex) | ife (t a b:Ex) | tup (es:Exs) | lst (es:Exs) | ix (a b:Ex) | slc (a:Ex) (lo hi:Eo)
 | call (f:Nat) (es:Exs) | bi (b:BI) (es:Exs) | mt (m:MT) (a:Ex) (es:Exs) | comp (own cn:List Str) (js:List Nat) (g:Tg) (it:Itb) (t:Eo) (e:Ex) | tyc (t:TyN) | max1 (a:Ex) | sum2 (a:Ex) | maxd (a d:Ex) | dnewl | dget2l (d e v:Ex) | dvalsl (a:Ex) | setdi (d e v:Ex) | mind (a d:Ex) | dnewp | setd (d e v:Ex) | eqp (a b:Ex) | dnew | dget (a b:Ex) | no
inductive Exs where
 | nil | cons (e:Ex) (es:Exs)
inductive Eo where
 | no | yes (e:Ex)
inductive Itb where
 | seq (e:Ex) | rng1 (a:Ex) | rng2 (a b:Ex) | enum (e:Ex)
end
inductive Stm where
 | asg (t:Tg) (e:Ex) | par (i j:Nat) (a b:Ex) | put (o i e:Ex) | augS (o i e:Ex) | dputl (o i e:Ex) | put2 (o i p j e:Ex) | expr (e:Ex) | iff (t:Ex) (a b:List Stm) | loop (g:Tg) (it:Itb) (b:List Stm) | whl (t:Ex) (b:List Stm) | tri (b:List Stm)
 | ret (e:Ex) | no
def sOp:ZK->S2
 | .Add=>MG
 | .Sub=>C9 λi j => .int (i - j)
 | .Mult=>MH
 | .FloorDiv=>Hm TZ λi j => .int (i / j)
 | .Mod=>Hm (λ_ j=>0<j) λi j => .int (i % j)
 | .Pow=>Hm Ta λi j => .int (i ^ j.toNat)
 | _=>λ_ _ _ _=>False
def At:CmpOp->S2
 | .Eq=>sEq
 | .NotEq=>sNe
 | .Lt=>C9 λi j => .bl (decide (i<j))
 | .LtE=>C9 λi j => .bl (decide (i<=j))
 | .Gt=>C9 λi j => .bl (decide (j<i))
 | .GtE=>C9 λi j => .bl (decide (j<=i))
 | .In=>sIn false
 | .NotIn=>sIn true
 | .Is=>MI false
 | .IsNot=>MI true
def MS:S1
 | .int i,S,Q=>Q (.int (-i)) S
 | _,_,_=>False
def MU:SV->Sto->Option Bool
 | .bl b,_=>some b
 | .tup xs,_=>some (!xs.isEmpty)
 | .loc k,S=>match S[k]? with | some (.lst xs)=>some (!xs.isEmpty) | _=>none
 | _,_=>none
def Rz(w:WE):WT:=λρ S Q=>w ρ S λx S'=>∃ b,MU x S'=some b/\Q b S'
def MV(a b:WE):WE:=λρ S Q=>a ρ S λx S1=>∃ c,x = .bl c/\if c=true then b ρ S1 Q else Q (.bl false) S1
def wOr(a b:WE):WE:=λρ S Q=>a ρ S λx S1=>∃ c,x = .bl c/\if c=true then Q (.bl true) S1 else b ρ S1 Q
def Ow(a:WE):WE:=λρ S Q=>a ρ S λx S1=>∃ c,x = .bl c/\Q (.bl (!c)) S1
def DO(a b:WT):WT:=λρ S Q=>a ρ S λc S1=>if c=true then b ρ S1 Q else Q false S1
def Hu(a b:WT):WT:=λρ S Q=>a ρ S λc S1=>if c=true then Q true S1 else b ρ S1 Q
def JE(a:WT):WT:=λρ S Q=>a ρ S λc S1=>Q (!c) S1
def Ox(t:WT)(a b:WE):WE:=λρ S Q=>t ρ S λc S1=>if c=true then a ρ S1 Q else b ρ S1 Q
def MW(s s':S2)(a b c:WE):WE:=λρ S Q=>a ρ S λx S1=>b ρ S1 λy S2=>s x y S2 λz S3=>∃ k,z = .bl k/\if k=true then c ρ S3 λu S4=>s' y u S4 Q else Q (.bl false) S3
abbrev WO:=EnvS->Sto->(Option Int->Sto->Prop)->Prop
def SA:WO:=λ_ S Q=>Q none S
def MX(w:WE):WO:=λρ S Q=>w ρ S λx S1=>∃ i,x = .int i/\Q (some i) S1
def F7(xs:List SV)(lo hi:Option Int):List SV:=(xs.drop (HT.sIx xs.length 0 lo)).take (HT.sIx xs.length xs.length hi - HT.sIx xs.length 0 lo)
def MY:SV->Option Int->Option Int->Sto->QE->Prop
 | .loc k,lo,hi,S,Q=>∃ xs,S[k]?=some (.lst xs)/\Q (.loc S.length) (S++[.lst (F7 xs lo hi)])
 | .tup xs,lo,hi,S,Q=>Q (.tup (F7 xs lo hi)) S
 | _,_,_,_,_=>False
def SB(a:WE)(lo hi:WO):WE:=λρ S Q=>a ρ S λx S1=>lo ρ S1 λl S2=>hi ρ S2 λh S3=>MY x l h S3 Q
abbrev WI:=EnvS->Sto->((Sto->Prop)->List SV->Sto->Prop)->Prop
def keepS:SV->Sto->Sto->Prop
 | .loc k,S,S'=>S'[k]?=S[k]?
 | _,_,_=>True
def QV(w:WE):WI:=λρ S R=>w ρ S λx S1=>∃ xs,seqS x S1=some xs/\R (keepS x S1) xs S1
def CY(lo hi:Int):List SV:=(VD (hi - lo).toNat).map λ(i:Nat) => .int (lo+i)
def MZ(w:WE):WI:=λρ S R=>w ρ S λx S1=>∃ j,x = .int j/\(-(2 ^ 62)<=j/\j<2 ^ 62)/\R (λ_=>True) (CY 0 j) S1
def Ma(w u:WE):WI:=λρ S R=>w ρ S λx S1=>u ρ S1 λy S2=>∃ i j,x = .int i/\y = .int j/\(-(2 ^ 62)<=i/\i<2 ^ 62 /\ -(2 ^ 62)<=j/\j<2 ^ 62)/\R (λ_=>True) (CY i j) S2
def BP(xs:List SV):List SV:=(VD xs.length).zipWith (λ(i:Nat) x => .tup [.int i,x]) xs
def Mb(w:WE):WI:=λρ S R=>w ρ S λx S1=>∃ xs,seqS x S1=some xs/\R (keepS x S1) (BP xs) S1
def Mc(a:WE):WE:=λρ S Q=>a ρ S λx S1=>∃ i j,x = .tup [.int i,.int j]/\Q (.int (i+j)) S1
def Md(a:WE):WE:=λρ S Q=>a ρ S λx S1=>∃ k ns,x = .loc k/\S1[k]?=some (.lst (ns.map SV.int))/\0<ns.length/\∀ m,Grt ns m->Q (.int m) S1
def Me(a d:WE):WE:=λρ S Q=>a ρ S λx S1=>d ρ S1 λy S2=>∃ k ps,x = .loc k/\y = .non/\S2[k]?=some (.lst (ps.map λp:Int×Int=>SV.tup [.int p.1,.int p.2]))/\(ps=[]->Q .non S2)/\∀ p∈ps,Q (.tup [.int p.1,.int p.2]) S2
def dpv(kvs:List ((Int×Int)×Int))(k:Int×Int):Option Int:=(kvs.find? λp=>decide (p.1=k)).map (·.2)
def Mf(d e v:WE):WE:=λρ S Q=>d ρ S λx S1=>∃ k kv0,x = .loc k/\S1[k]?=some (.dtp kv0)/\e ρ S1 λy S2=>v ρ S2 λz S3=>∃ i j m kvs,y = .tup [.int i,.int j]/\z = .int m/\S3[k]?=some (.dtp kvs)/\kvs.length<big/\
 (∀ n,dpv kvs (i,j)=some n->Q (.int n) S3)/\(dpv kvs (i,j)=none->Q (.int m) (S3.set k (.dtp (kvs++[((i,j),m)]))))
def DP(kvs:List (List Int×SV))(k:List Int):Option SV:=(kvs.find? λp=>decide (p.1=k)).map (·.2)
def F8(d e v:WE):WE:=λρ S Q=>d ρ S λx S1=>∃ k kv0,x = .loc k/\S1[k]?=some (.dtl kv0)/\e ρ S1 λy S2=>v ρ S2 λz S3=>∃(ks:List Int) (kvs:List (List Int×SV)),y = .tup (ks.map SV.int)/\S3[k]?=some (.dtl kvs)/\Q ((DP kvs ks).getD z) S3
def F9(a:WE):WE:=λρ S Q=>a ρ S λx S1=>∃ k kvs,x = .loc k/\S1[k]?=some (.dtl kvs)/\Q (.loc S1.length) (S1++[.lst (kvs.map (·.2))])
def ES(kvs:List (List Int×SV))(k:List Int)(x:SV):List (List Int×SV):=if (kvs.any λp=>decide (p.1=k))=true then kvs.map (λp=>if p.1=k then (p.1,x) else p) else kvs++[(k,x)]
def JF:SV->SV->SV->Sto->(Sto->Prop)->Prop:=λx y v S Q=>∃(k:Nat) (ks:List Int) (kvs:List (List Int×SV)),x = .loc k/\y = .tup (ks.map SV.int)/\S[k]?=some (.dtl kvs)/\kvs.length<big/\Q (S.set k (.dtl (ES kvs ks v)))
def Mg(a d:WE):WE:=λρ S Q=>a ρ S λx S1=>d ρ S1 λy S2=>∃ k ns i,x = .loc k/\y = .int i/\S2[k]?=some (.lst (ns.map SV.int))/\(ns=[]->Q (.int i) S2)/\∀ m,Grt ns m->Q (.int m) S2
def CZ(kvs:List (Int×SV))(i:Int):Option SV:=(kvs.find? λp=>decide (p.1=i)).map (·.2)
def QW(kvs:List (Int×SV))(i:Int)(x:SV):List (Int×SV):=if (kvs.any λp=>decide (p.1=i))=true then kvs.map (λp=>if p.1=i then (p.1,x) else p) else kvs++[(i,x)]
def Oy:SV->Sto->Option (List (Int×SV))
 | .loc k,S=>match S[k]? with | some (.dct kvs)=>some kvs | some (.dcf _ _ kvs)=>some kvs | _=>none
 | _,_=>none
def Hw(d e v:WE):WE:=λρ S Q=>d ρ S λx S1=>∃ k kv0,x = .loc k/\S1[k]?=some (.dct kv0)/\e ρ S1 λy S2=>v ρ S2 λz S3=>∃(i:Int) (kvs:List (Int×SV)),y = .int i/\S3[k]?=some (.dct kvs)/\kvs.length<big/\
 (∀ n,CZ kvs i=some n->Q n S3)/\(CZ kvs i=none->Q z (S3.set k (.dct (kvs++[(i,z)]))))
def JG:S2:=λx y S Q=>∃ kvs i v,Oy x S=some kvs/\y = .int i/\CZ kvs i=some v/\Q v S
def Mh:S2:=λx y S Q=>∃ i j k l:Int,x = .tup [.int i,.int j]/\y = .tup [.int k,.int l]/\Q (.bl (decide (i=k/\j=l))) S
def Hx:WE:=λ_ S Q=>Q (.loc S.length) (S++[.dtp []])
def Hy:WE:=λ_ S Q=>Q (.loc S.length) (S++[.dtl []])
def Mi:WE:=λ_ S Q=>Q (.loc S.length) (S++[.dct []])
def wMt(m:MT)(a:WE)(b:WA):WE:=λρ S Q=>a ρ S λx S1=>(∃ k xs,x = .loc k/\S1[k]?=some (.lst xs))/\b ρ S1 λxs S2=>sMt m x xs S2 Q
mutual
noncomputable def wTg:Tg->SV->EnvS->(EnvS->Prop)->Prop
 | .nm i,x,ρ,Q=>Q (ρ.set i (some x))
 | .tup ts,.tup xs,ρ,Q=>Ad ts xs ρ Q
 | .tup _,_,_,_=>False
noncomputable def Ad:Tgs->List SV->EnvS->(EnvS->Prop)->Prop
 | .nil,[],ρ,Q=>Q ρ
 | .cons t ts,x::xs,ρ,Q=>wTg t x ρ λρ'=>Ad ts xs ρ' Q
 | _,_,_,_=>False
end
def Fx(k:Nat)(js:List Nat)(ρ:EnvS):EnvS:=VL k none++js.map λj=>(ρ[j]?).join
noncomputable def v4(keep:Sto->Prop)(g:Tg)(t:WT)(e:WE)(ρ:EnvS)(Q:List SV->Sto->Prop):List SV->List SV->Sto->Prop
 | [],ys,S=>keep S/\Q ys S
 | x::xs,ys,S=>keep S/\wTg g x ρ λρ2=>t ρ2 S λb S1=>if b=true then e ρ2 S1 λy S2=>ys.length<big/\v4 keep g t e ρ Q xs (ys++[y]) S2 else v4 keep g t e ρ Q xs ys S1
noncomputable def JH(k:Nat)(js:List Nat)(g:Tg)(i:WI)(t:WT)(e:WE):WE:=λρ S Q=>i ρ S λkeep xs S1=>v4 keep g t e (Fx k js ρ) (λys S2=>Q (.loc S2.length) (S2++[.lst ys])) xs [] S1
def tt1(w:WE):WE×WT:=(w,Rz w)
def wBl(w:WE):WT:=λρ S Q=>w ρ S λx S'=>∃ b,x = .bl b/\Q b S'
def tt2(w:WE):WE×WT:=(w,wBl w)
def UE:WT:=λ_ S Q=>Q true S
mutual
noncomputable def wEx(Δ:Nat->Sn):Ex->WE×WT
 | .var i=>tt1 (Ro i)
 | .c x=>tt1 (wC x)
 | .op o a b=>tt1 (w2 (sOp o) (wEx Δ a).1 (wEx Δ b).1)
 | .neg a=>tt1 (w1 MS (wEx Δ a).1)
 | .cmp o a b=>tt2 (w2 (At o) (wEx Δ a).1 (wEx Δ b).1)
 | .chn o p a b c=>tt2 (MW (At o) (At p) (wEx Δ a).1 (wEx Δ b).1 (wEx Δ c).1)
 | .and a b=>(MV (wEx Δ a).1 (wEx Δ b).1,DO (wEx Δ a).2 (wEx Δ b).2)
 | .or a b=>(wOr (wEx Δ a).1 (wEx Δ b).1,Hu (wEx Δ a).2 (wEx Δ b).2)
 | .not a=>(Ow (wEx Δ a).1,JE (wEx Δ a).2)
 | .ife t a b=>(Ox (wEx Δ t).2 (wEx Δ a).1 (wEx Δ b).1,λ_ _ _=>False)
 | .tup es=>tt1 (wn Oa (Fy Δ es))
 | .lst es=>tt1 (wn Ob (Fy Δ es))
 | .ix a b=>tt1 (w2 sIx (wEx Δ a).1 (wEx Δ b).1)
 | .slc a lo hi=>tt1 (SB (wEx Δ a).1 (wEo Δ lo).1 (wEo Δ hi).1)
 | .call f es=>tt1 (wn (Δ f) (Fy Δ es))
 | .bi b es=>tt1 (wn (sBi b) (Fy Δ es))
 | .mt m a es=>tt1 (wMt m (wEx Δ a).1 (Fy Δ es))
 | .comp own _ js g it t e=>tt1 (JH own.length js g (Oz Δ it) (wEo Δ t).2 (wEx Δ e).1)
 | .tyc t=>tt1 (wC (.ty t))
 | .max1 a=>tt1 (Md (wEx Δ a).1)
 | .sum2 a=>tt1 (Mc (wEx Δ a).1)
 | .maxd a d=>tt1 (Mg (wEx Δ a).1 (wEx Δ d).1)
 | .eqp a b=>tt2 (w2 Mh (wEx Δ a).1 (wEx Δ b).1)
 | .dnew=>tt1 Mi
 | .dnewl=>tt1 Hy
 | .dget2l d e v=>tt1 (F8 (wEx Δ d).1 (wEx Δ e).1 (wEx Δ v).1)
 | .dvalsl a=>tt1 (F9 (wEx Δ a).1)
 | .setdi d e v=>tt1 (Hw (wEx Δ d).1 (wEx Δ e).1 (wEx Δ v).1)
 | .dnewp=>tt1 Hx
 | .setd d e v=>tt1 (Mf (wEx Δ d).1 (wEx Δ e).1 (wEx Δ v).1)
 | .mind a d=>tt1 (Me (wEx Δ a).1 (wEx Δ d).1)
 | .dget a b=>tt1 (w2 JG (wEx Δ a).1 (wEx Δ b).1)
 | .no=>(λ_ _ _=>False,λ_ _ _=>False)
noncomputable def Fy(Δ:Nat->Sn):Exs->WA
 | .nil=>EQ
 | .cons e es=>DL (wEx Δ e).1 (Fy Δ es)
noncomputable def wEo(Δ:Nat->Sn):Eo->WO×WT
 | .no=>(SA,UE)
 | .yes e=>(MX (wEx Δ e).1,(wEx Δ e).2)
noncomputable def Oz(Δ:Nat->Sn):Itb->WI
 | .seq e=>QV (wEx Δ e).1
 | .rng1 a=>MZ (wEx Δ a).1
 | .rng2 a b=>Ma (wEx Δ a).1 (wEx Δ b).1
 | .enum e=>Mb (wEx Δ e).1
end
structure EndsS where
 nx:EnvS->Sto->Prop
 rt:SV->Sto->Prop
 bk:EnvS->Sto->Prop:=λ_ _=>False
 ct:EnvS->Sto->Prop:=λ_ _=>False
abbrev WS:=EndsS->EnvS->Sto->Prop
def Ca:SV->SV->SV->Sto->(Sto->Prop)->Prop
 | .loc k,.int i,v,S,Q=>∃ xs j,S[k]?=some (.lst xs)/\ixN xs.length i=some j/\Q (S.set k (.lst (xs.set j v)))
 | _,_,_,_,_=>False
def v8(keep:Sto->Prop)(g:Tg)(b:WS)(D:EndsS):List SV->EnvS->Sto->Prop
 | [],ρ,S=>keep S/\D.nx ρ S
 | x::xs,ρ,S=>keep S/\wTg g x ρ λρ2=>b {D with nx:=v8 keep g b D xs,ct:=v8 keep g b D xs,bk:=D.nx} ρ2 S
noncomputable def SC(t:WT)(b:WS):WS:=λD ρ S=>∃ W:Nat->EnvS->Sto->Prop,(∃ m,W m ρ S)/\∀ m ρ S,W m ρ S->t ρ S λc S1=>if c=true then
 b {D with nx:=λρ' S'=>∃ m',m'<m/\W m' ρ' S',ct:=λρ' S'=>∃ m',m'<m/\W m' ρ' S',bk:=D.nx} ρ S1 else D.nx ρ S1
mutual
noncomputable def wSt(Δ:Nat->Sn):Stm->WS
 | .asg t e=>λD ρ S=>(wEx Δ e).1 ρ S λx S1=>wTg t x ρ λρ'=>D.nx ρ' S1
 | .par i j a b=>λD ρ S=>(wEx Δ a).1 ρ S λx S1=>(wEx Δ b).1 ρ S1 λy S2=>D.nx ((ρ.set i (some x)).set j (some y)) S2
 | .put o i e=>λD ρ S=>(wEx Δ e).1 ρ S λv S1=>(wEx Δ o).1 ρ S1 λx S2=>(wEx Δ i).1 ρ S2 λy S3=>Ca x y v S3 λS4=>D.nx ρ S4
 | .augS o i e=>λD ρ S=>(wEx Δ o).1 ρ S λx S1=>(wEx Δ i).1 ρ S1 λy S2=>∃(k:Nat) (j:Nat) (xs:List SV) (a:Int),x = .loc k/\y = .int j/\S2[k]?=some (.lst xs)/\xs[j]?=some (.int a)/\(wEx Δ e).1 ρ S2 λv S4=>∃(b:Int) (ys:List SV),v = .int b/\S4[k]?=some (.lst ys)/\j<ys.length/\D.nx ρ (S4.set k (.lst (ys.set j (.int (a+b)))))
 | .dputl o i e=>λD ρ S=>(wEx Δ e).1 ρ S λv S1=>(wEx Δ o).1 ρ S1 λx S2=>(wEx Δ i).1 ρ S2 λy S3=>JF x y v S3 λS4=>D.nx ρ S4
 | .put2 o i p j e=>λD ρ S=>(wEx Δ e).1 ρ S λu S1=>∃ v w,u = .tup [v,w]/\(wEx Δ o).1 ρ S1 λx S2=>(wEx Δ i).1 ρ S2 λy S3=>Ca x y v S3 λS4=>(wEx Δ p).1 ρ S4 λx S5=>(wEx Δ j).1 ρ S5 λy S6=>Ca x y w S6 λS7=>D.nx ρ S7
 | .expr e=>λD ρ S=>(wEx Δ e).1 ρ S λ_ S1=>D.nx ρ S1
 | .iff t a b=>λD ρ S=>(wEx Δ t).2 ρ S λc S1=>if c=true then wSs Δ a D ρ S1 else wSs Δ b D ρ S1
 | .loop g it b=>λD ρ S=>Oz Δ it ρ S λkeep xs S1=>v8 keep g (wSs Δ b) D xs ρ S1
 | .whl t b=>SC (wEx Δ t).2 (wSs Δ b)
 | .tri b=>wSs Δ b
 | .ret e=>λD ρ S=>(wEx Δ e).1 ρ S D.rt
 | .no=>λ_ _ _=>False
noncomputable def wSs(Δ:Nat->Sn):List Stm->WS
 | []=>λD ρ S=>D.nx ρ S
 | s::ss=>λD ρ S=>wSt Δ s {D with nx:=wSs Δ ss D} ρ S
end
theorem t8{α:Type}{P:Prop}{x:α}(h:(none:Option α)=some x):P:=nomatch h
def Fz(scope sc:Yu):Yu:={scope with names:=scope.names.map λ(n,k)=>if (k == .free&&sc.kind == .function&&sc.names.lookup n == some .cell) then (n,.cell) else (n,k)}
def c3:Expr->Bool
 | .Starred ..=>false
 | _=>true
theorem f7{e:Expr}{es:List Expr}{env:Env}(h:c3 e=true):Yr (e::es) env=(false,eval e env)::Yr es env:=by
 cases e<;>first | rfl | cases h
theorem CA{env:Env}{pos:Pos}:∀{es:List Expr},es.all c3=true->(backTo pos (Yr es env)).any (·.1)=false
 | [],_=>rfl
 | e::es,h=>by
   rw[W7,V6]at h;rw[f7 h.1];exact CA (es:=es) h.2
theorem ET{env:Env}{pos:Pos}:∀{es:List Expr},es.all c3=true->(backTo pos (Yr es env)).all (λx=>!x.1)=true
 | [],_=>rfl
 | e::es,h=>by
   rw[W7,V6]at h;rw[f7 h.1];exact ET (es:=es) h.2
def glo(sc:Yu)(x:Str):Bool:=sc.names.lookup x == some .globalImplicit&&!(x == ("__name__":Str))&&!(x == ("__debug__":Str))
def vis(sc:Yu)(x:Str):Bool:=sc.names.lookup x == some .local||sc.names.lookup x == some .cell||sc.names.lookup x == some .free
def loc(sc:Yu)(x:Str):Bool:=sc.names.lookup x == some .local||sc.names.lookup x == some .cell
def SD:SV->Const->Bool
 | .non,.none=>true
 | .bl a,.bool b=>a == b
 | .int i,.int j=>decide (i=j)
 | .str x,.str y=>decide (x=y)
 | _,_=>false
def t7:Expr->Bool
 | .Slice ..=>false
 | _=>true
def AK:Expr->Bool
 | .Set ..=>false
 | _=>true
def Mj:Expr->Bool
 | .UnaryOp .Not _ _=>false
 | .BoolOp ..=>false
 | .IfExp ..=>false
 | .Compare ..=>false
 | _=>true
def w4:Expr->Bool
 | .Call (.Name _ _) [] [] _=>false
 | _=>true
def CB:Expr->Option Str
 | .Name x _=>some x
 | _=>none
def Mk:Expr->Option Const
 | .Constant k _ _=>some k
 | _=>none
def UF:Expr->Option (Expr×ZK×Expr)
 | .BinOp a o b _=>some (a,o,b)
 | _=>none
def vUn:Expr->Option (UnaryOp×Expr)
 | .UnaryOp o a _=>some (o,a)
 | _=>none
def P1:Expr->Option (Expr×List CmpOp×List Expr)
 | .Compare a os bs _=>some (a,os,bs)
 | _=>none
def Ml:Expr->Option (BoolOp×List Expr×Pos)
 | .BoolOp o vs p=>some (o,vs,p)
 | _=>none
def UG:Expr->Option (Expr×Expr×Expr)
 | .IfExp t a b _=>some (t,a,b)
 | _=>none
def E5:Expr->Option (List Expr)
 | .Tuple es _ _=>some es
 | _=>none
def UH:Expr->Option (List Expr)
 | .List es _=>some es
 | _=>none
def FA:Expr->Option (Expr×Expr)
 | .Subscript a b _=>some (a,b)
 | _=>none
def UI:Expr->Option (Option Expr×Option Expr×Option Expr)
 | .Slice l h s _=>some (l,h,s)
 | _=>none
def DQ:Expr->Option (Expr×List Expr×List Keyword)
 | .Call f as ks _=>some (f,as,ks)
 | _=>none
def Hz:Expr->Nat
 | .Call _ _ _ p=>p.line
 | _=>0
def Mm:Expr->Option (Expr×Str×Nat)
 | .Attribute o n p=>some (o,n,p.endLine)
 | _=>none
def Mn:Expr->Option (Expr×List Comprehension×Yu)
 | .ListComp e gs s _=>some (e,gs,s)
 | _=>none
def JI:Expr->Option (List (Option Expr)×List Expr)
 | .Dict ks vs _=>some (ks,vs)
 | _=>none
theorem DR{r:Expr}{x:List (Option Expr)×List Expr}(h:JI r=some x):∃ p,r = .Dict x.1 x.2 p:=by cases r<;>first | (cases h;exact⟨_,rfl⟩) | exact t8 h
theorem BQ{r:Expr}{x:Str}(h:CB r=some x):∃ p,r = .Name x p:=by cases r<;>first | (cases h;exact⟨_,rfl⟩) | exact t8 h
theorem Ke{r:Expr}{x:Const}(h:Mk r=some x):∃ j p,r = .Constant x j p:=by cases r<;>first | (cases h;exact⟨_,_,rfl⟩) | exact t8 h
theorem P4{r:Expr}{x:Expr×ZK×Expr}(h:UF r=some x):∃ p,r = .BinOp x.1 x.2.1 x.2.2 p:=by cases r<;>first | (cases h;exact⟨_,rfl⟩) | exact t8 h
theorem Mo{r:Expr}{x:UnaryOp×Expr}(h:vUn r=some x):∃ p,r = .UnaryOp x.1 x.2 p:=by cases r<;>first | (cases h;exact⟨_,rfl⟩) | exact t8 h
theorem FB{r:Expr}{x:Expr×List CmpOp×List Expr}(h:P1 r=some x):∃ p,r = .Compare x.1 x.2.1 x.2.2 p:=by cases r<;>first | (cases h;exact⟨_,rfl⟩) | exact t8 h
theorem G8{r:Expr}{x:BoolOp×List Expr×Pos}(h:Ml r=some x):r = .BoolOp x.1 x.2.1 x.2.2:=by cases r<;>first | (cases h;exact rfl) | exact t8 h
theorem P5{r:Expr}{x:Expr×Expr×Expr}(h:UG r=some x):∃ p,r = .IfExp x.1 x.2.1 x.2.2 p:=by cases r<;>first | (cases h;exact⟨_,rfl⟩) | exact t8 h
theorem B4{r:Expr}{x:List Expr}(h:E5 r=some x):∃ j p,r = .Tuple x j p:=by cases r<;>first | (cases h;exact⟨_,_,rfl⟩) | exact t8 h
theorem P6{r:Expr}{x:List Expr}(h:UH r=some x):∃ p,r = .List x p:=by cases r<;>first | (cases h;exact⟨_,rfl⟩) | exact t8 h
theorem Af{r:Expr}{x:Expr×Expr}(h:FA r=some x):∃ p,r = .Subscript x.1 x.2 p:=by cases r<;>first | (cases h;exact⟨_,rfl⟩) | exact t8 h
theorem P7{r:Expr}{x:Option Expr×Option Expr×Option Expr}(h:UI r=some x):∃ p,r = .Slice x.1 x.2.1 x.2.2 p:=by cases r<;>first | (cases h;exact⟨_,rfl⟩) | exact t8 h
theorem DS{r:Expr}{x:Expr×List Expr×List Keyword}(h:DQ r=some x):∃ p,r = .Call x.1 x.2.1 x.2.2 p/\Hz r=p.line:=by cases r<;>first | (cases h;exact⟨_,rfl,rfl⟩) | exact t8 h
theorem Mp{r:Expr}{x:Expr×Str×Nat}(h:Mm r=some x):∃ p,r = .Attribute x.1 x.2.1 p/\x.2.2=p.endLine:=by cases r<;>first | (cases h;exact⟨_,rfl,rfl⟩) | exact t8 h
theorem G9{r:Expr}{x:Expr×List Comprehension×Yu}(h:Mn r=some x):∃ p,r = .ListComp x.1 x.2.1 x.2.2 p:=by cases r<;>first | (cases h;exact⟨_,rfl⟩) | exact t8 h
theorem a4{α:Type}{o:Option α}{p:α->Bool}(h:o.any p=true):∃ x,o=some x/\p x=true:=by
 cases o with
 | none=>cases h
 | some x=>exact⟨x,rfl,h⟩
theorem Ag{α:Type}{l:List α}{x:α}(h:l.head?=some x):l=x::l.tail:=by
 cases l with
 | nil=>cases h
 | cons y r=>cases h;rfl
def l1{α:Type}:List α->Option α
 | [x]=>some x
 | _=>none
def l2{α:Type}:List α->Option (α×α)
 | [x,y]=>some (x,y)
 | _=>none
theorem y8{α:Type}{l:List α}{x:α}(h:l1 l=some x):l=[x]:=by
 match l,h with
 | [y],h=>cases h;rfl
theorem CC{α:Type}{l:List α}{x:α×α}(h:l2 l=some x):l=[x.1,x.2]:=by
 match l,h with
 | [y,z],h=>cases h;rfl
def l3{α:Type}:List α->Option (α×α×α)
 | [x,y,z]=>some (x,y,z)
 | _=>none
def P8(r:Expr):Option (Str×List Expr×Keyword):=(DQ r).bind λc=>match c.2.2 with
 | [kw]=>(CB c.1).map λx=>(x,c.2.1,kw)
 | _=>none
theorem JJ{r:Expr}{x:Str×List Expr×Keyword}(h:P8 r=some x):∃ p q,r = .Call (.Name x.1 p) x.2.1 [x.2.2] q:=by
 unfold P8 at h;cases hc:DQ r with
 | none=>rw[hc]at h;cases h
 | some c=>
   rw[hc]at h;obtain⟨q,e,_⟩:=DS hc;obtain⟨f,as,ks⟩:=c
   match ks,h with
   | [kw],h=>
     replace h:(CB f).map (λx=>(x,as,kw))=some x:=h;cases hn:CB f with
     | none=>rw[hn]at h;cases h
     | some nm=>
       rw[hn]at h;cases h;obtain⟨p,e2⟩:=BQ hn;exact⟨p,q,by rw[e,e2]⟩
   | [],h=>cases h
   | _::_::_,h=>cases h
def vFn(r:Expr):Option (Str×List Expr):=(DQ r).bind λc=>if c.2.2.isEmpty then (CB c.1).map λx=>(x,c.2.1) else none
theorem BR{r:Expr}{x:Str×List Expr}(h:vFn r=some x):∃ p q,r = .Call (.Name x.1 p) x.2 [] q:=by
 unfold vFn at h;cases hc:DQ r with
 | none=>rw[hc]at h;cases h
 | some c=>
   rw[hc]at h;obtain⟨q,e,_⟩:=DS hc;simp only[Xd]at h;by_cases hk:c.2.2.isEmpty=true
   ·rw[iP hk]at h;cases hn:CB c.1 with
    | none=>rw[hn]at h;cases h
    | some y=>
      rw[hn]at h;cases h;obtain⟨p,ep⟩:=BQ hn;rw[e,ep,Vn.mp hk];exact⟨p,q,rfl⟩
   ·rw[iG hk]at h;cases h
def vMt(r:Expr):Option (Expr×Str×List Expr):=(DQ r).bind λc=>if c.2.2.isEmpty then (Mm c.1).bind λa=>if a.2.2 == Hz r then some (a.1,a.2.1,c.2.1) else none else none
theorem DT{r:Expr}{x:Expr×Str×List Expr}(h:vMt r=some x):∃ ap cp,r = .Call (.Attribute x.1 x.2.1 ap) x.2.2 [] cp/\(ap.endLine == cp.line)=true:=by
 unfold vMt at h;cases hc:DQ r with
 | none=>rw[hc]at h;cases h
 | some c=>
   rw[hc]at h;obtain⟨q,e,el⟩:=DS hc;simp only[Xd]at h;by_cases hk:c.2.2.isEmpty=true
   ·rw[iP hk]at h;cases hn:Mm c.1 with
    | none=>rw[hn]at h;cases h
    | some y=>
      rw[hn]at h;simp only[Xd]at h;obtain⟨p,ep,el2⟩:=Mp hn;by_cases hl:(y.2.2 == Hz r)=true
      ·rw[iP hl]at h;cases h;refine⟨p,q,?_,?_⟩
       ·rw[e,ep,Vn.mp hk]
       ·rw[<-el2,<-el];exact hl
      ·rw[iG hl]at h;cases h
   ·rw[iG hk]at h;cases h
mutual
noncomputable def BS(k:Nat)(N:List Str)(sc:Yu):Tg->Expr->Bool
 | .nm i,r=>(CB r).any λx=>decide (i<k)&&decide (N[i]?=some x)&&loc sc x
 | .tup ts,r=>(E5 r).any λes=>AT k N sc ts es
noncomputable def AT(k:Nat)(N:List Str)(sc:Yu):Tgs->List Expr->Bool
 | .nil,r=>r.isEmpty
 | .cons t ts,r=>(r.head?).any λe=>BS k N sc t e&&c3 e&&AT k N sc ts r.tail
end
def nmB(N:List Str)(sc:Yu)(i:Nat)(x:Str):Bool:=decide (N[i]?=some x)&&vis sc x&&!(x == ("__debug__":Str))&&!(x == ("__classdict__":Str))
mutual
noncomputable def j4(T:List Str)(N:List Str)(sc:Yu):Ex->Expr->Bool
 | .var i,r=>(CB r).any λx=>nmB N sc i x
 | .c x,r=>(Mk r).any λk=>SD x k
 | .op o a b,r=>(UF r).any λv=>decide (o=v.2.1)&&j4 T N sc a v.1&&j4 T N sc b v.2.2
 | .neg a,r=>(vUn r).any λv=>decide (v.1 = .USub)&&j4 T N sc a v.2
 | .cmp o a b,r=>(P1 r).any λv=>(l1 v.2.2).any λrb=>decide (v.2.1=[o])&&j4 T N sc a v.1&&j4 T N sc b rb&&AK rb
 | .chn o p a b c,r=>(P1 r).any λv=>(l2 v.2.2).any λrs=>decide (v.2.1=[o,p])&&j4 T N sc a v.1&&j4 T N sc b rs.1&&j4 T N sc c rs.2&&AK rs.2
 | .and a b,r=>(Ml r).any λv=>decide (v.1 = .And)&&(v.2.1.head?).any λx=>j4 T N sc a x&&(match l1 v.2.1.tail with | some y=>j4 T N sc b y | none=>decide (2<=v.2.1.tail.length)&&j4 T N sc b (.BoolOp .And v.2.1.tail v.2.2))
 | .or a b,r=>(Ml r).any λv=>decide (v.1 = .Or)&&(v.2.1.head?).any λx=>j4 T N sc a x&&(match l1 v.2.1.tail with | some y=>j4 T N sc b y | none=>decide (2<=v.2.1.tail.length)&&j4 T N sc b (.BoolOp .Or v.2.1.tail v.2.2))
 | .not a,r=>(vUn r).any λv=>decide (v.1 = .Not)&&j4 T N sc a v.2
 | .ife t a b,r=>(UG r).any λv=>j4 T N sc t v.1&&j4 T N sc a v.2.1&&j4 T N sc b v.2.2
 | .tup es,r=>(E5 r).any λrs=>Au T N sc es rs
 | .lst es,r=>(UH r).any λrs=>Au T N sc es rs
 | .ix a b,r=>(FA r).any λv=>j4 T N sc a v.1&&j4 T N sc b v.2&&t7 v.2
 | .slc a lo hi,r=>(FA r).any λv=>(UI v.2).any λs=>j4 T N sc a v.1&&Mq T N sc lo s.1&&Mq T N sc hi s.2.1&&s.2.2.isNone
 | .call f es,r=>(vFn r).any λv=>decide (T[f]?=some v.1)&&glo sc v.1&&Au T N sc es v.2&&!v.2.isEmpty
 | .bi b es,r=>(vFn r).any λv=>decide (b.name=v.1)&&glo sc v.1&&Au T N sc es v.2&&!v.2.isEmpty
 | .mt m a es,r=>(vMt r).any λv=>decide (v.2.1=m.name)&&w4 v.1&&decide (v.2.2.length<29)&&j4 T N sc a v.1&&Au T N sc es v.2.2
 | .comp own cn js g it t e,r=>(Mn r).any λv=>(l1 v.2.1).any λc=>decide (c.is_async=0)&&AA sc v.2.2 own cn N js&&BS own.length (own++cn) (Fz v.2.2 sc) g c.target&&P9 T N sc it c.target c.iter&&AK c.iter&&GA T (own++cn) (Fz v.2.2 sc) t c.ifs&&j4 T (own++cn) (Fz v.2.2 sc) e v.1
 | .tyc t,r=>(CB r).any λx=>decide (x=Str.ofString t.nm)&&glo sc x&&decide (t ≠ .none)
 | .sum2 a,r=>(vFn r).any λv=>(l1 v.2).any λra=>decide (v.1=("sum":Str))&&glo sc v.1&&j4 T N sc a ra&&c3 ra
 | .max1 a,r=>(vFn r).any λv=>(l1 v.2).any λra=>decide (v.1=("max":Str))&&glo sc v.1&&j4 T N sc a ra&&c3 ra
 | .dnewl,r=>(JI r).any λv=>v.1.isEmpty&&v.2.isEmpty
 | .dget2l d e v,r=>(vMt r).any λu=>(l2 u.2.2).any λra=>decide (u.2.1=("get":Str))&&w4 u.1&&j4 T N sc d u.1&&j4 T N sc e ra.1&&c3 ra.1&&j4 T N sc v ra.2&&c3 ra.2
 | .dvalsl a,r=>(vFn r).any λv=>(l1 v.2).any λz=>(vMt z).any λu=>decide (v.1=("list":Str))&&glo sc v.1&&decide (u.2.1=("values":Str))&&u.2.2.isEmpty&&w4 u.1&&j4 T N sc a u.1
 | .setdi d e v,r=>(vMt r).any λu=>(l2 u.2.2).any λra=>decide (u.2.1=("setdefault":Str))&&w4 u.1&&j4 T N sc d u.1&&j4 T N sc e ra.1&&c3 ra.1&&j4 T N sc v ra.2&&c3 ra.2
 | .mind a d,r=>(P8 r).any λv=>(l1 v.2.1).any λra=>decide (v.1=("min":Str))&&glo sc v.1&&j4 T N sc a ra&&j4 T N sc d v.2.2.value&&c3 ra&&decide (v.2.2.arg=some ("default":Str))
 | .setd d e v,r=>(vMt r).any λu=>(l2 u.2.2).any λra=>decide (u.2.1=("setdefault":Str))&&w4 u.1&&j4 T N sc d u.1&&j4 T N sc e ra.1&&c3 ra.1&&j4 T N sc v ra.2&&c3 ra.2
 | .dnewp,r=>(JI r).any λv=>v.1.isEmpty&&v.2.isEmpty
 | .maxd a d,r=>(P8 r).any λv=>(l1 v.2.1).any λra=>decide (v.1=("max":Str))&&glo sc v.1&&j4 T N sc a ra&&j4 T N sc d v.2.2.value&&c3 ra&&decide (v.2.2.arg=some ("default":Str))
 | .eqp a b,r=>(P1 r).any λv=>(l1 v.2.2).any λrb=>decide (v.2.1=[.Eq])&&j4 T N sc a v.1&&j4 T N sc b rb&&AK rb
 | .dnew,r=>(JI r).any λv=>v.1.isEmpty&&v.2.isEmpty
 | .dget a b,r=>(FA r).any λv=>j4 T N sc a v.1&&j4 T N sc b v.2&&t7 v.2
 | .no,_=>true
noncomputable def Au(T:List Str)(N:List Str)(sc:Yu):Exs->List Expr->Bool
 | .nil,r=>r.isEmpty
 | .cons e es,r=>(r.head?).any λx=>j4 T N sc e x&&c3 x&&Au T N sc es r.tail
noncomputable def Mq(T:List Str)(N:List Str)(sc:Yu):Eo->Option Expr->Bool
 | .no,r=>r.isNone
 | .yes e,r=>r.any λx=>j4 T N sc e x
noncomputable def GA(T:List Str)(N:List Str)(sc:Yu):Eo->List Expr->Bool
 | .no,r=>r.isEmpty
 | .yes e,r=>(l1 r).any λx=>j4 T N sc e x
noncomputable def P9(T:List Str)(N:List Str)(sc:Yu):Itb->Expr->Expr->Bool
 | .seq e,_,r=>j4 T N sc e r
 | .rng1 a,_,r=>(vFn r).any λv=>(l1 v.2).any λra=>decide (v.1=("range":Str))&&glo sc v.1&&j4 T N sc a ra&&c3 ra
 | .rng2 a b,_,r=>(vFn r).any λv=>(l2 v.2).any λra=>decide (v.1=("range":Str))&&glo sc v.1&&j4 T N sc a ra.1&&c3 ra.1&&j4 T N sc b ra.2&&c3 ra.2
 | .enum e,tg,r=>(E5 tg).isSome&&(vFn r).any λv=>(l1 v.2).any λa=>decide (v.1=("enumerate":Str))&&glo sc v.1&&j4 T N sc e a&&c3 a
end
noncomputable def spS(K:V5)(w:Sn):Sp:=λvs H Q _=>∃ as S xs,Ok K as H S/\RlAll K as H vs xs/\w xs S (Post K as H Q)
structure Cal(P:Yn)(w:Yq)(K:V5)(mg:Str->Option Yg)(base:Heap)(k:Nat)(x:Str)(ps:List Str)(sp:Sp):Prop where
 ex:∃ f fd,FnOk P w K mg base CX0 k f fd ps sp/\mg x=some (.ref f)/\PySem.W.keepIn K (.ref f)=true/\Binds K fd ps []
structure Cok(T:List Str)(Δ:Nat->Sn)(X:Cx)(k:Nat)(N:List Str)(sc:Yu):Prop where
 hN:X.N=N
 hs:X.env.scope=sc
 nd:N.Nodup
 calm:X.calm=true
 fn:∀ i x,i<k->N[i]?=some x->sc.names.lookup x=some .cell->X.fn x=true
 un:X.A.units+102<cLine
 bl:∀ b:BI,X.mg b.name=none
 rng:X.mg "range"=none
 enm:X.mg "enumerate"=none
 rvs:X.mg "reversed"=none
 zip:X.mg "zip"=none
 sm0:X.mg "sum"=none
 st0:X.mg "set"=none
 dc0:X.mg "dict"=none
 ty:∀ t:TyN,t ≠ .none->X.mg (Str.ofString t.nm)=none
 gd:X.A.guards=some []
 call:∀ f x,T[f]?=some x->∃ k ps,Cal X.prog X.w X.K X.mg X.base k x ps (spS X.K (Δ f))/\Room k X.A
 mono:∀ f,MonoN (Δ f)
structure Good(X:Cx)(r:Expr)(w:WE×WT):Prop where
 pe:PE X r (lift X.K w.1)
 pt:PT X r (liftT X.K w.2)
 m:Mono w.1
 mt:MonoT w.2
 pw:∀ op vs p,r = .BoolOp op vs p->PW X r (liftT X.K w.2)
section
variable{X:Cx}{r:Expr}{w:WE}
theorem MonoT.tru(m:Mono w):MonoT (Rz w):=λρ S P P' i h=>m _ _ _ _ (λx S' ⟨b,e,q⟩=>⟨b,e,i _ _ q⟩) h
theorem MonoT.bl(m:Mono w):MonoT (wBl w):=λρ S P P' i h=>m _ _ _ _ (λx S' ⟨b,e,q⟩=>⟨b,e,i _ _ q⟩) h
theorem SE{K:V5}{as:List Yi}{H:Hp}{S:Sto}{x:SV}{v:V}{b:Bool}(ok:Ok K as H S)(r:Rl K as H v x)(e:MU x S=some b):OK K v H b:=by
 cases x with
 | bl c=>cases e;rw[rl_bl.mp r];exact rfl
 | tup xs=>
   cases e;obtain⟨p,vs,rfl,hp,rp⟩:=rl_tup.mp r;refine .inr (.inl ⟨vs,SqT.of hp,?_⟩);have:=rp.length;cases vs<;>cases xs<;>first | rfl | (simp at this)
 | loc k=>
   unfold MU at e;cases hs:S[k]? with
   | none=>simp only[hs]at e;cases e
   | some o=>
     cases o with
     | lst xs=>
       simp only[hs]at e;cases e;obtain⟨a,vs,rfl,_,ha,rr⟩:=p9 ok r hs;refine .inl ⟨vs,SqL.of ha,?_⟩;have:=rr.length;cases vs<;>cases xs<;>first | rfl | (simp at this)
     | iset _=>simp only[hs]at e;cases e
     | dtl _=>simp only[hs]at e;cases e
     | dtf _ _ _=>simp only[hs]at e;cases e
     | dtp _=>simp only[hs]at e;cases e
     | dct _=>simp only[hs]at e;cases e
     | dcf _ _ _=>simp only[hs]at e;cases e
 | _=>cases e
theorem E6{env:Env}(h:Mj r=true):∀ whole,isTrue r env whole=(do let v <- whole;standAt r.pos;holding [v] (truthy v)):=by
 intro whole;cases r<;>first | rfl | (cases h;done) | (rename_i o _ _;cases o<;>first | rfl | cases h)
theorem PB{K:V5}(m:Mono w):∀ σ H Q,liftT K (Rz w) σ H Q->lift K w σ H λx H'=>∃ k,OK K x H' k/\Q k H':=by
 rintro σ H Q ⟨as,ρ,S,ok,en,h⟩;exact⟨as,ρ,S,ok,en,m _ _ _ _ (λx S' ⟨b,e,q⟩ as' H' v g ok' r=>⟨b,SE ok' r e,q as' H' g ok'⟩) h⟩
theorem I0{K:V5}(m:Mono w):∀ σ H Q,liftT K (wBl w) σ H Q->lift K w σ H λx H'=>∃ k,x = .bl k/\Q k H':=by
 rintro σ H Q ⟨as,ρ,S,ok,en,h⟩;exact⟨as,ρ,S,ok,en,m _ _ _ _ (λx S' ⟨b,e,q⟩ as' H' v g ok' r=>⟨b,by subst e;exact rl_bl.mp r,q as' H' g ok'⟩) h⟩
theorem Good.one(hp:PE X r (lift X.K w))(m:Mono w)(h:Mj r=true):Good X r (tt1 w) where
 pe:=hp
 pt:=DK _ (Lk hp (E6 h)) (PB m)
 m:=m
 mt := .tru m
 pw:=λop vs p e=>by rw[e]at h;cases h
theorem Mr{X:Cx}{r:Expr}:PE X r (lift X.K λ_ _ _=>False):=λ_ _ _ _ _ _ h=>let ⟨_,_,_,_,_,z⟩:=h;z.elim
theorem GB{X:Cx}{r:Expr}:PT X r (liftT X.K λ_ _ _=>False):=λ_ _ _ _ _ _ h=>let ⟨_,_,_,_,_,z⟩:=h;z.elim
theorem Ms{X:Cx}{r:Expr}:PW X r (liftT X.K λ_ _ _=>False):=λ_ _ _ _ _ _ _ h=>let ⟨_,_,_,_,_,z⟩:=h;z.elim
theorem Good.never:Good X r (λ_ _ _=>False,λ_ _ _=>False):=⟨Mr,GB,λ_ _ _ _ _ h=>h,λ_ _ _ _ _ h=>h,λ_ _ _ _=>Ms⟩
end
theorem JK{o:ZK}:Mono2 (sOp o):=by
 unfold sOp;split<;>first | exact .add | exact .int0 | exact .mul | exact .int | exact λ_ _ _ _ _ _ h=>h
theorem AI{o:CmpOp}:Mono2 (At o):=by
 unfold At;split<;>first | exact .eq | exact .ne | exact .int0 | exact .in' | exact .isN
section
variable{X:Cx}
theorem Mt{o:ZK}{ra rb:Expr}{p:Pos}{wa wb:WE}(ha:PE X ra (lift X.K wa))(hb:PE X rb (lift X.K wb))(ma:Mono wa)(mb:Mono wb):PE X (.BinOp ra o rb p) (lift X.K (w2 (sOp o) wa wb)):=by
 have go:∀{s:S2} {rr:R2},Mono2 s->OpR X (ZS o) rr->BN X.K s rr->PE X (.BinOp ra o rb p) (lift X.K (w2 s wa wb)):=λms ho sim=>i9 _ (TW ho ha hb) (B3 sim ms ma mb);have no:PE X (.BinOp ra o rb p) (lift X.K (w2 (λ_ _ _ _=>False) wa wb)):=go (λ_ _ _ _ _ _ h=>h) (rr:=λ_ _ _ _=>False) (λ_ _ _ _ _ _ _ _ _ _ _ _ h=>h.elim) (λ_ _ _ _ _ _ _ _ _ _ _ h=>h);cases o with
 | Add=>exact go .add Og Oh
 | Sub=>exact go .int0 RI (BO λ_ _ _ _=>rl_int.mpr rfl)
 | Mult=>exact go .mul (op_mul.or RY) Oi
 | FloorDiv=>exact go .int OJ (Ey λ_ _ _ _=>rl_int.mpr rfl)
 | Mod=>exact go .int RJ (Ey λ_ _ _ _=>rl_int.mpr rfl)
 | Pow=>exact go .int RK (Ey λ_ _ _ _=>rl_int.mpr rfl)
 | _=>exact no
theorem DU(o:CmpOp)(hu:X.A.units<cLine):∃ rr:R2,OpR X (Yv o) rr/\BN X.K (At o) rr:=by
 cases o with
 | Eq=>exact⟨_,op_eq.or ((Rc hu).or (Oe hu)),Rs⟩
 | NotEq=>exact⟨_,op_ne.or (Re hu),Rt⟩
 | Lt=>exact⟨_,Tb,BO λ_ _ _ _=>rl_bl.mpr rfl⟩
 | LtE=>exact⟨_,Tc,BO λ_ _ _ _=>rl_bl.mpr rfl⟩
 | Gt=>exact⟨_,Td,BO λ_ _ _ _=>rl_bl.mpr rfl⟩
 | GtE=>exact⟨_,Te,BO λ_ _ _ _=>rl_bl.mpr rfl⟩
 | Is=>exact⟨_,RN,Ol⟩
 | IsNot=>exact⟨_,op_notN.or KQ,ML⟩
 | In=>exact⟨_,Rv,MK⟩
 | NotIn=>exact⟨_,KZ,MK⟩
theorem BT{o:CmpOp}{r:Expr}(h:AK r=true):A07 o r=false:=by
 cases r<;>first | rfl | cases h
theorem Kf{o:CmpOp}{ra rb:Expr}{p:Pos}{wa wb:WE}(hu:X.A.units<cLine)(ha:PE X ra (lift X.K wa))(hb:PE X rb (lift X.K wb))(ma:Mono wa)(mb:Mono wb)(hn:AK rb=true):Good X (.Compare ra [o] [rb] p) (tt2 (w2 (At o) wa wb)):=by
 obtain⟨rr,ho,sim⟩:=DU (X:=X) o hu;have m:Mono (w2 (At o) wa wb) := .two AI ma mb
 exact{pe:=i9 _ (Iu ho ha hb (BT hn)) (B3 sim AI ma mb)
       pt:=DK _ (Iv ho ha hb (BT hn)) λσ H Q h=>B3 sim AI ma mb σ H _ (I0 m σ H Q h)
       m:=m
       mt := .bl m
       pw:=λ_ _ _ e=>by cases e}
theorem GC{o p:CmpOp}{a b c:WE}(ma:Mono a)(mb:Mono b)(mc:Mono c):Mono (MW (At o) (At p) a b c):=λρ S P P' i h=>ma _ _ _ _ (λx S1 h=>mb _ _ _ _ (λy S2 h=>AI _ _ _ _ _ (λz S3 ⟨k,e,q⟩=>⟨k,e,by
 cases k with
 | true=>rw[iP rfl]at q ⊢;exact mc _ _ _ _ (λu S4 h=>AI _ _ _ _ _ i h) q
 | false=>rw[iG VH]at q ⊢;exact i _ _ q⟩) h) h) h
theorem JL{K:V5}{o p:CmpOp}{r r':R2}{a b c:WE}(s1:BN K (At o) r)(s2:BN K (At p) r')(ma:Mono a)(mb:Mono b)(mc:Mono c):∀ σ H Q,lift K (MW (At o) (At p) a b c) σ H Q->HV r r' (lift K a) (lift K b) (lift K c) σ H Q:=by
 rintro σ H Q ⟨as,ρ,S,ok,en,h⟩;refine⟨as,ρ,S,ok,en,ma _ _ _ _ (λx S1 h as1 H1 v g1 ok1 rv=>?_) h⟩;refine⟨as1,ρ,S1,ok1,en.mono g1.pre (g1.ku ok),mb _ _ _ _ (λy S2 h as2 H2 u g2 ok2 ru=>?_) h⟩;refine s1 as2 H2 S2 x y v u _ ok2 (Rl.mono g2.pre (g2.ku ok1) x v rv) ru (AI _ _ _ _ _ (λz S3 ⟨k,e,q⟩ as3 H3 t g3 ok3 rt=>?_) h);subst e;refine⟨k,rl_bl.mp rt,?_⟩;cases k with
 | true=>
   rw[iP rfl]at q ⊢;refine⟨as3,ρ,S3,ok3,(en.mono g1.pre (g1.ku ok)).mono (g2.trans g3).pre ((g2.trans g3).ku ok1),mc _ _ _ _ (λn S4 h as4 H4 m g4 ok4 rm=>?_) q⟩;exact s2 as4 H4 S4 y n u m Q ok4 (Rl.mono (g3.trans g4).pre ((g3.trans g4).ku ok2) y u ru) rm (AI _ _ _ _ _ (λf S5 hf=>hf.mono (((g1.trans g2).trans g3).trans g4)) h)
 | false=>
   rw[iG VH]at q ⊢;exact q as3 H3 _ ((g1.trans g2).trans g3) ok3 (rl_bl.mpr rfl)
theorem Kg{o q:CmpOp}{ra rb rc:Expr}{p:Pos}{wa wb wc:WE}(hu:X.A.units<cLine)(ha:PE X ra (lift X.K wa))(hb:PE X rb (lift X.K wb))(hc:PE X rc (lift X.K wc))(ma:Mono wa)(mb:Mono wb)(mc:Mono wc)(hn:AK rc=true):Good X (.Compare ra [o,q] [rb,rc] p) (tt2 (MW (At o) (At q) wa wb wc)):=by
 obtain⟨r1,ho,sim⟩:=DU (X:=X) o hu;obtain⟨r2,hq,sim2⟩:=DU (X:=X) q hu;have m:Mono (MW (At o) (At q) wa wb wc):=GC ma mb mc;have hm:A0w [o,q] [rb,rc]=false:=BT hn
 exact{pe:=i9 _ (Li ho hq ha hb hc hm) (JL sim sim2 ma mb mc)
       pt:=DK _ (Lj ho hq ha hb hc hm) λσ H Q h=>JL sim sim2 ma mb mc σ H _ (I0 m σ H Q h)
       m:=m
       mt := .bl m
       pw:=λ_ _ _ e=>by cases e}
end
section
variable{K:V5}
theorem n8{c:Bool}{A B A' B':Prop}(ha:A->A')(hb:B->B')(h:if c=true then A else B):if c=true then A' else B':=by
 cases c with
 | true=>rw[iP rfl]at h ⊢;exact ha h
 | false=>rw[iG VH]at h ⊢;exact hb h
theorem Mono.and{a b:WE}(ma:Mono a)(mb:Mono b):Mono (MV a b):=λρ S P P' i h=>ma _ _ _ _ (λx S1 ⟨c,e,q⟩=>⟨c,e,n8 (mb _ _ _ _ i) (i _ _) q⟩) h
theorem Mono.or{a b:WE}(ma:Mono a)(mb:Mono b):Mono (wOr a b):=λρ S P P' i h=>ma _ _ _ _ (λx S1 ⟨c,e,q⟩=>⟨c,e,n8 (i _ _) (mb _ _ _ _ i) q⟩) h
theorem Mono.not{a:WE}(ma:Mono a):Mono (Ow a):=λρ S P P' i h=>ma _ _ _ _ (λx S1 ⟨c,e,q⟩=>⟨c,e,i _ _ q⟩) h
theorem MonoT.and{a b:WT}(ma:MonoT a)(mb:MonoT b):MonoT (DO a b):=λρ S P P' i h=>ma _ _ _ _ (λx S1 q=>n8 (mb _ _ _ _ i) (i _ _) q) h
theorem MonoT.or{a b:WT}(ma:MonoT a)(mb:MonoT b):MonoT (Hu a b):=λρ S P P' i h=>ma _ _ _ _ (λx S1 q=>n8 (i _ _) (mb _ _ _ _ i) q) h
theorem MonoT.not{a:WT}(ma:MonoT a):MonoT (JE a):=λρ S P P' i h=>ma _ _ _ _ (λx S1 q=>i _ _ q) h
theorem Mono.ifE{t:WT}{a b:WE}(mt:MonoT t)(ma:Mono a)(mb:Mono b):Mono (Ox t a b):=λρ S P P' i h=>mt _ _ _ _ (λx S1 q=>n8 (ma _ _ _ _ i) (mb _ _ _ _ i) q) h
theorem Post.at{as as1:List Yi}{H H1:Hp}{Q:VK}{x:SV}{S:Sto}{v:V}(h:Post K as H Q x S)(g:Go as H as1 H1)(ok:Ok K as1 H1 S)(r:Rl K as1 H1 v x):Q v H1:=h as1 H1 v g ok r
theorem JM{a b:WE}(ma:Mono a)(mb:Mono b):∀ σ H Q,lift K (MV a b) σ H Q->QB (lift K a) (lift K b) σ H Q:=by
 rintro σ H Q ⟨as,ρ,S,ok,en,h⟩;refine⟨as,ρ,S,ok,en,ma _ _ _ _ (λx S1 ⟨c,e,q⟩ as1 H1 v g1 ok1 rv=>?_) h⟩;subst e;refine⟨c,rl_bl.mp rv,n8 (λq=>?_) (λq=>q.at g1 ok1 (rl_bl.mpr rfl)) q⟩;exact⟨as1,ρ,S1,ok1,en.mono g1.pre (g1.ku ok),mb _ _ _ _ (λy S2 h=>h.mono g1) q⟩
theorem Mu{a b:WE}(ma:Mono a)(mb:Mono b):∀ σ H Q,lift K (wOr a b) σ H Q->TD (lift K a) (lift K b) σ H Q:=by
 rintro σ H Q ⟨as,ρ,S,ok,en,h⟩;refine⟨as,ρ,S,ok,en,ma _ _ _ _ (λx S1 ⟨c,e,q⟩ as1 H1 v g1 ok1 rv=>?_) h⟩;subst e;refine⟨c,rl_bl.mp rv,n8 (λq=>q.at g1 ok1 (rl_bl.mpr rfl)) (λq=>?_) q⟩;exact⟨as1,ρ,S1,ok1,en.mono g1.pre (g1.ku ok),mb _ _ _ _ (λy S2 h=>h.mono g1) q⟩
theorem PC{a:WE}(ma:Mono a):∀ σ H Q,lift K (Ow a) σ H Q->QC (lift K a) σ H Q:=by
 rintro σ H Q ⟨as,ρ,S,ok,en,h⟩;refine⟨as,ρ,S,ok,en,ma _ _ _ _ (λx S1 ⟨c,e,q⟩ as1 H1 v g1 ok1 rv=>?_) h⟩;subst e;exact⟨c,rl_bl.mp rv,q.at g1 ok1 (rl_bl.mpr rfl)⟩
theorem PostT.mono{as as1:List Yi}{H H1:Hp}{Q:Bool->Hp->Prop}{x:Bool}{S:Sto}(h:PostT K as H Q x S)(g:Go as H as1 H1):PostT K as1 H1 Q x S:=λas' H' g'=>h as' H' (g.trans g')
theorem GD{a b:WT}(ma:MonoT a)(mb:MonoT b):∀ σ H Q,liftT K (DO a b) σ H Q->TB (liftT K a) (liftT K b) σ H Q:=by
 rintro σ H Q ⟨as,ρ,S,ok,en,h⟩;refine⟨as,ρ,S,ok,en,ma _ _ _ _ (λc S1 q as1 H1 g1 ok1=>?_) h⟩;refine n8 (λq=>?_) (λq=>q as1 H1 g1 ok1) q;exact⟨as1,ρ,S1,ok1,en.mono g1.pre (g1.ku ok),mb _ _ _ _ (λy S2 h=>h.mono g1) q⟩
theorem JN{a b:WT}(ma:MonoT a)(mb:MonoT b):∀ σ H Q,liftT K (Hu a b) σ H Q->tOr (liftT K a) (liftT K b) σ H Q:=by
 rintro σ H Q ⟨as,ρ,S,ok,en,h⟩;refine⟨as,ρ,S,ok,en,ma _ _ _ _ (λc S1 q as1 H1 g1 ok1=>?_) h⟩;refine n8 (λq=>q as1 H1 g1 ok1) (λq=>?_) q;exact⟨as1,ρ,S1,ok1,en.mono g1.pre (g1.ku ok),mb _ _ _ _ (λy S2 h=>h.mono g1) q⟩
theorem Mv{a:WT}(ma:MonoT a):∀ σ H Q,liftT K (JE a) σ H Q->TC (liftT K a) σ H Q:=by
 rintro σ H Q ⟨as,ρ,S,ok,en,h⟩;exact⟨as,ρ,S,ok,en,ma _ _ _ _ (λc S1 q as1 H1 g1 ok1=>q as1 H1 g1 ok1) h⟩
theorem PD{t:WT}{a b:WE}(mt:MonoT t)(ma:Mono a)(mb:Mono b):∀ σ H Q,lift K (Ox t a b) σ H Q->tIf (liftT K t) (lift K a) (lift K b) σ H Q:=by
 rintro σ H Q ⟨as,ρ,S,ok,en,h⟩;refine⟨as,ρ,S,ok,en,mt _ _ _ _ (λc S1 q as1 H1 g1 ok1=>?_) h⟩;refine n8 (λq=>?_) (λq=>?_) q
 ·exact⟨as1,ρ,S1,ok1,en.mono g1.pre (g1.ku ok),ma _ _ _ _ (λy S2 h=>h.mono g1) q⟩
 ·exact⟨as1,ρ,S1,ok1,en.mono g1.pre (g1.ku ok),mb _ _ _ _ (λy S2 h=>h.mono g1) q⟩
end
section
variable{X:Cx}
theorem FC{e:Expr}{t:TT}(t':TT)(h:PW X e t)(imp:∀ σ H Q,t' σ H Q->t σ H Q):PW X e t':=λwh pq s σ H Q I hw=>h wh pq s σ H Q I (imp σ H Q hw)
theorem IA{x y:Expr}{p:Pos}{a b:WE×WT}(ha:Good X x a)(hb:Good X y b):Good X (.BoolOp .And [x,y] p) (MV a.1 b.1,DO a.2 b.2):=
 have pw:PW X (.BoolOp .And [x,y] p) (liftT X.K (DO a.2 b.2)):=FC _ (LV ha.pt (OC hb.pt)) (GD ha.mt hb.mt)
 {pe:=i9 _ (LX ha.pe (LW hb.pe)) (JM ha.m hb.m),pt:=pw.pt,m := .and ha.m hb.m,mt := .and ha.mt hb.mt,pw:=λ_ _ _ _=>pw}
theorem IB{x y z:Expr}{zs:List Expr}{p:Pos}{a b:WE×WT}(ha:Good X x a)(hb:Good X (.BoolOp .And (y::z::zs) p) b):Good X (.BoolOp .And (x::y::z::zs) p) (MV a.1 b.1,DO a.2 b.2):=
 have pw:PW X (.BoolOp .And (x::y::z::zs) p) (liftT X.K (DO a.2 b.2)):=FC _ (LV ha.pt (hb.pw _ _ _ rfl)) (GD ha.mt hb.mt)
 {pe:=i9 _ (LX ha.pe hb.pe) (JM ha.m hb.m),pt:=pw.pt,m := .and ha.m hb.m,mt := .and ha.mt hb.mt,pw:=λ_ _ _ _=>pw}
theorem Kh{x y:Expr}{p:Pos}{a b:WE×WT}(ha:Good X x a)(hb:Good X y b):Good X (.BoolOp .Or [x,y] p) (wOr a.1 b.1,Hu a.2 b.2):=
 have pw:PW X (.BoolOp .Or [x,y] p) (liftT X.K (Hu a.2 b.2)):=FC _ (QA ha.pt (R8 hb.pt)) (JN ha.mt hb.mt)
 {pe:=i9 _ (QD ha.pe (LW hb.pe)) (Mu ha.m hb.m),pt:=pw.pt,m := .or ha.m hb.m,mt := .or ha.mt hb.mt,pw:=λ_ _ _ _=>pw}
theorem Ki{x y z:Expr}{zs:List Expr}{p:Pos}{a b:WE×WT}(ha:Good X x a)(hb:Good X (.BoolOp .Or (y::z::zs) p) b):Good X (.BoolOp .Or (x::y::z::zs) p) (wOr a.1 b.1,Hu a.2 b.2):=
 have pw:PW X (.BoolOp .Or (x::y::z::zs) p) (liftT X.K (Hu a.2 b.2)):=FC _ (QA ha.pt (hb.pw _ _ _ rfl)) (JN ha.mt hb.mt)
 {pe:=i9 _ (QD ha.pe hb.pe) (Mu ha.m hb.m),pt:=pw.pt,m := .or ha.m hb.m,mt := .or ha.mt hb.mt,pw:=λ_ _ _ _=>pw}
theorem Kj{x:Expr}{p:Pos}{a:WE×WT}(ha:Good X x a):Good X (.UnaryOp .Not x p) (Ow a.1,JE a.2) where
 pe:=i9 _ (RA ha.pe) (PC ha.m)
 pt:=DK _ (R9 ha.pt) (Mv ha.mt)
 m := .not ha.m
 mt := .not ha.mt
 pw:=λ_ _ _ e=>by cases e
theorem Kk{t x y:Expr}{p:Pos}{c a b:WE×WT}(hc:Good X t c)(ha:Good X x a)(hb:Good X y b):Good X (.IfExp t x y p) (Ox c.2 a.1 b.1,λ_ _ _=>False) where
 pe:=i9 _ (LY hc.pt ha.pe hb.pe) (PD hc.mt ha.m hb.m)
 pt:=GB
 m := .ifE hc.mt ha.m hb.m
 mt:=λ_ _ _ _ _ h=>h
 pw:=λ_ _ _ e=>by cases e
theorem SF{i:Nat}{x:Str}{p:Pos}{N:List Str}{sc:Yu}{T:List Str}{Δ:Nat->Sn}{k:Nat}(C:Cok T Δ X k N sc)(hi:N[i]?=some x)(hv:vis sc x=true)(h1:(x == ("__debug__":Str))=false)(h2:(x == ("__classdict__":Str))=false):PE X (.Name x p) (O9 i):=by
 have hv':Vis X.env.scope x:=by
  rw[C.hs];unfold vis at hv;simp only[Vu,beq_iff_eq]at hv;rcases hv with(hv | hv) | hv
  ·exact .inl hv
  ·exact .inr (.inl hv)
  ·exact .inr (.inr hv)
 exact R4 (i:=i) (by rw[C.hN];exact hi) hv' h1 h2
theorem PF{x:SV}{k:Const}{j:Nat}{p:Pos}(h:SD x k=true):Good X (.Constant k j p) (tt1 (wC x)):=by
 refine .one ?_ .c rfl;unfold SD at h;split at h
 ·exact i9 _ R6 (Fp λ_ _=>rl_non.mpr rfl)
 ·rw[beq_iff_eq]at h;subst h;exact i9 _ T9 (Fp λ_ _=>rl_bl.mpr rfl)
 ·have h:=of_decide_eq_true h;subst h;exact i9 _ R5 (Fp λ_ _=>rl_int.mpr rfl)
 ·have h:=of_decide_eq_true h;subst h;exact i9 _ R7 (Fp λ_ _=>rl_str.mpr rfl)
 ·cases h
theorem DV:Fo MS:=λx S P P' i h=>by
 unfold MS at h ⊢;split at h
 ·exact i _ _ h
 ·exact h.elim
theorem Kl{x:Expr}{p:Pos}{a:WE×WT}(ha:Good X x a):Good X (.UnaryOp .USub x p) (tt1 (w1 MS a.1)):=by
 refine .one (i9 _ (TX RL ha.pe) (Rn (λas H S x v Q ok r h=>?_) DV ha.m)) (.one DV ha.m) rfl;unfold MS at h;split at h
 ·exact⟨_,rl_int.mp r,h.here ok (rl_int.mpr rfl)⟩
 ·exact h.elim
theorem DW{b:Expr}(h:t7 b=true):J2 b:=λo i=>by cases b<;>first | rfl | cases h
theorem Mw{x y:Expr}{p:Pos}{a b:WE×WT}(ha:Good X x a)(hb:Good X y b)(h:t7 y=true):Good X (.Subscript x y p) (tt1 (w2 sIx a.1 b.1)):=
 .one (i9 _ (Tm (ix_list.or RV) ha.pe hb.pe (DW h)) (B3 Rw .ix ha.m hb.m)) (.two .ix ha.m hb.m) rfl
def UJ(K:V5)(as:List Yi)(H:Hp)(Q:Option Int->Hp->Prop):Option Int->Sto->Prop:=λb S'=>∀ as' H',Go as H as' H'->Ok K as' H' S'->Q b H'
noncomputable def GE(K:V5)(w:WO):St->Hp->(Option Int->Hp->Prop)->Prop:=λσ H Q=>∃ as ρ S,Ok K as H S/\EnvOk K as H σ ρ/\w ρ S (UJ K as H Q)
def MonoO(w:WO):Prop:=∀ ρ S (P P':Option Int->Sto->Prop),(∀ x S',P x S'->P' x S')->w ρ S P->w ρ S P'
theorem MonoO.no:MonoO SA:=λ_ _ _ _ i h=>i _ _ h
theorem MonoO.yes{w:WE}(m:Mono w):MonoO (MX w):=λ_ _ _ _ i h=>m _ _ _ _ (λx S1 ⟨k,e,q⟩=>⟨k,e,i _ _ q⟩) h
theorem UK:PO X none (GE X.K SA):=λpq s σ H Q I ⟨as,ρ,S,ok,en,h⟩=>ON pq s σ H Q I (h as H (Go.refl _ _) ok)
theorem SG{x:Expr}{a:WE×WT}(ha:Good X x a):PO X (some x) (GE X.K (MX a.1)):=λpq s σ H Q I ⟨as,ρ,S,ok,en,h⟩=>
 OO ha.pe pq s σ H Q I ⟨as,ρ,S,ok,en,ha.m _ _ _ _ (λy S1 ⟨k,e,q⟩ as1 H1 v g1 ok1 rv=>⟨k,by subst e;exact rl_int.mp rv,q as1 H1 g1 ok1⟩) h⟩
theorem RlAll.cut{K:V5}{as:List Yi}{H:Hp}{xs:List SV}{vs:List V}(h:RlAll K as H vs xs)(lo hi:Option Int):RlAll K as H (Fb vs lo hi) (F7 xs lo hi):=by
 unfold Fb F7;rw[h.length];exact(h.drop _).take _
theorem DX{x:SV}{lo hi:Option Int}{S:Sto}{P P':QE}(i:∀ x S',P x S'->P' x S')(h:MY x lo hi S P):MY x lo hi S P':=by
 unfold MY at h ⊢;split at h
 ·obtain⟨xs,a,b⟩:=h;exact⟨xs,a,i _ _ b⟩
 ·exact i _ _ h
 ·exact h.elim
theorem PH{K:V5}{as:List Yi}{H:Hp}{S:Sto}{Q:VK}{x:SV}{v:V}{l k:Option Int}(ok:Ok K as H S)(r:Rl K as H v x)(h:MY x l k S (Post K as H Q)):Tp K v l k H Q\/Tl K v l k H Q\/Tz K v l k H Q:=by
 cases x with
 | loc j=>
   obtain⟨xs,h1,h2⟩:=h;obtain⟨b,vs,rfl,_,hb,rr⟩:=p9 ok r h1;exact .inl ⟨b,vs,rfl,SqL.of hb,AS ok (rr.cut l k) h2⟩
 | tup xs=>
   obtain⟨b,vs,rfl,hb,rr⟩:=rl_tup.mp r;by_cases hw:HT.sIx vs.length 0 l=0/\HT.sIx vs.length vs.length k=vs.length
   ·refine .inr (.inr ⟨b,vs,rfl,SqT.of hb,hw,?_⟩)
    have e:F7 xs l k=xs:=by
     unfold F7;rw[<-rr.length,hw.1,hw.2,rr.length];simp
    have h':Post K as H Q (.tup (F7 xs l k)) S:=h;rw[e]at h';exact h'.here ok r
   ·exact .inr (.inl ⟨b,vs,rfl,SqT.of hb,hw,C8 ok (rr.cut l k) h⟩)
 | _=>exact False.elim h
theorem Km{x:Expr}{rl rh:Option Expr}{p p2:Pos}{a:WE×WT}{lo hi:WO}(ha:Good X x a)(hl:PO X rl (GE X.K lo))(hh:PO X rh (GE X.K hi))(ml:MonoO lo)(mh:MonoO hi):Good X (.Subscript x (.Slice rl rh none p2) p) (tt1 (SB a.1 lo hi)):=by
 refine .one (i9 _ (Lp (sl_list.or (sl_tup.or OX)) ha.pe hl hh) ?_) (λρ S P P' i h=>ha.m _ _ _ _ (λx S1 h=>ml _ _ _ _ (λl S2 h=>mh _ _ _ _ (λk S3 h=>DX i h) h) h) h) rfl;rintro σ H Q ⟨as,ρ,S,ok,en,h⟩;refine⟨as,ρ,S,ok,en,ha.m _ _ _ _ (λx S1 h as1 H1 v g1 ok1 rv=>?_) h⟩;refine⟨as1,ρ,S1,ok1,en.mono g1.pre (g1.ku ok),ml _ _ _ _ (λl S2 h as2 H2 g2 ok2=>?_) h⟩;refine⟨as2,ρ,S2,ok2,(en.mono g1.pre (g1.ku ok)).mono g2.pre (g2.ku ok1),mh _ _ _ _ (λk S3 h as3 H3 g3 ok3=>?_) h⟩;have rv3:=Rl.mono (g2.trans g3).pre ((g2.trans g3).ku ok1) x v rv;have g:=(g1.trans g2).trans g3;exact PH ok3 rv3 (DX (λ_ _ h=>h.mono g) h)
end
end Rf
namespace L2
open PySem PySem.Spec PyProof.Rows
section
variable{prog:Yn}{w:Yq}{A:Yt}{R:Result->Yh->Prop}{I:Yi}{fp wr:List Yi}{G:Array A0n->Array A0n->Prop}{n:Nat}{P:Nat->Yg->Prop}{St:Nat->Yh->Prop}
noncomputable def TupsAt(prog:Yn)(w:Yq)(h:Heap)(n:Nat)(ta:Nat->Yi)(kv:Nat->Key×Yg):Prop:=∀ i,i<n->∃ key,(m8 prog w).is (kv i).1 key=true/\h.IsTuple (ta i) #[key,(kv i).2]
theorem TupsAt.keep{h h':Heap}{ta:Nat->Yi}{kv:Nat->Key×Yg}(t:TupsAt prog w h n ta kv)(k:∀ i o,i<n->h.get? (ta i)=some o->h'.get? (ta i)=some o):TupsAt prog w h' n ta kv:=λi hi=>by
 obtain⟨key,hk,o,ho,r⟩:=t i hi;exact⟨key,hk,o,k i o hi ho,r⟩
end
def Kpt(hb h:Heap):Prop:=∀ b o,hb.get? b=some o->h.get? b=some o
structure Sk(hb h:Heap)(a k:Yi)(ks xs:Array Yg)(e:Nat):Prop where
 a0:hb.get? a=none
 k0:hb.get? k=none
 ne:k≠a
 kp:Kpt hb h
 kk:∃ n,h.get? k=some (seqObj "list" ks n)
 aa:h.get? a=some (seqObj "list" xs e)
theorem Sk.grow{hb h h':Heap}{a k:Yi}{ks xs:Array Yg}{e:Nat}(S:Sk hb h a k ks xs e)(K:Kpt h h'):Sk hb h' a k ks xs e:=
 ⟨S.a0,S.k0,S.ne,λb o q=>K _ _ (S.kp b o q),S.kk.elim λn q=>⟨n,K _ _ q⟩,K _ _ S.aa⟩
theorem KV.at{κ:Type}{ks:List (κ×V)}{vs:List (κ×Yg)}(r:KV ks vs):∀{i:Nat} {p:κ×V},ks[i]?=some p->∃ v,vs[i]?=some (p.1,v)/\RelV p.2 v:=by
 intro i
 induction r generalizing i with
 | nil=>exact λh=>by simp at h
 | @cons a b _ _ h _ ih=>
   intro p hp;cases i with
   | zero=>cases hp;exact⟨b.2,by rw[h.1];rfl,h.2⟩
   | succ i=>exact ih hp
theorem KT.at{H:Hp}:∀{kvs:List (List Key×V)} {xs:List (List Key×Yi×Yg)},KT H kvs xs->∀{i:Nat} {p:List Key×V},kvs[i]?=some p->∃ q,xs[i]?=some q/\H q.2.1=some (.tup (p.1.map kV))
 | _,_,.nil,_,_,h=>by simp at h
 | _,_,.cons a t,0,p,h=>by simp at h;subst h;exact⟨_,rfl,a.2.1⟩
 | _,_,.cons a t,i+1,p,h=>by
   obtain⟨q,e,z⟩:=KT.at t (i:=i) (p:=p) (by simpa using h);exact⟨q,by simpa using e,z⟩
section
variable{X:Cx}{o e f:Expr}{apos cpos:Pos}{td ty tx:TE}
def SH(td ty tx:TE):TE:=λσ H Q=>td σ H λx H1=>∃ a,x = .ref a/\IsD H1 a/\ty σ H1 λy H2=>tx σ H2 λz H3=>∃ kvs k,y=kV k/\H3 a=some (.dK kvs)/\kvs.length<Yl/\
 (∀ v,v7 kvs k=some v->Q v H3)/\(v7 kvs k=none->Q z (upd H3 a (.dK (Ac kvs k z))))
theorem Mx(ho:PE X o td)(he:PE X e ty)(hf:PE X f tx)(m:M2 X o "setdefault" apos e f cpos):PE X (.Call (.Attribute o "setdefault" apos) [e,f] [] cpos) (SH td ty tx):=by
 intro pq s σ H Q I h;refine Zo m.base m.few m.line PySem.F.plainAttrs_dict PySem.F.slot_dict_setdefault PySem.F.type_dict_setdefault (thn (ho pq s σ H _ I h) λu s1 ⟨x,H1,I1,rx,a,ex,d,q1⟩=>?_);subst ex;obtain rfl:u=Value.ref a:=rx;obtain⟨t1,t2,_⟩:=Hl I1 d;refine⟨t1,t2,?_⟩;rw[m.trees]
 refine Calls.callWith_builtin rfl (Calls.evalArgs_plain (Calls.spliced_cons (thn (he pq s1 σ H1 _ I1 q1) λiv s2 ⟨y,H2,I2,ry,q2⟩=>
  Calls.spliced_cons (thn (hf pq s2 σ H2 _ I2 q2) λfv s3 ⟨z,H3,I3,rz,kvs,k,ey,ha,hz,qs,qn⟩=>Calls.spliced_nil ?_))))
 subst ey;obtain⟨hl,hd,vs,rel,dd⟩:=QL I3.hok ha;refine Zg PySem.F.slot_dict_setdefault dd.typeIs PySem.F.entry_dict_setdefault (PySem.F.args_dict_setdefault_3 _ _ _) (kt_meets_setdefault (m8 X.prog X.w) a (Fj ry) hd fv) ⟨vs,dd,by rw[<-rel.length];exact hl,λv e=>?_,λe h' dd' hs=>?_⟩
 ·have rv:=rel.val k;rw[e]at rv;cases hv:v7 kvs k with
  | none=>rw[hv]at rv;exact rv.elim
  | some w=>rw[hv]at rv;exact⟨w,H3,I3.tok _,rv,qs w hv⟩
 ·have hv:v7 kvs k=none:=by
   have rv:=rel.val k;rw[e]at rv;cases hv:v7 kvs k with
   | none=>rfl
   | some v=>rw[hv]at rv;exact rv.elim
  refine⟨z,_,?_,rz,qn hv⟩;have hl2:(Ac kvs k z).length<=Yl:=by have:=Ae kvs k z;omega
  have he:∃ q,h'.get? a=some q:=let ⟨q,_,_,hq,_⟩:=dd';⟨q,hq⟩
  exact Cw I3 (by rw[ha];exact True.intro) hs he (M7 hl2 hd (rel.put k rz) dd')
end
section
variable{X:Cx}
theorem JO(hu:X.A.units<cLine):OpR X (Yv .Eq) (λx y H Q=>∃ a b,∃ i j k l:Int,x = .ref a/\y = .ref b/\SqT X.K H a [.int i,.int j]/\SqT X.K H b [.int k,.int l]/\Q (.bl (decide (i=k/\j=l))) H):=by
 intro pq s σ H x y v u Q I rx ry h;obtain⟨a,b,i,j,k,l,rfl,rfl,h1,h2,q⟩:=h;cases rx;cases ry;obtain⟨its1,r1,p1,_⟩:=I.tuple h1;obtain⟨its2,r2,p2,_⟩:=I.tuple h2;have l1:=r1.length;have l2:=r2.length;refine(SeqAt.RcAt.tuples (A:=X.A) (s:=s) (e:=λm=>eqV (([.int i,.int j]:List V).getD m .non) (([.int k,.int l]:List V).getD m .non)) p1 p2 hu (Bv r1 r2 (.inl ⟨rfl,rfl⟩))) _ _ _ _ ⟨.bl _,H,I,?_,q⟩;show Value.bool _=Value.bool _
 congr 1
 rw[VC,VC,<-l1,<-l2];show(List.all [0,1] _&&(2 == 2))=_;simp[eqV,Bool.decide_and,Bool.beq_eq_decide_eq]
end
end L2
namespace PySem
def DEn(h:Heap)(d:Yi)(es:Array ZO)(ep:Nat):Prop:=∃ o,h.get? d=some o/\o.ExactDict/\o.data = .dict es ep
theorem DEn.keep{h h':Heap}{d:Yi}{es:Array ZO}{ep:Nat}(x:DEn h d es ep)(k:∀ o,h.get? d=some o->h'.get? d=some o):DEn h' d es ep:=let ⟨o,e,r⟩:=x;⟨o,k o e,r⟩
theorem DEn.lt{h:Heap}{d:Yi}{es:Array ZO}{ep:Nat}(x:DEn h d es ep):d<h.objs.size:=let ⟨_,e,_⟩:=x;VJ e
section
variable{prog:Yn}{w:Yq}{A:Yt}{E:Yg->Yh->Prop}{s:Yh}
theorem Cu{v d:Yi}{es:Array ZO}{ep:Nat}{Q:Yg->Yh->Prop}(hv:s.heap.IsValuesView v d)(hm:DEn s.heap d es ep)
 (hQ:Q (.ref s.heap.objs.size) {s with heap:=s.heap.push {cls := .type "dict_valueiterator",data := .fields #[.ref d,.int 0 0,.int es.size 0,.int ep 0]}}):Yk (Ym prog w) A (pyIter (.ref v)) Q E s:=by
 obtain⟨ov,hov,_,hdv⟩:=id hv;obtain⟨o,ho,_,hdat⟩:=id hm;refine wpAny_pyIter_slot hv.typeIs F.slot_dict_values_iter (Z8 F.slot_dict_values_iter hv.typeIs F.entry_dict_values_iter ?_ (F.args_dict_values_iter_1 _));unfold Builtin.«dict_values.__iter__»;refine Yf (Yj (Yf ?_));unfold Builtin.Dict_items.dictOf;refine Yf (ZQ hov hdv (x := .ref d) rfl (Yj (Yf ?_)));unfold Builtin.Dict_items.newIterator;refine Yf (Za ho hdat (Yf (Zz ho hdat ?_)));simp only[show Builtin.Dict_items.ownsTuple "dict_valueiterator"=false by decide,WC,if_false];refine Ys (Yj ⟨_,rfl,"dict_valueiterator",_,⟨_,VR _ rfl,rfl⟩,F.slot_dict_valueiterator_next.lookup,?_⟩);simpa[rawInt] using hQ
theorem BU{it d:Yi}{i ep:Nat}{es:Array ZO}{e:ZO}{Q:Option Yg->Yh->Prop}(hit:s.heap.IsValIter it d i es.size ep)(hm:DEn s.heap d es ep)(hx:es[i]?=some e)
 (hQ:∀ h',h'.IsValIter it d (i+1) es.size ep->W5 it s.heap h'->Q (some e.val) {s with heap:=h'}):Yk (Ym prog w) A (pyNext (.ref it)) Q E s:=by
 obtain⟨o,ho,hc,hd⟩:=id hit;obtain⟨od,hod,_,hdd⟩:=id hm;have hlt:i<es.size:=(XG.mp hx).1;have hval:es[i]=e:=(XG.mp hx).2;unfold pyNext;refine Yf (wpAny_attempt (Yy (name:=Str.ofString "__next__") hit.typeIs F.slot_dict_valueiterator_next (Z8 F.slot_dict_valueiterator_next hit.typeIs F.entry_dict_valueiterator_next ?_ (F.args_dict_valueiterator_next_1 _))));refine Yf (Yj (Yf (Yf ?_)))
 first | refine Yf (Z4 hit.typeIs (Yj ?_)) | refine Yf (ZE hit.typeIs (Yj ?_))
 refine Yf (A0u ho hd ?_);simp only[show Builtin.Dict_items.ownsTuple "dict_valueiterator"=false by decide,WC,if_false];show Yk _ _ (if (Value.ref d == Value.none)=true then _ else _) _ _ s;rw[iG (show ¬ ((Value.ref d == Value.none)=true) from VH)];refine Yf (Yj (Yf (Za hod hdd ?_)));rw[iG (by simp)];refine Yf (Yj (Yf (Zz hod hdd ?_)));rw[iG (by simp)];refine Yj ?_;simp only[show ¬ ((i:Int)<0) from by omega,if_false,WX,hx];refine Yf ?_
 first | refine Yf (Z4 hit.typeIs (Yj ?_)) | refine Yf (ZE hit.typeIs (Yj ?_))
 refine Yf (Zb hit.typeIs ?_);show Yk _ _ (setField (.ref it) 1 (rawInt ((i:Int)+1)) >>= _) _ _ s;refine Yf (Zl ho hd (by simp) ?_)
 have hit':(s.heap.update it (Obj.mapFields (·.setIfInBounds 1 (rawInt ((i:Int)+1))))).IsValIter it d (i+1) es.size ep:=
  ⟨_,W2 _ ho (Obj.isFreed_of_fields (Obj.data_mapFields hd _)),(Obj.cls_mapFields ..).trans hc,by rw[Obj.data_mapFields hd];simp[rawInt]⟩
 refine Yf (Yz (Yf (Zb (s:={s with heap:=s.heap.update it (Obj.mapFields (·.setIfInBounds 1 (rawInt ((i:Int)+1))))}) hit'.typeIs ?_)));refine Yf (Zb (s:={s with heap:=s.heap.update it (Obj.mapFields (·.setIfInBounds 1 (rawInt ((i:Int)+1))))}) hit'.typeIs ?_);show Yk _ _ (pure e.val) _ _ _;exact Yj (Yj ⟨_,rfl,Yj (hQ _ hit' (W5.update ..))⟩)
theorem Bk{it d:Yi}{ep:Nat}{es:Array ZO}{Q:Option Yg->Yh->Prop}(hh:A.handled=none)(hit:s.heap.IsValIter it d es.size es.size ep)(hm:DEn s.heap d es ep)
 (hQ:∀ h',Yd it s.heap h'->Q none {s with heap:=h'}):Yk (Ym prog w) A (pyNext (.ref it)) Q E s:=by
 obtain⟨o,ho,hc,hd⟩:=id hit;obtain⟨od,hod,_,hdd⟩:=id hm;unfold pyNext;refine Yf (wpAny_attempt (Yy (name:=Str.ofString "__next__") hit.typeIs F.slot_dict_valueiterator_next (Z8 F.slot_dict_valueiterator_next hit.typeIs F.entry_dict_valueiterator_next ?_ (F.args_dict_valueiterator_next_1 _))));refine Yf (Yj (Yf (Yf ?_)))
 first | refine Yf (Z4 hit.typeIs (Yj ?_)) | refine Yf (ZE hit.typeIs (Yj ?_))
 refine Yf (A0u ho hd ?_);simp only[show Builtin.Dict_items.ownsTuple "dict_valueiterator"=false by decide,WC,if_false];show Yk _ _ (if (Value.ref d == Value.none)=true then _ else _) _ _ s;rw[iG (show ¬ ((Value.ref d == Value.none)=true) from VH)];refine Yf (Yj (Yf (Za hod hdd ?_)));rw[iG (by simp)];refine Yf (Yj (Yf (Zz hod hdd ?_)));rw[iG (by simp)];refine Yj ?_;simp only[show ¬ ((es.size:Int)<0) from by omega,if_false,WX,Array.getElem?_eq_none (VF es.size)];refine Yf ?_
 first | refine Yf (Z4 hit.typeIs (Yj ?_)) | refine Yf (ZE hit.typeIs (Yj ?_))
 show Yk _ _ (setField (.ref it) 0 .none >>= _) _ _ s;refine Yf (Zl ho hd (by simp) ?_);show Yk _ _ (newExc (.type "StopIteration") [] >>= _) _ _ _;refine Yf ?_;simp only[newExc,newTuple];refine Yf (Ys ?_ (by size_fits));refine Yf (m:=Zm _ _) (A03 (a:=Value.none) (by first | rfl | (simp only[Zm];rfl)) ?_);refine Ys ?_ (by size_fits);simp only[raiseNew];refine Yf (wpAny_handled ?_);rw[show A.in1.handled=none from hh];refine Yf (Yj (wpAny_throw ?_));refine Yf (wpAny_isInstance (T:="StopIteration") (b:=true) ⟨_,VR _ rfl,rfl⟩ isSubtype_stop ?_);exact Yj (hQ _ (((W5.update ..).extBut.push _).push _))
theorem Cv(hh:A.handled=none)(I d:Yi)(hne:d≠I)(es:Array ZO)(ep:Nat):
 Walks prog w A I [I,d] [I] es.size (λi v=>∃ e,es[i]?=some e/\e.val=v) (λi h=>h.IsValIter I d i es.size ep/\DEn h d es ep) where
 sub:=λb hb=>by simp at hb;simp[hb]
 frame:=λ_ _ _ st hk=>⟨st.1.at λo e=>hk I (by simp) o e,st.2.keep λo e=>hk d (by simp) o e⟩
 item:=λi s Q E hi st hQ=>by
  refine BU (e:=es[i]) st.1 st.2 (by simp[hi]) λh' hit' hs'=>?_;exact hQ es[i].val h' s.toks ⟨es[i],by simp[hi],rfl⟩ ⟨hit',st.2.keep λo e=>hs'.extBut _ _ hne e⟩ λb o hb e=>hs'.extBut b o (λh=>hb (by simp[h])) e
 done:=λs Q E st hQ=>Bk hh st.1 st.2 λh' he'=>hQ h' s.toks λb o hb e=>he' b o (λh=>hb (by simp[h])) e
 self:=λ_ _ _ _ st hQ=>wpAny_pyIter_valiter st.1 hQ
end
theorem DY{prog:Yn}{w:Yq}{d r:Yi}{es:Array ZO}{ep:Nat}:PySem.W.KdlSrc prog w "dict_values" r d es.size (λi v=>∃ e,es[i]?=some e/\e.val=v) (λh=>h.IsValuesView r d/\DEn h d es ep) where
 type:=λ_ hm=>hm.1.typeIs
 there:=λ_ hm=>⟨let ⟨_,ho,_⟩:=hm.1;VJ ho,hm.2.lt⟩
 keep:=λ_ _ hm hk=>⟨let ⟨o,ho,x⟩:=hm.1;⟨o,hk r (.inl rfl) o ho,x⟩,hm.2.keep λo e=>hk d (.inr rfl) o e⟩
 notList:=by decide
 notTuple:=by decide
 hint:=λ_ _ _ _ hm hq=>PySem.W.kdl_hint_values hm.1.typeIs hq
 iter:=λ_ _ hh hm=>⟨_,_,(λ_ _ hq=>Cu hm.1 hm.2 hq),Cv hh _ d (VO hm.2.lt) es ep,⟨⟨_,VR _ rfl,rfl,rfl⟩,hm.2.keep λo e=>VE _ e⟩⟩
theorem Cb{prog:Yn}{w:Yq}(d:Yi)(hd:(d == Z0)=false):
 MeetsIn prog w (Builtin.«dict.values» ⟨[.ref d],[]⟩) (λ_ R s=>s.TypeIs (.ref d) "dict"/\R (.ok (.ret (.ref s.heap.objs.size))) {s with heap:=s.heap.push {cls := .type "dict_values",data := .fields #[.ref d]}}):=
 .of_wp λA R s ⟨hm,h⟩=>by
  refine Yf ?_;unfold Builtin.Dict.noArgs;refine Yf (A00 hm ?_);show Yk _ _ (pure d) _ _ s;refine Yj ?_;show Yk _ _ (Builtin.Dict.showsAll d >>= _) _ _ s;unfold Builtin.Dict.showsAll;rw[iG (by rw[hd];exact VH)];exact Yf (Yj (Yf (Ys (Yj ⟨_,rfl,h⟩))))
end PySem
namespace L2
open PySem PySem.Spec PyProof.Rows
section
variable{X:Cx}{o:Expr}{apos cpos pos p:Pos}{td:TE}
def UL(td:TE):TE:=λσ H Q=>td σ H λx H1=>∃ a kvs,x = .ref a/\H1 a=some (.dT kvs)/\∀ p,H1 p=none->Q (.ref p) (upd H1 p (.lst (kvs.map (·.2))))
theorem D0{H:Hp}:∀{kvs:List (List Key×V)} {xs:List (List Key×Yi×Yg)},KT H kvs xs->Vals (kvs.map (·.2)) (xs.map λx=>x.2.2)
 | _,_,.nil => .nil
 | _,_,.cons h r => .cons h.2.2 (D0 r)
theorem PJ(hc:X.calm=true)(hg:Gl X "list")(hm:X.mg "list"=none)(hv:Yp "list"=some (.type "list"))(ho:PE X o td)
 (hbase:ZT o "values" X.env (eval o X.env)=eval o X.env:=by rfl) (hline:(apos.endLine == cpos.line)=true:=by rfl)
 (he:Yr [.Call (.Attribute o "values" apos) [] [] cpos] X.env=[(false,eval (.Call (.Attribute o "values" apos) [] [] cpos) X.env)]:=by rfl):
 PE X (.Call (.Name "list" p) [.Call (.Attribute o "values" apos) [] [] cpos] [] pos) (UL td):=by
 intro pq s σ H Q I h;refine ZI (BF I hg hm hv ?_);refine PyProof.Rows.callWith_type1 (rest:=[]) ?_ he rfl;rw[he];refine Calls.spliced_cons ?_;refine Zr hbase hline (thn (ho pq s σ H _ I h) λv s1 ⟨x,H1,I1,r1,a,kvs,e,hd,q⟩=>?_);subst e;cases r1;obtain⟨hz,hsm,xs,kt,hdo⟩:=M6 I1.hok hd;obtain⟨ob,es,ep,hob,hex,hdat,hes,_,_⟩:=id hdo;refine⟨"dict","dict.values",PySem.F.plainAttrs_dict,PySem.F.slot_dict_values,PySem.F.type_dict_values,⟨ob,hob,hex.1⟩,λb eb=>by cases eb;exact⟨ob,hob,hex.2.1⟩,Calls.callWith_builtin rfl (PySem.evalArgs_none ?_)⟩;refine Zg PySem.F.slot_dict_values ⟨ob,hob,hex.1⟩ PySem.F.entry_dict_values (PySem.F.args_dict_values_1 _) (Cb a hsm) ⟨⟨ob,hob,hex.1⟩,?_⟩;refine Calls.spliced_nil ?_
 have hsz:es.size=kvs.length:=by
  have e1:=congrArg XS hes;rw[Wm,V7]at e1;rw[e1];exact(by have:=(D0 kt).length;simpa using this.symm)
 refine PySem.W.kdl_call (A:=X.A) (DY (es:=es) (ep:=ep)) (I1.ok.hd hc) ⟨⟨_,VR _ rfl,rfl,rfl⟩,ob,VE _ hob,hex,hdat⟩ (by rw[hsz];exact hz) λh' tk acc c k hS hacc=>?_;have I2:Inv X pq σ H1 {s1 with heap:=s1.heap.push {cls := .type "dict_values",data := .fields #[.ref a]}}:=I1.kept (t':=s1.toks) λb ob q=>VE _ q
 have hacc2:acc.toList=xs.map λx=>x.2.2:=by
  have hl:acc.toList.length=(xs.map λx=>x.2.2).length:=by
   rw[Wm,hacc.1,hsz];have:=(D0 kt).length;simpa using this
  refine Wi λj=>?_;by_cases hj:j<acc.toList.length
  ·obtain⟨e1,he1,he2⟩:=hacc.2 j acc.toList[j] (by rw[<-Wu];simp[hj]);have hx:xs[j]?=some (xs[j]'(by rw[V7]at hl;omega)):=by simp
   have he3:es.toList[j]?=some e1:=by rw[Wu];exact he1
   rw[hes,VG,hx]at he3;cases he3;rw[VG,hx];simp only[VB hj,WR];exact congrArg some he2.symm
  ·rw[Vr (by omega),Vr (by omega)]
 refine⟨.ref _,upd H1 _ (.lst (kvs.map (·.2))),I2.laid (t':=tk) (o := .lst (kvs.map (·.2))) k (VF _) ⟨by rw[V7];exact hz,acc.toList,c,by rw[hacc2];exact D0 kt,by rw[Array.toArray_toList];exact hS⟩,rfl,q _ (I2.hok.fresh (VF _))⟩
end
end L2
namespace Rf
open PySem L2
structure GoodA(X:Cx)(rs:List Expr)(w:WA):Prop where
 pa:PA X rs (liftA X.K w)
 m:MonoA w
section
variable{X:Cx}
theorem Kn:GoodA X [] EQ:=⟨OY,.nil⟩
theorem IC{x:Expr}{xs:List Expr}{a:WE×WT}{b:WA}(ha:Good X x a)(hb:GoodA X xs b)(hs:c3 x=true):GoodA X (x::xs) (DL a.1 b):=⟨ME ha.m hb.m ha.pe hb.pa (f7 hs),.cons ha.m hb.m⟩
theorem Ko{rs:List Expr}{j:Nat}{p:Pos}{w:WA}(h:GoodA X rs w):Good X (.Tuple rs j p) (tt1 (wn Oa w)) := .one (i9 _ (RQ h.pa) (Oc h.m)) (.n .tup h.m) rfl
theorem Kp{rs:List Expr}{p:Pos}{w:WA}(h:GoodA X rs w):Good X (.List rs p) (tt1 (wn Ob w)) := .one (i9 _ (RS h.pa) (Od h.m)) (.n .lst h.m) rfl
theorem My{K:V5}{s:Sn}{w:WA}(ms:MonoN s)(m:MonoA w):∀ σ H Q,lift K (wn s w) σ H Q->QI (spS K s) [] E0 (liftA K w) σ H Q:=by
 rintro σ H Q ⟨as,ρ,S,ok,en,h⟩;refine⟨as,ρ,S,ok,en,m _ _ _ _ (λxs S1 hs as1 H1 vs g1 ok1 rv=>?_) h⟩;show spS K s (vs++[]) H1 Q E0;rw[Vt];exact⟨as1,S1,xs,ok1,rv,ms _ _ _ _ (λz S3 hz=>hz.mono g1) hs⟩
theorem ID{T:List Str}{Δ:Nat->Sn}{k f:Nat}{N:List Str}{sc:Yu}{x:Str}{y:Expr}{ys:List Expr}{p q:Pos}{w:WA}(C:Cok T Δ X k N sc)(hf:T[f]?=some x)(hg:glo sc x=true)(h:GoodA X (y::ys) w)(hy:c3 y=true)(hs:ys.all c3=true):Good X (.Call (.Name x p) (y::ys) [] q) (tt1 (wn (Δ f) w)):=by
 obtain⟨d,ps,hC,hr⟩:=C.call f x hf;obtain⟨fa,fd,F,hm,hk,hb⟩:=hC.ex;unfold glo at hg;simp only[V6,beq_iff_eq,VZ]at hg;have gl:Gl X x:=by show X.env.scope.names.lookup x=_;rw[C.hs];exact hg.1.1
 exact .one (i9 _ (OL F hr gl hm hk hb .nil Tu h.pa hg.2 (f7 hy) (CA hs)) (My (C.mono f) h.m)) (.n (C.mono f) h.m) rfl
theorem UM:Yp "abs"=some (.builtin "abs"):=by decide +kernel
theorem QX:Yp "min"=some (.builtin "min"):=by decide +kernel
theorem Mz:Yp "max"=some (.builtin "max"):=by decide +kernel
theorem UN:Yp "len"=some (.builtin "len"):=by decide +kernel
theorem UO:Yp "all"=some (.builtin "all"):=by decide +kernel
theorem QY:Yp "int"=some (.type "int"):=by decide +kernel
theorem IE:Yp "list"=some (.type "list"):=by decide +kernel
theorem UP:Yp "isinstance"=some (.builtin "isinstance"):=by decide +kernel
theorem QZ:Yp "str"=some (.type "str"):=by decide +kernel
theorem SI:Yp "bool"=some (.type "bool"):=by decide +kernel
theorem JP:Yp "tuple"=some (.type "tuple"):=by decide +kernel
theorem SJ:Yp "repr"=some (.builtin "repr"):=by decide +kernel
theorem N0{T:List Str}{Δ:Nat->Sn}{k:Nat}{N:List Str}{sc:Yu}{b:BI}{y:Expr}{ys:List Expr}{p q:Pos}{w:WA}(C:Cok T Δ X k N sc)(hg:glo sc b.name=true)(h:GoodA X (y::ys) w)(hy:c3 y=true)(hs:ys.all c3=true):Good X (.Call (.Name b.name p) (y::ys) [] q) (tt1 (wn (sBi b) w)):=by
 unfold glo at hg;simp only[V6,beq_iff_eq,VZ]at hg;have gl:Gl X b.name:=by show X.env.scope.names.lookup b.name=_;rw[C.hs];exact hg.1.1
 have hm:=C.bl b;have e1:=f7 (es:=ys) (env:=X.env) hy;have e2:=CA (env:=X.env) (pos:=q) hs;refine .one (i9 (t:=tCB (rBi X.K b) (liftA X.K w)) _ ?_ (U4 Ry .bi h.m)) (.n .bi h.m) rfl;cases b with
 | len=>exact u7 Es gl hm UN h.pa (by decide) hg.2 e1 e2
 | abs=>exact u7 Ll gl hm UM h.pa (by decide) hg.2 e1 e2
 | min=>exact u7 (KC C.calm) gl hm QX h.pa (by decide) hg.2 e1 e2
 | max=>exact u7 (KB C.calm) gl hm Mz h.pa (by decide) hg.2 e1 e2
 | int=>exact Bc KD gl hm QY h.pa (by decide) hg.2 e1 e2
 | list=>exact Bc Et gl hm IE h.pa (by decide) hg.2 e1 e2
 | tuple=>exact Bc Dx gl hm JP h.pa (by decide) hg.2 e1 e2
 | all=>exact u7 (KN C.calm) gl hm UO h.pa (by decide) hg.2 e1 e2
 | any=>exact u7 (KS C.calm) gl hm U1 h.pa (by decide) hg.2 e1 e2
 | sorted=>exact u7 Fh gl hm M5 h.pa (by decide) hg.2 e1 e2
 | isi=>exact u7 (call_isi1.or KM) gl hm UP h.pa (by decide) hg.2 e1 e2
 | repr=>exact u7 (λ_ _ _ _ _ _ _ _ _ h=>False.elim h) gl hm SJ h.pa (by decide) hg.2 e1 e2
 | str=>exact Bc (λ_ _ _ _ _ _ _ _ _ h=>False.elim h) gl hm QZ h.pa (by decide) hg.2 e1 e2
theorem Mono.mt{m:MT}{a:WE}{b:WA}(ma:Mono a)(mb:MonoA b):Mono (wMt m a b):=λρ S P P' i h=>ma _ _ _ _ (λx S1 ⟨e,h⟩=>⟨e,mb _ _ _ _ (λxs S2 h=>F6 _ _ _ _ i h) h⟩) h
theorem n9{ro:Expr}{nm:Str}{env:Env}{wh:Sem Yg}(h:w4 ro=true):ZT ro nm env wh=wh:=by
 unfold ZT;split
 ·cases h
 ·rfl
theorem N1{K:V5}{as:List Yi}{H:Hp}{S:Sto}{k:Nat}{v:V}{xs:List SV}(ok:Ok K as H S)(r:Rl K as H v (.loc k))(hs:S[k]?=some (.lst xs)):tyV K "list" v H:=by
 obtain⟨a,vs,rfl,_,h1,_⟩:=p9 ok r hs;exact .inl ⟨rfl,_,SqL.of h1⟩
theorem SK{K:V5}{m:MT}{a:WE}{b:WA}(ma:Mono a)(mb:MonoA b):∀ σ H Q,lift K (wMt m a b) σ H Q->tBM K "list" (rMt m) (lift K a) (liftA K b) σ H Q:=by
 rintro σ H Q ⟨as,ρ,S,ok,en,h⟩;refine⟨as,ρ,S,ok,en,ma _ _ _ _ (λx S1 ⟨⟨j,zs,e,hz⟩,h⟩ as1 H1 v g1 ok1 rv=>?_) h⟩;subst e;refine⟨N1 ok1 rv hz,as1,ρ,S1,ok1,en.mono g1.pre (g1.ku ok),mb _ _ _ _ (λxs S2 h as2 H2 vs g2 ok2 rs=>?_) h⟩;exact MR ok2 (Rl.mono g2.pre (g2.ku ok1) _ v rv) rs (F6 _ _ _ _ (λz S3 hz=>hz.mono (g1.trans g2)) h)
theorem PL{K:V5}{m:MT}{a:WE}(ma:Mono a):∀ σ H Q,lift K (wMt m a EQ) σ H Q->RW K "list" (rMt m) (lift K a) σ H Q:=by
 rintro σ H Q ⟨as,ρ,S,ok,en,h⟩;refine⟨as,ρ,S,ok,en,ma _ _ _ _ (λx S1 ⟨⟨j,zs,e,hz⟩,h⟩ as1 H1 v g1 ok1 rv=>?_) h⟩;subst e;exact⟨N1 ok1 rv hz,MR ok1 rv .nil (F6 _ _ _ _ (λz S3 hz=>hz.mono g1) h)⟩
theorem MtR.orM{id:String}{r r':V->List V->Hp->VK->Prop}(h:MtM X id r)(h':MtM X id r'):MtR X id (λx xs H Q=>r x xs H Q\/r' x xs H Q):=λpq s σ H x xs v us Q I rx rs q=>q.elim (h pq s σ H x xs v us Q I rx rs) (h' pq s σ H x xs v us Q I rx rs)
theorem N2{m:MT}{ro y:Expr}{ys:List Expr}{ap cp:Pos}{a:WE×WT}{b:WA}(ha:Good X ro a)(hb:GoodA X (y::ys) b)(hn:w4 ro=true)(hl:(ap.endLine == cp.line)=true)(hk:(y::ys).length<29)(hy:c3 y=true)(hs:ys.all c3=true):Good X (.Call (.Attribute ro m.name ap) (y::ys) [] cp) (tt1 (wMt m a.1 b)):=by
 have e1:=f7 (es:=ys) (env:=X.env) hy;have e2:=CA (env:=X.env) (pos:=cp) hs
 have e3:((backTo cp (Yr (y::ys) X.env)).all (λx=>!x.1)&&(Zj cp (ZP [] X.env)).all (λx=>x.1.isSome)
  && decide ((y::ys).length+([]:List Keyword).length+(if ([]:List Keyword).isEmpty then 0 else 1)<30))=true:=by
  rw[ET (by rw[W7,hy,hs];rfl)];simp only[Xa,V6,dQ];exact⟨rfl,by show(y::ys).length+0+0<30;omega⟩
 refine .one (i9 (t:=tBM X.K "list" (rMt m) (lift X.K a.1) (liftA X.K b)) _ ?_ (SK ha.m hb.m)) (.mt ha.m hb.m) rfl;cases m with
 | append=>exact Fc PySem.F.plainAttrs_list PySem.F.slot_list_append PySem.F.type_list_append CP ha.pe hb.pa (n9 hn) e3 hl e1 e2
 | extend=>exact Fc PySem.F.plainAttrs_list PySem.F.slot_list_extend PySem.F.type_list_extend EK ha.pe hb.pa (n9 hn) e3 hl e1 e2
 | pop=>exact Fc PySem.F.plainAttrs_list PySem.F.slot_list_pop PySem.F.type_list_pop (MtR.orM Lv Fe) ha.pe hb.pa (n9 hn) e3 hl e1 e2
 | insert=>exact Fc PySem.F.plainAttrs_list PySem.F.slot_list_insert PySem.F.type_list_insert EM ha.pe hb.pa (n9 hn) e3 hl e1 e2
 | reverse=>exact Fc PySem.F.plainAttrs_list PySem.F.slot_list_reverse PySem.F.type_list_reverse DC ha.pe hb.pa (n9 hn) e3 hl e1 e2
theorem Kq{m:MT}{ro:Expr}{ap cp:Pos}{a:WE×WT}(ha:Good X ro a)(hn:w4 ro=true)(hl:(ap.endLine == cp.line)=true):Good X (.Call (.Attribute ro m.name ap) [] [] cp) (tt1 (wMt m a.1 EQ)):=by
 refine .one (i9 (t:=RW X.K "list" (rMt m) (lift X.K a.1)) _ ?_ (PL ha.m)) (.mt ha.m .nil) rfl;cases m with
 | append=>exact DB PySem.F.plainAttrs_list PySem.F.slot_list_append PySem.F.type_list_append CP ha.pe (n9 hn) hl
 | extend=>exact DB PySem.F.plainAttrs_list PySem.F.slot_list_extend PySem.F.type_list_extend EK ha.pe (n9 hn) hl
 | pop=>exact DB PySem.F.plainAttrs_list PySem.F.slot_list_pop PySem.F.type_list_pop (MtR.orM Lv Fe) ha.pe (n9 hn) hl
 | insert=>exact DB PySem.F.plainAttrs_list PySem.F.slot_list_insert PySem.F.type_list_insert EM ha.pe (n9 hn) hl
 | reverse=>exact DB PySem.F.plainAttrs_list PySem.F.slot_list_reverse PySem.F.type_list_reverse DC ha.pe (n9 hn) hl
theorem Kr{T:List Str}{Δ:Nat->Sn}{k:Nat}{N:List Str}{sc:Yu}{t:TyN}{p:Pos}(C:Cok T Δ X k N sc)(hg:glo sc (Str.ofString t.nm)=true)(ht:t ≠ .none):Good X (.Name (Str.ofString t.nm) p) (tt1 (wC (.ty t))):=by
 unfold glo at hg;simp only[V6,beq_iff_eq,VZ]at hg;have gl:Gl X (Str.ofString t.nm):=by show X.env.scope.names.lookup _=_;rw[C.hs];exact hg.1.1
 have b:Yp (Str.ofString t.nm)=some (.type t.nm):=by cases t<;>first | exact QY | exact SI | exact QZ | exact IE | exact JP | exact absurd rfl ht
 exact .one (i9 _ (OB (v := .ty t.nm) gl (C.ty t ht) b rfl (by cases t<;>first | decide | exact absurd rfl ht) hg.2) (Fp λ_ _=>rl_ty.mpr rfl)) .c rfl
theorem EU{a:WE}(m:Mono a):Mono (Md a):=λρ S P P' i h=>m _ _ _ _ (λx S1 ⟨k,ns,a,b,c,q⟩=>⟨k,ns,a,b,c,λm g=>i _ _ (q m g)⟩) h
theorem EV{a d:WE}(m:Mono a)(m':Mono d):Mono (Mg a d):=λρ S P P' i h=>m _ _ _ _ (λx S1 h=>m' _ _ _ _ (λy S2 ⟨k,ns,z,a,b,c,q0,q⟩=>⟨k,ns,z,a,b,c,λe=>i _ _ (q0 e),λm g=>i _ _ (q m g)⟩) h) h
theorem RlD.length{K:V5}{as:List Yi}{H:Hp}:∀{kvs:List (Int×SV)} {ks:List (Key×V)},RlD K as H ks kvs->ks.length=kvs.length
 | [],_,h=>by rw[show _=[] from h];rfl
 | p::r,_,⟨v,t,e,_,h⟩=>by rw[e,VY,VY,RlD.length h]
theorem RlAll.perm{K:V5}{as:List Yi}{H:Hp}{ws ws':List V}(p:ws'.Perm ws):∀{xs:List SV},RlAll K as H ws xs->∃ xs',RlAll K as H ws' xs'/\xs'.Perm xs:=by
 induction p with
 | nil=>exact λ{xs} r=>⟨xs,r,.refl _⟩
 | cons v _ ih=>
   intro xs r;cases xs with
   | nil=>exact absurd (show _::_=[] from r) (Xe _ _)
   | cons x xs=>
     obtain⟨_,_,e,r1,r2⟩:=r;cases e;obtain⟨xs',r',p'⟩:=ih r2;exact⟨x::xs',⟨_,_,rfl,r1,r'⟩,.cons _ p'⟩
 | swap u v l=>
   intro xs r;cases xs with
   | nil=>exact absurd (show _::_=[] from r) (Xe _ _)
   | cons x xs=>
     obtain⟨_,_,e,r1,r2⟩:=r;cases e;cases xs with
     | nil=>exact absurd (show _::_=[] from r2) (Xe _ _)
     | cons y xs=>
       obtain⟨_,_,e,r3,r4⟩:=r2;cases e;exact⟨y::x::xs,⟨_,_,rfl,r3,_,_,rfl,r1,r4⟩,.swap ..⟩
 | trans _ _ ih1 ih2=>
   intro xs r;obtain⟨x2,r2,p2⟩:=ih2 r;obtain⟨x1,r1,p1⟩:=ih1 r2;exact⟨x1,r1,p1.trans p2⟩
theorem IF{T:List Str}{Δ:Nat->Sn}{k:Nat}{N:List Str}{sc:Yu}{r:Expr}{p q:Pos}{a:WE×WT}(C:Cok T Δ X k N sc)(hg:glo sc "max"=true)(ha:Good X r a)(hs:c3 r=true):Good X (.Call (.Name "max" p) [r] [] q) (tt1 (Md a.1)):=by
 unfold glo at hg;simp only[V6,beq_iff_eq,VZ]at hg;have gl:Gl X "max":=by show X.env.scope.names.lookup ("max":Str)=_;rw[C.hs];exact hg.1.1
 refine .one (i9 _ (u7 (Kc C.calm) gl (C.bl .max) Mz (y1 ha.pe Az (f7 hs)) (by decide) hg.2 (f7 hs) rfl) ?_) (EU ha.m) rfl;rintro σ H Q ⟨as,ρ,S,ok,en,h⟩;refine⟨as,ρ,S,ok,en,ha.m _ _ _ _ (λx S1 ⟨k,ns,e0,h1,h2,q⟩ as1 H1 v g1 ok1 rv=>?_) h⟩;subst e0;obtain⟨a,us,rfl,ea,ha,rr⟩:=p9 ok1 rv h1;rw[F5 rr]at ha;exact⟨a,ns,rfl,ha,h2,λm g=>q m g as1 H1 _ g1 ok1 (rl_int.mpr rfl)⟩
theorem IG{T:List Str}{Δ:Nat->Sn}{k:Nat}{N:List Str}{sc:Yu}{r u:Expr}{p q kp:Pos}{a d:WE×WT}(C:Cok T Δ X k N sc)(hg:glo sc "max"=true)(ha:Good X r a)(hd:Good X u d)(hs:c3 r=true):Good X (.Call (.Name "max" p) [r] [⟨some "default",u,kp⟩] q) (tt1 (Mg a.1 d.1)):=by
 unfold glo at hg;simp only[V6,beq_iff_eq,VZ]at hg;have gl:Gl X "max":=by show X.env.scope.names.lookup ("max":Str)=_;rw[C.hs];exact hg.1.1
 refine .one (i9 _ (ER (Kb C.calm) gl (C.bl .max) Mz (y1 ha.pe Az (f7 hs)) (Ix hd.pe Lm) rfl (by decide) hg.2 (by rw[f7 hs];rfl) (by rw[f7 hs];rfl) rfl rfl) ?_) (EV ha.m hd.m) rfl;rintro σ H Q ⟨as,ρ,S,ok,en,h⟩;refine⟨as,ρ,S,ok,en,ha.m _ _ _ _ (λx S1 h as1 H1 v g1 ok1 rv=>?_) h⟩;have en1:=en.mono g1.pre (g1.ku ok);refine⟨as1,ρ,S1,ok1,en1,hd.m _ _ _ _ (λy S2 ⟨k,ns,i,e0,e1,h1,q0,q⟩ as2 H2 v2 g2 ok2 rv2=>?_) h⟩;subst e0;subst e1;rw[rl_int]at rv2;obtain⟨a,us,ev,ea,ha,rr⟩:=p9 ok2 (Rl.mono g2.pre (g2.ku ok1) _ _ rv) h1;rw[F5 rr]at ha;exact⟨a,ns,i,by rw[ev],by rw[rv2],ha,λe=>q0 e as2 H2 _ (g1.trans g2) ok2 (rl_int.mpr rfl),λm g=>q m g as2 H2 _ (g1.trans g2) ok2 (rl_int.mpr rfl)⟩
end
section
variable{K:V5}{as:List Yi}{H:Hp}{S:Sto}
theorem RlD.get:∀{kvs:List (Int×SV)} {ks:List (Key×V)} {i:Nat} {p:Int×SV},RlD K as H ks kvs->kvs[i]?=some p->∃ v,ks[i]?=some (.inl p.1,v)
 | q::r,_,0,p,⟨v,t,e,_,_⟩,hp=>by cases hp;subst e;exact⟨v,rfl⟩
 | q::r,_,i+1,p,⟨v,t,e,_,h⟩,hp=>by
   subst e;obtain⟨u,hu⟩:=RlD.get (i:=i) h (show r[i]?=some p from hp);exact⟨u,hu⟩
theorem RlD.val:∀{kvs:List (Int×SV)} {ks:List (Key×V)},RlD K as H ks kvs->∀ i,(∃ x v,CZ kvs i=some x/\v7 ks (.inl i)=some v/\Rl K as H v x)\/(CZ kvs i=none/\v7 ks (.inl i)=none)
 | [],_,h,i=>by rw[show _=[] from h];exact .inr ⟨rfl,rfl⟩
 | p::r,_,⟨v,t,e,h1,h2⟩,i=>by
   subst e;by_cases hp:p.1=i
   ·refine .inl ⟨p.2,v,?_,?_,h1⟩
    ·unfold CZ;rw[Xm (by simp[hp])];rfl
    ·unfold v7;rw[Xm (by simp[hp])];rfl
   ·have e1:CZ (p::r) i=CZ r i:=by unfold CZ;rw[Xn (by simp[hp])]
    have e2:v7 ((Sum.inl p.1,v)::t) (Sum.inl i)=v7 t (Sum.inl i):=by unfold v7;rw[Xn (by simp[hp])]
    rw[e1,e2];exact RlD.val h2 i
theorem RlD.any:∀{kvs:List (Int×SV)} {ks:List (Key×V)},RlD K as H ks kvs->∀ i,(ks.any λkv=>decide (kv.1=Sum.inl i))=kvs.any λp=>decide (p.1=i)
 | [],_,h,i=>by rw[show _=[] from h];rfl
 | p::r,_,⟨v,t,e,h1,h2⟩,i=>by
   subst e;rw[W8,W8,RlD.any h2 i]
   congr 1
   simp
theorem RlD.set{v:V}{x:SV}(rv:Rl K as H v x):∀{kvs:List (Int×SV)} {ks:List (Key×V)},RlD K as H ks kvs->∀ i,RlD K as H (ks.map λkv=>if kv.1=Sum.inl i then (kv.1,v) else kv) (kvs.map λp=>if p.1=i then (p.1,x) else p)
 | [],_,h,i=>by rw[show _=[] from h];rfl
 | p::r,_,⟨u,t,e,h1,h2⟩,i=>by
   subst e;rw[Vh,Vh];by_cases hp:p.1=i
   ·rw[iP hp,iP (by rw[hp])];exact⟨v,_,rfl,rv,RlD.set rv h2 i⟩
   ·rw[iG hp,iG (λz=>hp (Sum.inl.inj z))];exact⟨u,_,rfl,h1,RlD.set rv h2 i⟩
theorem RlD.snoc{v:V}{x:SV}(rv:Rl K as H v x)(i:Int):∀{kvs:List (Int×SV)} {ks:List (Key×V)},RlD K as H ks kvs->RlD K as H (ks++[(Sum.inl i,v)]) (kvs++[(i,x)])
 | [],_,h=>by rw[show _=[] from h];exact⟨v,[],rfl,rv,rfl⟩
 | p::r,_,⟨u,t,e,h1,h2⟩=>by subst e;exact⟨u,_,rfl,h1,RlD.snoc rv i h2⟩
theorem RlD.put{kvs:List (Int×SV)}{ks:List (Key×V)}{v:V}{x:SV}(h:RlD K as H ks kvs)(rv:Rl K as H v x)(i:Int):RlD K as H (Ac ks (Sum.inl i) v) (QW kvs i x):=by
 unfold Ac QW;rw[h.any i];by_cases z:(kvs.any λp=>decide (p.1=i))=true
 ·rw[iP z,iP z];exact h.set rv i
 ·rw[iG z,iG z];exact h.snoc rv i
theorem SL{x:SV}{v:V}{kvs:List (Int×SV)}(ok:Ok K as H S)(r:Rl K as H v x)(h:Oy x S=some kvs):∃ a k ks,x = .loc k/\v = .ref a/\as[k]?=some a/\Rd H a (.dK ks)/\RlD K as H ks kvs:=by
 cases x with
 | loc k=>
   obtain⟨a,ea,rfl⟩:=rl_loc.mp r;unfold Oy at h;cases hs:S[k]? with
   | none=>simp only[hs]at h;cases h
   | some o=>
     have ro:=ok.obj k o a hs ea;cases o with
     | lst _=>simp only[hs]at h;cases h
     | iset _=>simp only[hs]at h;cases h
     | dtl _=>simp only[hs]at h;cases h
     | dtf _ _ _=>simp only[hs]at h;cases h
     | dtp _=>simp only[hs]at h;cases h
     | dct kv=>simp only[hs]at h;cases h;obtain⟨ks,h1,h2⟩:=ro;exact⟨a,k,ks,rfl,rfl,ea,.inl h1,h2⟩
     | dcf o ks kv=>simp only[hs]at h;cases h;exact⟨a,k,ks,rfl,rfl,ea,.inr ⟨o,ro.1⟩,ro.2⟩
 | _=>cases h
theorem Cc:Mono2 JG:=λx y S P P' i ⟨kvs,j,v,a,b,c,q⟩=>⟨kvs,j,v,a,b,c,i _ _ q⟩
theorem N3:BN K JG (λx y H Q=>∃ a v,x = .ref a/\DGet H a y (some v)/\Q v H):=λas H S x y v u Q ok rx ry h=>by
 obtain⟨kvs,i,w,h1,rfl,h2,q⟩:=h;obtain⟨a,k,ks,rfl,rfl,ea,rd,rr⟩:=SL ok rx h1;rw[rl_int]at ry;subst ry;rcases rr.val i with⟨x',v',e1,e2,r'⟩ | ⟨e1,_⟩
 ·rw[h2]at e1;cases e1;exact⟨a,v',rfl,.inl ⟨ks,.inl i,rd,rfl,e2.symm⟩,q.here ok r'⟩
 ·rw[h2]at e1;cases e1
end
section
variable{X:Cx}
theorem Cd:Mono Mi:=λρ S P P' i h=>i _ _ h
theorem IH{p:Pos}:Good X (.Dict [] [] p) (tt1 Mi):=
 .one (i9 _ MA (λσ H Q ⟨as,ρ,S,ok,en,h⟩=>λl hl=>h _ _ _ (Go.push hl) (ok.pushO hl ⟨[],m7,rfl⟩) (rl_loc.mpr ⟨l,by rw[<-ok.len];exact Vb,rfl⟩))) Cd rfl
theorem II{x y:Expr}{p:Pos}{a b:WE×WT}(hu:X.A.units+1<cLine)(ha:Good X x a)(hb:Good X y b)(h:t7 y=true):Good X (.Subscript x y p) (tt1 (w2 JG a.1 b.1)):=
 .one (i9 _ (OV hu ha.pe hb.pe (DW h)) (B3 N3 Cc ha.m hb.m)) (.two Cc ha.m hb.m) rfl
end
theorem RlD.vals{K:V5}{as:List Yi}{H:Hp}:∀{kvs:List (Int×SV)} {ks:List (Key×V)},RlD K as H ks kvs->RlAll K as H (ks.map (·.2)) (kvs.map (·.2))
 | [],_,h=>by rw[show _=[] from h];rfl
 | p::r,_,⟨v,t,e,a,h⟩=>by rw[e];exact⟨v,_,rfl,a,RlD.vals h⟩
theorem RlD.at{K:V5}{as:List Yi}{H:Hp}:∀{kvs:List (Int×SV)} {ks:List (Key×V)} {i:Nat} {p:Int×SV},RlD K as H ks kvs->kvs[i]?=some p->∃ v,ks[i]?=some (.inl p.1,v)/\Rl K as H v p.2
 | [],_,i,p,_,hp=>by simp at hp
 | p::r,_,0,_,⟨v,t,e,a,h⟩,hp=>by cases hp;exact⟨v,by rw[e];rfl,a⟩
 | p::r,_,i+1,_,⟨v,t,e,a,h⟩,hp=>by
   obtain⟨u,hu,ru⟩:=RlD.at (i:=i) h hp;exact⟨u,by rw[e];exact hu,ru⟩
theorem EW{a d:WE}(m:Mono a)(m':Mono d):Mono (Me a d):=λρ S P P' i h=>m _ _ _ _ (λx S1 h=>m' _ _ _ _ (λy S2 ⟨k,ps,a,b,c,q0,q⟩=>⟨k,ps,a,b,c,λe=>i _ _ (q0 e),λp hp=>i _ _ (q p hp)⟩) h) h
theorem EX{d e v:WE}(m:Mono d)(m1:Mono e)(m2:Mono v):Mono (Mf d e v):=λρ S P P' i h=>m _ _ _ _ (λx S1 ⟨k,kv0,a,b,h⟩=>⟨k,kv0,a,b,m1 _ _ _ _ (λy S2 h=>m2 _ _ _ _ (λz S3 ⟨i1,j,m,kvs,a,b,c,d,q0,q1⟩=>⟨i1,j,m,kvs,a,b,c,d,λn e=>i _ _ (q0 n e),λe=>i _ _ (q1 e)⟩) h) h⟩) h
theorem Bw:Mono Hx:=λρ S P P' i h=>i _ _ h
theorem GF{X:Cx}{p:Pos}:Good X (.Dict [] [] p) (tt1 Hx):=
 .one (i9 _ Fn (λσ H Q ⟨as,ρ,S,ok,en,h⟩=>λl hl=>h _ _ _ (Go.push hl) (ok.pushO hl (show RlO _ _ _ _ (.dtp []) from m7)) (rl_loc.mpr ⟨l,by rw[<-ok.len];exact Vb,rfl⟩))) Bw rfl
theorem FD(k:Int×Int):∀ kvs:List ((Int×Int)×Int),v7 (dtV kvs) [.inl k.1,.inl k.2]=(dpv kvs k).map V.int
 | []=>rfl
 | p::r=>by
   have ih:=FD k r;by_cases e:p.1=k
   ·rw[show dtV (p::r)=([.inl p.1.1,.inl p.1.2],V.int p.2)::dtV r from rfl,BL (by rw[e])];unfold dpv;rw[Vd,decide_eq_true e];rfl
   ·rw[show dtV (p::r)=([.inl p.1.1,.inl p.1.2],V.int p.2)::dtV r from rfl,BM (λz=>e (by
     have z:([.inl p.1.1,.inl p.1.2]:List Key)=[.inl k.1,.inl k.2]:=z;injection z with z1 z2;injection z2 with z2 _;injection z1 with z1;injection z2 with z2;exact Prod.ext z1 z2)),ih]
    unfold dpv;rw[Vd,decide_eq_false e]
theorem IJ{X:Cx}{ro r r2:Expr}{ap cp:Pos}{d e v:WE×WT}(hu:X.A.units+1<cLine)(hd:Good X ro d)(he:Good X r e)(hv:Good X r2 v)(hn:w4 ro=true)(hl:(ap.endLine == cp.line)=true)(hs:c3 r=true)(hs2:c3 r2=true):Good X (.Call (.Attribute ro "setdefault" ap) [r,r2] [] cp) (tt1 (Mf d.1 e.1 v.1)):=by
 refine .one (i9 _ (Oo hu hd.pe he.pe hv.pe ⟨n9 hn,by rw[f7 hs,f7 hs2];rfl,hl,by rw[f7 hs,f7 hs2];rfl⟩) ?_) (EX hd.m he.m hv.m) rfl;rintro σ H Q ⟨as,ρ,S,ok,en,h⟩;refine⟨as,ρ,S,ok,en,hd.m _ _ _ _ (λx S1 ⟨k,kv0,e0,hk,h⟩ as1 H1 w g1 ok1 rw1=>?_) h⟩;subst e0;obtain⟨a,ea,rfl⟩:=rl_loc.mp rw1;have h1:H1 a=some (.dT (dtV kv0)):=ok1.obj k _ a hk ea;have en1:=en.mono g1.pre (g1.ku ok);refine⟨a,rfl,.inr ⟨_,.inl h1⟩,as1,ρ,S1,ok1,en1,he.m _ _ _ _ (λy S2 h as2 H2 w2 g2 ok2 rw2=>?_) h⟩;refine⟨as2,ρ,S2,ok2,en1.mono g2.pre (g2.ku ok1),hv.m _ _ _ _ (λz S3 ⟨i,j,m,kvs,e1,e2,hk3,hb,q0,q1⟩ as3 H3 w3 g3 ok3 rw3=>?_) h⟩;subst e1;subst e2;have ea3:=B2 g3.pre (B2 g2.pre ea);have h3:H3 a=some (.dT (dtV kvs)):=ok3.obj k _ a hk3 ea3;obtain⟨p,vs,rfl,hp,rp⟩:=rl_tup.mp (Rl.mono g3.pre (g3.ku ok2) _ _ rw2);obtain⟨u1,u2,rfl,r1,r2⟩:=Ht rp;rw[rl_int]at r1 r2 rw3;subst r1;subst r2;subst rw3;have G:=g1.trans (g2.trans g3);have len:(dtV kvs).length=kvs.length:=V7 ..;refine⟨dtV kvs,[.inl i,.inl j],p,rfl,h3,hp,by rw[len];exact Vc hb (AR (VF _)),λu hu'=>?_,λhu'=>?_⟩
 ·rw[FD (i,j)]at hu';obtain⟨n,hn',rfl⟩:=Xk.mp hu';exact q0 n hn' as3 H3 _ G ok3 (rl_int.mpr rfl)
 ·have hu2:=hu';rw[FD (i,j)]at hu';have e:dpv kvs (i,j)=none:=WN.mp hu';rw[Fi _ hu2]
  obtain⟨ok4,ku⟩:=ok3.writeO (x := .dtp (kvs++[((i,j),m)])) (u := .dT (dtV kvs++[([.inl i,.inl j],V.int m)])) hk3 ea3 (λ_=>by
   show upd _ _ _ a=some (.dT (dtV (kvs++[((i,j),m)])));rw[m7];unfold dtV;rw[VM];rfl)
  exact q1 e as3 _ _ (G.trans (Go.write (V9 ea3))) ok4 (rl_int.mpr rfl)
theorem IK{X:Cx}{T:List Str}{Δ:Nat->Sn}{k:Nat}{N:List Str}{sc:Yu}{r u:Expr}{p q kp:Pos}{a d:WE×WT}(hu:X.A.units+1<cLine)(C:Cok T Δ X k N sc)(hg:glo sc "min"=true)(ha:Good X r a)(hd:Good X u d)(hs:c3 r=true):Good X (.Call (.Name "min" p) [r] [⟨some "default",u,kp⟩] q) (tt1 (Me a.1 d.1)):=by
 unfold glo at hg;simp only[V6,beq_iff_eq,VZ]at hg;have gl:Gl X "min":=by show X.env.scope.names.lookup ("min":Str)=_;rw[C.hs];exact hg.1.1
 refine .one (i9 _ (ER (Ka C.calm hu) gl (C.bl .min) QX (y1 ha.pe Az (f7 hs)) (Ix hd.pe Lm) rfl (by decide) hg.2 (by rw[f7 hs];rfl) (by rw[f7 hs];rfl) rfl rfl) ?_) (EW ha.m hd.m) rfl;rintro σ H Q ⟨as,ρ,S,ok,en,h⟩;refine⟨as,ρ,S,ok,en,ha.m _ _ _ _ (λx S1 h as1 H1 v g1 ok1 rv=>?_) h⟩;have en1:=en.mono g1.pre (g1.ku ok);refine⟨as1,ρ,S1,ok1,en1,hd.m _ _ _ _ (λy S2 ⟨k,ps,e0,e1,h1,q0,q⟩ as2 H2 v2 g2 ok2 rv2=>?_) h⟩;subst e0;subst e1;rw[rl_non]at rv2;obtain⟨a,us,ev,ea,ha,rr⟩:=p9 ok2 (Rl.mono g2.pre (g2.ku ok1) _ _ rv) h1;have G:=g1.trans g2;refine⟨a,us,ps,by rw[ev],by rw[rv2],ha,⟨by rw[rr.length,V7],λi p hp=>?_⟩,λe=>q0 e as2 H2 _ G ok2 (rl_non.mpr rfl),λi p q' hp hq' _ _=>?_⟩
 ·obtain⟨v,hv,rv⟩:=rr.get (show(ps.map λp:Int×Int=>SV.tup [.int p.1,.int p.2])[i]?=some (SV.tup [.int p.1,.int p.2]) by rw[VG,hp];rfl);obtain⟨t,vs,rfl,ht,rt⟩:=rl_tup.mp rv;obtain⟨u1,u2,rfl,r1,r2⟩:=Ht rt;rw[rl_int]at r1 r2;subst r1;subst r2;exact⟨t,hv,ht⟩
 ·obtain⟨v,hv,rv⟩:=rr.get (show(ps.map λp:Int×Int=>SV.tup [.int p.1,.int p.2])[i]?=some (SV.tup [.int p.1,.int p.2]) by rw[VG,hp];rfl);rw[hq']at hv;cases hv;exact q p (V9 hp) as2 H2 _ G ok2 rv
section
variable{K:V5}{as:List Yi}{H:Hp}{S:Sto}
theorem RlT.length:∀{kvs:List (List Int×SV)} {us:List (List Key×V)},RlT K as H us kvs->us.length=kvs.length
 | [],_,h=>by rw[show _=_ from h];rfl
 | p::r,_,⟨v,t,e,_,h2⟩=>by rw[e,VY,VY,h2.length]
theorem RlT.get:∀{kvs:List (List Int×SV)} {us:List (List Key×V)} {i:Nat} {p:List Int×SV},RlT K as H us kvs->kvs[i]?=some p->∃ v,us[i]?=some (p.1.map Sum.inl,v)
 | [],_,_,_,_,h=>by simp at h
 | p::r,_,0,_,⟨v,t,e,_,h2⟩,h=>by
   simp at h;subst h;rw[e];exact⟨v,rfl⟩
 | p::r,_,i+1,_,⟨v,t,e,_,h2⟩,h=>by
   rw[e];obtain⟨v,hv⟩:=h2.get (i:=i) (by simpa using h);exact⟨v,by simpa using hv⟩
theorem D1:∀{a b:List Int},a.map (Sum.inl:Int->Key)=b.map Sum.inl->a=b
 | [],[],_=>rfl
 | [],_::_,h=>by simp at h
 | _::_,[],h=>by simp at h
 | a::x,b::y,h=>by
   rw[Vh,Vh]at h;injection h with h1 h2;injection h1 with h1;rw[h1,D1 h2]
theorem RlT.val(k:List Int):∀{kvs:List (List Int×SV)} {us:List (List Key×V)},RlT K as H us kvs->(∃ x v,DP kvs k=some x/\v7 us (k.map Sum.inl)=some v/\Rl K as H v x)\/(DP kvs k=none/\v7 us (k.map Sum.inl)=none)
 | [],_,h=>by rw[show _=_ from h];exact .inr ⟨rfl,rfl⟩
 | p::r,_,⟨v,t,e,h1,h2⟩=>by
   rw[e];by_cases z:p.1=k
   ·refine .inl ⟨p.2,v,?_,BL (by rw[z]),h1⟩;unfold DP;rw[Vd,decide_eq_true z];rfl
   ·rw[BM (λy=>z (D1 y)),show DP (p::r) k=DP r k by unfold DP;rw[Vd,decide_eq_false z]];exact RlT.val k h2
theorem RlT.snoc{k:List Int}{v:V}{x:SV}(rv:Rl K as H v x):∀{kvs:List (List Int×SV)} {us:List (List Key×V)},RlT K as H us kvs->RlT K as H (us++[(k.map Sum.inl,v)]) (kvs++[(k,x)])
 | [],_,h=>by rw[show _=_ from h];exact⟨v,[],rfl,rv,rfl⟩
 | p::r,_,⟨w,t,e,h1,h2⟩=>by rw[e];exact⟨w,_,rfl,h1,h2.snoc rv⟩
theorem GG{v:V}{ks:List Int}(r:Rl K as H v (.tup (ks.map SV.int))):∃ p,v = .ref p/\H p=some (.tup ((ks.map Sum.inl).map kV)):=by
 obtain⟨p,vs,rfl,hp,rp⟩:=rl_tup.mp r
 have go:∀{ks:List Int} {vs:List V},RlAll K as H vs (ks.map SV.int)->vs=(ks.map Sum.inl).map kV:=by
  intro ks
  induction ks with
  | nil=>intro vs h;exact rla_nil.mp h
  | cons a ks ih=>
    intro vs h;obtain⟨v,t,rfl,h1,h2⟩:=rla_cons.mp h;rw[rl_int.mp h1,ih h2];rfl
 exact⟨p,rfl,by rw[<-go rp];exact hp⟩
end
theorem Bx:Mono Hy:=λρ S P P' i h=>i _ _ h
theorem GH{X:Cx}{p:Pos}:Good X (.Dict [] [] p) (tt1 Hy):=
 .one (i9 _ Fn (λσ H Q ⟨as,ρ,S,ok,en,h⟩=>λl hl=>h _ _ _ (Go.push hl) (ok.pushO hl ⟨[],m7,rfl⟩) (rl_loc.mpr ⟨l,by rw[<-ok.len];exact Vb,rfl⟩))) Bx rfl
theorem EY{a:WE}(m:Mono a):Mono (Mc a):=λρ S P P' i h=>m _ _ _ _ (λx S1 ⟨k,ns,a,q⟩=>⟨k,ns,a,i _ _ q⟩) h
theorem IL{X:Cx}{T:List Str}{Δ:Nat->Sn}{k:Nat}{N:List Str}{sc:Yu}{r:Expr}{p q:Pos}{a:WE×WT}(C:Cok T Δ X k N sc)(hg:glo sc "sum"=true)(ha:Good X r a)(hs:c3 r=true):Good X (.Call (.Name "sum" p) [r] [] q) (tt1 (Mc a.1)):=by
 unfold glo at hg;simp only[V6,beq_iff_eq,VZ]at hg;have gl:Gl X "sum":=by show X.env.scope.names.lookup ("sum":Str)=_;rw[C.hs];exact hg.1.1
 refine .one (i9 _ (u7 (KR C.calm) gl C.sm0 U0 (y1 ha.pe Az (f7 hs)) (by decide) hg.2 (f7 hs) rfl) ?_) (EY ha.m) rfl;rintro σ H Q ⟨as,ρ,S,ok,en,h⟩;refine⟨as,ρ,S,ok,en,ha.m _ _ _ _ (λx S1 ⟨i,j,e0,q⟩ as1 H1 v g1 ok1 rv=>?_) h⟩;subst e0;obtain⟨p,vs,rfl,hp,rp⟩:=rl_tup.mp rv;obtain⟨u1,u2,rfl,r1,r2⟩:=Ht rp;rw[rl_int]at r1 r2;subst r1;subst r2;exact⟨p,i,j,rfl,SqT.of hp,q as1 H1 _ g1 ok1 (rl_int.mpr rfl)⟩
section
variable{K:V5}{as:List Yi}{H:Hp}
theorem RlT.any:∀{kvs:List (List Int×SV)} {us:List (List Key×V)},RlT K as H us kvs->∀ k,(us.any λkv=>decide (kv.1=k.map Sum.inl))=kvs.any λp=>decide (p.1=k)
 | [],_,h,k=>by rw[show _=_ from h];rfl
 | p::r,_,⟨v,t,e,_,h2⟩,k=>by
   rw[e,W8,W8,RlT.any h2 k];by_cases z:p.1=k
   ·rw[decide_eq_true z,decide_eq_true (show _=_ by rw[z])]
   ·rw[decide_eq_false z,decide_eq_false (λy=>z (D1 y))]
theorem RlT.set{v:V}{x:SV}(rv:Rl K as H v x):∀{kvs:List (List Int×SV)} {us:List (List Key×V)},RlT K as H us kvs->∀ k:List Int,RlT K as H (us.map λkv=>if kv.1=k.map Sum.inl then (kv.1,v) else kv) (kvs.map λp=>if p.1=k then (p.1,x) else p)
 | [],_,h,k=>by rw[show _=_ from h];rfl
 | p::r,_,⟨w,t,e,h1,h2⟩,k=>by
   rw[e,Vh,Vh];by_cases z:p.1=k
   ·rw[iP z,iP (by rw[z])];exact⟨v,_,rfl,rv,RlT.set rv h2 k⟩
   ·rw[iG z,iG (λy=>z (D1 y))];exact⟨w,_,rfl,h1,RlT.set rv h2 k⟩
theorem RlT.put{kvs:List (List Int×SV)}{us:List (List Key×V)}{v:V}{x:SV}(h:RlT K as H us kvs)(rv:Rl K as H v x)(k:List Int):RlT K as H (Ac us (k.map Sum.inl) v) (ES kvs k x):=by
 unfold Ac ES;rw[h.any k];split
 ·exact h.set rv k
 ·exact h.snoc rv
theorem RlT.vals:∀{kvs:List (List Int×SV)} {us:List (List Key×V)},RlT K as H us kvs->RlAll K as H (us.map (·.2)) (kvs.map (·.2))
 | [],_,h=>by rw[show _=[] from h];rfl
 | p::r,_,⟨v,t,e,a,h⟩=>by rw[e];exact⟨v,_,rfl,a,RlT.vals h⟩
end
theorem Co{d e v:WE}(m:Mono d)(m1:Mono e)(m2:Mono v):Mono (F8 d e v):=λρ S P P' i h=>m _ _ _ _ (λx S1 ⟨k,kv0,a,b,h⟩=>⟨k,kv0,a,b,m1 _ _ _ _ (λy S2 h=>m2 _ _ _ _ (λz S3 ⟨ks,kvs,a,b,q⟩=>⟨ks,kvs,a,b,i _ _ q⟩) h) h⟩) h
theorem DZ{d e v:WE}(m:Mono d)(m1:Mono e)(m2:Mono v):Mono (Hw d e v):=λρ S P P' i h=>m _ _ _ _ (λx S1 ⟨k,kv0,a,b,h⟩=>⟨k,kv0,a,b,m1 _ _ _ _ (λy S2 h=>m2 _ _ _ _ (λz S3 ⟨ks,kvs,a,b,c,q0,q1⟩=>⟨ks,kvs,a,b,c,λn e=>i _ _ (q0 n e),λe=>i _ _ (q1 e)⟩) h) h⟩) h
theorem Cp{a:WE}(m:Mono a):Mono (F9 a):=λρ S P P' i h=>m _ _ _ _ (λx S1 ⟨k,kvs,a,b,q⟩=>⟨k,kvs,a,b,i _ _ q⟩) h
theorem FE{X:Cx}{ro r r2:Expr}{ap cp:Pos}{d e v:WE×WT}(hu:X.A.units+1<cLine)(hd:Good X ro d)(he:Good X r e)(hv:Good X r2 v)(hn:w4 ro=true)(hl:(ap.endLine == cp.line)=true)(hs:c3 r=true)(hs2:c3 r2=true):Good X (.Call (.Attribute ro "get" ap) [r,r2] [] cp) (tt1 (F8 d.1 e.1 v.1)):=by
 refine .one (i9 _ (MB hu hd.pe he.pe hv.pe ⟨n9 hn,by rw[f7 hs,f7 hs2];rfl,hl,by rw[f7 hs,f7 hs2];rfl⟩) ?_) (Co hd.m he.m hv.m) rfl;rintro σ H Q ⟨as,ρ,S,ok,en,h⟩;refine⟨as,ρ,S,ok,en,hd.m _ _ _ _ (λx S1 ⟨k,kv0,e0,hk,h⟩ as1 H1 w g1 ok1 rw1=>?_) h⟩;subst e0;obtain⟨a,ea,rfl⟩:=rl_loc.mp rw1;obtain⟨us0,h1,_⟩:=ok1.obj k _ a hk ea;have en1:=en.mono g1.pre (g1.ku ok);refine⟨a,rfl,.inr ⟨_,.inl h1⟩,as1,ρ,S1,ok1,en1,he.m _ _ _ _ (λy S2 h as2 H2 w2 g2 ok2 rw2=>?_) h⟩;refine⟨as2,ρ,S2,ok2,en1.mono g2.pre (g2.ku ok1),hv.m _ _ _ _ (λz S3 ⟨ks,kvs,e1,hk3,q⟩ as3 H3 w3 g3 ok3 rw3=>?_) h⟩;subst e1;have ea3:=B2 g3.pre (B2 g2.pre ea);obtain⟨us,h3,rr⟩:=ok3.obj k _ a hk3 ea3;obtain⟨p,rfl,hp⟩:=GG (Rl.mono g3.pre (g3.ku ok2) _ _ rw2);have G:=g1.trans (g2.trans g3);refine⟨v7 us (ks.map Sum.inl),DGet.t h3 hp,?_⟩;rcases rr.val ks with⟨x',v',e1,e2,r'⟩ | ⟨e1,e2⟩
 ·rw[e1]at q;rw[e2];exact q as3 H3 _ G ok3 r'
 ·rw[e1]at q;rw[e2];exact q as3 H3 _ G ok3 rw3
theorem GI{X:Cx}{ro r r2:Expr}{ap cp:Pos}{d e v:WE×WT}(hd:Good X ro d)(he:Good X r e)(hv:Good X r2 v)(hn:w4 ro=true)(hl:(ap.endLine == cp.line)=true)(hs:c3 r=true)(hs2:c3 r2=true):Good X (.Call (.Attribute ro "setdefault" ap) [r,r2] [] cp) (tt1 (Hw d.1 e.1 v.1)):=by
 refine .one (i9 _ (Mx hd.pe he.pe hv.pe ⟨n9 hn,by rw[f7 hs,f7 hs2];rfl,hl,by rw[f7 hs,f7 hs2];rfl⟩) ?_) (DZ hd.m he.m hv.m) rfl;rintro σ H Q ⟨as,ρ,S,ok,en,h⟩;refine⟨as,ρ,S,ok,en,hd.m _ _ _ _ (λx S1 ⟨k,kv0,e0,hk,h⟩ as1 H1 w g1 ok1 rw1=>?_) h⟩;subst e0;obtain⟨a,ea,rfl⟩:=rl_loc.mp rw1;obtain⟨us0,h1,_⟩:=ok1.obj k _ a hk ea;have en1:=en.mono g1.pre (g1.ku ok);refine⟨a,rfl,.inl ⟨_,.inl h1⟩,as1,ρ,S1,ok1,en1,he.m _ _ _ _ (λy S2 h as2 H2 w2 g2 ok2 rw2=>?_) h⟩;refine⟨as2,ρ,S2,ok2,en1.mono g2.pre (g2.ku ok1),hv.m _ _ _ _ (λz S3 ⟨i,kvs,e1,hk3,hb,q0,q1⟩ as3 H3 w3 g3 ok3 rw3=>?_) h⟩;subst e1;rw[rl_int]at rw2;subst rw2;have ea3:=B2 g3.pre (B2 g2.pre ea);obtain⟨us,h3,rr⟩:=ok3.obj k _ a hk3 ea3;have G:=g1.trans (g2.trans g3);refine⟨us,.inl i,rfl,h3,by rw[rr.length];exact Vc hb (AR (VF _)),λu hu'=>?_,λhu'=>?_⟩
 ·rcases rr.val i with⟨x',v',e1,e2,r'⟩ | ⟨_,e2⟩
  ·rw[hu']at e2;cases e2;exact q0 x' e1 as3 H3 _ G ok3 r'
  ·rw[hu']at e2;cases e2
 ·rcases rr.val i with⟨x',v',e1,e2,r'⟩ | ⟨e1,_⟩
  ·rw[hu']at e2;cases e2
  ·rw[Fi _ hu'];obtain⟨ok4,ku⟩:=ok3.writeO (x := .dct (kvs++[(i,z)])) (u := .dK (us++[(Sum.inl i,w3)])) hk3 ea3 (λku=>⟨_,m7,RlD.snoc (Rl.mono (Vk _) ku z w3 rw3) i (RlD.mono (Vk _) ku kvs us rr)⟩);exact q1 e1 as3 _ _ (G.trans (Go.write (V9 ea3))) ok4 (Rl.mono (Vk _) ku z w3 rw3)
theorem FF{X:Cx}{T:List Str}{Δ:Nat->Sn}{k:Nat}{N:List Str}{sc:Yu}{r:Expr}{p q ap cp:Pos}{a:WE×WT}(C:Cok T Δ X k N sc)(hg:glo sc "list"=true)(ha:Good X r a)(hn:w4 r=true)(hl:(ap.endLine == cp.line)=true):Good X (.Call (.Name "list" p) [.Call (.Attribute r "values" ap) [] [] cp] [] q) (tt1 (F9 a.1)):=by
 unfold glo at hg;simp only[V6,beq_iff_eq,VZ]at hg;have gl:Gl X "list":=by show X.env.scope.names.lookup ("list":Str)=_;rw[C.hs];exact hg.1.1
 refine .one (i9 _ (PJ C.calm gl (C.bl .list) IE ha.pe (n9 hn) hl rfl) ?_) (Cp ha.m) rfl;rintro σ H Q ⟨as,ρ,S,ok,en,h⟩;refine⟨as,ρ,S,ok,en,ha.m _ _ _ _ (λx S1 ⟨k,kvs,e0,hk,q⟩ as1 H1 v g1 ok1 rv=>?_) h⟩;subst e0;obtain⟨a,ea,rfl⟩:=rl_loc.mp rv;obtain⟨us,h1,rr⟩:=ok1.obj k _ a hk ea;exact⟨a,us,rfl,h1,AS ok1 (RlT.vals rr) (q.mono g1)⟩
theorem EZ{K:V5}{as:List Yi}{H:Hp}{v:V}{i j:Int}(r:Rl K as H v (.tup [.int i,.int j])):∃ p,v = .ref p/\H p=some (.tup [.int i,.int j]):=by
 obtain⟨p,vs,rfl,hp,rp⟩:=rl_tup.mp r;obtain⟨v1,t1,rfl,r1,rp⟩:=rla_cons.mp rp;obtain⟨v2,t2,rfl,r2,rp⟩:=rla_cons.mp rp;obtain rfl:=rla_nil.mp rp;rw[rl_int]at r1 r2;subst r1 r2;exact⟨p,rfl,hp⟩
theorem JQ{K:V5}:BN K Mh (λx y H Q=>∃ a b,∃ i j k l:Int,x = .ref a/\y = .ref b/\SqT K H a [.int i,.int j]/\SqT K H b [.int k,.int l]/\Q (.bl (decide (i=k/\j=l))) H):=λas H S x y v u Q ok rx ry h=>by
 obtain⟨i,j,k,l,rfl,rfl,q⟩:=h;obtain⟨a,rfl,ha⟩:=EZ rx;obtain⟨b,rfl,hb⟩:=EZ ry;exact⟨a,b,i,j,k,l,rfl,rfl,SqT.of ha,SqT.of hb,q.here ok (rl_bl.mpr rfl)⟩
theorem CD:Mono2 Mh:=λx y S P P' i ⟨a,b,c,d,e,f,q⟩=>⟨a,b,c,d,e,f,i _ _ q⟩
theorem Ks{X:Cx}{ra rb:Expr}{p:Pos}{wa wb:WE}(hu:X.A.units+1<cLine)(ha:PE X ra (lift X.K wa))(hb:PE X rb (lift X.K wb))(ma:Mono wa)(mb:Mono wb)(hn:AK rb=true):Good X (.Compare ra [.Eq] [rb] p) (tt2 (w2 Mh wa wb)):=by
 have m:Mono (w2 Mh wa wb) := .two CD ma mb
 exact{pe:=i9 _ (Iu (JO (by omega)) ha hb (BT hn)) (B3 JQ CD ma mb)
       pt:=DK _ (Iv (JO (by omega)) ha hb (BT hn)) λσ H Q h=>B3 JQ CD ma mb σ H _ (I0 m σ H Q h)
       m:=m
       mt := .bl m
       pw:=λ_ _ _ e=>by cases e}
noncomputable def Ea(K:V5)(g:Tg):TG:=λv σ H Q=>∃ as ρ S x,Ok K as H S/\EnvOk K as H σ ρ/\Rl K as H v x/\wTg g x ρ λρ'=>∀ σ',EnvOk K as H σ' ρ'->Q σ' H
noncomputable def SM(K:V5)(g:Tgs):TGs:=λvs σ H Q=>∃ as ρ S xs,Ok K as H S/\EnvOk K as H σ ρ/\RlAll K as H vs xs/\Ad g xs ρ λρ'=>∀ σ',EnvOk K as H σ' ρ'->Q σ' H
mutual
theorem y9:∀(g:Tg) {x:SV} {ρ:EnvS} {P P':EnvS->Prop},(∀ r,P r->P' r)->wTg g x ρ P->wTg g x ρ P'
 | .nm i,x,ρ,P,P',h,q=>by unfold wTg at q ⊢;exact h _ q
 | .tup ts,x,ρ,P,P',h,q=>by
   cases x with
   | tup xs=>unfold wTg at q ⊢;exact GJ ts h q
   | _=>unfold wTg at q;exact q.elim
theorem GJ:∀(g:Tgs) {x:List SV} {ρ:EnvS} {P P':EnvS->Prop},(∀ r,P r->P' r)->Ad g x ρ P->Ad g x ρ P'
 | .nil,x,ρ,P,P',h,q=>by
   cases x with
   | nil=>unfold Ad at q ⊢;exact h _ q
   | cons _ _=>unfold Ad at q;exact q.elim
 | .cons t ts,x,ρ,P,P',h,q=>by
   cases x with
   | nil=>unfold Ad at q;exact q.elim
   | cons y ys=>unfold Ad at q ⊢;exact y9 t (λr q=>GJ ts h q) q
end
theorem BV{env:Env}:∀{es:List Expr},es.all c3=true->(Z7 es env).length=es.length/\(Z7 es env).findIdx? (·.1)=none/\∀ e r,es=e::r->(Z7 (e::r) env).map (·.2)=assign e env::(Z7 r env).map (·.2)
 | [],_=>⟨rfl,rfl,λe r h=>by cases h⟩
 | e::es,h=>by
   rw[W7,V6]at h;obtain⟨h1,h2,_⟩:=BV (env:=env) h.2;have:Z7 (e::es) env=(false,assign e env)::Z7 es env:=by cases e<;>first | rfl | (have:=h.1;cases this)
   rw[this];refine⟨by simp[h1],by rw[List.findIdx?_cons,h2];rfl,λe' r z=>?_⟩;injection z with z1 z2;subst z1 z2;rw[this];rfl
theorem Ce{k:Nat}{N:List Str}{sc:Yu}:∀{g:Tgs} {es:List Expr},AT k N sc g es=true->es.all c3=true
 | .nil,es,h=>by unfold AT at h;rw[Vn]at h;subst h;rfl
 | .cons t ts,es,h=>by
   rw[AT]at h;replace h:=a4 h;obtain⟨e,he,h⟩:=h;simp only[V6]at h;rw[Ag he,W7,h.1.2,Ce h.2];rfl
section
variable{X:Cx}{T:List Str}{Δ:Nat->Sn}{k:Nat}{N:List Str}{sc:Yu}
mutual
theorem BW(C:Cok T Δ X k N sc):∀(g:Tg) (r:Expr),BS k N sc g r=true->PG X r (Ea X.K g)
 | .nm i,r,h=>by
   rw[BS]at h;replace h:=a4 h;obtain⟨x,hx,h⟩:=h;obtain⟨p,rfl⟩:=BQ hx
   ·simp only[V6,dQ]at h;obtain⟨⟨h1,h2⟩,h3⟩:=h;unfold loc at h3;simp only[Vu,beq_iff_eq]at h3;have hl:Loc X.env.scope x:=by rw[C.hs];exact h3
    have hf:X.fn x=true\/X.env.scope.names.lookup x=some .local:=by
     rw[C.hs];rcases h3 with h3 | h3
     ·exact .inr h3
     ·exact .inl (C.fn i x h1 h2 h3)
    have b:=OF (X:=X) (pos:=p) (i:=i) (by rw[C.hN];exact C.nd) (by rw[C.hN];exact h2) hl hf;intro pq s σ H v u Q I rr hq;obtain⟨as,ρ,S,y,ok,en,rv,q⟩:=hq;unfold wTg at q;exact b pq s σ H v u Q I rr (q _ (en.set rv))
 | .tup ts,r,h=>by
   rw[BS]at h;replace h:=a4 h;obtain⟨es,he,h⟩:=h;obtain⟨j,p,rfl⟩:=B4 he
   ·have st:=BV (env:=X.env) (Ce h);have b:=Lc (X:=X) (k:=j) (pos:=p) C.calm (Eb C ts es h) st.1 st.2.1;intro pq s σ H v u Q I rr hq;refine b pq s σ H v u Q I rr ?_;obtain⟨as,ρ,S,y,ok,en,rv,q⟩:=hq;cases y with
    | tup xs=>
      obtain⟨a,vs,rfl,ha,ra⟩:=rl_tup.mp rv;unfold wTg at q;refine⟨a,vs,rfl,SqT.of ha,?_,as,ρ,S,xs,ok,en,ra,q⟩;rw[ra.length];exact JR ts es xs h q
    | _=>unfold wTg at q;exact q.elim
theorem Eb(C:Cok T Δ X k N sc):∀(g:Tgs) (es:List Expr),AT k N sc g es=true->PGs X es (SM X.K g)
 | .nil,es,h=>by
   rw[AT]at h;rw[Vn]at h;subst h;intro pq s σ H vs us Q I rr hq;refine Io pq s σ H vs us Q I rr ?_;obtain⟨as,ρ,S,xs,ok,en,rv,q⟩:=hq;cases xs with
   | nil=>unfold Ad at q;exact⟨rla_nil.mp rv,q _ en⟩
   | cons _ _=>unfold Ad at q;exact q.elim
 | .cons t ts,el,h=>by
   have st:=BV (env:=X.env) (Ce h);rw[AT]at h;replace h:=a4 h;obtain⟨e,he,h⟩:=h;simp only[V6]at h;rw[Ag he]at st ⊢;generalize el.tail=es at h st;intro pq s σ H vs us Q I rr hq;refine D6 (BW C t e h.1.1) (Eb C ts es h.2) (st.2.2 _ _ rfl) pq s σ H vs us Q I rr ?_;obtain⟨as,ρ,S,xs,ok,en,rv,q⟩:=hq;cases xs with
   | nil=>unfold Ad at q;exact q.elim
   | cons y ys=>
     unfold Ad at q;obtain⟨v,r,rfl,r1,r2⟩:=rla_cons.mp rv;exact⟨v,r,rfl,as,ρ,S,y,ok,en,r1,y9 t (λρ' q σ' en'=>⟨as,ρ',S,ys,ok,en',r2,q⟩) q⟩
theorem JR:∀(g:Tgs) (es:List Expr) (xs:List SV) {ρ:EnvS} {P:EnvS->Prop},AT k N sc g es=true->Ad g xs ρ P->xs.length=es.length
 | .nil,es,xs,ρ,P,h,q=>by
   rw[AT]at h;rw[Vn]at h;subst h;cases xs with
   | nil=>rfl
   | cons _ _=>unfold Ad at q;exact q.elim
 | .cons t ts,el,xs,ρ,P,h,q=>by
   rw[AT]at h;replace h:=a4 h;obtain⟨e,he,h⟩:=h;simp only[V6]at h;rw[Ag he];generalize el.tail=es at h;cases xs with
   | nil=>unfold Ad at q;exact q.elim
   | cons y ys=>
     unfold Ad at q;obtain⟨ρ',q'⟩:=JS t q;simp[JR ts es ys h.2 q']
theorem JS:∀(g:Tg) {x:SV} {ρ:EnvS} {P:EnvS->Prop},wTg g x ρ P->∃ ρ',P ρ'
 | .nm i,x,ρ,P,q=>by unfold wTg at q;exact⟨_,q⟩
 | .tup ts,x,ρ,P,q=>by
   cases x with
   | tup xs=>unfold wTg at q;exact GK ts q
   | _=>unfold wTg at q;exact q.elim
theorem GK:∀(g:Tgs) {xs:List SV} {ρ:EnvS} {P:EnvS->Prop},Ad g xs ρ P->∃ ρ',P ρ'
 | .nil,xs,ρ,P,q=>by
   cases xs with
   | nil=>unfold Ad at q;exact⟨_,q⟩
   | cons _ _=>unfold Ad at q;exact q.elim
 | .cons t ts,xs,ρ,P,q=>by
   cases xs with
   | nil=>unfold Ad at q;exact q.elim
   | cons y ys=>
     unfold Ad at q;obtain⟨ρ',q'⟩:=JS t q;exact GK ts q'
end
end
structure Gu(as:List Yi)(H:Hp)(as':List Yi)(H':Hp):Prop where
 pre:as <+: as'
 kp:KeepU H H'
theorem Gu.ku{K:V5}{as as':List Yi}{H H':Hp}{S:Sto}(g:Gu as H as' H')(_:Ok K as H S):KeepU H H':=g.kp
theorem Go.gu{K:V5}{as as':List Yi}{H H':Hp}{S:Sto}(g:Go as H as' H')(ok:Ok K as H S):Gu as H as' H':=⟨g.pre,g.ku ok⟩
noncomputable def Walks(K:V5)(as0:List Yi)(H0:Hp)(J:It)(keep:Sto->Prop)(xs:List SV):Prop:=∀ as H S,Gu as0 H0 as H->Ok K as H S->keep S->
 (∀(i:Nat) (x:SV),xs[i]?=some x->J.go i H/\∀ v H',J.yld i H v H'->Go as H as H'/\Ok K as H' S/\Rl K as H' v x)/\J.stop xs.length H
noncomputable def UQ(K:V5)(as:List Yi)(H:Hp)(R:It->Hp->Prop):(Sto->Prop)->List SV->Sto->Prop:=λkeep xs S1=>∀ as1 H1 J,Go as H as1 H1->Ok K as1 H1 S1->Walks K as1 H1 J keep xs->R J H1
noncomputable def liftI(K:V5)(w:WI):TI:=λσ H R=>∃ as ρ S,Ok K as H S/\EnvOk K as H σ ρ/\w ρ S (UQ K as H R)
def MonoI(w:WI):Prop:=∀ ρ S (P P':(Sto->Prop)->List SV->Sto->Prop),(∀ k x S',P k x S'->P' k x S')->w ρ S P->w ρ S P'
structure GoodI(X:Cx)(tg r:Expr)(w:WI):Prop where
 pi:PI X tg r (liftI X.K w)
 m:MonoI w
section
variable{X:Cx}{K:V5}
theorem GL{as0 as:List Yi}{H0 H:Hp}{S1 S:Sto}{x:SV}{v:V}{xs:List SV}(ok1:Ok K as0 H0 S1)(r:Rl K as0 H0 v x)(h:seqS x S1=some xs)(g:Gu as0 H0 as H)(ok:Ok K as H S)(kp:keepS x S1 S):Rl K as H v x/\seqS x S=some xs:=by
 refine⟨Rl.mono g.pre (g.ku ok1) x v r,?_⟩;cases x with
 | loc k=>
   have kp:S[k]?=S1[k]?:=kp;unfold seqS at h ⊢;simp only[kp];exact h
 | _=>exact h
theorem Kt{as0:List Yi}{H0:Hp}{S1:Sto}{x:SV}{a:Yi}{xs:List SV}(ok1:Ok K as0 H0 S1)(r:Rl K as0 H0 (.ref a) x)(n:x ≠ .tup xs)(h:seqS x S1=some xs):Walks K as0 H0 (Itl K a) (keepS x S1) xs:=λas H S g ok kp=>by
 obtain⟨r',h'⟩:=GL ok1 r h g ok kp;obtain⟨b,vs,e,hq,rr⟩:=AL ok r' n h';cases e;refine⟨λi y hy=>?_,vs,hq,by rw[rr.length];exact VF _⟩;obtain⟨v,hv,rv⟩:=rr.get hy;refine⟨⟨vs,v,hq,hv⟩,λu H' yl=>?_⟩;obtain⟨e,yl⟩:=yl;subst e;have:=yl vs hq;rw[hv]at this;cases this;exact⟨Go.refl _ _,ok,rv⟩
theorem N4{as0:List Yi}{H0:Hp}{S1:Sto}{a:Yi}{xs:List SV}(ok1:Ok K as0 H0 S1)(r:Rl K as0 H0 (.ref a) (.tup xs)):Walks K as0 H0 (Itt K a) (keepS (.tup xs) S1) xs:=λas H S g ok kp=>by
 have r':=Rl.mono g.pre (g.ku ok1) _ _ r;obtain⟨b,vs,e,hb,rr⟩:=rl_tup.mp r';cases e;refine⟨λi y hy=>?_,vs,SqT.of hb,by rw[rr.length];exact VF _⟩;obtain⟨v,hv,rv⟩:=rr.get hy;refine⟨⟨vs,v,SqT.of hb,hv⟩,λu H' yl=>?_⟩;obtain⟨e,yl⟩:=yl;subst e;have:=yl vs (SqT.of hb);rw[hv]at this;cases this;exact⟨Go.refl _ _,ok,rv⟩
theorem GM{as0:List Yi}{H0:Hp}{lo hi:Int}:Walks K as0 H0 (Itr lo (hi - lo).toNat) (λ_=>True) (CY lo hi):=λas H S g ok _=>by
 have hl:(CY lo hi).length=(hi - lo).toNat:=by unfold CY;simp
 refine⟨λi y hy=>?_,by show(hi - lo).toNat<=(CY lo hi).length;rw[hl];exact VF _⟩;have hi':i<(hi - lo).toNat:=by rw[<-hl];exact(gM hy).1
 refine⟨hi',λu H' yl=>?_⟩;obtain⟨e,rfl⟩:=yl;subst e
 have:y = .int (lo+i):=by
  unfold CY at hy;rw[VG,W1 hi']at hy;exact(oj hy).symm
 subst this;exact⟨Go.refl _ _,ok,rl_int.mpr rfl⟩
theorem GN{xs:List SV}{i:Nat}{y:SV}(h:(BP xs)[i]?=some y):∃ x,xs[i]?=some x/\y = .tup [.int i,x]:=by
 unfold BP at h;rw[Xs]at h;cases h1:(VD xs.length)[i]? with
 | none=>rw[h1]at h;cases h
 | some j=>
   cases h2:xs[i]? with
   | none=>rw[h1,h2]at h;cases h
   | some x=>
     rw[h1,h2]at h;have hi:=(gM h2).1;rw[W1 hi]at h1;cases h1;cases h;exact⟨x,rfl,rfl⟩
theorem GO{xs:List SV}:(BP xs).length=xs.length:=by unfold BP;simp
theorem IM{as0:List Yi}{H0:Hp}{S1:Sto}{x:SV}{a:Yi}{xs:List SV}(ok1:Ok K as0 H0 S1)(r:Rl K as0 H0 (.ref a) x)(n:x ≠ .tup xs)(h:seqS x S1=some xs):Walks K as0 H0 (Ra K a) (keepS x S1) (BP xs):=λas H S g ok kp=>by
 obtain⟨r',h'⟩:=GL ok1 r h g ok kp;obtain⟨b,vs,e,hq,rr⟩:=AL ok r' n h';cases e;refine⟨λi y hy=>?_,vs,hq,by rw[rr.length,GO]⟩;obtain⟨z,hz,rfl⟩:=GN hy;obtain⟨v,hv,rv⟩:=rr.get hz;refine⟨⟨vs,v,hq,hv⟩,λu H' yl=>?_⟩;obtain⟨p,w,hp,rfl,yl,rfl⟩:=yl;have:=yl vs hq;rw[hv]at this;cases this;exact⟨Go.new hp,ok.new hp,rl_tup.mpr ⟨p,_,rfl,m7,.cons (rl_int.mpr rfl) (.cons (Rl.mono (Vk _) (Ar hp) z v rv) .nil)⟩⟩
theorem IN{as0:List Yi}{H0:Hp}{S1:Sto}{a:Yi}{xs:List SV}(ok1:Ok K as0 H0 S1)(r:Rl K as0 H0 (.ref a) (.tup xs)):Walks K as0 H0 (Rb K a) (keepS (.tup xs) S1) (BP xs):=λas H S g ok kp=>by
 have r':=Rl.mono g.pre (g.ku ok1) _ _ r;obtain⟨b,vs,e,hb,rr⟩:=rl_tup.mp r';cases e;refine⟨λi y hy=>?_,vs,SqT.of hb,by rw[rr.length,GO]⟩;obtain⟨z,hz,rfl⟩:=GN hy;obtain⟨v,hv,rv⟩:=rr.get hz;refine⟨⟨vs,v,SqT.of hb,hv⟩,λu H' yl=>?_⟩;obtain⟨p,w,hp,rfl,yl,rfl⟩:=yl;have:=yl vs (SqT.of hb);rw[hv]at this;cases this;exact⟨Go.new hp,ok.new hp,rl_tup.mpr ⟨p,_,rfl,m7,.cons (rl_int.mpr rfl) (.cons (Rl.mono (Vk _) (Ar hp) z v rv) .nil)⟩⟩
theorem FG{tg l:Expr}{w:TI}(w':TI)(h:PI X tg l w)(imp:∀ σ H R,w' σ H R->w σ H R):PI X tg l w':=λpq s σ H R I hw=>h pq s σ H R I (imp σ H R hw)
def Uy(K:V5)(tl:TE):TI:=λσ H R=>tl σ H λx H1=>∃ a,x = .ref a/\(((∃ xs,SqL K H1 a xs)/\R (Itl K a) H1)\/((∃ xs,SqT K H1 a xs)/\R (Itt K a) H1))
theorem SN{tg l:Expr}{tl:TE}(hl:PE X l tl):PI X tg l (Uy X.K tl):=by
 intro pq s σ H R I h;refine thn (hl pq s σ H _ I h) λv s1 ⟨x,H1,I1,r1,q1⟩=>?_;obtain⟨a,e,q⟩:=q1;subst e;cases r1;have I2:∀{ob:Obj},Inv X pq σ H1 {s1 with heap:=s1.heap.push ob}:=I1.kept (t':=s1.toks) λb o e=>VE _ e
 have fp:∀ b∈[s1.heap.objs.size],FpOk X pq H1 b:=λb hb=>by
  rw[VQ.mp hb];exact I1.fpOk (VF _) (I1.hok.fresh (VF _))
 rcases q with⟨⟨xs,hq⟩,q⟩ | ⟨⟨xs,hq⟩,q⟩
 ·obtain⟨its,rv,p,hz⟩:=I1.list hq;exact ZC p.isList ⟨s1.heap.objs.size,[s1.heap.objs.size],_,_,H1,rfl,I2,K7 a _,⟨_,VR _ rfl,rfl,rfl⟩,fp,q⟩
 ·obtain⟨its,rv,p,hz⟩:=I1.tuple hq;exact ZJ (show s1.heap.IsTuple a its.toArray from p) ⟨s1.heap.objs.size,[s1.heap.objs.size],_,_,H1,rfl,I2,HS a _,⟨_,VR _ rfl,rfl,rfl⟩,fp,q⟩
theorem Ku{tg r:Expr}{a:WE×WT}(ha:Good X r a):GoodI X tg r (QV a.1) where
 m:=λρ S P P' i h=>ha.m _ _ _ _ (λx S1 ⟨xs,e,q⟩=>⟨xs,e,i _ _ _ q⟩) h
 pi:=FG _ (SN ha.pe) (by
  rintro σ H R ⟨as,ρ,S,ok,en,h⟩;refine⟨as,ρ,S,ok,en,ha.m _ _ _ _ (λx S1 ⟨xs,e,q⟩ as1 H1 v g1 ok1 rv=>?_) h⟩;by_cases ht:x = .tup xs
  ·subst ht;obtain⟨p,vs,rfl,hp,rr⟩:=rl_tup.mp rv;exact⟨p,rfl,.inr ⟨⟨vs,SqT.of hp⟩,q as1 H1 _ g1 ok1 (N4 ok1 rv)⟩⟩
  ·obtain⟨p,vs,rfl,hq,rr⟩:=AL ok1 rv ht e;exact⟨p,rfl,.inl ⟨⟨vs,hq⟩,q as1 H1 _ g1 ok1 (Kt ok1 rv ht e)⟩⟩)
theorem IO{T:List Str}{Δ:Nat->Sn}{k:Nat}{N:List Str}{sc:Yu}{elts:List Expr}{kx:Nat}{tp p q:Pos}{r:Expr}{a:WE×WT}(C:Cok T Δ X k N sc)(hg:glo sc "enumerate"=true)(ha:Good X r a)(hs:c3 r=true):GoodI X (.Tuple elts kx tp) (.Call (.Name "enumerate" p) [r] [] q) (Mb a.1) where
 m:=λρ S P P' i h=>ha.m _ _ _ _ (λx S1 ⟨xs,e,q⟩=>⟨xs,e,i _ _ _ q⟩) h
 pi:=by
  unfold glo at hg;simp only[V6,beq_iff_eq,VZ]at hg;have gl:Gl X "enumerate":=by show X.env.scope.names.lookup ("enumerate":Str)=_;rw[C.hs];exact hg.1.1
  refine FG _ (OS gl C.enm (y1 ha.pe Az (f7 hs)) (f7 hs)) ?_;rintro σ H R ⟨as,ρ,S,ok,en,h⟩;refine⟨as,ρ,S,ok,en,ha.m _ _ _ _ (λx S1 ⟨xs,e,q⟩ as1 H1 v g1 ok1 rv=>?_) h⟩;by_cases ht:x = .tup xs
  ·subst ht;obtain⟨p,vs,rfl,hp,rr⟩:=rl_tup.mp rv;exact⟨p,rfl,.inr ⟨⟨vs,SqT.of hp⟩,q as1 H1 _ g1 ok1 (IN ok1 rv)⟩⟩
  ·obtain⟨p,vs,rfl,hq,rr⟩:=AL ok1 rv ht e;exact⟨p,rfl,.inl ⟨⟨vs,hq⟩,q as1 H1 _ g1 ok1 (IM ok1 rv ht e)⟩⟩
theorem IP{T:List Str}{Δ:Nat->Sn}{k:Nat}{N:List Str}{sc:Yu}{tg r:Expr}{p q:Pos}{a:WE×WT}(C:Cok T Δ X k N sc)(hg:glo sc "range"=true)(ha:Good X r a)(hs:c3 r=true):GoodI X tg (.Call (.Name "range" p) [r] [] q) (MZ a.1) where
 m:=λρ S P P' i h=>ha.m _ _ _ _ (λx S1 ⟨j,e,z,q⟩=>⟨j,e,z,i _ _ _ q⟩) h
 pi:=by
  unfold glo at hg;simp only[V6,beq_iff_eq,VZ]at hg;have gl:Gl X "range":=by show X.env.scope.names.lookup ("range":Str)=_;rw[C.hs];exact hg.1.1
  refine FG _ (K8 gl C.rng (y1 ha.pe Az (f7 hs)) (f7 hs)) ?_;rintro σ H R ⟨as,ρ,S,ok,en,h⟩;refine⟨as,ρ,S,ok,en,ha.m _ _ _ _ (λx S1 ⟨j,e,z,q⟩ as1 H1 v g1 ok1 rv=>?_) h⟩;subst e;refine⟨j,by rw[rl_int.mp rv],z.1,z.2,?_⟩;have:=q as1 H1 (Itr 0 (j - 0).toNat) g1 ok1 GM
  rwa [Int.sub_zero]at this
theorem IQ{T:List Str}{Δ:Nat->Sn}{k:Nat}{N:List Str}{sc:Yu}{tg r r2:Expr}{p q:Pos}{a b:WE×WT}(C:Cok T Δ X k N sc)(hg:glo sc "range"=true)(ha:Good X r a)(hb:Good X r2 b)(hs:c3 r=true)(hs2:c3 r2=true):GoodI X tg (.Call (.Name "range" p) [r,r2] [] q) (Ma a.1 b.1) where
 m:=λρ S P P' i h=>ha.m _ _ _ _ (λx S1 h=>hb.m _ _ _ _ (λy S2 ⟨l,j,e,e2,z,q⟩=>⟨l,j,e,e2,z,i _ _ _ q⟩) h) h
 pi:=by
  unfold glo at hg;simp only[V6,beq_iff_eq,VZ]at hg;have gl:Gl X "range":=by show X.env.scope.names.lookup ("range":Str)=_;rw[C.hs];exact hg.1.1
  refine FG _ (K9 gl C.rng (y1 ha.pe (y1 hb.pe Az (f7 hs2)) (f7 hs)) (by rw[f7 hs,f7 hs2];rfl) (f7 hs2)) ?_;rintro σ H R ⟨as,ρ,S,ok,en,h⟩;refine⟨as,ρ,S,ok,en,ha.m _ _ _ _ (λx S1 h as1 H1 v g1 ok1 rv=>?_) h⟩;refine⟨as1,ρ,S1,ok1,en.mono g1.pre (g1.ku ok),hb.m _ _ _ _ (λy S2 ⟨l,j,e,e2,z,q⟩ as2 H2 u g2 ok2 ru=>?_) h⟩;subst e e2;exact⟨l,j,by rw[rl_int.mp rv,rl_int.mp ru],z,q as2 H2 _ (g1.trans g2) ok2 GM⟩
end
end Rf
namespace L2
open PySem PySem.Spec PyProof.Rows
noncomputable def SetXO(prog:Yn)(w:Yq)(o:Obj)(L:List Int):Prop:=
 ∃ es ep t,o.ExactSet/\o.data = .set es ep t/\ElemsOf (intKind prog w) es.toList/\es.size<scanBound/\t.fits es.size=true/\Tab w t/\(es.toList.map λe=>numOf e.2).Perm L
theorem SetXO.at{prog:Yn}{w:Yq}{o:Obj}{L:List Int}{h:Heap}{a:Yi}(x:SetXO prog w o L)(e:h.get? a=some o):SetX prog w h a L:=let ⟨es,ep,t,r⟩:=x;⟨o,es,ep,t,e,r⟩
theorem SetX.obj{prog:Yn}{w:Yq}{L:List Int}{h:Heap}{a:Yi}(x:SetX prog w h a L):∃ o,h.get? a=some o/\SetXO prog w o L:=let ⟨o,es,ep,t,e,r⟩:=x;⟨o,e,es,ep,t,r⟩
end L2
namespace Rf
open PySem L2
theorem Kv{α:Type}{o:Option (Option α)}{x:α}(h:o.join=some x):o=some (some x):=by
 cases o with
 | none=>cases h
 | some o=>cases o with
   | none=>cases h
   | some y=>cases h;rfl
theorem EnvOk.cap{K:V5}{as:List Yi}{H:Hp}{σ:St}{ρ:EnvS}(h:EnvOk K as H σ ρ)(k:Nat)(js:List Nat):EnvOk K as H (BD k js σ) (Fx k js ρ):=by
 refine⟨by unfold BD Fx;simp,λi x e=>?_⟩;unfold Fx at e;unfold BD;by_cases hi:i<k
 ·rw[VP (by simpa using hi),WG,iP hi]at e;cases e
 ·rw[Vq (by simpa using hi),Wa,VG]at e;rw[Vq (by simpa using hi),Wa,VG];cases hj:js[i - k]? with
  | none=>rw[hj]at e;cases e
  | some j=>
    rw[hj]at e;have e':(ρ[j]?).join=some x:=oj e;obtain⟨v,hv,rv⟩:=h.2 j x (Kv e');exact⟨v,by simp only[WR];rw[hv];rfl,rv⟩
theorem Ok.adopt{K:V5}{as:List Yi}{H:Hp}{S:Sto}{D:Yi}{vs:List V}{xs:List SV}(h:Ok K as H S)(n:D∉as)(hD:H D=some (.lst vs))(r:RlAll K as H vs xs):Ok K (as++[D]) H (S++[.lst xs]):=by
 have pre:as <+: as++[D]:=Wq _ _;refine⟨by rw[V8,V8,h.len];rfl,?_,λk o a e ea=>?_⟩
 ·rw[WY];refine⟨h.nd,by simp,λa ha b hb=>?_⟩;rw[VQ.mp hb];intro z;subst z;exact n ha
 ·by_cases hk:k<S.length
  ·rw[VP hk]at e;rw[VP (by rw[h.len];exact hk)]at ea;exact(h.obj k o a e ea).mono pre (KeepU.refl _) λ_ z=>z
  ·have hk':k=S.length:=by
    have:=(gM e).1;rw[V8,Vw]at this;omega
   subst hk';rw[Vb]at e;rw[<-h.len,Vb]at ea;cases e;cases ea;exact⟨vs,hD,RlAll.mono pre (KeepU.refl _) xs vs r⟩
theorem By{keep:Sto->Prop}{g:Tg}{t:WT}{e:WE}{ρ:EnvS}(mt:MonoT t)(me:Mono e){Q Q':List SV->Sto->Prop}(i:∀ ys S,Q ys S->Q' ys S):∀(xs ys:List SV) (S:Sto),v4 keep g t e ρ Q xs ys S->v4 keep g t e ρ Q' xs ys S
 | [],ys,S,h=>by unfold v4 at h ⊢;exact⟨h.1,i _ _ h.2⟩
 | x::xs,ys,S,h=>by
   unfold v4 at h ⊢;refine⟨h.1,y9 g (λρ2 q=>mt _ _ _ _ (λb S1 q=>n8 (λq=>me _ _ _ _ (λy S2 q=>⟨q.1,By mt me i xs _ _ q.2⟩) q) (λq=>By mt me i xs _ _ q) q) q) h.2⟩
theorem Mono.comp{k:Nat}{js:List Nat}{g:Tg}{i:WI}{t:WT}{e:WE}(mi:MonoI i)(mt:MonoT t)(me:Mono e):Mono (JH k js g i t e):=λρ S P P' im h=>mi _ _ _ _ (λkeep xs S1 h=>By mt me (λys S2 q=>im _ _ q) xs [] S1 h) h
theorem GP{K:V5}{k:Nat}{js:List Nat}{g:Tg}{i:WI}{t:WT}{e:WE}(mi:MonoI i)(mt:MonoT t)(me:Mono e):∀ σ H Q,lift K (JH k js g i t e) σ H Q->M1 (liftI K i) (Ea K g) (liftT K t) (lift K e) k js σ H Q:=by
 rintro σ H Q ⟨as,ρ,S,ok,en,h⟩;refine⟨as,ρ,S,ok,en,mi _ _ _ _ (λkeep xs S1 h as1 H1 J g1 ok1 W=>?_) h⟩;intro D hD;have Dn:D∉as1:=ok1.free hD
 refine⟨λi m vs H2=>m=xs.length - i/\i<=xs.length/\∃ as2 S2 ys,Go as1 H1 as2 H2/\Ok K as2 H2 S2/\D∉as2/\H2 D=some (.lst vs)/\RlAll K as2 H2 vs ys/\
  v4 keep g t e (Fx k js ρ) (λys S2=>Post K as H Q (.loc S2.length) (S2++[.lst ys])) (xs.drop i) ys S2,⟨xs.length,by simp,WJ _,as1,S1,[],Go.new hD,ok1.new hD,Dn,m7,.nil,h⟩,?_⟩
 rintro i m vs H2 ⟨rfl,hi,as2,S2,ys,g2,ok2,n2,d2,rs,h⟩;by_cases hlt:i<xs.length
 ·right;rw[WU hlt]at h;unfold v4 at h;obtain⟨kp,h⟩:=h;obtain⟨w1,_⟩:=W as2 H2 S2 (g2.gu ok1) ok2 kp;obtain⟨go,yl⟩:=w1 i xs[i] (VB hlt)
  refine⟨go,λvs' H'=>∃ as2 S2 ys,Go as1 H1 as2 H'/\Ok K as2 H' S2/\D∉as2/\H' D=some (.lst vs')/\RlAll K as2 H' vs' ys/\
   v4 keep g t e (Fx k js ρ) (λys S2=>Post K as H Q (.loc S2.length) (S2++[.lst ys])) (xs.drop (i+1)) ys S2,λvs' H' z=>⟨xs.length - (i+1),by omega,rfl,hlt,z⟩,λx H3 y3=>?_⟩
  obtain⟨g3,ok3,rx⟩:=yl x H3 y3;have en3:EnvOk K as2 H3 (BD k js σ) (Fx k js ρ):=((en.mono g1.pre (g1.ku ok)).mono (g2.trans g3).pre ((g2.trans g3).ku ok1)).cap k js;have rs3:=RlAll.mono g3.pre (g3.ku ok2) ys vs rs;obtain⟨d3,n3⟩:=g3.keep D _ d2 n2;refine⟨as2,Fx k js ρ,S2,_,ok3,en3,rx,y9 g (λρ2 q σ2 en2=>?_) h⟩;refine⟨as2,ρ2,S2,ok3,en2,mt _ _ _ _ (λb S4 q as4 H4 g4 ok4=>?_) q⟩;obtain⟨d4,n4⟩:=g4.keep D _ d3 n3;have rs4:=RlAll.mono g4.pre (g4.ku ok3) ys vs rs3;refine n8 (λq=>?_) (λq=>?_) q
  ·refine⟨as4,ρ2,S4,ok4,en2.mono g4.pre (g4.ku ok3),me _ _ _ _ (λy S5 q as5 H5 v g5 ok5 rv=>?_) q⟩;obtain⟨d5,n5⟩:=g5.keep D _ d4 n4;have rs5:=RlAll.mono g5.pre (g5.ku ok4) ys vs rs4;refine⟨d5,by rw[rs.length];exact Eu q.1,as5,S5,ys++[y],?_,ok5.other d5 n5,n5,m7,?_,q.2⟩
   ·refine⟨(((g2.trans g3).trans g4).trans g5).pre,λb o hb nb=>?_⟩;obtain⟨z1,z2⟩:=(((g2.trans g3).trans g4).trans g5).keep b o hb nb;exact⟨by rw[i8 (j6 hb hD)];exact z1,z2⟩
   ·exact RlAll.mono (Vk _) (CU d5 rfl) _ _ (rs5.append (.cons rv .nil))
  ·exact⟨as4,S4,ys,(g2.trans g3).trans g4,ok4,n4,d4,rs4,q⟩
 ·left;have hi':i=xs.length:=by omega
  subst hi';rw[YH]at h;unfold v4 at h;obtain⟨kp,h⟩:=h;obtain⟨_,w2⟩:=W as2 H2 S2 (g2.gu ok1) ok2 kp;refine⟨w2,h (as2++[D]) H2 (.ref D) ?_ (ok2.adopt n2 d2 rs) (rl_loc.mpr ⟨D,by rw[<-ok2.len,Vb],rfl⟩)⟩;refine⟨(g1.pre.trans g2.pre).trans (Wq _ _),λb o hb nb=>?_⟩;obtain⟨h1,n1⟩:=g1.keep b o hb nb;obtain⟨h2,n2'⟩:=g2.keep b o h1 n1;refine⟨h2,?_⟩;rw[VU,VQ];rintro(z | z)
  ·exact n2' z
  ·exact j6 h1 hD z
theorem GQ{scope sc:Yu}{x:Str}(h:scope.names.lookup x=some .local):(Fz scope sc).names.lookup x=some .local:=by
 have go:∀ l:List (Str×Z3),l.lookup x=some .local->(l.map λ(n,k)=>if (k == .free&&sc.kind == .function&&sc.names.lookup n == some .cell) then (n,.cell) else (n,k)).lookup x=some .local:=by
  intro l
  induction l with
  | nil=>intro h;cases h
  | cons a r ih=>
    obtain⟨n,k⟩:=a;intro h;rw[WH]at h;rw[Vh];cases hb:x == n with
    | true=>
      rw[hb]at h;have:k = .local:=oj h;subst this;show Xt x ((n,NameKind.local)::_)=_;rw[WH,hb]
    | false=>
      rw[hb]at h
      have e:∀ k',Xt x ((n,k')::(r.map λ(n,k)=>if (k == .free&&sc.kind == .function&&sc.names.lookup n == some .cell) then (n,.cell) else (n,k)))=some .local:=λk'=>by
       rw[WH,hb];exact ih h
      show Xt x ((if (k == .free&&sc.kind == .function&&sc.names.lookup n == some .cell)=true then (n,NameKind.cell) else (n,k))::_)=_;split<;>exact e _
 exact go _ h
theorem Cok.comp{T:List Str}{Δ:Nat->Sn}{X:Cx}{k:Nat}{N:List Str}{sc scope:Yu}{own cn:List Str}{js:List Nat}(C:Cok T Δ X k N sc)(hok:AA sc scope own cn N js=true)(s2:Yh)(H2:Hp)(cs:List (Str×Yi))(A:Yi)(fp:List Yi):Cok T Δ (j9 X scope (own++cn) s2 H2 cs A fp) own.length (own++cn) (Fz scope sc) where
 hN:=rfl
 hs:=by rw[<-C.hs];rfl
 nd:=by
  unfold AA at hok;simp only[V6,dQ]at hok;exact hok.1.2
 calm:=C.calm
 fn:=λi x hi hx hc=>by
  unfold AA at hok;simp only[V6,dQ,Va,Vu]at hok
  have hm:x∈own:=by
   rw[VP hi]at hx;exact V9 hx
  show(scope.names.lookup x == some .cell)=true;rcases hok.1.1.1.2 x hm with h | h
  ·rw[GQ h]at hc;cases hc
  ·rw[h];rfl
 un:=C.un
 bl:=C.bl
 rng:=C.rng
 enm:=C.enm
 rvs:=C.rvs
 zip:=C.zip
 sm0:=C.sm0
 st0:=C.st0
 dc0:=C.dc0
 ty:=C.ty
 gd:=C.gd
 call:=C.call
 mono:=C.mono
theorem An{r:Expr}(h:AK r=true){env:Env}:∀ x,ZY r env x=pure x:=λx=>by cases r<;>first | rfl | cases h
theorem Bd{T N:List Str}{sc:Yu}:∀{es:Exs} {rs:List Expr},Au T N sc es rs=true->rs.all c3=true
 | .nil,rs,h=>by unfold Au at h;rw[Vn]at h;subst h;rfl
 | .cons e es,rs,h=>by
   unfold Au at h;replace h:=a4 h;obtain⟨x,hx,h⟩:=h;simp only[V6]at h;rw[Ag hx,W7,h.1.2,Bd h.2];rfl
theorem SQ{X:Cx}{i:Nat}{x:Str}{p:Pos}{N:List Str}{sc:Yu}{T:List Str}{Δ:Nat->Sn}{k:Nat}(C:Cok T Δ X k N sc)(h:nmB N sc i x=true):PE X (.Name x p) (O9 i):=by
 unfold nmB at h;simp only[V6,dQ,VZ]at h;exact SF C h.1.1.1 h.1.1.2 h.1.2 h.2
theorem JT{α:Type}{l:List α}(h:(!l.isEmpty)=true):∃ y ys,l=y::ys:=by
 cases l with
 | nil=>cases h
 | cons y ys=>exact⟨y,ys,rfl⟩
theorem SR{X:Cx}{c:Expr}{a:WE×WT}(h:Good X c a):Dy X [c] (liftT X.K a.2):=Lz h.pt
theorem N5{X:Cx}:Dy X [] (liftT X.K UE):=λpq s σ H Q I hw=>Ly pq s σ H Q I (let ⟨as,ρ,S,ok,en,h⟩:=hw;h as H (Go.refl _ _) ok)
theorem IR{T:List Str}{Δ:Nat->Sn}{X:Cx}{k:Nat}{N:List Str}{sc scope:Yu}{own cn:List Str}{js:List Nat}{tg ri re:Expr}{ifs:List Expr}{p:Pos}{g:Tg}{i:WI}{t:WT}{e:WE×WT}(C:Cok T Δ X k N sc)(hok:AA sc scope own cn N js=true)(hi:GoodI X tg ri i)
 (hg:∀ s2 H2 cs A fp,PG (j9 X scope (own++cn) s2 H2 cs A fp) tg (Ea X.K g)) (ht:∀ s2 H2 cs A fp,Dy (j9 X scope (own++cn) s2 H2 cs A fp) ifs (liftT X.K t)) (mt:MonoT t) (he:∀ s2 H2 cs A fp,PE (j9 X scope (own++cn) s2 H2 cs A fp) re (lift X.K e.1)) (me:Mono e.1) (hn:AK ri=true):
 Good X (.ListComp re [⟨tg,ri,ifs,0⟩] scope p) (tt1 (JH own.length js g i t e.1)):=
 .one (i9 _ (OR own cn js hi.pi hg ht he C.calm (by rw[C.hs,C.hN];exact hok) (An hn)) (GP hi.m mt me)) (.comp hi.m mt me) rfl
mutual
theorem a6{T:List Str}{Δ:Nat->Sn}:∀(e:Ex) (r:Expr) {X:Cx} {k:Nat} {N:List Str} {sc:Yu},Cok T Δ X k N sc->j4 T N sc e r=true->Good X r (wEx Δ e)
 | .var i,r,X,k,N,sc,C,h=>by
   replace h:=a4 h;obtain⟨x,hx,h⟩:=h;obtain⟨p,rfl⟩:=BQ hx;exact .one (i9 _ (SQ C h) OZ) .var rfl
 | .c x,r,X,k,N,sc,C,h=>by
   replace h:=a4 h;obtain⟨x,hx,h⟩:=h;obtain⟨j,p,rfl⟩:=Ke hx;exact PF h
 | .op o a b,r,X,k,N,sc,C,h=>by
   replace h:=a4 h;obtain⟨v,hv,h⟩:=h;obtain⟨p,rfl⟩:=P4 hv;simp only[V6,dQ]at h;have ga:=a6 a _ C h.1.2;have gb:=a6 b _ C h.2;rw[<-h.1.1];exact .one (Mt ga.pe gb.pe ga.m gb.m) (.two JK ga.m gb.m) rfl
 | .neg a,r,X,k,N,sc,C,h=>by
   replace h:=a4 h;obtain⟨v,hv,h⟩:=h;obtain⟨p,rfl⟩:=Mo hv;simp only[V6,dQ]at h;rw[h.1];exact Kl (a6 a _ C h.2)
 | .cmp o a b,r,X,k,N,sc,C,h=>by
   replace h:=a4 h;obtain⟨v,hv,h⟩:=h;replace h:=a4 h;obtain⟨rb,hb,h⟩:=h;obtain⟨p,rfl⟩:=FB hv;simp only[V6,dQ]at h;obtain⟨⟨⟨h0,h1⟩,h2⟩,h3⟩:=h;rw[h0,y8 hb];have ga:=a6 a _ C h1;have gb:=a6 b _ C h2;have:=C.un;exact Kf (by omega) ga.pe gb.pe ga.m gb.m h3
 | .chn o p a b c,r,X,k,N,sc,C,h=>by
   replace h:=a4 h;obtain⟨v,hv,h⟩:=h;replace h:=a4 h;obtain⟨rs,hb,h⟩:=h;obtain⟨p,rfl⟩:=FB hv;simp only[V6,dQ]at h;obtain⟨⟨⟨⟨h0,h1⟩,h2⟩,h3⟩,h4⟩:=h;rw[h0,CC hb];have ga:=a6 a _ C h1;have gb:=a6 b _ C h2;have gc:=a6 c _ C h3;have:=C.un;exact Kg (by omega) ga.pe gb.pe gc.pe ga.m gb.m gc.m h4
 | .and a b,r,X,k,N,sc,C,h=>by
   replace h:=a4 h;obtain⟨v,hv,h⟩:=h;have e:=G8 hv;subst e;rw[V6,dQ]at h;obtain⟨h0,h⟩:=h;replace h:=a4 h;obtain⟨x,hx,h⟩:=h;rw[V6]at h;have ga:=a6 a _ C h.1;rw[h0,Ag hx];have h2:=h.2;generalize v.2.1.tail=tl at h2;cases hl:l1 tl with
   | some y=>
     rw[hl]at h2;rw[y8 hl];exact IA ga (a6 b _ C h2)
   | none=>
     rw[hl]at h2;rw[V6,dQ]at h2;have gb:=a6 b _ C h2.2
     match tl,h2,gb with
     | y::z::zs,h2,gb=>exact IB ga gb
     | [],h2,_=>exact absurd h2.1 (by simp)
     | [_],h2,_=>exact absurd h2.1 (by simp)
 | .or a b,r,X,k,N,sc,C,h=>by
   replace h:=a4 h;obtain⟨v,hv,h⟩:=h;have e:=G8 hv;subst e;rw[V6,dQ]at h;obtain⟨h0,h⟩:=h;replace h:=a4 h;obtain⟨x,hx,h⟩:=h;rw[V6]at h;have ga:=a6 a _ C h.1;rw[h0,Ag hx];have h2:=h.2;generalize v.2.1.tail=tl at h2;cases hl:l1 tl with
   | some y=>
     rw[hl]at h2;rw[y8 hl];exact Kh ga (a6 b _ C h2)
   | none=>
     rw[hl]at h2;rw[V6,dQ]at h2;have gb:=a6 b _ C h2.2
     match tl,h2,gb with
     | y::z::zs,h2,gb=>exact Ki ga gb
     | [],h2,_=>exact absurd h2.1 (by simp)
     | [_],h2,_=>exact absurd h2.1 (by simp)
 | .not a,r,X,k,N,sc,C,h=>by
   replace h:=a4 h;obtain⟨v,hv,h⟩:=h;obtain⟨p,rfl⟩:=Mo hv;simp only[V6,dQ]at h;rw[h.1];exact Kj (a6 a _ C h.2)
 | .ife t a b,r,X,k,N,sc,C,h=>by
   replace h:=a4 h;obtain⟨v,hv,h⟩:=h;obtain⟨p,rfl⟩:=P5 hv;simp only[V6]at h;exact Kk (a6 t _ C h.1.1) (a6 a _ C h.1.2) (a6 b _ C h.2)
 | .tup es,r,X,k,N,sc,C,h=>by
   replace h:=a4 h;obtain⟨v,hv,h⟩:=h;obtain⟨j,p,rfl⟩:=B4 hv;exact Ko (AO es _ C h)
 | .lst es,r,X,k,N,sc,C,h=>by
   replace h:=a4 h;obtain⟨v,hv,h⟩:=h;obtain⟨p,rfl⟩:=P6 hv;exact Kp (AO es _ C h)
 | .ix a b,r,X,k,N,sc,C,h=>by
   replace h:=a4 h;obtain⟨v,hv,h⟩:=h;obtain⟨p,rfl⟩:=Af hv;simp only[V6]at h;exact Mw (a6 a _ C h.1.1) (a6 b _ C h.1.2) h.2
 | .slc a lo hi,r,X,k,N,sc,C,h=>by
   replace h:=a4 h;obtain⟨v,hv,h⟩:=h;replace h:=a4 h;obtain⟨w,hw,h⟩:=h;obtain⟨p,rfl⟩:=Af hv;obtain⟨p2,ew⟩:=P7 hw;simp only[V6]at h;have hl:=GR lo _ C h.1.1.2;have hh:=GR hi _ C h.1.2;rw[ew,XN.mp h.2];exact Km (a6 a _ C h.1.1.1) hl.1 hh.1 hl.2 hh.2
 | .call f es,r,X,k,N,sc,C,h=>by
   replace h:=a4 h;obtain⟨v,hv,h⟩:=h;obtain⟨p,q,rfl⟩:=BR hv;simp only[V6,dQ]at h;obtain⟨⟨⟨h1,h2⟩,h3⟩,h4⟩:=h;obtain⟨y,ys,e⟩:=JT h4;have st:=Bd h3;have g:=AO es _ C h3;rw[e]at st g ⊢;rw[W7,V6]at st;exact ID C h1 h2 g st.1 st.2
 | .bi b es,r,X,k,N,sc,C,h=>by
   replace h:=a4 h;obtain⟨v,hv,h⟩:=h;obtain⟨p,q,rfl⟩:=BR hv;simp only[V6,dQ]at h;obtain⟨⟨⟨h1,h2⟩,h3⟩,h4⟩:=h;obtain⟨y,ys,e⟩:=JT h4;have st:=Bd h3;have g:=AO es _ C h3;rw[e]at st g ⊢;rw[W7,V6]at st;rw[<-h1]at h2 ⊢;exact N0 C h2 g st.1 st.2
 | .mt m a es,r,X,k,N,sc,C,h=>by
   replace h:=a4 h;obtain⟨v,hv,h⟩:=h;obtain⟨ap,cp,rfl,hl⟩:=DT hv;simp only[V6,dQ]at h;obtain⟨⟨⟨⟨h0,h1⟩,h3⟩,h4⟩,h5⟩:=h;have st:=Bd h5;have ga:=a6 a _ C h4;have gs:=AO es _ C h5;rw[h0];generalize v.2.2=args at h3 h5 st gs ⊢;cases args with
   | nil=>
     cases es with
     | nil=>exact Kq ga h1 hl
     | cons _ _=>rw[Au]at h5;cases h5
   | cons y ys=>
     rw[W7,V6]at st;exact N2 ga gs h1 hl h3 st.1 st.2
 | .comp own cn js g it t e,r,X,k,N,sc,C,h=>by
   replace h:=a4 h;obtain⟨v,hv,h⟩:=h;replace h:=a4 h;obtain⟨c,hc,h⟩:=h;obtain⟨p,rfl⟩:=G9 hv;simp only[V6,dQ]at h;obtain⟨⟨⟨⟨⟨⟨h0,h1⟩,h2⟩,h3⟩,h4⟩,h5⟩,h6⟩:=h;have hI:=Cf it _ _ C h3;have hT:=λs2 H2 cs A fp=>GT t _ (C.comp h1 s2 H2 cs A fp) h5;have hE:=λs2 H2 cs A fp=>a6 e _ (C.comp h1 s2 H2 cs A fp) h6;rw[y8 hc];obtain⟨tg,ri,ifs,az⟩:=c;have h0:az=0:=h0;subst h0;exact IR C h1 hI (λs2 H2 cs A fp=>BW (C.comp h1 s2 H2 cs A fp) g _ h2) (λs2 H2 cs A fp=>(hT s2 H2 cs A fp).1) (hT X.s₀ X.H₀ [] 0 []).2 (λs2 H2 cs A fp=>(hE s2 H2 cs A fp).pe) (hE X.s₀ X.H₀ [] 0 []).m h4
 | .tyc t,r,X,k,N,sc,C,h=>by
   replace h:=a4 h;obtain⟨x,hx,h⟩:=h;obtain⟨p,rfl⟩:=BQ hx;simp only[V6,dQ]at h;obtain⟨⟨rfl,h1⟩,h2⟩:=h;exact Kr C h1 h2
 | .sum2 a,r,X,k,N,sc,C,h=>by
   replace h:=a4 h;obtain⟨v,hv,h⟩:=h;replace h:=a4 h;obtain⟨ra,hra,h⟩:=h;obtain⟨p,q,rfl⟩:=BR hv;simp only[V6,dQ]at h;obtain⟨⟨⟨e1,h1⟩,h3⟩,h4⟩:=h;rw[e1]at h1;rw[y8 hra,e1];exact IL C h1 (a6 a _ C h3) h4
 | .max1 a,r,X,k,N,sc,C,h=>by
   replace h:=a4 h;obtain⟨v,hv,h⟩:=h;replace h:=a4 h;obtain⟨ra,hra,h⟩:=h;obtain⟨p,q,rfl⟩:=BR hv;simp only[V6,dQ]at h;obtain⟨⟨⟨e1,h1⟩,h3⟩,h4⟩:=h;rw[e1]at h1;rw[y8 hra,e1];exact IF C h1 (a6 a _ C h3) h4
 | .dnewp,r,X,k,N,sc,C,h=>by
   replace h:=a4 h;obtain⟨v,hv,h⟩:=h;obtain⟨p,rfl⟩:=DR hv;simp only[V6,Vn]at h;rw[h.1,h.2];exact GF
 | .setd d e v,r,X,k,N,sc,C,h=>by
   replace h:=a4 h;obtain⟨u,hu,h⟩:=h;replace h:=a4 h;obtain⟨ra,hra,h⟩:=h;obtain⟨ap,cp,rfl,hl⟩:=DT hu;simp only[V6,dQ]at h;obtain⟨⟨⟨⟨⟨⟨e1,h1⟩,h2⟩,h3⟩,h4⟩,h5⟩,h6⟩:=h;rw[CC hra,e1];exact IJ (XH (XC (by decide) _) C.un) (a6 d _ C h2) (a6 e _ C h3) (a6 v _ C h5) h1 hl h4 h6
 | .dnewl,r,X,k,N,sc,C,h=>by
   replace h:=a4 h;obtain⟨v,hv,h⟩:=h;obtain⟨p,rfl⟩:=DR hv;simp only[V6,Vn]at h;rw[h.1,h.2];exact GH
 | .dget2l d e v,r,X,k,N,sc,C,h=>by
   replace h:=a4 h;obtain⟨u,hu,h⟩:=h;replace h:=a4 h;obtain⟨ra,hra,h⟩:=h;obtain⟨ap,cp,rfl,hl⟩:=DT hu;simp only[V6,dQ]at h;obtain⟨⟨⟨⟨⟨⟨e1,h1⟩,h2⟩,h3⟩,h4⟩,h5⟩,h6⟩:=h;rw[CC hra,e1];exact FE (XH (XC (by decide) _) C.un) (a6 d _ C h2) (a6 e _ C h3) (a6 v _ C h5) h1 hl h4 h6
 | .setdi d e v,r,X,k,N,sc,C,h=>by
   replace h:=a4 h;obtain⟨u,hu,h⟩:=h;replace h:=a4 h;obtain⟨ra,hra,h⟩:=h;obtain⟨ap,cp,rfl,hl⟩:=DT hu;simp only[V6,dQ]at h;obtain⟨⟨⟨⟨⟨⟨e1,h1⟩,h2⟩,h3⟩,h4⟩,h5⟩,h6⟩:=h;rw[CC hra,e1];exact GI (a6 d _ C h2) (a6 e _ C h3) (a6 v _ C h5) h1 hl h4 h6
 | .dvalsl a,r,X,k,N,sc,C,h=>by
   replace h:=a4 h;obtain⟨v,hv,h⟩:=h;replace h:=a4 h;obtain⟨z,hz,h⟩:=h;replace h:=a4 h;obtain⟨u,hu,h⟩:=h;obtain⟨p,q,rfl⟩:=BR hv;obtain⟨ap,cp,rfl,hl⟩:=DT hu;simp only[V6,dQ,Vn]at h;obtain⟨⟨⟨⟨⟨e1,h1⟩,e2⟩,e3⟩,h4⟩,h5⟩:=h;rw[e1]at h1;rw[y8 hz,e1,e2,e3];exact FF C h1 (a6 a _ C h5) h4 hl
 | .mind a d,r,X,k,N,sc,C,h=>by
   replace h:=a4 h;obtain⟨⟨x,as,kw⟩,hv,h⟩:=h;replace h:=a4 h;obtain⟨ra,hra,h⟩:=h;obtain⟨p,q,rfl⟩:=JJ hv;obtain⟨ka,kv,kp⟩:=kw;simp only[V6,dQ]at h;obtain⟨⟨⟨⟨⟨e1,h1⟩,h3⟩,h5⟩,h4⟩,e2⟩:=h;subst e1;subst e2;rw[y8 hra];exact IK (XH (XC (by decide) _) C.un) C h1 (a6 a _ C h3) (a6 d _ C h5) h4
 | .maxd a d,r,X,k,N,sc,C,h=>by
   replace h:=a4 h;obtain⟨⟨x,as,kw⟩,hv,h⟩:=h;replace h:=a4 h;obtain⟨ra,hra,h⟩:=h;obtain⟨p,q,rfl⟩:=JJ hv;obtain⟨ka,kv,kp⟩:=kw;simp only[V6,dQ]at h;obtain⟨⟨⟨⟨⟨e1,h1⟩,h3⟩,h5⟩,h4⟩,e2⟩:=h;subst e1;subst e2;rw[y8 hra];exact IG C h1 (a6 a _ C h3) (a6 d _ C h5) h4
 | .eqp a b,r,X,k,N,sc,C,h=>by
   replace h:=a4 h;obtain⟨v,hv,h⟩:=h;replace h:=a4 h;obtain⟨rb,hb,h⟩:=h;obtain⟨p,rfl⟩:=FB hv;simp only[V6,dQ]at h;obtain⟨⟨⟨h0,h1⟩,h2⟩,h3⟩:=h;rw[h0,y8 hb];have ga:=a6 a _ C h1;have gb:=a6 b _ C h2;have:=C.un;exact Ks (by omega) ga.pe gb.pe ga.m gb.m h3
 | .dnew,r,X,k,N,sc,C,h=>by
   replace h:=a4 h;obtain⟨v,hv,h⟩:=h;obtain⟨p,rfl⟩:=DR hv;simp only[V6,Vn]at h;rw[h.1,h.2];exact IH
 | .dget a b,r,X,k,N,sc,C,h=>by
   replace h:=a4 h;obtain⟨v,hv,h⟩:=h;obtain⟨p,rfl⟩:=Af hv;simp only[V6]at h;have:=C.un;exact II (by omega) (a6 a _ C h.1.1) (a6 b _ C h.1.2) h.2
 | .no,r,X,k,N,sc,C,h => .never
theorem AO{T:List Str}{Δ:Nat->Sn}:∀(es:Exs) (rs:List Expr) {X:Cx} {k:Nat} {N:List Str} {sc:Yu},Cok T Δ X k N sc->Au T N sc es rs=true->GoodA X rs (Fy Δ es)
 | .nil,rs,X,k,N,sc,C,h=>by
   rw[Au,Vn]at h;subst h;exact Kn
 | .cons e es,rs,X,k,N,sc,C,h=>by
   rw[Au]at h;replace h:=a4 h;obtain⟨x,hx,h⟩:=h;simp only[V6]at h;rw[Ag hx];exact IC (a6 e _ C h.1.1) (AO es _ C h.2) h.1.2
theorem GR{T:List Str}{Δ:Nat->Sn}:∀(o:Eo) (r:Option Expr) {X:Cx} {k:Nat} {N:List Str} {sc:Yu},Cok T Δ X k N sc->Mq T N sc o r=true->PO X r (GE X.K (wEo Δ o).1)/\MonoO (wEo Δ o).1
 | .no,r,X,k,N,sc,C,h=>by
   rw[Mq]at h;rw[XN.mp h];exact⟨UK,.no⟩
 | .yes e,r,X,k,N,sc,C,h=>by
   rw[Mq]at h;replace h:=a4 h;obtain⟨x,hx,h⟩:=h;subst hx;exact⟨SG (a6 e _ C h),.yes (a6 e _ C h).m⟩
theorem GT{T:List Str}{Δ:Nat->Sn}:∀(o:Eo) (rs:List Expr) {X:Cx} {k:Nat} {N:List Str} {sc:Yu},Cok T Δ X k N sc->GA T N sc o rs=true->Dy X rs (liftT X.K (wEo Δ o).2)/\MonoT (wEo Δ o).2
 | .no,rs,X,k,N,sc,C,h=>by
   rw[GA,Vn]at h;subst h;exact⟨N5,λ_ _ _ _ i q=>i _ _ q⟩
 | .yes e,rs,X,k,N,sc,C,h=>by
   rw[GA]at h;replace h:=a4 h;obtain⟨x,hx,h⟩:=h;rw[y8 hx];exact⟨SR (a6 e _ C h),(a6 e _ C h).mt⟩
theorem Cf{T:List Str}{Δ:Nat->Sn}:∀(it:Itb) (tg r:Expr) {X:Cx} {k:Nat} {N:List Str} {sc:Yu},Cok T Δ X k N sc->P9 T N sc it tg r=true->GoodI X tg r (Oz Δ it)
 | .seq e,tg,r,X,k,N,sc,C,h=>by
   exact Ku (a6 e _ C h)
 | .rng1 a,tg,r,X,k,N,sc,C,h=>by
   replace h:=a4 h;obtain⟨v,hv,h⟩:=h;replace h:=a4 h;obtain⟨ra,hra,h⟩:=h;obtain⟨p,q,rfl⟩:=BR hv;simp only[V6,dQ]at h;obtain⟨⟨⟨e1,h1⟩,h2⟩,h3⟩:=h;rw[e1]at h1;rw[y8 hra,e1];exact IP C h1 (a6 a _ C h2) h3
 | .rng2 a b,tg,r,X,k,N,sc,C,h=>by
   replace h:=a4 h;obtain⟨v,hv,h⟩:=h;replace h:=a4 h;obtain⟨ra,hra,h⟩:=h;obtain⟨p,q,rfl⟩:=BR hv;simp only[V6,dQ]at h;obtain⟨⟨⟨⟨⟨e1,h1⟩,h2⟩,h3⟩,h4⟩,h5⟩:=h;rw[e1]at h1;rw[CC hra,e1];exact IQ C h1 (a6 a _ C h2) (a6 b _ C h4) h3 h5
 | .enum e,tg,r,X,k,N,sc,C,h=>by
   replace h:((E5 tg).isSome&&(vFn r).any λv=>(l1 v.2).any λa=>decide (v.1=("enumerate":Str))&&glo sc v.1&&j4 T N sc e a&&c3 a)=true:=h;rw[V6]at h;obtain⟨ht,h⟩:=h;obtain⟨es,he⟩:=Wk.mp ht;obtain⟨j,tp,rfl⟩:=B4 he;replace h:=a4 h;obtain⟨v,hv,h⟩:=h;replace h:=a4 h;obtain⟨ra,hra,h⟩:=h;obtain⟨p,q,rfl⟩:=BR hv;simp only[V6,dQ]at h;obtain⟨⟨⟨e1,h1⟩,h2⟩,h3⟩:=h;rw[e1]at h1;rw[y8 hra,e1];exact IO C h1 (a6 e _ C h2) h3
end
def Da:Expr->Option Yu
 | .ListComp _ _ s _=>some s
 | .SetComp _ _ s _=>some s
 | .DictComp _ _ _ s _=>some s
 | _=>none
def Ec(sc:Yu)(e:Expr)(x:Str)(px:Pos):Bool:=match Da e with
 | none=>false
 | some s=>sc.names.lookup x == some .local&&px.line == e.pos.line&&!(s.names.any λ(n,k)=>n == x&&(k == .local||k == .cell))
theorem JU{env:Env}{e:Expr}{x:Str}{px:Pos}{l:Nat}(hk:env.scope.kind = .function):ZF e (some (.Name x px)) l env=pure (Ec env.scope e x px):=by
 have hb:env.blockKind = .function:=by unfold Env.blockKind;rw[hk];rfl
 unfold ZF Ec Da
 cases e<;>first
  | rfl
  | (show(pure _:Sem Bool)=_;rw[hb];rfl)
def N6:Expr->Bool
 | .Tuple ..=>false
 | _=>true
def PM(sc:Yu)(x y:Str)(px py:Pos):Bool:=sc.names.lookup x == some .local&&sc.names.lookup y == some .local&&px.line == py.line&&!(x == y)
def Cg:Expr->Option (Str×Pos)
 | .Name x p=>some (x,p)
 | _=>none
theorem Be{r:Expr}{x:Str×Pos}(h:Cg r=some x):r = .Name x.1 x.2:=by cases r<;>first | (cases h;rfl) | exact t8 h
def Kw:Stmt->Option (List Expr×Expr)
 | .Assign ts e _=>some (ts,e)
 | _=>none
def UR:Stmt->Option Expr
 | .Expr e _=>some e
 | _=>none
def US:Stmt->Option (Expr×List Stmt×List Stmt)
 | .If t a b _=>some (t,a,b)
 | _=>none
def UT:Stmt->Option (Expr×Expr×List Stmt×List Stmt)
 | .For g i b o _=>some (g,i,b,o)
 | _=>none
def UU:Stmt->Option (List Stmt×List Zq×List Stmt×List Stmt)
 | .Try b h o f _=>some (b,h,o,f)
 | _=>none
def UV:Stmt->Option (Expr×List Stmt×List Stmt)
 | .While t b o _=>some (t,b,o)
 | _=>none
def UW:Stmt->Option (Option Expr)
 | .Return e _=>some e
 | _=>none
def UX:Stmt->Option (Expr×ZK×Expr)
 | .AugAssign t o e _=>some (t,o,e)
 | _=>none
theorem PN{r:Stmt}{x:Expr×ZK×Expr}(h:UX r=some x):∃ p,r = .AugAssign x.1 x.2.1 x.2.2 p:=by cases r<;>first | (cases h;exact⟨_,rfl⟩) | exact t8 h
def Qa:ZK->Bool
 | .Add=>true
 | _=>false
theorem N7{o:ZK}(h:Qa o=true):o = .Add:=by cases o<;>first | rfl | (cases h;done)
theorem CF{r:Stmt}{x:List Expr×Expr}(h:Kw r=some x):∃ p,r = .Assign x.1 x.2 p:=by cases r<;>first | (cases h;exact⟨_,rfl⟩) | exact t8 h
theorem PP{r:Stmt}{x:Expr}(h:UR r=some x):∃ p,r = .Expr x p:=by cases r<;>first | (cases h;exact⟨_,rfl⟩) | exact t8 h
theorem PR{r:Stmt}{x:Expr×List Stmt×List Stmt}(h:US r=some x):∃ p,r = .If x.1 x.2.1 x.2.2 p:=by cases r<;>first | (cases h;exact⟨_,rfl⟩) | exact t8 h
theorem PU{r:Stmt}{x:Expr×Expr×List Stmt×List Stmt}(h:UT r=some x):∃ p,r = .For x.1 x.2.1 x.2.2.1 x.2.2.2 p:=by cases r<;>first | (cases h;exact⟨_,rfl⟩) | exact t8 h
theorem PV{r:Stmt}{x:List Stmt×List Zq×List Stmt×List Stmt}(h:UU r=some x):∃ p,r = .Try x.1 x.2.1 x.2.2.1 x.2.2.2 p:=by cases r<;>first | (cases h;exact⟨_,rfl⟩) | exact t8 h
theorem PX{r:Stmt}{x:Expr×List Stmt×List Stmt}(h:UV r=some x):∃ p,r = .While x.1 x.2.1 x.2.2 p:=by cases r<;>first | (cases h;exact⟨_,rfl⟩) | exact t8 h
theorem PY{r:Stmt}{x:Option Expr}(h:UW r=some x):∃ p,r = .Return x p:=by cases r<;>first | (cases h;exact⟨_,rfl⟩) | exact t8 h
def SS(e:Expr):Bool:=(Mn e).any λv=>(l1 v.2.1).isSome
def UY(e:Expr):Bool:=false
def Qb(sc:Yu)(rt:Expr):Bool:=(E5 rt).any λts=>(l2 ts).any λnn=>(Cg nn.1).any λx=>!(sc.names.lookup x.1 == some .local)
def ST(sc:Yu)(rt re:Expr):Bool:=match Cg rt with
 | some x=>!Ec sc re x.1 x.2||SS re||UY re
 | none=>(E5 rt).isSome&&(N6 re||Qb sc rt)
mutual
noncomputable def UZ(T:List Str)(N:List Str)(sc:Yu):Stm->Stmt->Bool
 | .asg t e,r=>(Kw r).any λv=>(l1 v.1).any λrt=>BS N.length N sc t rt&&j4 T N sc e v.2&&c3 rt&&ST sc rt v.2
 | .par i j a b,r=>(Kw r).any λv=>(l1 v.1).any λrt=>(E5 rt).any λts=>(l2 ts).any λnn=>(E5 v.2).any λvs=>(l2 vs).any λab=>(Cg nn.1).any λx=>(Cg nn.2).any λy=>
    decide (N[i]?=some x.1)&&decide (N[j]?=some y.1)&&decide (i≠j)&&PM sc x.1 y.1 x.2 y.2&&j4 T N sc a ab.1&&j4 T N sc b ab.2&&c3 ab.1&&c3 ab.2&&!([ab.1,ab.2].all (foldedForSure 8))&&!([ab.1,ab.2].all (A0v 8))
 | .put o i e,r=>(Kw r).any λv=>(l1 v.1).any λrt=>(FA rt).any λoi=>j4 T N sc o oi.1&&j4 T N sc i oi.2&&j4 T N sc e v.2&&t7 oi.2
 | .augS o i e,r=>(UX r).any λv=>(FA v.1).any λoi=>Qa v.2.1&&j4 T N sc o oi.1&&j4 T N sc i oi.2&&j4 T N sc e v.2.2&&t7 oi.2
 | .dputl o i e,r=>(Kw r).any λv=>(l1 v.1).any λrt=>(FA rt).any λoi=>j4 T N sc o oi.1&&j4 T N sc i oi.2&&j4 T N sc e v.2&&t7 oi.2
 | .put2 o i p j e,r=>(Kw r).any λv=>(l1 v.1).any λrt=>(E5 rt).any λts=>(l2 ts).any λnn=>(FA nn.1).any λoi=>(FA nn.2).any λpj=>j4 T N sc o oi.1&&j4 T N sc i oi.2&&j4 T N sc p pj.1&&j4 T N sc j pj.2&&j4 T N sc e v.2&&t7 oi.2&&t7 pj.2
 | .expr e,r=>(UR r).any λre=>j4 T N sc e re&&(Da re).isNone
 | .iff t a b,r=>(US r).any λv=>j4 T N sc t v.1&&Br T N sc a v.2.1&&Br T N sc b v.2.2
 | .loop g it b,r=>(UT r).any λv=>BS N.length N sc g v.1&&P9 T N sc it v.1 v.2.1&&AK v.2.1&&Br T N sc b v.2.2.1&&v.2.2.2.isEmpty
 | .tri b,r=>(UU r).any λv=>Br T N sc b v.1&&!v.2.1.isEmpty&&v.2.2.1.isEmpty&&v.2.2.2.isEmpty
 | .whl t b,r=>(UV r).any λv=>j4 T N sc t v.1&&Br T N sc b v.2.1&&v.2.2.isEmpty
 | .ret e,r=>(UW r).any λo=>o.any λre=>j4 T N sc e re
 | .no,_=>true
noncomputable def Br(T:List Str)(N:List Str)(sc:Yu):List Stm->List Stmt->Bool
 | [],r=>r.isEmpty
 | s::ss,r=>(r.head?).any λx=>UZ T N sc s x&&Br T N sc ss r.tail
end
noncomputable def GU(K:V5)(as:List Yi)(H:Hp)(D:Ends):EndsS where
 nx:=λρ' S'=>∀ as' H' σ',Go as H as' H'->Ok K as' H' S'->EnvOk K as' H' σ' ρ'->D.nx σ' H'
 rt:=Post K as H D.rt
 bk:=λρ' S'=>∀ as' H' σ',Go as H as' H'->Ok K as' H' S'->EnvOk K as' H' σ' ρ'->D.bk σ' H'
 ct:=λρ' S'=>∀ as' H' σ',Go as H as' H'->Ok K as' H' S'->EnvOk K as' H' σ' ρ'->D.ct σ' H'
noncomputable def liftS(K:V5)(w:WS):TS:=λD σ H=>∃ as ρ S,Ok K as H S/\EnvOk K as H σ ρ/\w (GU K as H D) ρ S
structure Le(D D':EndsS):Prop where
 nx:∀ ρ S,D.nx ρ S->D'.nx ρ S
 rt:∀ x S,D.rt x S->D'.rt x S
 bk:∀ ρ S,D.bk ρ S->D'.bk ρ S
 ct:∀ ρ S,D.ct ρ S->D'.ct ρ S
def MonoS(w:WS):Prop:=∀ D D' ρ S,Le D D'->w D ρ S->w D' ρ S
theorem MonoS.go{w:WS}(m:MonoS w){D D':EndsS}{ρ:EnvS}{S:Sto}(h:w D ρ S)(l:Le D D'):w D' ρ S:=m D D' ρ S l h
theorem Le.go{K:V5}{as as':List Yi}{H H':Hp}{D:Ends}(g:Go as H as' H'):Le (GU K as H D) (GU K as' H' D) where
 nx:=λρ S h as2 H2 σ2 g2=>h as2 H2 σ2 (g.trans g2)
 rt:=λx S h=>Post.mono h g
 bk:=λρ S h as2 H2 σ2 g2=>h as2 H2 σ2 (g.trans g2)
 ct:=λρ S h as2 H2 σ2 g2=>h as2 H2 σ2 (g.trans g2)
structure GoodS(X:Cx)(r:Stmt)(w:WS):Prop where
 ps:PS X r (liftS X.K w)
 m:MonoS w
structure GoodSs(X:Cx)(r:List Stmt)(w:WS):Prop where
 ps:PSs X r (liftS X.K w)
 m:MonoS w
theorem u9{X:Cx}{st:Stmt}{t:TS}(t':TS)(h:PS X st t)(imp:∀ D σ H,t' D σ H->t D σ H):PS X st t':=λpq s σ H D I hw=>h pq s σ H D I (imp D σ H hw)
theorem GV{X:Cx}{st:List Stmt}{t:TS}(t':TS)(h:PSs X st t)(imp:∀ D σ H,t' D σ H->t D σ H):PSs X st t':=λpq s σ H D I hw=>h pq s σ H D I (imp D σ H hw)
section
variable{X:Cx}
theorem IS:GoodSs X [] (λD ρ S=>D.nx ρ S):=⟨GV _ OD λD σ H ⟨as,ρ,S,ok,en,h⟩=>h as H σ (Go.refl _ _) ok en,λD D' ρ S l h=>l.nx _ _ h⟩
theorem GW{s:Stmt}{ss:List Stmt}{w u:WS}(h1:GoodS X s w)(h2:GoodSs X ss u):GoodSs X (s::ss) (λD ρ S=>w {D with nx:=u D} ρ S) where
 ps:=GV _ (LZ h1.ps h2.ps) (by
  rintro D σ H ⟨as,ρ,S,ok,en,h⟩;refine⟨as,ρ,S,ok,en,h1.m.go h ⟨λρ' S' q as' H' σ' g ok' en'=>?_,λ_ _ h=>h,λ_ _ h=>h,λ_ _ h=>h⟩⟩;exact⟨as',ρ',S',ok',en',h2.m _ _ _ _ (Le.go g) q⟩)
 m:=λD D' ρ S l h=>h1.m.go (D:={D with nx:=u D}) h ⟨λρ' S' q=>h2.m _ _ _ _ l q,l.rt,l.bk,l.ct⟩
theorem PZ{K:V5}{g:Tg}{w:WE}(m:Mono w):∀ D σ H,liftS K (λD ρ S=>w ρ S λx S1=>wTg g x ρ λρ'=>D.nx ρ' S1) D σ H->HQ (lift K w) (Ea K g) D σ H:=by
 rintro D σ H ⟨as,ρ,S,ok,en,h⟩;refine⟨as,ρ,S,ok,en,m _ _ _ _ (λx S1 q as1 H1 v g1 ok1 rv=>?_) h⟩;exact⟨as1,ρ,S1,x,ok1,en.mono g1.pre (g1.ku ok),rv,y9 g (λρ' q σ' en'=>q as1 H1 σ' g1 ok1 en') q⟩
theorem GX{K:V5}{i:Nat}{w:WE}(m:Mono w):∀ D σ H,liftS K (λD ρ S=>w ρ S λx S1=>wTg (.nm i) x ρ λρ'=>D.nx ρ' S1) D σ H->HQ (lift K w) (Im i) D σ H:=by
 rintro D σ H ⟨as,ρ,S,ok,en,h⟩;refine⟨as,ρ,S,ok,en,m _ _ _ _ (λx S1 q as1 H1 v g1 ok1 rv=>?_) h⟩;unfold wTg at q;exact q as1 H1 _ g1 ok1 ((en.mono g1.pre (g1.ku ok)).set rv)
theorem GY{g:Tg}{w:WE}(m:Mono w):MonoS (λD ρ S=>w ρ S λx S1=>wTg g x ρ λρ'=>D.nx ρ' S1):=λD D' ρ S l h=>m _ _ _ _ (λx S1 q=>y9 g (λρ' q=>l.nx _ _ q) q) h
theorem SU{K:V5}{t:WT}{a b:WS}(mt:MonoT t)(ma:MonoS a)(mb:MonoS b):∀ D σ H,liftS K (λD ρ S=>t ρ S λc S1=>if c=true then a D ρ S1 else b D ρ S1) D σ H->TJ (liftT K t) (liftS K a) (liftS K b) D σ H:=by
 rintro D σ H ⟨as,ρ,S,ok,en,h⟩;refine⟨as,ρ,S,ok,en,mt _ _ _ _ (λc S1 q as1 H1 g1 ok1=>?_) h⟩;refine n8 (λq=>?_) (λq=>?_) q
 ·exact⟨as1,ρ,S1,ok1,en.mono g1.pre (g1.ku ok),ma _ _ _ _ (Le.go g1) q⟩
 ·exact⟨as1,ρ,S1,ok1,en.mono g1.pre (g1.ku ok),mb _ _ _ _ (Le.go g1) q⟩
theorem Bf{keep:Sto->Prop}{g:Tg}{b:WS}(mb:MonoS b):∀(xs:List SV) {D D':EndsS},Le D D'->∀ ρ S,v8 keep g b D xs ρ S->v8 keep g b D' xs ρ S
 | [],D,D',l,ρ,S,h=>by unfold v8 at h ⊢;exact⟨h.1,l.nx _ _ h.2⟩
 | x::xs,D,D',l,ρ,S,h=>by
   unfold v8 at h ⊢;exact⟨h.1,y9 g (λρ2 q=>mb.go (D:={D with nx:=v8 keep g b D xs,ct:=v8 keep g b D xs,bk:=D.nx}) q ⟨Bf mb xs l,l.rt,l.nx,Bf mb xs l⟩) h.2⟩
theorem Pa{K:V5}{g:Tg}{i:WI}{b:WS}(mi:MonoI i)(mb:MonoS b):∀ D σ H,liftS K (λD ρ S=>i ρ S λkeep xs S1=>v8 keep g b D xs ρ S1) D σ H->TV (liftI K i) (Ea K g) (liftS K b) D σ H:=by
 rintro D σ H ⟨as,ρ,S,ok,en,h⟩;refine⟨as,ρ,S,ok,en,mi _ _ _ _ (λkeep xs S1 h as1 H1 J g1 ok1 W=>?_) h⟩
 refine⟨λi m σ2 H2=>m=xs.length - i/\i<=xs.length/\∃ as2 ρ2 S2,Go as1 H1 as2 H2/\Ok K as2 H2 S2/\EnvOk K as2 H2 σ2 ρ2/\v8 keep g b (GU K as H D) (xs.drop i) ρ2 S2,
  ⟨xs.length,by simp,WJ _,as1,ρ,S1,Go.refl _ _,ok1,en.mono g1.pre (g1.ku ok),h⟩,?_⟩
 rintro i m σ2 H2 ⟨rfl,hi,as2,ρ2,S2,g2,ok2,en2,h⟩;by_cases hlt:i<xs.length
 ·right;rw[WU hlt]at h;unfold v8 at h;obtain⟨kp,h⟩:=h;obtain⟨w1,_⟩:=W as2 H2 S2 (g2.gu ok1) ok2 kp;obtain⟨go,yl⟩:=w1 i xs[i] (VB hlt);refine⟨go,λσ' H'=>∃ as2 ρ2 S2,Go as1 H1 as2 H'/\Ok K as2 H' S2/\EnvOk K as2 H' σ' ρ2/\v8 keep g b (GU K as H D) (xs.drop (i+1)) ρ2 S2,λσ' H' z=>⟨xs.length - (i+1),by omega,rfl,hlt,z⟩,λx H3 y3=>?_⟩;obtain⟨g3,ok3,rx⟩:=yl x H3 y3;refine⟨as2,ρ2,S2,_,ok3,en2.mono g3.pre (g3.ku ok2),rx,y9 g (λρ3 q σ3 en3=>?_) h⟩;have g03:=(g1.trans g2).trans g3;refine⟨as2,ρ3,S2,ok3,en3,mb.go q ⟨λρ' S' q as' H' σ' g' ok' en'=>?_,λx S h=>Post.mono h g03,λρ' S' q as' H' σ' g' ok' en'=>q as' H' σ' (g03.trans g') ok' en',λρ' S' q as' H' σ' g' ok' en'=>?_⟩⟩
  ·exact⟨as',ρ',S',(g2.trans g3).trans g',ok',en',q⟩
  ·exact⟨as',ρ',S',(g2.trans g3).trans g',ok',en',q⟩
 ·left;have hi':i=xs.length:=by omega
  subst hi';rw[YH]at h;unfold v8 at h;obtain⟨kp,h⟩:=h;obtain⟨_,w2⟩:=W as2 H2 S2 (g2.gu ok1) ok2 kp;exact⟨w2,h as2 H2 σ2 (g1.trans g2) ok2 en2⟩
theorem GZ{t:WT}{b:WS}(mt:MonoT t)(mb:MonoS b):MonoS (SC t b):=λD D' ρ S l ⟨W,w0,h⟩=>⟨W,w0,λm ρ S w=>mt _ _ _ _ (λc S1 q=>n8 (λq=>mb.go (D:={D with nx:=λρ' S'=>∃ m',m'<m/\W m' ρ' S',ct:=λρ' S'=>∃ m',m'<m/\W m' ρ' S',bk:=D.nx}) q ⟨λ_ _ h=>h,l.rt,l.nx,λ_ _ h=>h⟩) (λq=>l.nx _ _ q) q) (h m ρ S w)⟩
theorem Pb{K:V5}{t:WT}{b:WS}(mt:MonoT t)(mb:MonoS b):∀ D σ H,liftS K (SC t b) D σ H->Ld (liftT K t) (liftS K b) D σ H:=by
 rintro D σ H ⟨as,ρ,S,ok,en,W,⟨m0,w0⟩,h⟩;refine⟨λm σ1 H1=>∃ as1 ρ1 S1,Go as H as1 H1/\Ok K as1 H1 S1/\EnvOk K as1 H1 σ1 ρ1/\W m ρ1 S1,⟨m0,as,ρ,S,Go.refl _ _,ok,en,w0⟩,?_⟩;rintro m σ1 H1 ⟨as1,ρ1,S1,g1,ok1,en1,w1⟩;refine⟨as1,ρ1,S1,ok1,en1,mt _ _ _ _ (λc S2 q as2 H2 g2 ok2=>?_) (h m ρ1 S1 w1)⟩;refine n8 (λq=>?_) (λq=>q as2 H2 σ1 (g1.trans g2) ok2 (en1.mono g2.pre (g2.ku ok1))) q;refine⟨λσ' H'=>∃ m',m'<m/\∃ as1 ρ1 S1,Go as H as1 H'/\Ok K as1 H' S1/\EnvOk K as1 H' σ' ρ1/\W m' ρ1 S1,λσ' H' z=>z,?_⟩;refine⟨as2,ρ1,S2,ok2,en1.mono g2.pre (g2.ku ok1),mb.go q ⟨λρ' S' ⟨m',hm,w'⟩ as' H' σ' g' ok' en'=>?_,λx S h=>Post.mono h (g1.trans g2),λρ' S' q as' H' σ' g' ok' en'=>q as' H' σ' ((g1.trans g2).trans g') ok' en',λρ' S' ⟨m',hm,w'⟩ as' H' σ' g' ok' en'=>?_⟩⟩
 ·exact⟨m',hm,as',ρ',S',(g1.trans g2).trans g',ok',en',w'⟩
 ·exact⟨m',hm,as',ρ',S',(g1.trans g2).trans g',ok',en',w'⟩
theorem Pc{K:V5}{i j:Nat}{a b:WE}(ma:Mono a)(mb:Mono b):∀ D σ H,liftS K (λD ρ S=>a ρ S λx S1=>b ρ S1 λy S2=>D.nx ((ρ.set i (some x)).set j (some y)) S2) D σ H->TN i j (FZ (lift K a) (FZ (lift K b) RP)) D σ H:=by
 rintro D σ H ⟨as,ρ,S,ok,en,h⟩;refine⟨as,ρ,S,ok,en,ma _ _ _ _ (λx S1 q as1 H1 v g1 ok1 rv=>?_) h⟩;refine⟨as1,ρ,S1,ok1,en.mono g1.pre (g1.ku ok),mb _ _ _ _ (λy S2 q as2 H2 u g2 ok2 ru=>?_) q⟩;refine⟨v,u,rfl,q as2 H2 _ (g1.trans g2) ok2 ?_⟩;exact(((en.mono g1.pre (g1.ku ok)).mono g2.pre (g2.ku ok1)).set (Rl.mono g2.pre (g2.ku ok1) x v rv)).set ru
theorem A0{x y v:SV}{S:Sto}{P P':Sto->Prop}(i:∀ S,P S->P' S)(h:Ca x y v S P):Ca x y v S P':=by
 unfold Ca at h ⊢;split at h
 ·obtain⟨xs,j,a,b,c⟩:=h;exact⟨xs,j,a,b,i _ c⟩
 ·exact h.elim
theorem D3{K:V5}{as:List Yi}{H:Hp}{S:Sto}{x y z:SV}{o i v:V}{Q:Hp->Prop}(ok:Ok K as H S)(ro:Rl K as H o x)(ri:Rl K as H i y)(rv:Rl K as H v z)(h:Ca x y z S λS'=>∀ H',Go as H as H'->Ok K as H' S'->Q H'):EH o i v H Q:=by
 cases x with
 | loc k=>
   cases y with
   | int n=>
     obtain⟨xs,j,h1,h2,h3⟩:=h;obtain⟨a,vs,rfl,ea,ha,ra⟩:=p9 ok ro h1;rw[rl_int]at ri;subst ri;refine⟨a,vs,n,j,rfl,rfl,ha,by rw[ra.length];exact h2,h3 _ (Go.write (V9 ea)) (ok.write h1 ea (ra.set rv j)).1⟩
   | _=>exact False.elim h
 | _=>exact False.elim h
theorem Pd{K:V5}{o i e:WE}(mo:Mono o)(mi:Mono i)(me:Mono e):∀ D σ H,liftS K (λD ρ S=>e ρ S λv S1=>o ρ S1 λx S2=>i ρ S2 λy S3=>Ca x y v S3 λS4=>D.nx ρ S4) D σ H->HQ (lift K e) (OG (lift K o) (lift K i) EH) D σ H:=by
 rintro D σ H ⟨as,ρ,S,ok,en,h⟩;refine⟨as,ρ,S,ok,en,me _ _ _ _ (λz S1 q as1 H1 v g1 ok1 rv=>?_) h⟩;have en1:=en.mono g1.pre (g1.ku ok);refine⟨as1,ρ,S1,ok1,en1,mo _ _ _ _ (λx S2 q as2 H2 u g2 ok2 ru=>?_) q⟩;have en2:=en1.mono g2.pre (g2.ku ok1);refine⟨as2,ρ,S2,ok2,en2,mi _ _ _ _ (λy S3 q as3 H3 t g3 ok3 rt=>?_) q⟩;have en3:=en2.mono g3.pre (g3.ku ok2);refine D3 ok3 (Rl.mono g3.pre (g3.ku ok2) x u ru) rt (Rl.mono (g2.trans g3).pre ((g2.trans g3).ku ok1) z v rv) (A0 (λS4 q H4 g4 ok4=>?_) q);exact q as3 H4 σ (((g1.trans g2).trans g3).trans g4) ok4 (en3.mono g4.pre (g4.ku ok3))
theorem Bg{n j:Nat}(h:j<n):ixN n (j:Int)=some j:=by
 unfold ixN;rw[iP (by omega),iP (by omega)];simp
def Ua(K:V5):V->V->Hp->VK->Prop:=λx y H Q=>∃ p xs v,∃ i:Nat,x = .ref p/\y = .int i/\SqL K H p xs/\xs[i]?=some v/\Q v H
theorem SW{X:Cx}:TQ X (Ua X.K):=by
 intro pq s σ H x y v u Q I rx ry h;obtain⟨p,xs,z,i,rfl,rfl,hq,he,q⟩:=h;cases rx;obtain⟨t,rfl⟩:=ry;obtain⟨its,r,pl,hz⟩:=I.list hq;obtain⟨w,ew,rw'⟩:=r.get he;have hl:=r.length;have hn:=Bt;have hi:=(gM he).1;exact wpAny_getItem_list pl.isList (X2 _) (by omega) (by rw[WX];simpa using ew) ⟨z,H,I,rw',q⟩
theorem Pe{K:V5}{o i e:WE}(mo:Mono o)(mi:Mono i)(me:Mono e):∀ D σ H,liftS K (λD ρ S=>o ρ S λx S1=>i ρ S1 λy S2=>∃(k:Nat) (j:Nat) (xs:List SV) (a:Int),x = .loc k/\y = .int j/\S2[k]?=some (.lst xs)/\xs[j]?=some (.int a)/\e ρ S2 λv S4=>∃(b:Int) (ys:List SV),v = .int b/\S4[k]?=some (.lst ys)/\j<ys.length/\D.nx ρ (S4.set k (.lst (ys.set j (.int (a+b)))))) D σ H->QF (lift K o) (lift K i) (lift K e) (Ua K) (ipI λi j=>i+j) EH D σ H:=by
 rintro D σ H ⟨as,ρ,S,ok,en,h⟩;refine⟨as,ρ,S,ok,en,mo _ _ _ _ (λx S1 q as1 H1 u g1 ok1 ru=>?_) h⟩;have en1:=en.mono g1.pre (g1.ku ok);refine⟨as1,ρ,S1,ok1,en1,mi _ _ _ _ (λy S2 q as2 H2 t g2 ok2 rt=>?_) q⟩;have en2:=en1.mono g2.pre (g2.ku ok1);have ru2:=Rl.mono g2.pre (g2.ku ok1) x u ru;obtain⟨k,j,xs,a,rfl,rfl,h1,h2,q⟩:=q;obtain⟨p,vs,rfl,ea,ha,ra⟩:=p9 ok2 ru2 h1;rw[rl_int]at rt;subst rt;obtain⟨v0,e0,r0⟩:=ra.get h2;rw[rl_int]at r0;subst r0;refine⟨p,vs,_,j,rfl,rfl,SqL.of ha,e0,as2,ρ,S2,ok2,en2,me _ _ _ _ (λd S4 ⟨b,ys,e2,h4,hj,q⟩ as4 H4 z g4 ok4 rz=>?_) q⟩;subst e2;rw[rl_int]at rz;have en4:=en2.mono g4.pre (g4.ku ok2);refine⟨a,b,rfl,rz,D3 ok4 (Rl.mono g4.pre (g4.ku ok2) (.loc k) (.ref p) ru2) (rl_int.mpr rfl) (rl_int.mpr rfl) (show Ca (.loc k) (.int j) (.int (a+b)) S4 _ from ⟨ys,j,h4,Bg hj,λH5 g5 ok5=>?_⟩)⟩;exact q as4 H5 σ (((g1.trans g2).trans g4).trans g5) ok5 (en4.mono g5.pre (g5.ku ok4))
theorem Ed{x y v:SV}{S:Sto}{Q Q':Sto->Prop}(i:∀ S',Q S'->Q' S')(h:JF x y v S Q):JF x y v S Q':=let ⟨k,j,kvs,a,b,c,d,q⟩:=h;⟨k,j,kvs,a,b,c,d,i _ q⟩
theorem Kx{K:V5}{o i e:WE}(mo:Mono o)(mi:Mono i)(me:Mono e):∀ D σ H,liftS K (λD ρ S=>e ρ S λv S1=>o ρ S1 λx S2=>i ρ S2 λy S3=>JF x y v S3 λS4=>D.nx ρ S4) D σ H->QM (lift K o) (lift K i) (lift K e) D σ H:=by
 rintro D σ H ⟨as,ρ,S,ok,en,h⟩;refine⟨as,ρ,S,ok,en,me _ _ _ _ (λz S1 q as1 H1 v g1 ok1 rv=>?_) h⟩;have en1:=en.mono g1.pre (g1.ku ok);refine⟨as1,ρ,S1,ok1,en1,mo _ _ _ _ (λx S2 q as2 H2 u g2 ok2 ru=>?_) q⟩;have en2:=en1.mono g2.pre (g2.ku ok1);refine⟨as2,ρ,S2,ok2,en2,mi _ _ _ _ (λy S3 q as3 H3 t g3 ok3 rt=>?_) q⟩;have en3:=en2.mono g3.pre (g3.ku ok2);have ru':=Rl.mono g3.pre (g3.ku ok2) x u ru;have rv':=Rl.mono (g2.trans g3).pre ((g2.trans g3).ku ok1) z v rv;obtain⟨k,ks,kvs,rfl,rfl,hk,hb,q⟩:=q;obtain⟨a,ea,rfl⟩:=rl_loc.mp ru';obtain⟨p,rfl,hp⟩:=GG rt;obtain⟨us,h1,h2⟩:=ok3.obj k _ a hk ea;obtain⟨ok4,ku⟩:=ok3.writeO (x := .dtl (ES kvs ks z)) (u := .dT (Ac us (ks.map Sum.inl) v)) hk ea (λku=>⟨_,m7,RlT.mono (Vk _) ku _ _ (h2.put rv' ks)⟩);refine⟨a,_,rfl,DPut.t h1 hp (by rw[h2.length];exact Eu hb),?_⟩;exact q as3 _ σ (((g1.trans g2).trans g3).trans (Go.write (V9 ea))) ok4 (en3.mono (Vk _) ku)
theorem N8{K:V5}{o i p j e:WE}(mo:Mono o)(mi:Mono i)(mp:Mono p)(mj:Mono j)(me:Mono e):∀ D σ H,liftS K (λD ρ S=>e ρ S λu S1=>∃ v w,u = .tup [v,w]/\o ρ S1 λx S2=>i ρ S2 λy S3=>Ca x y v S3 λS4=>p ρ S4 λx S5=>j ρ S5 λy S6=>Ca x y w S6 λS7=>D.nx ρ S7) D σ H->HQ (lift K e) (TM K 2 (Lb (OG (lift K o) (lift K i) EH) (Lb (OG (lift K p) (lift K j) EH) TL))) D σ H:=by
 rintro D σ H ⟨as,ρ,S,ok,en,h⟩;refine⟨as,ρ,S,ok,en,me _ _ _ _ (λz S1 ⟨v,w,ez,q⟩ as1 H1 uv g1 ok1 rv=>?_) h⟩;subst ez;obtain⟨a,vs,rfl,ha,rr⟩:=rl_tup.mp rv;obtain⟨v1,t1,rfl,rv1,rr⟩:=rla_cons.mp rr;obtain⟨v2,t2,rfl,rv2,rr⟩:=rla_cons.mp rr;obtain rfl:=rla_nil.mp rr;have en1:=en.mono g1.pre (g1.ku ok);refine⟨a,_,rfl,SqT.of ha,rfl,v1,_,rfl,as1,ρ,S1,ok1,en1,mo _ _ _ _ (λx S2 q as2 H2 u g2 ok2 ru=>?_) q⟩;have en2:=en1.mono g2.pre (g2.ku ok1);refine⟨as2,ρ,S2,ok2,en2,mi _ _ _ _ (λy S3 q as3 H3 t g3 ok3 rt=>?_) q⟩;have en3:=en2.mono g3.pre (g3.ku ok2);refine D3 ok3 (Rl.mono g3.pre (g3.ku ok2) x u ru) rt (Rl.mono (g2.trans g3).pre ((g2.trans g3).ku ok1) _ _ rv1) (A0 (λS4 q H4 g4 ok4=>?_) q);have en4:=en3.mono g4.pre (g4.ku ok3);have G4:=(g2.trans g3).trans g4;refine⟨v2,_,rfl,as3,ρ,S4,ok4,en4,mp _ _ _ _ (λx S5 q as5 H5 u5 g5 ok5 ru5=>?_) q⟩;have en5:=en4.mono g5.pre (g5.ku ok4);refine⟨as5,ρ,S5,ok5,en5,mj _ _ _ _ (λy S6 q as6 H6 t6 g6 ok6 rt6=>?_) q⟩;have en6:=en5.mono g6.pre (g6.ku ok5);have G6:=(G4.trans g5).trans g6;refine D3 ok6 (Rl.mono g6.pre (g6.ku ok5) x u5 ru5) rt6 (Rl.mono G6.pre (G6.ku ok1) _ _ rv2) (A0 (λS7 q H7 g7 ok7=>⟨rfl,?_⟩) q);exact q as6 H7 σ ((g1.trans G6).trans g7) ok7 (en6.mono g7.pre (g7.ku ok6))
end
theorem IT{env:Env}{es:List Expr}{k:Nat}{p:Pos}{e:Expr}{l:Nat}:ZR [.Tuple es k p] e l env=pure false:=by
 unfold ZR ZF;cases e<;>rfl
theorem SX{env:Env}{o i:Expr}{p:Pos}{e:Expr}{l:Nat}:ZR [.Subscript o i p] e l env=pure false:=by
 unfold ZR ZF;cases e<;>rfl
theorem SY{env:Env}{es:List Expr}{k:Nat}{p:Pos}{e:Expr}(h:N6 e=true):Yx [.Tuple es k p] e env=pure none:=by
 unfold Yx;cases e<;>first | rfl | cases h
theorem Pf{env:Env}{x:Str}{px p:Pos}{t2:Expr}{k:Nat}{e:Expr}(h:(env.scope.names.lookup x == some NameKind.local)=false):Yx [.Tuple [.Name x px,t2] k p] e env=pure none:=by
 have kx:(env.kindOf x == some NameKind.local)=false:=h;cases e with
 | Tuple vs k2 p2=>
   unfold Yx
   have key:∀ f:Expr->Option Str,f (.Name x px)=none->((YR f [.Name x px,t2]).length != [Expr.Name x px,t2].length)=true:=λf hf=>by
    rw[Xb hf];have:=Xc f [t2];simp only[VY,W4]at this ⊢;rw[bne_iff_ne];omega
   dsimp only;split
   ·rfl
   ·split
    ·rfl
    ·rw[key _ (by show(if (env.kindOf x == some NameKind.local&&_)=true then some x else none)=none;rw[kx];rfl),Y6];rfl
 | _=>rfl
theorem Pg{env:Env}{o i:Expr}{px p:Pos}{t2:Expr}{k:Nat}{e:Expr}:Yx [.Tuple [.Subscript o i px,t2] k p] e env=pure none:=by
 cases e with
 | Tuple vs k2 p2=>
   unfold Yx
   have key:∀ f:Expr->Option Str,f (.Subscript o i px)=none->((YR f [.Subscript o i px,t2]).length != [Expr.Subscript o i px,t2].length)=true:=λf hf=>by
    rw[Xb hf];have:=Xc f [t2];simp only[VY,W4]at this ⊢;rw[bne_iff_ne];omega
   dsimp only;split
   ·rfl
   ·split
    ·rfl
    ·rw[key _ rfl,Y6];rfl
 | _=>rfl
theorem SZ{env:Env}{o i:Expr}{p:Pos}{e:Expr}:Yx [.Subscript o i p] e env=pure none:=by
 unfold Yx;cases e<;>rfl
theorem Sa{env:Env}{x y:Str}{px py pt pt2:Pos}{k k2:Nat}{a b:Expr}(hk:env.scope.kind = .function)(h:PM env.scope x y px py=true)(ha:c3 a=true)(hb:c3 b=true)(h1:([a,b].all (foldedForSure 8))=false)(h2:([a,b].all (A0v 8))=false):
 Yx [.Tuple [.Name x px,.Name y py] k pt] (.Tuple [a,b] k2 pt2) env=pure (some [x,y]):=by
 have hbk:env.blockKind = .function:=by unfold Env.blockKind;rw[hk];rfl
 unfold PM at h;simp only[V6,beq_iff_eq,VZ,beq_eq_false_iff_ne]at h;obtain⟨⟨⟨hx,hy⟩,hl⟩,hne⟩:=h;have kx:env.kindOf x=some .local:=hx;have ky:env.kindOf y=some .local:=hy
 have ed:([x,y]:List Str).eraseDups.length=2:=by
  have:(y == x)=false:=by rw[beq_eq_false_iff_ne];exact λz=>hne z.symm
  rw[List.eraseDups_cons,WL,this];rfl
 unfold Yx;simp only[VY,W4,hbk,h1,h2,List.head?_cons,WR,YD,Expr.pos,Wz,List.filterMap_nil,kx,ky,hl];refine(iG (by decide)).trans ((iG (λz=>?_)).trans ?_)
 ·simp only[W8,Yb,YW,Vu]at z;rcases z with z | z
  ·cases a<;>first | (cases z;done) | cases ha
  ·cases b<;>first | (cases z;done) | cases hb
 ·rw[show(some NameKind.local == some NameKind.local&&py.line == py.line)=true by simp];simp only[if_true];refine(iG (by rw[ed];simp)).trans ?_;refine(iG (by simp)).trans ((iG (by simp)).trans rfl)
theorem Ga{t:WT}{a b:WS}(mt:MonoT t)(ma:MonoS a)(mb:MonoS b):MonoS (λD ρ S=>t ρ S λc S1=>if c=true then a D ρ S1 else b D ρ S1):=λD D' ρ S l h=>mt _ _ _ _ (λc S1 q=>n8 (λq=>ma.go q l) (λq=>mb.go q l) q) h
section
variable{T:List Str}{Δ:Nat->Sn}{X:Cx}{N:List Str}{sc:Yu}
theorem N9{env:Env}{e:Expr}(h:c3 e=true):(Z7 [e] env).map (·.2)=[assign e env]:=by cases e<;>first | rfl | cases h
theorem Bz{env:Env}{o i:Expr}{p:Pos}(h:t7 i=true):∀ v,assign (.Subscript o i p) env v=(do
 let ov <- holding [v] (eval o env)
 let iv <- holding [v,ov] (eval i env)
 standAt p
 holding [v,ov,iv] (setItem ov iv v)
 release [v,ov,iv] []):=λv=>by cases i<;>first | rfl | cases h
theorem Ph{i:Expr}(h:t7 i=true):∀ ov iv new,augStore i ov iv new=(do holding [new,ov,iv] (setItem ov iv new);release [new,ov,iv] [];pure .next):=λ_ _ _=>by cases i<;>first | rfl | cases h
theorem Ky(C:Cok T Δ X N.length N sc)(hk:sc.kind = .function){t:Tg}{e:Ex}{rt re:Expr}{pos:Pos}(h1:BS N.length N sc t rt=true)(h2:j4 T N sc e re=true)(h3:c3 rt=true)(h4:ST sc rt re=true):PS X (.Assign [rt] re pos) (liftS X.K λD ρ S=>(wEx Δ e).1 ρ S λx S1=>wTg t x ρ λρ'=>D.nx ρ' S1):=by
 have ge:=a6 e re C h2;unfold ST at h4;cases hv:Cg rt with
 | none=>
   rw[hv]at h4;rw[V6]at h4;obtain⟨es,hes⟩:=Wk.mp h4.1;obtain⟨j,p,rfl⟩:=B4 hes
   have hw:Yx [.Tuple es j p] re X.env=pure none:=by
    rcases(Vu _ _).mp h4.2 with z | z
    ·exact SY z
    ·unfold Qb at z;replace z:=a4 z;obtain⟨ts,hts,z⟩:=z;replace z:=a4 z;obtain⟨nn,hnn,z⟩:=z;replace z:=a4 z;obtain⟨y,hy,z⟩:=z;rw[hts]at hes;cases hes;rw[CC hnn,Be hy];exact Pf (by rw[C.hs];simpa using z)
   exact u9 _ (HR ge.pe (BW C t _ h1) IT hw (N9 rfl)) (PZ ge.m)
 | some xp=>
   rw[hv]at h4;have e0:=Be hv;obtain⟨x,px⟩:=xp;subst e0;cases t with
   | tup ts=>rw[BS]at h1;cases h1
   | nm i=>
     rw[BS]at h1;have h1:(decide (i<N.length)&&decide (N[i]?=some x)&&loc sc x)=true:=h1;simp only[V6,dQ]at h1;obtain⟨⟨hi,hx⟩,hl⟩:=h1;unfold loc at hl;simp only[Vu,beq_iff_eq]at hl;have hND:X.N.Nodup:=by rw[C.hN];exact C.nd
     have hNi:X.N[i]?=some x:=by rw[C.hN];exact hx
     have hloc:Loc X.env.scope x:=by rw[C.hs];exact hl
     have hf:X.fn x=true\/X.env.scope.names.lookup x=some .local:=by
      rw[C.hs];rcases hl with hl | hl
      ·exact .inr hl
      ·exact .inl (C.fn i x hi hx hl)
     have hke:X.env.scope.kind = .function:=by rw[C.hs];exact hk
     cases hsw:Ec sc re x px with
     | false=>exact u9 _ (RD hND hNi hloc ge.pe (by rw[JU hke,C.hs,hsw]) hf) (GX ge.m)
     | true=>
       have h4:(!Ec sc re x px||SS re||UY re)=true:=h4;rw[hsw,Bool.not_true,YV,Vu]at h4;rcases h4 with h4 | h4
       ·unfold SS at h4;obtain⟨v,hv',h4⟩:=a4 h4;obtain⟨gen,hgen⟩:=Wk.mp h4;obtain⟨p',rfl⟩:=G9 hv';rw[y8 hgen]at h2 ge hsw ⊢
        have hxl:X.env.scope.names.lookup x=some .local:=by
         rw[C.hs];unfold Ec Da at hsw;simp only[V6,beq_iff_eq]at hsw;exact hsw.1.1
        have hs1:ZF (.ListComp v.1 [gen] v.2.2 p') (some (.Name x px)) pos.line X.env=pure true:=by rw[JU hke,C.hs,hsw]
        cases e with
        | comp own cn js g it t' e'=>
          obtain⟨tg,ri,ifs,az⟩:=gen;have h2:(decide (az=0)&&AA sc v.2.2 own cn N js&&BS own.length (own++cn) (Fz v.2.2 sc) g tg&&P9 T N sc it tg ri&&AK ri&&GA T (own++cn) (Fz v.2.2 sc) t' ifs&&j4 T (own++cn) (Fz v.2.2 sc) e' v.1)=true:=h2;simp only[V6,dQ]at h2;obtain⟨⟨⟨⟨⟨⟨k0,k1⟩,k2⟩,k3⟩,k4⟩,k5⟩,k6⟩:=h2;subst k0;have hI:=Cf it _ _ C k3;have hT:=λs2 H2 cs A fp=>GT t' _ (C.comp k1 s2 H2 cs A fp) k5;have hE:=λs2 H2 cs A fp=>a6 e' _ (C.comp k1 s2 H2 cs A fp) k6;have mt:=(hT X.s₀ X.H₀ [] 0 []).2;have me:=(hE X.s₀ X.H₀ [] 0 []).m;have b:=Hh (i:=i) (g:=Ea X.K g) (tt:=liftT X.K (wEo Δ t').2) (te:=lift X.K (wEx Δ e').1) own cn js hND hNi hxl hI.pi (λs2 H2 cs A fp=>BW (C.comp k1 s2 H2 cs A fp) g _ k2) (λs2 H2 cs A fp=>(hT s2 H2 cs A fp).1) (λs2 H2 cs A fp=>(hE s2 H2 cs A fp).pe) C.calm (by rw[C.hs,C.hN];exact k1) hs1 (An k4);refine u9 _ b λD σ H h=>?_;have:=GX ge.m D σ H h;exact GP hI.m mt me σ H _ this
        | no=>exact λ_ _ _ _ _ _ h=>let ⟨_,_,_,_,_,z⟩:=h;z.elim
        | _=>exact absurd h2 nofun
       ·exact YI (show false=true from h4)
mutual
theorem NA(C:Cok T Δ X N.length N sc)(hp:A0h (Ym X.prog X.w) X.A X.env X.xe)(nx:∀ e s,¬ X.xe e s)(hk:sc.kind = .function):∀(s:Stm) (r:Stmt),UZ T N sc s r=true->GoodS X r (wSt Δ s)
 | .asg t e,r,h=>by
   replace h:=a4 h;obtain⟨v,hv,h⟩:=h;replace h:=a4 h;obtain⟨rt,hrt,h⟩:=h;obtain⟨pos,rfl⟩:=CF hv;simp only[V6]at h;obtain⟨⟨⟨h1,h2⟩,h3⟩,h4⟩:=h;rw[y8 hrt];exact⟨Ky C hk h1 h2 h3 h4,GY (a6 e _ C h2).m⟩
 | .par i j a b,r,h=>by
   replace h:=a4 h;obtain⟨v,hv,h⟩:=h;replace h:=a4 h;obtain⟨rt,hrt,h⟩:=h;replace h:=a4 h;obtain⟨ts,hts,h⟩:=h;replace h:=a4 h;obtain⟨nn,hnn,h⟩:=h;replace h:=a4 h;obtain⟨vs,hvs,h⟩:=h;replace h:=a4 h;obtain⟨ab,hab,h⟩:=h;replace h:=a4 h;obtain⟨x,hx',h⟩:=h;replace h:=a4 h;obtain⟨y,hy',h⟩:=h;obtain⟨pos,rfl⟩:=CF hv;simp only[V6,dQ,VZ]at h;obtain⟨⟨⟨⟨⟨⟨⟨⟨⟨hx,hy⟩,hij⟩,hpar⟩,h1⟩,h2⟩,h3⟩,h4⟩,h5⟩,h6⟩:=h;obtain⟨j1,p1,e1⟩:=B4 hts;obtain⟨j2,p2,e2⟩:=B4 hvs;rw[y8 hrt,e1,CC hnn,e2,CC hab,Be hx',Be hy'];have ga:=a6 a _ C h1;have gb:=a6 b _ C h2;have hp2:=hpar;unfold PM at hp2;simp only[V6,beq_iff_eq]at hp2;have hke:X.env.scope.kind = .function:=by rw[C.hs];exact hk
   refine⟨u9 _ (RE (i:=i) (j:=j) C.calm (by rw[C.hN];exact C.nd) (by rw[C.hN];exact hx) (by rw[C.hN];exact hy) hij (by rw[C.hs];exact hp2.1.1.1) (by rw[C.hs];exact hp2.1.1.2) (y1 ga.pe (y1 gb.pe Az (f7 h4)) (f7 h3)) (Sa hke (by rw[C.hs];exact hpar) h3 h4 h5 h6) IT) (Pc ga.m gb.m),?_⟩;exact λD D' ρ S l h=>ga.m _ _ _ _ (λx S1 q=>gb.m _ _ _ _ (λy S2 q=>l.nx _ _ q) q) h
 | .put o i e,r,h=>by
   replace h:=a4 h;obtain⟨v,hv,h⟩:=h;replace h:=a4 h;obtain⟨rt,hrt,h⟩:=h;replace h:=a4 h;obtain⟨oi,hoi,h⟩:=h;obtain⟨pos,rfl⟩:=CF hv;obtain⟨p2,e2⟩:=Af hoi;simp only[V6]at h;rw[y8 hrt,e2];have go:=a6 o _ C h.1.1.1;have gi:=a6 i _ C h.1.1.2;have ge:=a6 e _ C h.1.2;refine⟨u9 _ (HR ge.pe (HP go.pe gi.pe C6 (Bz h.2)) SX SZ (N9 rfl)) (Pd go.m gi.m ge.m),?_⟩;exact λD D' ρ S l h=>ge.m _ _ _ _ (λv S1 q=>go.m _ _ _ _ (λx S2 q=>gi.m _ _ _ _ (λy S3 q=>A0 (λS4 q=>l.nx _ _ q) q) q) q) h
 | .augS o i e,r,h=>by
   replace h:=a4 h;obtain⟨v,hv,h⟩:=h;replace h:=a4 h;obtain⟨oi,hoi,h⟩:=h;obtain⟨pos,rfl⟩:=PN hv;obtain⟨p2,e2⟩:=Af hoi;simp only[V6]at h;rw[N7 h.1.1.1.1,e2];have go:=a6 o _ C h.1.1.1.2;have gi:=a6 i _ C h.1.1.2;have ge:=a6 e _ C h.1.2;refine⟨u9 _ (OH go.pe gi.pe SW ge.pe RF C6 (Ph h.2)) (Pe go.m gi.m ge.m),?_⟩;exact λD D' ρ S l h=>go.m _ _ _ _ (λx S1 q=>gi.m _ _ _ _ (λy S2 ⟨k,j,xs,a,e1,e2,h1,h2,q⟩=>⟨k,j,xs,a,e1,e2,h1,h2,ge.m _ _ _ _ (λv S4 ⟨b,ys,e1,h4,h5,q⟩=>⟨b,ys,e1,h4,h5,l.nx _ _ q⟩) q⟩) q) h
 | .dputl o i e,r,h=>by
   replace h:=a4 h;obtain⟨v,hv,h⟩:=h;replace h:=a4 h;obtain⟨rt,hrt,h⟩:=h;replace h:=a4 h;obtain⟨oi,hoi,h⟩:=h;obtain⟨pos,rfl⟩:=CF hv;obtain⟨p2,e2⟩:=Af hoi;simp only[V6]at h;rw[y8 hrt,e2];have go:=a6 o _ C h.1.1.1;have gi:=a6 i _ C h.1.1.2;have ge:=a6 e _ C h.1.2;have:=C.un;refine⟨u9 _ (OW (by omega) go.pe gi.pe ge.pe (by unfold ZF;cases v.2<;>rfl)) (Kx go.m gi.m ge.m),?_⟩;exact λD D' ρ S l h=>ge.m _ _ _ _ (λv S1 q=>go.m _ _ _ _ (λx S2 q=>gi.m _ _ _ _ (λy S3 q=>Ed (λS4 q=>l.nx _ _ q) q) q) q) h
 | .put2 o i p j e,r,h=>by
   replace h:=a4 h;obtain⟨v,hv,h⟩:=h;replace h:=a4 h;obtain⟨rt,hrt,h⟩:=h;replace h:=a4 h;obtain⟨ts,hts,h⟩:=h;replace h:=a4 h;obtain⟨nn,hnn,h⟩:=h;replace h:=a4 h;obtain⟨oi,hoi,h⟩:=h;replace h:=a4 h;obtain⟨pj,hpj,h⟩:=h;obtain⟨pos,rfl⟩:=CF hv;obtain⟨jt,pt,et⟩:=B4 hts;obtain⟨p2,e2⟩:=Af hoi;obtain⟨p3,e3⟩:=Af hpj;simp only[V6]at h;obtain⟨⟨⟨⟨⟨⟨h1,h2⟩,h3⟩,h4⟩,h5⟩,h6⟩,h7⟩:=h;rw[y8 hrt,et,CC hnn,e2,e3];have go:=a6 o _ C h1;have gi:=a6 i _ C h2;have gp:=a6 p _ C h3;have gj:=a6 j _ C h4;have ge:=a6 e _ C h5;refine⟨u9 _ (HR ge.pe (Lc C.calm (D6 (HP go.pe gi.pe C6 (Bz h6)) (D6 (HP gp.pe gj.pe C6 (Bz h7)) Io))) IT Pg (N9 rfl)) (N8 go.m gi.m gp.m gj.m ge.m),?_⟩;exact λD D' ρ S l h=>ge.m _ _ _ _ (λu S1 ⟨v,w,eu,q⟩=>⟨v,w,eu,go.m _ _ _ _ (λx S2 q=>gi.m _ _ _ _ (λy S3 q=>A0 (λS4 q=>gp.m _ _ _ _ (λx S5 q=>gj.m _ _ _ _ (λy S6 q=>A0 (λS7 q=>l.nx _ _ q) q) q) q) q) q) q⟩) h
 | .expr e,r,h=>by
   replace h:=a4 h;obtain⟨re,hre,h⟩:=h;obtain⟨pos,rfl⟩:=PP hre;simp only[V6]at h;have ge:=a6 e _ C h.1
   have hs:ZF re none pos.line X.env=pure false:=by
    have:=h.2;unfold ZF;cases re<;>first | rfl | (unfold Da at this;cases this)
   refine⟨u9 _ (OE ge.pe hs) ?_,λD D' ρ S l h=>ge.m _ _ _ _ (λx S1 q=>l.nx _ _ q) h⟩;rintro D σ H ⟨as,ρ,S,ok,en,h⟩;exact⟨as,ρ,S,ok,en,ge.m _ _ _ _ (λx S1 q as1 H1 v g1 ok1 rv=>q as1 H1 σ g1 ok1 (en.mono g1.pre (g1.ku ok))) h⟩
 | .iff t a b,r,h=>by
   replace h:=a4 h;obtain⟨v,hv,h⟩:=h;obtain⟨pos,rfl⟩:=PR hv;simp only[V6]at h;have gt:=a6 t _ C h.1.1;have ga:=AU C hp nx hk a _ h.1.2;have gb:=AU C hp nx hk b _ h.2;exact⟨u9 _ (TK gt.pt ga.ps gb.ps) (SU gt.mt ga.m gb.m),Ga gt.mt ga.m gb.m⟩
 | .loop g it b,r,h=>by
   replace h:=a4 h;obtain⟨v,hv,h⟩:=h;obtain⟨pos,rfl⟩:=PU hv;simp only[V6,Vn]at h;obtain⟨⟨⟨⟨h1,h2⟩,h3⟩,h4⟩,h5⟩:=h;rw[h5];have gi:=Cf it _ _ C h2;have gb:=AU C hp nx hk b _ h4;refine⟨u9 _ (RG hp C.calm gi.pi (BW C g _ h1) gb.ps (An h3)) (Pa gi.m gb.m),?_⟩;exact λD D' ρ S l h=>gi.m _ _ _ _ (λkeep xs S1 q=>Bf gb.m xs l _ _ q) h
 | .tri b,r,h=>by
   replace h:=a4 h;obtain⟨v,hv,h⟩:=h;obtain⟨pos,rfl⟩:=PV hv;simp only[V6,Vn,VZ]at h;obtain⟨⟨⟨h1,h2⟩,h3⟩,h4⟩:=h;have gb:=AU C hp nx hk b _ h1;rw[h3,h4];cases hh:v.2.1 with
   | nil=>rw[hh]at h2;cases h2
   | cons h0 hs=>exact⟨Op nx gb.ps,gb.m⟩
 | .whl t b,r,h=>by
   replace h:=a4 h;obtain⟨v,hv,h⟩:=h;obtain⟨pos,rfl⟩:=PX hv;simp only[V6,Vn]at h;rw[h.2];have gt:=a6 t _ C h.1.1;have gb:=AU C hp nx hk b _ h.1.2;exact⟨u9 _ (Lf hp gt.pt gb.ps) (Pb gt.mt gb.m),GZ gt.mt gb.m⟩
 | .ret e,r,h=>by
   replace h:=a4 h;obtain⟨o,ho,h⟩:=h;replace h:=a4 h;obtain⟨re,hre,h⟩:=h;obtain⟨pos,rfl⟩:=PY ho;rw[hre];have ge:=a6 e _ C h;exact⟨u9 _ (RB ge.pe) λD σ H ⟨as,ρ,S,ok,en,h⟩=>⟨as,ρ,S,ok,en,h⟩,λD D' ρ S l h=>ge.m _ _ _ _ l.rt h⟩
 | .no,r,h=>⟨λ_ _ _ _ _ _ h=>let ⟨_,_,_,_,_,z⟩:=h;z.elim,λ_ _ _ _ _ h=>h⟩
theorem AU(C:Cok T Δ X N.length N sc)(hp:A0h (Ym X.prog X.w) X.A X.env X.xe)(nx:∀ e s,¬ X.xe e s)(hk:sc.kind = .function):∀(s:List Stm) (r:List Stmt),Br T N sc s r=true->GoodSs X r (wSs Δ s)
 | [],r,h=>by
   rw[Br,Vn]at h;subst h;exact IS
 | s::ss,r,h=>by
   rw[Br]at h;replace h:=a4 h;obtain⟨x,hx,h⟩:=h;rw[V6]at h;rw[Ag hx];have:=GW (NA C hp nx hk s x h.1) (AU C hp nx hk ss _ h.2);rw[wSs];exact this
end
end
mutual
theorem a5{Δ:Nat->Sn}(hΔ:∀ f,MonoN (Δ f)):∀(e:Ex),Mono (wEx Δ e).1/\MonoT (wEx Δ e).2
 | .var i=>⟨.var,.tru .var⟩
 | .c x=>⟨.c,.tru .c⟩
 | .op o a b=>have m:Mono _ := .two (s:=sOp o) JK (a5 hΔ a).1 (a5 hΔ b).1;⟨m,.tru m⟩
 | .neg a=>have m:Mono _ := .one DV (a5 hΔ a).1;⟨m,.tru m⟩
 | .cmp o a b=>have m:Mono _ := .two (s:=At o) AI (a5 hΔ a).1 (a5 hΔ b).1;⟨m,.bl m⟩
 | .chn o p a b c=>have m:=GC (o:=o) (p:=p) (a5 hΔ a).1 (a5 hΔ b).1 (a5 hΔ c).1;⟨m,.bl m⟩
 | .and a b=>⟨.and (a5 hΔ a).1 (a5 hΔ b).1,.and (a5 hΔ a).2 (a5 hΔ b).2⟩
 | .or a b=>⟨.or (a5 hΔ a).1 (a5 hΔ b).1,.or (a5 hΔ a).2 (a5 hΔ b).2⟩
 | .not a=>⟨.not (a5 hΔ a).1,.not (a5 hΔ a).2⟩
 | .ife t a b=>⟨.ifE (a5 hΔ t).2 (a5 hΔ a).1 (a5 hΔ b).1,λ_ _ _ _ _ h=>h⟩
 | .tup es=>have m:Mono _ := .n .tup (Av hΔ es);⟨m,.tru m⟩
 | .lst es=>have m:Mono _ := .n .lst (Av hΔ es);⟨m,.tru m⟩
 | .ix a b=>have m:Mono _ := .two .ix (a5 hΔ a).1 (a5 hΔ b).1;⟨m,.tru m⟩
 | .slc a lo hi=>have m:Mono _:=(λρ S P P' i h=>(a5 hΔ a).1 _ _ _ _ (λx S1 h=>(j7 hΔ lo).1 _ _ _ _ (λl S2 h=>(j7 hΔ hi).1 _ _ _ _ (λk S3 h=>DX i h) h) h) h:Mono (SB _ _ _));⟨m,.tru m⟩
 | .call f es=>have m:Mono _ := .n (hΔ f) (Av hΔ es);⟨m,.tru m⟩
 | .bi b es=>have m:Mono _ := .n (s:=sBi b) .bi (Av hΔ es);⟨m,.tru m⟩
 | .mt m' a es=>have m:Mono _:=Mono.mt (m:=m') (a5 hΔ a).1 (Av hΔ es);⟨m,.tru m⟩
 | .comp own cn js g it t e=>have m:Mono _:=Mono.comp (k:=own.length) (js:=js) (g:=g) (Gb hΔ it) (j7 hΔ t).2 (a5 hΔ e).1;⟨m,.tru m⟩
 | .tyc t=>⟨.c,.tru .c⟩
 | .sum2 a=>have m:=EY (a5 hΔ a).1;⟨m,.tru m⟩
 | .max1 a=>have m:=EU (a5 hΔ a).1;⟨m,.tru m⟩
 | .dnewp=>⟨Bw,.tru Bw⟩
 | .setd d e v=>have m:=EX (a5 hΔ d).1 (a5 hΔ e).1 (a5 hΔ v).1;⟨m,.tru m⟩
 | .dnewl=>⟨Bx,.tru Bx⟩
 | .dget2l d e v=>have m:=Co (a5 hΔ d).1 (a5 hΔ e).1 (a5 hΔ v).1;⟨m,.tru m⟩
 | .dvalsl a=>have m:=Cp (a5 hΔ a).1;⟨m,.tru m⟩
 | .setdi d e v=>have m:=DZ (a5 hΔ d).1 (a5 hΔ e).1 (a5 hΔ v).1;⟨m,.tru m⟩
 | .mind a d=>have m:=EW (a5 hΔ a).1 (a5 hΔ d).1;⟨m,.tru m⟩
 | .maxd a d=>have m:=EV (a5 hΔ a).1 (a5 hΔ d).1;⟨m,.tru m⟩
 | .eqp a b=>have m:Mono _ := .two CD (a5 hΔ a).1 (a5 hΔ b).1;⟨m,.bl m⟩
 | .dnew=>⟨Cd,.tru Cd⟩
 | .dget a b=>have m:Mono _ := .two Cc (a5 hΔ a).1 (a5 hΔ b).1;⟨m,.tru m⟩
 | .no=>⟨λ_ _ _ _ _ h=>h,λ_ _ _ _ _ h=>h⟩
theorem Av{Δ:Nat->Sn}(hΔ:∀ f,MonoN (Δ f)):∀(es:Exs),MonoA (Fy Δ es)
 | .nil => .nil
 | .cons e es => .cons (a5 hΔ e).1 (Av hΔ es)
theorem j7{Δ:Nat->Sn}(hΔ:∀ f,MonoN (Δ f)):∀(o:Eo),MonoO (wEo Δ o).1/\MonoT (wEo Δ o).2
 | .no=>⟨.no,λ_ _ _ _ i q=>i _ _ q⟩
 | .yes e=>⟨.yes (a5 hΔ e).1,(a5 hΔ e).2⟩
theorem Gb{Δ:Nat->Sn}(hΔ:∀ f,MonoN (Δ f)):∀(it:Itb),MonoI (Oz Δ it)
 | .seq e=>λρ S P P' i h=>(a5 hΔ e).1 _ _ _ _ (λx S1 ⟨xs,e,q⟩=>⟨xs,e,i _ _ _ q⟩) h
 | .rng1 a=>λρ S P P' i h=>(a5 hΔ a).1 _ _ _ _ (λx S1 ⟨j,e,z,q⟩=>⟨j,e,z,i _ _ _ q⟩) h
 | .rng2 a b=>λρ S P P' i h=>(a5 hΔ a).1 _ _ _ _ (λx S1 h=>(a5 hΔ b).1 _ _ _ _ (λy S2 ⟨l,j,e,e2,z,q⟩=>⟨l,j,e,e2,z,i _ _ _ q⟩) h) h
 | .enum e=>λρ S P P' i h=>(a5 hΔ e).1 _ _ _ _ (λx S1 ⟨xs,e,q⟩=>⟨xs,e,i _ _ _ q⟩) h
end
mutual
theorem Pi{Δ:Nat->Sn}(hΔ:∀ f,MonoN (Δ f)):∀(s:Stm),MonoS (wSt Δ s)
 | .asg t e=>by exact GY (a5 hΔ e).1
 | .par i j a b=>by exact λD D' ρ S l h=>(a5 hΔ a).1 _ _ _ _ (λx S1 q=>(a5 hΔ b).1 _ _ _ _ (λy S2 q=>l.nx _ _ q) q) h
 | .put o i e=>by exact λD D' ρ S l h=>(a5 hΔ e).1 _ _ _ _ (λv S1 q=>(a5 hΔ o).1 _ _ _ _ (λx S2 q=>(a5 hΔ i).1 _ _ _ _ (λy S3 q=>A0 (λS4 q=>l.nx _ _ q) q) q) q) h
 | .augS o i e=>by exact λD D' ρ S l h=>(a5 hΔ o).1 _ _ _ _ (λx S1 q=>(a5 hΔ i).1 _ _ _ _ (λy S2 ⟨k,j,xs,a,e1,e2,h1,h2,q⟩=>⟨k,j,xs,a,e1,e2,h1,h2,(a5 hΔ e).1 _ _ _ _ (λv S4 ⟨b,ys,e1,h4,h5,q⟩=>⟨b,ys,e1,h4,h5,l.nx _ _ q⟩) q⟩) q) h
 | .dputl o i e=>by exact λD D' ρ S l h=>(a5 hΔ e).1 _ _ _ _ (λv S1 q=>(a5 hΔ o).1 _ _ _ _ (λx S2 q=>(a5 hΔ i).1 _ _ _ _ (λy S3 q=>Ed (λS4 q=>l.nx _ _ q) q) q) q) h
 | .put2 o i p j e=>by exact λD D' ρ S l h=>(a5 hΔ e).1 _ _ _ _ (λu S1 ⟨v,w,eu,q⟩=>⟨v,w,eu,(a5 hΔ o).1 _ _ _ _ (λx S2 q=>(a5 hΔ i).1 _ _ _ _ (λy S3 q=>A0 (λS4 q=>(a5 hΔ p).1 _ _ _ _ (λx S5 q=>(a5 hΔ j).1 _ _ _ _ (λy S6 q=>A0 (λS7 q=>l.nx _ _ q) q) q) q) q) q) q⟩) h
 | .expr e=>by exact λD D' ρ S l h=>(a5 hΔ e).1 _ _ _ _ (λx S1 q=>l.nx _ _ q) h
 | .iff t a b=>by exact Ga (a5 hΔ t).2 (i7 hΔ a) (i7 hΔ b)
 | .loop g it b=>by exact λD D' ρ S l h=>Gb hΔ it _ _ _ _ (λkeep xs S1 q=>Bf (i7 hΔ b) xs l _ _ q) h
 | .tri b=>by exact i7 hΔ b
 | .whl t b=>by exact GZ (a5 hΔ t).2 (i7 hΔ b)
 | .ret e=>by exact λD D' ρ S l h=>(a5 hΔ e).1 _ _ _ _ l.rt h
 | .no=>by exact λD D' ρ S l h=>h
theorem i7{Δ:Nat->Sn}(hΔ:∀ f,MonoN (Δ f)):∀(s:List Stm),MonoS (wSs Δ s)
 | []=>by exact λD D' ρ S l h=>l.nx _ _ h
 | s::ss=>by exact λD D' ρ S l h=>(Pi hΔ s).go (D:={D with nx:=wSs Δ ss D}) h ⟨λρ' S' q=>(i7 hΔ ss) _ _ _ _ l q,l.rt,l.bk,l.ct⟩
end
theorem NB{P:List Yg->Prop}{n:Nat}(h:∀ a us,us.length=n->P (a::us)):∀ us:List Yg,us.length=n+1->P us
 | a::us,e=>h a us (Nat.succ.inj e)
theorem E7{P:List Yg->Prop}(h:∀ a,P [a]):∀ us:List Yg,us.length=1->P us:=NB λa us e=>List.length_eq_zero_iff.mp e▸h a
theorem Bm{P:List Yg->Prop}(h:∀ a b,P [a,b]):∀ us:List Yg,us.length=2->P us:=NB λa=>E7 (P:=λus=>P (a::us)) (h a)
theorem C0{P:List Yg->Prop}(h:∀ a b c,P [a,b,c]):∀ us:List Yg,us.length=3->P us:=NB λa=>Bm (P:=λus=>P (a::us)) (h a)
theorem E8{P:List Yg->Prop}(h:∀ a b c d,P [a,b,c,d]):∀ us:List Yg,us.length=4->P us:=NB λa=>C0 (P:=λus=>P (a::us)) (h a)
theorem FH{P:List Yg->Prop}(h:∀ a b c d e,P [a,b,c,d,e]):∀ us:List Yg,us.length=5->P us:=NB λa=>E8 (P:=λus=>P (a::us)) (h a)
structure Df where
 name:Str
 st:Stmt
 ps:List Str
 N:List Str
 body:List Stm
def A6(Q:QE):EndsS:=⟨λ_ S'=>Q .non S',Q,λ_ _=>False,λ_ _=>False⟩
def NC(n:Nat)(xs:List SV):EnvS:=xs.map some++VL (n - xs.length) none
noncomputable def f6(Δ:Nat->Sn)(D:Df):Sn:=λxs S Q=>xs.length=D.ps.length/\wSs Δ D.body (A6 Q) (NC D.N.length xs) S
noncomputable def W(prog:List Df):Nat->Nat->Sn
 | 0,_=>λ_ _ _=>False
 | d+1,f=>match prog[f]? with
   | some D=>f6 (W prog d) D
   | none=>λ_ _ _=>False
theorem ND{Δ:Nat->Sn}(hΔ:∀ f,MonoN (Δ f))(D:Df):MonoN (f6 Δ D):=λxs S P P' i h=>⟨h.1,(i7 hΔ D.body).go h.2 ⟨λ_ _ q=>i _ _ q,i,λ_ _ q=>q,λ_ _ q=>q⟩⟩
theorem Db{prog:List Df}:∀(d f:Nat),MonoN (W prog d f)
 | 0,f=>λ_ _ _ _ _ h=>h
 | d+1,f=>by
   unfold W;split
   ·exact ND (Db d) _
   ·exact λ_ _ _ _ _ h=>h
def fnB(N ps:List Str)(sc:Yu):Bool:=decide (sc.kind = .function)&&!sc.isCoroutine&&!sc.isGenerator&&decide N.Nodup&&decide (N.take ps.length=ps)&&ps.all (loc sc)&&sc.names.all (λy=>!decide (y.2 = .free))
theorem Sb{N ps:List Str}{sc:Yu}(h:fnB N ps sc=true):FnScope N ps sc:=by
 unfold fnB at h;simp only[V6,dQ,VZ,Va,decide_eq_false_iff_not]at h;obtain⟨⟨⟨⟨⟨⟨h1,h2⟩,h3⟩,h4⟩,h5⟩,h6⟩,h7⟩:=h;refine⟨h1,h2,h3,h4,h5,λx hx=>?_,h7⟩;have:=h6 x hx;unfold loc at this;simpa using this
noncomputable def Pj(T:List Str)(D:Df):Bool:=fnB D.N D.ps (defScope D.st)&&Br T D.N (defScope D.st) D.body (defBody D.st)
structure Bl(mg:Str->Option Yg):Prop where
 bl:∀ b:BI,mg b.name=none
 rng:mg "range"=none
 enm:mg "enumerate"=none
 rvs:mg "reversed"=none
 zip:mg "zip"=none
 sm0:mg "sum"=none
 st0:mg "set"=none
 dc0:mg "dict"=none
 ty:∀ t:TyN,t ≠ .none->mg (Str.ofString t.nm)=none
section
variable{P:Yn}{w:Yq}{K:V5}{mg:Str->Option Yg}{base:Heap}
theorem Kz{as:List Yi}{H:Hp}{N:List Str}{vs:List V}{xs:List SV}(r:RlAll K as H vs xs):EnvOk K as H (L2.start N vs) (NC N.length xs):=by
 unfold L2.start NC;rw[<-r.length];refine⟨by simp[r.length],λi x e=>?_⟩;by_cases hi:i<vs.length
 ·rw[VP (by rw[V7,<-r.length];exact hi),VG]at e;rw[VP (by simpa using hi),VG];cases hx:xs[i]? with
  | none=>rw[hx]at e;cases e
  | some y=>
    rw[hx]at e;have:y=x:=by simpa using e
    subst this;obtain⟨v,hv,rv⟩:=r.get hx;exact⟨v,by rw[hv];rfl,rv⟩
 ·rw[Vq (by rw[V7,<-r.length];omega),WG]at e;split at e<;>cases e
theorem NE{T:List Str}{Δ:Nat->Sn}{D:Df}{f:Yi}{fd:ZL}{k:Nat}(F:Fun K D.name D.name D.st f fd)(hc:Pj T D=true)(B:Bl mg)(hcall:∀ f x,T[f]?=some x->∃ ps,Cal P w K mg base k x ps (spS K (Δ f)))(hΔ:∀ f,MonoN (Δ f)):FnOk P w K mg base CX0 (k+1) f fd D.ps (spS K (f6 Δ D)):=by
 unfold Pj at hc;rw[V6]at hc;have S:=Sb hc.1;refine F.ok S (λvs H Q E h=>?_) (λcdv A outer s H vs Q E hr h=>?_)
 ·obtain⟨as,S,xs,ok,r,hl,_⟩:=h;rw[r.length];exact hl
 ·have C:Cok T Δ (HY CX0 P w K mg base D.N D.name (defScope D.st) f cdv A outer s H E).nox D.N.length D.N (defScope D.st):={
   hN:=rfl,hs:=rfl,nd:=S.nd,calm:=rfl,fn:=λ_ _ _ _ _=>rfl
   un:=by have:=hr.un;show(A.deeper _).units+102<cLine;omega
   bl:=B.bl,rng:=B.rng,enm:=B.enm,rvs:=B.rvs,zip:=B.zip,sm0:=B.sm0,st0:=B.st0,dc0:=B.dc0,ty:=B.ty,gd:=hr.gd
   call:=λg x hx=>let ⟨ps,c⟩:=hcall g x hx;⟨k,ps,c,hr⟩
   mono:=hΔ}
  refine⟨_,(AU C PassesOwn.never (λ_ _ h=>h) S.kind D.body _ hc.2).ps,?_⟩;obtain⟨as,S,xs,ok,r,hl,h⟩:=h;refine⟨as,_,S,ok,Kz r,(i7 hΔ D.body).go h ⟨λρ' S' q as' H' σ' g ok' en'=>q as' H' _ g ok' (rl_non.mpr rfl),λx S' q=>q,λ_ _ q=>q.elim,λ_ _ q=>q.elim⟩⟩
structure PIn(K:V5)(mg:Str->Option Yg)(D:Df):Prop where
 ex:∃ f fd,Fun K D.name D.name D.st f fd/\mg D.name=some (.ref f)/\PySem.W.keepIn K (.ref f)=true/\Binds K fd D.ps []
theorem JV{prog:List Df}(hc:prog.all (Pj (prog.map (·.name)))=true)(B:Bl mg)(hin:∀ D∈prog,PIn K mg D):∀(d f:Nat) (D:Df),prog[f]?=some D->Cal P w K mg base d D.name D.ps (spS K (W prog d f))
 | 0,f,D,hf=>by
   obtain⟨fa,fd,F,hm,hk,hb⟩:=(hin D (V9 hf)).ex;refine⟨fa,fd,⟨λvs H Q E h=>?_,λA outer s H args us vs Q E hr he hbn hv h=>?_⟩,hm,hk,hb⟩
   ·obtain⟨_,_,_,_,_,z⟩:=h;exact z.elim
   ·obtain⟨_,_,_,_,_,z⟩:=h;exact z.elim
 | d+1,f,D,hf=>by
   obtain⟨fa,fd,F,hm,hk,hb⟩:=(hin D (V9 hf)).ex;have h1:=Va.mp hc D (V9 hf)
   have:=NE (Δ:=W prog d) (P:=P) (w:=w) (base:=base) (k:=d) F h1 B (λg x hx=>by
    rw[VG]at hx;cases hg:prog[g]? with
    | none=>rw[hg]at hx;cases hx
    | some D'=>
      rw[hg]at hx;have:D'.name=x:=by simpa using hx
      subst this;exact⟨D'.ps,JV hc B hin d g D' hg⟩) (Db d)
   have e:W prog (d+1) f=f6 (W prog d) D:=by rw[W,hf]
   rw[e];exact⟨fa,fd,this,hm,hk,hb⟩
theorem Sc{prog:List Df}{d f:Nat}{H:Hp}{a:Yi}{ns:List Int}(main:W prog d f [.ro (ns.map SV.int)] [] λx _=>x = .bl true)(hO:OQ H)(hS:SqL K H a (ns.map V.int)):spS K (W prog d f) [.ref a] H (λv _=>v = .bl true) λ_ _ _=>False:=by
 have hz:FzL K H a (ns.map V.int):=by
  rcases hS with(h | ⟨o,h⟩) | h
  ·rcases hO a with z | ⟨o,xs,z⟩<;>rw[h]at z<;>cases z
  ·exact .inl ⟨o,h⟩
  ·exact .inr h
 refine⟨[],[],_,⟨rfl,YQ,λk o a e=>by simp at e⟩,.cons (rl_ro.mpr ⟨a,_,rfl,hz,RlAll.ints⟩) .nil,Db d f _ _ _ _ (λx S' e as' H' v g ok r=>?_) main⟩;subst e;exact rl_bl.mp r
end
theorem a7{k:Nat}{S:Sto}{xs:List SV}(h:S[k]?=some (.lst xs)):seqS (.loc k) S=some xs:=by simp only[seqS,h]
theorem AV{k:Nat}{S:Sto}{xs:List SV}(h:S[k]?=some (.lst xs)):BC (.loc k) S=none:=by simp only[BC,h]
theorem JW{k:Nat}{S:Sto}{xs:List SV}(h:S[k]?=some (.lst xs)):MU (.loc k) S=some (!xs.isEmpty):=by simp only[MU,h]
theorem Dc{k:Nat}{S:Sto}{xs:List SV}(h:S[k]?=some (.lst xs)):tyS (.loc k) S=some .list:=by simp only[tyS,h]
theorem ifT{b:Bool}{A B:Prop}(h:b=true)(a:A):if b=true then A else B:=by rw[iP h];exact a
theorem ifF{b:Bool}{A B:Prop}(h:b=false)(a:B):if b=true then A else B:=by rw[iG (by rw[h];decide)];exact a
theorem ifD{c A B:Prop}[Decidable c](h1:c->A)(h2:¬ c->B):if decide c=true then A else B:=by
 by_cases h:c
 ·rw[iP (decide_eq_true h)];exact h1 h
 ·rw[iG (by simpa using h)];exact h2 h
theorem ifB{b:Bool}{A B:Prop}(h1:b=true->A)(h2:b=false->B):if b=true then A else B:=by
 cases b with
 | true=>rw[iP rfl];exact h1 rfl
 | false=>rw[iG (by decide)];exact h2 rfl
theorem k9{S:Sto}{k:Nat}{o u:SO}(h:S[k]?=some o):(S.set k u)[k]?=some u:=Vf ((gM h).1)
theorem A7{S:Sto}{k j:Nat}{u:SO}(h:k≠j):(S.set k u)[j]?=S[j]?:=W3 h
theorem a8{S:Sto}{o:SO}:(S++[o])[S.length]?=some o:=Vb
theorem j5{S:Sto}{o u:SO}{k:Nat}(h:S[k]?=some u):(S++[o])[k]?=some u:=by
 rw[VP ((gM h).1)];exact h
theorem JX{S:Sto}{o:SO}{k:Nat}(h:S[k]?=some o):k<S.length:=(gM h).1
structure TapeS(S:Sto)(t:Nat):Prop where
 ex:∃ a b:Int,S[t]?=some (.lst [.int a,.int b])/\0<=a/\0<=b/\b<2147483647
structure On(t:Nat)(S S':Sto):Prop where
 len:S.length<=S'.length
 keep:∀ k o,k≠t->S[k]?=some o->S'[k]?=some o
theorem On.refl(t:Nat)(S:Sto):On t S S:=⟨VF _,λ_ _ _ h=>h⟩
theorem On.trans{t:Nat}{S S' S'':Sto}(a:On t S S')(b:On t S' S''):On t S S'':=⟨Ve a.len b.len,λk o n h=>b.keep k o n (a.keep k o n h)⟩
theorem On.push{t:Nat}{S S':Sto}{o:SO}(a:On t S S'):On t S (S'++[o]):=⟨by rw[V8];have:=a.len;omega,λk u n h=>j5 (a.keep k u n h)⟩
theorem On.tape{t:Nat}{S S':Sto}{o:SO}(a:On t S S'):On t S (S'.set t o):=⟨by rw[Vp];exact a.len,λk u n h=>by rw[A7 (Ne.symm n)];exact a.keep k u n h⟩
theorem On.new{t k:Nat}{S S':Sto}{o:SO}(a:On t S S')(h:S.length<=k):On t S (S'.set k o):=⟨by rw[Vp];exact a.len,λj u n hj=>by
 rw[A7 (λz=>by have:=JX hj;omega)];exact a.keep j u n hj⟩
theorem TapeS.push{S:Sto}{t:Nat}{o:SO}(h:TapeS S t):TapeS (S++[o]) t:=let ⟨a,b,e,z⟩:=h.ex;⟨a,b,j5 e,z⟩
theorem TapeS.other{S:Sto}{t k:Nat}{o:SO}(h:TapeS S t)(n:k≠t):TapeS (S.set k o) t:=let ⟨a,b,e,z⟩:=h.ex;⟨a,b,by rw[A7 n];exact e,z⟩
theorem TapeS.lt{S:Sto}{t:Nat}(h:TapeS S t):t<S.length:=let ⟨_,_,e,_⟩:=h.ex;JX e
theorem v9{keep:Sto->Prop}{g:Tg}{b:WS}{D:EndsS}(mb:MonoS b)(I:Nat->EnvS->Sto->Prop){xs:List SV}{ρ:EnvS}{S:Sto}(h0:I 0 ρ S)(hk:∀ i ρ S,I i ρ S->keep S)
 (hs:∀ i x ρ S,xs[i]?=some x->I i ρ S->wTg g x ρ λρ2=>b {D with nx:=I (i+1),ct:=I (i+1),bk:=D.nx} ρ2 S) (hd:∀ ρ S,I xs.length ρ S->D.nx ρ S):v8 keep g b D xs ρ S:=by
 have go:∀(ys:List SV) (i:Nat) (ρ:EnvS) (S:Sto),xs.drop i=ys->i<=xs.length->I i ρ S->v8 keep g b D ys ρ S:=by
  intro ys
  induction ys with
  | nil=>
    intro i ρ S e hi h
    have:i=xs.length:=by
     have:=congrArg XS e;rw[Wn,W4]at this;omega
    subst this;unfold v8;exact⟨hk _ _ _ h,hd _ _ h⟩
  | cons y ys ih=>
    intro i ρ S e hi h
    have hy:xs[i]?=some y:=by
     rw[<-YL,e];rfl
    have hlt:=(gM hy).1;have e2:xs.drop (i+1)=ys:=by rw[<-YS,e];rfl
    unfold v8;refine⟨hk _ _ _ h,y9 g (λρ2 q=>?_) (hs i y ρ S hy h)⟩;exact mb.go (D:={D with nx:=I (i+1),ct:=I (i+1),bk:=D.nx}) q ⟨λρ' S' z=>ih (i+1) ρ' S' e2 hlt z,λ_ _ z=>z,λ_ _ z=>z,λρ' S' z=>ih (i+1) ρ' S' e2 hlt z⟩
 exact go xs 0 ρ S rfl (WJ _) h0
theorem t9{keep:Sto->Prop}{g:Tg}{b:WS}{D:EndsS}(mb:MonoS b)(I:Nat->EnvS->Sto->Prop){xs:List SV}{ρ:EnvS}{S:Sto}(h0:I 0 ρ S)(hk:∀ i ρ S,I i ρ S->keep S)
 (hs:∀ i x ρ S (E:EndsS),(∀ ρ S,I (i+1) ρ S->E.nx ρ S)->(∀ y S,D.rt y S->E.rt y S)->xs[i]?=some x->I i ρ S->wTg g x ρ λρ2=>b E ρ2 S) (hd:∀ ρ S,I xs.length ρ S->D.nx ρ S):v8 keep g b D xs ρ S:=
 v9 mb I h0 hk (λi x ρ S hx hI=>hs i x ρ S {D with nx:=I (i+1),ct:=I (i+1),bk:=D.nx} (λ_ _ h=>h) (λ_ _ h=>h) hx hI) hd
theorem i4{keep:Sto->Prop}{g:Tg}{t:WT}{e:WE}{ρ:EnvS}{Q:List SV->Sto->Prop}(mt:MonoT t)(me:Mono e)(I:Nat->List SV->Sto->Prop){xs:List SV}{S:Sto}(h0:I 0 [] S)(hk:∀ i ys S,I i ys S->keep S)
 (hs:∀ i x ys S,xs[i]?=some x->I i ys S->wTg g x ρ λρ2=>t ρ2 S λb S1=>if b=true then e ρ2 S1 λy S2=>ys.length<big/\I (i+1) (ys++[y]) S2 else I (i+1) ys S1) (hd:∀ ys S,I xs.length ys S->Q ys S):v4 keep g t e ρ Q xs [] S:=by
 have go:∀(zs:List SV) (i:Nat) (ys:List SV) (S:Sto),xs.drop i=zs->i<=xs.length->I i ys S->v4 keep g t e ρ Q zs ys S:=by
  intro zs
  induction zs with
  | nil=>
    intro i ys S e' hi h
    have:i=xs.length:=by
     have:=congrArg XS e';rw[Wn,W4]at this;omega
    subst this;unfold v4;exact⟨hk _ _ _ h,hd _ _ h⟩
  | cons y zs ih=>
    intro i ys S e' hi h;have hy:xs[i]?=some y:=by rw[<-YL,e'];rfl
    have hlt:=(gM hy).1;have e2:xs.drop (i+1)=zs:=by rw[<-YS,e'];rfl
    unfold v4;refine⟨hk _ _ _ h,y9 g (λρ2 q=>mt _ _ _ _ (λb S1 q=>n8 (λq=>me _ _ _ _ (λv S2 q=>⟨q.1,ih (i+1) _ S2 e2 hlt q.2⟩) q) (λq=>ih (i+1) _ S1 e2 hlt q) q) q) (hs i y ys S hy h)⟩
 exact go xs 0 [] S rfl (WJ _) h0
theorem p0{lo hi:Int}{i:Nat}{x:SV}(h:(CY lo hi)[i]?=some x):x = .int (lo+i)/\lo+i<hi:=by
 unfold CY at h
 have hi':i<(hi - lo).toNat:=by
  have:=(gM h).1;simpa using this
 rw[VG,W1 hi']at h;exact⟨(oj h).symm,by omega⟩
theorem m4{lo hi:Int}:(CY lo hi).length=(hi - lo).toNat:=by unfold CY;simp
def pairS(e:Nat×Nat):SV := .tup [.int e.1,.int e.2]
def Qc:List Stm:=[(.asg (.nm 2) (.c (.int 0))),(.iff (.cmp .Lt (.var 1) (.bi .len (.cons (.var 0) .nil))) [(.asg (.nm 2) (.ix (.var 0) (.var 1)))] []),(.asg (.nm 3) (.op .Mult (.bi .abs (.cons (.var 2) .nil)) (.bi .int (.cons (.cmp .GtE (.bi .abs (.cons (.var 2) .nil)) (.op .Pow (.c (.int 10)) (.c (.int 18)))) .nil)))),(.ret (.lst (.cons (.var 3) (.cons (.op .Mod (.op .Mult (.op .Mod (.op .Add (.op .Add (.var 2) (.op .Mult (.c (.int 7919)) (.var 1))) (.c (.int 1))) (.c (.int 2147483647))) (.c (.int 48271))) (.c (.int 2147483647))) .nil))))]
noncomputable def Qd:List Stm:=[(.iff (.cmp .Gt (.ix (.var 0) (.c (.int 0))) (.c (.int 0))) [(.asg (.nm 2) (.op .Mod (.ix (.var 0) (.c (.int 0))) (.var 1))),(.put (.var 0) (.c (.int 0)) (.op .FloorDiv (.ix (.var 0) (.c (.int 0))) (.var 1))),(.ret (.var 2))] []),(.put (.var 0) (.c (.int 1)) (.op .Mod (.op .Add (.op .Mult (.ix (.var 0) (.c (.int 1))) (.c (.int 48271))) (.c (.int 12345))) (.c (.int 2147483647)))),(.asg (.nm 3) (.op .Mod (.op .Mult (.ix (.var 0) (.c (.int 1))) (.op .Add (.op .Mod (.ix (.var 0) (.c (.int 1))) (.c (.int 1009))) (.c (.int 3)))) (.c (.int 2147483629)))),(.ret (.op .Mod (.op .Mod (.op .Mult (.var 3) (.op .Add (.op .Mod (.var 3) (.c (.int 997))) (.c (.int 5)))) (.c (.int 998244353))) (.var 1)))]
def AC(s:Sn):Prop:=∀{t:Nat} {m:Int} {S:Sto} {Q:QE},TapeS S t->0<m->m<1073741824->(∀(r:Int) (S':Sto),0<=r->r<m->TapeS S' t->On t S S'->S'.length=S.length->Q (.int r) S')->s [.loc t,.int m] S Q
def NF(s:Sn):Prop:=∀{ns:List Int} {k:Nat} {S:Sto} {Q:QE},ns.length<=63->k<=1000->(∀ a b:Int,0<=a->0<=b->b<2147483647->Q (.loc S.length) (S++[.lst [.int a,.int b]]))->s [.ro (ns.map SV.int),.int k] S Q
theorem b01(b:Bool):-(2 ^ 64)<(if b=true then (1:Int) else 0)/\(if b=true then (1:Int) else 0)<2 ^ 64:=by cases b<;>decide
theorem b00(b:Bool):0<=(if b=true then (1:Int) else 0):=by cases b<;>decide
theorem Pk{Δ:Nat->Sn}{D:Df}(hb:D.body=Qd)(hN:D.N.length=4)(hp:D.ps.length=2):AC (f6 Δ D):=by
 intro t m S Q T h0 h1 q;obtain⟨a,b,hS,ha,hb0,hb1⟩:=T.ex;unfold f6;rw[hb,hN];refine⟨hp.symm,?_⟩;have go:∀ r a' b':Int,0<=r->r<m->0<=a'->0<=b'->b'<2147483647->Q (.int r) (S.set t (.lst [.int a',.int b'])):=λr a' b' r0 r1 a0 b0 b1=>q r _ r0 r1 ⟨a',b',k9 hS,a0,b0,b1⟩ (On.refl t S).tape (by rw[Vp]);refine⟨_,rfl,_,_,a7 hS,rfl,_,rfl,ifD (λh=>?_) (λh=>?_)⟩
 ·refine⟨_,rfl,_,_,a7 hS,rfl,_,rfl,h0,?_⟩;refine⟨_,rfl,_,_,a7 hS,rfl,_,rfl,⟨h0,h1⟩,_,rfl,_,_,hS,rfl,_,rfl,?_⟩;exact go _ _ _ (Ws _ (by omega)) (WZ _ h0) (Int.ediv_nonneg ha (by omega)) hb0 hb1
 ·refine⟨_,rfl,_,_,a7 hS,rfl,.inr (by decide),show(0:Int)<2147483647 by decide,_,rfl,_,_,hS,rfl,?_⟩;have e0:0<=(b * 48271+12345) % 2147483647:=Ws _ (by decide);have e1:(b * 48271+12345) % 2147483647<2147483647:=WZ _ (by decide);have hS1:(S.set t (.lst [.int a,.int ((b * 48271+12345) % 2147483647)]))[t]?=some (.lst [.int a,.int ((b * 48271+12345) % 2147483647)]):=k9 hS;refine⟨_,rfl,_,_,a7 hS1,rfl,_,rfl,_,_,a7 hS1,rfl,show(0:Int)<1009 by decide,.inl ⟨by omega,by omega⟩,show(0:Int)<2147483629 by decide,?_⟩;have f0:0<=((b * 48271+12345) % 2147483647 * ((b * 48271+12345) % 2147483647 % 1009+3)) % 2147483629:=Ws _ (by decide);have f1:((b * 48271+12345) % 2147483647 * ((b * 48271+12345) % 2147483647 % 1009+3)) % 2147483629<2147483629:=WZ _ (by decide);refine⟨_,rfl,_,rfl,show(0:Int)<997 by decide,.inl ⟨by omega,by omega⟩,show(0:Int)<998244353 by decide,_,rfl,h0,?_⟩;exact go _ _ _ (Ws _ (by omega)) (WZ _ h0) ha e0 e1
theorem Pl{Δ:Nat->Sn}{D:Df}(hb:D.body=Qc)(hN:D.N.length=4)(hp:D.ps.length=2):NF (f6 Δ D):=by
 intro ns k S Q hl hk q;unfold f6;rw[hb,hN];refine⟨hp.symm,?_⟩
 have fin:∀ c:Int,wSs Δ [(.asg (.nm 3) (.op .Mult (.bi .abs (.cons (.var 2) .nil)) (.bi .int (.cons (.cmp .GtE (.bi .abs (.cons (.var 2) .nil)) (.op .Pow (.c (.int 10)) (.c (.int 18)))) .nil)))),(.ret (.lst (.cons (.var 3) (.cons (.op .Mod (.op .Mult (.op .Mod (.op .Add (.op .Add (.var 2) (.op .Mult (.c (.int 7919)) (.var 1))) (.c (.int 1))) (.c (.int 2147483647))) (.c (.int 48271))) (.c (.int 2147483647))) .nil))))] (A6 Q) [some (.ro (ns.map SV.int)),some (.int k),some (.int c),none] S:=λc=>by
  refine⟨_,rfl,_,rfl,⟨by decide,by decide,by decide⟩,.inr (b01 _),?_⟩;refine⟨_,rfl,_,rfl,_,rfl,.inl ⟨by decide,by decide⟩,show(0:Int)<2147483647 by decide,.inr ⟨by decide,by decide⟩,show(0:Int)<2147483647 by decide,by show 2<=big;decide,?_⟩;refine q _ _ (Int.mul_nonneg (by split<;>omega) (b00 _)) (Ws _ (by decide)) (WZ _ (by decide))
 refine⟨_,rfl,_,rfl,_,rfl,_,rfl,ifD (λh=>?_) (λh=>fin 0)⟩
 have hk':k<ns.length:=by
  have:((ns.map SV.int).length:Int)=ns.length:=by rw[V7]
  omega
 refine⟨_,rfl,_,rfl,_,_,rfl,f8 (v := .int ns[k]) (by rw[VG,VB hk'];rfl),?_⟩;exact fin _
def q1(kd:Nat):Stm:=(.asg (.nm 2) (.call kd (.cons (.var 0) (.cons (.c (.int 8)) .nil))))
def q2(kd:Nat):Stm:=(.asg (.nm 3) (.ix (.lst (.cons (.call kd (.cons (.var 0) (.cons (.c (.int 7)) .nil))) (.cons (.op .Add (.c (.int 7)) (.call kd (.cons (.var 0) (.cons (.c (.int 6)) .nil)))) .nil))) (.bi .int (.cons (.var 1) .nil))))
def q3(kd:Nat):Stm:=(.asg (.nm 4) (.lst .nil))
def q4(kd:Nat):Stm:=(.iff (.and (.cmp .Lt (.var 2) (.c (.int 3))) (.cmp .Gt (.var 3) (.c (.int 1)))) [(.loop (.nm 5) (.rng1 (.call kd (.cons (.var 0) (.cons (.op .Add (.op .Mult (.c (.int 2)) (.var 3)) (.c (.int 1))) .nil)))) [(.asg (.nm 6) (.call kd (.cons (.var 0) (.cons (.var 3) .nil)))),(.expr (.mt .append (.var 4) (.cons (.tup (.cons (.var 6) (.cons (.op .Mod (.op .Add (.op .Add (.var 6) (.c (.int 1))) (.call kd (.cons (.var 0) (.cons (.op .Sub (.var 3) (.c (.int 1))) .nil)))) (.var 3)) .nil))) .nil)))])] [])
def q5(kd:Nat):Stm:=(.iff (.and (.cmp .Eq (.var 2) (.c (.int 3))) (.cmp .Gt (.var 3) (.c (.int 2)))) [(.asg (.nm 4) (.op .Add (.comp ["_law_k"] ["_law_many"] [3] (.nm 0) (.rng1 (.var 3)) .no (.tup (.cons (.var 0) (.cons (.op .Mod (.op .Add (.var 0) (.c (.int 1))) (.var 1)) .nil)))) (.lst (.cons (.tup (.cons (.c (.int 0)) (.cons (.op .Add (.call kd (.cons (.var 0) (.cons (.op .Sub (.var 3) (.c (.int 1))) .nil))) (.c (.int 1))) .nil))) .nil))))] [])
def q6(kd:Nat):Stm:=(.iff (.and (.cmp .Eq (.var 2) (.c (.int 4))) (.cmp .Gt (.var 3) (.c (.int 1)))) [(.asg (.nm 4) (.comp ["_law_k"] [] [] (.nm 0) (.rng2 (.c (.int 1)) (.var 3)) .no (.tup (.cons (.c (.int 0)) (.cons (.var 0) .nil)))))] [])
def q7(kd:Nat):Stm:=(.iff (.cmp .Eq (.var 2) (.c (.int 5))) [(.asg (.nm 3) (.bi .min (.cons (.var 3) (.cons (.op .Add (.c (.int 5)) (.bi .int (.cons (.var 1) .nil))) .nil)))),(.loop (.nm 7) (.rng1 (.var 3)) [(.expr (.mt .extend (.var 4) (.cons (.comp ["_law_j"] ["_law_k"] [7] (.nm 0) (.rng1 (.var 7)) .no (.tup (.cons (.var 0) (.cons (.var 1) .nil)))) .nil)))])] [])
def q8(kd:Nat):Stm:=(.iff (.cmp .Eq (.var 2) (.c (.int 6))) [(.asg (.nm 8) (.op .Add (.c (.int 1)) (.op .FloorDiv (.var 3) (.c (.int 2))))),(.loop (.nm 7) (.rng1 (.var 8)) [(.expr (.mt .extend (.var 4) (.cons (.comp ["_law_j"] ["_law_tape_here","_law_k"] [0,7] (.nm 0) (.rng2 (.var 8) (.var 3)) (.yes (.cmp .Gt (.call kd (.cons (.var 1) (.cons (.c (.int 3)) .nil))) (.c (.int 0)))) (.tup (.cons (.var 2) (.cons (.var 0) .nil)))) .nil)))])] [])
def q9(kd:Nat):Stm:=(.iff (.cmp .Eq (.var 2) (.c (.int 7))) [(.asg (.nm 3) (.op .Add (.c (.int 3)) (.op .FloorDiv (.var 3) (.c (.int 3))))),(.loop (.nm 7) (.rng1 (.c (.int 3))) [(.expr (.mt .extend (.var 4) (.cons (.op .Mult (.lst (.cons (.tup (.cons (.var 7) (.cons (.op .Mod (.op .Add (.var 7) (.c (.int 1))) (.c (.int 3))) .nil))) .nil)) (.op .Add (.c (.int 1)) (.call kd (.cons (.var 0) (.cons (.c (.int 3)) .nil))))) .nil)))])] [])
def q10(kd:Nat):Stm:=(.ret (.tup (.cons (.var 3) (.cons (.var 4) .nil))))
def q7l(kd:Nat):Stm:=(.loop (.nm 7) (.rng1 (.var 3)) [(.expr (.mt .extend (.var 4) (.cons (.comp ["_law_j"] ["_law_k"] [7] (.nm 0) (.rng1 (.var 7)) .no (.tup (.cons (.var 0) (.cons (.var 1) .nil)))) .nil)))])
def q8l(kd:Nat):Stm:=(.loop (.nm 7) (.rng1 (.var 8)) [(.expr (.mt .extend (.var 4) (.cons (.comp ["_law_j"] ["_law_tape_here","_law_k"] [0,7] (.nm 0) (.rng2 (.var 8) (.var 3)) (.yes (.cmp .Gt (.call kd (.cons (.var 1) (.cons (.c (.int 3)) .nil))) (.c (.int 0)))) (.tup (.cons (.var 2) (.cons (.var 0) .nil)))) .nil)))])
def q9l(kd:Nat):Stm:=(.loop (.nm 7) (.rng1 (.c (.int 3))) [(.expr (.mt .extend (.var 4) (.cons (.op .Mult (.lst (.cons (.tup (.cons (.var 7) (.cons (.op .Mod (.op .Add (.var 7) (.c (.int 1))) (.c (.int 3))) .nil))) .nil)) (.op .Add (.c (.int 1)) (.call kd (.cons (.var 0) (.cons (.c (.int 3)) .nil))))) .nil)))])
def NG(kd:Nat):List Stm:=[q1 kd,q2 kd,q3 kd,q4 kd,q5 kd,q6 kd,q7 kd,q8 kd,q9 kd,q10 kd]
structure Prs(n:Nat)(es:EE):Prop where
 en:∀ e∈es,e.1<n/\e.2<n/\e.1≠e.2
 len:es.length<=36
 few:n<=12
def FI(s:Sn):Prop:=∀{t:Nat} {g:Bool} {S:Sto} {Q:QE},TapeS S t->(∀(n:Nat) (es:EE) (l:Nat) (S':Sto),Prs n es->S'[l]?=some (.lst (es.map pairS))->S.length<=l->TapeS S' t->On t S S'->Q (.tup [.int n,.loc l]) S')->s [.loc t,.bl g] S Q
structure Ah(t:Nat)(S0 S:Sto)(l:Nat)(es:EE):Prop where
 tape:TapeS S t
 on:On t S0 S
 at':S[l]?=some (.lst (es.map pairS))
 new:S0.length<=l
 t0:t<S0.length
theorem Ah.ne{t l:Nat}{S0 S:Sto}{es:EE}(h:Ah t S0 S l es):l≠t:=by have:=h.new;have:=h.t0;omega
theorem Ah.draw{t l:Nat}{S0 S S':Sto}{es:EE}(h:Ah t S0 S l es)(T:TapeS S' t)(O:On t S S'):Ah t S0 S' l es:=⟨T,h.on.trans O,O.keep _ _ h.ne h.at',h.new,h.t0⟩
theorem Ah.push{t l:Nat}{S0 S:Sto}{es:EE}{o:SO}(h:Ah t S0 S l es):Ah t S0 (S++[o]) l es:=⟨h.tape.push,h.on.push,j5 h.at',h.new,h.t0⟩
theorem Ah.put{t l:Nat}{S0 S:Sto}{es fs:EE}(h:Ah t S0 S l es):Ah t S0 (S.set l (.lst (fs.map pairS))) l fs:=⟨h.tape.other h.ne,h.on.new h.new,k9 h.at',h.new,h.t0⟩
theorem Gc(es:EE)(e:Nat×Nat):es.map pairS++[.tup [.int e.1,.int e.2]]=(es++[e]).map pairS:=by rw[VM];rfl
section
variable{Δ:Nat->Sn}{kd:Nat}
theorem Uz(hΔ:∀ f,MonoN (Δ f))(hd:AC (Δ kd)){t l n:Nat}{way:Int}{S0 S:Sto}{D:EndsS}{g:SV}{o5 o6 o7 o8:Option SV}(A:Ah t S0 S l [])(hn:n<=12)
 (q:∀(es:EE) (S':Sto) (o5 o6:Option SV),Prs n es->Ah t S0 S' l es->D.nx [some (.loc t),some g,some (.int way),some (.int n),some (.loc l),o5,o6,o7,o8] S'):
 wSt Δ (q4 kd) D [some (.loc t),some g,some (.int way),some (.int n),some (.loc l),o5,o6,o7,o8] S:=by
 have stay:=q [] S o5 o6 ⟨(λ_ h=>nomatch h),by simp,hn⟩ A;refine⟨_,rfl,_,rfl,ifD (λh1=>?_) (λh1=>ifF rfl stay)⟩;refine⟨_,rfl,_,rfl,ifD (λh2=>?_) (λh2=>stay)⟩;have h2:1<n:=by omega
 refine⟨_,rfl,_,rfl,.inl ⟨by decide,by decide⟩,hd A.tape (by omega) (by omega) λr S1 r0 r1 T1 O1 _=>⟨r,rfl,⟨by omega,by omega⟩,?_⟩⟩;have A1:=A.draw T1 O1
 refine v9 (i7 hΔ _) (λi ρ S2=>∃(es:EE) (o5 o6:Option SV),ρ=[some (.loc t),some g,some (.int way),some (.int n),some (.loc l),o5,o6,o7,o8]/\Ah t S0 S2 l es/\(∀ e∈es,e.1<n/\e.2<n/\e.1≠e.2)/\es.length=i)
  ⟨[],o5,o6,rfl,A1,(λ_ h=>nomatch h),rfl⟩ (λ_ _ _ _=>trivial) ?_ ?_
 ·rintro i x ρ S2 hx ⟨es,p5,p6,rfl,A2,he,hl⟩;obtain⟨rfl,hi⟩:=p0 hx;refine⟨_,rfl,_,rfl,hd A2.tape (by omega) (by omega) λa S3 a0 a1 T3 O3 _=>?_⟩;have A3:=A2.draw T3 O3;refine⟨_,rfl,⟨l,_,rfl,A3.at'⟩,?_⟩;refine⟨_,rfl,_,rfl,_,rfl,_,rfl,hd A3.tape (by omega) (by omega) λb S4 b0 b1 T4 O4 _=>?_⟩;have A4:=A3.draw T4 O4;refine⟨_,rfl,show(0:Int)<n by omega,by show 2<=big;decide,⟨_,A4.at',by rw[V7];show es.length<100000;omega,?_⟩⟩;have e1:((a.toNat:Nat):Int)=a:=X1 a0;have m0:0<=(a+1+b) % n:=Ws _ (by omega);have m1:(a+1+b) % n<n:=WZ _ (by omega);have e2:(((a+1+b) % n).toNat:Int)=(a+1+b) % n:=X1 m0
  have hne:a≠(a+1+b) % n:=by
   by_cases hb:a+1+b<n
   ·rw[Y8 (by omega) hb];omega
   ·rw[<-Int.sub_emod_right,Y8 (by omega) (by omega)];omega
  have ea:=Gc es (a.toNat,((a+1+b) % n).toNat);simp only[e1,e2]at ea;refine⟨es++[(a.toNat,((a+1+b) % n).toNat)],_,_,rfl,?_,λe h=>?_,by rw[V8,hl];rfl⟩
  ·have:=A4.put (fs:=es++[(a.toNat,((a+1+b) % n).toNat)]);rw[<-ea]at this;exact this
  ·rcases VU.mp h with h | h
   ·exact he e h
   ·rw[VQ.mp h];exact⟨by show a.toNat<n;omega,by show((a+1+b) % n).toNat<n;omega,by show a.toNat≠((a+1+b) % n).toNat;omega⟩
 ·rintro ρ S2 ⟨es,p5,p6,rfl,A2,he,hl⟩;rw[m4]at hl;exact q es S2 p5 p6 ⟨he,by omega,hn⟩ A2
abbrev PQ(t:Nat)(g:SV)(way:Int)(S0:Sto)(D:EndsS):Prop:=∀(n:Nat) (es:EE) (l:Nat) (S':Sto) (o5 o6 o7 o8:Option SV),Prs n es->Ah t S0 S' l es->D.nx [some (.loc t),some g,some (.int way),some (.int n),some (.loc l),o5,o6,o7,o8] S'
theorem FJ{n:Nat}(h:n<=12):Prs n []:=⟨(λ_ h=>nomatch h),by simp,h⟩
theorem V0(hΔ:∀ f,MonoN (Δ f))(hd:AC (Δ kd)){t l n:Nat}{S0 S:Sto}{D:EndsS}{g:SV}{o5 o6 o7 o8:Option SV}(A:Ah t S0 S l [])(hn:n<=12)(q:PQ t g 3 S0 D):
 wSt Δ (q5 kd) D [some (.loc t),some g,some (.int 3),some (.int n),some (.loc l),o5,o6,o7,o8] S:=by
 have stay:=q n [] l S o5 o6 o7 o8 (FJ hn) A;refine⟨_,rfl,_,rfl,ifT rfl ?_⟩;refine⟨_,rfl,_,rfl,ifD (λh2=>?_) (λh2=>stay)⟩;have h2:2<n:=by omega
 refine⟨_,rfl,n,rfl,⟨by omega,by omega⟩,?_⟩;refine i4 (j7 hΔ _).2 (a5 hΔ _).1 (λi ys S2=>S2=S/\ys=((VD i).map λj=>(j,(j+1) % n)).map pairS) ⟨rfl,rfl⟩ (λ_ _ _ _=>trivial) ?_ ?_
 ·rintro i x ys S2 hx ⟨rfl,rfl⟩;obtain⟨rfl,hi⟩:=p0 hx;refine⟨_,rfl,_,rfl,_,rfl,show(0:Int)<n by omega,by show 2<=big;decide,by simp;show i<100000;omega,rfl,?_⟩;rw[WB,VM,VM];simp[pairS]
 ·rintro ys S2 ⟨rfl,rfl⟩;rw[m4];refine⟨_,rfl,_,rfl,hd (A.push (o := .lst (((VD ((n:Int) - 0).toNat).map λj=>(j,(j+1) % n)).map pairS))).tape (by omega) (by omega) λr S3 r0 r1 T3 O3 L3=>?_⟩;have A3:=(A.push (o := .lst (((VD ((n:Int) - 0).toNat).map λj=>(j,(j+1) % n)).map pairS))).draw T3 O3;refine⟨by show 2<=big;decide,by show 1<=big;decide,?_⟩;have hS:=A.t0;have hon:=A.on.len;have at1:S3[S2.length]?=some (.lst (((VD ((n:Int) - 0).toNat).map λj=>(j,(j+1) % n)).map pairS)):=O3.keep _ _ (by omega) a8;refine⟨_,_,j5 at1,a8,by simp;show _<=100000;omega,?_⟩;have en:((n:Int) - 0).toNat=n:=by omega
  rw[en];have e1:((r.toNat:Nat):Int)=r:=X1 r0;have ea:=Gc ((VD n).map λj=>(j,(j+1) % n)) (0,r.toNat+1);have e2:((r.toNat+1:Nat):Int)=r+1:=by omega
  simp only[e2]at ea;refine q n ((VD n).map (λj=>(j,(j+1) % n))++[(0,r.toNat+1)]) _ _ _ _ _ _ ⟨λe h=>?_,by simp;omega,hn⟩ ⟨A3.tape.push.push,A3.on.push.push,?_,?_,A.t0⟩
  ·rcases VU.mp h with h | h
   ·obtain⟨j,hj,rfl⟩:=VX.mp h;have hj:=VW.mp hj;refine⟨hj,Nat.mod_lt _ (by omega),?_⟩;by_cases hz:j+1<n
    ·show j≠(j+1) % n;rw[Nat.mod_eq_of_lt hz];omega
    ·have:j+1=n:=by omega
     show j≠(j+1) % n;rw[this,Nat.mod_self];omega
   ·rw[VQ.mp h];exact⟨by show 0<n;omega,by show r.toNat+1<n;omega,by show 0≠r.toNat+1;omega⟩
  ·rw[<-ea];exact a8
  ·rw[V8];have:=A3.on.len;omega
theorem V1(hΔ:∀ f,MonoN (Δ f)){t l n:Nat}{S0 S:Sto}{D:EndsS}{g:SV}{o5 o6 o7 o8:Option SV}(A:Ah t S0 S l [])(hn:n<=12)(q:PQ t g 4 S0 D):
 wSt Δ (q6 kd) D [some (.loc t),some g,some (.int 4),some (.int n),some (.loc l),o5,o6,o7,o8] S:=by
 have stay:=q n [] l S o5 o6 o7 o8 (FJ hn) A;refine⟨_,rfl,_,rfl,ifT rfl ?_⟩;refine⟨_,rfl,_,rfl,ifD (λh2=>?_) (λh2=>stay)⟩;have h2:1<n:=by omega
 refine⟨_,rfl,1,n,rfl,rfl,⟨by decide,by decide,by omega,by omega⟩,?_⟩;refine i4 (j7 hΔ _).2 (a5 hΔ _).1 (λi ys S2=>S2=S/\ys=((VD i).map λj=>(0,j+1)).map pairS) ⟨rfl,rfl⟩ (λ_ _ _ _=>trivial) ?_ ?_
 ·rintro i x ys S2 hx ⟨rfl,rfl⟩;obtain⟨rfl,hi⟩:=p0 hx;refine⟨_,rfl,by show 2<=big;decide,by simp;show i<100000;omega,rfl,?_⟩;rw[WB,VM,VM];simp[pairS,Int.add_comm]
 ·rintro ys S2 ⟨rfl,rfl⟩;rw[m4];refine q n _ _ _ _ _ _ _ ⟨λe h=>?_,by simp;omega,hn⟩ ⟨A.tape.push,A.on.push,a8,A.on.len,A.t0⟩;obtain⟨j,hj,rfl⟩:=VX.mp h;have hj:=VW.mp hj;exact⟨by show 0<n;omega,by show j+1<n;omega,by show 0≠j+1;omega⟩
theorem Ah.ext{t l j:Nat}{S0 S:Sto}{es fs:EE}(h:Ah t S0 S l es)(hj:S[j]?=some (.lst (fs.map pairS))):Ah t S0 (S.set l (.lst (es.map pairS++fs.map pairS))) l (es++fs):=by
 rw[<-VM];exact h.put
theorem V2(hΔ:∀ f,MonoN (Δ f)){t l n:Nat}{b:Bool}{S0 S:Sto}{D:EndsS}{o5 o6 o7 o8:Option SV}(A:Ah t S0 S l [])(hn:n<=12)(q:PQ t (.bl b) 5 S0 D):
 wSt Δ (q7 kd) D [some (.loc t),some (.bl b),some (.int 5),some (.int n),some (.loc l),o5,o6,o7,o8] S:=by
 refine⟨_,rfl,_,rfl,ifT rfl ?_⟩
 obtain⟨m,em,hm⟩:∃ m:Nat,(if (5+(if b=true then (1:Int) else 0))<n then (5+(if b=true then (1:Int) else 0)) else (n:Int))=m/\m<=6:=by
  cases b
  ·by_cases h:(5:Int)<n
   ·exact⟨5,by simp[h],by omega⟩
   ·exact⟨n,by simp[h],by omega⟩
  ·by_cases h:(6:Int)<n
   ·exact⟨6,by simp[h],by omega⟩
   ·exact⟨n,by simp[h],by omega⟩
 suffices key:∀ z:Int,z=m->wSs Δ [q7l kd] D [some (.loc t),some (.bl b),some (.int 5),some (.int z),some (.loc l),o5,o6,o7,o8] S from ⟨_,rfl,_,rfl,key _ em⟩
 rintro _ rfl;refine⟨_,rfl,m,rfl,⟨by omega,by omega⟩,?_⟩
 refine v9 (i7 hΔ _) (λi ρ S2=>∃(es:EE) (o7:Option SV),ρ=[some (.loc t),some (.bl b),some (.int 5),some (.int m),some (.loc l),o5,o6,o7,o8]/\Ah t S0 S2 l es/\(∀ e∈es,e.1<e.2/\e.2<i)/\es.length<=i * 6)
  ⟨[],o7,rfl,A,(λ_ h=>nomatch h),by simp⟩ (λ_ _ _ _=>trivial) ?_ ?_
 ·rintro i x ρ S2 hx ⟨es,p7,rfl,A2,he,hl⟩;obtain⟨rfl,hi⟩:=p0 hx;refine⟨_,rfl,⟨l,_,rfl,A2.at'⟩,_,rfl,0+(i:Int),rfl,⟨by omega,by omega⟩,?_⟩;refine i4 (j7 hΔ _).2 (a5 hΔ _).1 (λj ys S3=>S3=S2/\ys=((VD j).map λj=>(j,i)).map pairS) ⟨rfl,rfl⟩ (λ_ _ _ _=>trivial) ?_ ?_
  ·rintro j x ys S3 hx ⟨rfl,rfl⟩;obtain⟨rfl,hj⟩:=p0 hx;refine⟨_,rfl,_,rfl,by show 2<=big;decide,by simp;show j<100000;omega,rfl,?_⟩;rw[WB,VM,VM];simp[pairS]
  ·rintro ys S3 ⟨rfl,rfl⟩;rw[m4];have en:(0+(i:Int) - 0).toNat=i:=by omega
   rw[en];have A3:=A2.push (o := .lst (((VD i).map λj=>(j,i)).map pairS));refine⟨_,_,A3.at',a8,by simp;show _<=100000;omega,?_⟩;refine⟨es++(VD i).map (λj=>(j,i)),_,rfl,A3.ext (j:=S3.length) a8,λe h=>?_,by simp;omega⟩;rcases VU.mp h with h | h
   ·have:=he e h;omega
   ·obtain⟨j,hj,rfl⟩:=VX.mp h;have hj:=VW.mp hj;exact⟨hj,by show i<i+1;omega⟩
 ·rintro ρ S2 ⟨es,p7,rfl,A2,he,hl⟩;rw[m4]at he hl;refine q m es l S2 _ _ _ _ ⟨λe h=>?_,by omega,by omega⟩ A2;have:=he e h;omega
theorem V3(hΔ:∀ f,MonoN (Δ f))(hd:AC (Δ kd)){t l n:Nat}{S0 S:Sto}{D:EndsS}{g:SV}{o5 o6 o7 o8:Option SV}(A:Ah t S0 S l [])(hn:n<=12)(q:PQ t g 6 S0 D):
 wSt Δ (q8 kd) D [some (.loc t),some g,some (.int 6),some (.int n),some (.loc l),o5,o6,o7,o8] S:=by
 refine⟨_,rfl,_,rfl,ifT rfl ?_⟩;obtain⟨s,es',hs⟩:∃ s:Nat,1+(n:Int) / 2=s/\s=1+n / 2:=⟨1+n / 2,by omega,rfl⟩
 suffices key:∀ z:Int,z=s->wSs Δ [q8l kd] D [some (.loc t),some g,some (.int 6),some (.int n),some (.loc l),o5,o6,o7,some (.int z)] S from ⟨_,rfl,⟨by decide,by decide⟩,key _ es'⟩
 rintro _ rfl;refine⟨_,rfl,s,rfl,⟨by omega,by omega⟩,?_⟩
 refine v9 (i7 hΔ _) (λi ρ S2=>∃(es:EE) (o7:Option SV),ρ=[some (.loc t),some g,some (.int 6),some (.int n),some (.loc l),o5,o6,o7,some (.int s)]/\Ah t S0 S2 l es/\(∀ e∈es,e.1<i/\s<=e.2/\e.2<n)/\es.length<=i * (n - s))
  ⟨[],o7,rfl,A,(λ_ h=>nomatch h),by simp⟩ (λ_ _ _ _=>trivial) ?_ ?_
 ·rintro i x ρ S2 hx ⟨es,p7,rfl,A2,he,hl⟩;obtain⟨rfl,hi⟩:=p0 hx;refine⟨_,rfl,⟨l,_,rfl,A2.at'⟩,_,rfl,_,rfl,s,n,rfl,rfl,⟨by omega,by omega,by omega,by omega⟩,?_⟩;refine i4 (j7 hΔ _).2 (a5 hΔ _).1 (λj ys S3=>Ah t S0 S3 l es/\∃ fs:EE,ys=fs.map pairS/\(∀ e∈fs,e.1=i/\s<=e.2/\e.2<n)/\fs.length<=j) ⟨A2,[],rfl,(λ_ h=>nomatch h),VF _⟩ (λ_ _ _ _=>trivial) ?_ ?_
  ·rintro j x ys S3 hx ⟨A3,fs,rfl,hf,fl⟩;obtain⟨rfl,hj⟩:=p0 hx;refine⟨_,rfl,hd A3.tape (by decide) (by decide) λr S4 r0 r1 T4 O4 _=>⟨_,rfl,?_⟩⟩;have A4:=A3.draw T4 O4;refine ifD (λ_=>?_) (λ_=>⟨A4,fs,rfl,hf,by omega⟩);refine⟨_,rfl,_,rfl,by show 2<=big;decide,by rw[V7];show _<100000;omega,A4,fs++[(i,s+j)],?_,λe h=>?_,by simp;omega⟩
   ·rw[VM];simp[pairS]
   ·rcases VU.mp h with h | h
    ·exact hf e h
    ·rw[VQ.mp h];exact⟨rfl,by show s<=s+j;omega,by show s+j<n;omega⟩
  ·rintro ys S3 ⟨A3,fs,rfl,hf,fl⟩;rw[m4]at fl;have A4:=A3.push (o := .lst (fs.map pairS));have hx6:i * (n - s)<=6 * 12:=Xv (by omega) (by omega);refine⟨_,_,A4.at',a8,by simp;show _<=100000;omega,?_⟩;refine⟨es++fs,_,rfl,A4.ext (j:=S3.length) a8,λe h=>?_,?_⟩
   ·rcases VU.mp h with h | h
    ·have:=he e h;exact⟨by omega,this.2⟩
    ·have:=hf e h;exact⟨by omega,this.2⟩
   ·rw[V8,X5];omega
 ·rintro ρ S2 ⟨es,p7,rfl,A2,he,hl⟩;rw[m4]at he hl;have e0:((s:Int) - 0).toNat=s:=by omega
  rw[e0]at he hl;have h35:s * (n - s)<=7 * 5:=Xv (by omega) (by omega);refine q n es l S2 _ _ _ _ ⟨λe h=>?_,by omega,hn⟩ A2;have:=he e h;omega
theorem V4(hΔ:∀ f,MonoN (Δ f))(hd:AC (Δ kd)){t l n:Nat}{S0 S:Sto}{D:EndsS}{g:SV}{o5 o6 o7 o8:Option SV}(A:Ah t S0 S l [])(hn:n<=12)(q:PQ t g 7 S0 D):
 wSt Δ (q9 kd) D [some (.loc t),some g,some (.int 7),some (.int n),some (.loc l),o5,o6,o7,o8] S:=by
 refine⟨_,rfl,_,rfl,ifT rfl ?_⟩;obtain⟨m,em,hm⟩:∃ m:Nat,3+(n:Int) / 3=m/\m=3+n / 3:=⟨3+n / 3,by omega,rfl⟩
 suffices key:∀ z:Int,z=m->wSs Δ [q9l kd] D [some (.loc t),some g,some (.int 7),some (.int z),some (.loc l),o5,o6,o7,o8] S from ⟨_,rfl,⟨by decide,by decide⟩,key _ em⟩
 rintro _ rfl;refine⟨3,rfl,⟨by decide,by decide⟩,?_⟩
 refine v9 (i7 hΔ _) (λi ρ S2=>∃(es:EE) (o7:Option SV),ρ=[some (.loc t),some g,some (.int 7),some (.int m),some (.loc l),o5,o6,o7,o8]/\Ah t S0 S2 l es/\(∀ e∈es,e.1<3/\e.2<3/\e.1≠e.2)/\es.length<=i * 3)
  ⟨[],o7,rfl,A,(λ_ h=>nomatch h),by simp⟩ (λ_ _ _ _=>trivial) ?_ ?_
 ·rintro i x ρ S2 hx ⟨es,p7,rfl,A2,he,hl⟩;obtain⟨rfl,hi⟩:=p0 hx;refine⟨_,rfl,⟨l,_,rfl,A2.at'⟩,_,rfl,_,rfl,show(0:Int)<3 by decide,by show 2<=big;decide,by show 1<=big;decide,?_⟩;have A3:=A2.push (o := .lst [.tup [.int (0+(i:Int)),.int ((0+(i:Int)+1) % 3)]]);refine⟨_,rfl,hd A3.tape (by decide) (by decide) λr S4 r0 r1 T4 O4 L4=>?_⟩;have A4:=A3.draw T4 O4;have ht:=A2.t0;have hlen:=A2.on.len;have at1:S4[S2.length]?=some (.lst [.tup [.int (0+(i:Int)),.int ((0+(i:Int)+1) % 3)]]):=O4.keep _ _ (by omega) a8;refine⟨_,at1,⟨by omega,by omega⟩,by simp;show _<=100000;omega,?_⟩
  have e1:(VL (1+r).toNat [SV.tup [.int (0+(i:Int)),.int ((0+(i:Int)+1) % 3)]]).flatten=(VL (1+r).toNat (i,(i+1) % 3)).map pairS:=by
   induction (1+r).toNat with
   | zero=>rfl
   | succ k ih=>rw[Vj,WM,ih,Vj];simp[pairS]
  rw[e1];have A5:=A4.push (o := .lst ((VL (1+r).toNat (i,(i+1) % 3)).map pairS));refine⟨_,_,A5.at',a8,by simp;show _<=100000;omega,?_⟩;refine⟨es++VL (1+r).toNat (i,(i+1) % 3),_,rfl,A5.ext (j:=S4.length) a8,λe h=>?_,by simp;omega⟩;rcases VU.mp h with h | h
  ·exact he e h
  ·rw[List.eq_of_mem_replicate h];exact⟨by show i<3;omega,by show(i+1) % 3<3;omega,by show i≠(i+1) % 3;omega⟩
 ·rintro ρ S2 ⟨es,p7,rfl,A2,he,hl⟩;rw[m4]at hl;refine q m es l S2 _ _ _ _ ⟨λe h=>?_,by omega,by omega⟩ A2;have:=he e h;omega
theorem Ub{t l:Nat}{way n:Int}{S:Sto}{D:EndsS}{g:SV}{o5 o6 o7 o8:Option SV}(h:¬ way<3)(q:D.nx [some (.loc t),some g,some (.int way),some (.int n),some (.loc l),o5,o6,o7,o8] S):wSt Δ (q4 kd) D [some (.loc t),some g,some (.int way),some (.int n),some (.loc l),o5,o6,o7,o8] S:=⟨_,rfl,_,rfl,ifD (λz=>absurd z h) (λ_=>ifF rfl q)⟩
theorem Ge{t l:Nat}{way n:Int}{S:Sto}{D:EndsS}{g:SV}{o5 o6 o7 o8:Option SV}(h:¬ way=3)(q:D.nx [some (.loc t),some g,some (.int way),some (.int n),some (.loc l),o5,o6,o7,o8] S):wSt Δ (q5 kd) D [some (.loc t),some g,some (.int way),some (.int n),some (.loc l),o5,o6,o7,o8] S:=⟨_,rfl,_,rfl,ifD (λz=>absurd z h) (λ_=>ifF rfl q)⟩
theorem Gf{t l:Nat}{way n:Int}{S:Sto}{D:EndsS}{g:SV}{o5 o6 o7 o8:Option SV}(h:¬ way=4)(q:D.nx [some (.loc t),some g,some (.int way),some (.int n),some (.loc l),o5,o6,o7,o8] S):wSt Δ (q6 kd) D [some (.loc t),some g,some (.int way),some (.int n),some (.loc l),o5,o6,o7,o8] S:=⟨_,rfl,_,rfl,ifD (λz=>absurd z h) (λ_=>ifF rfl q)⟩
theorem Gg{t l:Nat}{way n:Int}{S:Sto}{D:EndsS}{g:SV}{o5 o6 o7 o8:Option SV}(h:¬ way=5)(q:D.nx [some (.loc t),some g,some (.int way),some (.int n),some (.loc l),o5,o6,o7,o8] S):wSt Δ (q7 kd) D [some (.loc t),some g,some (.int way),some (.int n),some (.loc l),o5,o6,o7,o8] S:=⟨_,rfl,_,rfl,ifD (λz=>absurd z h) (λ_=>q)⟩
theorem Gh{t l:Nat}{way n:Int}{S:Sto}{D:EndsS}{g:SV}{o5 o6 o7 o8:Option SV}(h:¬ way=6)(q:D.nx [some (.loc t),some g,some (.int way),some (.int n),some (.loc l),o5,o6,o7,o8] S):wSt Δ (q8 kd) D [some (.loc t),some g,some (.int way),some (.int n),some (.loc l),o5,o6,o7,o8] S:=⟨_,rfl,_,rfl,ifD (λz=>absurd z h) (λ_=>q)⟩
theorem Gi{t l:Nat}{way n:Int}{S:Sto}{D:EndsS}{g:SV}{o5 o6 o7 o8:Option SV}(h:¬ way=7)(q:D.nx [some (.loc t),some g,some (.int way),some (.int n),some (.loc l),o5,o6,o7,o8] S):wSt Δ (q9 kd) D [some (.loc t),some g,some (.int way),some (.int n),some (.loc l),o5,o6,o7,o8] S:=⟨_,rfl,_,rfl,ifD (λz=>absurd z h) (λ_=>q)⟩
theorem Pm(hΔ:∀ f,MonoN (Δ f))(hd:AC (Δ kd)){t l n:Nat}{b:Bool}{w:Int}{S0 S:Sto}{Q:QE}(w0:0<=w)(w1:w<8)(A:Ah t S0 S l [])(hn:n<=12)
 (q:∀(n:Nat) (es:EE) (l:Nat) (S':Sto),Prs n es->Ah t S0 S' l es->Q (.tup [.int n,.loc l]) S'):
 wSs Δ [q4 kd,q5 kd,q6 kd,q7 kd,q8 kd,q9 kd,q10 kd] (A6 Q) [some (.loc t),some (.bl b),some (.int w),some (.int n),some (.loc l),none,none,none,none] S:=by
 have fin:∀(n:Nat) (es:EE) (l:Nat) (S':Sto) (o5 o6 o7 o8:Option SV),Prs n es->Ah t S0 S' l es->wSs Δ [q10 kd] (A6 Q) [some (.loc t),some (.bl b),some (.int w),some (.int n),some (.loc l),o5,o6,o7,o8] S':=λn es l S' o5 o6 o7 o8 P A'=>⟨_,rfl,_,rfl,by show 2<=big;decide,q n es l S' P A'⟩
 have nil:=FJ hn;by_cases h:w<3
 ·exact Uz hΔ hd A hn λes S' o5 o6 P A'=>Ge (by omega) (Gf (kd:=kd) (by omega) (Gg (kd:=kd) (by omega) (Gh (by omega) (Gi (by omega) (fin n es l S' _ _ _ _ P A')))))
 refine Ub h ?_;have:w=3\/w=4\/w=5\/w=6\/w=7:=by omega
 rcases this with rfl | rfl | rfl | rfl | rfl
 ·exact V0 hΔ hd A hn λn es l S' o5 o6 o7 o8 P A'=>Gf (kd:=kd) (by omega) (Gg (kd:=kd) (by omega) (Gh (by omega) (Gi (by omega) (fin n es l S' _ _ _ _ P A'))))
 ·exact Ge (by omega) (V1 (kd:=kd) hΔ A hn λn es l S' o5 o6 o7 o8 P A'=>Gg (kd:=kd) (by omega) (Gh (by omega) (Gi (by omega) (fin n es l S' _ _ _ _ P A'))))
 ·exact Ge (by omega) (Gf (kd:=kd) (by omega) (V2 (kd:=kd) hΔ A hn λn es l S' o5 o6 o7 o8 P A'=>Gh (by omega) (Gi (by omega) (fin n es l S' _ _ _ _ P A'))))
 ·exact Ge (by omega) (Gf (kd:=kd) (by omega) (Gg (kd:=kd) (by omega) (V3 hΔ hd A hn λn es l S' o5 o6 o7 o8 P A'=>Gi (by omega) (fin n es l S' _ _ _ _ P A'))))
 ·exact Ge (by omega) (Gf (kd:=kd) (by omega) (Gg (kd:=kd) (by omega) (Gh (by omega) (V4 hΔ hd A hn λn es l S' o5 o6 o7 o8 P A'=>fin n es l S' _ _ _ _ P A'))))
theorem NH(hΔ:∀ f,MonoN (Δ f))(hd:AC (Δ kd)){D:Df}(hb:D.body=NG kd)(hN:D.N.length=9)(hp:D.ps.length=2):FI (f6 Δ D):=by
 intro t g S Q T q;unfold f6;rw[hb,hN];refine⟨hp.symm,?_⟩;have t0:=T.lt;refine⟨_,rfl,hd T (by decide) (by decide) λw S1 w0 w1 T1 O1 _=>?_⟩;refine⟨_,rfl,hd T1 (by decide) (by decide) λr1 S2 a0 a1 T2 O2 _=>⟨_,rfl,hd T2 (by decide) (by decide) λr2 S3 b0 b1 T3 O3 _=>⟨by show 2<=big;decide,_,rfl,_,(if g=true then .int (7+r2) else .int r1),a7 a8,?_⟩⟩⟩;have O:=((O1.trans O2).trans O3).push (o := .lst [.int r1,.int (7+r2)])
 have key:∀(z:Int) (n:Nat),z=n->n<=12->wSs Δ [q3 kd,q4 kd,q5 kd,q6 kd,q7 kd,q8 kd,q9 kd,q10 kd] (A6 Q) [some (.loc t),some (.bl g),some (.int w),some (.int z),none,none,none,none,none] (S3++[SO.lst [.int r1,.int (7+r2)]]):=by
  rintro _ n rfl hn;refine⟨by show 0<=big;decide,?_⟩;have A:Ah t S ((S3++[SO.lst [.int r1,.int (7+r2)]])++[SO.lst []]) (S3++[SO.lst [.int r1,.int (7+r2)]]).length []:=⟨T3.push.push,O.push,a8,O.len,t0⟩
  have r:=Pm (b:=g) hΔ hd w0 w1 A hn (Q:=Q) λn es l S' P A=>q n es l S' P A.at' A.new A.tape A.on;exact r
 cases g with
 | false=>exact⟨rfl,key r1 r1.toNat (by omega) (by omega)⟩
 | true=>exact⟨rfl,key (7+r2) (7+r2).toNat (by omega) (by omega)⟩
end
def u1(kd kp:Nat):Stm:=(.asg (.tup (.cons (.nm 2) (.cons (.nm 3) .nil))) (.call kp (.cons (.var 0) (.cons (.var 1) .nil))))
def u2(kd kp:Nat):Stm:=(.iff (.cmp .Eq (.var 3) (.lst .nil)) [(.asg (.tup (.cons (.nm 2) (.cons (.nm 3) .nil))) (.call kp (.cons (.var 0) (.cons (.var 1) .nil))))] [])
def u3(kd kp:Nat):Stm:=(.iff (.and (.cmp .NotEq (.var 3) (.lst .nil)) (.cmp .Eq (.call kd (.cons (.var 0) (.cons (.c (.int 4)) .nil))) (.c (.int 0)))) [(.asg (.nm 3) (.op .Add (.var 3) (.comp ["_law_turn"] ["_law_pairs","_law_tape_here"] [3,0] (.nm 0) (.rng1 (.op .Add (.c (.int 1)) (.call kd (.cons (.var 0) (.cons (.c (.int 3)) .nil))))) .no (.ix (.var 1) (.call kd (.cons (.var 2) (.cons (.bi .len (.cons (.var 1) .nil)) .nil)))))))] [])
def u4(kd kp:Nat):Stm:=(.asg (.nm 4) (.lst .nil))
def u5(kd kp:Nat):Stm:=(.loop (.tup (.cons (.nm 5) (.cons (.nm 6) .nil))) (.seq (.var 3)) [(.expr (.mt .insert (.var 4) (.cons (.call kd (.cons (.var 0) (.cons (.op .Add (.bi .len (.cons (.var 4) .nil)) (.c (.int 1))) .nil))) (.cons (.tup (.cons (.bi .min (.cons (.var 5) (.cons (.var 6) .nil))) (.cons (.bi .max (.cons (.var 5) (.cons (.var 6) .nil))) .nil))) .nil))))])
def u6(kd kp:Nat):Stm:=(.ret (.tup (.cons (.var 2) (.cons (.bi .tuple (.cons (.var 4) .nil)) .nil))))
def Uc(kd kp:Nat):List Stm:=[u1 kd kp,u2 kd kp,u3 kd kp,u4 kd kp,u5 kd kp,u6 kd kp]
def g9(n:Nat)(es:EE):SV := .tup [.int n,.tup (es.map pairS)]
structure Web(n:Nat)(es:EE):Prop where
 en:∀ e∈es,e.1<e.2/\e.2<n
 len:es.length<=39
 few:n<=12
def Qf(s:Sn):Prop:=∀{t:Nat} {g:Bool} {S:Sto} {Q:QE},TapeS S t->(∀(n:Nat) (es:EE) (S':Sto),Web n es->TapeS S' t->On t S S'->Q (g9 n es) S')->s [.loc t,.bl g] S Q
theorem Gj{xs:List SV}:Fq xs []=xs.isEmpty:=by cases xs<;>rfl
section
variable{Δ:Nat->Sn}{kd kp:Nat}
theorem Dd(hΔ:∀ f,MonoN (Δ f))(hd:AC (Δ kd)){t n l:Nat}{g:SV}{S0 S:Sto}{es:EE}{Q:QE}{o4 o5 o6:Option SV}(he:∀ e∈es,e.1<n/\e.2<n/\e.1≠e.2)(hl:es.length<=39)(hn:n<=12)(A:Ah t S0 S l es)
 (q:∀(es:EE) (S':Sto),Web n es->TapeS S' t->On t S0 S'->Q (g9 n es) S'):wSs Δ [u4 kd kp,u5 kd kp,u6 kd kp] (A6 Q) [some (.loc t),some g,some (.int n),some (.loc l),o4,o5,o6] S:=by
 refine⟨by show 0<=big;decide,?_⟩;have hlt:=JX A.at';have htl:=A.tape.lt;refine⟨_,rfl,_,a7 A.push.at',?_⟩
 refine v9 (i7 hΔ _) (λi ρ S2=>∃(fs:EE) (o5 o6:Option SV),ρ=[some (.loc t),some g,some (.int n),some (.loc l),some (.loc S.length),o5,o6]/\Ah t S0 S2 S.length fs/\S2[l]?=some (.lst (es.map pairS))/\(∀ e∈fs,e.1<e.2/\e.2<n)/\fs.length=i)
  ⟨[],o5,o6,rfl,⟨A.tape.push,A.on.push,a8,A.on.len,A.t0⟩,A.push.at',(λ_ h=>nomatch h),rfl⟩ (λi ρ S2 h=>?_) ?_ ?_
 ·obtain⟨fs,_,_,_,_,h2,_⟩:=h;exact h2.trans A.push.at'.symm
 ·rintro i x ρ S2 hx ⟨fs,p5,p6,rfl,A2,h2,hf,fl⟩;rw[VG]at hx;cases hei:es[i]? with
  | none=>rw[hei]at hx;cases hx
  | some e=>
    rw[hei]at hx;have hx:pairS e=x:=oj hx;subst hx;have hil:=(gM hei).1;have hee:=he e (V9 hei);refine⟨_,rfl,⟨_,_,rfl,A2.at'⟩,_,rfl,_,rfl,_,a7 A2.at',hd A2.tape (by omega) (by rw[V7];omega) λr S3 r0 r1 T3 O3 _=>?_⟩;have A3:=A2.draw T3 O3;rw[V7]at r1;refine⟨_,rfl,_,rfl,_,rfl,_,rfl,by show 2<=big;decide,?_⟩;refine⟨_,A3.at',⟨r0,by rw[V7];omega⟩,by rw[V7];show _<100000;omega,?_⟩
    have key:∀(a b:Nat) (z1 z2:Int),z1=a->z2=b->a<b->b<n->∃(fs':EE) (o5 o6:Option SV),([some (.loc t),some g,some (.int n),some (.loc l),some (.loc S.length),some (.int e.1),some (.int e.2)]:EnvS)=[some (.loc t),some g,some (.int n),some (.loc l),some (.loc S.length),o5,o6]/\Ah t S0 (S3.set S.length (.lst ((fs.map pairS).take r.toNat ++ .tup [.int z1,.int z2]::(fs.map pairS).drop r.toNat))) S.length fs'/\(S3.set S.length (.lst ((fs.map pairS).take r.toNat ++ .tup [.int z1,.int z2]::(fs.map pairS).drop r.toNat)))[l]?=some (.lst (es.map pairS))/\(∀ e∈fs',e.1<e.2/\e.2<n)/\fs'.length=i+1:=by
     rintro a b _ _ rfl rfl hab hbn
     have e1:(fs.map pairS).take r.toNat++SV.tup [.int a,.int b]::(fs.map pairS).drop r.toNat=(fs.take r.toNat++(a,b)::fs.drop r.toNat).map pairS:=by
      rw[VM,Vh,YX,YY];rfl
     rw[e1];refine⟨_,_,_,rfl,A3.put,?_,λe' h=>?_,?_⟩
     ·rw[A7 (by omega)];exact O3.keep _ _ A.ne h2
     ·rcases VU.mp h with h | h
      ·exact hf e' (List.mem_of_mem_take h)
      ·rcases VT.mp h with h | h
       ·rw[h];exact⟨hab,hbn⟩
       ·exact hf e' (List.mem_of_mem_drop h)
     ·rw[V8,VY,Vy,Wn];omega
    by_cases hc:e.1<e.2
    ·exact key e.1 e.2 _ _ (by rw[iG (by omega)]) (by rw[iP (by omega)]) hc hee.2.1
    ·exact key e.2 e.1 _ _ (by rw[iP (by omega)]) (by rw[iG (by omega)]) (by omega) hee.1
 ·rintro ρ S2 ⟨fs,p5,p6,rfl,A2,h2,hf,fl⟩;rw[V7]at fl;exact⟨_,rfl,_,rfl,_,a7 A2.at',by show 2<=big;decide,q fs S2 ⟨hf,by omega,hn⟩ A2.tape A2.on⟩
theorem Gk(hΔ:∀ f,MonoN (Δ f))(hd:AC (Δ kd)){t n l:Nat}{g:SV}{S0 S:Sto}{es:EE}{Q:QE}{o4 o5 o6:Option SV}(P:Prs n es)(A:Ah t S0 S l es)
 (q:∀(es:EE) (S':Sto),Web n es->TapeS S' t->On t S0 S'->Q (g9 n es) S'):wSs Δ [u3 kd kp,u4 kd kp,u5 kd kp,u6 kd kp] (A6 Q) [some (.loc t),some g,some (.int n),some (.loc l),o4,o5,o6] S:=by
 refine⟨_,rfl,by show 0<=big;decide,?_⟩;have A1:=A.push (o:=SO.lst []);refine⟨_,_,A1.at',a8,.inr (.inr rfl),_,rfl,?_⟩;rw[Gj];refine ifB (λh1=>?_) (λh1=>ifF rfl (Dd hΔ hd P.en (by have:=P.len;omega) P.few A1 q))
 have hpos:0<es.length:=by
  cases es with
  | nil=>cases h1
  | cons _ _=>simp
 refine⟨_,rfl,hd A1.tape (by decide) (by decide) λr S2 r0 r1 T2 O2 _=>⟨_,rfl,?_⟩⟩;have A2:=A1.draw T2 O2;refine ifD (λ_=>?_) (λ_=>Dd hΔ hd P.en (by have:=P.len;omega) P.few A2 q);refine⟨_,rfl,_,rfl,hd A2.tape (by decide) (by decide) λr3 S3 a0 a1 T3 O3 _=>⟨_,rfl,⟨by omega,by omega⟩,?_⟩⟩;have A3:=A2.draw T3 O3;refine i4 (j7 hΔ _).2 (a5 hΔ _).1 (λi ys S4=>Ah t S0 S4 l es/\∃ fs:EE,ys=fs.map pairS/\(∀ e∈fs,e∈es)/\fs.length=i) ⟨A3,[],rfl,(λ_ h=>nomatch h),rfl⟩ (λ_ _ _ _=>trivial) ?_ ?_
 ·rintro i x ys S4 hx ⟨A4,fs,rfl,hf,fl⟩;obtain⟨rfl,hi⟩:=p0 hx;refine⟨_,rfl,_,rfl,_,rfl,_,a7 A4.at',hd A4.tape (by rw[V7];omega) (by rw[V7];have:=P.len;omega) λr5 S5 b0 b1 T5 O5 _=>?_⟩;have A5:=A4.draw T5 O5;rw[V7]at b1;have hr:r5.toNat<es.length:=by omega
  refine⟨_,pairS es[r5.toNat],a7 A5.at',?_,by rw[V7];show _<100000;omega,A5,fs++[es[r5.toNat]],?_,λe h=>?_,by simp[fl]⟩
  ·have:=f8 (xs:=es.map pairS) (j:=r5.toNat) (v:=pairS es[r5.toNat]) (by rw[VG,VB hr];rfl)
   rwa [X1 b0]at this
  ·rw[VM];rfl
  ·rcases VU.mp h with h | h
   ·exact hf e h
   ·rw[VQ.mp h];exact W0 hr
 ·rintro ys S4 ⟨A4,fs,rfl,hf,fl⟩;rw[m4]at fl;have A5:=A4.push (o := .lst (fs.map pairS));have hPl:=P.len;refine⟨_,_,A5.at',a8,by simp;show _<=100000;omega,?_⟩;rw[<-VM];refine Dd hΔ hd (es:=es++fs) (λe h=>?_) (by rw[V8];omega) P.few ⟨A5.tape.push,A5.on.push,a8,?_,A.t0⟩ q
  ·rcases VU.mp h with h | h
   ·exact P.en e h
   ·exact P.en e (hf e h)
  ·have:=A5.on.len;exact this
theorem Sd(hΔ:∀ f,MonoN (Δ f))(hd:AC (Δ kd))(hp:FI (Δ kp)){D:Df}(hb:D.body=Uc kd kp)(hN:D.N.length=7)(hps:D.ps.length=2):Qf (f6 Δ D):=by
 intro t g S Q T q;unfold f6;rw[hb,hN];refine⟨hps.symm,?_⟩;have t0:=T.lt;refine⟨_,rfl,_,rfl,hp T λn es l S1 P h1 hl T1 O1=>?_⟩;have A1:Ah t S S1 l es:=⟨T1,O1,h1,hl,t0⟩
 refine⟨_,rfl,by show 0<=big;decide,?_⟩;have A2:=A1.push (o:=SO.lst []);refine⟨_,_,A2.at',a8,.inr (.inr rfl),_,rfl,?_⟩;rw[Gj];refine ifB (λ_=>?_) (λ_=>Gk hΔ hd P A2 λes S' W T' O'=>q n es S' W T' O');refine⟨_,rfl,_,rfl,hp A2.tape λn es l S3 P3 h3 hl3 T3 O3=>?_⟩;exact Gk hΔ hd P3 ⟨T3,A2.on.trans O3,h3,by have:=A2.on.len;omega,t0⟩ λes S' W T' O'=>q n es S' W T' O'
end
def IU:List Stm:=[(.ret (.and (.bi .isi (.cons (.var 0) (.cons (.tyc .int) .nil))) (.not (.bi .isi (.cons (.var 0) (.cons (.tyc .bool) .nil))))))]
def Ee(k:Nat):List Stm:=[(.ret (.and (.call k (.cons (.var 1) .nil)) (.chn .LtE .Lt (.c (.int 0)) (.var 1) (.ix (.var 0) (.c (.int 0))))))]
def JY(k:Nat):List Stm:=[(.ret (.and (.call k (.cons (.var 1) .nil)) (.chn .LtE .Lt (.c (.int 0)) (.var 1) (.bi .len (.cons (.ix (.var 0) (.c (.int 1))) .nil)))))]
def FK(k:Nat):List Stm:=[(.iff (.not (.call k (.cons (.var 0) (.cons (.var 1) .nil)))) [.no] [])]
def JZ(k:Nat):List Stm:=[(.expr (.call k (.cons (.var 0) (.cons (.var 1) .nil)))),(.ret (.comp ["tie","ends"] ["place"] [1] (.tup (.cons (.nm 0) (.cons (.nm 1) .nil))) (.enum (.ix (.var 0) (.c (.int 1)))) (.yes (.cmp .In (.var 2) (.var 1))) (.var 0)))]
def Ja(k:Nat):List Stm:=[(.expr (.call k (.cons (.var 0) (.cons (.var 1) .nil)))),(.asg (.tup (.cons (.nm 3) (.cons (.nm 4) .nil))) (.ix (.ix (.var 0) (.c (.int 1))) (.var 1))),(.iff (.cmp .Eq (.var 2) (.var 3)) [(.ret (.var 4))] []),(.iff (.cmp .Eq (.var 2) (.var 4)) [(.ret (.var 3))] []),.no]
def D4(s:Sn):Prop:=∀{i:Int} {S:Sto} {Q:QE},Q (.bl true) S->s [.int i] S Q
def C1(s:Sn):Prop:=∀{n p:Nat} {es:EE} {S:Sto} {Q:QE},p<n->Q (.bl true) S->s [g9 n es,.int p] S Q
def CG(s:Sn):Prop:=∀{n j:Nat} {es:EE} {S:Sto} {Q:QE},j<es.length->Q (.bl true) S->s [g9 n es,.int j] S Q
def AM(s:Sn):Prop:=∀{n p:Nat} {es:EE} {S:Sto} {Q:QE},p<n->Q .non S->s [g9 n es,.int p] S Q
def B5(s:Sn):Prop:=∀{n j:Nat} {es:EE} {S:Sto} {Q:QE},j<es.length->Q .non S->s [g9 n es,.int j] S Q
def f9(es:EE)(p:Nat)(i:Nat):List Nat:=(VD i).filter λj=>match es[j]? with | some e=>decide (e.1=p)||decide (e.2=p) | none=>false
def c4(xs:List Nat):List SV:=xs.map λ(i:Nat)=>SV.int i
def BX(s:Sn):Prop:=∀{n p:Nat} {es:EE} {S:Sto} {Q:QE},es.length<=5000->p<n->Q (.loc S.length) (S++[.lst (c4 (f9 es p es.length))])->s [g9 n es,.int p] S Q
def w5(e:Nat×Nat)(p:Nat):Nat:=if p=e.1 then e.2 else e.1
def Aw(s:Sn):Prop:=∀{n p j:Nat} {es:EE} {e:Nat×Nat} {S:Sto} {Q:QE},es[j]?=some e->(p=e.1\/p=e.2)->Q (.int (w5 e p)) S->s [g9 n es,.int j,.int p] S Q
section
variable{Δ:Nat->Sn}
theorem NI{D:Df}(hb:D.body=IU)(hN:D.N.length=1)(hp:D.ps.length=1):D4 (f6 Δ D):=by
 intro i S Q q;unfold f6;rw[hb,hN];exact⟨hp.symm,_,rfl,_,nofun,rfl,_,rfl,ifT rfl ⟨_,rfl,_,nofun,rfl,_,rfl,q⟩⟩
theorem Gm{k:Nat}(h0:D4 (Δ k)){D:Df}(hb:D.body=Ee k)(hN:D.N.length=2)(hp:D.ps.length=2):C1 (f6 Δ D):=by
 intro n p es S Q h q;unfold f6;rw[hb,hN];refine⟨hp.symm,_,rfl,h0 ⟨_,rfl,ifT rfl ⟨_,rfl,_,rfl,ifT (decide_eq_true (X2 p)) ⟨_,rfl,_,_,rfl,rfl,?_⟩⟩⟩⟩;show Q (.bl (decide ((p:Int)<n))) S;rw[decide_eq_true (by omega)];exact q
theorem L0{k:Nat}(h0:D4 (Δ k)){D:Df}(hb:D.body=JY k)(hN:D.N.length=2)(hp:D.ps.length=2):CG (f6 Δ D):=by
 intro n p es S Q h q;unfold f6;rw[hb,hN];refine⟨hp.symm,_,rfl,h0 ⟨_,rfl,ifT rfl ⟨_,rfl,_,rfl,ifT (decide_eq_true (X2 p)) ⟨_,rfl,_,_,rfl,rfl,_,rfl,?_⟩⟩⟩⟩;show Q (.bl (decide ((p:Int)<(es.map pairS).length))) S;rw[decide_eq_true (by rw[V7];omega)];exact q
theorem E9{k:Nat}(h0:C1 (Δ k)){D:Df}(hb:D.body=FK k)(hN:D.N.length=2)(hp:D.ps.length=2):AM (f6 Δ D):=by
 intro n p es S Q h q;unfold f6;rw[hb,hN];exact⟨hp.symm,_,rfl,_,rfl,h0 h ⟨_,rfl,ifF rfl q⟩⟩
theorem Gn{k:Nat}(h0:CG (Δ k)){D:Df}(hb:D.body=FK k)(hN:D.N.length=2)(hp:D.ps.length=2):B5 (f6 Δ D):=by
 intro n p es S Q h q;unfold f6;rw[hb,hN];exact⟨hp.symm,_,rfl,_,rfl,h0 h ⟨_,rfl,ifF rfl q⟩⟩
theorem B6{xs:List SV}{i:Nat}{x:SV}(h:(BP xs)[i]?=some x):∃ y,xs[i]?=some y/\x = .tup [.int i,y]:=by
 unfold BP at h;rw[Xs]at h;cases hy:xs[i]? with
 | none=>rw[hy]at h;revert h;cases(VD xs.length)[i]?<;>exact nofun
 | some y=>
   have hi:=(gM hy).1;rw[hy,W1 hi]at h;exact⟨y,rfl,(oj h).symm⟩
theorem B7{xs:List SV}:(BP xs).length=xs.length:=by unfold BP;simp
theorem A8{es:EE}{i:Nat}{x:SV}(h:(es.map pairS)[i]?=some x):∃ e,es[i]?=some e/\x=pairS e:=by
 rw[VG]at h;cases he:es[i]? with
 | none=>rw[he]at h;cases h
 | some e=>rw[he]at h;exact⟨e,rfl,(oj h).symm⟩
theorem Bh(p:Nat)(e:Nat×Nat):inS (.int p) [.int e.1,.int e.2]=(decide (e.1=p)||decide (e.2=p)):=by
 have k:∀ a:Nat,((a:Int) == (p:Int))=decide (a=p):=λa=>by
  rw[Vo];simp[Vg]
 unfold inS;simp only[W8,Yb,YW,eqF,k]
theorem BY(es:EE)(p i:Nat){e:Nat×Nat}(h:es[i]?=some e):f9 es p (i+1)=f9 es p i++if (decide (e.1=p)||decide (e.2=p))=true then [i] else []:=by
 unfold f9;rw[WB,Wr]
 congr 1
 rw[WL,h];rfl
theorem De(es:EE)(p i:Nat):(f9 es p i).length<=i:=by
 have:=Wc (λj=>match es[j]? with | some e=>decide (e.1=p)||decide (e.2=p) | none=>false) (VD i);rw[Vm]at this;exact this
theorem mem_tiesAt{es:EE}{p j:Nat}:j∈f9 es p es.length↔∃ e,es[j]?=some e/\(e.1=p\/e.2=p):=by
 unfold f9;rw[Vs,VW];constructor
 ·rintro⟨h,h2⟩;rw[VB h]at h2;exact⟨_,VB h,by simpa using h2⟩
 ·rintro⟨e,h,h2⟩;refine⟨(gM h).1,?_⟩;rw[h];simpa using h2
theorem L1{k:Nat}(hΔ:∀ f,MonoN (Δ f))(h0:AM (Δ k)){D:Df}(hb:D.body=JZ k)(hN:D.N.length=2)(hp:D.ps.length=2):BX (f6 Δ D):=by
 intro n p es S Q hl h q;unfold f6;rw[hb,hN];refine⟨hp.symm,_,rfl,_,rfl,h0 h ⟨_,rfl,_,_,rfl,rfl,_,rfl,?_⟩⟩;refine i4 (j7 hΔ _).2 (a5 hΔ _).1 (λi ys S'=>S'=S/\ys=c4 (f9 es p i)) ⟨rfl,rfl⟩ (λ_ _ _ _=>trivial) ?_ ?_
 ·rintro i x ys S' hx ⟨rfl,rfl⟩;obtain⟨y,hy,rfl⟩:=B6 hx;obtain⟨e,he,rfl⟩:=A8 hy;have hi:=(gM he).1;have ht:=De es p i;refine⟨_,rfl,_,rfl,rfl,_,rfl,rfl,_,rfl,?_⟩;show if inS (.int p) [.int e.1,.int e.2]=true then _ else _
  rw[Bh];refine ifB (λh=>?_) (λh=>?_)
  ·refine⟨_,rfl,by show(c4 _).length<100000;unfold c4;rw[V7];omega,rfl,?_⟩;rw[BY es p i he,iP h];unfold c4;rw[VM];rfl
  ·refine⟨rfl,?_⟩;rw[BY es p i he,iG (by rw[h];decide),Vt]
 ·rintro ys S' ⟨rfl,rfl⟩;rw[B7,V7];exact q
theorem L5{k:Nat}(h0:B5 (Δ k)){D:Df}(hb:D.body=Ja k)(hN:D.N.length=5)(hp:D.ps.length=3):Aw (f6 Δ D):=by
 intro n p j es e S Q he h q;unfold f6;rw[hb,hN];refine⟨hp.symm,_,rfl,_,rfl,h0 (gM he).1 ⟨_,rfl,_,_,rfl,rfl,_,rfl,_,pairS e,rfl,f8 (by rw[VG,he];rfl),?_⟩⟩;refine⟨_,rfl,_,rfl,_,rfl,?_⟩;refine ifD (λh1=>⟨_,rfl,?_⟩) (λh1=>⟨_,rfl,_,rfl,_,rfl,ifD (λh2=>⟨_,rfl,?_⟩) (λh2=>?_)⟩)
 ·have h1:p=e.1:=Vg.mp h1;unfold w5 at q;rw[iP h1]at q;exact q
 ·have h1:¬ p=e.1:=λz=>h1 (congrArg _ z);unfold w5 at q;rw[iG h1]at q;exact q
 ·rcases h with h | h
  ·exact absurd (congrArg Nat.cast h) h1
  ·exact absurd (congrArg Nat.cast h) h2
end
theorem i6{xs:List Nat}:(c4 xs).length=xs.length:=by unfold c4;rw[V7]
theorem Gp{xs:List Nat}{i x:Nat}(h:xs[i]?=some x):(c4 xs)[i]?=some (.int x):=by unfold c4;rw[VG,h];rfl
theorem u8{xs ys:List Nat}:c4 (xs++ys)=c4 xs++c4 ys:=by unfold c4;rw[VM]
structure Gw(S S':Sto):Prop where
 len:S.length<=S'.length
 keep:∀(k:Nat) (o:SO),S[k]?=some o->S'[k]?=some o
theorem Gw.refl(S:Sto):Gw S S:=⟨VF _,λ_ _ h=>h⟩
theorem Gw.push{S S':Sto}{o:SO}(h:Gw S S'):Gw S (S'++[o]):=⟨by rw[V8];have:=h.len;omega,λk u z=>j5 (h.keep k u z)⟩
theorem Gw.put{S S':Sto}{o:SO}{k:Nat}(h:Gw S S')(hk:S.length<=k):Gw S (S'.set k o):=⟨by rw[Vp];exact h.len,λj u z=>by
 rw[A7 (λe=>by have:=JX z;omega)];exact h.keep j u z⟩
theorem Gw.trans{S S' S'':Sto}(a:Gw S S')(b:Gw S' S''):Gw S S'':=⟨Ve a.len b.len,λk o h=>b.keep k o (a.keep k o h)⟩
theorem Bi(xs:List Nat):(c4 xs).all y0=true:=by
 unfold c4;rw[Xl,Va];exact λ_ _=>rfl
section
variable{Δ:Nat->Sn}
theorem Pn(n:Nat):(VL n true).all id=true:=by simp
end
end Rf
namespace L2
open PySem PySem.Spec PyProof.Rows
structure Sz(k b:Nat)(d:PyData):Prop where
 dp:d.depth<=k
 bk:d.bulk<=b
 sh:d.showable=true
 lf:d.leavesShort 100=true
end L2
namespace Rf
open PySem L2
def AW(es:EE)(t:Nat):Nat×Nat:=es.getD t (0,0)
theorem CH{es:EE}{t:Nat}(h:t<es.length):es[t]?=some (AW es t):=by
 unfold AW;rw[VA,VB h];rfl
section
variable{Δ:Nat->Sn}
theorem c8{D:EndsS}{ρ:EnvS}{S:Sto}(h:D.nx ρ S):wSs Δ [] D ρ S:=h
end
end Rf
namespace Hue
theorem len_split{α:Type}(p q:α->Bool):∀ l:List α,(l.filter p).length=(l.filter λa=>p a&&q a).length+(l.filter λa=>p a&&!q a).length
 | []=>rfl
 | a::l=>by
   have ih:=len_split p q l;rw[WL,WL,WL];cases p a<;>cases q a<;>simp<;>omega
end Hue
namespace Rf
open PySem L2
theorem B8{xs:List Nat}{i:Nat}{x:SV}(h:(c4 xs)[i]?=some x):∃ j,xs[i]?=some j/\x = .int j:=by
 unfold c4 at h;rw[VG]at h;cases hx:xs[i]? with
 | none=>rw[hx]at h;cases h
 | some j=>rw[hx]at h;exact⟨j,rfl,(oj h).symm⟩
theorem FL(p:Nat)(xs:List Nat):inS (.int p) (c4 xs)=decide (p∈xs):=by
 rw[Vo,dQ];unfold inS c4;rw[X6,WV];constructor
 ·rintro⟨a,ha,h⟩;have h:((a:Int) == (p:Int))=true:=h;rw[beq_iff_eq]at h;have:=Vg.mp h;rw[<-this];exact ha
 ·intro h;exact⟨p,h,by show((p:Int) == (p:Int))=true;simp⟩
end Rf
namespace Hue
end Hue
namespace Rf
open PySem L2
theorem CI(P:Nat->Bool)(i:Nat):(VD (i+1)).filter P=(VD i).filter P++if P i=true then [i] else []:=by
 rw[WB,Wr,WL];cases P i<;>rfl
theorem Ai(P:Nat->Bool)(i:Nat):((VD i).filter P).length<=i:=by
 have:=Wc P (VD i)
 rwa [Vm]at this
theorem NJ{α:Type}{xs:List α}{a b:α}{j:Nat}(h:(xs++[a])[j]?=some b):(j=xs.length/\b=a)\/xs[j]?=some b:=by
 rcases Wg j xs.length with z | z
 ·rw[VP z]at h;exact .inr h
 ·have e:j=xs.length:=by
   have:=(gM h).1;rw[V8,Vw]at this;omega
  subst e;rw[Vq (VF _),Nat.sub_self]at h;cases h;exact .inl ⟨rfl,rfl⟩
section
variable{n:Nat}{es:EE}{sd:Nat->Nat}{P0:List (Option Nat)}{starts:List Nat}{cm:Cm}
def p4(es:EE)(p:Nat):Nat:=(f9 es p es.length).length
end
theorem Jb:∀(xs:List Nat),Hr (c4 xs)=some (xs.map λ(i:Nat)=>(i:Int))
 | []=>rfl
 | x::xs=>by
   show(Hr (c4 xs)).map (((x:Nat):Int)::·)=_;rw[Jb xs];rfl
def AX(p:Nat)(e:Nat×Nat):Bool:=decide (e.1=p)||decide (e.2=p)
theorem endB_iff{p:Nat}{e:Nat×Nat}:AX p e=true↔(p=e.1\/p=e.2):=by
 unfold AX;simp only[Vu,dQ];exact⟨λh=>h.imp Eq.symm Eq.symm,λh=>h.imp Eq.symm Eq.symm⟩
theorem Gq(es:EE)(p:Nat):∀ i,i<=es.length->(f9 es p i).length=(es.take i).countP (AX p)
 | 0,_=>by simp[f9]
 | i+1,h=>by
   have he:es[i]?=some es[i]:=VB (by omega);rw[BY es p i he,V8,Gq es p i (by omega),Vl,he,XI];show _+_=_+YJ (AX p) [es[i]];rw[Xf,Xq];unfold AX;by_cases z:(decide (es[i].1=p)||decide (es[i].2=p))=true
   ·rw[iP z,iP z];rfl
   ·rw[iG z,iG z];rfl
theorem NK(es:EE)(p:Nat):p4 es p=es.countP (AX p):=by
 unfold p4;rw[Gq es p _ (VF _),Vi]
def t4(es:EE):Nat->Nat
 | 0=>0
 | n+1=>max (t4 es n) (p4 es n)
theorem CJ(es:EE):∀{n p:Nat},p<n->p4 es p<=t4 es n
 | 0,_,h=>absurd h (Wt _)
 | n+1,p,h=>by
   show _<=max (t4 es n) (p4 es n);by_cases e:p=n
   ·subst e;omega
   ·have:=CJ es (n:=n) (p:=p) (by omega);omega
theorem Dg(es:EE):∀ n:Nat,t4 es n=0\/∃ p,p<n/\t4 es n=p4 es p
 | 0 => .inl rfl
 | n+1=>by
   show max (t4 es n) (p4 es n)=0\/∃ p,p<n+1/\max (t4 es n) (p4 es n)=p4 es p;by_cases h:t4 es n<=p4 es n
   ·right;exact⟨n,by omega,by omega⟩
   ·rcases Dg es n with z | ⟨p,hp,e⟩
    ·left;omega
    ·right;exact⟨p,by omega,by omega⟩
theorem Ef{es:EE}{n:Nat}{m:Int}(h1:∀ p,p<n->((p4 es p:Nat):Int)<=m)(h2:m=0\/∃ p,p<n/\m=(p4 es p:Nat))(h0:0<=m):m=(t4 es n:Nat):=by
 have a:m<=(t4 es n:Nat):=by
  rcases h2 with z | ⟨p,hp,z⟩
  ·omega
  ·have:=CJ es hp;omega
 have b:((t4 es n:Nat):Int)<=m:=by
  rcases Dg es n with z | ⟨p,hp,z⟩
  ·omega
  ·have:=h1 p hp;omega
 omega
def cS(n:Nat)(f:Nat->Nat):List SV:=(VD n).map λp=>SV.int (f p:Nat)
theorem Dh{n p:Nat}{f:Nat->Nat}(h:p<n):(cS n f)[p]?=some (.int (f p:Nat)):=by unfold cS;rw[VG,W1 h];rfl
theorem BZ{n:Nat}{f:Nat->Nat}:(cS n f).length=n:=by unfold cS;rw[V7,Vm]
theorem Jc(n:Nat)(f:Nat->Nat):cS n f=((VD n).map λp=>((f p:Nat):Int)).map SV.int:=by unfold cS;rw[XE];rfl
theorem Qg{n p:Nat}{f:Nat->Nat}(h:p<n):(cS n f).set p (.int ((f p:Nat)+1))=cS n λq=>f q+if q=p then 1 else 0:=by
 apply Wi;intro i;by_cases hi:i<n
 ·rw[Dh hi];by_cases e:i=p
  ·subst e;rw[Vf (by rw[BZ];exact hi),iP rfl];rfl
  ·rw[W3 (Ne.symm e),Dh hi,iG e];rfl
 ·rw[Vr (by rw[Vp,BZ];omega),Vr (by rw[BZ];omega)]
theorem NL:∀ n:Nat,(VL n [SV.int 0]).flatten=cS n λ_=>0:=by
 intro n
 have e:(VL n [SV.int 0]).flatten=VL n (SV.int 0):=by
  induction n with
  | zero=>rfl
  | succ n ih=>rw[Vj,WM,ih];rfl
 rw[e];apply Wi;intro i;rw[WG];by_cases hi:i<n
 ·rw[iP hi,Dh hi];rfl
 ·rw[iG hi,Vr (by rw[BZ];omega)]
def Qh:List Stm:=[(.asg (.nm 1) (.op .Mult (.lst (.cons (.c (.int 0)) .nil)) (.ix (.var 0) (.c (.int 0))))),(.loop (.tup (.cons (.nm 2) (.cons (.nm 3) .nil))) (.seq (.ix (.var 0) (.c (.int 1)))) [(.augS (.var 1) (.var 2) (.c (.int 1))),(.augS (.var 1) (.var 3) (.c (.int 1)))]),(.ret (.maxd (.var 1) (.c (.int 0))))]
def IV(s:Sn):Prop:=∀{n:Nat} {es:EE} {S:Sto} {Q:QE},(∀ e∈es,e.1<e.2/\e.2<n)->n<=1000->(∀ S',Gw S S'->Q (.int (t4 es n:Nat)) S')->s [g9 n es] S Q
theorem NM{n:Nat}{es:EE}{m:Int}(h:Grt ((VD n).map λp=>((p4 es p:Nat):Int)) m):m=(t4 es n:Nat):=by
 obtain⟨h1,h2⟩:=h;obtain⟨p,hp,e⟩:=VX.mp h1;rw[VW]at hp;exact Ef (λq hq=>h2 _ (VX.mpr ⟨q,VW.mpr hq,rfl⟩)) (.inr ⟨p,hp,e.symm⟩) (by rw[<-e];omega)
section
variable{Δ:Nat->Sn}
theorem Po(hΔ:∀ f,MonoN (Δ f)){D:Df}(hb:D.body=Qh)(hN:D.N.length=4)(hp:D.ps.length=1):IV (f6 Δ D):=by
 intro n es S Q hen hn q;unfold f6;rw[hb,hN];refine⟨hp.symm,by show 1<=big;decide,_,rfl,_,_,rfl,rfl,_,a8,⟨by omega,by omega⟩,by show 1 * _<=100000;omega,?_⟩;have er:(VL ((n:Int)).toNat [SV.int 0]).flatten=cS n λ_=>0:=by rw[WX,NL]
 rw[er];have p1:((S++[SO.lst [SV.int 0]])++[SO.lst (cS n λ_=>0)])[(S++[SO.lst [SV.int 0]]).length]?=some (.lst (cS n λ_=>0)):=a8;have G1:Gw S ((S++[SO.lst [SV.int 0]])++[SO.lst (cS n λ_=>0)]):=(Gw.refl S).push.push;have kl:S.length<=(S++[SO.lst [SV.int 0]]).length:=by rw[V8];omega
 generalize (S++[SO.lst [SV.int 0]]).length=k at *;generalize (S++[SO.lst [SV.int 0]])++[SO.lst (cS n λ_=>0)]=S1 at *;refine⟨_,rfl,_,_,rfl,rfl,_,rfl,?_⟩;refine t9 (i7 hΔ _) (λi ρ S2=>∃ o2 o3,ρ=[some (g9 n es),some (.loc k),o2,o3]/\Gw S S2/\S2[k]?=some (.lst (cS n λp=>(es.take i).countP (AX p)))) ⟨none,none,rfl,G1,by rw[p1];simp⟩ (λ_ _ _ _=>trivial) ?_ ?_
 ·rintro i x ρ S2 E hn _ hx ⟨o2,o3,rfl,G2,h2⟩;obtain⟨e,he,rfl⟩:=A8 hx;have hee:=hen e (V9 he);refine⟨_,rfl,_,rfl,k,e.1,_,_,rfl,rfl,h2,Dh (by omega),_,_,rfl,h2,by rw[BZ];omega,?_⟩;rw[Qg (by omega)];have h3:(S2.set k (.lst (cS n λq=>(es.take i).countP (AX q)+if q=e.1 then 1 else 0)))[k]?=some (.lst (cS n λq=>(es.take i).countP (AX q)+if q=e.1 then 1 else 0)):=k9 h2;have G3:Gw S (S2.set k (.lst (cS n λq=>(es.take i).countP (AX q)+if q=e.1 then 1 else 0))):=G2.put kl;generalize S2.set k (.lst (cS n λq=>(es.take i).countP (AX q)+if q=e.1 then 1 else 0))=S3 at *;refine⟨_,rfl,_,rfl,k,e.2,_,_,rfl,rfl,h3,Dh (by omega),_,_,rfl,h3,by rw[BZ];omega,?_⟩;rw[Qg (by omega)];refine hn _ _ ⟨_,_,rfl,G3.put kl,?_⟩;rw[k9 h3]
  congr 3
  funext p
  rw[Vl,he,XI];show _=_+YJ (AX p) [e];rw[Xf,Xq];by_cases z:AX p e=true
  ·rw[iP z];rcases endB_iff.mp z with y | y
   ·rw[iP y,iG (by omega)]
   ·rw[iP y,iG (by omega)]
  ·have z':¬ (p=e.1\/p=e.2):=λy=>z (endB_iff.mpr y);rw[iG z,iG (λy=>z' (.inl y)),iG (λy=>z' (.inr y))]
 ·rintro ρ S2 ⟨o2,o3,rfl,G2,h2⟩;rw[V7,Vi]at h2;have ec:(cS n λp=>es.countP (AX p))=cS n (p4 es):=by congr 1;funext p;exact(NK es p).symm
  rw[ec,Jc]at h2;refine⟨_,rfl,k,_,_,rfl,rfl,h2,λz=>?_,λm g=>?_⟩
  ·have hn0:n=0:=by cases n with
    | zero=>rfl
    | succ n=>simp[WB]at z
   have:=q S2 G2;rw[hn0]at this;exact this
  ·rw[NM g];exact q S2 G2
def Jd:List Stm:=[(.ret (.bi .len (.cons (.comp ["_law_pair"] ["_law_place"] [1] (.nm 0) (.seq (.ix (.var 0) (.c (.int 1)))) (.yes (.cmp .In (.var 1) (.var 0))) (.var 0)) .nil)))]
def Di(s:Sn):Prop:=∀{n p:Nat} {es:EE} {S:Sto} {Q:QE},es.length<=5000->(∀ S',Gw S S'->Q (.int (p4 es p:Nat)) S')->s [g9 n es,.int p] S Q
theorem L6(hΔ:∀ f,MonoN (Δ f)){D:Df}(hb:D.body=Jd)(hN:D.N.length=2)(hp:D.ps.length=2):Di (f6 Δ D):=by
 intro n p es S Q hel q;unfold f6;rw[hb,hN];refine⟨hp.symm,_,rfl,_,_,rfl,rfl,_,rfl,?_⟩;refine i4 (j7 hΔ _).2 (a5 hΔ _).1 (λi ys S'=>S'=S/\ys.length=(es.take i).countP (AX p)) ⟨rfl,by simp⟩ (λ_ _ _ _=>trivial) ?_ ?_
 ·rintro i x ys S' hx ⟨rfl,hy⟩;obtain⟨e,he,rfl⟩:=A8 hx;have hi:=(gM he).1;have hcl:(es.take i).countP (AX p)<=i:=Ve (List.countP_le_length ..) (by rw[Vy];omega)
  have hs:(es.take (i+1)).countP (AX p)=(es.take i).countP (AX p)+if AX p e=true then 1 else 0:=by
   rw[Vl,he,XI];show _+YJ (AX p) [e]=_;rw[Xf,Xq,Nat.zero_add]
  refine⟨_,rfl,_,rfl,rfl,_,rfl,rfl,_,rfl,?_⟩;show if inS (.int p) [.int e.1,.int e.2]=true then _ else _
  rw[Bh];refine ifB (λh=>?_) (λh=>?_)
  ·refine⟨_,rfl,by rw[hy];show _<100000;omega,rfl,?_⟩;rw[V8,hy,hs,iP (show AX p e=true from h)];rfl
  ·refine⟨rfl,?_⟩;rw[hy,hs,iG (show ¬ AX p e=true by unfold AX;rw[h];decide)];rfl
 ·rintro ys S' ⟨rfl,hy⟩;rw[V7,Vi,<-NK]at hy;refine⟨_,a7 a8,?_⟩;rw[hy];exact q _ (Gw.refl _).push
theorem L8{n:Nat}{es:EE}{m:Int}(h:Grt (0::(VD n).map λp=>((p4 es p:Nat):Int)) m):m=(t4 es n:Nat):=by
 obtain⟨h1,h2⟩:=h;have h0:=h2 0 (VN ..);refine Ef (λq hq=>h2 _ (VI _ (VX.mpr ⟨q,VW.mpr hq,rfl⟩))) ?_ h0;rcases VT.mp h1 with z | z
 ·exact .inl z
 ·obtain⟨p,hp,e⟩:=VX.mp z;exact .inr ⟨p,VW.mp hp,e.symm⟩
def Je(s:Sn):Prop:=∀{n:Nat} {es:EE} {S:Sto} {Q:QE},es.length<=5000->n<=1000->(∀ S',Gw S S'->Q (.int (t4 es n:Nat)) S')->s [g9 n es] S Q
theorem Ud{t:Nat}{S S':Sto}(G:Gw S S'):On t S S':=⟨G.len,λk o _ h=>G.keep k o h⟩
end
def hu(cs:List Nat)(t:Nat):Nat:=cs.getD t 0
def AtP(es:EE)(t y:Nat):Prop:=∃ e,es[t]?=some e/\(e.1=y\/e.2=y)
theorem AtP.lt{es:EE}{t y:Nat}(h:AtP es t y):t<es.length:=let ⟨_,e,_⟩:=h;(gM e).1
structure Prp(es:EE)(cs:List Nat):Prop where
 len:cs.length=es.length
 one:∀ t u y,AtP es t y->AtP es u y->hu cs t=hu cs u->t=u
structure RwI(es:EE)(cs:List Nat)(a b p:Nat)(r:List Nat)(x one other:Nat):Prop where
 nd:r.Nodup
 lt:∀ t∈r,t<es.length
 alt:∀ i t:Nat,r[i]?=some t->hu cs t=if i % 2=0 then a else b
 d1:one=if r.length % 2=0 then a else b
 d2:other=if r.length % 2=0 then b else a
 fin:∀ t∈r,∀ y,AtP es t y->y≠x->∀ u,AtP es u y->(hu cs u=a\/hu cs u=b)->u∈r
 oth:∀ u,AtP es u x->hu cs u=other->u∈r
 non:∀ u∈r,AtP es u x->hu cs u≠one
 lst:∀ t,r.getLast?=some t->AtP es t x
 beg:r=[]->x=p
 fst:∀ t,r[0]?=some t->AtP es t p
 all:∀ T:Nat->Prop,(∀ t u y,T t->AtP es t y->AtP es u y->(hu cs u=a\/hu cs u=b)->T u)->(∀ t,r[0]?=some t->T t)->∀ t∈r,T t
def Clo(es:EE)(cs:List Nat)(a b:Nat)(r:List Nat):Prop:=∀ t∈r,∀ y,AtP es t y->∀ u,AtP es u y->(hu cs u=a\/hu cs u=b)->u∈r
section
variable{es:EE}{cs:List Nat}{a b p x one other:Nat}{r:List Nat}
theorem RwI.nil(h:∀ u,AtP es u p->hu cs u≠b):RwI es cs a b p [] p a b:=
 ⟨.nil,(λ_ h=>nomatch h),λi t h=>by simp at h,rfl,rfl,(λ_ h=>nomatch h),λu h1 h2=>absurd h2 (h u h1),(λ_ h=>nomatch h),λt h=>by simp at h,λ_=>rfl,λt h=>by simp at h,λ_ _ _ _ h=>nomatch h⟩
theorem RwI.two(R:RwI es cs a b p r x one other){h:Nat}(z:h=a\/h=b):h=one\/h=other:=by
 rw[R.d1,R.d2];by_cases e:r.length % 2=0
 ·rw[iP e,iP e];exact z
 ·rw[iG e,iG e];exact z.symm
theorem RwI.ab(R:RwI es cs a b p r x one other):(one=a\/one=b)/\(other=a\/other=b):=by
 rw[R.d1,R.d2];by_cases e:r.length % 2=0
 ·rw[iP e,iP e];exact⟨.inl rfl,.inr rfl⟩
 ·rw[iG e,iG e];exact⟨.inr rfl,.inl rfl⟩
theorem RwI.ne(R:RwI es cs a b p r x one other)(ab:a≠b):one≠other:=by
 rw[R.d1,R.d2];by_cases e:r.length % 2=0
 ·rw[iP e,iP e];exact ab
 ·rw[iG e,iG e];exact ab.symm
theorem RwI.step(P:Prp es cs)(ab:a≠b)(R:RwI es cs a b p r x one other){t:Nat}{e:Nat×Nat}(he:es[t]?=some e)(hx:e.1=x\/e.2=x)(ne:e.1≠e.2)(ht:hu cs t=one):RwI es cs a b p (r++[t]) (w5 e x) other one:=by
 have ax:AtP es t x:=⟨e,he,hx⟩
 have fx:w5 e x≠x:=by unfold w5;split<;>rcases hx with z | z<;>omega
 have af:AtP es t (w5 e x):=⟨e,he,by unfold w5;split<;>simp⟩
 have ends:∀ y,AtP es t y->y=x\/y=w5 e x:=by
  rintro y ⟨e',he',hy⟩;rw[he]at he';cases he';unfold w5;rcases hx with hx | hx<;>rcases hy with hy | hy<;>split<;>omega
 have tn:t∉r:=λz=>R.non t z ax ht;have oo:=R.ne ab
 have fin1:∀ u,AtP es u x->(hu cs u=a\/hu cs u=b)->u∈r++[t]:=λu hu' hc=>by
  rcases R.two hc with z | z
  ·rw[P.one u t x hu' ax (z.trans ht.symm)];simp
  ·exact We _ (R.oth u hu' z)
 have ll:(r++[t]).length=r.length+1:=by simp
 refine⟨?_,λu hu'=>?_,λi u hi=>?_,?_,?_,λs hs y hy nx u hu' hc=>?_,λu hu' hc=>?_,λu hu' hy hc=>?_,λu hu'=>?_,λz=>?_,λu hu'=>?_,λT c0 c1 u hu'=>?_⟩
 ·rw[WY];exact⟨R.nd,by simp,λc hc d hd=>by rw[VQ.mp hd];exact λz=>tn (z▸hc)⟩
 ·rcases VU.mp hu' with z | z
  ·exact R.lt u z
  ·rw[VQ.mp z];exact ax.lt
 ·rcases NJ hi with⟨e1,e2⟩ | hi
  ·rw[e2,ht,e1];exact R.d1
  ·exact R.alt i u hi
 ·rw[ll,R.d2];by_cases e:r.length % 2=0
  ·rw[iP e,iG (by omega)]
  ·rw[iG e,iP (by omega)]
 ·rw[ll,R.d1];by_cases e:r.length % 2=0
  ·rw[iP e,iG (by omega)]
  ·rw[iG e,iP (by omega)]
 ·rcases VU.mp hs with z | z
  ·by_cases yx:y=x
   ·rw[yx]at hu';exact fin1 u hu' hc
   ·exact We _ (R.fin s z y hy yx u hu' hc)
  ·rw[VQ.mp z]at hy;rcases ends y hy with q | q
   ·rw[q]at hu';exact fin1 u hu' hc
   ·exact absurd q nx
 ·rw[P.one u t _ hu' af (hc.trans ht.symm)];simp
 ·rcases VU.mp hu' with z | z
  ·exact tn (R.fin u z _ hy fx t af (by rw[ht];exact R.ab.1))
  ·rw[VQ.mp z,ht]at hc;exact oo hc
 ·rw[List.getLast?_concat]at hu';cases hu';exact af
 ·simp at z
 ·cases hr:r with
  | nil=>
    rw[hr]at hu';have:t=u:=by simpa using hu'
    rw[<-this,<-R.beg hr];exact ax
  | cons s rs=>
    rw[hr]at hu';exact R.fst u (by rw[hr];simpa using hu')
 ·rcases VU.mp hu' with z | z
  ·refine R.all T c0 (λs hs=>c1 s ?_) u z;cases hr:r with
   | nil=>rw[hr]at hs;simp at hs
   | cons s' rs=>rw[hr]at hs;simpa using hs
  ·rw[VQ.mp z];cases hr:r with
   | nil=>exact c1 t (by rw[hr];rfl)
   | cons s' rs=>
     have hl:r.getLast?=some (r.getLast (by rw[hr];simp)):=Wp (by rw[hr];simp);have sm:=List.getLast_mem (l:=r) (by rw[hr];simp);refine c0 _ t x (R.all T c0 (λs hs=>c1 s ?_) _ sm) (R.lst _ hl) ax (by rw[ht];exact R.ab.1);rw[hr]at hs ⊢;simpa using hs
theorem RwI.len(R:RwI es cs a b p r x one other):r.length<=es.length:=by
 have:=List.Nodup.length_le_of_subset R.nd (l₂:=VD es.length) λt ht=>VW.mpr (R.lt t ht)
 rwa [Vm]at this
theorem RwI.clo(R:RwI es cs a b p r x one other)(no:∀ u,AtP es u x->hu cs u≠one):Clo es cs a b r:=by
 intro t ht y hy u hu' hc;by_cases yx:y=x
 ·rw[yx]at hu';rcases R.two hc with z | z
  ·exact absurd z (no u hu')
  ·exact R.oth u hu' z
 ·exact R.fin t ht y hy yx u hu' hc
end
def m6(es:EE)(cs:List Nat)(x h:Nat):Option Nat:=(f9 es x es.length).find? λt=>decide (hu cs t=h)
theorem m5{es:EE}{cs:List Nat}{x h t:Nat}(z:m6 es cs x h=some t):AtP es t x/\hu cs t=h:=by
 unfold m6 at z;exact⟨mem_tiesAt.mp (Wx z),by simpa using YM z⟩
theorem AD{es:EE}{cs:List Nat}{x h:Nat}(z:m6 es cs x h=none):∀ u,AtP es u x->hu cs u≠h:=by
 unfold m6 at z;rw[WD]at z;exact λu hu'=>by simpa using z u (mem_tiesAt.mpr hu')
def rwF(es:EE)(cs:List Nat):Nat->Nat->Nat->Nat->List Nat
 | 0,_,_,_=>[]
 | k+1,x,one,other=>match m6 es cs x one with
   | none=>[]
   | some t=>t::rwF es cs k (w5 (es.getD t (0,0)) x) other one
theorem NN{es:EE}{cs:List Nat}{a b p:Nat}(P:Prp es cs)(ab:a≠b)(hne:∀ e∈es,e.1≠e.2):∀(k:Nat) (r:List Nat) (x one other:Nat),RwI es cs a b p r x one other->es.length+1<=r.length+k->∃ x' one' other',RwI es cs a b p (r++rwF es cs k x one other) x' one' other'/\∀ u,AtP es u x'->hu cs u≠one'
 | 0,r,x,one,other,R,h=>by have:=R.len;omega
 | k+1,r,x,one,other,R,h=>by
   unfold rwF;cases ht:m6 es cs x one with
   | none=>exact⟨x,one,other,by simpa using R,AD ht⟩
   | some t=>
     obtain⟨⟨e,he,hx⟩,hc⟩:=m5 ht;have ge:es.getD t (0,0)=e:=by rw[VA,he];rfl
     dsimp only;rw[ge];have R':=R.step P ab he hx (hne e (V9 he)) hc;obtain⟨x',o1,o2,R2,no⟩:=NN P ab hne k _ _ _ _ R' (by rw[V8];simp;omega);exact⟨x',o1,o2,by simpa using R2,no⟩
def exL(cs r:List Nat)(a b:Nat):List Nat:=(VD cs.length).map λt=>if t∈r then (if hu cs t=a then b else a) else hu cs t
theorem AH(cs r:List Nat)(a b:Nat):(exL cs r a b).length=cs.length:=by unfold exL;rw[V7,Vm]
theorem Dj{cs r:List Nat}{a b t:Nat}(h:t<cs.length):hu (exL cs r a b) t=if t∈r then (if hu cs t=a then b else a) else hu cs t:=by
 unfold exL;show W6 _ t 0=_;rw[VA,VG,W1 h];rfl
theorem Se{es:EE}{cs r:List Nat}{a b:Nat}(P:Prp es cs)(C:Clo es cs a b r)(hr:∀ t∈r,hu cs t=a\/hu cs t=b):Prp es (exL cs r a b):=by
 refine⟨(AH ..).trans P.len,λt u y ht hu' h=>?_⟩;have tl:=ht.lt;have ul:=hu'.lt;rw[<-P.len]at tl ul;rw[Dj tl,Dj ul]at h;by_cases z1:t∈r
 ·by_cases z2:u∈r
  ·rw[iP z1,iP z2]at h;refine P.one t u y ht hu' ?_;rcases hr t z1 with q1 | q1<;>rcases hr u z2 with q2 | q2
   ·rw[q1,q2]
   ·rw[iP q1]at h;by_cases q3:hu cs u=a
    ·rw[q1,q3]
    ·rw[iG q3]at h;rw[q1,q2,h]
   ·rw[iP q2]at h;by_cases q3:hu cs t=a
    ·rw[q2,q3]
    ·rw[iG q3]at h;rw[q1,q2,h]
   ·rw[q1,q2]
  ·rw[iP z1,iG z2]at h;exact absurd (C t z1 y ht u hu' (by split at h;exact .inr h.symm;exact .inl h.symm)) z2
 ·by_cases z2:u∈r
  ·rw[iG z1,iP z2]at h;exact absurd (C u z2 y hu' t ht (by split at h;exact .inr h;exact .inl h)) z1
  ·rw[iG z1,iG z2]at h;exact P.one t u y ht hu' h
theorem Sf(cs:List Nat):(VD cs.length).map (hu cs)=cs:=by
 apply Wi;intro i;rw[VG];by_cases h:i<cs.length
 ·rw[W1 h,VB h];show some (cs.getD i 0)=_;rw[VA,VB h];rfl
 ·rw[Vr (by rw[Vm];omega),Vr (by omega)];rfl
inductive Gd(V:Nat->List SV->Prop):Nat->Nat->SV->Prop where
 | non {k b:Nat}:Gd V k b .non
 | bl {k b:Nat} (c:Bool):Gd V k b (.bl c)
 | int {k b:Nat} {i:Int} (h:-1000000000000000000000<=i/\i<=1000000000000000000000):Gd V k b (.int i)
 | str {k b:Nat} {x:Str} (h:Sz 0 10 (.str x)) (hb:10<=b):Gd V k b (.str x)
 | tup {k b c:Nat} {xs:List SV} (h:∀ y∈xs,Gd V k b y) (hl:xs.length<=63) (hc:xs.length * (b+1)<=c):Gd V (k+1) c (.tup xs)
 | lst {k b c l:Nat} {xs:List SV} (hv:V l xs) (h:∀ y∈xs,Gd V k b y) (hl:xs.length<=63) (hc:xs.length * (b+1)<=c):Gd V (k+1) c (.loc l)
theorem Gd.see{V V':Nat->List SV->Prop}(i:∀ l xs,V l xs->V' l xs){k b:Nat}{x:SV}(h:Gd V k b x):Gd V' k b x:=by
 induction h with
 | non=>exact .non
 | bl c=>exact .bl c
 | int h=>exact .int h
 | str h hb=>exact .str h hb
 | tup _ hl hc ih=>exact .tup ih hl hc
 | lst hv _ hl hc ih=>exact .lst (i _ _ hv) ih hl hc
def VS(S:Sto)(l:Nat)(xs:List SV):Prop:=S[l]?=some (.lst xs)
def isI:SV->Bool
 | .int _=>true
 | _=>false
section
variable{Δ:Nat->Sn}
def Sg(s:Sn):Prop:=∀{x:SV} {S:Sto} {k b:Nat} {Q:QE},Gd (VS S) k b x->Q (.bl (isI x)) S->s [x] S Q
theorem Pp{D:Df}(hb:D.body=IU)(hN:D.N.length=1)(hp:D.ps.length=1):Sg (f6 Δ D):=by
 intro x S k b Q h q;unfold f6;rw[hb,hN];cases h with
 | non=>exact⟨hp.symm,_,rfl,_,nofun,rfl,_,rfl,ifF rfl q⟩
 | bl c=>exact⟨hp.symm,_,rfl,_,nofun,rfl,_,rfl,ifT rfl ⟨_,rfl,_,nofun,rfl,_,rfl,q⟩⟩
 | int h=>exact⟨hp.symm,_,rfl,_,nofun,rfl,_,rfl,ifT rfl ⟨_,rfl,_,nofun,rfl,_,rfl,q⟩⟩
 | str h hb'=>exact⟨hp.symm,_,rfl,_,nofun,rfl,_,rfl,ifF rfl q⟩
 | tup h hl hc=>exact⟨hp.symm,_,rfl,_,nofun,rfl,_,rfl,ifF rfl q⟩
 | lst hv h hl hc=>exact⟨hp.symm,_,rfl,_,nofun,Dc hv,_,rfl,ifF rfl q⟩
theorem Pq(f:Nat->Bool):∀ n:Nat,blS ((VD n).map λi => .bl (f i))=some ((VD n).map f):=by
 have go:∀ l:List Nat,blS (l.map λi => .bl (f i))=some (l.map f):=λl=>by
  induction l with
  | nil=>rfl
  | cons a l ih=>rw[Vh,Vh];simp[blS,ih]
 exact λn=>go _
theorem all_mapF{f:Nat->Bool}{n:Nat}:((VD n).map f).all id=true↔∀ i,i<n->f i=true:=by
 rw[Va];constructor
 ·exact λh i hi=>h _ (VX.mpr ⟨i,VW.mpr hi,rfl⟩)
 ·rintro h x hx;obtain⟨i,hi,rfl⟩:=VX.mp hx;exact h i (VW.mp hi)
theorem NO(hΔ:∀ f,MonoN (Δ f)){e:Ex}{keep:Sto->Prop}{g:Tg}{ρ:EnvS}{Q:List SV->Sto->Prop}(f:Nat->Bool){xs:List SV}{S:Sto}(hl:xs.length<=1000)(hk:∀ S',Gw S S'->keep S')
 (hs:∀(i:Nat) (x:SV) (S':Sto),xs[i]?=some x->Gw S S'->wTg g x ρ λρ2=>(wEx Δ e).1 ρ2 S' λy S2=>y = .bl (f i)/\Gw S S2)
 (q:∀ S',Gw S S'->Q ((VD xs.length).map λi => .bl (f i)) S'):v4 keep g (wEo Δ .no).2 (wEx Δ e).1 ρ Q xs [] S:=by
 refine i4 (j7 hΔ _).2 (a5 hΔ _).1 (λi ys S'=>Gw S S'/\ys=(VD i).map λi => .bl (f i)) ⟨Gw.refl S,rfl⟩ (λ_ _ _ h=>hk _ h.1) ?_ ?_
 ·rintro i x ys S' hx ⟨G,rfl⟩;have hi:=(gM hx).1;refine y9 g (λρ2 h=>?_) (hs i x S' hx G);refine(a5 hΔ e).1 _ _ _ _ (λy S2 h=>⟨by rw[V7,Vm];show _<100000;omega,h.2,?_⟩) h;rw[h.1,WB,VM];rfl
 ·rintro ys S' ⟨G,rfl⟩;exact q S' G
theorem Gd.grow{S S':Sto}{k b:Nat}{x:SV}(h:Gd (VS S) k b x)(G:Gw S S'):Gd (VS S') k b x:=h.see λl xs e=>G.keep l _ e
def Ue:List Stm:=[(.ret (.bi .isi (.cons (.var 0) (.cons (.tup (.cons (.tyc .list) (.cons (.tyc .tuple) .nil))) .nil))))]
def isL:SV->Bool
 | .tup _=>true
 | .loc _=>true
 | _=>false
def Sh(s:Sn):Prop:=∀{x:SV} {S:Sto} {k b:Nat} {Q:QE},Gd (VS S) k b x->Q (.bl (isL x)) S->s [x] S Q
theorem Pr{D:Df}(hb:D.body=Ue)(hN:D.N.length=1)(hp:D.ps.length=1):Sh (f6 Δ D):=by
 intro x S k b Q h q;unfold f6;rw[hb,hN];have b2:2<=big:=by decide
 cases h with
 | non=>exact⟨hp.symm,_,rfl,b2,_,[.list,.tuple],by decide,rfl,rfl,q⟩
 | bl c=>exact⟨hp.symm,_,rfl,b2,_,[.list,.tuple],by decide,rfl,rfl,q⟩
 | int h=>exact⟨hp.symm,_,rfl,b2,_,[.list,.tuple],by decide,rfl,rfl,q⟩
 | str h hb'=>exact⟨hp.symm,_,rfl,b2,_,[.list,.tuple],by decide,rfl,rfl,q⟩
 | tup h hl hc=>exact⟨hp.symm,_,rfl,b2,_,[.list,.tuple],by decide,rfl,rfl,q⟩
 | lst hv h hl hc=>exact⟨hp.symm,_,rfl,b2,_,[.list,.tuple],by decide,Dc hv,rfl,q⟩
end
structure SeqV(S:Sto)(x:SV)(xs:List SV):Prop where
 seq:∀ S',Gw S S'->seqS x S'=some xs
 keep:∀ S1 S',Gw S S1->Gw S S'->keepS x S1 S'
 len:xs.length<=63
 gd:∃ k b,∀ y∈xs,Gd (VS S) k b y
 ls:isL x=true
theorem Gd.split{S:Sto}{k b:Nat}{x:SV}(h:Gd (VS S) k b x):(isL x=false/\∀ xs,seqS x S≠some xs)\/∃ xs,SeqV S x xs:=by
 cases h with
 | non=>exact .inl ⟨rfl,nofun⟩
 | bl c=>exact .inl ⟨rfl,nofun⟩
 | int h=>exact .inl ⟨rfl,nofun⟩
 | str h hb'=>exact .inl ⟨rfl,nofun⟩
 | tup h hl hc=>exact .inr ⟨_,λ_ _=>rfl,λ_ _ _ _=>trivial,hl,⟨_,_,h⟩,rfl⟩
 | lst hv h hl hc=>exact .inr ⟨_,λS' G=>a7 (G.keep _ _ hv),λS1 S' G1 G=>by
    show S'[_]?=S1[_]?;rw[G.keep _ _ hv,G1.keep _ _ hv],hl,⟨_,_,h⟩,rfl⟩
section
variable{Δ:Nat->Sn}
def Qi:List Stm:=[(.ret (.or (.cmp .In (.ix (.ix (.ix (.var 0) (.c (.int 1))) (.var 1)) (.c (.int 0))) (.ix (.ix (.var 0) (.c (.int 1))) (.var 2))) (.cmp .In (.ix (.ix (.ix (.var 0) (.c (.int 1))) (.var 1)) (.c (.int 1))) (.ix (.ix (.var 0) (.c (.int 1))) (.var 2)))))]
def Shr(es:EE)(t u:Nat):Prop:=∃ p,(p=(AW es t).1\/p=(AW es t).2)/\(p=(AW es u).1\/p=(AW es u).2)
def Eg(s:Sn):Prop:=∀{n t u:Nat} {es:EE} {S:Sto} {Q:QE},t<es.length->u<es.length->(∀ v:Bool,(v=true↔Shr es t u)->Q (.bl v) S)->s [g9 n es,.int t,.int u] S Q
theorem NP{D:Df}(hb:D.body=Qi)(hN:D.N.length=3)(hp:D.ps.length=3):Eg (f6 Δ D):=by
 intro n t u es S Q ht hu q;unfold f6;rw[hb,hN];have h1:atI (es.map pairS) (t:Int)=some (pairS (AW es t)):=f8 (by rw[VG,CH ht];rfl);have h2:atI (es.map pairS) (u:Int)=some (pairS (AW es u)):=f8 (by rw[VG,CH hu];rfl);refine⟨hp.symm,_,rfl,_,_,rfl,rfl,_,rfl,_,_,rfl,h1,_,.int ((AW es t).1:Nat),rfl,rfl,_,rfl,_,_,rfl,rfl,_,rfl,_,_,rfl,h2,rfl,_,rfl,rfl,_,rfl,?_⟩;show if inS (.int (AW es t).1) [.int (AW es u).1,.int (AW es u).2]=true then _ else _
 rw[Bh];refine ifB (λz=>q true ⟨λ_=>?_,λ_=>rfl⟩) (λz=>?_)
 ·refine⟨(AW es t).1,.inl rfl,?_⟩;simp only[Vu,dQ]at z;exact z.imp Eq.symm Eq.symm
 ·refine⟨_,rfl,_,_,rfl,rfl,_,rfl,_,_,rfl,h1,_,.int ((AW es t).2:Nat),rfl,rfl,_,rfl,_,_,rfl,rfl,_,rfl,_,_,rfl,h2,rfl,_,rfl,rfl,?_⟩;show Q (.bl (inS (.int (AW es t).2) [.int (AW es u).1,.int (AW es u).2])) S;rw[Bh];refine q _ ⟨λz=>⟨(AW es t).2,.inr rfl,?_⟩,?_⟩
  ·simp only[Vu,dQ]at z;exact z.imp Eq.symm Eq.symm
  ·rintro⟨p,rfl | rfl,h⟩
   ·simp only[Bool.or_eq_false_iff,decide_eq_false_iff_not]at z;exact absurd (h.imp Eq.symm Eq.symm) (not_or.mpr z)
   ·simp only[Vu,dQ];exact h.imp Eq.symm Eq.symm
theorem Gw.tape{t:Nat}{S S':Sto}(G:Gw S S')(T:TapeS S t):TapeS S' t:=let ⟨a,b,h,c⟩:=T.ex;⟨a,b,G.keep _ _ h,c⟩
end
def Si:SV->Bool
 | .int i=>decide (0<=i)
 | _=>false
def PropS(es:EE)(xs:List SV)(m:Nat):Prop:=∀(i j:Nat) (h:Int),i<j->j<m->xs[i]?=some (.int h)->xs[j]?=some (.int h)->¬ Shr es i j
def endE(es:EE)(t p:Nat):Prop:=p=(AW es t).1\/p=(AW es t).2
theorem shr_end{es:EE}{a b:Nat}:Shr es a b↔∃ p,endE es a p/\endE es b p:=Iff.rfl
structure DictI(es:EE)(xs:List SV)(i:Nat)(kvs:List ((Int×Int)×Int)):Prop where
 sound:∀(p:Nat) (h n:Int),dpv kvs (((p:Nat):Int),h)=some n->∃ t:Nat,n=(t:Nat)/\t<i/\xs[t]?=some (.int h)/\endE es t p
 full:∀(t p:Nat) (h:Int),t<i->xs[t]?=some (.int h)->endE es t p->∃ n,dpv kvs (((p:Nat):Int),h)=some n
theorem Jf{kvs:List ((Int×Int)×Int)}{k k':Int×Int}{m:Int}(h:dpv kvs k=none):dpv (kvs++[(k,m)]) k'=if k'=k then some m else dpv kvs k':=by
 unfold dpv at h ⊢;rw[XW];by_cases e:k'=k
 ·subst e;rw[iP rfl];have h':=WN.mp h;rw[h',YT,Vd,decide_eq_true rfl];rfl
 ·rw[iG e,Vd,decide_eq_false (λz=>e z.symm),List.find?_nil,Option.or_none]
structure DJ(es:EE)(xs:List SV)(i:Nat)(h:Int)(P:Nat->Prop)(kvs:List ((Int×Int)×Int))(ps:List (Int×Int)):Prop where
 sound:∀(p:Nat) (g n:Int),dpv kvs (((p:Nat):Int),g)=some n->∃ t:Nat,n=(t:Nat)/\(t<i\/(t=i/\P p))/\xs[t]?=some (.int g)/\endE es t p
 full:∀(t p:Nat) (g:Int),(t<i\/(t=i/\P p))->xs[t]?=some (.int g)->endE es t p->∃ n,dpv kvs (((p:Nat):Int),g)=some n
 cl:ps=[]↔PropS es xs i/\∀ t p:Nat,t<i->xs[t]?=some (.int h)->P p->¬ endE es t p
theorem DJ.first{es:EE}{xs:List SV}{i:Nat}{h:Int}{kvs:List ((Int×Int)×Int)}{ps:List (Int×Int)}(D:DictI es xs i kvs)(c:ps=[]↔PropS es xs i):DJ es xs i h (λ_=>False) kvs ps:=
 ⟨λp g n e=>let ⟨t,a,b,c⟩:=D.sound p g n e;⟨t,a,.inl b,c⟩,λt p g ht hx he=>D.full t p g (ht.elim id λz=>z.2.elim) hx he,c.trans ⟨λa=>⟨a,λ_ _ _ _ z=>z.elim⟩,λa=>a.1⟩⟩
theorem DJ.found{es:EE}{xs:List SV}{i p:Nat}{h c:Int}{P:Nat->Prop}{kvs:List ((Int×Int)×Int)}{ps:List (Int×Int)}(J:DJ es xs i h P kvs ps)(hxi:xs[i]?=some (.int h))(nP:¬ P p)(hc:dpv kvs (((p:Nat):Int),h)=some c):c≠(i:Nat)/\DJ es xs i h (λq=>P q\/q=p) kvs (ps++[(c,((i:Nat):Int))]):=by
 obtain⟨t,rfl,ht,hx,he⟩:=J.sound p h c hc;have ht:t<i:=ht.elim id λz=>absurd z.2 nP;refine⟨λz=>by omega,λq g n e=>?_,λu q g hu hx' he'=>?_,⟨λz=>absurd z (by simp),λz=>absurd he (z.2 t p ht hx (.inr rfl))⟩⟩
 ·obtain⟨u,a,b,d⟩:=J.sound q g n e;exact⟨u,a,b.imp id λz=>⟨z.1,.inl z.2⟩,d⟩
 ·rcases hu with hu | ⟨rfl,hu | rfl⟩
  ·exact J.full u q g (.inl hu) hx' he'
  ·exact J.full u q g (.inr ⟨rfl,hu⟩) hx' he'
  ·rw[hxi]at hx';cases hx';exact⟨_,hc⟩
theorem DJ.new{es:EE}{xs:List SV}{i p:Nat}{h:Int}{P:Nat->Prop}{kvs:List ((Int×Int)×Int)}{ps:List (Int×Int)}(J:DJ es xs i h P kvs ps)(hxi:xs[i]?=some (.int h))(hp:endE es i p)(hc:dpv kvs (((p:Nat):Int),h)=none):DJ es xs i h (λq=>P q\/q=p) (kvs++[((((p:Nat):Int),h),((i:Nat):Int))]) ps:=by
 refine⟨λq g n e=>?_,λu q g hu hx' he'=>?_,J.cl.trans ⟨λz=>⟨z.1,λt q ht hx hq he=>?_⟩,λz=>⟨z.1,λt q ht hx hq he=>z.2 t q ht hx (.inl hq) he⟩⟩⟩
 ·rw[Jf hc]at e;by_cases z:(((q:Nat):Int),g)=(((p:Nat):Int),h)
  ·rw[iP z]at e;injection z with z1 z2;cases e;rw[Vg.mp z1,z2];exact⟨i,rfl,.inr ⟨rfl,.inr rfl⟩,hxi,hp⟩
  ·rw[iG z]at e;obtain⟨u,a,b,d⟩:=J.sound q g n e;exact⟨u,a,b.imp id λz=>⟨z.1,.inl z.2⟩,d⟩
 ·rw[Jf hc];by_cases z:(((q:Nat):Int),g)=(((p:Nat):Int),h)
  ·rw[iP z];exact⟨_,rfl⟩
  ·rw[iG z];rcases hu with hu | ⟨rfl,hu | rfl⟩
   ·exact J.full u q g (.inl hu) hx' he'
   ·exact J.full u q g (.inr ⟨rfl,hu⟩) hx' he'
   ·rw[hxi]at hx';cases hx';exact absurd rfl z
 ·rcases hq with hq | rfl
  ·exact z.2 t q ht hx hq he
  ·obtain⟨n,e⟩:=J.full t q h (.inl ht) hx he;rw[hc]at e;cases e
theorem DJ.last{es:EE}{xs:List SV}{i:Nat}{h:Int}{P:Nat->Prop}{kvs:List ((Int×Int)×Int)}{ps:List (Int×Int)}(J:DJ es xs i h P kvs ps)(hxi:xs[i]?=some (.int h))(hP:∀ p,endE es i p↔P p):DictI es xs (i+1) kvs/\(ps=[]↔PropS es xs (i+1)):=by
 refine⟨⟨λp g n e=>?_,λt p g ht hx he=>J.full t p g ?_ hx he⟩,J.cl.trans ⟨λz a b g hab hb ha hb' sh=>?_,λz=>⟨λa b g hab hb=>z a b g hab (by omega),λt p ht hx hp he=>z t i h ht (Wo _) hx hxi ⟨p,he,(hP p).mpr hp⟩⟩⟩⟩
 ·obtain⟨t,a,b,d⟩:=J.sound p g n e;exact⟨t,a,by omega,d⟩
 ·rcases Wg t i with z | z
  ·exact .inl z
  ·have:t=i:=by omega
   subst this;exact .inr ⟨rfl,(hP p).mp he⟩
 ·rcases Wg b i with y | y
  ·exact z.1 a b g hab y ha hb' sh
  ·have:b=i:=by omega
   subst this;rw[hxi]at hb';cases hb';obtain⟨p,e1,e2⟩:=sh;exact z.2 a p hab ha ((hP p).mp e2) e1
theorem DictI.skip{es:EE}{xs:List SV}{i:Nat}{kvs:List ((Int×Int)×Int)}{ps:List (Int×Int)}(D:DictI es xs i kvs)(c:ps=[]↔PropS es xs i)(hxi:xs[i]?=some .non):DictI es xs (i+1) kvs/\(ps=[]↔PropS es xs (i+1)):=by
 have lt:∀(t:Nat) (g:Int),t<i+1->xs[t]?=some (.int g)->t<i:=λt g ht hx=>by
  rcases Wg t i with z | z
  ·exact z
  ·have:t=i:=by omega
   subst this;rw[hxi]at hx;cases hx
 exact⟨⟨λp g n e=>let ⟨t,a,b,d⟩:=D.sound p g n e;⟨t,a,by omega,d⟩,λt p g ht hx he=>D.full t p g (lt t g ht hx) hx he⟩,c.trans ⟨λz a b g hab hb ha hb'=>z a b g hab (lt b g hb hb') ha hb',λz a b g hab hb=>z a b g hab (by omega)⟩⟩
section
variable{Δ:Nat->Sn}
def kq3:Stm:=(.loop (.nm 7) (.seq (.var 5)) [(.asg (.nm 8) (.setd (.var 2) (.tup (.cons (.var 7) (.cons (.var 6) .nil))) (.var 4))),(.iff (.cmp .NotEq (.var 8) (.var 4)) [(.expr (.mt .append (.var 3) (.cons (.tup (.cons (.var 8) (.cons (.var 4) .nil))) .nil)))] [])])
def kq2:Stm:=(.loop (.tup (.cons (.nm 4) (.cons (.nm 5) .nil))) (.enum (.ix (.var 0) (.c (.int 1)))) [(.asg (.nm 6) (.ix (.var 1) (.var 4))),(.iff (.cmp .IsNot (.var 6) (.c .non)) [kq3] [])])
def NQ:List Stm:=[(.asg (.nm 2) .dnewp),(.asg (.nm 3) (.lst .nil)),kq2,(.ret (.mind (.var 3) (.c .non)))]
def psS(ps:List (Int×Int)):List SV:=ps.map λp:Int×Int=>SV.tup [.int p.1,.int p.2]
theorem Eh{n m l i p:Nat}{h:Int}{es:EE}{x:SV}{kvs:List ((Int×Int)×Int)}{ps:List (Int×Int)}{S:Sto}{D:EndsS}{o5 o8:Option SV}(hm:S[m]?=some (.dtp kvs))(hl:S[l]?=some (.lst (psS ps)))(hk:kvs.length<1000)(hp:ps.length<1000)
 (q0:∀ c:Int,dpv kvs (((p:Nat):Int),h)=some c->c=(i:Nat)->D.nx [some (g9 n es),some x,some (.loc m),some (.loc l),some (.int (i:Nat)),o5,some (.int h),some (.int (p:Nat)),some (.int c)] S)
 (q1:∀ c:Int,dpv kvs (((p:Nat):Int),h)=some c->c≠(i:Nat)->D.nx [some (g9 n es),some x,some (.loc m),some (.loc l),some (.int (i:Nat)),o5,some (.int h),some (.int (p:Nat)),some (.int c)] (S.set l (.lst (psS (ps++[(c,((i:Nat):Int))])))))
 (q2:dpv kvs (((p:Nat):Int),h)=none->D.nx [some (g9 n es),some x,some (.loc m),some (.loc l),some (.int (i:Nat)),o5,some (.int h),some (.int (p:Nat)),some (.int (i:Nat))] (S.set m (.dtp (kvs++[((((p:Nat):Int),h),((i:Nat):Int))])))):
 wSs Δ [(.asg (.nm 8) (.setd (.var 2) (.tup (.cons (.var 7) (.cons (.var 6) .nil))) (.var 4))),(.iff (.cmp .NotEq (.var 8) (.var 4)) [(.expr (.mt .append (.var 3) (.cons (.tup (.cons (.var 8) (.cons (.var 4) .nil))) .nil)))] [])] D [some (g9 n es),some x,some (.loc m),some (.loc l),some (.int (i:Nat)),o5,some (.int h),some (.int (p:Nat)),o8] S:=by
 refine⟨_,rfl,m,kvs,rfl,hm,_,rfl,_,rfl,by show 2<=100000;decide,_,rfl,_,_,_,kvs,rfl,rfl,hm,by show _<100000;omega,λc hc=>?_,λhc=>?_⟩
 ·refine⟨_,rfl,_,rfl,_,rfl,?_⟩;show if (!decide (c=((i:Nat):Int)))=true then _ else _
  by_cases z:c=(i:Nat)
  ·exact ifF (by rw[decide_eq_true z];rfl) (c8 (q0 c hc z))
  ·refine ifT (by rw[decide_eq_false z];rfl) ?_;have hl':(psS ps).length<100000:=by unfold psS;rw[V7];omega
   refine⟨_,rfl,⟨l,_,rfl,hl⟩,_,rfl,_,rfl,by show 2<=100000;decide,_,hl,hl',?_⟩;have q:=q1 c hc z;unfold psS at q ⊢;rw[VM]at q;exact c8 (Δ:=Δ) q
 ·refine⟨_,rfl,_,rfl,_,rfl,?_⟩;show if (!decide (((i:Nat):Int)=((i:Nat):Int)))=true then _ else _
  exact ifF (by rw[decide_eq_true rfl];rfl) (c8 (q2 hc))
def IW(s:Sn):Prop:=∀{n:Nat} {es:EE} {x:SV} {xs:List SV} {S:Sto} {Q:QE},(∀ e∈es,e.1<e.2/\e.2<n)->es.length<=60->SeqV S x xs->xs.length=es.length->(∀ y∈xs,y = .non\/∃ h:Int,y = .int h)->(∀(v:SV) (S':Sto),Gw S S'->(y7 v=true↔PropS es xs es.length)->Q v S')->s [g9 n es,x] S Q
theorem L9(hΔ:∀ f,MonoN (Δ f)){D:Df}(hb:D.body=NQ)(hN:D.N.length=9)(hp:D.ps.length=2):IW (f6 Δ D):=by
 intro n es x xs S Q W hel V hlen hit q;unfold f6;rw[hb,hN];refine⟨hp.symm,by show 0<=100000;decide,_,rfl,_,_,rfl,rfl,_,rfl,?_⟩;have hm0:((S++[SO.dtp []])++[SO.lst []])[S.length]?=some (.dtp []):=j5 a8;have hl0:((S++[SO.dtp []])++[SO.lst []])[(S++[SO.dtp []]).length]?=some (.lst []):=a8;have ll:(S++[SO.dtp []]).length=S.length+1:=by simp
 rw[ll]at hl0;have lw:((S++[SO.dtp []])++[SO.lst []]).length=S.length+2:=by simp
 have G0:Gw S ((S++[SO.dtp []])++[SO.lst []]):=(Gw.refl S).push.push;show v8 _ _ _ _ _ [some (g9 n es),some x,some (.loc S.length),some (.loc (S++[SO.dtp []]).length),none,none,none,none,none] _;rw[ll]
 refine t9 (i7 hΔ _) (λi ρ S2=>∃(o4 o5 o6 o7 o8:Option SV) (kvs:List ((Int×Int)×Int)) (ps:List (Int×Int)),ρ=[some (g9 n es),some x,some (.loc S.length),some (.loc (S.length+1)),o4,o5,o6,o7,o8]/\Gw S S2/\S2[S.length]?=some (.dtp kvs)/\S2[S.length+1]?=some (.lst (psS ps))/\DictI es xs i kvs/\(ps=[]↔PropS es xs i)/\kvs.length<=2 * i/\ps.length<=2 * i)
  ⟨_,_,_,_,_,[],[],rfl,G0,hm0,hl0,⟨λp h n e=>(by cases e),λt p h ht=>absurd ht (Wt _)⟩,⟨λ_ i j h _ hj=>absurd hj (Wt _),λ_=>rfl⟩,VF _,VF _⟩ (λ_ _ _ _=>trivial) ?_ ?_
 ·rintro i z ρ S2 E hE hrt hz ⟨o4,o5,o6,o7,o8,kvs,ps,rfl,G2,hm,hl,DI,PI,hk,hps⟩;obtain⟨y,hy,rfl⟩:=B6 hz;obtain⟨e,he,rfl⟩:=A8 hy;have hi:=(gM he).1;have hv:=VB (show i<xs.length by omega);have mv:=W0 (show i<xs.length by omega);generalize xs[i]=v at *;have lw2:S.length+2<=S2.length:=by have:=(gM hl).1;omega
  refine⟨_,rfl,_,rfl,_,_,V.seq S2 G2,f8 hv,?_⟩
  have te:AW es i=e:=by
   have:=CH hi;rw[he]at this;exact(oj this).symm
  have en:∀ p,endE es i p↔(False\/p=e.1)\/p=e.2:=λp=>by unfold endE;rw[te,false_or]
  have ne:e.1≠e.2:=VO (W e (V9 he)).1;rcases hit v mv with rfl | ⟨h,rfl⟩
  ·obtain⟨D2,P2⟩:=DI.skip PI hv;exact⟨_,rfl,.inl ⟨rfl,_,rfl,ifF rfl (c8 (hE _ _ ⟨_,_,_,_,_,kvs,ps,rfl,G2,hm,hl,D2,P2,by omega,by omega⟩))⟩⟩
  refine⟨_,rfl,.inl ⟨rfl,_,rfl,ifT rfl ⟨_,rfl,_,rfl,trivial,?_⟩⟩⟩;have J0:=DJ.first (h:=h) DI PI
  have key:∀(kv1:List ((Int×Int)×Int)) (ps1:List (Int×Int)) (S3:Sto) (o8:Option SV),Gw S S3->S3[S.length]?=some (.dtp kv1)->S3[S.length+1]?=some (.lst (psS ps1))->kv1.length<=2 * i+1->ps1.length<=2 * i+1->DJ es xs i h (λq=>False\/q=e.1) kv1 ps1->
   v8 (keepS (pairS e) S2) (.nm 7) (wSs Δ [(.asg (.nm 8) (.setd (.var 2) (.tup (.cons (.var 7) (.cons (.var 6) .nil))) (.var 4))),(.iff (.cmp .NotEq (.var 8) (.var 4)) [(.expr (.mt .append (.var 3) (.cons (.tup (.cons (.var 8) (.cons (.var 4) .nil))) .nil)))] [])]) {nx:=wSs Δ [] E,rt:=E.rt,bk:=E.bk,ct:=E.ct} [.int (e.2:Nat)] [some (g9 n es),some x,some (.loc S.length),some (.loc (S.length+1)),some (.int (i:Nat)),some (pairS e),some (.int h),some (.int (e.1:Nat)),o8] S3:=by
   intro kv1 ps1 S3 o8 G3 m3 l3 k3 p3 J;refine⟨trivial,?_⟩;refine Eh m3 l3 (by omega) (by omega) (λc hc z=>absurd z (J.found hv (by rintro(z | z);exact z;exact ne z.symm) hc).1) (λc hc z=>?_) (λhc=>?_)
   ·obtain⟨D2,P2⟩:=(J.found hv (by rintro(z | z);exact z;exact ne z.symm) hc).2.last hv en;exact⟨trivial,c8 (Δ:=Δ) (hE _ _ ⟨_,_,_,_,_,kv1,_,rfl,G3.put (by omega),by rw[A7 (by omega)];exact m3,Vf (by have:=(gM l3).1;omega),D2,P2,by omega,by rw[V8,Vw];omega⟩)⟩
   ·obtain⟨D2,P2⟩:=(J.new hv ((en e.2).mpr (.inr rfl)) hc).last hv en;exact⟨trivial,c8 (Δ:=Δ) (hE _ _ ⟨_,_,_,_,_,_,ps1,rfl,G3.put (by omega),Vf (by have:=(gM m3).1;omega),by rw[A7 (by omega)];exact l3,D2,P2,by rw[V8,Vw];omega,by omega⟩)⟩
  refine Eh hm hl (by omega) (by omega) (λc hc z=>absurd z (J0.found hv id hc).1) (λc hc z=>?_) (λhc=>?_)
  ·exact key kvs _ _ _ (G2.put (by omega)) (by rw[A7 (by omega)];exact hm) (Vf (by omega)) (by omega) (by rw[V8,Vw];omega) (J0.found hv id hc).2
  ·exact key _ ps _ _ (G2.put (by omega)) (Vf (by omega)) (by rw[A7 (by omega)];exact hl) (by rw[V8,Vw];omega) (by omega) (J0.new hv ((en e.1).mpr (.inl (.inr rfl))) hc)
 ·rintro ρ S2 ⟨o4,o5,o6,o7,o8,kvs,ps,rfl,G2,hm,hl,DI,PI,hk,hps⟩;rw[B7,V7]at PI;refine⟨_,rfl,S.length+1,ps,rfl,rfl,hl,λe=>q .non S2 G2 ⟨λ_=>PI.mp e,λ_=>rfl⟩,λp hp=>q _ S2 G2 ⟨nofun,λh=>?_⟩⟩;rw[PI.mpr h]at hp;cases hp
end
def okH(y:SV):Bool:=y7 y||Si y
theorem NR{y:SV}(h:okH y=true):y = .non\/∃ g:Int,y = .int g/\0<=g:=by
 cases y with
 | non=>exact .inl rfl
 | int i=>exact .inr ⟨i,rfl,of_decide_eq_true h⟩
 | _=>cases h
theorem Qj{y:SV}(h:y = .non\/∃ g:Int,y = .int g/\0<=g):okH y=true:=by
 rcases h with rfl | ⟨g,rfl,h⟩
 ·rfl
 ·exact decide_eq_true h
def HuP(es:EE)(xs:List SV):Prop:=xs.length=es.length/\(∀ y∈xs,okH y=true)/\PropS es xs es.length
theorem all_at{f:SV->Bool}{xs:List SV}:(∀ i,i<xs.length->f (xs.getD i .non)=true)↔∀ y∈xs,f y=true:=by
 constructor
 ·intro h y hy;obtain⟨i,hi,rfl⟩:=Xw hy;have:=h i hi
  rwa [VA,VB hi]at this
 ·intro h i hi;rw[VA,VB hi];exact h _ (W0 hi)
section
variable{Δ:Nat->Sn}
def Qk(kn:Nat):List Stm:=[(.ret (.and (.call kn (.cons (.var 0) .nil)) (.cmp .GtE (.var 0) (.c (.int 0)))))]
def Ps(s:Sn):Prop:=∀{x:SV} {S:Sto} {k b:Nat} {Q:QE},Gd (VS S) k b x->Q (.bl (Si x)) S->s [x] S Q
theorem Pt{kn:Nat}(hn:Sg (Δ kn)){D:Df}(hb:D.body=Qk kn)(hN:D.N.length=1)(hp:D.ps.length=1):Ps (f6 Δ D):=by
 intro x S k b Q h q;unfold f6;rw[hb,hN];refine⟨hp.symm,_,rfl,hn h ⟨_,rfl,?_⟩⟩;cases x with
 | int i=>exact ifT rfl ⟨_,rfl,q⟩
 | _=>exact ifF rfl q
def hg1(kl:Nat):Stm:=(.iff (.or (.not (.call kl (.cons (.var 1) .nil))) (.cmp .NotEq (.bi .len (.cons (.var 1) .nil)) (.bi .len (.cons (.ix (.var 0) (.c (.int 1))) .nil)))) [(.ret (.c (.bl false)))] [])
def hg2(kh:Nat):Stm:=(.iff (.not (.bi .all (.cons (.comp ["item"] [] [] (.nm 0) (.seq (.var 1)) .no (.or (.cmp .Is (.var 0) (.c .non)) (.call kh (.cons (.var 0) .nil)))) .nil))) [(.ret (.c (.bl false)))] [])
def hg3(kc:Nat):Stm:=(.ret (.cmp .Is (.call kc (.cons (.var 0) (.cons (.var 1) .nil))) (.c .non)))
def Jg(kl kh kc:Nat):List Stm:=[hg1 kl,hg2 kh,hg3 kc]
def B9(s:Sn):Prop:=∀{n k b:Nat} {es:EE} {x:SV} {S:Sto} {Q:QE},(∀ e∈es,e.1<e.2/\e.2<n)->es.length<=60->Gd (VS S) k b x->(∀(r:Bool) (S':Sto),Gw S S'->(r=true↔∃ xs,seqS x S=some xs/\HuP es xs)->Q (.bl r) S')->s [g9 n es,x] S Q
theorem IY(hΔ:∀ f,MonoN (Δ f)){kl kh kc:Nat}(hl:Sh (Δ kl))(hh:Ps (Δ kh))(hc:IW (Δ kc)){D:Df}(hb:D.body=Jg kl kh kc)(hN:D.N.length=2)(hp:D.ps.length=2):B9 (f6 Δ D):=by
 intro n k b es x S Q W hel hx q;unfold f6;rw[hb,hN];refine⟨hp.symm,_,rfl,hl hx ?_⟩;rcases hx.split with⟨e,no⟩ | ⟨xs,V⟩
 ·rw[e];exact⟨_,rfl,ifT rfl (q false S (Gw.refl S) ⟨nofun,λ⟨xs,z,_⟩=>absurd z (no _)⟩)⟩
 rw[V.ls];have s0:=V.seq S (Gw.refl S);have hxl:=V.len;obtain⟨k',b',hg⟩:=V.gd;have no:∀ S',Gw S S'->¬ HuP es xs->Q (.bl false) S':=λS' G h=>q false S' G ⟨nofun,λ⟨ys,e,z⟩=>by rw[s0]at e;cases e;exact absurd z h⟩;refine⟨_,rfl,ifF rfl ⟨_,rfl,_,s0,_,rfl,_,_,rfl,rfl,_,rfl,_,rfl,?_⟩⟩;show if (!decide ((xs.length:Int)=((es.map pairS).length:Nat)))=true then _ else _
 rw[V7];by_cases zl:xs.length=es.length
 case neg=>exact ifT (by rw[decide_eq_false (λy=>zl (Vg.mp y))];rfl) (no S (Gw.refl S) λh=>zl h.1)
 refine ifF (by rw[decide_eq_true (show((xs.length:Nat):Int)=(es.length:Nat) by rw[zl])];rfl) (c8 ?_);refine⟨_,rfl,_,s0,?_⟩;refine NO hΔ (λi=>okH (xs.getD i .non)) (by omega) (λS' G=>V.keep S S' (Gw.refl S) G) ?_ ?_
 ·intro i y S' hy G;have ey:xs.getD i .non=y:=by rw[VA,hy];rfl
  rw[ey];refine⟨_,rfl,.inl ⟨rfl,_,rfl,?_⟩⟩;cases y with
  | non=>exact ifT rfl ⟨rfl,G⟩
  | _=>exact ifF rfl ⟨_,rfl,hh ((hg _ (V9 hy)).grow G) ⟨rfl,G⟩⟩
 intro S2 G2;have G3:=G2.push (o:=SO.lst ((VD xs.length).map λi => .bl (okH (xs.getD i .non))));refine⟨_,_,nofun,a7 a8,Pq _ _,_,rfl,?_⟩;generalize S2++[SO.lst ((VD xs.length).map λi => .bl (okH (xs.getD i .non)))]=S3 at *;by_cases hA:((VD xs.length).map λi=>okH (xs.getD i .non)).all id=true
 case neg=>
  rw[Bool.eq_false_iff.mpr hA];exact ifT rfl (no S3 G3 λh=>hA (all_mapF.mpr (all_at.mpr h.2.1)))
 rw[hA];have ok:=all_at.mp (all_mapF.mp hA);refine ifF rfl (c8 ?_);refine⟨_,rfl,_,rfl,hc W hel ⟨λS' G=>V.seq S' (G3.trans G),λS1 S' G1 G=>V.keep S1 S' (G3.trans G1) (G3.trans G),hxl,⟨k',b',λy hy=>(hg y hy).grow G3⟩,V.ls⟩ zl (λy hy=>(NR (ok y hy)).imp id λ⟨g,e,_⟩=>⟨g,e⟩) λv S' G ev => .inl ⟨rfl,q _ S' (G3.trans G) ?_⟩⟩;show y7 v=true↔_;rw[ev];exact⟨λh=>⟨xs,s0,zl,ok,h⟩,λ⟨ys,e,h⟩=>by rw[s0]at e;cases e;exact h.2.2⟩
end
def Gr:Option Nat->SV
 | none => .non
 | some t => .int (t:Nat)
theorem Jh{P:Nat->Bool}:∀{ts:List Nat} {j t:Nat},ts[j]?=some t->P t=true->(∀ u∈ts.take j,P u=false)->ts.find? P=some t
 | [],_,_,h,_,_=>by simp at h
 | s::ts,0,t,h,hp,_=>by simp at h;subst h;rw[Vd,hp]
 | s::ts,j+1,t,h,hp,hn=>by
   rw[Vd,hn s (by simp)];exact Jh (by simpa using h) hp λu hu'=>hn u (by simp[hu'])
theorem v5{cs:List Nat}{t:Nat}(h:t<cs.length):cs[t]?=some (hu cs t):=by
 rw[VB h];show _=some (cs.getD t 0);rw[VA,VB h];rfl
section
variable{Δ:Nat->Sn}
def Ql(kt:Nat):List Stm:=[(.loop (.nm 4) (.seq (.call kt (.cons (.var 0) (.cons (.var 2) .nil)))) [(.iff (.cmp .Eq (.ix (.var 1) (.var 4)) (.var 3)) [(.ret (.var 4))] [])]),(.ret (.c .non))]
def Ji:List Stm:=[(.iff (.cmp .Eq (.var 0) (.var 1)) [.no] [])]
def CK(s:Sn):Prop:=∀{a b:Nat} {S:Sto} {Q:QE},a≠b->Q .non S->s [.int (a:Nat),.int (b:Nat)] S Q
theorem LA{D:Df}(hb:D.body=Ji)(hN:D.N.length=2)(hp:D.ps.length=2):CK (f6 Δ D):=by
 intro a b S Q ab q;unfold f6;rw[hb,hN];refine⟨hp.symm,_,rfl,_,rfl,_,rfl,?_⟩;exact ifF (decide_eq_false λz=>ab (Vg.mp z)) q
def rf4(kf kh:Nat):Stm:=(.whl (.cmp .IsNot (.var 6) (.c .non)) [(.expr (.mt .append (.var 5) (.cons (.var 6) .nil))),(.asg (.nm 2) (.call kf (.cons (.var 0) (.cons (.var 6) (.cons (.var 2) .nil))))),(.par 3 4 (.var 4) (.var 3)),(.asg (.nm 6) (.call kh (.cons (.var 0) (.cons (.var 1) (.cons (.var 2) (.cons (.var 3) .nil))))))])
def rf1(kc ku kh:Nat):List Stm:=[(.expr (.call kc (.cons (.var 0) (.cons (.var 2) .nil)))),(.expr (.call ku (.cons (.var 3) (.cons (.var 4) .nil)))),(.iff (.cmp .IsNot (.call kh (.cons (.var 0) (.cons (.var 1) (.cons (.var 2) (.cons (.var 4) .nil))))) (.c .non)) [.no] []),(.asg (.nm 5) (.lst .nil)),(.asg (.nm 6) (.call kh (.cons (.var 0) (.cons (.var 1) (.cons (.var 2) (.cons (.var 3) .nil))))))]
def Qm(kc ku kh kf:Nat):List Stm:=rf1 kc ku kh++[rf4 kf kh,(.ret (.var 5))]
theorem Jj{es:EE}{cs:List Nat}{x h:Nat}(z:∀ u,AtP es u x->hu cs u≠h):m6 es cs x h=none:=by
 unfold m6;rw[WD];intro u hu' y;exact z u (mem_tiesAt.mp hu') (of_decide_eq_true y)
def ec2(kt:Nat):Stm:=(.loop (.nm 6) (.seq (.var 2)) [(.iff (.or (.not (.call kt (.cons (.var 0) (.cons (.var 6) .nil)))) (.cmp .NotIn (.ix (.var 1) (.var 6)) (.tup (.cons (.var 3) (.cons (.var 4) .nil))))) [.no] []),(.put (.var 5) (.var 6) (.ife (.cmp .Eq (.ix (.var 1) (.var 6)) (.var 3)) (.var 4) (.var 3)))])
def Qn(ku kt ki:Nat):List Stm:=[(.expr (.call ku (.cons (.var 3) (.cons (.var 4) .nil)))),(.asg (.nm 5) (.bi .list (.cons (.var 1) .nil))),ec2 kt,(.iff (.not (.call ki (.cons (.var 0) (.cons (.var 5) .nil)))) [.no] []),(.ret (.var 5))]
theorem Jk(cs:List Nat)(a b:Nat):exL cs [] a b=cs:=by
 conv=>rhs;rw[<-Sf cs]
 unfold exL;exact XD λt _=>by simp
theorem Gs{cs r:List Nat}{a b t:Nat}(ht:t<cs.length):exL cs (r++[t]) a b=(exL cs r a b).set t (if hu cs t=a then b else a):=by
 apply Wi;intro i;by_cases hi:i<cs.length
 ·have g1:(exL cs (r++[t]) a b)[i]?=some (hu (exL cs (r++[t]) a b) i):=v5 (by rw[AH];exact hi);rw[g1,Dj hi];by_cases e:i=t
  ·subst e;rw[Vf (by rw[AH];exact hi),iP (by simp)]
  ·rw[W3 (Ne.symm e),v5 (by rw[AH];exact hi),Dj hi]
   congr 1
   have:i∈r++[t]↔i∈r:=by simp[e]
   by_cases z:i∈r
   ·rw[iP z,iP (this.mpr z)]
   ·rw[iG z,iG (λy=>z (this.mp y))]
 ·rw[Vr (by rw[AH];omega),Vr (by rw[Vp,AH];omega)]
def ar1(kh:Nat):Stm:=(.iff (.or (.not (.call kh (.cons (.var 3) .nil))) (.not (.call kh (.cons (.var 4) .nil)))) [(.ret (.c .non))] [])
def Qo(kh kr kx:Nat):List Stm:=[ar1 kh,(.tri [(.ret (.call kx (.cons (.var 0) (.cons (.var 1) (.cons (.call kr (.cons (.var 0) (.cons (.var 1) (.cons (.var 2) (.cons (.var 3) (.cons (.var 4) .nil)))))) (.cons (.var 3) (.cons (.var 4) .nil)))))))])]
def as1:Stm:=(.iff (.or (.not (.bi .isi (.cons (.var 2) (.cons (.tyc .tuple) .nil)))) (.not (.var 2))) [(.ret (.c .non))] [])
def as2:Stm:=(.asg (.nm 3) (.ix (.var 2) (.c (.int 0))))
def as3(w:Str)(n:Int)(e:Ex):Stm:=(.iff (.and (.cmp .Eq (.var 3) (.c (.str w))) (.cmp .Eq (.bi .len (.cons (.var 2) .nil)) (.c (.int n)))) [(.ret e)] [])
noncomputable def NS(kh kd km kr:Nat):List Stm:=[as1,as2,as3 "hue" 3 (.call kh (.cons (.var 0) (.cons (.var 1) (.cons (.ix (.var 2) (.c (.int 1))) (.cons (.ix (.var 2) (.c (.int 2))) .nil))))),as3 "drop" 2 (.call kd (.cons (.var 0) (.cons (.var 1) (.cons (.ix (.var 2) (.c (.int 1))) .nil)))),as3 "move" 3 (.call km (.cons (.var 0) (.cons (.var 1) (.cons (.ix (.var 2) (.c (.int 1))) (.cons (.ix (.var 2) (.c (.int 2))) .nil))))),as3 "row" 4 (.call kr (.cons (.var 0) (.cons (.var 1) (.cons (.ix (.var 2) (.c (.int 1))) (.cons (.ix (.var 2) (.c (.int 2))) (.cons (.ix (.var 2) (.c (.int 3))) .nil)))))),(.ret (.c .non))]
def Qp(ka:Nat):List Stm:=[(.asg (.nm 3) (.call ka (.cons (.var 0) (.cons (.var 1) (.cons (.var 2) .nil))))),(.iff (.cmp .Is (.var 3) (.c .non)) [.no] []),(.ret (.var 3))]
end
theorem Pu{ns:List Int}{x:Int}:x∈srt ns↔x∈ns:=by unfold srt;exact List.mem_mergeSort
theorem Sj(x:Int)(ns:List Int):inS (.int x) (ns.map SV.int)=decide (x∈ns):=by
 rw[Vo,dQ];unfold inS;rw[X6,WV];constructor
 ·rintro⟨a,ha,h⟩;have h:(a == x)=true:=h;rw[beq_iff_eq]at h;rw[<-h];exact ha
 ·intro h;exact⟨x,h,by show(x == x)=true;simp⟩
theorem NT(ns:List Int):(ns.map SV.int).all y0=true:=by
 rw[Xl,Va];intro _ _;rfl
section
variable{Δ:Nat->Sn}
def Jl(kt:Nat):List Stm:=[(.ret (.bi .sorted (.cons (.comp ["tie"] ["hueing"] [1] (.nm 0) (.seq (.call kt (.cons (.var 0) (.cons (.var 2) .nil)))) (.yes (.cmp .IsNot (.ix (.var 1) (.var 0)) (.c .non))) (.ix (.var 1) (.var 0))) .nil)))]
def lh1:Stm:=(.iff (.or (.not (.bi .isi (.cons (.var 1) (.cons (.tup (.cons (.tyc .list) (.cons (.tyc .tuple) .nil))) .nil)))) (.cmp .NotEq (.bi .len (.cons (.var 1) .nil)) (.bi .len (.cons (.ix (.var 0) (.c (.int 1))) .nil)))) [(.ret (.c (.bl false)))] [])
def lh2:Stm:=(.iff (.and (.cmp .IsNot (.var 3) (.c .non)) (.or (.not (.bi .isi (.cons (.var 3) (.cons (.tyc .int) .nil)))) (.or (.bi .isi (.cons (.var 3) (.cons (.tyc .bool) .nil))) (.cmp .Lt (.var 3) (.c (.int 0)))))) [(.ret (.c (.bl false)))] [])
def lh3(km:Nat):Stm:=(.loop (.nm 4) (.rng1 (.var 2)) [(.iff (.and (.cmp .IsNot (.var 3) (.c .non)) (.and (.cmp .Eq (.ix (.var 1) (.var 4)) (.var 3)) (.call km (.cons (.var 0) (.cons (.var 4) (.cons (.var 2) .nil)))))) [(.ret (.c (.bl false)))] [])])
def Gv(km:Nat):List Stm:=[lh1,(.loop (.tup (.cons (.nm 2) (.cons (.nm 3) .nil))) (.enum (.var 1)) [lh2,lh3 km]),(.ret (.c (.bl true)))]
theorem Gd.isLs{S:Sto}{k b:Nat}{x:SV}(h:Gd (VS S) k b x):∃ t,tyS x S=some t/\[TyN.list,.tuple].any (Fw t)=isL x:=by
 cases h with
 | lst hv _ _ _=>exact⟨_,Dc hv,rfl⟩
 | _=>exact⟨_,rfl,rfl⟩
theorem Sl{n i:Nat}{es:EE}{x y:SV}{S:Sto}{k b:Nat}{D:EndsS}{o4:Option SV}(hy:Gd (VS S) k b y)(q1:okH y=true->D.nx [some (g9 n es),some x,some (.int (i:Nat)),some y,o4] S)(q0:okH y=false->D.rt (.bl false) S):
 wSt Δ lh2 D [some (g9 n es),some x,some (.int (i:Nat)),some y,o4] S:=by
 refine⟨_,rfl,.inl ⟨rfl,_,rfl,?_⟩⟩;cases hy with
 | non=>exact ifF rfl (ifF rfl (c8 (Δ:=Δ) (q1 rfl)))
 | bl c=>exact ifT rfl ⟨_,rfl,_,nofun,rfl,_,rfl,ifF rfl ⟨_,rfl,_,nofun,rfl,_,rfl,ifT rfl (q0 rfl)⟩⟩
 | @int _ _ g h=>
   refine ifT rfl ⟨_,rfl,_,nofun,rfl,_,rfl,ifF rfl ⟨_,rfl,_,nofun,rfl,_,rfl,ifF rfl ⟨_,rfl,_,rfl,?_⟩⟩⟩;refine ifD (λz=>q0 (decide_eq_false (show ¬ (0:Int)<=g from by have z:g<0:=z;omega))) (λz=>c8 (Δ:=Δ) (q1 (decide_eq_true (show(0:Int)<=g from by have z:¬ g<0:=z;omega))))
 | str h hb'=>exact ifT rfl ⟨_,rfl,_,nofun,rfl,_,rfl,ifT rfl (q0 rfl)⟩
 | tup h hl hc=>exact ifT rfl ⟨_,rfl,_,nofun,rfl,_,rfl,ifT rfl (q0 rfl)⟩
 | lst hv h hl hc=>exact ifT rfl ⟨_,rfl,_,nofun,Dc hv,_,rfl,ifT rfl (q0 rfl)⟩
theorem Sm(hΔ:∀ f,MonoN (Δ f)){km:Nat}(hm:Eg (Δ km)){n i:Nat}{es:EE}{x y:SV}{xs:List SV}{S:Sto}{D:EndsS}{o4:Option SV}(s0:seqS x S=some xs)(hi:i<es.length)(hl:xs.length=es.length)(hel:es.length<=60)(hy:xs[i]?=some y)(oy:okH y=true)(ok:∀(j:Nat) (z:SV),j<i->xs[j]?=some z->okH z=true)
 (q1:∀ o4:Option SV,(∀(j:Nat) (g:Int),j<i->xs[j]?=some (.int g)->y = .int g->¬ Shr es j i)->D.nx [some (g9 n es),some x,some (.int (i:Nat)),some y,o4] S) (q0:∀(j:Nat) (g:Int),j<i->xs[j]?=some (.int g)->y = .int g->Shr es j i->D.rt (.bl false) S):
 wSt Δ (lh3 km) D [some (g9 n es),some x,some (.int (i:Nat)),some y,o4] S:=by
 refine⟨_,rfl,((i:Nat):Int),rfl,⟨by omega,by omega⟩,?_⟩;refine t9 (i7 hΔ _) (λk ρ S2=>∃ o4:Option SV,ρ=[some (g9 n es),some x,some (.int (i:Nat)),some y,o4]/\S2=S/\∀(j:Nat) (g:Int),j<k->xs[j]?=some (.int g)->y = .int g->¬ Shr es j i) ⟨_,rfl,rfl,λj g hj=>absurd hj (Wt _)⟩ (λ_ _ _ _=>trivial) ?_ ?_
 ·rintro k z ρ S2 E hE hrt hz ⟨o4,rfl,rfl,al⟩;have hk:k<i:=by have:=(gM hz).1;rw[m4]at this;omega
  obtain⟨rfl,_⟩:=p0 hz;rw[Wh];have hv:=VB (show k<xs.length by omega);have ov:=ok k _ hk hv;generalize xs[k]=v at *
  have next:(∀ g:Int,v = .int g->y = .int g->¬ Shr es k i)->∀(j:Nat) (g:Int),j<k+1->xs[j]?=some (.int g)->y = .int g->¬ Shr es j i:=λf j g hj hx e=>by
   rcases Wg j k with w | w
   ·exact al j g w hx e
   ·have:j=k:=by omega
    subst this;rw[hv]at hx;cases hx;exact f g rfl e
  refine⟨_,rfl,.inl ⟨rfl,_,rfl,?_⟩⟩;rcases NR oy with rfl | ⟨g,rfl,_⟩
  ·exact ifF rfl (ifF rfl (c8 (Δ:=Δ) (hE _ _ ⟨_,rfl,rfl,next λg _ e=>by cases e⟩)))
  refine ifT rfl ⟨_,rfl,_,rfl,_,_,s0,f8 hv,_,rfl,?_⟩;rcases NR ov with rfl | ⟨g',rfl,_⟩
  ·exact⟨_,rfl,ifF rfl (ifF rfl (c8 (Δ:=Δ) (hE _ _ ⟨_,rfl,rfl,next λg e _=>by cases e⟩)))⟩
  refine⟨_,rfl,?_⟩;show if decide (g'=g)=true then _ else _
  refine ifD (λe=>?_) (λe=>ifF rfl (c8 (Δ:=Δ) (hE _ _ ⟨_,rfl,rfl,next λg1 e1 e2=>by injection e1 with e1;injection e2 with e2;exact absurd (e1.trans e2.symm) e⟩)));have e:g'=g:=e;subst e;refine⟨_,rfl,_,rfl,_,rfl,hm (by omega) hi λv ev=>⟨_,rfl,?_⟩⟩;cases v with
  | true=>exact ifT rfl (hrt _ _ (q0 k g' hk hv rfl (ev.mp rfl)))
  | false=>exact ifF rfl (c8 (Δ:=Δ) (hE _ _ ⟨_,rfl,rfl,next λg1 _ _ sh=>YI (ev.mpr sh)⟩))
 ·rintro ρ S2 ⟨o4,rfl,rfl,al⟩;have e:(CY 0 ((i:Nat):Int)).length=i:=by rw[m4];omega
  rw[e]at al;exact q1 o4 al
theorem IZ(hΔ:∀ f,MonoN (Δ f)){km:Nat}(hm:Eg (Δ km)){D:Df}(hb:D.body=Gv km)(hN:D.N.length=5)(hp:D.ps.length=2):B9 (f6 Δ D):=by
 intro n k b es x S Q W hel hx q;unfold f6;rw[hb,hN];obtain⟨ty,e1,e2⟩:=hx.isLs;refine⟨hp.symm,_,rfl,by show 2<=100000;decide,_,[.list,.tuple],by decide,e1,rfl,_,rfl,?_⟩;rw[e2];rcases hx.split with⟨e,no⟩ | ⟨xs,V⟩
 ·rw[e];exact ifT rfl (q false S (Gw.refl S) ⟨nofun,λ⟨xs,z,_⟩=>absurd z (no _)⟩)
 rw[V.ls];have s0:=V.seq S (Gw.refl S);have hxl:=V.len;obtain⟨k',b',hg⟩:=V.gd;have no:¬ HuP es xs->Q (.bl false) S:=λh=>q false S (Gw.refl S) ⟨nofun,λ⟨ys,e,z⟩=>by rw[s0]at e;cases e;exact absurd z h⟩;refine ifF rfl ⟨_,rfl,_,s0,_,rfl,_,_,rfl,rfl,_,rfl,_,rfl,?_⟩;show if (!decide ((xs.length:Int)=((es.map pairS).length:Nat)))=true then _ else _
 rw[V7];by_cases zl:xs.length=es.length
 case neg=>exact ifT (by rw[decide_eq_false (λy=>zl (Vg.mp y))];rfl) (no λh=>zl h.1)
 refine ifF (by rw[decide_eq_true (show((xs.length:Nat):Int)=(es.length:Nat) by rw[zl])];rfl) (c8 ?_);refine⟨_,rfl,_,s0,?_⟩;refine t9 (i7 hΔ _) (λi ρ S2=>∃ o2 o3 o4:Option SV,ρ=[some (g9 n es),some x,o2,o3,o4]/\S2=S/\(∀(j:Nat) (z:SV),j<i->xs[j]?=some z->okH z=true)/\PropS es xs i) ⟨_,_,_,rfl,rfl,λj z hj=>absurd hj (Wt _),λa b g _ hb=>absurd hb (Wt _)⟩ (λ_ _ S2 z=>by obtain⟨_,_,_,_,rfl,_⟩:=z;exact V.keep S2 S2 (Gw.refl _) (Gw.refl _)) ?_ ?_
 ·rintro i z ρ S2 E hE hrt hz ⟨o2,o3,o4,rfl,rfl,ok,pr⟩;obtain⟨y,hy,rfl⟩:=B6 hz;have hi:i<es.length:=by rw[<-zl];exact(gM hy).1
  refine Sl (hg y (V9 hy)) (λoy=>?_) (λoy=>hrt _ _ (no λh=>by rw[h.2.1 y (V9 hy)]at oy;cases oy));refine Sm hΔ hm s0 hi zl hel hy oy ok (λo4 al=>c8 (Δ:=Δ) (hE _ _ ⟨_,_,_,rfl,rfl,λj z hj hz2=>?_,λa b g hab hb ha hb'=>?_⟩)) (λj g hj hx e sh=>hrt _ _ (no λh=>h.2.2 j i g hj hi hx (by rw[hy,e]) sh))
  ·rcases Wg j i with w | w
   ·exact ok j z w hz2
   ·have:j=i:=by omega
    subst this;rw[hy]at hz2;cases hz2;exact oy
  ·rcases Wg b i with w | w
   ·exact pr a b g hab w ha hb'
   ·have:b=i:=by omega
    subst this;rw[hy]at hb';exact al a g hab ha (oj hb')
 ·rintro ρ S2 ⟨o2,o3,o4,rfl,rfl,ok,pr⟩;rw[B7]at ok pr;refine q true S2 (Gw.refl _) ⟨λ_=>⟨xs,s0,zl,λy hy=>?_,by rw[<-zl];exact pr⟩,λ_=>rfl⟩;obtain⟨j,hj,rfl⟩:=Xw hy;exact ok j _ hj (VB hj)
end
theorem Dk{cs:List Nat}{c t:Nat}(h:t<cs.length):hu (cs++[c]) t=hu cs t:=by
 show(cs++[c]).getD t 0=cs.getD t 0;rw[VA,VA,VP h]
theorem FM{cs:List Nat}{c:Nat}:hu (cs++[c]) cs.length=c:=by
 show(cs++[c]).getD cs.length 0=c;rw[VA,Vb];rfl
section
variable{Δ:Nat->Sn}
theorem NU{f:Nat->Bool}{m t:Nat}(ht:t<m)(hf:f t=true)(un:∀ u,u<m->f u=true->u=t):(VD m).filter f=[t]:=by
 have nd:((VD m).filter f).Nodup:=Ww.filter _
 have mem:∀ u,u∈(VD m).filter f↔u=t:=λu=>by
  rw[Vs,VW];exact⟨λz=>un u z.1 z.2,λz=>by subst z;exact⟨ht,hf⟩⟩
 match h:(VD m).filter f with
 | []=>rw[h]at mem;exact absurd ((mem t).mpr rfl) (by simp)
 | [a]=>rw[h]at mem;rw[(mem a).mp (by simp)]
 | a::b::l=>
   rw[h]at mem nd;have e1:=(mem a).mp (by simp);have e2:=(mem b).mp (by simp);subst e1;subst e2;simp at nd
theorem Pv(n:Nat):blS (VL n (.bl false))=some (VL n false):=by
 induction n with
 | zero=>rfl
 | succ n ih=>rw[Vj,Vj];simp[blS,ih]
end
def pS(c:Nat):SV:=if c<1000 then .int (c:Nat) else .non
def c9(cs:List Nat):List SV:=cs.map pS
theorem n0{c:Nat}(h:c<1000):pS c = .int (c:Nat):=iP h
theorem w6{c:Nat}(h:¬ c<1000):pS c = .non:=iG h
theorem p8{cs:List Nat}:(c9 cs).length=cs.length:=by unfold c9;rw[V7]
theorem r6{cs:List Nat}{i c:Nat}(h:cs[i]?=some c):(c9 cs)[i]?=some (pS c):=by unfold c9;rw[VG,h];rfl
theorem BA{cs:List Nat}{i:Nat}{x:SV}(h:(c9 cs)[i]?=some x):∃ c,cs[i]?=some c/\x=pS c:=by
 unfold c9 at h;rw[VG]at h;cases he:cs[i]? with
 | none=>rw[he]at h;cases h
 | some e=>rw[he]at h;exact⟨e,rfl,(oj h).symm⟩
theorem Qq{c h:Nat}(hh:h<1000){S:Sto}{Q:QE}(q:Q (.bl (decide (c=h))) S):At .Eq (pS c) (.int (h:Nat)) S Q:=by
 by_cases z:c<1000
 ·rw[n0 z];show Q (.bl (decide ((c:Int)=(h:Int)))) S;rw[show decide ((c:Int)=(h:Int))=decide (c=h) by rw[Vo];simp[Vg]];exact q
 ·rw[w6 z];show Q (.bl false) S;rw[show decide (c=h)=false from decide_eq_false (by omega)]at q;exact q
theorem Jm{es:EE}{cs:List Nat}(P:Prp es cs):HuP es (c9 cs):=by
 refine⟨by rw[p8];exact P.len,λy hy=>?_,λi j h hij hj h1 h2 sh=>?_⟩
 ·unfold c9 at hy;obtain⟨c,_,rfl⟩:=VX.mp hy;by_cases z:c<1000
  ·rw[n0 z];exact Qj (.inr ⟨_,rfl,by omega⟩)
  ·rw[w6 z];exact Qj (.inl rfl)
 ·obtain⟨c1,z1,e1⟩:=BA h1;obtain⟨c2,z2,e2⟩:=BA h2
  have val:∀{c:Nat} {h:Int},SV.int h=pS c->h=(c:Nat):=λ{c h} e=>by
   by_cases z:c<1000
   ·rw[n0 z]at e;injection e
   ·rw[w6 z]at e;cases e
  have e2:c1=c2:=Vg.mp ((val e1).symm.trans (val e2));obtain⟨p,a1,a2⟩:=shr_end.mp sh
  have at':∀ t,t<es.length->endE es t p->AtP es t p:=λt ht z=>by
   refine⟨AW es t,CH ht,?_⟩;exact z.imp Eq.symm Eq.symm
  have hu1:hu cs i=c1:=by show cs.getD i 0=_;rw[VA,z1];rfl
  have hu2:hu cs j=c2:=by show cs.getD j 0=_;rw[VA,z2];rfl
  have:=P.one i j p (at' i (by omega) a1) (at' j hj a2) (by rw[hu1,hu2,e2]);omega
theorem NV{S:Sto}{l:Nat}{cs:List Nat}(h:S[l]?=some (.lst (c9 cs)))(hl:cs.length<=60):Gd (VS S) 1 1000 (.loc l):=by
 refine .lst (k:=0) (b:=10) h (λy hy=>?_) (by rw[p8];omega) (by rw[p8];omega);unfold c9 at hy;obtain⟨c,hc,rfl⟩:=VX.mp hy;by_cases z:c<1000
 ·rw[n0 z];exact .int ⟨by omega,by omega⟩
 ·rw[w6 z];exact .non
theorem FN{cs:List Nat}{t h u:Nat}(ht:t<cs.length):hu (cs.set t h) u=if u=t then h else hu cs u:=by
 show(cs.set t h).getD u 0=_;rw[VA];by_cases e:u=t
 ·subst e;rw[Vf ht,iP rfl];rfl
 ·rw[W3 (Ne.symm e),iG e];show _=cs.getD u 0;rw[VA]
section
variable{n H:Nat}{es:EE}{cs:List Nat}
theorem CL(P:Prp es cs)(hen:∀ e∈es,e.1<e.2/\e.2<n){p a b:Nat}(ab:a≠b)(no:∀ u,AtP es u p->hu cs u≠b):∃ x o1 o2,RwI es cs a b p (rwF es cs (es.length+1) p a b) x o1 o2/\∀ u,AtP es u x->hu cs u≠o1:=by
 have:=NN P ab (λe he=>VO (hen e he).1) (es.length+1) [] p a b (RwI.nil no) (by simp);simpa using this
theorem CM{a b p x o1 o2:Nat}{r:List Nat}(R:RwI es cs a b p r x o1 o2):∀ t∈r,hu cs t=a\/hu cs t=b:=λt ht=>by
 obtain⟨i,hi⟩:=WK ht;rw[R.alt i t hi];split<;>simp
end
def frL(es:EE)(cs:List Nat)(p H:Nat):List Nat:=(VD H).filter λh=>(m6 es cs p h).isNone
theorem mem_frL{es:EE}{cs:List Nat}{p H h:Nat}:h∈frL es cs p H↔h<H/\∀ u,AtP es u p->hu cs u≠h:=by
 unfold frL;rw[Vs,VW];constructor
 ·rintro⟨a,b⟩;refine⟨a,AD ?_⟩;simpa using b
 ·rintro⟨a,b⟩;refine⟨a,?_⟩;rw[Jj b];rfl
theorem Pw{es:EE}{cs:List Nat}{p H t:Nat}(hH:H<=1000)(at':AtP es t p)(h0:¬ hu cs t<1000)(hc:p4 es p<=H):frL es cs p H≠[]:=by
 intro e
 have all:∀ h,h<H->∃ u,m6 es cs p h=some u:=λh hh=>by
  cases z:m6 es cs p h with
  | some u=>exact⟨u,rfl⟩
  | none=>
    have:h∈frL es cs p H:=mem_frL.mpr ⟨hh,AD z⟩;rw[e]at this;cases this
 have f:∀ h,h<H->AtP es ((m6 es cs p h).getD 0) p/\hu cs ((m6 es cs p h).getD 0)=h:=λh hh=>by
  obtain⟨u,z⟩:=all h hh;rw[z];exact m5 z
 have nd:(t::(VD H).map λh=>(m6 es cs p h).getD 0).Nodup:=by
  rw[Vx];refine⟨λz=>?_,?_⟩
  ·obtain⟨h,hh,e⟩:=VX.mp z;have hl:=VW.mp hh;have:=(f h hl).2;rw[e]at this;omega
  ·rw[List.Nodup,XX];refine List.Pairwise.imp_of_mem (λ{a b} ha hb ne e=>ne ?_) Ww;rw[<-(f a (VW.mp ha)).2,<-(f b (VW.mp hb)).2,e]
 have sub:=List.Nodup.length_le_of_subset nd (l₂:=f9 es p es.length) λu hu'=>by
  rcases VT.mp hu' with z | z
  ·rw[z];exact mem_tiesAt.mpr at'
  ·obtain⟨h,hh,rfl⟩:=VX.mp z;exact mem_tiesAt.mpr (f h (VW.mp hh)).1
 rw[VY,V7,Vm]at sub;have:p4 es p=(f9 es p es.length).length:=rfl;omega
theorem NW{l:List Nat}(h:l≠[]):l.headD 0∈l:=by
 cases l with
 | nil=>exact absurd rfl h
 | cons a l=>exact VN ..
section
variable{Δ:Nat->Sn}
theorem C2(c:Nat):y7 (pS c)=!decide (c<1000):=by
 by_cases z:c<1000
 ·rw[n0 z,decide_eq_true z];rfl
 ·rw[w6 z,decide_eq_false z];rfl
def NX(ka:Nat):List Stm:=[(.asg (.nm 4) (.call ka (.cons (.var 0) (.cons (.var 1) (.cons (.var 2) .nil))))),(.ret (.comp ["hue"] ["taken"] [4] (.nm 0) (.rng1 (.var 3)) (.yes (.cmp .NotIn (.var 0) (.var 1))) (.var 0)))]
end
def Hv(S:Sto)(x:SV)(cs:List Nat):Prop:=x = .tup (c9 cs)\/∃ k,x = .loc k/\S[k]?=some (.lst (c9 cs))
theorem Hv.seq{S:Sto}{x:SV}{cs:List Nat}(h:Hv S x cs):seqS x S=some (c9 cs):=by
 rcases h with rfl | ⟨k,rfl,h⟩
 ·rfl
 ·exact a7 h
theorem Hv.gw{S S':Sto}{x:SV}{cs:List Nat}(h:Hv S x cs)(G:Gw S S'):Hv S' x cs:=h.imp id λ⟨k,e,h⟩=>⟨k,e,G.keep _ _ h⟩
theorem Hv.loc{S:Sto}{k:Nat}{cs:List Nat}(h:S[k]?=some (.lst (c9 cs))):Hv S (.loc k) cs := .inr ⟨k,rfl,h⟩
theorem Jn{S S1 S2:Sto}{l:Nat}(G:Gw S S1)(O:On l S1 S2)(h:S.length<=l):Gw S S2:=⟨Ve G.len O.len,λj o e=>O.keep j o (by have:=(gM e).1;omega) (G.keep j o e)⟩
section
variable{Δ:Nat->Sn}
def FO(s:Sn):Prop:=∀{n p h:Nat} {w:SV} {es:EE} {cs:List Nat} {S:Sto} {Q:QE},Hv S w cs->cs.length=es.length->es.length<=1000->p<n->h<1000->(∀ S',Gw S S'->Q (Gr (m6 es cs p h)) S')->s [g9 n es,w,.int (p:Nat),.int (h:Nat)] S Q
theorem NY(hΔ:∀ f,MonoN (Δ f)){kt:Nat}(ht:BX (Δ kt)){D:Df}(hb:D.body=Ql kt)(hN:D.N.length=5)(hp:D.ps.length=4):FO (f6 Δ D):=by
 intro n p h w es cs S Q hk hl hel hpn hh q;unfold f6;rw[hb,hN];refine⟨hp.symm,_,rfl,_,rfl,ht (by omega) hpn ⟨_,a7 a8,?_⟩⟩;have G1:Gw S (S++[SO.lst (c4 (f9 es p es.length))]):=(Gw.refl S).push;have hk1:=hk.gw G1;generalize S++[SO.lst (c4 (f9 es p es.length))]=S1 at *;refine t9 (i7 hΔ _) (λj ρ S2=>S2=S1/\∃ o4:Option SV,ρ=[some (g9 n es),some w,some (.int (p:Nat)),some (.int (h:Nat)),o4]/\∀ u∈(f9 es p es.length).take j,decide (hu cs u=h)=false) ⟨rfl,none,rfl,λu hu'=>by simp at hu'⟩ (λ_ _ _ z=>by rw[z.1];exact rfl) ?_ ?_
 ·rintro j x ρ S2 E hE hR hx ⟨rfl,o4,rfl,no⟩;obtain⟨t,htj,rfl⟩:=B8 hx;have tl:=(mem_tiesAt.mp (V9 htj))
  have tl:t<es.length:=let ⟨e,he,_⟩:=tl;(gM he).1
  have hc:=v5 (cs:=cs) (t:=t) (by omega);refine⟨_,rfl,_,rfl,_,_,hk1.seq,f8 (r6 hc),_,rfl,Qq hh ⟨_,rfl,ifD (λz=>?_) (λz=>?_)⟩⟩
  ·have e:m6 es cs p h=some t:=Jh htj (decide_eq_true z) no;refine⟨_,rfl,hR _ _ ?_⟩;have:=q S2 G1;rw[e]at this;exact this
  ·refine hE _ _ ⟨rfl,_,rfl,λu hu'=>?_⟩;rw[Vl,htj]at hu';rcases VU.mp hu' with y | y
   ·exact no u y
   ·have:u=t:=by simpa using y
    rw[this];exact decide_eq_false z
 ·rintro ρ S2 ⟨rfl,o4,rfl,no⟩;rw[i6,Vi]at no
  have e:m6 es cs p h=none:=by
   unfold m6;rw[WD];intro u hu' z;rw[no u hu']at z;cases z
  have:=q S2 G1;rw[e]at this;exact this
def Ch(s:Sn):Prop:=∀{n p a b:Nat} {w:SV} {es:EE} {cs:List Nat} {S:Sto} {Q:QE},Hv S w cs->a<1000->b<1000->Prp es cs->(∀ e∈es,e.1<e.2/\e.2<n)->es.length<=1000->p<n->a≠b->(∀ u,AtP es u p->hu cs u≠b)->
 (∀(l:Nat) (S':Sto),Gw S S'->S.length<=l->S'[l]?=some (.lst (c4 (rwF es cs (es.length+1) p a b)))->Q (.loc l) S')->s [g9 n es,w,.int (p:Nat),.int (a:Nat),.int (b:Nat)] S Q
theorem Px(hΔ:∀ f,MonoN (Δ f)){kc ku kh kf:Nat}(hc:AM (Δ kc))(hu':CK (Δ ku))(hh:FO (Δ kh))(hf:Aw (Δ kf)){D:Df}(hb:D.body=Qm kc ku kh kf)(hN:D.N.length=7)(hp:D.ps.length=5):Ch (f6 Δ D):=by
 intro n p a b w es cs S Q hk a9 b9 P hen hel hpn ab hno q;have hne:∀ e∈es,e.1≠e.2:=λe he=>VO (hen e he).1;have hl:=P.len;unfold f6;rw[hb,hN];refine⟨hp.symm,_,rfl,_,rfl,hc hpn ⟨_,rfl,_,rfl,hu' ab ⟨_,rfl,_,rfl,_,rfl,_,rfl,hh hk hl hel hpn b9 λS1 G1=>?_⟩⟩⟩;rw[Jj hno];refine .inl ⟨rfl,_,rfl,ifF rfl (c8 ?_)⟩;refine⟨by show 0<=100000;decide,?_⟩;have hk1:=hk.gw G1;refine⟨_,rfl,_,rfl,_,rfl,_,rfl,hh (hk1.gw (Gw.refl S1).push) hl hel hpn a9 λS2 G2=>?_⟩;have h2:S2[S1.length]?=some (.lst []):=G2.keep _ _ a8;have GS:Gw S S2:=G1.trans ((Gw.refl S1).push.trans G2);have s1:=G1.len;generalize S1.length=l at *;show wSs Δ [rf4 kf kh,(.ret (.var 5))] (A6 Q) [some (g9 n es),some w,some (.int (p:Nat)),some (.int (a:Nat)),some (.int (b:Nat)),some (.loc l),some (Gr (m6 es cs p a))] S2;refine⟨λm ρ S'=>∃(r:List Nat) (x one other:Nat),ρ=[some (g9 n es),some w,some (.int (x:Nat)),some (.int (one:Nat)),some (.int (other:Nat)),some (.loc l),some (Gr (m6 es cs x one))]/\RwI es cs a b p r x one other/\x<n/\r++rwF es cs (es.length+1 - r.length) x one other=rwF es cs (es.length+1) p a b/\m+r.length=es.length+1/\On l S2 S'/\S'[l]?=some (.lst (c4 r)),⟨es.length+1,[],p,a,b,rfl,RwI.nil hno,hpn,rfl,rfl,On.refl _ _,h2⟩,?_⟩;rintro m ρ S' ⟨r,x,one,other,rfl,R,xn,er,em,O,hr⟩;have rl:=R.len;have GS':Gw S S':=Jn GS O s1;have hk':=hk.gw GS';cases hz:m6 es cs x one with
 | none=>
   refine⟨_,rfl,.inl ⟨rfl,_,rfl,ifF rfl ?_⟩⟩
   have e0:rwF es cs (es.length+1 - r.length) x one other=[]:=by
    rw[show es.length+1 - r.length=(es.length - r.length)+1 by omega];unfold rwF;rw[hz]
   rw[e0,Vt]at er;exact⟨_,rfl,q l S' GS' s1 (by rw[hr,er])⟩
 | some t=>
   obtain⟨⟨e,he,hx⟩,hcx⟩:=m5 hz;have hee:=hen e (V9 he);have ge:es.getD t (0,0)=e:=by rw[VA,he];rfl
   have R':=R.step P ab he hx (hne e (V9 he)) hcx;have fn:w5 e x<n:=by unfold w5;split<;>omega
   have e1:rwF es cs (es.length+1 - r.length) x one other=t::rwF es cs (es.length+1 - (r++[t]).length) (w5 e x) other one:=by
    rw[show es.length+1 - r.length=(es.length - r.length)+1 by omega,show es.length+1 - (r++[t]).length=es.length - r.length by rw[V8];simp]
    conv=>lhs;unfold rwF
    rw[hz];dsimp only;rw[ge]
   refine⟨_,rfl,.inl ⟨rfl,_,rfl,ifT rfl ?_⟩⟩;refine⟨_,rfl,⟨_,_,rfl,hr⟩,_,rfl,_,hr,by rw[i6];show _<100000;omega,?_⟩;have h3:(S'.set l (.lst (c4 r++[.int (t:Nat)])))[l]?=some (.lst (c4 (r++[t]))):=by rw[k9 hr,u8];rfl
   have O3:On l S2 (S'.set l (.lst (c4 r++[.int (t:Nat)]))):=O.tape;have hk3:=hk.gw (Jn GS O3 s1);show wSs Δ [(.asg (.nm 2) (.call kf (.cons (.var 0) (.cons (.var 6) (.cons (.var 2) .nil))))),(.par 3 4 (.var 4) (.var 3)),(.asg (.nm 6) (.call kh (.cons (.var 0) (.cons (.var 1) (.cons (.var 2) (.cons (.var 3) .nil))))))] _ [some (g9 n es),some w,some (.int (x:Nat)),some (.int (one:Nat)),some (.int (other:Nat)),some (.loc l),some (.int (t:Nat))] (S'.set l (.lst (c4 r++[.int (t:Nat)])));generalize S'.set l (.lst (c4 r++[.int (t:Nat)]))=S3 at *;refine⟨_,rfl,_,rfl,_,rfl,hf he (hx.imp Eq.symm Eq.symm) ?_⟩;refine⟨_,rfl,_,rfl,?_⟩;refine⟨_,rfl,_,rfl,_,rfl,_,rfl,hh hk3 hl hel fn (by rcases R.ab.2 with z | z<;>rw[z]<;>assumption) λS4 G4=>?_⟩;refine⟨es.length+1 - (r++[t]).length,by rw[V8];simp;omega,r++[t],w5 e x,other,one,rfl,R',fn,?_,?_,O3.trans (Ud G4),G4.keep _ _ h3⟩
   ·rw[<-er,e1];simp
   ·have:=R'.len;omega
def FP(s:Sn):Prop:=∀{n l a b:Nat} {w:SV} {es:EE} {cs r:List Nat} {S:Sto} {Q:QE},Hv S w cs->a<1000->b<1000->S[l]?=some (.lst (c4 r))->cs.length=es.length->(∀ e∈es,e.1<e.2/\e.2<n)->es.length<=60->a≠b->(∀ t∈r,t<es.length)->(∀ t∈r,hu cs t=a\/hu cs t=b)->r.length<=1000->Prp es (exL cs r a b)->
 (∀(l':Nat) (S':Sto),Gw S S'->S.length<=l'->S'[l']?=some (.lst (c9 (exL cs r a b)))->Q (.loc l') S')->s [g9 n es,w,.loc l,.int (a:Nat),.int (b:Nat)] S Q
theorem NZ(hΔ:∀ f,MonoN (Δ f)){ku kt ki:Nat}(hu':CK (Δ ku))(ht:CG (Δ kt))(hi:B9 (Δ ki)){D:Df}(hb:D.body=Qn ku kt ki)(hN:D.N.length=7)(hp:D.ps.length=5):FP (f6 Δ D):=by
 intro n l a b w es cs r S Q hk a9 b9 hl hcl hen hel ab rlt rab rlen P q;unfold f6;rw[hb,hN];refine⟨hp.symm,_,rfl,_,rfl,hu' ab ⟨_,rfl,_,hk.seq,?_⟩⟩;show wSs Δ [ec2 kt,(.iff (.not (.call ki (.cons (.var 0) (.cons (.var 5) .nil)))) [.no] []),(.ret (.var 5))] (A6 Q) [some (g9 n es),some w,some (.loc l),some (.int (a:Nat)),some (.int (b:Nat)),some (.loc S.length),none] (S++[.lst (c9 cs)]);have ll:=(gM hl).1;refine⟨_,rfl,_,a7 (j5 hl),?_⟩;refine v9 (i7 hΔ _) (λi ρ S'=>∃ o6:Option SV,ρ=[some (g9 n es),some w,some (.loc l),some (.int (a:Nat)),some (.int (b:Nat)),some (.loc S.length),o6]/\On S.length (S++[.lst (c9 cs)]) S'/\S'[S.length]?=some (.lst (c9 (exL cs (r.take i) a b)))) ⟨none,rfl,On.refl _ _,by rw[YU,Jk];exact a8⟩ (λi ρ S' h=>?_) ?_ ?_
 ·obtain⟨_,_,O,_⟩:=h;show S'[l]?=(S++[SO.lst (c9 cs)])[l]?;rw[j5 hl];exact O.keep _ _ (by omega) (j5 hl)
 ·rintro i x ρ S' hx ⟨o6,rfl,O,h5⟩;obtain⟨t,hti,rfl⟩:=B8 hx;have tr:=V9 hti;have tl:=rlt t tr;have hk':=hk.gw (Jn (Gw.refl S).push O (VF _));have hc:=v5 (cs:=cs) (t:=t) (by omega);have hc9:hu cs t<1000:=by rcases rab t tr with z | z<;>rw[z]<;>assumption
  have hcp:(c9 cs)[t]?=some (.int (hu cs t:Nat)):=by rw[r6 hc,n0 hc9]
  have e:r.take (i+1)=r.take i++[t]:=by rw[Vl,hti];rfl
  refine⟨_,rfl,_,rfl,ht tl ⟨_,rfl,ifF rfl ⟨_,rfl,_,rfl,_,_,hk'.seq,f8 hcp,_,rfl,_,rfl,by show 2<=100000;decide,rfl,_,rfl,rfl,_,rfl,?_⟩⟩⟩
  have inn:(!inS (.int (hu cs t:Nat)) [.int (a:Nat),.int (b:Nat)])=false:=by
   rcases rab t tr with z | z<;>rw[z]<;>simp[inS,eqF]
  refine ifF inn (c8 ?_)
  have fin:∀ z:Int,z=((if hu cs t=a then b else a:Nat):Int)->Ca (.loc S.length) (.int (t:Nat)) (.int z) S' λS4=>∃ o6:Option SV,[some (g9 n es),some w,some (.loc l),some (.int (a:Nat)),some (.int (b:Nat)),some (.loc S.length),some (.int (t:Nat))]=[some (g9 n es),some w,some (.loc l),some (.int (a:Nat)),some (.int (b:Nat)),some (.loc S.length),o6]/\On S.length (S++[.lst (c9 cs)]) S4/\S4[S.length]?=some (.lst (c9 (exL cs (r.take (i+1)) a b))):=by
   rintro _ rfl;refine⟨_,t,h5,Bg (by rw[p8,AH];omega),_,rfl,O.tape,?_⟩;rw[k9 h5,e,Gs (by omega)];unfold c9;rw[XF,n0 (by split<;>assumption)]
  refine⟨_,rfl,_,rfl,_,_,hk'.seq,f8 hcp,_,rfl,_,rfl,ifD (λz=>⟨_,rfl,_,rfl,_,rfl,fin _ ?_⟩) (λz=>⟨_,rfl,_,rfl,_,rfl,fin _ ?_⟩)⟩
  ·have z:hu cs t=a:=Vg.mp z;rw[iP z]
  ·have z:¬ hu cs t=a:=λy=>z (congrArg _ y);rw[iG z]
 ·rintro ρ S' ⟨o6,rfl,O,h5⟩;rw[i6,Vi]at h5;refine⟨_,rfl,_,rfl,hi hen hel (NV h5 (by rw[AH];omega)) λrr S2 G2 e2=>?_⟩;have:rr=true:=e2.mpr ⟨_,a7 h5,Jm P⟩;subst this;refine⟨_,rfl,ifF rfl (c8 ⟨_,rfl,q S.length S2 ?_ (VF _) (G2.keep _ _ h5)⟩)⟩;refine⟨Ve (Ve (by rw[V8];omega) O.len) G2.len,λj o h=>G2.keep _ _ (O.keep j o ?_ (j5 h))⟩;exact VO (gM h).1
def Ci(s:Sn):Prop:=∀{n p:Nat} {w:SV} {es:EE} {cs:List Nat} {S:Sto} {Q:QE},Hv S w cs->cs.length=es.length->es.length<=60->p<n->(∀(l:Nat) (ns:List Int) (S':Sto),Gw S S'->S'[l]?=some (.lst (ns.map SV.int))->(∀ h:Nat,h<1000->((h:Int)∈ns↔∃ u,AtP es u p/\hu cs u=h))->Q (.loc l) S')->s [g9 n es,w,.int (p:Nat)] S Q
theorem Ia(hΔ:∀ f,MonoN (Δ f)){kt:Nat}(ht:BX (Δ kt)){D:Df}(hb:D.body=Jl kt)(hN:D.N.length=3)(hp:D.ps.length=3):Ci (f6 Δ D):=by
 intro n p w es cs S Q hk hl hel hpn q;unfold f6;rw[hb,hN];refine⟨hp.symm,_,rfl,_,rfl,ht (by omega) hpn ⟨_,a7 a8,?_⟩⟩;have G1:Gw S (S++[SO.lst (c4 (f9 es p es.length))]):=(Gw.refl S).push;have hk1:=hk.gw G1;generalize S++[SO.lst (c4 (f9 es p es.length))]=S1 at *;have tl:(f9 es p es.length).length<=es.length:=Ai _ _
 have fl:∀ j,((((f9 es p es.length).take j).map (hu cs)).filter λc=>decide (c<1000)).length<=es.length:=λj=>by
  have:=Wc (λc=>decide (c<1000)) (((f9 es p es.length).take j).map (hu cs));rw[V7,Vy]at this;omega
 refine i4 (j7 hΔ _).2 (a5 hΔ _).1 (λj ys S2=>S2=S1/\ys=c4 ((((f9 es p es.length).take j).map (hu cs)).filter λc=>decide (c<1000))) ⟨rfl,rfl⟩ (λ_ _ _ z=>by rw[z.1];exact rfl) ?_ ?_
 ·rintro j x ys S2 hx ⟨rfl,rfl⟩;obtain⟨t,htj,rfl⟩:=B8 hx;obtain⟨e,he,_⟩:=mem_tiesAt.mp (V9 htj);have hc:=v5 (cs:=cs) (t:=t) (by have:=(gM he).1;omega);have hjl:=(gM htj).1
  have es':(((f9 es p es.length).take (j+1)).map (hu cs)).filter (λc=>decide (c<1000))=(((f9 es p es.length).take j).map (hu cs)).filter (λc=>decide (c<1000))++if decide (hu cs t<1000)=true then [hu cs t] else []:=by
   rw[Vl,htj,VM,Wr]
   congr 1
   show YK (λc=>decide (c<1000)) [hu cs t]=_;rw[WL];rfl
  refine⟨_,rfl,_,rfl,_,_,hk1.seq,f8 (r6 hc),.inl ⟨rfl,_,rfl,?_⟩⟩;show if (if true=true then !y7 (pS (hu cs t)) else y7 (pS (hu cs t)))=true then _ else _
  rw[iP rfl,C2,Y9];refine ifD (λz=>?_) (λz=>⟨rfl,?_⟩)
  ·rw[iP (decide_eq_true z)]at es';refine⟨_,rfl,_,rfl,_,_,hk1.seq,f8 (r6 hc),by rw[i6];have:=fl j;show _<100000;omega,rfl,?_⟩;rw[es',u8,n0 z];rfl
  ·rw[iG (by simpa using z),Vt]at es';rw[es']
 ·rintro ys S2 ⟨rfl,rfl⟩;rw[i6,Vi];have fl':=fl (f9 es p es.length).length;rw[Vi]at fl';refine⟨_,_,nofun,a7 a8,Jb _,by rw[V7];omega,?_⟩;refine q _ _ _ G1.push.push a8 λh hh=>?_;rw[Pu];constructor
  ·intro z;obtain⟨c,hc,e⟩:=VX.mp z;obtain⟨u,hu',rfl⟩:=VX.mp (Vs.mp hc).1;exact⟨u,mem_tiesAt.mp hu',Vg.mp e⟩
  ·rintro⟨u,hu',rfl⟩;exact VX.mpr ⟨_,Vs.mpr ⟨VX.mpr ⟨u,mem_tiesAt.mpr hu',rfl⟩,decide_eq_true hh⟩,rfl⟩
def Bj(s:Sn):Prop:=∀{n H p:Nat} {w:SV} {es:EE} {cs:List Nat} {S:Sto} {Q:QE},Hv S w cs->cs.length=es.length->es.length<=60->p<n->H<=1000->(∀(l:Nat) (S':Sto),Gw S S'->S.length<=l->S'[l]?=some (.lst (c4 (frL es cs p H)))->Q (.loc l) S')->s [g9 n es,w,.int (p:Nat),.int (H:Nat)] S Q
theorem Na(hΔ:∀ f,MonoN (Δ f)){ka:Nat}(ha:Ci (Δ ka)){D:Df}(hb:D.body=NX ka)(hN:D.N.length=5)(hp:D.ps.length=4):Bj (f6 Δ D):=by
 intro n H p w es cs S Q hk hl hel hpn hH q;unfold f6;rw[hb,hN];refine⟨hp.symm,_,rfl,_,rfl,_,rfl,ha hk hl hel hpn λl ns S1 G1 h1 mem=>⟨_,rfl,_,rfl,⟨by omega,by omega⟩,?_⟩⟩;refine i4 (j7 hΔ _).2 (a5 hΔ _).1 (λj ys S2=>S2=S1/\ys=c4 ((VD j).filter λh=>(m6 es cs p h).isNone)) ⟨rfl,rfl⟩ (λ_ _ _ _=>trivial) ?_ ?_
 ·rintro j x ys S2 hx ⟨rfl,rfl⟩;have jl:j<H:=by have:=(gM hx).1;rw[m4]at this;omega
  obtain⟨rfl,hj⟩:=p0 hx;rw[Wh]at hj ⊢;have fs:=CI (λh=>(m6 es cs p h).isNone) j;have fl:=Ai (λh=>(m6 es cs p h).isNone) j;refine⟨_,rfl,_,rfl,?_⟩;show match BC (.loc l) S2 with | some ms=>_ | none=>_
  rw[AV h1];refine⟨rfl,_,a7 h1,NT _,_,rfl,?_⟩;show if (!inS (.int (j:Nat)) (ns.map SV.int))=true then _ else _
  rw[Sj]
  have e:(!decide ((j:Int)∈ns))=(m6 es cs p j).isNone:=by
   cases ht:m6 es cs p j with
   | none=>
     have:¬ (j:Int)∈ns:=λz=>by
      obtain⟨u,u1,u2⟩:=(mem j (by omega)).mp z;exact AD ht u u1 u2
     rw[decide_eq_false this];rfl
   | some t=>
     have:(j:Int)∈ns:=(mem j (by omega)).mpr ⟨t,(m5 ht).1,(m5 ht).2⟩;rw[decide_eq_true this];rfl
  rw[e];refine ifB (λz=>?_) (λz=>⟨rfl,?_⟩)
  ·rw[iP z]at fs;exact⟨_,rfl,by rw[i6];show _<100000;omega,rfl,by rw[fs,u8];rfl⟩
  ·rw[iG (by rw[z];decide),Vt]at fs;rw[fs]
 ·rintro ys S2 ⟨rfl,rfl⟩;rw[m4,show((H:Int) - 0).toNat=H by omega];exact q _ _ G1.push G1.len a8
end
inductive Sp3 where
 | hue (t h:Nat)
 | move (t u:Nat)
 | row (p a b:Nat)
def st3(es:EE)(cs:List Nat):Sp3->List Nat
 | .hue t h=>cs.set t h
 | .move t u=>(cs.set t (1000+t)).set u (hu cs t)
 | .row p a b=>exL cs (rwF es cs (es.length+1) p a b) a b
def Ok3(n H:Nat)(es:EE)(cs:List Nat):Sp3->Prop
 | .hue t h=>t<es.length/\¬ hu cs t<1000/\h<H/\∀ y,AtP es t y->∀ u,AtP es u y->hu cs u≠h
 | .move t u=>t<es.length/\u<es.length/\hu cs t<H/\¬ hu cs u<1000/\(∃ y,AtP es t y/\AtP es u y)/\∀ y,AtP es u y->∀ v,AtP es v y->hu cs v=hu cs t->v=t
 | .row p a b=>a<H/\b<H/\a≠b/\p<n/\∀ u,AtP es u p->hu cs u≠b
structure Hg(H:Nat)(es:EE)(cs:List Nat):Prop where
 P:Prp es cs
 cod:∀ u,u<es.length->hu cs u<H\/hu cs u=1000+u
section
variable{n H:Nat}{es:EE}{cs:List Nat}
theorem Hg.bare(h:Hg H es cs){u:Nat}(ul:u<es.length)(z:¬ hu cs u<1000)(hH:H<=1000):hu cs u=1000+u:=by
 rcases h.cod u ul with y | y
 ·omega
 ·exact y
theorem Jo{t u v:Nat}(tl:t<cs.length)(ul:u<cs.length):hu (st3 es cs (.move t u)) v=if v=u then hu cs t else if v=t then 1000+t else hu cs v:=by
 show hu ((cs.set t (1000+t)).set u (hu cs t)) v=_;rw[FN (by rw[Vp];exact ul),FN tl]
theorem Jp(s:Sp3):(st3 es cs s).length=cs.length:=by
 cases s with
 | hue t h=>exact Vp ..
 | move t u=>show((cs.set t (1000+t)).set u (hu cs t)).length=_;rw[Vp,Vp]
 | row p a b=>exact AH ..
theorem FQ(h:Hg H es cs){r:List Nat}{a b u:Nat}(ul:u<es.length):hu (exL cs r a b) u=if u∈r then (if hu cs u=a then b else a) else hu cs u:=Dj (by rw[h.P.len];exact ul)
theorem C3(g:Hg H es cs)(hen:∀ e∈es,e.1<e.2/\e.2<n)(hH:H<=1000){s:Sp3}(h:Ok3 n H es cs s):Hg H es (st3 es cs s):=by
 have pl:=g.P.len;cases s with
 | hue t h'=>
   obtain⟨tl,h0,h1,h2⟩:=h;have e:∀ v,hu (st3 es cs (.hue t h')) v=if v=t then h' else hu cs v:=λv=>FN (by omega)
   refine⟨⟨(Jp _).trans pl,λv u y hv hu' q=>?_⟩,λu ul=>?_⟩
   ·rw[e,e]at q;by_cases e1:v=t
    ·by_cases e2:u=t
     ·rw[e1,e2]
     ·rw[iP e1,iG e2]at q;subst e1;exact absurd q.symm (h2 y hv u hu')
    ·by_cases e2:u=t
     ·rw[iG e1,iP e2]at q;subst e2;exact absurd q (h2 y hu' v hv)
     ·rw[iG e1,iG e2]at q;exact g.P.one v u y hv hu' q
   ·rw[e];split
    ·exact .inl h1
    ·exact g.cod u ul
 | move t u=>
   obtain⟨tl,ul,h1,h2,_,h3⟩:=h;have e:∀ v,hu (st3 es cs (.move t u)) v=if v=u then hu cs t else if v=t then 1000+t else hu cs v:=λv=>Jo (by omega) (by omega)
   have key:∀ v w y,AtP es v y->AtP es w y->hu (st3 es cs (.move t u)) v=hu (st3 es cs (.move t u)) w->v≠w->w≠u->v=w:=by
    intro v w y hv hw q ne wu;rw[e,e,iG wu]at q;by_cases vu:v=u
    ·rw[iP vu]at q;by_cases wt:w=t
     ·rw[iP wt]at q;omega
     ·rw[iG wt]at q;subst vu;exact absurd (h3 y hv w hw q.symm) wt
    ·rw[iG vu]at q;by_cases vt:v=t
     ·rw[iP vt]at q;by_cases wt:w=t
      ·exact absurd (vt.trans wt.symm) ne
      ·rw[iG wt]at q;rcases g.cod w hw.lt with z | z<;>omega
     ·rw[iG vt]at q;by_cases wt:w=t
      ·rw[iP wt]at q;rcases g.cod v hv.lt with z | z<;>omega
      ·rw[iG wt]at q;exact g.P.one v w y hv hw q
   refine⟨⟨(Jp _).trans pl,λv w y hv hw q=>?_⟩,λv vl=>?_⟩
   ·by_cases ne:v=w
    ·exact ne
    ·by_cases wu:w=u
     ·exact(key w v y hw hv q.symm (Ne.symm ne) (λz=>ne (z.trans wu.symm))).symm
     ·exact key v w y hv hw q ne wu
   ·rw[e];split
    ·exact .inl h1
    ·split
     ·next z=>exact .inr (by rw[z])
     ·exact g.cod v vl
 | row p a b=>
   obtain⟨a1,b1,ab,pn,no⟩:=h;obtain⟨x,o1,o2,R,last⟩:=CL g.P hen ab no;refine⟨Se g.P (R.clo last) (CM R),λu ul=>?_⟩;show hu (exL cs _ a b) u<H\/hu (exL cs _ a b) u=_;rw[FQ g ul];split
   ·split<;>exact .inl (by assumption)
   ·exact g.cod u ul
end
def AY(es:EE)(cs:List Nat)(sts:List Sp3):List Nat:=sts.foldl (λc s=>st3 es c s) cs
def OkR3(n H:Nat)(es:EE):List Nat->List Sp3->Prop
 | _,[]=>True
 | cs,s::ss=>Ok3 n H es cs s/\OkR3 n H es (st3 es cs s) ss
theorem OkR3.hg{n H:Nat}{es:EE}(hen:∀ e∈es,e.1<e.2/\e.2<n)(hH:H<=1000):∀{a:List Sp3} {cs:List Nat},Hg H es cs->OkR3 n H es cs a->Hg H es (AY es cs a)
 | [],_,g,_=>g
 | s::a,cs,g,h=>OkR3.hg hen hH (a:=a) (C3 g hen hH h.1) h.2
def farT(es:EE)(p t:Nat):Nat:=w5 (es.getD t (0,0)) p
def AZ:List Nat->Nat->List Sp3
 | [],_=>[]
 | [w],h=>[.hue w h]
 | a::b::r,h => .move b a::AZ (b::r) h
def Chn(es:EE)(cs:List Nat)(p H:Nat)(ws:List Nat):Prop:=∀ k a b:Nat,ws[k]?=some a->ws[k+1]?=some b->hu cs b∈frL es cs (farT es p a) H
def LB(H:Nat)(es:EE)(cs ds:List Nat)(t:Nat):Prop:=hu ds t<H/\∀ u,u<es.length->u≠t->(hu ds u<H↔hu cs u<H)
theorem Jq{es:EE}{t p y:Nat}(h:AtP es t p)(hy:AtP es t y):y=p\/y=farT es p t:=by
 obtain⟨e,he,hp⟩:=h;obtain⟨e',he',hy⟩:=hy;rw[he]at he';cases he';unfold farT w5;rw[show es.getD t (0,0)=e by rw[VA,he];rfl];rcases hp with hp | hp<;>rcases hy with hy | hy<;>split<;>omega
theorem Cj{n:Nat}{es:EE}(hen:∀ e∈es,e.1<e.2/\e.2<n){t p:Nat}(h:AtP es t p):farT es p t≠p/\farT es p t<n:=by
 obtain⟨e,he,hp⟩:=h;have:=hen e (V9 he);unfold farT w5;rw[show es.getD t (0,0)=e by rw[VA,he];rfl];split<;>omega
theorem Gx{n H p h:Nat}{es:EE}(hen:∀ e∈es,e.1<e.2/\e.2<n)(hH:H<=1000):∀(r:List Nat) (a:Nat) (cs:List Nat),Hg H es cs->(a::r).Nodup->(∀ w∈a::r,AtP es w p)->hu cs a=1000+a->Chn es cs p H (a::r)->h∈frL es cs p H->h∈frL es cs (farT es p ((a::r).getLastD 0)) H->OkR3 n H es cs (AZ (a::r) h)/\LB H es cs (AY es cs (AZ (a::r) h)) a
 | [],a,cs,g,nd,at',ba,_,h1,h2=>by
   have al:=(at' a (VN ..)).lt;obtain⟨hh,f1⟩:=mem_frL.mp h1;obtain⟨_,f2⟩:=mem_frL.mp h2;have e:∀ v,hu (st3 es cs (.hue a h)) v=if v=a then h else hu cs v:=λv=>FN (by rw[g.P.len];exact al)
   refine⟨⟨⟨al,by omega,hh,λy hy=>?_⟩,trivial⟩,?_,λu ul ne=>?_⟩
   ·rcases Jq (at' a (VN ..)) hy with z | z
    ·rw[z];exact f1
    ·rw[z];exact f2
   ·show hu (st3 es cs (.hue a h)) a<H;rw[e,iP rfl];exact hh
   ·show hu (st3 es cs (.hue a h)) u<H↔_;rw[e,iG ne]
 | b::r,a,cs,g,nd,at',ba,ch,h1,h2=>by
   have pl:=g.P.len;have aa:=at' a (VN ..);have ab:=at' b (VI _ (VN ..));have al:=aa.lt;have bl:=ab.lt;obtain⟨nd1,nd2⟩:=Vx.mp nd;have nab:a≠b:=λz=>nd1 (z▸VN ..);obtain⟨hb,fb⟩:=mem_frL.mp (ch 0 a b rfl rfl);have e:∀ v,hu (st3 es cs (.move b a)) v=if v=a then hu cs b else if v=b then 1000+b else hu cs v:=λv=>Jo (by omega) (by omega)
   have ok:Ok3 n H es cs (.move b a):=⟨bl,al,hb,by omega,⟨p,ab,aa⟩,λy hy v hv q=>by
    rcases Jq aa hy with z | z
    ·rw[z]at hv;exact g.P.one v b p hv ab q
    ·rw[z]at hv;exact absurd q (fb v hv)⟩
   have g':=C3 g hen hH ok
   have fr:∀(x y:Nat),x≠hu cs b->x∈frL es cs y H->x∈frL es (st3 es cs (.move b a)) y H:=λx y nx hx=>by
    obtain⟨x1,x2⟩:=mem_frL.mp hx;refine mem_frL.mpr ⟨x1,λu hu'=>?_⟩;rw[e];split
    ·exact Ne.symm nx
    ·split
     ·omega
     ·exact x2 u hu'
   have hne:∀ w∈r,w≠a/\w≠b:=λw hw=>⟨λz=>nd1 (z▸VI _ hw),λz=>(Vx.mp nd2).1 (z▸hw)⟩
   have hb':h≠hu cs b:=λz=>(mem_frL.mp h1).2 b ab z.symm
   have ch':Chn es (st3 es cs (.move b a)) p H (b::r):=λk c d h3 h4=>by
    have dr:d∈r:=V9 (by simpa using h4);have:=ch (k+1) c d (by simpa using h3) (by simpa using h4);rw[e,iG (hne d dr).1,iG (hne d dr).2];refine fr _ _ (λz=>(hne d dr).2 ?_) this;exact g.P.one d b p (at' d (VI _ (VI _ dr))) ab z
   obtain⟨k1,k2,k3⟩:=Gx hen hH r b (st3 es cs (.move b a)) g' nd2 (λw hw=>at' w (VI _ hw)) (by rw[e,iG nab.symm,iP rfl]) ch' (fr _ _ hb' h1) (fr _ _ hb' h2);refine⟨⟨ok,k1⟩,?_,λu ul ne=>?_⟩
   ·show hu (AY es (st3 es cs (.move b a)) (AZ (b::r) h)) a<H;rw[k3 a al nab,e,iP rfl];exact hb
   ·show hu (AY es (st3 es cs (.move b a)) (AZ (b::r) h)) u<H↔_;by_cases z:u=b
    ·rw[z];exact⟨λ_=>hb,λ_=>k2⟩
    ·rw[k3 u ul z,e,iG ne,iG z]
abbrev Fan:=List (Nat×Option Nat)
theorem Nb{α β:Type}{f:α->Option β}:∀{xs:List α} {j:Nat} {x:α} {y:β},xs[j]?=some x->f x=some y->(∀ u∈xs.take j,f u=none)->xs.findSome? f=some y
 | [],_,_,_,h,_,_=>by simp at h
 | a::xs,0,x,y,h,e,_=>by
   simp at h;subst h;rw[Xx,e]
 | a::xs,j+1,x,y,h,e,no=>by
   rw[Xx,no a (by simp)];exact Nb (j:=j) (by simpa using h) e λu hu'=>no u (by simp[hu'])
def frs(es:EE)(cs:List Nat)(p H:Nat)(F:Fan):List (List Nat):=F.map λx=>frL es cs (farT es p x.1) H
def Aa(cs:List Nat)(t:Nat)(L:List (List Nat)):Option Nat:=L.findIdx? λl=>decide (hu cs t∈l)
def Ax(es:EE)(cs:List Nat)(p H:Nat)(F:Fan):Option (Nat×Nat):=(f9 es p es.length).findSome? λt=>if t∈F.map (·.1) then none else (Aa cs t (frs es cs p H F)).map λb=>(t,b)
def Bn(es:EE)(cs:List Nat)(p H:Nat):Nat->Fan->Fan
 | 0,F=>F
 | k+1,F=>match Ax es cs p H F with
   | none=>F
   | some x=>Bn es cs p H k (F++[(x.1,some x.2)])
structure FanI(es:EE)(cs:List Nat)(p H t0:Nat)(F:Fan):Prop where
 fst:F[0]?=some (t0,none)
 nd:(F.map (·.1)).Nodup
 att:∀ x∈F,AtP es x.1 p
 bk:∀(i t:Nat) (o:Option Nat),0<i->F[i]?=some (t,o)->∃(b u:Nat) (c:Option Nat),o=some b/\b<i/\F[b]?=some (u,c)/\hu cs t∈frL es cs (farT es p u) H/\∀(b' u':Nat) (c':Option Nat),b'<b->F[b']?=some (u',c')->hu cs t∉frL es cs (farT es p u') H
def So(es:EE)(cs:List Nat)(p H:Nat)(F:Fan):Prop:=∀ t,AtP es t p->t∉F.map (·.1)->∀ x∈F,hu cs t∉frL es cs (farT es p x.1) H
section
variable{n H p t0:Nat}{es:EE}{cs:List Nat}{F:Fan}
theorem FanI.one(h:AtP es t0 p):FanI es cs p H t0 [(t0,none)]:=⟨rfl,by simp,λx hx=>by rw[VQ.mp hx];exact h,λi t o h e=>by
 have:=(gM e).1;simp at this;omega⟩
theorem FanI.len(h:FanI es cs p H t0 F):F.length<=es.length:=by
 have:=List.Nodup.length_le_of_subset h.nd (l₂:=VD es.length) λt ht=>by
  obtain⟨x,hx,rfl⟩:=VX.mp ht;exact VW.mpr (h.att x hx).lt
 rwa [Vm,V7]at this
theorem LC{t b:Nat}(h:Aa cs t (frs es cs p H F)=some b):∃ u c,F[b]?=some (u,c)/\hu cs t∈frL es cs (farT es p u) H/\∀(b' u':Nat) (c':Option Nat),b'<b->F[b']?=some (u',c')->hu cs t∉frL es cs (farT es p u') H:=by
 unfold Aa at h;obtain⟨hb,h1,h2⟩:=X4.mp h;have bl:b<F.length:=by unfold frs at hb;rwa [V7]at hb
 refine⟨F[b].1,F[b].2,VB bl,?_,λb' u' c' lt e z=>?_⟩
 ·have:=of_decide_eq_true h1
  rwa [show(frs es cs p H F)[b]=frL es cs (farT es p F[b].1) H by simp[frs]]at this
 ·have:=h2 b' lt;apply this;obtain⟨_,e⟩:=gM e;rw[dQ,show(frs es cs p H F)[b']=frL es cs (farT es p F[b'].1) H by simp[frs],e];exact z
theorem LD{t:Nat}(h:Aa cs t (frs es cs p H F)=none):∀ x∈F,hu cs t∉frL es cs (farT es p x.1) H:=λx hx z=>by
 unfold Aa at h;rw[XO]at h;have:=h _ (VX.mpr ⟨x,hx,rfl⟩);rw[decide_eq_true z]at this;cases this
theorem LF{x:Nat×Nat}(h:Ax es cs p H F=some x):AtP es x.1 p/\x.1∉F.map (·.1)/\Aa cs x.1 (frs es cs p H F)=some x.2:=by
 unfold Ax at h;obtain⟨t,ht,e⟩:=List.exists_of_findSome?_eq_some h;split at e
 ·cases e
 ·next hn=>
  cases hb:Aa cs t (frs es cs p H F) with
  | none=>rw[hb]at e;cases e
  | some b=>
    rw[hb]at e;cases e;exact⟨mem_tiesAt.mp ht,hn,hb⟩
theorem LG(h:Ax es cs p H F=none):So es cs p H F:=by
 intro t ht hn;unfold Ax at h;rw[WQ]at h;have:=h t (mem_tiesAt.mpr ht);rw[iG hn]at this;cases hb:Aa cs t (frs es cs p H F) with
 | some b=>rw[hb]at this;cases this
 | none=>exact LD hb
theorem FanI.snoc(I:FanI es cs p H t0 F){x:Nat×Nat}(h:Ax es cs p H F=some x):FanI es cs p H t0 (F++[(x.1,some x.2)]):=by
 obtain⟨h1,h2,h3⟩:=LF h;obtain⟨u,c,k1,k2,k3⟩:=LC h3;have bl:=(gM k1).1;have f0:=(gM I.fst).1;refine⟨by rw[VP f0];exact I.fst,?_,λy hy=>?_,λi t o hi e=>?_⟩
 ·rw[VM,WY];refine⟨I.nd,by simp,λa ha b hb z=>h2 ?_⟩;have:b=x.1:=by simpa using hb
  rw[<-this,<-z];exact ha
 ·rcases VU.mp hy with z | z
  ·exact I.att y z
  ·rw[VQ.mp z];exact h1
 ·have old:∀{j:Nat} {y:Nat×Option Nat},F[j]?=some y->(F++[(x.1,some x.2)])[j]?=some y:=λ{j y} e=>by
   rw[VP (gM e).1];exact e
  have new:∀{j:Nat} {y:Nat×Option Nat},j<F.length->(F++[(x.1,some x.2)])[j]?=some y->F[j]?=some y:=λ{j y} hj e=>by
   rwa [VP hj]at e
  rcases NJ e with⟨e1,e2⟩ | e
  ·cases e2;exact⟨x.2,u,c,rfl,by omega,old k1,k2,λb' u' c' lt e'=>k3 b' u' c' lt (new (by omega) e')⟩
  ·obtain⟨b,u,c,q1,q2,q3,q4,q5⟩:=I.bk i t o hi e;have:=(gM q3).1;exact⟨b,u,c,q1,q2,old q3,q4,λb' u' c' lt e'=>q5 b' u' c' lt (new (by omega) e')⟩
theorem FR:∀(k:Nat) (F:Fan),FanI es cs p H t0 F->es.length<F.length+k->FanI es cs p H t0 (Bn es cs p H k F)/\So es cs p H (Bn es cs p H k F)
 | 0,F,I,h=>by have:=I.len;omega
 | k+1,F,I,h=>by
   unfold Bn;cases hz:Ax es cs p H F with
   | none=>exact⟨I,LG hz⟩
   | some x=>exact FR k _ (I.snoc hz) (by rw[V8];simp;omega)
end
def upF(F:Fan):Nat->Option Nat->List Nat
 | _,none=>[]
 | 0,some _=>[]
 | k+1,some i=>match F[i]? with
   | none=>[]
   | some x=>x.1::upF F k x.2
def Lnk(es:EE)(cs:List Nat)(p H:Nat)(F:Fan)(m:Nat):Prop:=∀(i t b u:Nat) (c:Option Nat),i<=m->F[i]?=some (t,some b)->F[b]?=some (u,c)->hu cs t∈frL es cs (farT es p u) H
section
variable{n H p t0 m:Nat}{es:EE}{cs ds:List Nat}{F:Fan}
theorem Qr(I:FanI es cs p H t0 F)(L:Lnk es ds p H F m):∀(k i:Nat),i<k->i<=m->i<F.length->(upF F k (some i)).getLast?=some t0/\(upF F k (some i))[0]?=(F[i]?).map (·.1)/\(∀ w∈upF F k (some i),∃ j x,j<=i/\F[j]?=some x/\x.1=w)/\(upF F k (some i)).Nodup/\∀(j a b:Nat),(upF F k (some i))[j]?=some b->(upF F k (some i))[j+1]?=some a->hu ds b∈frL es ds (farT es p a) H
 | 0,i,h,_,_=>by omega
 | k+1,i,h,hm,hi=>by
   obtain⟨x,hx⟩:∃ x,F[i]?=some x:=⟨_,VB hi⟩
   have e:upF F (k+1) (some i)=x.1::upF F k x.2:=by
    show(match F[i]? with | none=>[] | some x=>x.1::upF F k x.2)=_;rw[hx]
   rw[e];by_cases z:i=0
   ·subst z;rw[I.fst]at hx;cases hx;have e2:upF F k none=[]:=by cases k<;>rfl
    rw[e2,I.fst];refine⟨rfl,rfl,λw hw=>⟨0,_,VF _,I.fst,(VQ.mp hw).symm⟩,by simp,λj a b h1 h2=>?_⟩;simp at h2
   ·obtain⟨t,o⟩:=x;obtain⟨b,u,c,rfl,bi,hb,_,_⟩:=I.bk i t o (by omega) hx;have bl:=(gM hb).1;obtain⟨k1,k2,k3,k4,k5⟩:=Qr I L k b (by omega) (by omega) bl;refine⟨?_,by rw[hx];rfl,λw hw=>?_,?_,λj a b' h1 h2=>?_⟩
    ·show(t::upF F k (some b)).getLast?=_;have ne:upF F k (some b)≠[]:=λz=>by rw[z]at k1;cases k1
     rw[List.getLast?_cons,k1];rfl
    ·rcases VT.mp hw with z | z
     ·exact⟨i,_,VF _,hx,z.symm⟩
     ·obtain⟨j,y,j1,j2,j3⟩:=k3 w z;exact⟨j,y,by omega,j2,j3⟩
    ·refine Vx.mpr ⟨λhw=>?_,k4⟩;obtain⟨j,y,j1,j2,j3⟩:=k3 _ hw;have m1:(F.map (·.1))[j]?=some t:=by rw[VG,j2];exact congrArg some j3
     have m2:(F.map (·.1))[i]?=some t:=by rw[VG,hx];rfl
     have:=(Y5 ((gM m1).1) I.nd).mp (m1.trans m2.symm);omega
    ·cases j with
     | zero=>
       have e1:t=b':=by simpa using h1
       have h2:(upF F k (some b))[0]?=some a:=by simpa using h2
       rw[k2,hb]at h2;have e2:u=a:=by simpa using h2
       rw[<-e1,<-e2];exact L i t b u c hm hx hb
     | succ j=>exact k5 j a b' (by simpa using h1) (by simpa using h2)
theorem Ei(hen:∀ e∈es,e.1<e.2/\e.2<n)(hH:H<=1000)(I:FanI es cs p H t0 F)(g:Hg H es ds)(b0:hu ds t0=1000+t0){i h:Nat}{x:Nat×Option Nat}(hx:F[i]?=some x)(L:Lnk es ds p H F i)(h1:h∈frL es ds p H)(h2:h∈frL es ds (farT es p x.1) H):OkR3 n H es ds (AZ (upF F (i+1) (some i)).reverse h)/\LB H es ds (AY es ds (AZ (upF F (i+1) (some i)).reverse h)) t0:=by
 have il:=(gM hx).1;obtain⟨k1,k2,k3,k4,k5⟩:=Qr I L (i+1) i (by omega) (VF _) il;generalize upF F (i+1) (some i)=U at *;have hW:U.reverse.head?=some t0:=by rw[List.head?_reverse];exact k1
 obtain⟨r,hr⟩:∃ r,U.reverse=t0::r:=by
  cases hc:U.reverse with
  | nil=>rw[hc]at hW;cases hW
  | cons a r=>rw[hc]at hW;cases hW;exact⟨r,rfl⟩
 rw[hr]
 have mem:∀ w∈t0::r,AtP es w p:=λw hw=>by
  rw[<-hr,List.mem_reverse]at hw;obtain⟨j,y,_,j2,rfl⟩:=k3 w hw;exact I.att y (V9 j2)
 have lastd:(t0::r).getLastD 0=x.1:=by
  have e:(t0::r).getLast?=some x.1:=by
   rw[<-hr,List.getLast?_reverse,List.head?_eq_getElem?,k2,hx];rfl
  rw[XQ,e];rfl
 refine Gx hen hH r t0 ds g (by rw[<-hr];exact(List.reverse_perm U).nodup_iff.mpr k4) mem b0 (λk a b z1 z2=>?_) h1 (by rw[lastd];exact h2);rw[<-hr]at z1 z2;have zl:k+1<U.length:=by have:=(gM z2).1;rwa [X0]at this
 rw[List.getElem?_reverse (by omega)]at z1 z2;refine k5 (U.length - 1 - (k+1)) a b z2 ?_;rw[show U.length - 1 - (k+1)+1=U.length - 1 - k by omega];exact z1
end
def RwB(es:EE)(cs:List Nat)(a b p:Nat)(r:List Nat)(x:Nat):Prop:=∀ t∈r,∀ y,AtP es t y->y=p\/y=x\/((∃ u,AtP es u y/\hu cs u=a)/\∃ u,AtP es u y/\hu cs u=b)
section
variable{n H:Nat}{es:EE}{cs:List Nat}{a b p:Nat}
theorem RwB.step{r:List Nat}{x one other t:Nat}{e:Nat×Nat}(R:RwI es cs a b p r x one other)(I:RwB es cs a b p r x)(he:es[t]?=some e)(hx:e.1=x\/e.2=x)(ht:hu cs t=one):RwB es cs a b p (r++[t]) (w5 e x):=by
 have ax:AtP es t x:=⟨e,he,hx⟩
 have both:r≠[]->(∃ u,AtP es u x/\hu cs u=a)/\∃ u,AtP es u x/\hu cs u=b:=λrn=>by
  have hl:r.getLast?=some (r.getLast rn):=Wp rn;have gi:r[r.length - 1]?=some (r.getLast rn):=by rw[<-Wy];exact hl
  have l1:=R.lst _ hl;have l2:=R.alt _ _ gi;have rl:0<r.length:=List.length_pos_iff.mpr rn;have d1:=R.d1;by_cases z:r.length % 2=0
  ·rw[iP z]at d1;rw[iG (by omega)]at l2;exact⟨⟨t,ax,ht.trans d1⟩,_,l1,l2⟩
  ·rw[iG z]at d1;rw[iP (by omega)]at l2;exact⟨⟨_,l1,l2⟩,t,ax,ht.trans d1⟩
 intro u hu' y hy;rcases VU.mp hu' with z | z
 ·rcases I u z y hy with q | q | q
  ·exact .inl q
  ·rw[q];exact .inr (.inr (both (List.ne_nil_of_mem z)))
  ·exact .inr (.inr q)
 ·rw[VQ.mp z]at hy
  have f:y=x\/y=w5 e x:=by
   obtain⟨e',he',hy⟩:=hy;rw[he]at he';cases he';unfold w5;rcases hx with hx | hx<;>rcases hy with hy | hy<;>split<;>omega
  rcases f with f | f
  ·by_cases rn:r=[]
   ·exact .inl (f.trans (R.beg rn))
   ·rw[f];exact .inr (.inr (both rn))
  ·exact .inr (.inl f)
theorem Qs(P:Prp es cs)(hen:∀ e∈es,e.1<e.2/\e.2<n)(ab:a≠b):∀(k:Nat) (r:List Nat) (x one other:Nat),RwI es cs a b p r x one other->RwB es cs a b p r x->∃ x',RwB es cs a b p (r++rwF es cs k x one other) x'
 | 0,r,x,one,other,R,I=>⟨x,by unfold rwF;rw[Vt];exact I⟩
 | k+1,r,x,one,other,R,I=>by
   unfold rwF;cases ht:m6 es cs x one with
   | none=>exact⟨x,by simpa using I⟩
   | some t=>
     obtain⟨⟨e,he,hx⟩,hc⟩:=m5 ht;have ge:es.getD t (0,0)=e:=by rw[VA,he];rfl
     dsimp only;rw[ge];have R':=R.step P ab he hx (VO (hen e (V9 he)).1) hc;obtain⟨x',I'⟩:=Qs P hen ab k _ _ _ _ R' (I.step R he hx hc);exact⟨x',by simpa using I'⟩
end
def Sq(es:EE)(cs:List Nat)(p H:Nat)(F:Fan):Prop:=∀ x∈F,∀ h∈frL es cs p H,h∉frL es cs (farT es p x.1) H
section
variable{n H p t0 own c k0 u0:Nat}{o0:Option Nat}{es:EE}{cs:List Nat}{F:Fan}
theorem Py(hen:∀ e∈es,e.1<e.2/\e.2<n)(hH:H<=1000)(g:Hg H es cs)(I:FanI es cs p H t0 F)(no:Sq es cs p H F)(ho:own∈frL es cs p H)
 (h0:F[k0]?=some (u0,o0)) (hc:c∈frL es cs (farT es p u0) H) (min:∀(k u:Nat) (o:Option Nat),k<k0->F[k]?=some (u,o)->c∉frL es cs (farT es p u) H)
 {z:Nat×Option Nat} (hz:z∈F) (hcz:c∈frL es cs (farT es p z.1) H) (zf:farT es p z.1≠farT es p u0):
 Ok3 n H es cs (.row (farT es p u0) own c)/\(∃(i:Nat) (x:Nat×Option Nat) (h:Nat),F[i]?=some x/\h∈frL es (st3 es cs (.row (farT es p u0) own c)) p H/\h∈frL es (st3 es cs (.row (farT es p u0) own c)) (farT es p x.1) H)/\
 ∀(i:Nat) (x:Nat×Option Nat) (h:Nat),F[i]?=some x->h∈frL es (st3 es cs (.row (farT es p u0) own c)) p H->h∈frL es (st3 es cs (.row (farT es p u0) own c)) (farT es p x.1) H->(∀(i':Nat) (x':Nat×Option Nat),i'<i->F[i']?=some x'->∀ h'∈frL es (st3 es cs (.row (farT es p u0) own c)) p H,h'∉frL es (st3 es cs (.row (farT es p u0) own c)) (farT es p x'.1) H)->Lnk es (st3 es cs (.row (farT es p u0) own c)) p H F i:=by
 have a0:=I.att _ (V9 h0);have az:=I.att _ hz;have fn:=Cj hen a0;have zn:=Cj hen az;obtain⟨cH,fc⟩:=mem_frL.mp hc;obtain⟨oH,fo⟩:=mem_frL.mp ho;have oc:own≠c:=λe=>no _ (V9 h0) own ho (e▸hc);have ok:Ok3 n H es cs (.row (farT es p u0) own c):=⟨oH,cH,oc,fn.2,fc⟩
 refine⟨ok,?_⟩;generalize hf:farT es p u0=f at *;obtain⟨x',o1,o2,R,last⟩:=CL g.P hen oc fc;obtain⟨xe,B⟩:=Qs (p:=f) g.P hen oc (es.length+1) [] f own c (RwI.nil fc) (λ_ h=>nomatch h);rw[Xp]at B;have two:=CM R;have hr:∀ u,u<es.length->hu (st3 es cs (.row f own c)) u=if u∈rwF es cs (es.length+1) f own c then (if hu cs u=own then c else own) else hu cs u:=λu ul=>FQ g ul
 have ff:own∈frL es (st3 es cs (.row f own c)) f H:=mem_frL.mpr ⟨oH,λu hu' q=>by
  rw[hr u hu'.lt]at q;by_cases m:u∈rwF es cs (es.length+1) f own c
  ·rw[iP m]at q;rcases two u m with y | y
   ·rw[iP y]at q;exact oc q.symm
   ·exact fc u hu' y
  ·rw[iG m]at q;cases ht:m6 es cs f own with
   | none=>exact AD ht u hu' q
   | some t1=>
     obtain⟨at1,hc1⟩:=m5 ht;have:=g.P.one u t1 f hu' at1 (q.trans hc1.symm);subst this;apply m;unfold rwF;rw[ht];exact VN ..⟩
 have fr:∀ h y,h≠own->h≠c->h∈frL es cs y H->h∈frL es (st3 es cs (.row f own c)) y H:=λh y n1 n2 hh=>by
  obtain⟨q1,q2⟩:=mem_frL.mp hh;refine mem_frL.mpr ⟨q1,λu hu' q=>?_⟩;rw[hr u hu'.lt]at q;split at q
  ·split at q
   ·exact n2 q.symm
   ·exact n1 q.symm
  ·exact q2 u hu' q
 have un:∀ h y,(∀ u,u∈rwF es cs (es.length+1) f own c->¬ AtP es u y)->h∈frL es cs y H->h∈frL es (st3 es cs (.row f own c)) y H:=λh y nt hh=>by
  obtain⟨q1,q2⟩:=mem_frL.mp hh;refine mem_frL.mpr ⟨q1,λu hu' q=>?_⟩;rw[hr u hu'.lt,iG (λm=>nt u m hu')]at q;exact q2 u hu' q
 have at':∀{i t:Nat} {o:Option Nat},F[i]?=some (t,o)->AtP es t p:=λ{i t o} e=>I.att _ (V9 e)
 have bk:∀(i t b u:Nat) (q:Option Nat),F[i]?=some (t,some b)->F[b]?=some (u,q)->b<i/\hu cs t∈frL es cs (farT es p u) H/\∀(b' u':Nat) (c':Option Nat),b'<b->F[b']?=some (u',c')->hu cs t∉frL es cs (farT es p u') H:=λi t b u q e1 e2=>by
  have i0:0<i:=XJ λz=>by rw[z,I.fst]at e1;cases e1
  obtain⟨b2,u2,q2,e3,k1,k2,k3,k4⟩:=I.bk i t _ i0 e1;cases e3;rw[e2]at k2;cases k2;exact⟨k1,k3,k4⟩
 by_cases tch:∃ u,u∈rwF es cs (es.length+1) f own c/\AtP es u p
 ·obtain⟨u1,m1,at1⟩:=tch;have hu1:hu cs u1=c:=(two u1 m1).resolve_left (fo u1 at1)
  have px:p=xe:=by
   rcases B u1 m1 p at1 with q | q | q
   ·exact absurd q.symm fn.1
   ·exact q
   ·obtain⟨⟨v,v1,v2⟩,_⟩:=q;exact absurd v2 (fo v v1)
  have cp:c∈frL es (st3 es cs (.row f own c)) p H:=mem_frL.mpr ⟨cH,λu hu' q=>by
   rw[hr u hu'.lt]at q;by_cases m:u∈rwF es cs (es.length+1) f own c
   ·rw[iP m,iG (fo u hu')]at q;exact oc q
   ·rw[iG m]at q;exact m (g.P.one u u1 p hu' at1 (q.trans hu1.symm)▸m1)⟩
  obtain⟨j,hj⟩:=WK hz;refine⟨⟨j,z,c,hj,cp,un c _ (λu hu' aty=>?_) hcz⟩,λi x h hi _ _ _ i' t b u q hi' e1 e2=>?_⟩
  ·rcases B u hu' _ aty with q | q | q
   ·exact zf q
   ·exact zn.1 (q.trans px.symm)
   ·obtain⟨_,v,v1,v2⟩:=q;exact(mem_frL.mp hcz).2 v v1 v2
  ·obtain⟨bi,k1,k2⟩:=bk i' t b u q e1 e2;rw[hr t (at' e1).lt];by_cases m:t∈rwF es cs (es.length+1) f own c
   ·have tc:hu cs t=c:=(two t m).resolve_left (fo t (at' e1));rw[iP m,iG (by rw[tc];exact oc.symm)];rw[tc]at k1 k2
    have bk0:b=k0:=by
     rcases YA b k0 with y | y | y
     ·exact absurd k1 (min b u q y e2)
     ·exact y
     ·exact absurd hc (hf▸k2 k0 u0 o0 y h0)
    rw[bk0,h0]at e2;cases e2;rw[hf];exact ff
   ·rw[iG m];refine fr _ _ (fo t (at' e1)) (λy=>m ?_) k1;exact g.P.one t u1 p (at' e1) at1 (y.trans hu1.symm)▸m1
 ·have nt:∀ u,u∈rwF es cs (es.length+1) f own c->¬ AtP es u p:=λu m q=>tch ⟨u,m,q⟩;have op:=un own p nt ho;refine⟨⟨k0,_,own,h0,op,by rw[hf];exact ff⟩,λi x h hi _ _ mn i' t b u q hi' e1 e2=>?_⟩;have ik:i<=k0:=YC λy=>mn k0 _ y h0 own op (by rw[hf];exact ff);obtain⟨bi,k1,k2⟩:=bk i' t b u q e1 e2;rw[hr t (at' e1).lt,iG (λm=>nt t m (at' e1))];exact fr _ _ (fo t (at' e1)) (λy=>min b u q (by omega) e2 (y▸k1)) k1
end
theorem Jr{f:Nat->Nat}{k:Nat}:∀(Y ts:List Nat),(∀ t∈ts,f t∈Y)->(∀ y∈Y,(ts.filter λt=>decide (f t=y)).length<=k)->ts.length<=Y.length * k
 | [],ts,h,_=>by
   cases ts with
   | nil=>simp
   | cons t ts=>exact absurd (h t (VN ..)) (by simp)
 | y::Y,ts,h,hk=>by
   have ih:=Jr Y (ts.filter λt=>!decide (f t=y)) (λt ht=>by
    obtain⟨h1,h2⟩:=Vs.mp ht;rcases VT.mp (h t h1) with z | z
    ·rw[z]at h2;simp at h2
    ·exact z) (λy' hy'=>by
    refine Ve ?_ (hk y' (VI _ hy'));rw[X3];refine List.Sublist.length_le ?_
    have:(ts.filter λt=>decide (f t=y')&&!decide (f t=y))=(ts.filter λt=>decide (f t=y')).filter λt=>!decide (f t=y):=by
     rw[X3];exact XY λt _=>Bool.and_comm ..
    rw[this];exact List.filter_sublist)
   have e:=hk y (VN ..);have s:=Hue.len_split (λ_=>true) (λt=>decide (f t=y)) ts;simp only[Xa]at s;have e0:(ts.filter λ_=>true).length=ts.length:=by rw[Xy.mpr (λ_ _=>rfl)]
   rw[VY,X5];omega
theorem Pz{es:EE}{cs:List Nat}(p H:Nat):H<=(frL es cs p H).length+p4 es p:=by
 have s:=Hue.len_split (λ_=>true) (λh=>(m6 es cs p h).isNone) (VD H);simp only[Xa]at s;have e0:((VD H).filter λ_=>true).length=H:=by rw[Xy.mpr (λ_ _=>rfl),Vm]
 have f:∀ h∈(VD H).filter λh=>!(m6 es cs p h).isNone,AtP es ((m6 es cs p h).getD 0) p/\hu cs ((m6 es cs p h).getD 0)=h:=λh hh=>by
  have:=(Vs.mp hh).2;cases ht:m6 es cs p h with
  | none=>rw[ht]at this;cases this
  | some u=>exact m5 ht
 have nd:(((VD H).filter λh=>!(m6 es cs p h).isNone).map λh=>(m6 es cs p h).getD 0).Nodup:=by
  rw[List.Nodup,XX];refine List.Pairwise.imp_of_mem (λ{a b} ha hb ne e=>ne ?_) (Ww.filter _);rw[<-(f a ha).2,<-(f b hb).2,e]
 have sub:=List.Nodup.length_le_of_subset nd (l₂:=f9 es p es.length) λu hu'=>by
  obtain⟨h,hh,rfl⟩:=VX.mp hu';exact mem_tiesAt.mpr (f h hh).1
 rw[V7]at sub;have:p4 es p=(f9 es p es.length).length:=rfl;show H<=((VD H).filter λh=>(m6 es cs p h).isNone).length+_;omega
theorem LH{n p y th:Nat}{es:EE}(hen:∀ e∈es,e.1<e.2/\e.2<n)(hth:∀ e,es.count e<=th){ts:List Nat}(nd:ts.Nodup)(at':∀ t∈ts,AtP es t p):(ts.filter λt=>decide (farT es p t=y)).length<=th:=by
 refine Ve ?_ (hth (if p<y then (p,y) else (y,p)))
 have e1:∀ t∈ts.filter λt=>decide (farT es p t=y),es[t]?=some (if p<y then (p,y) else (y,p)):=λt ht=>by
  obtain⟨h1,h2⟩:=Vs.mp ht;have h2:=of_decide_eq_true h2;obtain⟨e,he,hp⟩:=at' t h1;have:=hen e (V9 he);rw[he];unfold farT w5 at h2;rw[show es.getD t (0,0)=e by rw[VA,he];rfl]at h2
  congr 1
  obtain⟨e1,e2⟩:=e;dsimp only at *;split at h2<;>split<;>(first | (congr 1<;>omega) | (exfalso;omega))
 generalize (if p<y then (p,y) else (y,p))=e at *
 have cnt:es.count e=((VD es.length).filter λt=>decide (es[t]?=some e)).length:=by
  have:(VD es.length).map (λt=>es.getD t (0,0))=es:=by
   apply Wi;intro i;rw[VG];by_cases h:i<es.length
   ·rw[W1 h,VB h];show some (es.getD i (0,0))=_;rw[VA,VB h];rfl
   ·rw[Vr (by rw[Vm];omega),Vr (by omega)];rfl
  conv=>lhs;rw[<-this]
  rw[List.count,List.countP_map,XB]
  congr 1
  refine XY λt ht=>?_;have tl:=VW.mp ht;show(es.getD t (0,0) == e)=_;rw[VA,VB tl];show(es[t] == e)=_;rw[Vo];simp
 rw[cnt];exact List.Nodup.length_le_of_subset (nd.filter _) λt ht=>Vs.mpr ⟨VW.mpr (gM (e1 t ht)).1,decide_eq_true (e1 t ht)⟩
theorem Js{α:Type}{f:Nat->List α}{k:Nat}:∀(Y:List Nat),(∀ y∈Y,k<=(f y).length)->Y.length * k<=(Y.flatMap f).length
 | [],_=>by simp
 | y::Y,h=>by
   rw[XZ,V8,VY,X5];have:=h y (VN ..);have:=Js Y λy' hy'=>h y' (VI _ hy');omega
theorem Jt{f:Nat->List Nat}:∀(Y:List Nat),Y.Nodup->(∀ y∈Y,(f y).Nodup)->(∀ y∈Y,∀ z∈Y,∀ c,c∈f y->c∈f z->y=z)->(Y.flatMap f).Nodup
 | [],_,_,_=>by simp
 | y::Y,nd,h1,h2=>by
   obtain⟨n1,n2⟩:=Vx.mp nd;rw[XZ,WY];refine⟨h1 y (VN ..),Jt Y n2 (λz hz=>h1 z (VI _ hz)) (λa ha b hb=>h2 a (VI _ ha) b (VI _ hb)),λa ha b hb e=>?_⟩;obtain⟨z,hz,hb⟩:=Xg.mp hb;subst e;exact n1 (h2 y (VN ..) z (VI _ hz) a ha hb▸hz)
theorem Qt:∀ L:List Nat,∃ Y:List Nat,Y.Nodup/\∀ y,y∈Y↔y∈L
 | []=>⟨[],.nil,λ_=>Iff.rfl⟩
 | a::L=>by
   obtain⟨Y,h1,h2⟩:=Qt L;by_cases m:a∈Y
   ·refine⟨Y,h1,λy=>?_⟩;rw[VT,h2];exact⟨.inr,λz=>z.elim (λe=>e▸(h2 a).mp m) id⟩
   ·refine⟨a::Y,Vx.mpr ⟨m,h1⟩,λy=>?_⟩;rw[VT,VT,h2]
theorem viz{n H p t0 th:Nat}{es:EE}{cs:List Nat}{F:Fan}(hen:∀ e∈es,e.1<e.2/\e.2<n)(hH:H<=1000)(I:FanI es cs p H t0 F)(M:So es cs p H F)(no:Sq es cs p H F)(b0:¬ hu cs t0<1000)(hc:∀ y,y<n->p4 es y+th<=H)(hth:∀ e,es.count e<=th)
 (un:∀ x∈F,∀ y∈F,∀ c,c∈frL es cs (farT es p x.1) H->c∈frL es cs (farT es p y.1) H->farT es p x.1=farT es p y.1):False:=by
 obtain⟨Y,ndY,memY'⟩:=Qt (F.map λx=>farT es p x.1);have memY:∀ y,y∈Y↔∃ x∈F,farT es p x.1=y:=λy=>by rw[memY',VX]
 have lenF:F.length<=Y.length * th:=by
  have:=Jr (f:=farT es p) (k:=th) Y (F.map (·.1)) (λt ht=>by
   obtain⟨x,hx,rfl⟩:=VX.mp ht;exact(memY _).mpr ⟨x,hx,rfl⟩) (λy hy=>LH hen hth I.nd λt ht=>by
   obtain⟨x,hx,rfl⟩:=VX.mp ht;exact I.att x hx)
  rwa [V7]at this
 have lenL:=Js (f:=λy=>frL es cs y H) (k:=th) Y λy hy=>by
  obtain⟨x,hx,rfl⟩:=(memY y).mp hy;have:=Pz (es:=es) (cs:=cs) (farT es p x.1) H;have:=hc _ (Cj hen (I.att x hx)).2;omega
 have ndL:=Jt (f:=λy=>frL es cs y H) Y ndY (λy _=>Ww.filter _) λa ha b hb c h1 h2=>by
  obtain⟨x,hx,rfl⟩:=(memY a).mp ha;obtain⟨y,hy,rfl⟩:=(memY b).mp hb;exact un x hx y hy c h1 h2
 have inL:∀ c∈Y.flatMap λy=>frL es cs y H,∃ u,m6 es cs p c=some u/\u∈F.map (·.1)/\u≠t0:=λc hc'=>by
  obtain⟨y,hy,hcy⟩:=Xg.mp hc';obtain⟨x,hx,rfl⟩:=(memY y).mp hy;have cH:=(mem_frL.mp hcy).1;cases ht:m6 es cs p c with
  | none=>exact absurd hcy (no x hx c (mem_frL.mpr ⟨cH,AD ht⟩))
  | some u=>
    obtain⟨q1,q2⟩:=m5 ht;refine⟨u,rfl,?_,λz=>by rw[z]at q2;omega⟩;by_cases m:u∈F.map (·.1)
    ·exact m
    ·exact absurd (q2▸hcy) (M u q1 m x hx)
 have nd2:(t0::(Y.flatMap λy=>frL es cs y H).map λc=>(m6 es cs p c).getD 0).Nodup:=by
  rw[Vx];refine⟨λz=>?_,?_⟩
  ·obtain⟨c,hc',e⟩:=VX.mp z;obtain⟨u,u1,_,u3⟩:=inL c hc';rw[u1]at e;exact u3 e
  ·rw[List.Nodup,XX];refine List.Pairwise.imp_of_mem (λ{a b} ha hb ne e=>ne ?_) ndL;obtain⟨u,u1,_,_⟩:=inL a ha;obtain⟨v,v1,_,_⟩:=inL b hb;rw[u1,v1]at e;have e:u=v:=e;rw[<-(m5 u1).2,<-(m5 v1).2,e]
 have sub:=List.Nodup.length_le_of_subset nd2 (l₂:=F.map (·.1)) λu hu'=>by
  rcases VT.mp hu' with z | z
  ·rw[z];exact VX.mpr ⟨_,V9 I.fst,rfl⟩
  ·obtain⟨c,hc',rfl⟩:=VX.mp z;obtain⟨u,u1,u2,_⟩:=inL c hc';rw[u1];exact u2
 rw[VY,V7,V7]at sub;omega
def t5(L:EE)(h:Nat):Option Nat:=(L.find? λq=>decide (q.2=h)).map (·.1)
def shL(es:EE)(cs:List Nat)(p H:Nat)(F:Fan):EE:=F.flatMap λx=>(frL es cs (farT es p x.1) H).map λh=>(farT es p x.1,h)
def v3(es:EE)(cs:List Nat)(p H:Nat)(F:Fan):Option (Nat×Nat):=((shL es cs p H F).find? λq=>!decide (t5 (shL es cs p H F) q.2=some q.1)).bind λq=>(t5 (shL es cs p H F) q.2).map λf=>(q.2,f)
def Dl(es:EE)(cs:List Nat)(p H:Nat)(F:Fan)(i:Nat):List Nat:=(frL es cs p H).filter λh=>decide (h∈frL es cs (farT es p (F.getD i (0,none)).1) H)
def t3(es:EE)(cs:List Nat)(p H:Nat)(F:Fan):Option (List Sp3):=(VD F.length).findSome? λi=>(Dl es cs p H F i).head?.map λh=>AZ (upF F (i+1) (some i)).reverse h
noncomputable def Ao(es:EE)(cs:List Nat)(t H:Nat):List Sp3:=
 match t3 es cs (es.getD t (0,0)).1 H (Bn es cs (es.getD t (0,0)).1 H (es.length+1) [(t,none)]) with
 | some s=>s
 | none=>match v3 es cs (es.getD t (0,0)).1 H (Bn es cs (es.getD t (0,0)).1 H (es.length+1) [(t,none)]) with
   | none=>[]
   | some x => .row x.2 ((frL es cs (es.getD t (0,0)).1 H).headD 0) x.1::(t3 es (st3 es cs (.row x.2 ((frL es cs (es.getD t (0,0)).1 H).headD 0) x.1)) (es.getD t (0,0)).1 H (Bn es cs (es.getD t (0,0)).1 H (es.length+1) [(t,none)])).getD []
section
variable{n H p t0:Nat}{es:EE}{cs ds:List Nat}{F:Fan}
theorem Ab(L M:EE)(h:Nat):t5 (L++M) h=(t5 L h).or (t5 M h):=by
 unfold t5;rw[XW];cases L.find? λq=>decide (q.2=h)<;>simp
theorem Nc{f h:Nat}(l:List Nat):t5 (l.map λh=>(f,h)) h=if h∈l then some f else none:=by
 unfold t5;rw[List.find?_map];by_cases m:h∈l
 ·rw[iP m];cases hf:l.find? ((λq:Nat×Nat=>decide (q.2=h))∘λh=>(f,h)) with
  | none=>
    rw[WD]at hf;exact absurd (decide_eq_true rfl) (hf h m)
  | some x=>rfl
 ·rw[iG m]
  have:l.find? ((λq:Nat×Nat=>decide (q.2=h))∘λh=>(f,h))=none:=by
   rw[WD];intro x hx z;exact m (of_decide_eq_true (show decide (x=h)=true from z)▸hx)
  rw[this];rfl
theorem Nd(h:Nat):∀ F:Fan,t5 (shL es cs p H F) h=(F.find? λx=>decide (h∈frL es cs (farT es p x.1) H)).map λx=>farT es p x.1
 | []=>rfl
 | x::F=>by
   show t5 ((frL es cs (farT es p x.1) H).map (λh=>(farT es p x.1,h))++shL es cs p H F) h=_;rw[Ab,Nc,Nd h F,Vd];by_cases m:h∈frL es cs (farT es p x.1) H
   ·rw[iP m,decide_eq_true m];rfl
   ·rw[iG m,decide_eq_false m];rfl
theorem mem_sh{q:Nat×Nat}:q∈shL es cs p H F↔∃ x∈F,farT es p x.1=q.1/\q.2∈frL es cs (farT es p x.1) H:=by
 unfold shL;rw[Xg];constructor
 ·rintro⟨x,hx,hq⟩;obtain⟨h,hh,rfl⟩:=VX.mp hq;exact⟨x,hx,rfl,hh⟩
 ·rintro⟨x,hx,e,hh⟩;exact⟨x,hx,VX.mpr ⟨_,hh,by rw[e]⟩⟩
theorem Gy{x:Nat×Nat}(h:v3 es cs p H F=some x):∃(k0 u0:Nat) (o0:Option Nat),F[k0]?=some (u0,o0)/\x.1∈frL es cs (farT es p u0) H/\farT es p u0=x.2/\(∀(k u:Nat) (o:Option Nat),k<k0->F[k]?=some (u,o)->x.1∉frL es cs (farT es p u) H)/\∃ z∈F,x.1∈frL es cs (farT es p z.1) H/\farT es p z.1≠farT es p u0:=by
 unfold v3 at h;cases hq:(shL es cs p H F).find? λq=>!decide (t5 (shL es cs p H F) q.2=some q.1) with
 | none=>rw[hq]at h;cases h
 | some q=>
   rw[hq]at h;replace h:(t5 (shL es cs p H F) q.2).map (λf=>(q.2,f))=some x:=h;cases ho:t5 (shL es cs p H F) q.2 with
   | none=>rw[ho]at h;cases h
   | some f=>
     rw[ho]at h;cases h;have nq:=YM hq;rw[ho]at nq;have nq:f≠q.1:=by simpa using nq
     obtain⟨z,hz,z1,z2⟩:=mem_sh.mp (Wx hq);rw[Nd]at ho;cases hx:F.find? λx=>decide (q.2∈frL es cs (farT es p x.1) H) with
     | none=>rw[hx]at ho;cases ho
     | some x0=>
       rw[hx]at ho;have ef:farT es p x0.1=f:=oj ho;obtain⟨a1,i,il,ei,mn⟩:=List.find?_eq_some_iff_getElem.mp hx;refine⟨i,x0.1,x0.2,by rw[VB il,ei],of_decide_eq_true a1,ef,λk u o hk e=>?_,z,hz,z2,?_⟩
       ·have:=mn k hk;obtain⟨kl,e⟩:=gM e;rw[e]at this;simpa using this
       ·rw[z1,ef];exact nq.symm
theorem Gz(h:v3 es cs p H F=none):∀ x∈F,∀ y∈F,∀ c,c∈frL es cs (farT es p x.1) H->c∈frL es cs (farT es p y.1) H->farT es p x.1=farT es p y.1:=by
 have all:∀ q∈shL es cs p H F,t5 (shL es cs p H F) q.2=some q.1:=λq hq=>by
  unfold v3 at h;cases hf:(shL es cs p H F).find? λq=>!decide (t5 (shL es cs p H F) q.2=some q.1) with
  | none=>
    rw[WD]at hf;simpa using hf q hq
  | some q'=>
    rw[hf]at h;replace h:(t5 (shL es cs p H F) q'.2).map (λf=>(q'.2,f))=none:=h;have m:=Wx hf
    have nn:t5 (shL es cs p H F) q'.2≠none:=λz=>by
     unfold t5 at z;rw[WN,WD]at z;exact z q' m (decide_eq_true rfl)
    cases ho:t5 (shL es cs p H F) q'.2 with
    | none=>exact absurd ho nn
    | some f=>rw[ho]at h;cases h
 intro x hx y hy c h1 h2;have e1:=all (farT es p x.1,c) (mem_sh.mpr ⟨x,hx,rfl,h1⟩);have e2:=all (farT es p y.1,c) (mem_sh.mpr ⟨y,hy,rfl,h2⟩);exact oj (e1.symm.trans e2)
theorem HA{β:Type}{f:Nat->Option β}{y:β}:∀{m:Nat},(VD m).findSome? f=some y->∃ i,i<m/\f i=some y/\∀ j,j<i->f j=none
 | 0,h=>by cases h
 | m+1,h=>by
   rw[WB,List.findSome?_append]at h;cases hm:(VD m).findSome? f with
   | some z=>
     rw[hm]at h;cases h;obtain⟨i,i1,i2,i3⟩:=HA hm;exact⟨i,by omega,i2,i3⟩
   | none=>
     rw[hm]at h
     have h:f m=some y:=by
      cases hf:f m with
      | none=>simp[hf]at h
      | some z=>simpa[hf] using h
     rw[WQ]at hm;exact⟨m,by omega,h,λj hj=>hm j (VW.mpr hj)⟩
theorem Dm{i h:Nat}{x:Nat×Option Nat}(e:F[i]?=some x):h∈Dl es cs p H F i↔h∈frL es cs p H/\h∈frL es cs (farT es p x.1) H:=by
 unfold Dl;rw[Vs,dQ,show F.getD i (0,none)=x by rw[VA,e];rfl]
theorem Ba{s:List Sp3}(h:t3 es ds p H F=some s):∃(i:Nat) (x:Nat×Option Nat) (h:Nat),F[i]?=some x/\h∈frL es ds p H/\h∈frL es ds (farT es p x.1) H/\s=AZ (upF F (i+1) (some i)).reverse h/\∀(i':Nat) (x':Nat×Option Nat),i'<i->F[i']?=some x'->∀ h'∈frL es ds p H,h'∉frL es ds (farT es p x'.1) H:=by
 obtain⟨i,il,e1,e2⟩:=HA h;have ei:=VB il;cases hs:(Dl es ds p H F i).head? with
 | none=>rw[hs]at e1;cases e1
 | some h'=>
   rw[hs]at e1;have m:h'∈Dl es ds p H F i:=List.mem_of_head? hs;obtain⟨m1,m2⟩:=(Dm ei).mp m;refine⟨i,_,h',ei,m1,m2,(oj e1).symm,λi' x' hi' e' h2 k1 k2=>?_⟩;have:=e2 i' hi';rw[WN,Xo]at this;have q:=(Dm e').mpr ⟨k1,k2⟩;rw[this]at q;cases q
theorem Cq(h:t3 es ds p H F=none):Sq es ds p H F:=by
 unfold t3 at h;rw[WQ]at h;intro x hx h1 m1 m2;obtain⟨i,ei⟩:=WK hx;have:=h i (VW.mpr (gM ei).1);rw[WN,Xo]at this;have q:=(Dm ei).mpr ⟨m1,m2⟩;rw[this]at q;cases q
theorem Do{th t:Nat}(hen:∀ e∈es,e.1<e.2/\e.2<n)(hH:H<=1000)(g:Hg H es cs)(tl:t<es.length)(b0:¬ hu cs t<1000)(hc:∀ y,y<n->p4 es y+th<=H)(hth:∀ e,es.count e<=th)(hp:p=(es.getD t (0,0)).1)(hF:F=Bn es cs p H (es.length+1) [(t,none)]):
 FanI es cs p H t F/\((∃ s,t3 es cs p H F=some s/\OkR3 n H es cs s/\LB H es cs (AY es cs s) t)\/
 (t3 es cs p H F=none/\frL es cs p H≠[]/\∃ x s,v3 es cs p H F=some x/\Ok3 n H es cs (.row x.2 ((frL es cs p H).headD 0) x.1)/\t3 es (st3 es cs (.row x.2 ((frL es cs p H).headD 0) x.1)) p H F=some s/\OkR3 n H es (st3 es cs (.row x.2 ((frL es cs p H).headD 0) x.1)) s/\LB H es cs (AY es (st3 es cs (.row x.2 ((frL es cs p H).headD 0) x.1)) s) t)):=by
 obtain⟨e,he⟩:∃ e,es[t]?=some e:=⟨_,VB tl⟩
 have ge:es.getD t (0,0)=e:=by rw[VA,he];rfl
 have at0:AtP es t p:=⟨e,he,.inl (by rw[hp,ge])⟩
 have en:=hen e (V9 he);have pn:p<n:=by rw[hp,ge];omega
 obtain⟨I,M⟩:=FR (es:=es) (cs:=cs) (p:=p) (H:=H) (t0:=t) (es.length+1) [(t,none)] (FanI.one at0) (by show es.length<1+(es.length+1);omega);rw[<-hF]at I M;have bare:=g.bare tl b0 hH;refine⟨I,?_⟩
 have lnk:∀ m,Lnk es cs p H F m:=λm i t' b u q hi e1 e2=>by
  have i0:0<i:=XJ λz=>by rw[z,I.fst]at e1;cases e1
  obtain⟨b2,u2,q2,e3,k1,k2,k3,k4⟩:=I.bk i t' _ i0 e1;cases e3;rw[e2]at k2;cases k2;exact k3
 cases ht:t3 es cs p H F with
 | some s=>
   obtain⟨i,x,h,e1,m1,m2,rfl,_⟩:=Ba ht;exact .inl ⟨_,rfl,Ei hen hH I g bare e1 (lnk i) m1 m2⟩
 | none=>
   have no:=Cq ht;have nn:=Pw (p:=p) hH at0 b0 (by have:=hc p pn;omega);refine .inr ⟨rfl,nn,?_⟩;cases hs:v3 es cs p H F with
   | none=>exact(viz hen hH I M no b0 hc hth (Gz hs)).elim
   | some x=>
     obtain⟨k0,u0,o0,h0,c0,ef,mn,z,hz,cz,zf⟩:=Gy hs;obtain⟨ok,⟨i,y,h,q1,q2,q3⟩,L⟩:=Py hen hH g I no (NW nn) h0 c0 mn hz cz zf;rw[ef]at ok q2 q3 L;have g1:=C3 g hen hH ok
     have hr:∀ u,u<es.length->(hu (st3 es cs (.row x.2 ((frL es cs p H).headD 0) x.1)) u<H↔hu cs u<H)/\(¬ hu cs u<1000->hu (st3 es cs (.row x.2 ((frL es cs p H).headD 0) x.1)) u=hu cs u):=λu ul=>by
      obtain⟨aH,bH,ab,_,fb⟩:=ok;obtain⟨x',o1,o2,R,last⟩:=CL g.P hen ab fb;show(hu (exL cs _ _ _) u<H↔_)/\(_->hu (exL cs _ _ _) u=_);rw[FQ g ul];by_cases m:u∈rwF es cs (es.length+1) x.2 ((frL es cs p H).headD 0) x.1
      ·rw[iP m];have tw:=CM R u m;have lt:hu cs u<H:=by rcases tw with y | y<;>rw[y]<;>assumption
       refine⟨⟨λ_=>lt,λ_=>by split<;>assumption⟩,λz=>by omega⟩
      ·rw[iG m];exact⟨Iff.rfl,λ_=>rfl⟩
     have bare1:hu (st3 es cs (.row x.2 ((frL es cs p H).headD 0) x.1)) t=1000+t:=((hr t tl).2 b0).trans bare;cases ht1:t3 es (st3 es cs (.row x.2 ((frL es cs p H).headD 0) x.1)) p H F with
     | none=>exact absurd q3 (Cq ht1 y (V9 q1) h q2)
     | some s=>
       obtain⟨i2,x2,h2,e1,m1,m2,rfl,mn2⟩:=Ba ht1;obtain⟨r1,r2,r3⟩:=Ei hen hH I g1 bare1 e1 (L i2 x2 h2 e1 m1 m2 mn2) m1 m2;refine⟨x,_,rfl,ok,ht1,r1,r2,λu ul ne=>?_⟩;rw[r3 u ul ne];exact(hr u ul).1
theorem LI{th t:Nat}(hen:∀ e∈es,e.1<e.2/\e.2<n)(hH:H<=1000)(g:Hg H es cs)(tl:t<es.length)(b0:¬ hu cs t<1000)(hc:∀ y,y<n->p4 es y+th<=H)(hth:∀ e,es.count e<=th):OkR3 n H es cs (Ao es cs t H)/\LB H es cs (AY es cs (Ao es cs t H)) t:=by
 obtain⟨_,k⟩:=Do hen hH g tl b0 hc hth rfl rfl;unfold Ao;rcases k with⟨s,e,r⟩ | ⟨e,_,x,s,e1,ok,e2,r1,r2⟩
 ·rw[e];exact r
 ·rw[e];dsimp only;rw[e1];dsimp only;rw[e2];exact⟨⟨ok,r1⟩,r2⟩
end
def w9:Sp3->SV
 | .hue t h => .tup [.str "hue",.int (t:Nat),.int (h:Nat)]
 | .move t u => .tup [.str "move",.int (t:Nat),.int (u:Nat)]
 | .row p a b => .tup [.str "row",.int (p:Nat),.int (a:Nat),.int (b:Nat)]
def IsTh(es:EE)(m:Nat):Prop:=(∀ e,es.count e<=m)/\(m=0\/∃ e,e∈es/\es.count e=m)
theorem IsTh.uniq{es:EE}{m k:Nat}(a:IsTh es m)(b:IsTh es k):m=k:=by
 have le:∀{m k:Nat},IsTh es m->IsTh es k->m<=k:=λ{m k} a b=>by
  rcases a.2 with z | ⟨e,_,z⟩
  ·omega
  ·rw[<-z];exact b.1 e
 exact Nat.le_antisymm (le a b) (le b a)
theorem Q0{es:EE}{m:Nat}(h:IsTh es m):m<=es.length:=by
 rcases h.2 with z | ⟨e,_,z⟩
 ·omega
 ·rw[<-z];exact List.count_le_length
theorem Q1{es ks:EE}{m:Nat}(mem:∀ e,e∈ks↔e∈es)(h:Grt (ks.map λe=>((es.count e:Nat):Int)) (m:Int)):IsTh es m:=by
 obtain⟨h1,h2⟩:=h;obtain⟨e,he,ee⟩:=VX.mp h1;refine⟨λe'=>?_,.inr ⟨e,(mem e).mp he,by omega⟩⟩;by_cases z:e'∈es
 ·have:=h2 _ (VX.mpr ⟨e',(mem e').mpr z,rfl⟩);omega
 ·rw[XM.mpr z];omega
theorem Nf:IsTh [] 0:=⟨λe=>by simp,.inl rfl⟩
section
variable{Δ:Nat->Sn}
def AN(s:Sn)(args:Nat->Nat->Nat->List SV):Prop:=∀{n H p a b:Nat} {w:SV} {es:EE} {cs:List Nat} {S:Sto} {Q:QE},Hg H es cs->(∀ e∈es,e.1<e.2/\e.2<n)->es.length<=60->H<=1000->Ok3 n H es cs (.row p a b)->Hv S w cs->(∀(l:Nat) (S':Sto),Gw S S'->S.length<=l->S'[l]?=some (.lst (c9 (st3 es cs (.row p a b))))->Q (.loc l) S')->s (g9 n es::w::args p a b) S Q
theorem Ng{kh kr kx:Nat}(hh:Ps (Δ kh))(hr:Ch (Δ kr))(hx:FP (Δ kx)){D:Df}(hb:D.body=Qo kh kr kx)(hN:D.N.length=5)(hp:D.ps.length=5):AN (f6 Δ D) λp a b=>[.int (p:Nat),.int (a:Nat),.int (b:Nat)]:=by
 intro n H p a b w es cs S Q g hen el hH ok hk q;have ok':=ok;obtain⟨a1,b1,ab,pn,no⟩:=ok;obtain⟨x,o1,o2,R,last⟩:=CL g.P hen ab no;have rl:=R.len;unfold f6;rw[hb,hN];have gd:∀ c:Nat,c<H->Gd (VS S) 0 10 (.int (c:Nat)):=λc hc => .int ⟨by omega,by omega⟩;have i0:∀ c:Nat,Si (.int (c:Nat))=true:=λc=>(show decide ((0:Int)<=((c:Nat):Int))=true from decide_eq_true (by omega))
 refine⟨hp.symm,_,rfl,hh (gd _ a1) ⟨_,rfl,?_⟩⟩;rw[i0];refine ifF rfl ⟨_,rfl,hh (gd _ b1) ⟨_,rfl,?_⟩⟩;rw[i0];refine ifF rfl (c8 ?_);refine⟨_,rfl,_,rfl,_,rfl,_,rfl,_,rfl,_,rfl,_,rfl,hr hk (by omega) (by omega) g.P hen (by omega) pn ab no λl S1 G1 l1 h1=>⟨_,rfl,_,rfl,?_⟩⟩;exact hx (hk.gw G1) (by omega) (by omega) h1 g.P.len hen el ab R.lt (CM R) (by omega) (C3 g hen hH ok').P λl' S2 G2 l2 h2=>q l' S2 (G1.trans G2) (Ve G1.len l2) h2
theorem LJ{kh kd km kr:Nat}(hr:AN (Δ kr) λp a b=>[.int (p:Nat),.int (a:Nat),.int (b:Nat)]){D:Df}(hb:D.body=NS kh kd km kr)(hN:D.N.length=4)(hp:D.ps.length=3):AN (f6 Δ D) λp a b=>[w9 (.row p a b)]:=by
 intro n H p a b w es cs S Q g hen el hH ok hk q;unfold f6;rw[hb,hN];have no:∀ w:Str,w≠"row"->decide (("row":Str)=w)=false:=λw h=>decide_eq_false λz=>h z.symm;refine⟨hp.symm,_,rfl,_,nofun,rfl,_,rfl,ifF rfl ⟨_,rfl,true,rfl,ifF rfl (c8 ?_)⟩⟩;refine⟨_,rfl,_,_,rfl,rfl,?_⟩;refine⟨_,rfl,_,rfl,ifF (no "hue" (by decide)) (ifF rfl (c8 ?_))⟩;refine⟨_,rfl,_,rfl,ifF (no "drop" (by decide)) (ifF rfl (c8 ?_))⟩;refine⟨_,rfl,_,rfl,ifF (no "move" (by decide)) (ifF rfl (c8 ?_))⟩;refine⟨_,rfl,_,rfl,ifT (decide_eq_true rfl) ⟨_,rfl,_,rfl,_,rfl,ifT rfl ?_⟩⟩;exact⟨_,rfl,_,rfl,_,rfl,_,_,rfl,rfl,_,rfl,_,_,rfl,rfl,_,rfl,_,_,rfl,rfl,hr g hen el hH ok hk q⟩
theorem Nh{ka:Nat}(ha:AN (Δ ka) λp a b=>[w9 (.row p a b)]){D:Df}(hb:D.body=Qp ka)(hN:D.N.length=4)(hp:D.ps.length=3):AN (f6 Δ D) λp a b=>[w9 (.row p a b)]:=by
 intro n H p a b w es cs S Q g hen el hH ok hk q;unfold f6;rw[hb,hN];refine⟨hp.symm,_,rfl,_,rfl,_,rfl,ha g hen el hH ok hk λl S' G' l' h'=>?_⟩;exact⟨_,rfl,.inl ⟨rfl,_,rfl,ifF rfl (c8 ⟨_,rfl,q l S' G' l' h'⟩)⟩⟩
def Ni:List Stm:=[(.asg (.nm 1) .dnewl),(.loop (.nm 2) (.seq (.ix (.var 0) (.c (.int 1)))) [(.dputl (.var 1) (.var 2) (.op .Add (.dget2l (.var 1) (.var 2) (.c (.int 0))) (.c (.int 1))))]),(.ret (.maxd (.dvalsl (.var 1)) (.c (.int 0))))]
def CN(s:Sn):Prop:=∀{n:Nat} {es:EE} {S:Sto} {Q:QE},es.length<=1000->(∀(m:Nat) (S':Sto),IsTh es m->Gw S S'->Q (.int (m:Nat)) S')->s [g9 n es] S Q
def Bo(e:Nat×Nat):List Int:=[(e.1:Int),(e.2:Int)]
theorem Dp{a b:Nat×Nat}(h:Bo a=Bo b):a=b:=by
 unfold Bo at h;injection h with h1 h2;injection h2 with h2 _;exact Prod.ext (Vg.mp h1) (Vg.mp h2)
def C4(es ks:EE):List (List Int×SV):=ks.map λe=>(Bo e,SV.int ((es.count e:Nat):Int))
theorem HB{es:EE}(e:Nat×Nat):∀ ks:EE,DP (C4 es ks) (Bo e)=if e∈ks then some (SV.int ((es.count e:Nat):Int)) else none
 | []=>rfl
 | k::ks=>by
   unfold C4 DP;rw[Vh,Vd];by_cases z:k=e
   ·subst z;rw[decide_eq_true rfl,iP (VN ..)];rfl
   ·rw[decide_eq_false (λy=>z (Dp y))];have:=HB (es:=es) e ks;unfold C4 DP at this;dsimp only;rw[this];by_cases m:e∈ks
    ·rw[iP m,iP (VI _ m)]
    ·rw[iG m,iG (λy=>(VT.mp y).elim (λq=>z q.symm) m)]
theorem Q2{es:EE}(e:Nat×Nat)(ks:EE):(C4 es ks).any (λp=>decide (p.1=Bo e))=decide (e∈ks):=by
 unfold C4;rw[X6,Vo,WV,dQ];constructor
 ·rintro⟨x,hx,z⟩;exact Dp (of_decide_eq_true z)▸hx
 ·exact λh=>⟨e,h,decide_eq_true rfl⟩
theorem Q3{es:EE}{e:Nat×Nat}{ks:EE}(mem:∀ e,e∈ks↔e∈es):ES (C4 es ks) (Bo e) (.int (((es.count e:Nat):Int)+1))=C4 (es++[e]) (if e∈ks then ks else ks++[e]):=by
 have c1:∀ k,(es++[e]).count k=es.count k+if k=e then 1 else 0:=λk=>by
  rw[List.count_append,List.count_singleton];by_cases z:k=e
  ·subst z;simp
  ·rw[iG z,iG (by simpa using λy=>z y.symm)]
 unfold ES;rw[Q2];by_cases m:e∈ks
 ·rw[iP (decide_eq_true m),iP m];unfold C4;rw[XE];refine XD λk _=>?_;show(if Bo k=Bo e then (Bo k,_) else (Bo k,_))=_;rw[c1];by_cases z:k=e
  ·subst z;rw[iP rfl,iP rfl];rfl
  ·rw[iG (λy=>z (Dp y)),iG z];rfl
 ·rw[iG (by simpa using m),iG m];unfold C4;rw[VM]
  congr 1
  ·refine XD λk hk=>?_;rw[c1,iG (show ¬ k=e from λz=>m (z▸hk))];rfl
  ·show[(Bo e,SV.int (((es.count e:Nat):Int)+1))]=[(Bo e,SV.int (((es++[e]).count e:Nat):Int))]
   rw[c1,iP rfl];rfl
theorem Nj(hΔ:∀ f,MonoN (Δ f)){D:Df}(hb:D.body=Ni)(hN:D.N.length=3)(hp:D.ps.length=1):CN (f6 Δ D):=by
 intro n es S Q el q;unfold f6;rw[hb,hN];have G0:Gw S (S++[SO.dtl []]):=(Gw.refl S).push;refine⟨hp.symm,_,rfl,_,_,rfl,rfl,_,rfl,?_⟩;refine v9 (i7 hΔ _) (λi ρ S'=>∃(ks:EE) (o2:Option SV),ρ=[some (g9 n es),some (.loc S.length),o2]/\Gw S S'/\S'[S.length]?=some (.dtl (C4 (es.take i) ks))/\ks.length<=i/\∀ e,e∈ks↔e∈es.take i) ⟨[],none,rfl,G0,a8,VF _,λe=>by simp⟩ (λ_ _ _ _=>trivial) ?_ ?_
 ·rintro i x ρ S' hx ⟨ks,o2,rfl,G,h1,kl,mem⟩;obtain⟨e,he,rfl⟩:=A8 hx;have il:=(gM he).1;have tk:es.take (i+1)=es.take i++[e]:=by rw[Vl,he];rfl
  refine⟨_,rfl,_,_,rfl,h1,_,rfl,Bo e,_,rfl,h1,?_⟩
  rw[show(DP (C4 (es.take i) ks) (Bo e)).getD (SV.int 0)=SV.int (((es.take i).count e:Nat):Int) by
   rw[HB];by_cases m:e∈ks
   ·rw[iP m];rfl
   ·rw[iG m,XM.mpr (λz=>m ((mem e).mpr z))];rfl]
  refine⟨_,rfl,_,rfl,S.length,Bo e,_,rfl,rfl,h1,by unfold C4;rw[V7];show _<100000;omega,if e∈ks then ks else ks++[e],_,rfl,G.put (VF _),?_,?_,λe'=>?_⟩
  ·rw[k9 h1,tk,<-Q3 mem]
  ·split
   ·omega
   ·rw[V8];simp;omega
  ·rw[tk,VU,VQ,<-mem];split
   ·next m=>exact⟨.inl,λz=>z.elim id λy=>y▸m⟩
   ·rw[VU,VQ]
 ·rintro ρ S' ⟨ks,o2,rfl,G,h1,kl,mem⟩;rw[V7,Vi]at h1 mem
  have hv:(S'++[SO.lst ((C4 es ks).map (·.2))])[S'.length]?=some (SO.lst ((ks.map λe=>((es.count e:Nat):Int)).map SV.int)):=by
   rw[a8];unfold C4;rw[XE,XE];rfl
  refine⟨_,rfl,_,_,rfl,h1,S'.length,_,0,rfl,rfl,hv,λz=>?_,λm g=>?_⟩
  ·have kn:ks=[]:=by simpa using z
   have en:es=[]:=by
    cases es with
    | nil=>rfl
    | cons e es=>
      have:=(mem e).mpr (VN ..);rw[kn]at this;cases this
   exact q 0 _ (by rw[en];exact Nf) G.push
  ·obtain⟨e,he,ee⟩:=VX.mp g.1
   have key:∀ z:Nat,m=(z:Int)->Q (.int m) (S'++[SO.lst ((C4 es ks).map (·.2))]):=λz e=>by
    rw[e]at g ⊢;exact q z _ (Q1 mem g) G.push
   exact key _ ee.symm
def Ju(km kt:Nat):List Stm:=[(.ret (.op .Add (.call km (.cons (.var 0) .nil)) (.call kt (.cons (.var 0) .nil))))]
def Dq(s:Sn):Prop:=∀{n:Nat} {es:EE} {S:Sto} {Q:QE},(∀ e∈es,e.1<e.2/\e.2<n)->n<=1000->es.length<=1000->(∀(m:Nat) (S':Sto),IsTh es m->Gw S S'->Q (.int ((t4 es n+m:Nat):Int)) S')->s [g9 n es] S Q
theorem LK{km kt:Nat}(hm:IV (Δ km))(ht:CN (Δ kt)){D:Df}(hb:D.body=Ju km kt)(hN:D.N.length=1)(hp:D.ps.length=1):Dq (f6 Δ D):=by
 intro n es S Q hen nn el q;unfold f6;rw[hb,hN];refine⟨hp.symm,_,rfl,hm hen nn λS1 G1=>⟨_,rfl,ht el λm S2 h2 G2=>?_⟩⟩;have:=q m S2 h2 (G1.trans G2);rw[Int.natCast_add]at this;exact this
def Qu(ke:Nat):List Stm:=[(.iff (.cmp .Lt (.var 1) (.call ke (.cons (.var 0) .nil))) [.no] [])]
def Ib(s:Sn):Prop:=∀{n H m:Nat} {es:EE} {S:Sto} {Q:QE},(∀ e∈es,e.1<e.2/\e.2<n)->n<=1000->es.length<=1000->IsTh es m->t4 es n+m<=H->(∀ S',Gw S S'->Q .non S')->s [g9 n es,.int (H:Nat)] S Q
theorem Q4{ke:Nat}(he:Dq (Δ ke)){D:Df}(hb:D.body=Qu ke)(hN:D.N.length=2)(hp:D.ps.length=2):Ib (f6 Δ D):=by
 intro n H m es S Q hen nn el hm hH q;unfold f6;rw[hb,hN];refine⟨hp.symm,_,rfl,_,rfl,he hen nn el λm' S1 h1 G1=>⟨_,rfl,ifF (decide_eq_false ?_) (q S1 G1)⟩⟩;have:=h1.uniq hm;omega
end
def v6(x:Nat×Option Nat):SV := .tup [.int (x.1:Nat),Gr x.2]
def Nk:Option (Nat×Option Nat)->SV
 | none => .non
 | some x=>v6 x
def pnd(r:Option (Nat×Nat)):Option (Nat×Option Nat):=r.map λx=>(x.1,some x.2)
theorem FS{F:Fan}{i:Nat}{x:SV}(h:(F.map v6)[i]?=some x):∃ y,F[i]?=some y/\x=v6 y:=by
 rw[VG]at h;cases he:F[i]? with
 | none=>rw[he]at h;cases h
 | some e=>rw[he]at h;exact⟨e,rfl,(oj h).symm⟩
theorem D5{F:Fan}{i:Nat}{y:Nat×Option Nat}(h:F[i]?=some y):(F.map v6)[i]?=some (v6 y):=by rw[VG,h];rfl
theorem Uh{c:Nat}{L:List Nat}(h:∀ x∈L,x<1000):inS (pS c) (c4 L)=decide (c∈L):=by
 by_cases z:c<1000
 ·rw[n0 z];exact FL c L
 ·rw[w6 z,decide_eq_false (λm=>z (h c m))];unfold inS c4;rw[X6,XR];intro x _ q;cases q
theorem Qv(c:Nat):y0 (pS c)=true:=by
 by_cases z:c<1000
 ·rw[n0 z];rfl
 ·rw[w6 z];rfl
theorem Sr{es:EE}{cs:List Nat}{p H:Nat}(hH:H<=1000):∀ x∈frL es cs p H,x<1000:=λx hx=>by have:=(mem_frL.mp hx).1;omega
section
variable{Δ:Nat->Sn}
def nf1:Stm:=(.asg (.nm 4) (.comp ["tie","back"] [] [] (.tup (.cons (.nm 0) (.cons (.nm 1) .nil))) (.seq (.var 1)) .no (.var 0)))
def nfI:List Stm:=[(.iff (.cmp .In (.ix (.var 0) (.var 5)) (.var 7)) [(.ret (.tup (.cons (.var 5) (.cons (.var 6) .nil))))] [])]
def nfO:List Stm:=[(.iff (.cmp .NotIn (.var 5) (.var 4)) [(.loop (.tup (.cons (.nm 6) (.cons (.nm 7) .nil))) (.enum (.var 3)) nfI)] [])]
def Qw:List Stm:=[nf1,(.loop (.nm 5) (.seq (.var 2)) nfO),(.ret (.c .non))]
def FrA(S:Sto)(es:EE)(cs:List Nat)(p H:Nat)(F:Fan)(ls:List Nat):Prop:=ls.length=F.length/\∀(i l:Nat) (x:Nat×Option Nat),ls[i]?=some l->F[i]?=some x->S[l]?=some (.lst (c4 (frL es cs (farT es p x.1) H)))
theorem FrA.gw{S S':Sto}{es:EE}{cs:List Nat}{p H:Nat}{F:Fan}{ls:List Nat}(h:FrA S es cs p H F ls)(G:Gw S S'):FrA S' es cs p H F ls:=⟨h.1,λi l x a b=>G.keep _ _ (h.2 i l x a b)⟩
def Ic(s:Sn):Prop:=∀{p H kf ka kr:Nat} {w:SV} {es:EE} {cs ls:List Nat} {F:Fan} {S:Sto} {Q:QE},Hv S w cs->cs.length=es.length->es.length<=60->H<=1000->S[kf]?=some (.lst (F.map v6))->F.length<=60->S[ka]?=some (.lst (c4 (f9 es p es.length)))->S[kr]?=some (.lst (ls.map SV.loc))->FrA S es cs p H F ls->(∀ S',Gw S S'->Q (Nk (pnd (Ax es cs p H F))) S')->s [w,.loc kf,.loc ka,.loc kr] S Q
theorem Q5(hΔ:∀ f,MonoN (Δ f)){D:Df}(hb:D.body=Qw)(hN:D.N.length=8)(hp:D.ps.length=4):Ic (f6 Δ D):=by
 intro p H kf ka kr w es cs ls F S Q hw cl el hH hF fl ha hr A q;unfold f6;rw[hb,hN];refine⟨hp.symm,_,rfl,_,a7 hF,?_⟩;refine i4 (j7 hΔ _).2 (a5 hΔ _).1 (λj ys S2=>S2=S/\ys=c4 ((F.map (·.1)).take j)) ⟨rfl,rfl⟩ (λ_ _ _ z=>by rw[z.1];exact rfl) ?_ ?_
 ·rintro j x ys S2 hx ⟨rfl,rfl⟩;obtain⟨y,hy,rfl⟩:=FS hx;have jl:=(gM hy).1;refine⟨_,rfl,by rw[i6,Vy,V7];show _<100000;omega,rfl,?_⟩;rw[Vl,VG,hy,u8];rfl
 rintro ys S2 ⟨rfl,rfl⟩;rw[V7,show(F.map (·.1)).take F.length=F.map (·.1) by rw[<-V7 (f:=(·.1)),Vi]];have G1:Gw S2 (S2++[SO.lst (c4 (F.map (·.1)))]):=(Gw.refl S2).push;have h4:(S2++[SO.lst (c4 (F.map (·.1)))])[S2.length]?=some (SO.lst (c4 (F.map (·.1)))):=a8;have hw1:=hw.gw G1;have ha1:=G1.keep _ _ ha;have hr1:=G1.keep _ _ hr;have A1:=A.gw G1;show wSs Δ [(.loop (.nm 5) (.seq (.var 2)) nfO),(.ret (.c .non))] (A6 Q) [some w,some (.loc kf),some (.loc ka),some (.loc kr),some (.loc S2.length),none,none,none] (S2++[SO.lst (c4 (F.map (·.1)))]);generalize S2++[SO.lst (c4 (F.map (·.1)))]=S1 at *;generalize S2.length=k4 at *;refine⟨_,rfl,_,a7 ha1,?_⟩;refine t9 (i7 hΔ _) (λj ρ S3=>S3=S1/\(∃ o5 o6 o7:Option SV,ρ=[some w,some (.loc kf),some (.loc ka),some (.loc kr),some (.loc k4),o5,o6,o7])/\∀ u∈(f9 es p es.length).take j,(if u∈F.map (·.1) then none else (Aa cs u (frs es cs p H F)).map λb=>(u,b))=none) ⟨rfl,⟨none,none,none,rfl⟩,λu hu'=>by simp at hu'⟩ (λ_ _ _ z=>by rw[z.1];exact rfl) ?_ ?_
 ·rintro j x ρ S3 E hE hR hx ⟨rfl,⟨o5,o6,o7,rfl⟩,no⟩;obtain⟨t,htj,rfl⟩:=B8 hx;have tl:t<es.length:=let ⟨e,he,_⟩:=mem_tiesAt.mp (V9 htj);(gM he).1
  have hc:=v5 (cs:=cs) (t:=t) (by omega)
  have nx:(if t∈F.map (·.1) then none else (Aa cs t (frs es cs p H F)).map λb=>(t,b))=none->∀ u∈(f9 es p es.length).take (j+1),(if u∈F.map (·.1) then none else (Aa cs u (frs es cs p H F)).map λb=>(u,b))=none:=λz u hu'=>by
   rw[Vl,htj]at hu';rcases VU.mp hu' with y | y
   ·exact no u y
   ·have:u=t:=by simpa using y
    rw[this];exact z
  refine⟨_,rfl,_,rfl,?_⟩;show match BC (.loc k4) S3 with | some ms=>_ | none=>_
  rw[AV h4];refine⟨rfl,_,a7 h4,Bi _,_,rfl,?_⟩;show if (!inS (.int (t:Nat)) (c4 (F.map (·.1))))=true then _ else _
  rw[FL];by_cases m:t∈F.map (·.1)
  ·rw[decide_eq_true m];exact ifF rfl (c8 (hE _ _ ⟨rfl,⟨_,_,_,rfl⟩,nx (iP m)⟩))
  ·rw[decide_eq_false m];refine ifT rfl ⟨_,rfl,_,a7 hr1,?_⟩;rw[iG m]at nx;refine t9 (i7 hΔ _) (λj2 ρ S4=>S4=S3/\(∃ o6 o7:Option SV,ρ=[some w,some (.loc kf),some (.loc ka),some (.loc kr),some (.loc k4),some (.int (t:Nat)),o6,o7])/\∀ l∈(frs es cs p H F).take j2,decide (hu cs t∈l)=false) ⟨rfl,⟨_,_,rfl⟩,λu hu'=>by simp at hu'⟩ (λ_ _ _ z=>by rw[z.1];exact rfl) ?_ ?_
   ·rintro j2 x2 ρ2 S4 E2 hE2 hR2 hx2 ⟨rfl,⟨o6,o7,rfl⟩,no2⟩;obtain⟨y2,hy2,rfl⟩:=B6 hx2;rw[VG]at hy2;cases hl:ls[j2]? with
    | none=>rw[hl]at hy2;cases hy2
    | some l=>
      rw[hl]at hy2;cases hy2;have jl:=(gM hl).1;have hFj:=VB (show j2<F.length by rw[<-A1.1];exact jl);have hl':=A1.2 j2 l _ hl hFj;refine⟨_,rfl,_,rfl,_,_,hw1.seq,f8 (r6 hc),_,rfl,?_⟩;show match BC (.loc l) S4 with | some ms=>_ | none=>_
      rw[AV hl'];refine⟨Qv _,_,a7 hl',Bi _,_,rfl,?_⟩;show if inS (pS (hu cs t)) (c4 (frL es cs (farT es p (F[j2]'(by rw[<-A1.1];exact jl)).1) H))=true then _ else _
      rw[Uh (Sr hH)];have ef:(frs es cs p H F)[j2]?=some (frL es cs (farT es p (F[j2]'(by rw[<-A1.1];exact jl)).1) H):=by unfold frs;rw[VG,hFj];rfl
      refine ifD (λz=>?_) (λz=>c8 (hE2 _ _ ⟨rfl,⟨_,_,rfl⟩,λl' hl2=>?_⟩))
      ·refine⟨_,rfl,_,rfl,by show 2<=100000;decide,hR2 _ _ (hR _ _ ?_)⟩
       have e1:Aa cs t (frs es cs p H F)=some j2:=by
        unfold Aa;refine X4.mpr ⟨(gM ef).1,?_,λk hk z2=>?_⟩
        ·rw[(gM ef).2];exact decide_eq_true z
        ·have kl:k<(frs es cs p H F).length:=by have:=(gM ef).1;omega
         have:=no2 (frs es cs p H F)[k] (List.mem_take_iff_getElem.mpr ⟨k,by omega,rfl⟩);rw[this]at z2;cases z2
       have e2:Ax es cs p H F=some (t,j2):=Nb htj (by rw[iG m,e1];rfl) no;have:=q S4 G1;rw[e2]at this;exact this
      ·rw[Vl,ef]at hl2;rcases VU.mp hl2 with y | y
       ·exact no2 l' y
       ·have:l'=frL es cs (farT es p (F[j2]'(by rw[<-A1.1];exact jl)).1) H:=by simpa using y
        rw[this];exact decide_eq_false z
   ·rintro ρ2 S4 ⟨rfl,⟨o6,o7,rfl⟩,no2⟩;refine hE _ _ ⟨rfl,⟨_,_,_,rfl⟩,nx ?_⟩;rw[B7,V7,A1.1,show(frs es cs p H F).take F.length=frs es cs p H F by rw[<-V7 (f:=λx:Nat×Option Nat=>frL es cs (farT es p x.1) H) (as:=F)];exact Vi]at no2
    have:Aa cs t (frs es cs p H F)=none:=by
     unfold Aa;rw[XO];exact no2
    rw[this];rfl
 ·rintro ρ S3 ⟨rfl,⟨o5,o6,o7,rfl⟩,no⟩;rw[i6,Vi]at no
  have e:Ax es cs p H F=none:=by
   unfold Ax;rw[WQ];exact no
  have:=q S3 G1;rw[e]at this;exact this
def fo1(kf:Nat):List Stm:=[(.expr (.call kf (.cons (.var 0) (.cons (.var 2) (.cons (.var 3) .nil))))),(.iff (.cmp .IsNot (.ix (.var 1) (.var 2)) (.c .non)) [.no] [])]
def fo2(kt:Nat):List Stm:=[(.asg (.nm 5) (.call kt (.cons (.var 0) (.cons (.var 3) .nil)))),(.asg (.nm 6) (.lst .nil)),(.asg (.nm 7) (.lst .nil)),(.asg (.nm 8) (.tup (.cons (.var 2) (.cons (.c .non) .nil))))]
def foW(kf kr kn:Nat):List Stm:=[(.expr (.mt .append (.var 6) (.cons (.var 8) .nil))),(.asg (.nm 9) (.call kf (.cons (.var 0) (.cons (.ix (.var 8) (.c (.int 0))) (.cons (.var 3) .nil))))),(.expr (.mt .append (.var 7) (.cons (.call kr (.cons (.var 0) (.cons (.var 1) (.cons (.var 9) (.cons (.var 4) .nil))))) .nil))),(.asg (.nm 8) (.call kn (.cons (.var 1) (.cons (.var 6) (.cons (.var 5) (.cons (.var 7) .nil))))))]
def Nl(kf kt kr kn:Nat):List Stm:=fo1 kf++(fo2 kt++[(.whl (.cmp .IsNot (.var 8) (.c .non)) (foW kf kr kn)),(.ret (.var 6))])
def Nm(s:Sn):Prop:=∀{n H p t:Nat} {w:SV} {es:EE} {cs:List Nat} {S:Sto} {Q:QE},Hv S w cs->cs.length=es.length->(∀ e∈es,e.1<e.2/\e.2<n)->es.length<=60->H<=1000->AtP es t p->¬ hu cs t<1000->(∀(l:Nat) (S':Sto),Gw S S'->S'[l]?=some (.lst ((Bn es cs p H (es.length+1) [(t,none)]).map v6))->Q (.loc l) S')->s [g9 n es,w,.int (t:Nat),.int (p:Nat),.int (H:Nat)] S Q
theorem Ss(hΔ:∀ f,MonoN (Δ f)){kf kt kr kn:Nat}(hf:Aw (Δ kf))(ht:BX (Δ kt))(hr:Bj (Δ kr))(hn:Ic (Δ kn)){D:Df}(hb:D.body=Nl kf kt kr kn)(hN:D.N.length=10)(hp:D.ps.length=5):Nm (f6 Δ D):=by
 intro n H p t w es cs S Q hw cl hen el hH atp b0 q;obtain⟨e,he,hep⟩:=atp;have atp:AtP es t p:=⟨e,he,hep⟩
 have tl:=atp.lt;have pn:p<n:=by have:=hen e (V9 he);omega
 have hc:=v5 (cs:=cs) (t:=t) (by omega);have hcp:(c9 cs)[t]?=some .non:=by rw[r6 hc,w6 b0]
 unfold f6;rw[hb,hN];refine⟨hp.symm,_,rfl,_,rfl,_,rfl,hf he (hep.imp Eq.symm Eq.symm) ?_⟩;refine⟨_,rfl,_,rfl,_,_,hw.seq,f8 hcp,.inl ⟨rfl,_,rfl,ifF rfl (c8 ?_)⟩⟩;refine⟨_,rfl,_,rfl,ht (by omega) pn ?_⟩;refine⟨by show 0<=100000;decide,by show 0<=100000;decide,_,rfl,by show 2<=100000;decide,?_⟩;have G0:Gw S (S++[SO.lst (c4 (f9 es p es.length))]++[SO.lst []]++[SO.lst []]):=(Gw.refl S).push.push.push;have c5:(S++[SO.lst (c4 (f9 es p es.length))]++[SO.lst []]++[SO.lst []])[S.length]?=some (SO.lst (c4 (f9 es p es.length))):=j5 (j5 a8);have e6:(S++[SO.lst (c4 (f9 es p es.length))]).length=S.length+1:=by simp
 have e7:(S++[SO.lst (c4 (f9 es p es.length))]++[SO.lst []]).length=S.length+2:=by simp
 have c6:(S++[SO.lst (c4 (f9 es p es.length))]++[SO.lst []]++[SO.lst []])[S.length+1]?=some (SO.lst []):=by rw[<-e6];exact j5 a8
 have c7:(S++[SO.lst (c4 (f9 es p es.length))]++[SO.lst []]++[SO.lst []])[S.length+2]?=some (SO.lst []):=by rw[<-e7];exact a8
 show wSs Δ [(.whl (.cmp .IsNot (.var 8) (.c .non)) (foW kf kr kn)),(.ret (.var 6))] (A6 Q) [some (g9 n es),some w,some (.int (t:Nat)),some (.int (p:Nat)),some (.int (H:Nat)),some (.loc S.length),some (.loc (S++[SO.lst (c4 (f9 es p es.length))]).length),some (.loc (S++[SO.lst (c4 (f9 es p es.length))]++[SO.lst []]).length),some (Nk (some (t,none))),none] (S++[SO.lst (c4 (f9 es p es.length))]++[SO.lst []]++[SO.lst []]);rw[e6,e7];generalize S++[SO.lst (c4 (f9 es p es.length))]++[SO.lst []]++[SO.lst []]=S0 at *;generalize hl:S.length=m0 at *;refine⟨λm ρ S'=>∃(G:Fan) (o:Option (Nat×Option Nat)) (ls:List Nat) (o9:Option SV),ρ=[some (g9 n es),some w,some (.int (t:Nat)),some (.int (p:Nat)),some (.int (H:Nat)),some (.loc m0),some (.loc (m0+1)),some (.loc (m0+2)),some (Nk o),o9]/\Gw S S'/\S'[m0]?=some (.lst (c4 (f9 es p es.length)))/\S'[m0+1]?=some (.lst (G.map v6))/\S'[m0+2]?=some (.lst (ls.map SV.loc))/\FrA S' es cs p H G ls/\(∀ l∈ls,m0+2<l)/\m+G.length=es.length+1/\match o with | none=>G=Bn es cs p H (es.length+1) [(t,none)] | some x=>FanI es cs p H t (G++[x])/\∃ k,es.length<(G++[x]).length+k/\Bn es cs p H k (G++[x])=Bn es cs p H (es.length+1) [(t,none)],⟨es.length+1,[],some (t,none),[],none,rfl,G0,c5,c6,c7,⟨rfl,λi l x z=>by simp at z⟩,(λ_ h=>nomatch h),rfl,FanI.one atp,es.length+1,by show es.length<1+(es.length+1);omega,rfl⟩,?_⟩;rintro m ρ S' ⟨G,o,ls,o9,rfl,GS,h5,h6,h7,A,lm,em,hm⟩;cases o with
 | none=>
   refine⟨_,rfl,.inl ⟨rfl,_,rfl,ifF rfl ⟨_,rfl,q _ S' GS ?_⟩⟩⟩;rw[h6,hm]
 | some x=>
   obtain⟨I,k,hk,ek⟩:=hm;have gl:=I.len;rw[V8]at gl hk;simp only[VY,W4]at gl hk;obtain⟨ex,hex,hxp⟩:=I.att x (by simp);have fn:=Cj hen ⟨ex,hex,hxp⟩;have fe:w5 ex p=farT es p x.1:=by unfold farT;rw[show es.getD x.1 (0,0)=ex by rw[VA,hex];rfl]
   refine⟨_,rfl,.inl ⟨rfl,_,rfl,ifT rfl ?_⟩⟩;refine⟨_,rfl,⟨_,_,rfl,h6⟩,_,rfl,_,h6,by rw[V7];show _<100000;omega,?_⟩;have h61:(S'.set (m0+1) (.lst (G.map v6++[v6 x])))[m0+1]?=some (.lst ((G++[x]).map v6)):=by rw[k9 h6,VM];rfl
   have h51:(S'.set (m0+1) (.lst (G.map v6++[v6 x])))[m0]?=some (.lst (c4 (f9 es p es.length))):=by rw[A7 (by omega)];exact h5
   have h71:(S'.set (m0+1) (.lst (G.map v6++[v6 x])))[m0+2]?=some (.lst (ls.map SV.loc)):=by rw[A7 (by omega)];exact h7
   have GS1:Gw S (S'.set (m0+1) (.lst (G.map v6++[v6 x]))):=GS.put (by omega);have A1:FrA (S'.set (m0+1) (.lst (G.map v6++[v6 x]))) es cs p H G ls:=⟨A.1,λi l y a b=>by rw[A7 (by have:=lm l (V9 a);omega)];exact A.2 i l y a b⟩
   show wSs Δ [(.asg (.nm 9) (.call kf (.cons (.var 0) (.cons (.ix (.var 8) (.c (.int 0))) (.cons (.var 3) .nil))))),(.expr (.mt .append (.var 7) (.cons (.call kr (.cons (.var 0) (.cons (.var 1) (.cons (.var 9) (.cons (.var 4) .nil))))) .nil))),(.asg (.nm 8) (.call kn (.cons (.var 1) (.cons (.var 6) (.cons (.var 5) (.cons (.var 7) .nil))))))] _ [some (g9 n es),some w,some (.int (t:Nat)),some (.int (p:Nat)),some (.int (H:Nat)),some (.loc m0),some (.loc (m0+1)),some (.loc (m0+2)),some (v6 x),o9] (S'.set (m0+1) (.lst (G.map v6++[v6 x])));have s1l:m0+2<(S'.set (m0+1) (.lst (G.map v6++[v6 x]))).length:=(gM h71).1;generalize S'.set (m0+1) (.lst (G.map v6++[v6 x]))=S1 at *;refine⟨_,rfl,_,rfl,_,_,rfl,rfl,_,rfl,hf hex (hxp.imp Eq.symm Eq.symm) ?_⟩;rw[fe];refine⟨_,rfl,⟨_,_,rfl,h71⟩,_,rfl,_,rfl,_,rfl,_,rfl,hr (hw.gw GS1) cl el fn.2 hH λl2 S2 G2 l2l h2=>?_⟩;refine⟨_,G2.keep _ _ h71,by rw[V7,A.1];show _<100000;omega,?_⟩;have l2m:m0+2<l2:=by omega
   have h72:(S2.set (m0+2) (.lst (ls.map SV.loc++[.loc l2])))[m0+2]?=some (.lst ((ls++[l2]).map SV.loc)):=by rw[k9 (G2.keep _ _ h71),VM];rfl
   have h62:(S2.set (m0+2) (.lst (ls.map SV.loc++[.loc l2])))[m0+1]?=some (.lst ((G++[x]).map v6)):=by rw[A7 (by omega)];exact G2.keep _ _ h61
   have h52:(S2.set (m0+2) (.lst (ls.map SV.loc++[.loc l2])))[m0]?=some (.lst (c4 (f9 es p es.length))):=by rw[A7 (by omega)];exact G2.keep _ _ h51
   have GS2:Gw S (S2.set (m0+2) (.lst (ls.map SV.loc++[.loc l2]))):=(GS1.trans G2).put (by omega)
   have lm2:∀ l∈ls++[l2],m0+2<l:=λl hl=>by
    rcases VU.mp hl with z | z
    ·exact lm l z
    ·rw[VQ.mp z];exact l2m
   have A2:FrA (S2.set (m0+2) (.lst (ls.map SV.loc++[.loc l2]))) es cs p H (G++[x]) (ls++[l2]):=⟨by rw[V8,V8,A.1];rfl,λi l y a b=>by
    rw[A7 (by have:=lm2 l (V9 a);omega)];rcases NJ a with⟨a1,a2⟩ | a
    ·rw[a1,A.1,Vb]at b;cases b;rw[a2];exact h2
    ·have il:=(gM a).1;rw[VP (by rw[<-A.1];exact il)]at b;exact G2.keep _ _ (A1.2 i l y a b)⟩
   show wSs Δ [(.asg (.nm 8) (.call kn (.cons (.var 1) (.cons (.var 6) (.cons (.var 5) (.cons (.var 7) .nil))))))] _ [some (g9 n es),some w,some (.int (t:Nat)),some (.int (p:Nat)),some (.int (H:Nat)),some (.loc m0),some (.loc (m0+1)),some (.loc (m0+2)),some (v6 x),some (.int (farT es p x.1:Nat))] (S2.set (m0+2) (.lst (ls.map SV.loc++[.loc l2])));generalize S2.set (m0+2) (.lst (ls.map SV.loc++[.loc l2]))=S3 at *;refine⟨_,rfl,_,rfl,_,rfl,_,rfl,hn (hw.gw GS2) cl el hH h62 (by rw[V8];simp;omega) h52 h72 A2 λS4 G4=>?_⟩;refine⟨es.length+1 - (G++[x]).length,by rw[V8];simp;omega,G++[x],pnd (Ax es cs p H (G++[x])),ls++[l2],_,rfl,GS2.trans G4,G4.keep _ _ h52,G4.keep _ _ h62,G4.keep _ _ h72,A2.gw G4,lm2,by rw[V8];simp;omega,?_⟩;obtain⟨k',rfl⟩:∃ k',k=k'+1:=⟨k - 1,by omega⟩
   unfold Bn at ek;cases hz:Ax es cs p H (G++[x]) with
   | none=>rw[hz]at ek;exact ek
   | some y=>
     rw[hz]at ek;exact⟨I.snoc hz,k',by rw[V8,V8];simp;omega,ek⟩
theorem Q6{l:List Nat}(h:l≠[]):(c4 l)[0]?=some (.int (l.headD 0:Nat)):=by
 cases l with
 | nil=>exact absurd rfl h
 | cons a l=>rfl
end
theorem HC(h:Nat):∀(r:List Nat) (a:Nat),AZ (a::r) h=(VD r.length).map (λk=>Sp3.move ((a::r).getD (k+1) 0) ((a::r).getD k 0))++[.hue ((a::r).getLastD 0) h]
 | [],a=>rfl
 | b::r,a=>by
   show Sp3.move b a::AZ (b::r) h=_;rw[HC h r b,VY,List.range_succ_eq_map,Vh,XE];rfl
theorem LL{xs:List SV}{x:SV}(h:xs[xs.length - 1]?=some x):atI xs (-1)=some x:=by
 have ne:xs≠[]:=λz=>by rw[z]at h;cases h
 have e:xs=xs.dropLast++[x]:=by
  have l:=Wp ne;rw[Wy,h]at l;rw[oj l];exact(List.dropLast_concat_getLast ne).symm
 rw[e];exact Lq _ _
theorem Nn{xs:List SV}{i:Nat}{x:SV}(h:xs[i+1]?=some x):atI xs ((i:Int)+1)=some x:=by
 rw[show((i:Int)+1)=((i+1:Nat):Int) from rfl];exact f8 h
section
variable{Δ:Nat->Sn}
def tw1:List Stm:=[(.asg (.nm 3) (.lst (.cons (.ix (.ix (.var 0) (.var 1)) (.c (.int 0))) .nil))),(.asg (.nm 4) (.ix (.ix (.var 0) (.var 1)) (.c (.int 1))))]
def twW:List Stm:=[(.expr (.mt .append (.var 3) (.cons (.ix (.ix (.var 0) (.var 4)) (.c (.int 0))) .nil))),(.asg (.nm 4) (.ix (.ix (.var 0) (.var 4)) (.c (.int 1))))]
def tw2:List Stm:=[(.expr (.mt .reverse (.var 3) .nil)),(.asg (.nm 5) (.comp ["k"] ["way"] [3] (.nm 0) (.rng1 (.op .Sub (.bi .len (.cons (.var 3) .nil)) (.c (.int 1)))) .no (.tup (.cons (.c (.str "move")) (.cons (.ix (.var 1) (.op .Add (.var 0) (.c (.int 1)))) (.cons (.ix (.var 1) (.var 0)) .nil)))))),(.expr (.mt .append (.var 5) (.cons (.tup (.cons (.c (.str "hue")) (.cons (.ix (.var 3) (.neg (.c (.int 1)))) (.cons (.var 2) .nil)))) .nil))),(.ret (.var 5))]
def HD:List Stm:=tw1++((.whl (.cmp .IsNot (.var 4) (.c .non)) twW)::tw2)
def Ck(s:Sn):Prop:=∀{p H kf i h t0:Nat} {es:EE} {cs:List Nat} {F:Fan} {S:Sto} {Q:QE},FanI es cs p H t0 F->es.length<=60->S[kf]?=some (.lst (F.map v6))->i<F.length->(∀(l:Nat) (S':Sto),Gw S S'->S.length<=l->S'[l]?=some (.lst ((AZ (upF F (i+1) (some i)).reverse h).map w9))->Q (.loc l) S')->s [.loc kf,.int (i:Nat),.int (h:Nat)] S Q
theorem Id(hΔ:∀ f,MonoN (Δ f)){D:Df}(hb:D.body=HD)(hN:D.N.length=6)(hp:D.ps.length=3):Ck (f6 Δ D):=by
 intro p H kf i h t0 es cs F S Q I el hF il q;have fl:=I.len;obtain⟨x,hx⟩:∃ x,F[i]?=some x:=⟨_,VB il⟩
 have dec:∀{j b:Nat} {y:Nat×Option Nat},F[j]?=some y->y.2=some b->b<j/\b<F.length:=λ{j b y} e1 e2=>by
  obtain⟨t,o⟩:=y;have j0:0<j:=XJ λz=>by rw[z,I.fst]at e1;cases e1;cases e2
  obtain⟨b',u,c,k1,k2,k3,_⟩:=I.bk j t o j0 e1;rw[show o=some b from e2]at k1;cases k1;exact⟨k2,(gM k3).1⟩
 unfold f6;rw[hb,hN];have hF1:=j5 (o:=SO.lst [SV.int (x.1:Nat)]) hF;refine⟨hp.symm,_,rfl,_,rfl,_,_,a7 hF,f8 (D5 hx),_,_,rfl,rfl,by show 1<=100000;decide,?_⟩;refine⟨_,rfl,_,rfl,_,_,a7 hF1,f8 (D5 hx),_,_,rfl,rfl,?_⟩;have G0:Gw S (S++[SO.lst [SV.int (x.1:Nat)]]):=(Gw.refl S).push;have h30:(S++[SO.lst [SV.int (x.1:Nat)]])[S.length]?=some (SO.lst (c4 [x.1])):=a8;show wSs Δ ((.whl (.cmp .IsNot (.var 4) (.c .non)) twW)::tw2) (A6 Q) [some (.loc kf),some (.int (i:Nat)),some (.int (h:Nat)),some (.loc S.length),some (Gr x.2),none] (S++[SO.lst [SV.int (x.1:Nat)]]);generalize S++[SO.lst [SV.int (x.1:Nat)]]=S0 at *;have fl':=(gM hF).1;generalize hl:S.length=k3 at *
 have ul:∀ m,(upF F m (some i)).length<=m:=λm=>by
  have go:∀(m:Nat) (o:Option Nat),(upF F m o).length<=m:=by
   intro m
   induction m with
   | zero=>intro o;cases o<;>exact VF _
   | succ m ih=>
     intro o;cases o with
     | none=>exact WJ _
     | some j=>
       show(match F[j]? with | none=>[] | some x=>x.1::upF F m x.2).length<=_;cases F[j]? with
       | none=>exact WJ _
       | some y=>exact X9 (ih y.2)
  exact go m _
 refine⟨λm ρ S'=>∃(acc:List Nat) (bk:Option Nat),ρ=[some (.loc kf),some (.int (i:Nat)),some (.int (h:Nat)),some (.loc k3),some (Gr bk),none]/\acc++upF F m bk=upF F (i+1) (some i)/\(∀ b,bk=some b->b<m/\b<F.length)/\Gw S S'/\S'[k3]?=some (.lst (c4 acc))/\acc.length+m=i+1,⟨i,[x.1],x.2,rfl,?_,λb e=>dec hx e,G0,h30,by show 1+i=i+1;omega⟩,?_⟩
 ·show _=match F[i]? with | none=>[] | some x=>x.1::upF F i x.2
  rw[hx];rfl
 rintro m ρ S' ⟨acc,bk,rfl,ea,hbk,GS,h3,al⟩;have hF':=GS.keep _ _ hF;cases bk with
 | some b=>
   obtain⟨bm,bl⟩:=hbk b rfl;obtain⟨m',rfl⟩:∃ m',m=m'+1:=⟨m - 1,by omega⟩
   obtain⟨y,hy⟩:∃ y,F[b]?=some y:=⟨_,VB bl⟩
   have eu:upF F (m'+1) (some b)=y.1::upF F m' y.2:=by
    show(match F[b]? with | none=>[] | some x=>x.1::upF F m' x.2)=_;rw[hy]
   rw[eu]at ea;refine⟨_,rfl,.inl ⟨rfl,_,rfl,ifT rfl ?_⟩⟩;refine⟨_,rfl,⟨_,_,rfl,h3⟩,_,rfl,_,rfl,_,_,a7 hF',f8 (D5 hy),_,_,rfl,rfl,_,h3,by rw[i6];show _<100000;omega,?_⟩;have h31:(S'.set k3 (.lst (c4 acc++[.int (y.1:Nat)])))[k3]?=some (.lst (c4 (acc++[y.1]))):=by rw[k9 h3,u8];rfl
   have GS1:Gw S (S'.set k3 (.lst (c4 acc++[.int (y.1:Nat)]))):=GS.put (by omega);have hF1':=GS1.keep _ _ hF;refine⟨_,rfl,_,rfl,_,_,a7 hF1',f8 (D5 hy),_,_,rfl,rfl,?_⟩;exact⟨m',by omega,acc++[y.1],y.2,rfl,by rw[<-ea];simp,λb2 e2=>by have:=dec hy e2;omega,GS1,h31,by rw[V8];simp;omega⟩
 | none=>
   have e0:upF F m none=[]:=by cases m<;>rfl
   rw[e0,Vt]at ea;refine⟨_,rfl,.inl ⟨rfl,_,rfl,ifF rfl ?_⟩⟩;refine⟨_,rfl,⟨_,_,rfl,h3⟩,_,h3,?_⟩;rw[ea]at h3 al
   have h32:(S'.set k3 (.lst (c4 acc).reverse))[k3]?=some (.lst (c4 (upF F (i+1) (some i)).reverse)):=by
    rw[k9 h3,ea];unfold c4;rw[List.map_reverse]
   have GS2:Gw S (S'.set k3 (.lst (c4 acc).reverse)):=GS.put (by omega);have k3l:=(gM h32).1
   have ne:(upF F (i+1) (some i)).reverse≠[]:=by
    rw[Ne,List.reverse_eq_nil_iff];show(match F[i]? with | none=>[] | some x=>x.1::upF F i x.2)≠[];rw[hx];simp
   have wl:=ul (i+1);rw[<-X0]at wl;generalize S'.set k3 (.lst (c4 acc).reverse)=S2 at *;generalize (upF F (i+1) (some i)).reverse=W at *
   obtain⟨a,r,rfl⟩:∃ a r,W=a::r:=by
    cases W with
    | nil=>exact absurd rfl ne
    | cons a r=>exact⟨a,r,rfl⟩
   rw[VY]at wl;have nl:(c4 (a::r)).length=r.length+1:=by rw[i6];rfl
   have gt:∀ j,j<r.length+1->(c4 (a::r))[j]?=some (.int ((a::r).getD j 0:Nat)):=λj hj=>by
    unfold c4;rw[VG,VA,VB (show j<(a::r).length by rw[VY];exact hj)];rfl
   refine⟨_,rfl,_,a7 h32,_,rfl,⟨by rw[nl];omega,by rw[nl];omega⟩,?_⟩;rw[nl,show(((r.length+1:Nat):Int) - 1)=(r.length:Int) by omega];refine i4 (j7 hΔ _).2 (a5 hΔ _).1 (λj ys S3=>S3=S2/\ys=((VD j).map λk=>Sp3.move ((a::r).getD (k+1) 0) ((a::r).getD k 0)).map w9) ⟨rfl,rfl⟩ (λ_ _ _ _=>trivial) ?_ ?_
   ·rintro j x ys S3 hx ⟨rfl,rfl⟩;have jl:j<r.length:=by have:=(gM hx).1;rw[m4]at this;omega
    obtain⟨rfl,hj⟩:=p0 hx;rw[Wh]at hj ⊢;refine⟨_,rfl,_,rfl,_,_,a7 h32,Nn (gt (j+1) (by omega)),_,rfl,_,rfl,_,_,a7 h32,f8 (gt j (by omega)),by show 3<=100000;decide,by rw[V7,V7,Vm];show _<100000;omega,rfl,?_⟩;rw[WB,VM,VM];rfl
   ·rintro ys S3 ⟨rfl,rfl⟩;rw[m4,show((r.length:Int) - 0).toNat=r.length by omega];have h5:(S3++[SO.lst (((VD r.length).map λk=>Sp3.move ((a::r).getD (k+1) 0) ((a::r).getD k 0)).map w9)])[S3.length]?=_:=a8
    have lst:(c4 (a::r))[(c4 (a::r)).length - 1]?=some (.int ((a::r).getLastD 0:Nat)):=by
     rw[nl,show r.length+1 - 1=r.length by omega,gt r.length (by omega)]
     congr 3
     rw[XQ,Wy,VA];rfl
    refine⟨_,rfl,⟨_,_,rfl,h5⟩,_,rfl,_,_,a7 (j5 h32),LL lst,_,rfl,by show 3<=100000;decide,_,h5,by rw[V7,V7,Vm];show _<100000;omega,?_⟩;refine⟨_,rfl,q _ _ (GS2.push.put (Ve (Y4 hl) (by omega))) (by omega) ?_⟩;rw[k9 h5,HC,VM];rfl
def td1(kr:Nat):Stm:=(.asg (.nm 5) (.call kr (.cons (.var 0) (.cons (.var 1) (.cons (.var 3) (.cons (.var 4) .nil))))))
def td2(kr kf:Nat):Stm:=(.asg (.nm 9) (.call kr (.cons (.var 0) (.cons (.var 1) (.cons (.call kf (.cons (.var 0) (.cons (.var 7) (.cons (.var 3) .nil)))) (.cons (.var 4) .nil))))))
def td3:Stm:=(.asg (.nm 10) (.comp ["hue"] ["free"] [9] (.nm 0) (.seq (.var 5)) (.yes (.cmp .In (.var 0) (.var 1))) (.var 0)))
def td4(kt:Nat):Stm:=(.iff (.var 10) [(.ret (.call kt (.cons (.var 2) (.cons (.var 6) (.cons (.ix (.var 10) (.c (.int 0))) .nil)))))] [])
def Jv(kr kf kt:Nat):List Stm:=[td1 kr,(.loop (.tup (.cons (.nm 6) (.cons (.tup (.cons (.nm 7) (.cons (.nm 8) .nil))) .nil))) (.enum (.var 2)) [td2 kr kf,td3,td4 kt]),(.ret (.c .non))]
def Dr(s:Sn):Prop:=∀{n H p kf t0:Nat} {w:SV} {es:EE} {cs ds:List Nat} {F:Fan} {S:Sto} {Q:QE},Hv S w ds->ds.length=es.length->(∀ e∈es,e.1<e.2/\e.2<n)->es.length<=60->H<=1000->FanI es cs p H t0 F->S[kf]?=some (.lst (F.map v6))->(t3 es ds p H F=none->∀ S',Gw S S'->Q .non S')->(∀ s,t3 es ds p H F=some s->∀(l:Nat) (S':Sto),Gw S S'->S.length<=l->S'[l]?=some (.lst (s.map w9))->Q (.loc l) S')->s [g9 n es,w,.loc kf,.int (p:Nat),.int (H:Nat)] S Q
theorem LM(hΔ:∀ f,MonoN (Δ f)){kr kf kt:Nat}(hr:Bj (Δ kr))(hf:Aw (Δ kf))(ht:Ck (Δ kt)){D:Df}(hb:D.body=Jv kr kf kt)(hN:D.N.length=11)(hp:D.ps.length=5):Dr (f6 Δ D):=by
 intro n H p k2 t0 w es cs ds F S Q hw cl hen el hH I hF q0 q1;have fl:=I.len;obtain⟨e0,he0,hp0⟩:=I.att _ (V9 I.fst);have pn:p<n:=by have:=hen e0 (V9 he0);omega
 unfold f6;rw[hb,hN];refine⟨hp.symm,_,rfl,_,rfl,_,rfl,_,rfl,hr hw cl el pn hH λl5 S1 G1 _ h5=>?_⟩;refine⟨_,rfl,_,a7 (G1.keep _ _ hF),?_⟩;refine t9 (i7 hΔ _) (λj ρ S2=>Gw S1 S2/\(∃ o6 o7 o8 o9 o10:Option SV,ρ=[some (g9 n es),some w,some (.loc k2),some (.int (p:Nat)),some (.int (H:Nat)),some (.loc l5),o6,o7,o8,o9,o10])/\∀ u∈(VD F.length).take j,((Dl es ds p H F u).head?.map λh=>AZ (upF F (u+1) (some u)).reverse h)=none) ⟨Gw.refl _,⟨none,none,none,none,none,rfl⟩,λu hu'=>by simp at hu'⟩ (λ_ _ S2 z=>by show S2[k2]?=S1[k2]?;rw[G1.keep _ _ hF];exact z.1.keep _ _ (G1.keep _ _ hF)) ?_ ?_
 ·rintro j x ρ S2 E hE hR hx ⟨G2,⟨o6,o7,o8,o9,o10,rfl⟩,no⟩;obtain⟨y,hy,rfl⟩:=B6 hx;obtain⟨z,hz,rfl⟩:=FS hy;have jl:=(gM hz).1;obtain⟨ez,hez,hzp⟩:=I.att z (V9 hz);have fn:=Cj hen ⟨ez,hez,hzp⟩;have fe:w5 ez p=farT es p z.1:=by unfold farT;rw[show es.getD z.1 (0,0)=ez by rw[VA,hez];rfl]
  refine⟨_,rfl,_,rfl,_,rfl,_,rfl,_,rfl,hf hez (hzp.imp Eq.symm Eq.symm) ?_⟩;rw[fe];refine⟨_,rfl,hr (hw.gw (G1.trans G2)) cl el fn.2 hH λl9 S3 G3 _ h9=>?_⟩;have h53:=(G2.trans G3).keep _ _ h5;show wSs Δ [td3,td4 kt] E [some (g9 n es),some w,some (.loc k2),some (.int (p:Nat)),some (.int (H:Nat)),some (.loc l5),some (.int (j:Nat)),some (.int (z.1:Nat)),some (Gr z.2),some (.loc l9),o10] S3;refine⟨_,rfl,_,a7 h53,?_⟩;have fr1:∀ y,(frL es ds y H).length<=H:=λy=>Ai _ _;have f1:=fr1 p;refine i4 (j7 hΔ _).2 (a5 hΔ _).1 (λi ys S4=>S4=S3/\ys=c4 (((frL es ds p H).take i).filter λh=>decide (h∈frL es ds (farT es p z.1) H))) ⟨rfl,rfl⟩ (λ_ _ _ z=>by rw[z.1];exact rfl) ?_ ?_
  ·rintro i x ys S4 hx ⟨rfl,rfl⟩;obtain⟨h,hi,rfl⟩:=B8 hx;have il:=(gM hi).1
   have es':((frL es ds p H).take (i+1)).filter (λh=>decide (h∈frL es ds (farT es p z.1) H))=((frL es ds p H).take i).filter (λh=>decide (h∈frL es ds (farT es p z.1) H))++if decide (h∈frL es ds (farT es p z.1) H)=true then [h] else []:=by
    rw[Vl,hi,Wr]
    congr 1
    show YK _ [h]=_;rw[WL];rfl
   have ll:(((frL es ds p H).take i).filter λh=>decide (h∈frL es ds (farT es p z.1) H)).length<=H:=by
    have:=Wc (λh=>decide (h∈frL es ds (farT es p z.1) H)) ((frL es ds p H).take i);rw[Vy]at this;omega
   refine⟨_,rfl,_,rfl,?_⟩;show match BC (.loc l9) S4 with | some ms=>_ | none=>_
   rw[AV h9];refine⟨rfl,_,a7 h9,Bi _,_,rfl,?_⟩;show if inS (.int (h:Nat)) (c4 (frL es ds (farT es p z.1) H))=true then _ else _
   rw[FL];refine ifD (λz=>?_) (λz=>⟨rfl,?_⟩)
   ·rw[iP (decide_eq_true z)]at es';exact⟨_,rfl,by rw[i6];show _<100000;omega,rfl,by rw[es',u8];rfl⟩
   ·rw[iG (by simpa using z),Vt]at es';rw[es']
  ·rintro ys S4 ⟨rfl,rfl⟩;rw[i6,Vi]
   have esh:(frL es ds p H).filter (λh=>decide (h∈frL es ds (farT es p z.1) H))=Dl es ds p H F j:=by
    unfold Dl;rw[show F.getD j (0,none)=z by rw[VA,hz];rfl]
   rw[esh];have G4:Gw S (S4++[SO.lst (c4 (Dl es ds p H F j))]):=((G1.trans G2).trans G3).push;have h10:(S4++[SO.lst (c4 (Dl es ds p H F j))])[S4.length]?=_:=a8;have hj:(VD F.length)[j]?=some j:=W1 jl;cases hs:Dl es ds p H F j with
   | nil=>
     rw[hs]at h10 G4;refine⟨_,rfl,_,JW h10,ifF rfl (c8 (hE _ _ ⟨(G2.trans G3).push,⟨_,_,_,_,_,rfl⟩,λu hu'=>?_⟩))⟩;rw[Vl,hj]at hu';rcases VU.mp hu' with y | y
     ·exact no u y
     ·have:u=j:=by simpa using y
      rw[this,hs];rfl
   | cons h l=>
     rw[hs]at h10 G4;refine⟨_,rfl,_,JW h10,ifT rfl ?_⟩;refine⟨_,rfl,_,rfl,_,rfl,_,_,a7 h10,(show atI (c4 (h::l)) (0:Int)=some (SV.int (h:Nat)) from f8 (j:=0) rfl),ht I el (G4.keep _ _ hF) jl λl' S5 G5 l5' h5'=>hR _ _ (q1 _ ?_ l' S5 (G4.trans G5) (Ve G4.len l5') h5')⟩;exact Nb hj (by rw[hs];rfl) no
 ·rintro ρ S2 ⟨G2,⟨o6,o7,o8,o9,o10,rfl⟩,no⟩;rw[B7,V7]at no;refine q0 ?_ S2 (G1.trans G2);unfold t3;rw[WQ];intro u hu';exact no u (by rw[Xj (by rw[Vm];exact VF _)];exact hu')
def shI:List Stm:=[(.iff (.cmp .NotEq (.setdi (.var 5) (.var 9) (.var 8)) (.var 8)) [(.ret (.tup (.cons (.var 9) (.cons (.dget (.var 5) (.var 9)) .nil))))] [])]
def shO(kf kr:Nat):List Stm:=[(.asg (.nm 8) (.call kf (.cons (.var 0) (.cons (.var 6) (.cons (.var 3) .nil))))),(.loop (.nm 9) (.seq (.call kr (.cons (.var 0) (.cons (.var 1) (.cons (.var 8) (.cons (.var 4) .nil)))))) shI)]
def Jw(kf kr:Nat):List Stm:=[(.asg (.nm 5) .dnew),(.loop (.tup (.cons (.nm 6) (.cons (.nm 7) .nil))) (.seq (.var 2)) (shO kf kr)),(.ret (.c .non))]
def OwnD(L:EE)(kvs:List (Int×SV)):Prop:=kvs.length<=L.length/\∀ h:Nat,CZ kvs (h:Nat)=(t5 L h).map λf=>SV.int (f:Nat)
def Ds(s:Sn):Prop:=∀{n H p kf t0:Nat} {w:SV} {es:EE} {cs:List Nat} {F:Fan} {x:Nat×Nat} {S:Sto} {Q:QE},Hv S w cs->cs.length=es.length->(∀ e∈es,e.1<e.2/\e.2<n)->es.length<=60->H<=1000->FanI es cs p H t0 F->S[kf]?=some (.lst (F.map v6))->v3 es cs p H F=some x->(∀ S',Gw S S'->Q (.tup [.int (x.1:Nat),.int (x.2:Nat)]) S')->s [g9 n es,w,.loc kf,.int (p:Nat),.int (H:Nat)] S Q
theorem HE{α:Type}{P:α->Bool}{q:α}:∀{A B:List α},(∀ a∈A,P a=false)->P q=true->(A++q::B).find? P=some q
 | [],B,_,h=>by rw[Xp,Vd,h]
 | a::A,B,no,h=>by
   rw[List.cons_append,Vd,no a (VN ..)];exact HE (λb hb=>no b (VI _ hb)) h
theorem OwnD.put{L:EE}{kvs:List (Int×SV)}(O:OwnD L kvs){f h:Nat}(no:t5 L h=none):OwnD (L++[(f,h)]) (kvs++[((h:Int),SV.int (f:Nat))]):=by
 refine⟨by rw[V8,V8];have:=O.1;simp;omega,λg=>?_⟩
 have e1:CZ (kvs++[((h:Int),SV.int (f:Nat))]) (g:Nat)=(CZ kvs (g:Nat)).or (if h=g then some (SV.int (f:Nat)) else none):=by
  unfold CZ;rw[XW];cases kvs.find? λp=>decide (p.1=(g:Int)) with
  | some y=>rfl
  | none=>
    rw[YT,Vd];by_cases z:h=g
    ·rw[iP z,decide_eq_true (show((h:Int),SV.int (f:Nat)).1=(g:Int) by rw[z])];rfl
    ·rw[iG z,decide_eq_false (show ¬ ((h:Int),SV.int (f:Nat)).1=(g:Int) from λy=>z (Vg.mp y))];rfl
 have e2:t5 (L++[(f,h)]) g=(t5 L g).or (if h=g then some f else none):=by
  rw[Ab]
  congr 1
  unfold t5;rw[Vd];by_cases z:h=g
  ·rw[iP z,decide_eq_true (show((f,h):Nat×Nat).2=g from z)];rfl
  ·rw[iG z,decide_eq_false (show ¬ ((f,h):Nat×Nat).2=g from z)];rfl
 rw[e1,e2,O.2];cases t5 L g with
 | some y=>rfl
 | none=>
   by_cases z:h=g
   ·rw[iP z,iP z];rfl
   ·rw[iG z,iG z];rfl
theorem OwnD.same{L:EE}{kvs:List (Int×SV)}(O:OwnD L kvs){f h:Nat}(yes:t5 L h=some f)(g:Nat):OwnD (L++[(g,h)]) kvs:=by
 refine⟨by rw[V8];have:=O.1;omega,λk=>?_⟩;rw[O.2,Ab];cases hk:t5 L k with
 | some y=>rfl
 | none=>
   have:t5 [(g,h)] k=none:=by
    unfold t5;rw[Vd];by_cases z:h=k
    ·rw[<-z,yes]at hk;cases hk
    ·rw[decide_eq_false (show ¬ ((g,h):Nat×Nat).2=k from z)];rfl
   rw[this];rfl
theorem HF{es:EE}{cs:List Nat}{p H j:Nat}{F:Fan}{x:Nat×Option Nat}(h:F[j]?=some x):shL es cs p H (F.take (j+1))=shL es cs p H (F.take j)++(frL es cs (farT es p x.1) H).map λh=>(farT es p x.1,h):=by
 unfold shL;rw[Vl,h,Xz];simp
theorem Q7{es:EE}{cs:List Nat}{p H j i c:Nat}{F:Fan}{x:Nat×Option Nat}(h:F[j]?=some x)(hc:(frL es cs (farT es p x.1) H)[i]?=some c):∃ B,shL es cs p H F=(shL es cs p H (F.take j)++((frL es cs (farT es p x.1) H).take i).map λh=>(farT es p x.1,h))++(farT es p x.1,c)::B:=by
 have e1:F=F.take j++x::F.drop (j+1):=by
  conv=>lhs;rw[<-X8 j F,WU (gM h).1,(gM h).2]
 have e2:frL es cs (farT es p x.1) H=(frL es cs (farT es p x.1) H).take i++c::(frL es cs (farT es p x.1) H).drop (i+1):=by
  conv=>lhs;rw[<-X8 i (frL es cs (farT es p x.1) H),WU (gM hc).1,(gM hc).2]
 refine⟨((frL es cs (farT es p x.1) H).drop (i+1)).map (λh=>(farT es p x.1,h))++shL es cs p H (F.drop (j+1)),?_⟩
 conv=>lhs;rw[e1]
 unfold shL;rw[Xz,XZ]
 conv=>lhs;rw[e2]
 simp[XU]
theorem LN(hΔ:∀ f,MonoN (Δ f)){kf kr:Nat}(hf:Aw (Δ kf))(hr:Bj (Δ kr)){D:Df}(hb:D.body=Jw kf kr)(hN:D.N.length=10)(hp:D.ps.length=5):Ds (f6 Δ D):=by
 intro n H p k2 t0 w es cs F x S Q hw cl hen el hH I hF hs q;have fl:=I.len;have frl:∀ y,(frL es cs y H).length<=H:=λy=>Ai _ _
 have shl:∀ j,(shL es cs p H (F.take j)).length<=j * H:=λj=>by
  induction j with
  | zero=>simp[shL]
  | succ j ih=>
    cases hx:F[j]? with
    | none=>
      have:F.take (j+1)=F.take j:=by rw[Vl,hx];simp
      rw[this,X5];omega
    | some y=>
      rw[HF hx,V8,V7,X5];have:=frl (farT es p y.1);omega
 have bound:∀{j i:Nat} {y:Nat},j<F.length->(shL es cs p H (F.take j)++((frL es cs y H).take i).map λh=>(y,h)).length<100000:=λ{j i y} hj=>by
  rw[V8,V7,Vy];have a1:=shl j;have a2:=frl y;have:j * H<=60 * 1000:=Xv (by omega) hH;omega
 unfold f6;rw[hb,hN];have G0:Gw S (S++[SO.dct []]):=(Gw.refl S).push;refine⟨hp.symm,_,rfl,_,a7 (j5 hF),?_⟩;refine t9 (i7 hΔ _) (λj ρ S'=>Gw S S'/\(∃(kvs:List (Int×SV)) (o6 o7 o8 o9:Option SV),ρ=[some (g9 n es),some w,some (.loc k2),some (.int (p:Nat)),some (.int (H:Nat)),some (.loc S.length),o6,o7,o8,o9]/\S'[S.length]?=some (.dct kvs)/\OwnD (shL es cs p H (F.take j)) kvs)/\∀ q∈shL es cs p H (F.take j),t5 (shL es cs p H (F.take j)) q.2=some q.1) ⟨G0,⟨[],none,none,none,none,rfl,a8,WJ _,λh=>rfl⟩,(λ_ h=>nomatch h)⟩ (λ_ _ S' z=>by show S'[k2]?=(S++[SO.dct []])[k2]?;rw[j5 hF];exact z.1.keep _ _ hF) ?_ ?_
 ·rintro j y ρ S' E hE hR hy ⟨GS,⟨kvs,o6,o7,o8,o9,rfl,h5,O⟩,al⟩;obtain⟨z,hz,rfl⟩:=FS hy;have jl:=(gM hz).1;obtain⟨ez,hez,hzp⟩:=I.att z (V9 hz);have fn:=Cj hen ⟨ez,hez,hzp⟩;have fe:w5 ez p=farT es p z.1:=by unfold farT;rw[show es.getD z.1 (0,0)=ez by rw[VA,hez];rfl]
  refine⟨_,rfl,_,rfl,_,rfl,hf hez (hzp.imp Eq.symm Eq.symm) ?_⟩;rw[fe];refine⟨_,rfl,_,rfl,_,rfl,_,rfl,hr (hw.gw GS) cl el fn.2 hH λl S1 G1 l1 h1=>⟨_,a7 h1,?_⟩⟩;have s5:=(gM h5).1;refine t9 (i7 hΔ _) (λi ρ S2=>Gw S S2/\S2[l]?=some (.lst (c4 (frL es cs (farT es p z.1) H)))/\(∃(kvs:List (Int×SV)) (o9:Option SV),ρ=[some (g9 n es),some w,some (.loc k2),some (.int (p:Nat)),some (.int (H:Nat)),some (.loc S.length),some (.int (z.1:Nat)),some (Gr z.2),some (.int (farT es p z.1:Nat)),o9]/\S2[S.length]?=some (.dct kvs)/\OwnD (shL es cs p H (F.take j)++((frL es cs (farT es p z.1) H).take i).map λh=>(farT es p z.1,h)) kvs)/\∀ q∈shL es cs p H (F.take j)++((frL es cs (farT es p z.1) H).take i).map λh=>(farT es p z.1,h),t5 (shL es cs p H (F.take j)++((frL es cs (farT es p z.1) H).take i).map λh=>(farT es p z.1,h)) q.2=some q.1) ⟨GS.trans G1,h1,⟨kvs,_,rfl,G1.keep _ _ h5,by simpa using O⟩,by simpa using al⟩ (λ_ _ S2 z=>by show S2[l]?=S1[l]?;rw[h1];exact z.2.1) ?_ ?_
  ·rintro i y ρ S2 E2 hE2 hR2 hy2 ⟨GS2,hl2,⟨kv2,o9,rfl,h52,O2⟩,al2⟩;obtain⟨c,hci,rfl⟩:=B8 hy2
   have tk:shL es cs p H (F.take j)++((frL es cs (farT es p z.1) H).take (i+1)).map (λh=>(farT es p z.1,h))=(shL es cs p H (F.take j)++((frL es cs (farT es p z.1) H).take i).map λh=>(farT es p z.1,h))++[(farT es p z.1,c)]:=by
    rw[Vl,hci,VM,XU];rfl
   obtain⟨B,eB⟩:=Q7 hz hci;have bd:=bound (j:=j) (i:=i) (y:=farT es p z.1) jl;have ol:=O2.1;generalize hA:shL es cs p H (F.take j)++((frL es cs (farT es p z.1) H).take i).map (λh=>(farT es p z.1,h))=A at *;refine⟨_,rfl,_,_,rfl,h52,_,rfl,_,rfl,(c:Int),kv2,rfl,h52,by show _<100000;omega,λv hv=>?_,λhv=>?_⟩
   ·rw[O2.2]at hv;cases ho:t5 A c with
    | none=>rw[ho]at hv;cases hv
    | some f=>
      rw[ho]at hv;cases hv;refine⟨_,rfl,_,rfl,?_⟩;show if (!decide (((f:Nat):Int)=((farT es p z.1:Nat):Int)))=true then _ else _
      by_cases ef:f=farT es p z.1
      ·rw[decide_eq_true (show((f:Nat):Int)=((farT es p z.1:Nat):Int) by rw[ef])];refine ifF rfl (c8 (hE2 _ _ ⟨GS2,hl2,⟨kv2,_,rfl,h52,by rw[tk];exact O2.same ho _⟩,λq hq=>?_⟩));rw[tk]at hq ⊢;rw[Ab];rcases VU.mp hq with y | y
       ·rw[al2 q y];rfl
       ·rw[VQ.mp y,ho,ef];rfl
      ·rw[decide_eq_false (show ¬ ((f:Nat):Int)=((farT es p z.1:Nat):Int) from λy=>ef (Vg.mp y))];refine ifT rfl ?_;have ow:t5 (shL es cs p H F) c=some f:=by rw[eB,Ab,ho];rfl
       have fs:(shL es cs p H F).find? (λq=>!decide (t5 (shL es cs p H F) q.2=some q.1))=some (farT es p z.1,c):=by
        conv=>lhs;rw[eB]
        refine HE (λa ha=>?_) ?_
        ·have:t5 (shL es cs p H F) a.2=some a.1:=by rw[eB,Ab,al2 a ha];rfl
         rw[<-eB,this];simp
        ·rw[<-eB];show(!decide (t5 (shL es cs p H F) c=some (farT es p z.1)))=true;rw[ow];simpa using ef
       have:v3 es cs p H F=some (c,f):=by
        unfold v3;rw[fs];show(t5 (shL es cs p H F) c).map _=_;rw[ow];rfl
       rw[hs]at this;cases this;refine⟨_,rfl,_,rfl,_,rfl,kv2,(c:Int),_,by simp only[Oy,h52],rfl,by rw[O2.2,ho];rfl,by show 2<=100000;decide,hR2 _ _ (hR _ _ (q S2 GS2))⟩
   ·rw[O2.2,WN]at hv;refine⟨_,rfl,_,rfl,?_⟩;show if (!decide (((farT es p z.1:Nat):Int)=((farT es p z.1:Nat):Int)))=true then _ else _
    rw[decide_eq_true rfl];have ne:l≠S.length:=λy=>by rw[y,h52]at hl2;cases hl2
    refine ifF rfl (c8 (hE2 _ _ ⟨GS2.put (VF _),by rw[A7 ne.symm];exact hl2,⟨_,_,rfl,k9 h52,by rw[tk];exact O2.put hv⟩,λq hq=>?_⟩));rw[tk]at hq ⊢;rw[Ab];rcases VU.mp hq with y | y
    ·rw[al2 q y];rfl
    ·rw[VQ.mp y,hv];unfold t5;rw[Vd,decide_eq_true rfl];rfl
  ·rintro ρ S2 ⟨GS2,hl2,⟨kv2,o9,rfl,h52,O2⟩,al2⟩;rw[i6,Vi,<-HF hz]at O2 al2;exact hE _ _ ⟨GS2,⟨kv2,_,_,_,_,rfl,h52,O2⟩,al2⟩
 ·rintro ρ S' ⟨GS,⟨kvs,o6,o7,o8,o9,rfl,h5,O⟩,al⟩;rw[V7,Vi]at al;exfalso;unfold v3 at hs
  have:(shL es cs p H F).find? (λq=>!decide (t5 (shL es cs p H F) q.2=some q.1))=none:=by
   rw[WD];intro q hq;rw[al q hq];simp
  rw[this]at hs;cases hs
def HG(ks kr:Nat):List Stm:=[(.asg (.tup (.cons (.nm 5) (.cons (.nm 6) .nil))) (.call ks (.cons (.var 0) (.cons (.var 1) (.cons (.var 2) (.cons (.var 3) (.cons (.var 4) .nil))))))),(.asg (.nm 7) (.ix (.call kr (.cons (.var 0) (.cons (.var 1) (.cons (.var 3) (.cons (.var 4) .nil))))) (.c (.int 0)))),(.ret (.tup (.cons (.c (.str "row")) (.cons (.var 6) (.cons (.var 7) (.cons (.var 5) .nil))))))]
def Cl(s:Sn):Prop:=∀{n H p kf t0:Nat} {w:SV} {es:EE} {cs:List Nat} {F:Fan} {x:Nat×Nat} {S:Sto} {Q:QE},Hv S w cs->cs.length=es.length->(∀ e∈es,e.1<e.2/\e.2<n)->es.length<=60->H<=1000->FanI es cs p H t0 F->S[kf]?=some (.lst (F.map v6))->v3 es cs p H F=some x->frL es cs p H≠[]->(∀ S',Gw S S'->Q (w9 (.row x.2 ((frL es cs p H).headD 0) x.1)) S')->s [g9 n es,w,.loc kf,.int (p:Nat),.int (H:Nat)] S Q
theorem Ie{ks kr:Nat}(hs:Ds (Δ ks))(hr:Bj (Δ kr)){D:Df}(hb:D.body=HG ks kr)(hN:D.N.length=8)(hp:D.ps.length=5):Cl (f6 Δ D):=by
 intro n H p k2 t0 w es cs F x S Q hw cl hen el hH I hF hx nn q;obtain⟨e0,he0,hp0⟩:=I.att _ (V9 I.fst);have pn:p<n:=by have:=hen e0 (V9 he0);omega
 unfold f6;rw[hb,hN];refine⟨hp.symm,_,rfl,_,rfl,_,rfl,_,rfl,_,rfl,hs hw cl hen el hH I hF hx λS1 G1=>?_⟩;refine⟨_,rfl,_,rfl,_,rfl,_,rfl,hr (hw.gw G1) cl el pn hH λl S2 G2 _ h2=>⟨_,_,a7 h2,f8 (Q6 nn),?_⟩⟩;exact⟨_,rfl,_,rfl,_,rfl,by show 4<=100000;decide,q S2 (G1.trans G2)⟩
end
noncomputable def HH(es:EE)(cs:List Nat)(t H:Nat):List Sp3:=if hu cs t<1000 then [] else Ao es cs t H
section
variable{Δ:Nat->Sn}
def sv1:Stm:=(.asg (.nm 4) (.ix (.ix (.ix (.var 0) (.c (.int 1))) (.var 2)) (.c (.int 0))))
def sv2(kf kd:Nat):List Stm:=[(.asg (.nm 5) (.call kf (.cons (.var 0) (.cons (.var 1) (.cons (.var 2) (.cons (.var 4) (.cons (.var 3) .nil))))))),(.asg (.nm 6) (.call kd (.cons (.var 0) (.cons (.var 1) (.cons (.var 5) (.cons (.var 4) (.cons (.var 3) .nil))))))),(.iff (.cmp .IsNot (.var 6) (.c .non)) [(.ret (.var 6))] [])]
def sv3(kz ko kd:Nat):List Stm:=[(.asg (.nm 7) (.call kz (.cons (.var 0) (.cons (.var 1) (.cons (.var 5) (.cons (.var 4) (.cons (.var 3) .nil))))))),(.ret (.op .Add (.lst (.cons (.var 7) .nil)) (.call kd (.cons (.var 0) (.cons (.call ko (.cons (.var 0) (.cons (.var 1) (.cons (.var 7) .nil)))) (.cons (.var 5) (.cons (.var 4) (.cons (.var 3) .nil))))))))]
def Jx(kf kd kz ko:Nat):List Stm:=sv1::(sv2 kf kd++sv3 kz ko kd)
noncomputable def Dt(s:Sn):Prop:=∀{n H t m:Nat} {w:SV} {es:EE} {cs:List Nat} {S:Sto} {Q:QE},Hv S w cs->Hg H es cs->(∀ e∈es,e.1<e.2/\e.2<n)->es.length<=60->H<=1000->t<es.length->¬ hu cs t<1000->IsTh es m->t4 es n+m<=H->(∀(l:Nat) (S':Sto),Gw S S'->S.length<=l->S'[l]?=some (.lst ((Ao es cs t H).map w9))->Q (.loc l) S')->s [g9 n es,w,.int (t:Nat),.int (H:Nat)] S Q
theorem Ej:∀(ws:List Nat) (h:Nat),(AZ ws h).length=ws.length
 | [],_=>rfl
 | [_],_=>rfl
 | a::b::r,h=>by
   show(AZ (b::r) h).length+1=_;rw[Ej];rfl
theorem Bb{n H p t0:Nat}{es:EE}{cs ds:List Nat}{F:Fan}(fl:F.length<=es.length){s:List Sp3}(h:t3 es ds p H F=some s):s.length<=es.length:=by
 obtain⟨i,x,h,e,_,_,rfl,_⟩:=Ba h;have il:=(gM e).1;rw[Ej,X0]
 have go:∀(m:Nat) (o:Option Nat),(upF F m o).length<=m:=by
  intro m
  induction m with
  | zero=>intro o;cases o<;>exact VF _
  | succ m ih=>
    intro o;cases o with
    | none=>exact WJ _
    | some j=>
      show(match F[j]? with | none=>[] | some x=>x.1::upF F m x.2).length<=_;cases F[j]? with
      | none=>exact WJ _
      | some y=>exact X9 (ih y.2)
 have:=go (i+1) (some i);omega
theorem LO{kf kd kz ko:Nat}(hf:Nm (Δ kf))(hd:Dr (Δ kd))(hz:Cl (Δ kz))(ho:AN (Δ ko) λp a b=>[w9 (.row p a b)]){D:Df}(hb:D.body=Jx kf kd kz ko)(hN:D.N.length=8)(hp:D.ps.length=4):Dt (f6 Δ D):=by
 intro n H t m w es cs S Q hw g hen el hH tl b0 hm hmH q;obtain⟨e,he⟩:∃ e,es[t]?=some e:=⟨_,VB tl⟩
 have ge:es.getD t (0,0)=e:=by rw[VA,he];rfl
 have ge2:(es.map pairS)[t]?=some (pairS e):=by rw[VG,he];rfl
 have hc:∀ y,y<n->p4 es y+m<=H:=λy hy=>by have:=CJ es hy;omega
 have cl:=g.P.len;have sv:∀ z,z=Ao es cs t H->∀(l:Nat) (S':Sto),Gw S S'->S.length<=l->S'[l]?=some (.lst (z.map w9))->Q (.loc l) S':=λz ez l S' a b c=>q l S' a b (ez▸c);unfold Ao at sv;rw[ge]at sv;have key:=Do (p:=e.1) (F:=Bn es cs e.1 H (es.length+1) [(t,none)]) hen hH g tl b0 hc hm.1 (by rw[ge]) rfl;have atp:AtP es t e.1:=⟨e,he,.inl rfl⟩
 generalize hF:Bn es cs e.1 H (es.length+1) [(t,none)]=F at *;obtain⟨I,key⟩:=key;have fl:=I.len;unfold f6;rw[hb,hN];refine⟨hp.symm,_,rfl,_,_,rfl,rfl,_,rfl,_,_,rfl,f8 ge2,_,_,rfl,rfl,?_⟩;refine⟨_,rfl,_,rfl,_,rfl,_,rfl,_,rfl,hf hw cl hen el hH atp b0 λl5 S1 G1 h5=>?_⟩;rw[hF]at h5;refine⟨_,rfl,_,rfl,_,rfl,_,rfl,_,rfl,hd (hw.gw G1) cl hen el hH I h5 (λhn S2 G2=>?_) (λs hs l S2 G2 l2 h2=>?_)⟩
 ·refine⟨_,rfl,.inl ⟨rfl,_,rfl,ifF rfl (c8 ?_)⟩⟩;rcases key with⟨s,e1,_⟩ | ⟨_,nn,x,s,e1,ok,e2,r1,r2⟩
  ·rw[hn]at e1;cases e1
  ·rw[hn]at sv;dsimp only at sv;rw[e1]at sv;dsimp only at sv;rw[e2]at sv;have G12:=G1.trans G2;refine⟨_,rfl,_,rfl,_,rfl,_,rfl,_,rfl,hz (hw.gw G12) cl hen el hH I (G2.keep _ _ h5) e1 nn λS3 G3=>?_⟩;have G13:=G12.trans G3;refine⟨_,rfl,by show 1<=100000;decide,?_⟩;have G14:Gw S (S3++[SO.lst [w9 (.row x.2 ((frL es cs e.1 H).headD 0) x.1)]]):=G13.push;have h7:(S3++[SO.lst [w9 (.row x.2 ((frL es cs e.1 H).headD 0) x.1)]])[S3.length]?=some (SO.lst [w9 (.row x.2 ((frL es cs e.1 H).headD 0) x.1)]):=a8;have h54:(S3++[SO.lst [w9 (.row x.2 ((frL es cs e.1 H).headD 0) x.1)]])[l5]?=some (SO.lst (F.map v6)):=j5 (G3.keep _ _ (G2.keep _ _ h5));generalize S3++[SO.lst [w9 (.row x.2 ((frL es cs e.1 H).headD 0) x.1)]]=S4 at *;refine⟨_,rfl,_,rfl,_,rfl,_,rfl,ho g hen el hH ok (hw.gw G14) λl6 S5 G5 l6l h6=>?_⟩;have cl1:=(C3 g hen hH ok).P.len;refine⟨_,rfl,_,rfl,_,rfl,hd (Hv.loc h6) cl1 hen el hH I (G5.keep _ _ h54) (λhn2=>by rw[hn2]at e2;cases e2) λs2 hs2 l8 S6 G6 l8l h8=>?_⟩;rw[e2]at hs2;cases hs2;have ls:=Bb (n:=n) (t0:=t) (cs:=cs) fl e2;refine⟨_,_,(G5.trans G6).keep _ _ h7,h8,by rw[V7];show 1+_<=100000;omega,?_⟩;refine sv _ rfl _ _ ((G14.trans G5).trans G6).push ((G14.trans G5).trans G6).len ?_;rw[a8];rfl
 ·refine⟨_,rfl,.inl ⟨rfl,_,rfl,ifT rfl ⟨_,rfl,?_⟩⟩⟩;rw[hs]at sv;exact sv _ rfl l S2 (G1.trans G2) (Ve G1.len l2) h2
def Jy(kc ke ks:Nat):List Stm:=[(.expr (.call kc (.cons (.var 0) (.cons (.var 2) .nil)))),(.expr (.call ke (.cons (.var 0) (.cons (.var 3) .nil)))),(.iff (.cmp .IsNot (.ix (.var 1) (.var 2)) (.c .non)) [(.ret (.lst .nil))] []),(.ret (.call ks (.cons (.var 0) (.cons (.var 1) (.cons (.var 2) (.cons (.var 3) .nil))))))]
noncomputable def Ig(s:Sn):Prop:=∀{n H t m:Nat} {w:SV} {es:EE} {cs:List Nat} {S:Sto} {Q:QE},Hv S w cs->Hg H es cs->(∀ e∈es,e.1<e.2/\e.2<n)->n<=1000->es.length<=60->H<=1000->t<es.length->IsTh es m->t4 es n+m<=H->(∀(l:Nat) (S':Sto),Gw S S'->S.length<=l->S'[l]?=some (.lst ((HH es cs t H).map w9))->Q (.loc l) S')->s [g9 n es,w,.int (t:Nat),.int (H:Nat)] S Q
theorem Q8{kc ke ks:Nat}(hc:B5 (Δ kc))(he:Ib (Δ ke))(hs:Dt (Δ ks)){D:Df}(hb:D.body=Jy kc ke ks)(hN:D.N.length=4)(hp:D.ps.length=4):Ig (f6 Δ D):=by
 intro n H t m w es cs S Q hw g hen nn el hH tl hm hmH q;have hcu:=v5 (cs:=cs) (t:=t) (by rw[g.P.len];exact tl);have pg:=r6 hcu;unfold HH at q;unfold f6;rw[hb,hN];refine⟨hp.symm,_,rfl,_,rfl,hc tl ⟨_,rfl,_,rfl,he hen nn (by omega) hm hmH λS1 G1=>?_⟩⟩;by_cases z:hu cs t<1000
 ·rw[n0 z]at pg;rw[iP z]at q;exact⟨_,rfl,_,rfl,_,_,(hw.gw G1).seq,f8 pg,.inl ⟨rfl,_,rfl,ifT rfl ⟨by show 0<=100000;decide,q _ _ G1.push G1.len a8⟩⟩⟩
 ·rw[w6 z]at pg;rw[iG z]at q;refine⟨_,rfl,_,rfl,_,_,(hw.gw G1).seq,f8 pg,.inl ⟨rfl,_,rfl,ifF rfl (c8 ?_)⟩⟩;exact⟨_,rfl,_,rfl,_,rfl,_,rfl,hs (hw.gw G1) g hen el hH tl z hm hmH λl S' G' l' h'=>q l S' (G1.trans G') (Ve G1.len l') h'⟩
end
def No(cs:List Nat)(m h:Nat):List Nat:=(VD m).filter λt=>decide (hu cs t=h)
def CO(es:EE)(x t:Nat):Bool:=match es[t]? with | some e=>(decide (e.1=x)||decide (e.2=x)) | none=>false
theorem hasE_iff{es:EE}{x t:Nat}:CO es x t=true↔AtP es t x:=by
 unfold CO AtP;cases es[t]? with
 | none=>simp
 | some e=>simp
theorem Np{es:EE}{cs:List Nat}{x one:Nat}(P:Prp es cs):(No cs es.length one).filter (CO es x)=(m6 es cs x one).toList:=by
 unfold No;rw[X3]
 have mem:∀ t,(CO es x t&&decide (hu cs t=one))=true↔AtP es t x/\hu cs t=one:=λt=>by
  rw[V6,hasE_iff,dQ]
 cases hz:m6 es cs x one with
 | none=>
   rw[Option.toList_none,List.filter_eq_nil_iff];intro u hu' z;obtain⟨z1,z2⟩:=(mem u).mp z;exact AD hz u z1 z2
 | some t=>
   obtain⟨at',hc⟩:=m5 hz;refine NU at'.lt ((mem t).mpr ⟨at',hc⟩) λu ul hu'=>?_;obtain⟨u1,u2⟩:=(mem u).mp hu';exact P.one u t x u1 at' (u2.trans hc.symm)
section
variable{Δ:Nat->Sn}
def Jz(v:Str)(kc:Nat):List Stm:=[(.ret (.max1 (.op .Add (.lst (.cons (.c (.int 0)) .nil)) (.comp ["_law_place"] [v] [0] (.nm 0) (.rng1 (.ix (.var 0) (.c (.int 0)))) .no (.call kc (.cons (.var 1) (.cons (.var 0) .nil)))))))]
theorem LP(hΔ:∀ f,MonoN (Δ f)){v:Str}{kc:Nat}(hc:Di (Δ kc)){D:Df}(hb:D.body=Jz v kc)(hN:D.N.length=1)(hp:D.ps.length=1):Je (f6 Δ D):=by
 intro n es S Q hel hn q;unfold f6;rw[hb,hN];refine⟨hp.symm,by show 1<=big;decide,_,rfl,_,_,rfl,rfl,_,rfl,⟨by omega,by omega⟩,?_⟩;have h0:(S++[SO.lst [SV.int 0]])[S.length]?=some (.lst [SV.int 0]):=a8;have G0:Gw S (S++[SO.lst [SV.int 0]]):=(Gw.refl S).push;generalize hk:S.length=k at *;generalize S++[SO.lst [SV.int 0]]=S1 at *;refine i4 (j7 hΔ _).2 (a5 hΔ _).1 (λi ys S2=>Gw S1 S2/\ys=cS i (p4 es)) ⟨Gw.refl S1,rfl⟩ (λ_ _ _ _=>trivial) ?_ ?_
 ·rintro i x ys S2 hx ⟨G2,rfl⟩;obtain⟨rfl,hi⟩:=p0 hx;rw[Wh]at hi ⊢;refine⟨_,rfl,_,rfl,hc hel λS3 G3=>⟨by rw[BZ];show _<100000;omega,G2.trans G3,?_⟩⟩;unfold cS;rw[WB,VM];rfl
 ·rintro ys S2 ⟨G2,rfl⟩;rw[m4,show((n:Int) - 0).toNat=n by omega];refine⟨_,_,j5 (G2.keep _ _ h0),a8,by rw[BZ];show 1+n<=100000;omega,S2.length+1,(0::(VD n).map λp=>((p4 es p:Nat):Int)),?_,?_,Yc _,λm g=>?_⟩
  ·rw[V8];rfl
  ·rw[Jc,show S2.length+1=(S2++[SO.lst (((VD n).map λp=>((p4 es p:Nat):Int)).map SV.int)]).length by rw[V8];rfl,a8];rfl
  ·rw[L8 g];exact q _ (G0.trans G2).push.push
theorem Nq{es:EE}{m:Int}(h:Grt (0::es.map λe=>((es.count e:Nat):Int)) m):∃ k:Nat,m=(k:Int)/\IsTh es k:=by
 obtain⟨h1,h2⟩:=h
 have le:∀ k:Nat,m=(k:Int)->∀ e,es.count e<=k:=λk ek e=>by
  by_cases z:e∈es
  ·have:=h2 _ (VI _ (VX.mpr ⟨e,z,rfl⟩));omega
  ·rw[XM.mpr z];omega
 rcases VT.mp h1 with z | z
 ·exact⟨0,z,le 0 z,.inl rfl⟩
 ·obtain⟨e,he,ee⟩:=VX.mp z;exact⟨es.count e,ee.symm,le _ ee.symm,.inr ⟨e,he,rfl⟩⟩
def thI:Ex:=(.comp ["_law_other"] ["_law_pair"] [0] (.nm 0) (.seq (.ix (.var 1) (.c (.int 1)))) (.yes (.eqp (.var 0) (.var 1))) (.var 0))
def K0:List Stm:=[(.ret (.max1 (.op .Add (.lst (.cons (.c (.int 0)) .nil)) (.comp ["_law_pair"] ["_law_web_here"] [0] (.nm 0) (.seq (.ix (.var 0) (.c (.int 1)))) .no (.bi .len (.cons thI .nil))))))]
theorem LQ(hΔ:∀ f,MonoN (Δ f)){D:Df}(hb:D.body=K0)(hN:D.N.length=1)(hp:D.ps.length=1):CN (f6 Δ D):=by
 intro n es S Q el q;unfold f6;rw[hb,hN];refine⟨hp.symm,by show 1<=big;decide,_,rfl,_,_,rfl,rfl,_,rfl,?_⟩;have h0:(S++[SO.lst [SV.int 0]])[S.length]?=some (.lst [SV.int 0]):=a8;have G0:Gw S (S++[SO.lst [SV.int 0]]):=(Gw.refl S).push;generalize hk:S.length=k at *;generalize S++[SO.lst [SV.int 0]]=S1 at *;refine i4 (j7 hΔ _).2 (a5 hΔ _).1 (λi ys S2=>Gw S1 S2/\ys=((es.take i).map λe=>((es.count e:Nat):Int)).map SV.int) ⟨Gw.refl S1,rfl⟩ (λ_ _ _ _=>trivial) ?_ ?_
 ·rintro i x ys S2 hx ⟨G2,rfl⟩;obtain⟨e,he,rfl⟩:=A8 hx;have il:=(gM he).1;refine⟨_,rfl,_,_,rfl,rfl,_,rfl,?_⟩;refine i4 (j7 hΔ _).2 (a5 hΔ _).1 (λj ys S3=>S3=S2/\ys=((es.take j).filter λf=>decide (f=e)).map pairS) ⟨rfl,rfl⟩ (λ_ _ _ _=>trivial) ?_ ?_
  ·rintro j x ys S3 hx ⟨rfl,rfl⟩;obtain⟨f,hf,rfl⟩:=A8 hx;have jl:=(gM hf).1
   have es':(es.take (j+1)).filter (λf=>decide (f=e))=(es.take j).filter (λf=>decide (f=e))++if decide (f=e)=true then [f] else []:=by
    rw[Vl,hf,Wr]
    congr 1
    show YK _ [f]=_;rw[WL];rfl
   have ll:((es.take j).filter λf=>decide (f=e)).length<=j:=by
    have:=Wc (λf=>decide (f=e)) (es.take j);rw[Vy]at this;omega
   refine⟨_,rfl,_,rfl,(f.1:Int),(f.2:Int),(e.1:Int),(e.2:Int),rfl,rfl,_,rfl,?_⟩
   rw[show decide ((f.1:Int)=(e.1:Int)/\(f.2:Int)=(e.2:Int))=decide (f=e) by
    rw[decide_eq_decide];exact⟨λz=>Prod.ext (Vg.mp z.1) (Vg.mp z.2),λz=>by rw[z];exact⟨rfl,rfl⟩⟩]
   refine ifD (λz=>?_) (λz=>⟨rfl,?_⟩)
   ·rw[iP (decide_eq_true z)]at es';exact⟨_,rfl,by rw[V7];show _<100000;omega,rfl,by rw[es',VM];rfl⟩
   ·rw[iG (by simpa using z),Vt]at es';rw[es']
  ·rintro ys S3 ⟨rfl,rfl⟩;rw[V7,Vi];refine⟨_,a7 a8,by rw[V7,V7,Vy];show _<100000;omega,G2.push,?_⟩;rw[Vl,he,VM,VM,V7]
   congr 1
   show[SV.int ((((es.filter λf=>decide (f=e)).length:Nat):Int))]=[SV.int (((es.count e:Nat):Int))]
   rw[show es.count e=(es.filter λf=>decide (f=e)).length by
    show es.countP (· == e)=_;rw[XB]
    congr 1
    exact XY λf _=>by rw[Vo];simp]
 ·rintro ys S2 ⟨G2,rfl⟩;rw[V7,Vi];refine⟨_,_,j5 (G2.keep _ _ h0),a8,by rw[V7,V7];show 1+_<=100000;omega,S2.length+1,(0::es.map λe=>((es.count e:Nat):Int)),?_,?_,Yc _,λm g=>?_⟩
  ·rw[V8];rfl
  ·rw[show S2.length+1=(S2++[SO.lst ((es.map λe=>((es.count e:Nat):Int)).map SV.int)]).length by rw[V8];rfl,a8];rfl
  ·obtain⟨k',e,h'⟩:=Nq g;rw[e];exact q k' _ h' (G0.trans G2).push.push
def lrC:Stm:=(.asg (.nm 8) (.comp ["_law_tie","_law_pair"] ["_law_place","_law_hueing","_law_due"] [2,1,6] (.tup (.cons (.nm 0) (.cons (.nm 1) .nil))) (.enum (.ix (.var 0) (.c (.int 1)))) (.yes (.and (.cmp .In (.var 2) (.var 1)) (.cmp .Eq (.ix (.var 3) (.var 0)) (.var 4)))) (.var 0)))
def lrE:List Stm:=[(.iff (.cmp .Eq (.var 8) (.lst .nil)) [(.ret (.var 5))] []),(.expr (.mt .append (.var 5) (.cons (.ix (.var 8) (.c (.int 0))) .nil))),(.asg (.nm 2) (.op .Sub (.sum2 (.ix (.ix (.var 0) (.c (.int 1))) (.ix (.var 8) (.c (.int 0))))) (.var 2))),(.asg (.nm 6) (.op .Sub (.op .Add (.var 3) (.var 4)) (.var 6)))]
def Nr:List Stm:=[(.asg (.nm 5) (.lst .nil)),(.asg (.nm 6) (.var 3)),(.loop (.nm 7) (.rng1 (.bi .len (.cons (.ix (.var 0) (.c (.int 1))) .nil))) (lrC::lrE)),(.ret (.var 5))]
theorem Nt{es:EE}{cs:List Nat}{x one:Nat}(P:Prp es cs):(VD es.length).filter (λt=>CO es x t&&decide (hu cs t=one))=(m6 es cs x one).toList:=by
 rw[<-Np P];unfold No;rw[X3]
theorem Nu(hΔ:∀ f,MonoN (Δ f)){D:Df}(hb:D.body=Nr)(hN:D.N.length=9)(hp:D.ps.length=5):Ch (f6 Δ D):=by
 intro n p a b w es cs S Q hk a9 b9 P hen hel hpn ab hno q;have hne:∀ e∈es,e.1≠e.2:=λe he=>VO (hen e he).1;have hl:=P.len;have ml:(es.map pairS).length=es.length:=V7 ..;unfold f6;rw[hb,hN];refine⟨hp.symm,by show 0<=100000;decide,_,rfl,?_⟩;have h5:(S++[SO.lst []])[S.length]?=some (SO.lst []):=a8;have GS:=(Gw.refl S).push (o:=SO.lst []);refine⟨_,rfl,_,_,rfl,rfl,_,rfl,_,rfl,⟨by rw[ml];omega,by rw[ml];omega⟩,?_⟩;rw[ml];generalize S++[SO.lst []]=S4 at *;generalize hl5:S.length=l at *
 have done:∀(r:List Nat) (x one other:Nat) (S5:Sto),RwI es cs a b p r x one other->r++rwF es cs (es.length+1 - r.length) x one other=rwF es cs (es.length+1) p a b->m6 es cs x one=none->Gw S S5->S5[l]?=some (.lst (c4 r))->Q (.loc l) S5:=by
  intro r x one other S5 R er hz G hr;have rl:=R.len
  have e0:rwF es cs (es.length+1 - r.length) x one other=[]:=by
   rw[show es.length+1 - r.length=(es.length - r.length)+1 by omega];unfold rwF;rw[hz]
  rw[e0,Vt]at er;exact q l S5 G (VF _) (by rw[hr,er])
 refine t9 (i7 hΔ _) (λj ρ S5=>∃(r:List Nat) (x one other:Nat) (o7 o8:Option SV),ρ=[some (g9 n es),some w,some (.int (x:Nat)),some (.int (a:Nat)),some (.int (b:Nat)),some (.loc l),some (.int (one:Nat)),o7,o8]/\RwI es cs a b p r x one other/\x<n/\r++rwF es cs (es.length+1 - r.length) x one other=rwF es cs (es.length+1) p a b/\r.length=j/\Gw S S5/\S5[l]?=some (.lst (c4 r))) ⟨[],p,a,b,none,none,rfl,RwI.nil hno,hpn,rfl,rfl,GS,h5⟩ (λ_ _ _ _=>trivial) ?_ ?_
 ·rintro j z ρ S5 E hE hR hz ⟨r,x,one,other,o7,o8,rfl,R,xn,er,rj,G,hr⟩;have rl:=R.len;have hk':=hk.gw G;have o9':one<1000:=by rcases R.ab.1 with z | z<;>rw[z]<;>assumption
  refine⟨_,rfl,_,_,rfl,rfl,_,rfl,?_⟩;refine i4 (j7 hΔ _).2 (a5 hΔ _).1 (λj ys S6=>S6=S5/\ys=c4 ((VD j).filter λt=>CO es x t&&decide (hu cs t=one))) ⟨rfl,rfl⟩ (λ_ _ _ _=>trivial) ?_ ?_
  ·rintro i y ys S6 hy ⟨rfl,rfl⟩;obtain⟨y',hy',rfl⟩:=B6 hy;obtain⟨e,he,rfl⟩:=A8 hy';have il:=(gM he).1;have fs:=CI (λt=>CO es x t&&decide (hu cs t=one)) i;have fl:=Ai (λt=>CO es x t&&decide (hu cs t=one)) i;have hc:=v5 (cs:=cs) (t:=i) (by omega);have hEe:CO es x i=(decide (e.1=x)||decide (e.2=x)):=by unfold CO;rw[he]
   refine⟨_,rfl,_,rfl,rfl,_,rfl,rfl,_,rfl,?_⟩;show if inS (.int x) [.int e.1,.int e.2]=true then _ else _
   rw[Bh,<-hEe];cases hh:CO es x i with
   | false=>
     rw[hh,YN,iG (by decide),Vt]at fs;exact ifF rfl (ifF rfl ⟨rfl,by rw[fs]⟩)
   | true=>
     rw[hh,Xa]at fs;refine ifT rfl ⟨_,rfl,_,rfl,_,_,hk'.seq,f8 (r6 hc),_,rfl,Qq o9' ⟨_,rfl,ifD (λz=>?_) (λz=>⟨rfl,?_⟩)⟩⟩
     ·rw[iP (decide_eq_true z)]at fs;exact⟨_,rfl,by rw[i6];show _<100000;omega,rfl,by rw[fs,u8];rfl⟩
     ·rw[iG (by simpa using z),Vt]at fs;rw[fs]
  rintro ys S6 ⟨rfl,rfl⟩;rw[B7,ml,Nt P];have hr2:=j5 (o:=SO.lst (c4 (m6 es cs x one).toList)) hr;have G2:=G.push (o:=SO.lst (c4 (m6 es cs x one).toList));have h8:(S6++[SO.lst (c4 (m6 es cs x one).toList)])[S6.length]?=_:=a8;have s7:l<S6.length:=(gM hr).1;show wSs Δ lrE _ [some (g9 n es),some w,some (.int (x:Nat)),some (.int (a:Nat)),some (.int (b:Nat)),some (.loc l),some (.int (one:Nat)),some z,some (.loc S6.length)] (S6++[SO.lst (c4 (m6 es cs x one).toList)]);generalize S6++[SO.lst (c4 (m6 es cs x one).toList)]=S8 at *;generalize S6.length=l8 at *;cases hz:m6 es cs x one with
  | none=>
    rw[hz]at h8;refine⟨_,rfl,by show 0<=100000;decide,_,_,j5 h8,a8,.inr (.inr rfl),_,rfl,ifT rfl ?_⟩;exact⟨_,rfl,hR _ _ (done r x one other _ R er hz G2.push (j5 hr2))⟩
  | some t=>
    rw[hz]at h8;obtain⟨⟨e,he,hx⟩,hcx⟩:=m5 hz;have hee:=hen e (V9 he);have ge:es.getD t (0,0)=e:=by rw[VA,he];rfl
    have R':=R.step P ab he hx (hne e (V9 he)) hcx;have fn:w5 e x<n:=by unfold w5;split<;>omega
    have e1:rwF es cs (es.length+1 - r.length) x one other=t::rwF es cs (es.length+1 - (r++[t]).length) (w5 e x) other one:=by
     rw[show es.length+1 - r.length=(es.length - r.length)+1 by omega,show es.length+1 - (r++[t]).length=es.length - r.length by rw[V8];simp]
     conv=>lhs;unfold rwF
     rw[hz];dsimp only;rw[ge]
    refine⟨_,rfl,by show 0<=100000;decide,_,_,j5 h8,a8,.inr (.inr rfl),_,rfl,ifF rfl (c8 ?_)⟩;have hr3:=j5 (o:=SO.lst []) hr2;have h83:=j5 (o:=SO.lst []) h8;have G3:=G2.push (o:=SO.lst []);generalize S8++[SO.lst []]=S9 at *;refine⟨_,rfl,⟨_,_,rfl,hr3⟩,_,rfl,_,_,a7 h83,rfl,_,hr3,by rw[i6];show _<100000;omega,?_⟩;have h3:(S9.set l (.lst (c4 r++[.int (t:Nat)])))[l]?=some (.lst (c4 (r++[t]))):=by rw[k9 hr3,u8];rfl
    have G4:Gw S (S9.set l (.lst (c4 r++[.int (t:Nat)]))):=G3.put (Y4 hl5);have h84:(S9.set l (.lst (c4 r++[.int (t:Nat)])))[l8]?=some (.lst [.int (t:Nat)]):=by rw[A7 (by omega)];exact h83
    generalize S9.set l (.lst (c4 r++[.int (t:Nat)]))=S10 at *;have ge2:(es.map pairS)[t]?=some (pairS e):=by rw[VG,he];rfl
    refine⟨_,rfl,_,_,rfl,rfl,_,rfl,_,_,a7 h84,rfl,_,_,rfl,f8 ge2,(e.1:Int),(e.2:Int),rfl,_,rfl,?_⟩;refine⟨_,rfl,_,rfl,_,rfl,?_⟩
    have fin:∀ z1 z2:Int,z1=((w5 e x:Nat):Int)->z2=((other:Nat):Int)->E.nx [some (g9 n es),some w,some (.int z1),some (.int (a:Nat)),some (.int (b:Nat)),some (.loc l),some (.int z2),some z,some (.loc l8)] S10:=by
     rintro _ _ rfl rfl;exact hE _ _ ⟨r++[t],w5 e x,other,one,_,_,rfl,R',fn,by rw[<-er,e1];simp,by rw[V8,rj];rfl,G4,h3⟩
    refine fin _ _ ?_ ?_
    ·unfold w5;split<;>omega
    ·have:=R.d1;have:=R.d2;by_cases c:r.length % 2=0
     ·rw[iP c]at *;omega
     ·rw[iG c]at *;omega
 ·rintro ρ S5 ⟨r,x,one,other,o7,o8,rfl,R,xn,er,rj,G,hr⟩;rw[m4,show((es.length:Int) - 0).toNat=es.length by omega]at rj
  have hz:m6 es cs x one=none:=by
   cases hz:m6 es cs x one with
   | none=>rfl
   | some t=>
     obtain⟨⟨e,he,hx⟩,hcx⟩:=m5 hz;have:=(R.step P ab he hx (hne e (V9 he)) hcx).len;rw[V8]at this;simp at this;omega
  exact⟨_,rfl,done r x one other _ R er hz G hr⟩
def Nv:List Stm:=[(.ret (.comp ["_law_tie","_law_pair"] ["_law_place","_law_hueing"] [2,1] (.tup (.cons (.nm 0) (.cons (.nm 1) .nil))) (.enum (.ix (.var 0) (.c (.int 1)))) (.yes (.and (.cmp .In (.var 2) (.var 1)) (.cmp .IsNot (.ix (.var 3) (.var 0)) (.c .non)))) (.ix (.var 3) (.var 0))))]
def FT(s:Sn):Prop:=∀{n p:Nat} {w:SV} {es:EE} {cs:List Nat} {S:Sto} {Q:QE},Hv S w cs->cs.length=es.length->es.length<=60->(∀(l:Nat) (L:List Nat) (S':Sto),Gw S S'->S'[l]?=some (.lst (c4 L))->(∀ h∈L,∃ u,AtP es u p/\hu cs u=h)->Q (.loc l) S')->s [g9 n es,w,.int (p:Nat)] S Q
theorem Nw(hΔ:∀ f,MonoN (Δ f)){D:Df}(hb:D.body=Nv)(hN:D.N.length=3)(hp:D.ps.length=3):FT (f6 Δ D):=by
 intro n p w es cs S Q hk hl hel q;have ml:(es.map pairS).length=es.length:=V7 ..;unfold f6;rw[hb,hN];refine⟨hp.symm,_,rfl,_,_,rfl,rfl,_,rfl,?_⟩;refine i4 (j7 hΔ _).2 (a5 hΔ _).1 (λj ys S2=>S2=S/\∃ L:List Nat,ys=c4 L/\L.length<=j/\∀ h∈L,∃ u,AtP es u p/\hu cs u=h) ⟨rfl,[],rfl,VF _,(λ_ h=>nomatch h)⟩ (λ_ _ _ _=>trivial) ?_ ?_
 ·rintro i y ys S2 hy ⟨rfl,L,rfl,ll,lm⟩;obtain⟨y',hy',rfl⟩:=B6 hy;obtain⟨e,he,rfl⟩:=A8 hy';have il:=(gM he).1;have hc:=v5 (cs:=cs) (t:=i) (by omega);have hEe:CO es p i=(decide (e.1=p)||decide (e.2=p)):=by unfold CO;rw[he]
  refine⟨_,rfl,_,rfl,rfl,_,rfl,rfl,_,rfl,?_⟩;show if inS (.int p) [.int e.1,.int e.2]=true then _ else _
  rw[Bh,<-hEe];cases hh:CO es p i with
  | false=>exact ifF rfl (ifF rfl ⟨rfl,L,rfl,by omega,lm⟩)
  | true=>
    refine ifT rfl ⟨_,rfl,_,rfl,_,_,hk.seq,f8 (r6 hc),.inl ⟨rfl,_,rfl,?_⟩⟩;show if (if true=true then !y7 (pS (hu cs i)) else y7 (pS (hu cs i)))=true then _ else _
    rw[iP rfl,C2,Y9];refine ifD (λz=>?_) (λz=>⟨rfl,L,rfl,by omega,lm⟩);refine⟨_,rfl,_,rfl,_,_,hk.seq,f8 (r6 hc),by rw[i6];show _<100000;omega,rfl,L++[hu cs i],?_,by rw[V8];simp;omega,λh hh'=>?_⟩
    ·rw[u8,n0 z];rfl
    ·rcases VU.mp hh' with y | y
     ·exact lm h y
     ·rw[VQ.mp y];exact⟨i,hasE_iff.mp hh,rfl⟩
 ·rintro ys S2 ⟨rfl,L,rfl,ll,lm⟩;exact q _ L _ (Gw.refl S2).push a8 lm
def sA:List Stm:=[(.asg (.nm 3) (.bi .list (.cons (.var 1) .nil))),(.asg (.nm 4) (.bi .len (.cons (.ix (.var 0) (.c (.int 1))) .nil)))]
noncomputable def sR(kr kh:Nat):List Stm:=[(.asg (.tup (.cons (.nm 5) (.cons (.nm 6) (.cons (.nm 7) .nil)))) (.slc (.var 2) (.yes (.c (.int 1))) .no)),(.iff (.or (.not (.chn .LtE .Lt (.c (.int 0)) (.var 5) (.ix (.var 0) (.c (.int 0))))) (.or (.cmp .Eq (.var 6) (.var 7)) (.cmp .In (.var 7) (.call kh (.cons (.var 0) (.cons (.var 1) (.cons (.var 5) .nil))))))) [(.ret (.c .non))] []),(.loop (.nm 8) (.seq (.call kr (.cons (.var 0) (.cons (.var 1) (.cons (.var 5) (.cons (.var 6) (.cons (.var 7) .nil))))))) [(.put (.var 3) (.var 8) (.op .Sub (.op .Add (.var 6) (.var 7)) (.ix (.var 1) (.var 8))))]),(.ret (.var 3))]
def sW(w:Str):Ex:=(.cmp .Eq (.ix (.var 2) (.c (.int 0))) (.c (.str w)))
def sB:Stm:=(.iff (.or (.not (.chn .LtE .Lt (.c (.int 0)) (.ix (.var 2) (.c (.int 1))) (.var 4))) (.cmp .NotEq (.cmp .Is (.ix (.var 3) (.ix (.var 2) (.c (.int 1)))) (.c .non)) (sW "hue"))) [(.ret (.c .non))] [])
def sM(km:Nat):List Stm:=[(.iff (.or (.not (.chn .LtE .Lt (.c (.int 0)) (.ix (.var 2) (.c (.int 2))) (.var 4))) (.or (.cmp .IsNot (.ix (.var 3) (.ix (.var 2) (.c (.int 2)))) (.c .non)) (.not (.call km (.cons (.var 0) (.cons (.ix (.var 2) (.c (.int 1))) (.cons (.ix (.var 2) (.c (.int 2))) .nil))))))) [(.ret (.c .non))] []),(.put2 (.var 3) (.ix (.var 2) (.c (.int 1))) (.var 3) (.ix (.var 2) (.c (.int 2))) (.tup (.cons (.c .non) (.cons (.ix (.var 1) (.ix (.var 2) (.c (.int 1)))) .nil))))]
def sZ(ki:Nat):Stm:=(.ret (.ife (.call ki (.cons (.var 0) (.cons (.var 3) .nil))) (.var 3) (.c .non)))
noncomputable def HI(kr kh km ki:Nat):List Stm:=sA++[(.iff (sW "row") (sR kr kh) []),sB,(.iff (sW "hue") [(.put (.var 3) (.ix (.var 2) (.c (.int 1))) (.ix (.var 2) (.c (.int 2))))] []),(.iff (sW "drop") [(.put (.var 3) (.ix (.var 2) (.c (.int 1))) (.c .non))] []),(.iff (sW "move") (sM km) []),sZ ki]
def Nx(s:Sn):Prop:=∀{n H k:Nat} {es:EE} {cs:List Nat} {st:Sp3} {S:Sto} {Q:QE},Hg H es cs->(∀ e∈es,e.1<e.2/\e.2<n)->es.length<=60->H<=1000->Ok3 n H es cs st->S[k]?=some (.lst (c9 cs))->(∀(l:Nat) (S':Sto),Gw S S'->S.length<=l->S'[l]?=some (.lst (c9 (st3 es cs st)))->Q (.loc l) S')->s [g9 n es,.loc k,w9 st] S Q
theorem Qx{ki n H l:Nat}(hi:B9 (Δ ki)){es:EE}{cs:List Nat}{S0 S:Sto}{Q:QE}{o1 o2 o4 o5 o6 o7 o8:Option SV}(g:Hg H es cs)(hen:∀ e∈es,e.1<e.2/\e.2<n)(el:es.length<=60)(G:Gw S0 S)(l0:S0.length<=l)(h:S[l]?=some (.lst (c9 cs)))(q:∀(l:Nat) (S':Sto),Gw S0 S'->S0.length<=l->S'[l]?=some (.lst (c9 cs))->Q (.loc l) S'):wSs Δ [sZ ki] (A6 Q) [some (g9 n es),o1,o2,some (.loc l),o4,o5,o6,o7,o8] S:=by
 refine⟨_,rfl,_,rfl,hi hen el (NV h (by rw[g.P.len];exact el)) λr S2 G2 e2=>?_⟩;have:r=true:=e2.mpr ⟨_,a7 h,Jm g.P⟩;subst this;exact⟨_,rfl,ifT rfl ⟨_,rfl,q l S2 (G.trans G2) l0 (G2.keep _ _ h)⟩⟩
theorem Ih{es:EE}{t u:Nat}(h:∃ y,AtP es t y/\AtP es u y):Shr es t u:=by
 obtain⟨y,ht,hu'⟩:=h
 have go:∀ t,AtP es t y->endE es t y:=λt ⟨e,he,z⟩=>by
  have:AW es t=e:=by have:=CH (gM he).1;rw[he]at this;exact(oj this).symm
  unfold endE;rw[this];exact z.imp Eq.symm Eq.symm
 exact shr_end.mpr ⟨y,go t ht,go u hu'⟩
theorem Ii(hΔ:∀ f,MonoN (Δ f)){kr kh km ki:Nat}(hr:Ch (Δ kr))(hh:FT (Δ kh))(hm:Eg (Δ km))(hi:B9 (Δ ki)){D:Df}(hb:D.body=HI kr kh km ki)(hN:D.N.length=9)(hp:D.ps.length=3):Nx (f6 Δ D):=by
 intro n H k es cs st S Q g hen el hH ok hk q;have kl:=(gM hk).1;have cl:=g.P.len;have ml:(es.map pairS).length=es.length:=V7 ..;have g':=C3 g hen hH ok;unfold f6;rw[hb,hN];have lo:∀ c:Nat,decide ((0:Int)<=(c:Nat))=true:=λc=>decide_eq_true (by omega);have hi':∀ c d:Nat,c<d->decide (((c:Nat):Int)<(d:Nat))=true:=λc d h=>decide_eq_true (by omega);refine⟨hp.symm,_,rfl,_,a7 hk,_,rfl,_,_,rfl,rfl,_,rfl,?_⟩;rw[ml];have G1:Gw S (S++[SO.lst (c9 cs)]):=(Gw.refl S).push;have h3:(S++[SO.lst (c9 cs)])[S.length]?=some (SO.lst (c9 cs)):=a8;have hk1:=j5 (o:=SO.lst (c9 cs)) hk;have s1:(S++[SO.lst (c9 cs)]).length=S.length+1:=by simp
 cases st with
 | hue t h=>
   obtain⟨tl,h0,h1,h2⟩:=ok;have hc:=v5 (cs:=cs) (t:=t) (by omega);have hcp:(c9 cs)[t]?=some .non:=by rw[r6 hc,w6 h0]
   refine⟨_,rfl,_,_,rfl,rfl,_,rfl,ifF (decide_eq_false (by decide)) (c8 ?_)⟩;refine⟨_,rfl,_,_,rfl,rfl,_,rfl,ifT (lo t) ⟨_,rfl,_,rfl,?_⟩⟩;rw[hi' t es.length tl];refine ifF rfl ⟨_,rfl,_,rfl,_,_,rfl,rfl,_,_,a7 h3,f8 hcp,.inl ⟨rfl,_,rfl,_,_,rfl,rfl,_,rfl,ifF rfl (c8 ?_)⟩⟩;refine⟨_,rfl,_,_,rfl,rfl,_,rfl,ifT (decide_eq_true rfl) ?_⟩;refine⟨_,rfl,_,_,rfl,rfl,_,rfl,_,rfl,_,_,rfl,rfl,_,t,h3,Bg (by rw[p8];omega),?_⟩
   have h4:((S++[SO.lst (c9 cs)]).set S.length (.lst ((c9 cs).set t (.int (h:Nat)))))[S.length]?=some (.lst (c9 (st3 es cs (.hue t h)))):=by
    rw[k9 h3];show _=some (SO.lst (c9 (cs.set t h)));unfold c9;rw[XF,n0 (by omega)]
   have G2:Gw S ((S++[SO.lst (c9 cs)]).set S.length (.lst ((c9 cs).set t (.int (h:Nat))))):=G1.put (VF _);refine⟨_,rfl,_,_,rfl,rfl,_,rfl,ifF (decide_eq_false (by decide)) (c8 ?_)⟩;refine⟨_,rfl,_,_,rfl,rfl,_,rfl,ifF (decide_eq_false (by decide)) (c8 ?_)⟩;exact Qx hi g' hen el G2 (VF _) h4 q
 | move t u=>
   obtain⟨tl,ul,h1,h2,sh,h4⟩:=ok;have hc:=v5 (cs:=cs) (t:=t) (by omega);have hcp:(c9 cs)[t]?=some (.int (hu cs t:Nat)):=by rw[r6 hc,n0 (by omega)]
   have hcu:=v5 (cs:=cs) (t:=u) (by omega);have hup:(c9 cs)[u]?=some .non:=by rw[r6 hcu,w6 h2]
   refine⟨_,rfl,_,_,rfl,rfl,_,rfl,ifF (decide_eq_false (by decide)) (c8 ?_)⟩;refine⟨_,rfl,_,_,rfl,rfl,_,rfl,ifT (lo t) ⟨_,rfl,_,rfl,?_⟩⟩;rw[hi' t es.length tl];refine ifF rfl ⟨_,rfl,_,rfl,_,_,rfl,rfl,_,_,a7 h3,f8 hcp,.inl ⟨rfl,_,rfl,_,_,rfl,rfl,_,rfl,ifF rfl (c8 ?_)⟩⟩;refine⟨_,rfl,_,_,rfl,rfl,_,rfl,ifF (decide_eq_false (by decide)) (c8 ?_)⟩;refine⟨_,rfl,_,_,rfl,rfl,_,rfl,ifF (decide_eq_false (by decide)) (c8 ?_)⟩;refine⟨_,rfl,_,_,rfl,rfl,_,rfl,ifT (decide_eq_true rfl) ?_⟩;refine⟨_,rfl,_,_,rfl,rfl,_,rfl,ifT (lo u) ⟨_,rfl,_,rfl,?_⟩⟩;rw[hi' u es.length ul];refine ifF rfl ⟨_,rfl,_,rfl,_,_,rfl,rfl,_,_,a7 h3,f8 hup,.inl ⟨rfl,_,rfl,ifF rfl ?_⟩⟩;refine⟨_,rfl,_,rfl,_,_,rfl,rfl,_,rfl,_,_,rfl,rfl,hm tl ul λr er=>⟨_,rfl,?_⟩⟩;have:r=true:=er.mpr (Ih sh);subst this;refine ifF rfl (c8 ?_);refine⟨_,rfl,_,rfl,_,_,rfl,rfl,_,_,a7 hk1,f8 hcp,by show 2<=100000;decide,_,_,rfl,_,rfl,_,rfl,_,_,rfl,rfl,_,t,h3,Bg (by rw[p8];omega),?_⟩;have h31:((S++[SO.lst (c9 cs)]).set S.length (.lst ((c9 cs).set t .non)))[S.length]?=some (.lst ((c9 cs).set t .non)):=k9 h3;have G2:Gw S ((S++[SO.lst (c9 cs)]).set S.length (.lst ((c9 cs).set t .non))):=G1.put (VF _);generalize (S++[SO.lst (c9 cs)]).set S.length (.lst ((c9 cs).set t .non))=S2 at *;refine⟨_,rfl,_,rfl,_,_,rfl,rfl,_,u,h31,Bg (by rw[Vp,p8];omega),?_⟩
   have h5:(S2.set S.length (.lst (((c9 cs).set t .non).set u (.int (hu cs t:Nat)))))[S.length]?=some (.lst (c9 (st3 es cs (.move t u)))):=by
    rw[k9 h31];show _=some (SO.lst (c9 ((cs.set t (1000+t)).set u (hu cs t))));unfold c9;rw[XF,XF,n0 (show hu cs t<1000 by omega),w6 (show ¬ 1000+t<1000 by omega)]
   have G3:Gw S (S2.set S.length (.lst (((c9 cs).set t .non).set u (.int (hu cs t:Nat))))):=G2.put (VF _);exact Qx hi g' hen el G3 (VF _) h5 q
 | row p a b=>
   obtain⟨a1,b1,ab,pn,no⟩:=ok;obtain⟨x,o1,o2,R,last⟩:=CL g.P hen ab no;have two:=CM R;refine⟨_,rfl,_,_,rfl,rfl,_,rfl,ifT (decide_eq_true rfl) ?_⟩;refine⟨_,rfl,1,rfl,?_⟩;have cut:F7 [SV.str "row",.int (p:Nat),.int (a:Nat),.int (b:Nat)] (some 1) none=[.int (p:Nat),.int (a:Nat),.int (b:Nat)]:=rfl;show wTg _ (.tup (F7 [SV.str "row",.int (p:Nat),.int (a:Nat),.int (b:Nat)] (some 1) none)) _ _;rw[cut];refine⟨_,rfl,_,rfl,ifT (lo p) ⟨_,rfl,_,_,rfl,rfl,_,rfl,?_⟩⟩;rw[hi' p n pn];refine ifF rfl ⟨_,rfl,_,rfl,_,rfl,ifF (decide_eq_false λz=>ab (Vg.mp z)) ⟨_,rfl,_,rfl,_,rfl,_,rfl,hh (Hv.loc hk1) cl el λl2 L S2 G2 h2 lm=>?_⟩⟩;show match BC (.loc l2) S2 with | some ms=>_ | none=>_
   rw[AV h2];refine⟨rfl,_,a7 h2,Bi _,_,rfl,?_⟩;show if inS (.int (b:Nat)) (c4 L)=true then _ else _
   rw[FL,decide_eq_false (λz=>by obtain⟨u,u1,u2⟩:=lm b z;exact no u u1 u2)];refine ifF rfl (c8 ?_);have hk2:=G2.keep _ _ hk1;have h32:=G2.keep _ _ h3;refine⟨_,rfl,_,rfl,_,rfl,_,rfl,_,rfl,hr (Hv.loc hk2) (by omega) (by omega) g.P hen (by omega) pn ab no λl S4 G4 l4 h4=>⟨_,a7 h4,?_⟩⟩;have hrr:∃ r,rwF es cs (es.length+1) p a b=r:=⟨_,rfl⟩
   have f0:S4[S.length]?=some (SO.lst (c9 cs)):=G4.keep _ _ h32;have hk4:=G4.keep _ _ hk2;have GS4:Gw S S4:=(G1.trans G2).trans G4;have g2l:=G2.len;have q':∀(S':Sto),Gw S S'->S'[S.length]?=some (.lst (c9 (exL cs (rwF es cs (es.length+1) p a b) a b)))->Q (.loc S.length) S':=λS' G' h'=>q _ S' G' (VF _) h';clear q g';generalize rwF es cs (es.length+1) p a b=r at *;refine v9 (i7 hΔ _) (λi ρ S'=>∃ o8:Option SV,ρ=[some (g9 n es),some (.loc k),some (w9 (.row p a b)),some (.loc S.length),some (.int (es.length:Nat)),some (.int (p:Nat)),some (.int (a:Nat)),some (.int (b:Nat)),o8]/\On S.length S4 S'/\S'[S.length]?=some (.lst (c9 (exL cs (r.take i) a b)))) ⟨none,rfl,On.refl _ _,by rw[YU,Jk];exact f0⟩ (λi ρ S' z=>?_) ?_ ?_
   ·obtain⟨_,_,O,_⟩:=z;show S'[l]?=S4[l]?;rw[h4];exact O.keep _ _ (by omega) h4
   ·rintro i y ρ S' hy ⟨o8,rfl,O,h5⟩;obtain⟨t,hti,rfl⟩:=B8 hy;have tr:=V9 hti;have tl:=R.lt t tr;have e:r.take (i+1)=r.take i++[t]:=by rw[Vl,hti];rfl
    have hc9:hu cs t<1000:=by rcases two t tr with z | z<;>rw[z]<;>omega
    have hcp:(c9 cs)[t]?=some (.int (hu cs t:Nat)):=by rw[r6 (v5 (by omega)),n0 hc9]
    have hk5:=O.keep _ _ (by omega) hk4
    have fin:∀ z:Int,z=((if hu cs t=a then b else a:Nat):Int)->Ca (.loc S.length) (.int (t:Nat)) (.int z) S' λS6=>∃ o8:Option SV,[some (g9 n es),some (.loc k),some (w9 (.row p a b)),some (.loc S.length),some (.int (es.length:Nat)),some (.int (p:Nat)),some (.int (a:Nat)),some (.int (b:Nat)),some (.int (t:Nat))]=[some (g9 n es),some (.loc k),some (w9 (.row p a b)),some (.loc S.length),some (.int (es.length:Nat)),some (.int (p:Nat)),some (.int (a:Nat)),some (.int (b:Nat)),o8]/\On S.length S4 S6/\S6[S.length]?=some (.lst (c9 (exL cs (r.take (i+1)) a b))):=by
     rintro _ rfl;refine⟨_,t,h5,Bg (by rw[p8,AH];omega),_,rfl,O.tape,?_⟩;rw[k9 h5,e,Gs (by omega)];unfold c9;rw[XF,n0 (by split<;>omega)]
    refine⟨_,rfl,_,rfl,_,rfl,_,rfl,_,_,a7 hk5,f8 hcp,_,rfl,_,rfl,fin _ ?_⟩;rcases two t tr with z | z
    ·rw[iP z];omega
    ·rw[iG (by omega)];omega
   ·rintro ρ S' ⟨o8,rfl,O,h5⟩;rw[i6,Vi]at h5;exact⟨_,rfl,q' S' (Jn GS4 O (VF _)) h5⟩
end
theorem K1{sts:List Sp3}{i:Nat}{x:SV}(h:(sts.map w9)[i]?=some x):∃ s,sts[i]?=some s/\x=w9 s:=by
 rw[VG]at h;cases he:sts[i]? with
 | none=>rw[he]at h;cases h
 | some e=>rw[he]at h;exact⟨e,rfl,(oj h).symm⟩
theorem OkR3.at{n H:Nat}{es:EE}:∀{a:List Sp3} {cs:List Nat} {i:Nat} {s:Sp3},OkR3 n H es cs a->a[i]?=some s->Ok3 n H es (AY es cs (a.take i)) s
 | [],_,_,_,_,h=>by simp at h
 | s::a,cs,0,s',h,e=>by simp at e;subst e;exact h.1
 | s::a,cs,i+1,s',h,e=>OkR3.at (a:=a) h.2 (by simpa using e)
theorem Ek{es:EE}{cs:List Nat}{sts:List Sp3}{i:Nat}{s:Sp3}(h:sts[i]?=some s):AY es cs (sts.take (i+1))=st3 es (AY es cs (sts.take i)) s:=by
 unfold AY;rw[Vl,h];simp
theorem OkR3.hgAt{n H:Nat}{es:EE}(hen:∀ e∈es,e.1<e.2/\e.2<n)(hH:H<=1000):∀{a:List Sp3} {cs:List Nat} (i:Nat),Hg H es cs->OkR3 n H es cs a->Hg H es (AY es cs (a.take i))
 | [],_,_,g,_=>by rw[List.take_nil];exact g
 | s::a,cs,0,g,h=>g
 | s::a,cs,i+1,g,h=>OkR3.hgAt hen hH (a:=a) i (C3 g hen hH h.1) h.2
theorem Su(n:Nat):blS (VL n (.bl true))=some (VL n true):=by
 induction n with
 | zero=>rfl
 | succ n ih=>rw[Vj,Vj];unfold blS;rw[ih];rfl
section
variable{Δ:Nat->Sn}
def wa1:Stm:=(.iff (.cmp .NotIn (.ix (.var 5) (.c (.int 0))) (.tup (.cons (.c (.str "hue")) (.cons (.c (.str "move")) (.cons (.c (.str "row")) .nil))))) [(.ret (.c .non))] [])
def wa2:Stm:=(.iff (.cmp .NotEq (.bi .len (.cons (.var 5) .nil)) (.op .Add (.c (.int 3)) (.bi .int (.cons (.cmp .Eq (.ix (.var 5) (.c (.int 0))) (.c (.str "row"))) .nil)))) [(.ret (.c .non))] [])
def wa4:Stm:=(.iff (.or (.cmp .Is (.var 4) (.c .non)) (.bi .any (.cons (.comp ["_law_hue"] ["_law_hues_here"] [3] (.nm 0) (.seq (.var 4)) .no (.and (.cmp .IsNot (.var 0) (.c .non)) (.cmp .GtE (.var 0) (.var 1)))) .nil))) [(.ret (.c .non))] [])
def waL(ks:Nat):List Stm:=[wa1,wa2,(.asg (.nm 4) (.call ks (.cons (.var 0) (.cons (.var 4) (.cons (.var 5) .nil))))),wa4]
def Ny(ks:Nat):List Stm:=[(.asg (.nm 4) (.bi .list (.cons (.var 1) .nil))),(.loop (.nm 5) (.seq (.var 2)) (waL ks)),(.ret (.var 4))]
def FU(s:Sn):Prop:=∀{n H k2:Nat} {w:SV} {es:EE} {cs:List Nat} {sts:List Sp3} {S:Sto} {Q:QE},Hv S w cs->Hg H es cs->(∀ e∈es,e.1<e.2/\e.2<n)->es.length<=60->H<=1000->S[k2]?=some (.lst (sts.map w9))->OkR3 n H es cs sts->(∀(l:Nat) (S':Sto),Gw S S'->S.length<=l->S'[l]?=some (.lst (c9 (AY es cs sts)))->Q (.loc l) S')->s [g9 n es,w,.loc k2,.int (H:Nat)] S Q
theorem Nz(hΔ:∀ f,MonoN (Δ f)){ks:Nat}(hs:Nx (Δ ks)){D:Df}(hb:D.body=Ny ks)(hN:D.N.length=6)(hp:D.ps.length=4):FU (f6 Δ D):=by
 intro n H k2 w es cs sts S Q hw g hen el hH h2 ok q;have k2l:=(gM h2).1;unfold f6;rw[hb,hN];refine⟨hp.symm,_,rfl,_,hw.seq,?_⟩;have G1:Gw S (S++[SO.lst (c9 cs)]):=(Gw.refl S).push;refine⟨_,rfl,_,a7 (j5 h2),?_⟩;refine v9 (i7 hΔ _) (λi ρ S'=>∃(c:Nat) (o5:Option SV),ρ=[some (g9 n es),some w,some (.loc k2),some (.int (H:Nat)),some (.loc c),o5]/\Gw S S'/\S.length<=c/\S'[c]?=some (.lst (c9 (AY es cs (sts.take i))))) ⟨S.length,none,rfl,G1,VF _,a8⟩ (λ_ _ S' z=>?_) ?_ ?_
 ·obtain⟨_,_,_,G,_⟩:=z;show S'[k2]?=(S++[SO.lst (c9 cs)])[k2]?;rw[j5 h2];exact G.keep _ _ h2
 ·rintro i x ρ S' hx ⟨c,o5,rfl,G,cl,hc⟩;obtain⟨s,hsi,rfl⟩:=K1 hx;have gi:=ok.hgAt hen hH i g;have oki:=ok.at hsi;have gs:=ok.hgAt hen hH (i+1) g;rw[Ek hsi]at gs
  have w1:∀(E:EndsS) (st:List Stm) (S1:Sto),wSs Δ st E [some (g9 n es),some w,some (.loc k2),some (.int (H:Nat)),some (.loc c),some (w9 s)] S1->wSs Δ (wa1::wa2::st) E [some (g9 n es),some w,some (.loc k2),some (.int (H:Nat)),some (.loc c),some (w9 s)] S1:=by
   intro E st S1 h;cases s with
   | hue t h'=>
     refine⟨_,rfl,_,_,rfl,rfl,by show 3<=100000;decide,rfl,_,rfl,rfl,_,rfl,ifF (by decide) (c8 ?_)⟩;exact⟨_,rfl,_,rfl,_,rfl,_,_,rfl,rfl,_,rfl,ifF (show(!decide (((3:Nat):Int)=3+if decide (("hue":Str)="row")=true then 1 else 0))=false by decide) (c8 h)⟩
   | move t u=>
     refine⟨_,rfl,_,_,rfl,rfl,by show 3<=100000;decide,rfl,_,rfl,rfl,_,rfl,ifF (by decide) (c8 ?_)⟩;exact⟨_,rfl,_,rfl,_,rfl,_,_,rfl,rfl,_,rfl,ifF (show(!decide (((3:Nat):Int)=3+if decide (("move":Str)="row")=true then 1 else 0))=false by decide) (c8 h)⟩
   | row p a b=>
     refine⟨_,rfl,_,_,rfl,rfl,by show 3<=100000;decide,rfl,_,rfl,rfl,_,rfl,ifF (by decide) (c8 ?_)⟩;exact⟨_,rfl,_,rfl,_,rfl,_,_,rfl,rfl,_,rfl,ifF (by simp only[VY,W4];decide) (c8 h)⟩
  refine w1 _ _ _ ?_;refine⟨_,rfl,_,rfl,_,rfl,hs gi hen el hH oki hc λl S2 G2 l2 h3=>?_⟩;have dl:(st3 es (AY es cs (sts.take i)) s).length<=60:=by rw[gs.P.len];exact el
  have cd:∀ u,u<es.length->hu (st3 es (AY es cs (sts.take i)) s) u<1000->hu (st3 es (AY es cs (sts.take i)) s) u<H:=λu ul z=>by
   rcases gs.cod u ul with y | y<;>omega
  rw[<-Ek hsi]at h3 dl cd gs;generalize AY es cs (sts.take (i+1))=ds at *;refine⟨_,rfl,.inl ⟨rfl,_,rfl,ifF rfl ⟨_,rfl,_,a7 h3,?_⟩⟩⟩;refine i4 (j7 hΔ _).2 (a5 hΔ _).1 (λj ys S3=>S3=S2/\ys=VL j (.bl false)) ⟨rfl,rfl⟩ (λ_ _ _ z=>by rw[z.1];exact rfl) ?_ ?_
  ·rintro j x ys S3 hx ⟨rfl,rfl⟩;obtain⟨c',hc',rfl⟩:=BA hx;have jl:=(gM hc').1;have hj:hu ds j=c':=by show ds.getD j 0=_;rw[VA,hc'];rfl
   have ln:(VL j (SV.bl false)).length<big:=by rw[Wa];show _<100000;omega
   refine⟨_,rfl,.inl ⟨rfl,_,rfl,?_⟩⟩;show if (if true=true then !y7 (pS c') else y7 (pS c'))=true then _ else _
   rw[iP rfl,C2,Y9];refine ifD (λz=>?_) (λz=>⟨ln,rfl,by rw[XA]⟩);have lt:=cd j (by rw[<-gs.P.len];exact jl) (by rw[hj];exact z);rw[hj]at lt;refine⟨_,rfl,_,rfl,?_⟩;rw[n0 z];refine⟨ln,rfl,?_⟩;show VL j (SV.bl false)++[SV.bl (decide (((H:Nat):Int)<=((c':Nat):Int)))]=_;rw[decide_eq_false (by omega),XA]
  ·rintro ys S3 ⟨rfl,rfl⟩;refine⟨_,_,nofun,a7 a8,Pv _,_,rfl,?_⟩;rw[show ∀ n,(VL n false).any id=false from λn=>by simp];exact ifF rfl (c8 ⟨l,_,rfl,(G.trans G2).push,Ve G.len l2,j5 h3⟩)
 ·rintro ρ S' ⟨c,o5,rfl,G,cl,hc⟩;rw[V7,Vi]at hc;exact⟨_,rfl,q c S' G cl hc⟩
def go1:Stm:=(.iff (.or (.not (.bi .isi (.cons (.var 3) (.cons (.tyc .list) .nil)))) (.not (.bi .all (.cons (.comp ["_law_step"] [] [] (.nm 0) (.seq (.var 3)) .no (.bi .isi (.cons (.var 0) (.cons (.tyc .tuple) .nil)))) .nil)))) [(.ret (.c .non))] [])
def go3:Stm:=(.iff (.or (.cmp .Is (.var 5) (.c .non)) (.cmp .Is (.ix (.var 5) (.var 2)) (.c .non))) [(.ret (.c .non))] [])
def goL:List Stm:=[(.iff (.and (.cmp .NotEq (.var 6) (.var 2)) (.cmp .NotEq (.cmp .Is (.var 7) (.c .non)) (.cmp .Is (.ix (.var 5) (.var 6)) (.c .non)))) [(.ret (.c .non))] [])]
def Qy(kw:Nat):List Stm:=[go1,(.asg (.nm 5) (.call kw (.cons (.var 0) (.cons (.var 1) (.cons (.var 3) (.cons (.var 4) .nil)))))),go3,(.loop (.tup (.cons (.nm 6) (.cons (.nm 7) .nil))) (.enum (.var 1)) goL),(.ret (.var 5))]
def Ij(s:Sn):Prop:=∀{n H t k2:Nat} {w:SV} {es:EE} {cs:List Nat} {sts:List Sp3} {S:Sto} {Q:QE},Hv S w cs->Hg H es cs->(∀ e∈es,e.1<e.2/\e.2<n)->es.length<=60->H<=1000->S[k2]?=some (.lst (sts.map w9))->sts.length<=1000->OkR3 n H es cs sts->LB H es cs (AY es cs sts) t->t<es.length->(∀(l:Nat) (S':Sto),Gw S S'->S.length<=l->S'[l]?=some (.lst (c9 (AY es cs sts)))->Q (.loc l) S')->s [g9 n es,w,.int (t:Nat),.loc k2,.int (H:Nat)] S Q
theorem Q9(hΔ:∀ f,MonoN (Δ f)){kw:Nat}(hw':FU (Δ kw)){D:Df}(hb:D.body=Qy kw)(hN:D.N.length=8)(hp:D.ps.length=5):Ij (f6 Δ D):=by
 intro n H t k2 w es cs sts S Q hw g hen el hH h2 sl ok gets tl q;have g2:=OkR3.hg hen hH g ok;unfold f6;rw[hb,hN];refine⟨hp.symm,_,rfl,_,nofun,Dc h2,_,rfl,ifF rfl ⟨_,rfl,_,a7 h2,?_⟩⟩;refine i4 (j7 hΔ _).2 (a5 hΔ _).1 (λj ys S2=>S2=S/\ys=VL j (.bl true)) ⟨rfl,rfl⟩ (λ_ _ _ z=>by rw[z.1];exact rfl) ?_ ?_
 ·rintro j x ys S2 hx ⟨rfl,rfl⟩;obtain⟨s,hs,rfl⟩:=K1 hx;have jl:=(gM hs).1;have ln:(VL j (SV.bl true)).length<big:=by rw[Wa];show _<100000;omega
  have e:VL j (SV.bl true)++[SV.bl true]=VL (j+1) (.bl true):=by rw[XA]
  cases s<;>exact⟨_,rfl,_,nofun,rfl,ln,rfl,e⟩
 rintro ys S2 ⟨rfl,rfl⟩;refine⟨_,_,nofun,a7 a8,Su _,_,rfl,?_⟩;rw[Pn];refine ifF rfl (c8 ?_);have G1:=(Gw.refl S2).push (o:=SO.lst (VL (sts.map w9).length (.bl true)));have h21:=G1.keep _ _ h2;have hw1:=hw.gw G1;generalize S2++[SO.lst (VL (sts.map w9).length (.bl true))]=S1 at *;refine⟨_,rfl,_,rfl,_,rfl,_,rfl,hw' hw1 g hen el hH h21 ok λl S3 G3 l3 h3=>?_⟩;have ds:=g2.P.len;have q':∀ S',Gw S3 S'->Q (.loc l) S':=λS' G'=>q l S' ((G1.trans G3).trans G') (Ve G1.len l3) (G'.keep _ _ h3);generalize AY es cs sts=dd at *;have gt:∀ u,u<es.length->(c9 dd)[u]?=some (pS (hu dd u)):=λu ul=>r6 (v5 (by omega));have nt:y7 (pS (hu dd t))=false:=by rw[C2,decide_eq_true (show hu dd t<1000 by have:=gets.1;omega)];rfl
 refine⟨_,rfl,.inl ⟨rfl,_,rfl,ifF rfl ⟨_,rfl,_,rfl,_,_,a7 h3,f8 (gt t tl),.inl ⟨rfl,_,rfl,ifF nt (c8 ?_)⟩⟩⟩⟩;have hw3:=hw1.gw G3;refine⟨_,rfl,_,hw3.seq,?_⟩;refine t9 (i7 hΔ _) (λj ρ S4=>S4=S3/\∃ o6 o7:Option SV,ρ=[some (g9 n es),some w,some (.int (t:Nat)),some (.loc k2),some (.int (H:Nat)),some (.loc l),o6,o7]) ⟨rfl,none,none,rfl⟩ (λ_ _ _ z=>by rw[z.1];cases w<;>first | exact rfl | exact trivial) ?_ ?_
 ·rintro j x ρ S4 E hE hR hx ⟨rfl,o6,o7,rfl⟩;obtain⟨y,hy,rfl⟩:=B6 hx;obtain⟨c,hc,rfl⟩:=BA hy;have jl:j<es.length:=by have:=(gM hc).1;rw[g.P.len]at this;exact this
  have hj:hu cs j=c:=by show cs.getD j 0=_;rw[VA,hc];rfl
  refine⟨_,rfl,_,rfl,_,rfl,?_⟩;by_cases jt:j=t
  ·rw[decide_eq_true (show((j:Nat):Int)=((t:Nat):Int) by rw[jt])];exact ifF rfl (ifF rfl (c8 (hE _ _ ⟨rfl,_,_,rfl⟩)))
  ·rw[decide_eq_false (show ¬ ((j:Nat):Int)=((t:Nat):Int) from λz=>jt (Vg.mp z))];refine ifT rfl ⟨_,rfl,.inl ⟨rfl,_,rfl,_,rfl,_,_,a7 h3,f8 (gt j jl),.inl ⟨rfl,_,rfl,?_⟩⟩⟩
   have same:y7 (pS c)=y7 (pS (hu dd j)):=by
    rw[C2,C2,<-hj]
    congr 1
    rw[decide_eq_decide];have a1:=g.cod j jl;have a2:=g2.cod j jl;have a3:=gets.2 j jl jt;omega
   show if (!decide (y7 (pS c)=y7 (pS (hu dd j))))=true then _ else _
   rw[decide_eq_true same];exact ifF rfl (c8 (hE _ _ ⟨rfl,_,_,rfl⟩))
 ·rintro ρ S4 ⟨rfl,o6,o7,rfl⟩;exact⟨_,rfl,q' S4 (Gw.refl _)⟩
structure Pre3(H:Nat)(es:EE)(cs:List Nat):Prop where
 ne:∀ t u,t<u->u<cs.length->Shr es t u->hu cs t≠hu cs u
 cd:∀ u,u<cs.length->hu cs u<H\/hu cs u=1000+u
theorem Pre3.hg{H:Nat}{es:EE}{cs:List Nat}(P:Pre3 H es cs)(h:cs.length=es.length):Hg H es cs:=by
 refine⟨⟨h,λt u y ht hu' e=>?_⟩,λu ul=>P.cd u (by omega)⟩;rcases YA t u with z | z | z
 ·exact absurd e (P.ne t u z (by have:=hu'.lt;omega) (Ih ⟨y,ht,hu'⟩))
 ·exact z
 ·exact absurd e.symm (P.ne u t z (by have:=ht.lt;omega) (Ih ⟨y,hu',ht⟩))
theorem Pre3.snoc{H:Nat}{es:EE}{cs:List Nat}{c:Nat}(P:Pre3 H es cs)(hc:c<H\/c=1000+cs.length)(no:∀ t,t<cs.length->Shr es t cs.length->hu cs t≠c):Pre3 H es (cs++[c]):=by
 refine⟨λt u tu ul sh=>?_,λu ul=>?_⟩
 ·rw[V8,Vw]at ul;by_cases e:u=cs.length
  ·subst e;rw[Dk tu,FM];exact no t tu sh
  ·rw[Dk (by omega),Dk (by omega)];exact P.ne t u tu (by omega) sh
 ·rw[V8,Vw]at ul;by_cases e:u=cs.length
  ·subst e;rw[FM];exact hc
  ·rw[Dk (by omega)];exact P.cd u (by omega)
theorem Sv{j:Nat}{T:List Nat}(hj:j<1000):inS (.int (j:Nat)) (c9 T)=decide (j∈T):=by
 unfold inS c9;rw[X6,Vo,WV,dQ];constructor
 ·rintro⟨c,hc,z⟩;replace z:eqF (pS c) (.int (j:Nat))=true:=z;by_cases y:c<1000
  ·rw[n0 y]at z;have:((c:Nat):Int)=((j:Nat):Int):=by simpa[eqF] using z
   exact Vg.mp this▸hc
  ·rw[w6 y]at z;cases z
 ·intro h;refine⟨j,h,?_⟩;show eqF (pS j) (.int (j:Nat))=true;rw[n0 hj];simp[eqF]
theorem HJ(T:List Nat):(c9 T).all y0=true:=by
 unfold c9;rw[Xl,Va];exact λc _=>Qv c
def wi1(km:Nat):Stm:=(.asg (.nm 5) (.comp ["_law_k"] ["_law_web_here","_law_tie","_law_found"] [1,4,3] (.nm 0) (.rng1 (.var 4)) (.yes (.call km (.cons (.var 1) (.cons (.var 0) (.cons (.var 2) .nil))))) (.ix (.var 3) (.var 0))))
def wi2:Stm:=(.asg (.nm 6) (.comp ["_law_hue"] ["_law_taken"] [5] (.nm 0) (.rng1 (.var 2)) (.yes (.cmp .NotIn (.var 0) (.var 1))) (.var 0)))
def wi3(kd:Nat):Stm:=(.iff (.or (.cmp .Eq (.var 6) (.lst .nil)) (.cmp .Eq (.call kd (.cons (.var 0) (.cons (.c (.int 6)) .nil))) (.c (.int 0)))) [(.expr (.mt .append (.var 3) (.cons (.c .non) .nil)))] [(.expr (.mt .append (.var 3) (.cons (.ix (.var 6) (.call kd (.cons (.var 0) (.cons (.bi .len (.cons (.var 6) .nil)) .nil)))) .nil)))])
def HK(kd km:Nat):List Stm:=[(.asg (.nm 3) (.lst .nil)),(.loop (.nm 4) (.rng1 (.bi .len (.cons (.ix (.var 1) (.c (.int 1))) .nil))) [wi1 km,wi2,wi3 kd]),(.ret (.var 3))]
def El(s:Sn):Prop:=∀{t n H:Nat} {es:EE} {S:Sto} {Q:QE},TapeS S t->es.length<=60->H<=1000->(∀(l:Nat) (cs:List Nat) (S':Sto),TapeS S' t->On t S S'->S.length<=l->S'[l]?=some (.lst (c9 cs))->Hg H es cs->Q (.loc l) S')->s [.loc t,g9 n es,.int (H:Nat)] S Q
theorem Ik(hΔ:∀ f,MonoN (Δ f)){kd km:Nat}(hd:AC (Δ kd))(hm:Eg (Δ km)){D:Df}(hb:D.body=HK kd km)(hN:D.N.length=7)(hp:D.ps.length=3):El (f6 Δ D):=by
 intro t n H es S Q T hel hH q;have tl:=T.lt;unfold f6;rw[hb,hN];refine⟨hp.symm,by show 0<=100000;decide,?_⟩;have h1:(S++[SO.lst []])[S.length]?=some (.lst (c9 [])):=a8;refine⟨_,rfl,_,_,rfl,rfl,_,rfl,_,rfl,⟨by rw[V7];omega,by rw[V7];omega⟩,?_⟩;have e:(CY 0 ((es.map pairS).length:Int)).length=es.length:=by rw[m4,V7];omega
 refine t9 (i7 hΔ _) (λi ρ S2=>∃(o4 o5 o6:Option SV) (cs:List Nat),ρ=[some (.loc t),some (g9 n es),some (.int (H:Nat)),some (.loc S.length),o4,o5,o6]/\TapeS S2 t/\S.length+1<=S2.length/\(∀(k:Nat) (o:SO),k<S.length->k≠t->S[k]?=some o->S2[k]?=some o)/\S2[S.length]?=some (.lst (c9 cs))/\cs.length=i/\Pre3 H es cs) ⟨none,none,none,[],rfl,T.push,by rw[V8];simp,λk o _ ne h=>j5 h,h1,rfl,⟨λt u tu ul=>by simp at ul,λu ul=>by simp at ul⟩⟩ (λ_ _ _ _=>trivial) ?_ ?_
 ·rintro i x ρ S2 E hE hR hx ⟨o4,o5,o6,cs,rfl,T2,l2,K2,h2,ci,P⟩;have hi:i<es.length:=by have:=(gM hx).1;rwa [e]at this
  obtain⟨rfl,_⟩:=p0 hx;rw[Wh];refine⟨_,rfl,_,rfl,⟨by omega,by omega⟩,?_⟩;refine i4 (j7 hΔ _).2 (a5 hΔ _).1 (λj ys S3=>Gw S2 S3/\∃ Tk:List Nat,ys=c9 Tk/\Tk.length<=j/\∀ t,t<j->Shr es t i->hu cs t∈Tk) ⟨Gw.refl S2,[],rfl,VF _,λt ht=>by omega⟩ (λ_ _ _ _=>trivial) ?_ ?_
  ·rintro j x ys S3 hx ⟨G,Tk,rfl,tkl,tm⟩;obtain⟨rfl,hj⟩:=p0 hx;rw[Wh]at hj ⊢;have hj:j<i:=by omega
   have hc:=v5 (cs:=cs) (t:=j) (by omega);refine⟨_,rfl,_,rfl,_,rfl,hm (by omega) hi λr er=>⟨_,rfl,?_⟩⟩;cases r with
   | true=>
     refine ifT rfl ⟨_,rfl,_,rfl,_,_,a7 (G.keep _ _ h2),f8 (r6 hc),by rw[p8];show _<100000;omega,G,Tk++[hu cs j],by unfold c9;rw[VM];rfl,by rw[V8];simp;exact tkl,λt ht sh=>?_⟩;by_cases e:t=j
     ·rw[e];simp
     ·exact We _ (tm t (by omega) sh)
   | false=>
     refine ifF rfl ⟨G,Tk,rfl,by omega,λt ht sh=>?_⟩;by_cases e:t=j
     ·rw[e]at sh;have:=er.mpr sh;cases this
     ·exact tm t (by omega) sh
  rintro ys S3 ⟨G3,Tk,rfl,tkl,tm⟩;rw[m4,show((i:Int) - 0).toNat=i by omega]at tkl tm;have h5:(S3++[SO.lst (c9 Tk)])[S3.length]?=some (SO.lst (c9 Tk)):=a8;have G4:=G3.push (o:=SO.lst (c9 Tk));generalize S3++[SO.lst (c9 Tk)]=S4 at *;generalize S3.length=l5 at *;refine⟨_,rfl,_,rfl,⟨by omega,by omega⟩,?_⟩;refine i4 (j7 hΔ _).2 (a5 hΔ _).1 (λj ys S5=>S5=S4/\ys=c4 ((VD j).filter λh=>!decide (h∈Tk))) ⟨rfl,rfl⟩ (λ_ _ _ _=>trivial) ?_ ?_
  ·rintro j x ys S5 hx ⟨rfl,rfl⟩;have jl:j<H:=by have:=(gM hx).1;rw[m4]at this;omega
   obtain⟨rfl,hj⟩:=p0 hx;rw[Wh]at hj ⊢;have fs:=CI (λh=>!decide (h∈Tk)) j;have fl:=Ai (λh=>!decide (h∈Tk)) j;refine⟨_,rfl,_,rfl,?_⟩;show match BC (.loc l5) S5 with | some ms=>_ | none=>_
   rw[AV h5];refine⟨rfl,_,a7 h5,HJ _,_,rfl,?_⟩;show if (!inS (.int (j:Nat)) (c9 Tk))=true then _ else _
   rw[Sv (by omega)];by_cases hm:j∈Tk
   ·rw[iG (by simpa using hm),Vt]at fs;exact ifF (by simpa using hm) ⟨rfl,by rw[fs]⟩
   ·rw[iP (by simpa using hm)]at fs;exact ifT (by simpa using hm) ⟨_,rfl,by rw[i6];show _<100000;omega,rfl,by rw[fs,u8];rfl⟩
  rintro ys S5 ⟨rfl,rfl⟩;rw[m4,show((H:Int) - 0).toNat=H by omega];have fL:=Ai (λh=>!decide (h∈Tk)) H
  have memF:∀ c∈(VD H).filter (λh=>!decide (h∈Tk)),c<H/\c∉Tk:=λc hc=>by
   rw[Vs,VW,VZ,decide_eq_false_iff_not]at hc;exact hc
  generalize (VD H).filter (λh=>!decide (h∈Tk))=Fr at *;have h6:(S5++[SO.lst (c4 Fr)])[S5.length]?=some (SO.lst (c4 Fr)):=a8;have G6:=G4.push (o:=SO.lst (c4 Fr));have s6:S5.length<(S5++[SO.lst (c4 Fr)]).length:=by rw[V8];simp
  show wSs Δ [wi3 kd] E [some (.loc t),some (g9 n es),some (.int (H:Nat)),some (.loc S.length),some (.int (i:Nat)),some (.loc l5),some (.loc S5.length)] (S5++[SO.lst (c4 Fr)]);have sl5:=G4.len;generalize S5++[SO.lst (c4 Fr)]=S6 at *;generalize S5.length=l6 at *;have l2t:S.length≠t:=by omega
  have l6t:l6≠t:=by have:=T2.lt;omega
  have put:∀(c:Nat) (S7:Sto) (o6:Option SV),TapeS S7 t->On t S6 S7->S6.length<=S7.length->S7[S.length]?=some (.lst (c9 cs))->(c<H\/c=1000+i)->(∀ t,t<i->Shr es t i->hu cs t≠c)->E.nx [some (.loc t),some (g9 n es),some (.int (H:Nat)),some (.loc S.length),some (.int (i:Nat)),some (.loc l5),o6] (S7.set S.length (.lst (c9 cs++[pS c]))):=by
   intro c S7 o6 T7 O7 L7 h7 hc no;refine hE _ _ ⟨_,_,_,cs++[c],rfl,T7.other l2t,by rw[Vp];have:=G6.len;omega,λk o kl ne h=>?_,by rw[k9 h7];unfold c9;rw[VM];rfl,by rw[V8,ci];rfl,P.snoc (by rw[ci];exact hc) λt' ht sh=>no t' (by omega) (ci▸sh)⟩;rw[A7 (by omega)];exact O7.keep _ _ ne (G6.keep _ _ (K2 k o kl ne h))
  have bare:∀ t,t<i->Shr es t i->hu cs t≠1000+i:=λt ht _ z=>by
   rcases P.cd t (by omega) with y | y<;>omega
  have non:pS (1000+i) = .non:=w6 (by omega);have h26:=G6.keep _ _ h2
  have app:∀(S7:Sto),TapeS S7 t->On t S6 S7->S6.length<=S7.length->wSs Δ [(.expr (.mt .append (.var 3) (.cons (.c .non) .nil)))] {E with nx:=wSs Δ [] E} [some (.loc t),some (g9 n es),some (.int (H:Nat)),some (.loc S.length),some (.int (i:Nat)),some (.loc l5),some (.loc l6)] S7:=λS7 T7 O7 L7=>by
   have h27:=O7.keep _ _ l2t h26;refine⟨_,rfl,⟨_,_,rfl,h27⟩,_,h27,by rw[p8];show _<100000;omega,?_⟩;have:=put (1000+i) S7 (some (.loc l6)) T7 O7 L7 h27 (.inr rfl) bare;rw[non]at this;exact this
  have T6:=G6.tape T2;refine⟨_,rfl,by show 0<=100000;decide,_,_,j5 h6,a8,.inr (.inr rfl),_,rfl,?_⟩;cases hF:Fr with
  | nil=>
    exact ifT rfl (app _ T6.push (On.refl _ _).push (by rw[V8];omega))
  | cons f fs=>
    rw[hF]at h6 fL memF;refine ifF rfl ⟨_,rfl,hd T6.push (by decide) (by decide) λr S7 r0 r1 T7 O7 sl7=>⟨_,rfl,?_⟩⟩;have O67:On t S6 S7:=(On.refl t S6).push.trans O7;have L67:S6.length<=S7.length:=O67.len;refine ifD (λz=>app S7 T7 O67 L67) (λz=>?_);have h67:=O67.keep _ _ l6t h6;refine⟨_,rfl,⟨_,_,rfl,O67.keep _ _ l2t h26⟩,_,rfl,_,rfl,_,rfl,_,a7 h67,hd T7 (by rw[i6,VY];omega) (by rw[i6];omega) λr S8 r0 r1 T8 O8 sl8=>?_⟩;rw[i6]at r1;obtain⟨j,rfl⟩:=Xh r0;have jl:j<(f::fs).length:=by omega
    have hj:=VB jl;have cm:=memF _ (W0 jl);generalize (f::fs)[j]=c at hj cm;have O68:=O67.trans O8;have h28:=O68.keep _ _ l2t h26;refine⟨_,_,a7 (O68.keep _ _ l6t h6),f8 (Gp hj),_,h28,by rw[p8];show _<100000;omega,?_⟩;have:=put c S8 (some (.loc l6)) T8 O68 O68.len h28 (.inl cm.1) λt' ht sh z=>cm.2 (z▸tm t' ht sh);rw[n0 (by omega)]at this;exact this
 ·rintro ρ S2 ⟨o4,o5,o6,cs,rfl,T2,l2,K2,h2,ci,P⟩;rw[e]at ci;exact⟨_,rfl,q S.length cs S2 T2 ⟨by omega,λk o ne h=>K2 k o (gM h).1 ne h⟩ (VF _) h2 (P.hg ci)⟩
end
theorem Il{n H t:Nat}{es:EE}{cs:List Nat}(tl:t<es.length):(HH es cs t H).length<=es.length+1:=by
 unfold HH;split
 ·exact WJ _
 obtain⟨e,he⟩:∃ e,es[t]?=some e:=⟨_,VB tl⟩
 have ge:es.getD t (0,0)=e:=by rw[VA,he];rfl
 obtain⟨I,M⟩:=FR (es:=es) (cs:=cs) (p:=e.1) (H:=H) (t0:=t) (es.length+1) [(t,none)] (FanI.one ⟨e,he,.inl rfl⟩) (by show es.length<1+(es.length+1);omega);have fl:=I.len;unfold Ao;rw[ge];generalize Bn es cs e.1 H (es.length+1) [(t,none)]=F at *;cases h1:t3 es cs e.1 H F with
 | some s=>exact Y7 (Bb (n:=n) (t0:=t) (cs:=cs) fl h1)
 | none=>
   dsimp only;cases h2:v3 es cs e.1 H F with
   | none=>exact WJ _
   | some x=>
     dsimp only;cases h3:t3 es (st3 es cs (.row x.2 ((frL es cs e.1 H).headD 0) x.1)) e.1 H F with
     | none=>show 1<=es.length+1;omega
     | some s=>exact X9 (Bb (n:=n) (t0:=t) (cs:=cs) fl h3)
theorem Sw{H:Nat}{es:EE}{cs ds:List Nat}(g:Hg H es cs)(hH:H<=1000)(hl:ds.length=es.length)(h:∀ u,u<es.length->hu ds u=hu cs u\/hu ds u=1000+u):Hg H es ds:=by
 refine⟨⟨hl,λt u y ht hu' q=>?_⟩,λu ul=>?_⟩
 ·have a1:=h t ht.lt;have a2:=h u hu'.lt;have b1:=g.cod t ht.lt;have b2:=g.cod u hu'.lt;by_cases e1:hu ds t=hu cs t
  ·by_cases e2:hu ds u=hu cs u
   ·exact g.P.one t u y ht hu' (by rw[<-e1,<-e2];exact q)
   ·have:hu ds u=1000+u:=by omega
    omega
  ·have:hu ds t=1000+t:=by omega
   omega
 ·rcases h u ul with z | z
  ·rw[z];exact g.cod u ul
  ·exact .inr z
theorem Em{l:List Nat}(nd:l.Nodup){j t:Nat}(h:l[j]?=some t)(x:Nat):x∈l.eraseIdx j↔x∈l/\x≠t:=by
 have hj:=(gM h).1
 have e:l=l.take j++t::l.drop (j+1):=by
  conv=>lhs;rw[<-X8 j l,WU hj,(gM h).2]
 rw[Wl];have nd':=nd;rw[e,WY]at nd';obtain⟨_,n2,n3⟩:=nd';obtain⟨n4,_⟩:=Vx.mp n2
 have hx:x∈l↔x∈l.take j\/x=t\/x∈l.drop (j+1):=by
  conv=>lhs;rw[e]
  rw[VU,VT]
 rw[hx,VU];constructor
 ·rintro(z | z)
  ·exact⟨.inl z,λy=>n3 x z t (VN ..) y⟩
  ·exact⟨.inr (.inr z),λy=>n4 (y▸z)⟩
 ·rintro⟨z | z | z,y⟩
  ·exact .inl z
  ·exact absurd z y
  ·exact .inr z
section
variable{Δ:Nat->Sn}
def fd1:Stm:=(.asg (.nm 5) (.comp ["_law_tie","_law_hue"] [] [] (.tup (.cons (.nm 0) (.cons (.nm 1) .nil))) (.enum (.var 4)) (.yes (.cmp .Is (.var 1) (.c .non))) (.var 0)))
def fdW(kd kh kg:Nat):List Stm:=[(.asg (.nm 6) (.mt .pop (.var 5) (.cons (.call kd (.cons (.var 0) (.cons (.bi .len (.cons (.var 5) .nil)) .nil))) .nil))),(.asg (.nm 4) (.call kg (.cons (.var 1) (.cons (.var 4) (.cons (.var 6) (.cons (.call kh (.cons (.var 1) (.cons (.bi .list (.cons (.var 4) .nil)) (.cons (.var 6) (.cons (.var 3) .nil))))) (.cons (.var 3) .nil))))))),(.iff (.cmp .Is (.var 4) (.c .non)) [(.ret (.c .non))] [])]
def K3(kd kh kg:Nat):List Stm:=[(.asg (.nm 4) (.bi .list (.cons (.var 2) .nil))),fd1,(.whl (.cmp .NotEq (.var 5) (.lst .nil)) (fdW kd kh kg)),(.ret (.var 4))]
def HL(s:Sn):Prop:=∀{t n H k m:Nat} {es:EE} {cs:List Nat} {S:Sto} {Q:QE},TapeS S t->S[k]?=some (.lst (c9 cs))->Hg H es cs->(∀ e∈es,e.1<e.2/\e.2<n)->n<=1000->es.length<=60->H<=1000->IsTh es m->t4 es n+m<=H->(∀(l:Nat) (ds:List Nat) (S':Sto),TapeS S' t->On t S S'->S.length<=l->S'[l]?=some (.lst (c9 ds))->Hg H es ds->(∀ u,u<es.length->hu ds u<H)->Q (.loc l) S')->s [.loc t,g9 n es,.loc k,.int (H:Nat)] S Q
theorem LR(hΔ:∀ f,MonoN (Δ f)){kd kh kg:Nat}(hd:AC (Δ kd))(hh:Ig (Δ kh))(hg:Ij (Δ kg)){D:Df}(hb:D.body=K3 kd kh kg)(hN:D.N.length=7)(hp:D.ps.length=4):HL (f6 Δ D):=by
 intro t n H k m es cs S Q T hk g hen nn el hH hm hmH q;have tl:=T.lt;have cl:=g.P.len;have hc:∀ y,y<n->p4 es y+m<=H:=λy hy=>by have:=CJ es hy;omega
 unfold f6;rw[hb,hN];refine⟨hp.symm,_,rfl,_,a7 hk,?_⟩;have h4:(S++[SO.lst (c9 cs)])[S.length]?=some (SO.lst (c9 cs)):=a8;refine⟨_,rfl,_,a7 h4,?_⟩;refine i4 (j7 hΔ _).2 (a5 hΔ _).1 (λj ys S2=>S2=S++[SO.lst (c9 cs)]/\ys=c4 ((VD j).filter λu=>!decide (hu cs u<1000))) ⟨rfl,rfl⟩ (λ_ _ _ z=>by rw[z.1];exact rfl) ?_ ?_
 ·rintro j x ys S2 hx ⟨rfl,rfl⟩;obtain⟨y,hy,rfl⟩:=B6 hx;obtain⟨c,hc',rfl⟩:=BA hy;have jl:=(gM hc').1;have hj:hu cs j=c:=by show cs.getD j 0=_;rw[VA,hc'];rfl
  have fs:=CI (λu=>!decide (hu cs u<1000)) j;have fl:=Ai (λu=>!decide (hu cs u<1000)) j;refine⟨_,rfl,.inl ⟨rfl,_,rfl,?_⟩⟩;show if y7 (pS c)=true then _ else _
  rw[C2,<-hj];by_cases z:hu cs j<1000
  ·rw[decide_eq_true z]at fs ⊢;rw[iG (by decide),Vt]at fs;exact ifF rfl ⟨rfl,by rw[fs]⟩
  ·rw[decide_eq_false z]at fs ⊢;rw[iP (by decide)]at fs;exact ifT rfl ⟨_,rfl,by rw[i6];show _<100000;omega,rfl,by rw[fs,u8];rfl⟩
 rintro ys S2 ⟨rfl,rfl⟩;rw[B7,p8];have h5:(S++[SO.lst (c9 cs)]++[SO.lst (c4 ((VD cs.length).filter λu=>!decide (hu cs u<1000)))])[(S++[SO.lst (c9 cs)]).length]?=some (SO.lst (c4 ((VD cs.length).filter λu=>!decide (hu cs u<1000)))):=a8;have h41:=j5 (o:=SO.lst (c4 ((VD cs.length).filter λu=>!decide (hu cs u<1000)))) h4;have O1:On t S (S++[SO.lst (c9 cs)]++[SO.lst (c4 ((VD cs.length).filter λu=>!decide (hu cs u<1000)))]):=(On.refl t S).push.push;have T1:=(T.push (o:=SO.lst (c9 cs))).push (o:=SO.lst (c4 ((VD cs.length).filter λu=>!decide (hu cs u<1000))));have e5:(S++[SO.lst (c9 cs)]).length=S.length+1:=by simp
 have nd:((VD cs.length).filter λu=>!decide (hu cs u<1000)).Nodup:=Ww.filter _
 have mem:∀ u,u<es.length->(¬ hu cs u<1000↔u∈(VD cs.length).filter λu=>!decide (hu cs u<1000)):=λu ul=>by
  rw[Vs,VW,VZ,decide_eq_false_iff_not];exact⟨λz=>⟨by omega,z⟩,λz=>z.2⟩
 have lt:∀ u∈(VD cs.length).filter λu=>!decide (hu cs u<1000),u<es.length:=λu hu'=>by
  have:=VW.mp (Vs.mp hu').1;omega
 show wSs Δ [(.whl (.cmp .NotEq (.var 5) (.lst .nil)) (fdW kd kh kg)),(.ret (.var 4))] (A6 Q) [some (.loc t),some (g9 n es),some (.loc k),some (.int (H:Nat)),some (.loc S.length),some (.loc (S++[SO.lst (c9 cs)]).length),none] (S++[SO.lst (c9 cs)]++[SO.lst (c4 ((VD cs.length).filter λu=>!decide (hu cs u<1000)))]);rw[e5]at h5 ⊢;generalize (VD cs.length).filter (λu=>!decide (hu cs u<1000))=B0 at *;have s1:(S++[SO.lst (c9 cs)]++[SO.lst (c4 B0)]).length=S.length+2:=by simp
 generalize S++[SO.lst (c9 cs)]++[SO.lst (c4 B0)]=S1 at *;refine⟨λr ρ S'=>∃(c:Nat) (ds B:List Nat) (o6:Option SV),ρ=[some (.loc t),some (g9 n es),some (.loc k),some (.int (H:Nat)),some (.loc c),some (.loc (S.length+1)),o6]/\TapeS S' t/\On t S S'/\S.length<=c/\c≠S.length+1/\S'[c]?=some (.lst (c9 ds))/\S'[S.length+1]?=some (.lst (c4 B))/\B.length=r/\B.Nodup/\(∀ u∈B,u<es.length)/\(∀ u,u<es.length->(¬ hu ds u<1000↔u∈B))/\Hg H es ds,⟨B0.length,S.length,cs,B0,none,rfl,T1,O1,VF _,by omega,h41,h5,rfl,nd,lt,mem,g⟩,?_⟩;rintro r ρ S' ⟨c,ds,B,o6,rfl,T',O',cS',cn,hc',hB,rfl,nd,lt,mem,g'⟩
 have Bl:B.length<=es.length:=by
  have:=List.Nodup.length_le_of_subset nd (l₂:=VD es.length) λu hu'=>VW.mpr (lt u hu')
  rwa [Vm]at this
 refine⟨_,rfl,by show 0<=100000;decide,_,_,j5 hB,a8,.inr (.inr rfl),_,rfl,?_⟩;have hB1:=j5 (o:=SO.lst []) hB;have hc1:=j5 (o:=SO.lst []) hc';have T2:=T'.push (o:=SO.lst []);have O2:=O'.push (o:=SO.lst []);generalize S'++[SO.lst []]=S2 at *;cases hBc:B with
 | nil=>
   rw[hBc]at mem;refine ifF rfl ⟨_,rfl,q c ds S2 T2 O2 cS' hc1 g' λu ul=>?_⟩;have:hu ds u<1000:=Classical.byContradiction λz=>by have:=(mem u ul).mp z;cases this
   rcases g'.cod u ul with y | y<;>omega
 | cons f fs=>
   rw[<-hBc];have Bp:0<B.length:=by rw[hBc];simp
   refine ifT (by rw[hBc];rfl) ?_;have tl2:=T2.lt;refine⟨_,rfl,⟨_,_,rfl,hB1⟩,_,rfl,_,rfl,_,a7 hB1,hd T2 (by rw[i6];omega) (by rw[i6];omega) λr S3 r0 r1 T3 O3 sl3=>?_⟩;rw[i6]at r1;obtain⟨j,rfl⟩:=Xh r0;have jl:j<B.length:=by omega
   have hj:=VB jl;have ut:=lt _ (W0 jl);have um:=W0 jl;generalize hu0:B[j]=u0 at *;have lt3:t≠S.length+1:=by omega
   have hB3:=O3.keep _ _ (by omega) hB1;have hc3:=O3.keep _ _ (by omega) hc1;refine⟨_,_,hB3,⟨X2 _,by rw[i6];omega⟩,by rw[i6];show _<=100000;omega,Gp hj,?_⟩;rw[show((j:Nat):Int).toNat=j from WX j];have eB:(c4 B).eraseIdx j=c4 (B.eraseIdx j):=by unfold c4;rw[Wl,Wl,VM,YX,YY]
   rw[eB];have hB4:(S3.set (S.length+1) (.lst (c4 (B.eraseIdx j))))[S.length+1]?=some (.lst (c4 (B.eraseIdx j))):=k9 hB3;have hc4:(S3.set (S.length+1) (.lst (c4 (B.eraseIdx j))))[c]?=some (.lst (c9 ds)):=by rw[A7 (Ne.symm cn)];exact hc3
   have T4:TapeS (S3.set (S.length+1) (.lst (c4 (B.eraseIdx j)))) t:=T3.other lt3.symm;have O4:On t S (S3.set (S.length+1) (.lst (c4 (B.eraseIdx j)))):=(O2.trans O3).new (by omega);show wSs Δ [(.asg (.nm 4) (.call kg (.cons (.var 1) (.cons (.var 4) (.cons (.var 6) (.cons (.call kh (.cons (.var 1) (.cons (.bi .list (.cons (.var 4) .nil)) (.cons (.var 6) (.cons (.var 3) .nil))))) (.cons (.var 3) .nil))))))),(.iff (.cmp .Is (.var 4) (.c .non)) [(.ret (.c .non))] [])] _ [some (.loc t),some (g9 n es),some (.loc k),some (.int (H:Nat)),some (.loc c),some (.loc (S.length+1)),some (.int (u0:Nat))] (S3.set (S.length+1) (.lst (c4 (B.eraseIdx j))));generalize S3.set (S.length+1) (.lst (c4 (B.eraseIdx j)))=S4 at *;have bare:¬ hu ds u0<1000:=(mem u0 ut).mpr um;obtain⟨ok,gt⟩:=LI hen hH g' ut bare hc hm.1;have ef:HH es ds u0 H=Ao es ds u0 H:=iG bare;have hl:=Il (n:=n) (H:=H) (cs:=ds) ut;have h55:(S4++[SO.lst (c9 ds)])[S4.length]?=some (SO.lst (c9 ds)):=a8;have G5:Gw S4 (S4++[SO.lst (c9 ds)]):=(Gw.refl S4).push;refine⟨_,rfl,_,rfl,_,rfl,_,rfl,_,rfl,_,a7 hc4,_,rfl,_,rfl,hh (Hv.loc h55) g' hen nn el hH ut hm hmH λl6 S6 G6 l6l h66=>⟨_,rfl,?_⟩⟩;have G46:=G5.trans G6;refine hg (Hv.loc (G46.keep _ _ hc4)) g' hen el hH h66 (by omega) (ef▸ok) (ef▸gt) ut λl7 S7 G7 l7l h77=>?_;have G47:=G46.trans G7;have g7:=OkR3.hg hen hH g' ok;rw[ef]at h77;have s4l:=(gM hB4).1;have s6l:=G46.len;refine⟨_,rfl,.inl ⟨rfl,_,rfl,ifF rfl (c8 ?_)⟩⟩;have sg:=O4.len;refine⟨(B.eraseIdx j).length,by rw[List.length_eraseIdx_of_lt jl];omega,l7,AY es ds (Ao es ds u0 H),B.eraseIdx j,_,rfl,G47.tape T4,O4.trans (Ud G47),by omega,by omega,h77,G47.keep _ _ hB4,rfl,nd.sublist (List.eraseIdx_sublist ..),λu hu'=>lt u ((Em nd hj u).mp hu').1,λu ul=>?_,g7⟩;rw[Em nd hj,<-mem u ul];by_cases e:u=u0
   ·rw[e];exact⟨λz=>absurd (by have:=gt.1;omega) z,λz=>absurd rfl z.2⟩
   ·have a1:=g'.cod u ul;have a2:=g7.cod u ul;have a3:=gt.2 u ul e;constructor
    ·intro z;exact⟨by omega,e⟩
    ·intro z;have:=z.1;omega
end
end Rf
namespace Hue
open PySem L2 Rf
def top(i:Nat):Stmt:=PySem.Challenge.pw_huedties_k22_all_ties_keep_hues.main.body.getD i (.Pass ⟨0,0,0,0⟩)
def b0:List Stm:=IU
def d0:Df:=⟨"is_number",top 9,["thing"],["thing"],b0⟩
def b1:List Stm:=Ue
def d1:Df:=⟨"is_listed",top 10,["thing"],["thing"],b1⟩
def b2:List Stm:=Ee 0
def d2:Df:=⟨"has_place",top 12,["web","place"],["web","place"],b2⟩
def b3:List Stm:=JY 0
def d3:Df:=⟨"has_tie",top 13,["web","tie"],["web","tie"],b3⟩
def b4:List Stm:=FK 2
def d4:Df:=⟨"check_place",top 14,["web","place"],["web","place"],b4⟩
def b5:List Stm:=FK 3
def d5:Df:=⟨"check_tie",top 15,["web","tie"],["web","tie"],b5⟩
def b6:List Stm:=JZ 4
def d6:Df:=⟨"ties_at",top 16,["web","place"],["web","place"],b6⟩
def b7:List Stm:=Qh
def d7:Df:=⟨"most_at",top 17,["web"],["web","counts","one","other"],b7⟩
def b8:List Stm:=Ni
def d8:Df:=⟨"thickest",top 18,["web"],["web","counts","ends"],b8⟩
def b9:List Stm:=Ju 7 8
def d9:Df:=⟨"enough",top 19,["web"],["web"],b9⟩
def b10:List Stm:=Ja 5
def d10:Df:=⟨"far_end",top 20,["web","tie","place"],["web","tie","place","one","other"],b10⟩
def b11:List Stm:=[(.ret (.and (.cmp .NotEq (.var 1) (.var 2)) (.bi .any (.cons (.comp ["place"] ["web","other"] [0,2] (.nm 0) (.seq (.ix (.ix (.var 0) (.c (.int 1))) (.var 1))) .no (.cmp .In (.var 0) (.ix (.ix (.var 1) (.c (.int 1))) (.var 2)))) .nil))))]
def d11:Df:=⟨"meets",top 21,["web","one","other"],["web","one","other"],b11⟩
def b12:List Stm:=Qk 0
def d12:Df:=⟨"is_hue",top 23,["thing"],["thing"],b12⟩
def b13:List Stm:=Jg 1 12 14
def d13:Df:=⟨"is_hueing",top 24,["web","thing"],["web","thing"],b13⟩
def b14:List Stm:=NQ
def d14:Df:=⟨"clash_of",top 25,["web","row"],["web","row","first","clashes","tie","ends","hue","place","earlier"],b14⟩
def b15:List Stm:=Jl 6
def d15:Df:=⟨"hues_at",top 26,["web","hueing","place"],["web","hueing","place"],b15⟩
def b16:List Stm:=NX 15
def d16:Df:=⟨"free_at",top 27,["web","hueing","place","hues"],["web","hueing","place","hues","taken"],b16⟩
def b17:List Stm:=Ql 6
def d17:Df:=⟨"tie_of_hue",top 29,["web","hueing","place","hue"],["web","hueing","place","hue","tie"],b17⟩
def b18:List Stm:=Ji
def d18:Df:=⟨"check_unlike",top 30,["one","other"],["one","other"],b18⟩
def b19:List Stm:=Qm 4 18 17 10
def d19:Df:=⟨"row_from",top 31,["web","hueing","place","one","other"],["web","hueing","place","one","other","row","tie"],b19⟩
def b20:List Stm:=Qn 18 3 13
def d20:Df:=⟨"exchanged",top 32,["web","hueing","ties","one","other"],["web","hueing","ties","one","other","changed","tie"],b20⟩
def b21:List Stm:=[(.ret (.and (.call 3 (.cons (.var 0) (.cons (.var 2) .nil))) (.cmp .IsNot (.ix (.var 1) (.var 2)) (.c .non))))]
def d21:Df:=⟨"tie_has_hue",top 34,["web","hueing","tie"],["web","hueing","tie"],b21⟩
def b22:List Stm:=[(.ret (.and (.call 3 (.cons (.var 0) (.cons (.var 2) .nil))) (.cmp .Is (.ix (.var 1) (.var 2)) (.c .non))))]
def d22:Df:=⟨"tie_lacks_hue",top 35,["web","hueing","tie"],["web","hueing","tie"],b22⟩
def b23:List Stm:=[(.asg (.nm 3) (.bi .list (.cons (.var 1) .nil))),(.loop (.tup (.cons (.nm 4) (.cons (.nm 5) .nil))) (.seq (.var 2)) [(.put (.var 3) (.var 4) (.var 5))]),(.ret (.ife (.call 13 (.cons (.var 0) (.cons (.var 3) .nil))) (.var 3) (.c .non)))]
def d23:Df:=⟨"with_hues",top 36,["web","hueing","given"],["web","hueing","given","changed","tie","hue"],b23⟩
def b24:List Stm:=[(.iff (.or (.not (.call 22 (.cons (.var 0) (.cons (.var 1) (.cons (.var 2) .nil))))) (.not (.call 12 (.cons (.var 3) .nil)))) [(.ret (.c .non))] []),(.ret (.call 23 (.cons (.var 0) (.cons (.var 1) (.cons (.lst (.cons (.tup (.cons (.var 2) (.cons (.var 3) .nil))) .nil)) .nil)))))]
def d24:Df:=⟨"after_hue",top 37,["web","hueing","tie","hue"],["web","hueing","tie","hue"],b24⟩
def b25:List Stm:=[(.iff (.not (.call 21 (.cons (.var 0) (.cons (.var 1) (.cons (.var 2) .nil))))) [(.ret (.c .non))] []),(.ret (.call 23 (.cons (.var 0) (.cons (.var 1) (.cons (.lst (.cons (.tup (.cons (.var 2) (.cons (.c .non) .nil))) .nil)) .nil)))))]
def d25:Df:=⟨"after_drop",top 38,["web","hueing","tie"],["web","hueing","tie"],b25⟩
def b26:List Stm:=[(.iff (.or (.not (.call 21 (.cons (.var 0) (.cons (.var 1) (.cons (.var 2) .nil))))) (.not (.call 22 (.cons (.var 0) (.cons (.var 1) (.cons (.var 3) .nil)))))) [(.ret (.c .non))] []),(.iff (.not (.call 11 (.cons (.var 0) (.cons (.var 2) (.cons (.var 3) .nil))))) [(.ret (.c .non))] []),(.ret (.call 23 (.cons (.var 0) (.cons (.var 1) (.cons (.lst (.cons (.tup (.cons (.var 2) (.cons (.c .non) .nil))) (.cons (.tup (.cons (.var 3) (.cons (.ix (.var 1) (.var 2)) .nil))) .nil))) .nil)))))]
def d26:Df:=⟨"after_move",top 39,["web","hueing","tie","other"],["web","hueing","tie","other"],b26⟩
def b27:List Stm:=Qo 12 19 20
def d27:Df:=⟨"after_row",top 40,["web","hueing","place","one","other"],["web","hueing","place","one","other"],b27⟩
noncomputable def b28:List Stm:=NS 24 25 26 27
noncomputable def d28:Df:=⟨"after_step",top 41,["web","hueing","step"],["web","hueing","step","word"],b28⟩
def b29:List Stm:=Qp 28
def d29:Df:=⟨"done_step",top 42,["web","hueing","step"],["web","hueing","step","changed"],b29⟩
def b30:List Stm:=Qw
def d30:Df:=⟨"next_of_fan",top 44,["hueing","fan","around","free"],["hueing","fan","around","free","there","tie","back","hues"],b30⟩
def b31:List Stm:=Nl 10 6 16 30
def d31:Df:=⟨"fan_of",top 45,["web","hueing","tie","place","hues"],["web","hueing","tie","place","hues","around","fan","free","pair","far"],b31⟩
def b32:List Stm:=HD
def d32:Df:=⟨"turning",top 46,["fan","at","hue"],["fan","at","hue","way","back","steps"],b32⟩
def b33:List Stm:=Jv 16 10 32
def d33:Df:=⟨"turned",top 47,["web","hueing","fan","place","hues"],["web","hueing","fan","place","hues","own","at","tie","back","free","shared"],b33⟩
def b34:List Stm:=Jw 10 16
def d34:Df:=⟨"shared_hue",top 48,["web","hueing","fan","place","hues"],["web","hueing","fan","place","hues","owner","tie","back","far","hue"],b34⟩
def b35:List Stm:=HG 34 16
def d35:Df:=⟨"freeing_row",top 49,["web","hueing","fan","place","hues"],["web","hueing","fan","place","hues","hue","first","own"],b35⟩
def b36:List Stm:=Jx 31 33 35 29
def d36:Df:=⟨"steps_to_hue",top 50,["web","hueing","tie","hues"],["web","hueing","tie","hues","place","fan","steps","row"],b36⟩
def b37:List Stm:=Qu 9
def d37:Df:=⟨"check_enough",top 51,["web","hues"],["web","hues"],b37⟩
def b38:List Stm:=Jy 5 37 36
def d38:Df:=⟨"hued_in",top 52,["web","hueing","tie","hues"],["web","hueing","tie","hues"],b38⟩
def b39:List Stm:=Qc
def d39:Df:=⟨"_law_tape",top 54,["_law_script","_law_k"],["_law_script","_law_k","_law_cell","_law_digits"],b39⟩
noncomputable def b40:List Stm:=Qd
noncomputable def d40:Df:=⟨"_law_draw",top 55,["_law_tape_here","_law_many"],["_law_tape_here","_law_many","_law_found","_law_once"],b40⟩
def b41:List Stm:=NG 40
def d41:Df:=⟨"_law_pairs_by",top 56,["_law_tape_here","_law_great"],["_law_tape_here","_law_great","_law_way","_law_many","_law_found","_law_turn","_law_one","_law_k","_law_sides"],b41⟩
def b42:List Stm:=Uc 40 41
def d42:Df:=⟨"_law_web",top 57,["_law_tape_here","_law_great"],["_law_tape_here","_law_great","_law_many","_law_pairs","_law_ties","_law_one","_law_other"],b42⟩
def b43:List Stm:=Qi
def d43:Df:=⟨"_law_meet",top 58,["_law_web_here","_law_one","_law_other"],["_law_web_here","_law_one","_law_other"],b43⟩
def b44:List Stm:=Jd
def d44:Df:=⟨"_law_count",top 59,["_law_web_here","_law_place"],["_law_web_here","_law_place"],b44⟩
def b45:List Stm:=Jz "_law_web_here" 44
def d45:Df:=⟨"_law_most",top 60,["_law_web_here"],["_law_web_here"],b45⟩
def b46:List Stm:=K0
def d46:Df:=⟨"_law_thickest",top 61,["_law_web_here"],["_law_web_here"],b46⟩
def b47:List Stm:=Gv 43
def d47:Df:=⟨"_law_is_hueing",top 62,["_law_web_here","_law_row_here"],["_law_web_here","_law_row_here","_law_tie","_law_hue","_law_k"],b47⟩
def b48:List Stm:=Nr
def d48:Df:=⟨"_law_row",top 63,["_law_web_here","_law_hueing","_law_place","_law_one","_law_other"],["_law_web_here","_law_hueing","_law_place","_law_one","_law_other","_law_found","_law_due","_law_turn","_law_here"],b48⟩
def b49:List Stm:=Nv
def d49:Df:=⟨"_law_hues",top 64,["_law_web_here","_law_hueing","_law_place"],["_law_web_here","_law_hueing","_law_place"],b49⟩
noncomputable def b50:List Stm:=HI 48 49 43 47
noncomputable def d50:Df:=⟨"_law_stepped",top 65,["_law_web_here","_law_hueing","_law_step"],["_law_web_here","_law_hueing","_law_step","_law_made","_law_many","_law_place","_law_one","_law_other","_law_tie"],b50⟩
def b51:List Stm:=HK 40 43
def d51:Df:=⟨"_law_within",top 66,["_law_tape_here","_law_web_here","_law_hues_here"],["_law_tape_here","_law_web_here","_law_hues_here","_law_found","_law_tie","_law_taken","_law_free"],b51⟩
def b52:List Stm:=Ny 50
def d52:Df:=⟨"_law_walked",top 67,["_law_web_here","_law_hueing","_law_steps","_law_hues_here"],["_law_web_here","_law_hueing","_law_steps","_law_hues_here","_law_here","_law_step"],b52⟩
def b53:List Stm:=Qy 52
def d53:Df:=⟨"_law_got",top 68,["_law_web_here","_law_hueing","_law_tie","_law_steps","_law_hues_here"],["_law_web_here","_law_hueing","_law_tie","_law_steps","_law_hues_here","_law_here","_law_other","_law_hue"],b53⟩
def b54:List Stm:=K3 40 38 53
def d54:Df:=⟨"_law_filled",top 69,["_law_tape_here","_law_web_here","_law_hueing","_law_hues_here"],["_law_tape_here","_law_web_here","_law_hueing","_law_hues_here","_law_here","_law_bare","_law_tie"],b54⟩
noncomputable def b55:List Stm:=[(.loop (.nm 1) (.rng1 (.op .Add (.c (.int 1)) (.bi .min (.cons (.c (.int 3)) (.cons (.bi .len (.cons (.var 0) .nil)) .nil))))) [(.asg (.nm 2) (.call 39 (.cons (.var 0) (.cons (.var 1) .nil)))),(.asg (.nm 3) (.call 42 (.cons (.var 2) (.cons (.cmp .Eq (.call 40 (.cons (.var 2) (.cons (.c (.int 4)) .nil))) (.c (.int 0))) .nil)))),(.asg (.nm 4) (.op .Add (.call 45 (.cons (.var 3) .nil)) (.call 46 (.cons (.var 3) .nil)))),(.asg (.nm 5) (.call 54 (.cons (.var 2) (.cons (.var 3) (.cons (.call 51 (.cons (.var 2) (.cons (.var 3) (.cons (.var 4) .nil)))) (.cons (.var 4) .nil)))))),(.iff (.or (.cmp .Is (.var 5) (.c .non)) (.cmp .In (.c .non) (.var 5))) [(.ret (.c (.bl false)))] []),(.iff (.cmp .Eq (.call 40 (.cons (.var 2) (.cons (.c (.int 2)) .nil))) (.c (.int 0))) [(.asg (.nm 6) (.comp ["_law_hue"] ["_law_tape_here"] [2] (.nm 0) (.seq (.var 5)) .no (.ife (.cmp .Eq (.call 40 (.cons (.var 1) (.cons (.c (.int 3)) .nil))) (.c (.int 0))) (.c .non) (.var 0)))),(.asg (.nm 5) (.call 54 (.cons (.var 2) (.cons (.var 3) (.cons (.var 6) (.cons (.var 4) .nil)))))),(.iff (.or (.cmp .Is (.var 5) (.c .non)) (.cmp .In (.c .non) (.var 5))) [(.ret (.c (.bl false)))] [])] [])]),(.ret (.c (.bl true)))]
noncomputable def d55:Df:=⟨"law",top 70,["_law_script"],["_law_script","_law_k","_law_tape_here","_law_web_here","_law_hues_here","_law_here","_law_some"],b55⟩
noncomputable def prog:List Df:=[d0,d1,d2,d3,d4,d5,d6,d7,d8,d9,d10,d11,d12,d13,d14,d15,d16,d17,d18,d19,d20,d21,d22,d23,d24,d25,d26,d27,d28,d29,d30,d31,d32,d33,d34,d35,d36,d37,d38,d39,d40,d41,d42,d43,d44,d45,d46,d47,d48,d49,d50,d51,d52,d53,d54,d55]
theorem HM:prog.all (Pj (prog.map (·.name)))=true:=by decide +kernel
theorem hW(d:Nat):∀ f,MonoN (W prog d f):=Db d
theorem s0(d:Nat):D4 (W prog (d+1) 0):=NI (Δ:=W prog d) (D:=d0) rfl rfl rfl
theorem g0(d:Nat):Sg (W prog (d+1) 0):=Pp (Δ:=W prog d) (D:=d0) rfl rfl rfl
theorem s1(d:Nat):Sh (W prog (d+1) 1):=Pr (Δ:=W prog d) (D:=d1) rfl rfl rfl
theorem s2(d:Nat):C1 (W prog (d+2) 2):=Gm (Δ:=W prog (d+1)) (D:=d2) (s0 d) rfl rfl rfl
theorem s3(d:Nat):CG (W prog (d+2) 3):=L0 (Δ:=W prog (d+1)) (D:=d3) (s0 d) rfl rfl rfl
theorem s4(d:Nat):AM (W prog (d+3) 4):=E9 (Δ:=W prog (d+2)) (D:=d4) (s2 d) rfl rfl rfl
theorem s5(d:Nat):B5 (W prog (d+3) 5):=Gn (Δ:=W prog (d+2)) (D:=d5) (s3 d) rfl rfl rfl
theorem s6(d:Nat):BX (W prog (d+4) 6):=L1 (Δ:=W prog (d+3)) (D:=d6) (hW _) (s4 d) rfl rfl rfl
theorem s7(d:Nat):IV (W prog (d+1) 7):=Po (Δ:=W prog d) (D:=d7) (hW _) rfl rfl rfl
theorem s8(d:Nat):CN (W prog (d+1) 8):=Nj (Δ:=W prog d) (D:=d8) (hW _) rfl rfl rfl
theorem s9(d:Nat):Dq (W prog (d+2) 9):=LK (Δ:=W prog (d+1)) (D:=d9) (s7 d) (s8 d) rfl rfl rfl
theorem s10(d:Nat):Aw (W prog (d+4) 10):=L5 (Δ:=W prog (d+3)) (D:=d10) (s5 d) rfl rfl rfl
theorem s12(d:Nat):Ps (W prog (d+2) 12):=Pt (Δ:=W prog (d+1)) (D:=d12) (g0 d) rfl rfl rfl
theorem s14(d:Nat):IW (W prog (d+1) 14):=L9 (Δ:=W prog d) (D:=d14) (hW _) rfl rfl rfl
theorem s13(d:Nat):B9 (W prog (d+3) 13):=IY (Δ:=W prog (d+2)) (D:=d13) (hW _) (s1 (d+1)) (s12 d) (s14 (d+1)) rfl rfl rfl
theorem s15(d:Nat):Ci (W prog (d+5) 15):=Ia (Δ:=W prog (d+4)) (D:=d15) (hW _) (s6 d) rfl rfl rfl
theorem s16(d:Nat):Bj (W prog (d+6) 16):=Na (Δ:=W prog (d+5)) (D:=d16) (hW _) (s15 d) rfl rfl rfl
theorem s17(d:Nat):FO (W prog (d+5) 17):=NY (Δ:=W prog (d+4)) (D:=d17) (hW _) (s6 d) rfl rfl rfl
theorem s18(d:Nat):CK (W prog (d+1) 18):=LA (Δ:=W prog d) (D:=d18) rfl rfl rfl
theorem s19(d:Nat):Ch (W prog (d+6) 19):=Px (Δ:=W prog (d+5)) (D:=d19) (hW _) (s4 (d+2)) (s18 (d+4)) (s17 d) (s10 (d+1)) rfl rfl rfl
theorem s20(d:Nat):FP (W prog (d+4) 20):=NZ (Δ:=W prog (d+3)) (D:=d20) (hW _) (s18 (d+2)) (s3 (d+1)) (s13 d) rfl rfl rfl
theorem s27(d:Nat):AN (W prog (d+7) 27) λp a b=>[.int (p:Nat),.int (a:Nat),.int (b:Nat)]:=Ng (Δ:=W prog (d+6)) (D:=d27) (s12 (d+4)) (s19 d) (s20 (d+2)) rfl rfl rfl
theorem s28(d:Nat):AN (W prog (d+8) 28) λp a b=>[w9 (.row p a b)]:=LJ (Δ:=W prog (d+7)) (D:=d28) (s27 d) rfl rfl rfl
theorem s29(d:Nat):AN (W prog (d+9) 29) λp a b=>[w9 (.row p a b)]:=Nh (Δ:=W prog (d+8)) (D:=d29) (s28 d) rfl rfl rfl
theorem s30(d:Nat):Ic (W prog (d+1) 30):=Q5 (Δ:=W prog d) (D:=d30) (hW _) rfl rfl rfl
theorem s31(d:Nat):Nm (W prog (d+7) 31):=Ss (Δ:=W prog (d+6)) (D:=d31) (hW _) (s10 (d+2)) (s6 (d+2)) (s16 d) (s30 (d+5)) rfl rfl rfl
theorem s32(d:Nat):Ck (W prog (d+1) 32):=Id (Δ:=W prog d) (D:=d32) (hW _) rfl rfl rfl
theorem s33(d:Nat):Dr (W prog (d+7) 33):=LM (Δ:=W prog (d+6)) (D:=d33) (hW _) (s16 d) (s10 (d+2)) (s32 (d+5)) rfl rfl rfl
theorem s34(d:Nat):Ds (W prog (d+7) 34):=LN (Δ:=W prog (d+6)) (D:=d34) (hW _) (s10 (d+2)) (s16 d) rfl rfl rfl
theorem s35(d:Nat):Cl (W prog (d+8) 35):=Ie (Δ:=W prog (d+7)) (D:=d35) (s34 d) (s16 (d+1)) rfl rfl rfl
theorem s36(d:Nat):Dt (W prog (d+10) 36):=LO (Δ:=W prog (d+9)) (D:=d36) (s31 (d+2)) (s33 (d+2)) (s35 (d+1)) (s29 d) rfl rfl rfl
theorem s37(d:Nat):Ib (W prog (d+3) 37):=Q4 (Δ:=W prog (d+2)) (D:=d37) (s9 d) rfl rfl rfl
theorem s38(d:Nat):Ig (W prog (d+11) 38):=Q8 (Δ:=W prog (d+10)) (D:=d38) (s5 (d+7)) (s37 (d+7)) (s36 d) rfl rfl rfl
theorem s39(d:Nat):NF (W prog (d+1) 39):=Pl (Δ:=W prog d) (D:=d39) rfl rfl rfl
theorem s40(d:Nat):AC (W prog (d+1) 40):=Pk (Δ:=W prog d) (D:=d40) rfl rfl rfl
theorem s41(d:Nat):FI (W prog (d+2) 41):=NH (Δ:=W prog (d+1)) (D:=d41) (hW _) (s40 d) rfl rfl rfl
theorem s42(d:Nat):Qf (W prog (d+3) 42):=Sd (Δ:=W prog (d+2)) (D:=d42) (hW _) (s40 (d+1)) (s41 d) rfl rfl rfl
theorem s43(d:Nat):Eg (W prog (d+1) 43):=NP (Δ:=W prog d) (D:=d43) rfl rfl rfl
theorem s44(d:Nat):Di (W prog (d+1) 44):=L6 (Δ:=W prog d) (D:=d44) (hW _) rfl rfl rfl
theorem s45(d:Nat):Je (W prog (d+2) 45):=LP (Δ:=W prog (d+1)) (D:=d45) (hW _) (s44 d) rfl rfl rfl
theorem s46(d:Nat):CN (W prog (d+1) 46):=LQ (Δ:=W prog d) (D:=d46) (hW _) rfl rfl rfl
theorem s47(d:Nat):B9 (W prog (d+2) 47):=IZ (Δ:=W prog (d+1)) (D:=d47) (hW _) (s43 d) rfl rfl rfl
theorem s48(d:Nat):Ch (W prog (d+1) 48):=Nu (Δ:=W prog d) (D:=d48) (hW _) rfl rfl rfl
theorem s49(d:Nat):FT (W prog (d+1) 49):=Nw (Δ:=W prog d) (D:=d49) (hW _) rfl rfl rfl
theorem s50(d:Nat):Nx (W prog (d+3) 50):=Ii (Δ:=W prog (d+2)) (D:=d50) (hW _) (s48 (d+1)) (s49 (d+1)) (s43 (d+1)) (s47 d) rfl rfl rfl
theorem s51(d:Nat):El (W prog (d+2) 51):=Ik (Δ:=W prog (d+1)) (D:=d51) (hW _) (s40 d) (s43 d) rfl rfl rfl
theorem s52(d:Nat):FU (W prog (d+4) 52):=Nz (Δ:=W prog (d+3)) (D:=d52) (hW _) (s50 d) rfl rfl rfl
theorem s53(d:Nat):Ij (W prog (d+5) 53):=Q9 (Δ:=W prog (d+4)) (D:=d53) (hW _) (s52 d) rfl rfl rfl
theorem s54(d:Nat):HL (W prog (d+12) 54):=LR (Δ:=W prog (d+11)) (D:=d54) (hW _) (s40 (d+10)) (s38 d) (s53 (d+6)) rfl rfl rfl
theorem HN{n:Nat}{es:EE}(h:es.length<=60):t4 es n<=es.length:=by
 rcases Dg es n with z | ⟨p,_,z⟩
 ·omega
 ·have:p4 es p=(f9 es p es.length).length:=rfl;have:=De es p es.length;omega
theorem Sx{es:EE}{H:Nat}{ds:List Nat}(hH:H<=1000)(hl:ds.length=es.length)(h:∀ u,u<es.length->hu ds u<H):inS .non (c9 ds)=false:=by
 unfold inS;rw[XR];intro x hx z;obtain⟨i,hi⟩:=WK hx;obtain⟨c,hc,rfl⟩:=BA hi;have il:=(gM hc).1;have e:hu ds i=c:=by show ds.getD i 0=_;rw[VA,hc];rfl
 have:=h i (by omega);rw[n0 (by omega)]at z;cases z
def chk:Stm:=(.iff (.or (.cmp .Is (.var 5) (.c .non)) (.cmp .In (.c .non) (.var 5))) [(.ret (.c (.bl false)))] [])
def two:Stm:=(.iff (.cmp .Eq (.call 40 (.cons (.var 2) (.cons (.c (.int 2)) .nil))) (.c (.int 0))) [(.asg (.nm 6) (.comp ["_law_hue"] ["_law_tape_here"] [2] (.nm 0) (.seq (.var 5)) .no (.ife (.cmp .Eq (.call 40 (.cons (.var 1) (.cons (.c (.int 3)) .nil))) (.c (.int 0))) (.c .non) (.var 0)))),(.asg (.nm 5) (.call 54 (.cons (.var 2) (.cons (.var 3) (.cons (.var 6) (.cons (.var 4) .nil)))))),chk] [])
theorem O0{E:EndsS}{st:List Stm}{n H l:Nat}{es:EE}{ds:List Nat}{S:Sto}{o0 o1 o2 o4 o6:Option SV}(hH:H<=1000)(hl:ds.length=es.length)(h:∀ u,u<es.length->hu ds u<H)(h5:S[l]?=some (.lst (c9 ds)))(q:wSs (W prog 12) st E [o0,o1,o2,some (g9 n es),o4,some (.loc l),o6] S):wSs (W prog 12) (chk::st) E [o0,o1,o2,some (g9 n es),o4,some (.loc l),o6] S:=by
 refine⟨_,rfl,.inl ⟨rfl,_,rfl,ifF rfl ⟨_,rfl,?_⟩⟩⟩;show match BC (.loc l) S with | some ms=>_ | none=>_
 rw[AV h5];refine⟨rfl,_,a7 h5,HJ _,_,rfl,?_⟩;show if inS .non (c9 ds)=true then _ else _
 rw[Sx hH hl h];exact ifF rfl (c8 q)
theorem Sy{E:EndsS}{n H l t m:Nat}{es:EE}{ds:List Nat}{S:Sto}{o0 o1 o6:Option SV}(T:TapeS S t)(g:Hg H es ds)(hen:∀ e∈es,e.1<e.2/\e.2<n)(nn:n<=12)(el:es.length<=39)(hH:H<=1000)(hm:IsTh es m)(hmH:t4 es n+m<=H)(lt:l≠t)(h5:S[l]?=some (.lst (c9 ds)))(q:∀(S':Sto) (o5 o6:Option SV),E.nx [o0,o1,some (.loc t),some (g9 n es),some (.int (H:Nat)),o5,o6] S'):wSs (W prog 12) [two] E [o0,o1,some (.loc t),some (g9 n es),some (.int (H:Nat)),some (.loc l),o6] S:=by
 have dl:=g.P.len;refine⟨_,rfl,s40 11 T (by decide) (by decide) λr S1 r0 r1 T1 O1 _=>⟨_,rfl,ifD (λz=>?_) (λz=>c8 (q _ _ _))⟩⟩;have h51:=O1.keep _ _ lt h5;refine⟨_,rfl,_,a7 h51,?_⟩;refine i4 (j7 (hW _) _).2 (a5 (hW _) _).1 (λj ys S2=>TapeS S2 t/\On t S1 S2/\∃ P:List Nat,ys=c9 P/\P.length=j/\∀ u,u<j->hu P u=hu ds u\/hu P u=1000+u) ⟨T1,On.refl _ _,[],rfl,rfl,λu hu'=>by omega⟩ (λ_ _ S2 z=>by show S2[l]?=S1[l]?;rw[h51];exact z.2.1.keep _ _ lt h51) ?_ ?_
 ·rintro j x ys S2 hx ⟨T2,O2,P,rfl,pl,pu⟩;obtain⟨c,hc,rfl⟩:=BA hx;have jl:=(gM hc).1;have hj:hu ds j=c:=by show ds.getD j 0=_;rw[VA,hc];rfl
  have ln:(c9 P).length<big:=by rw[p8];show _<100000;omega
  have fin:∀ c',(c'=hu ds j\/c'=1000+j)->∃ P':List Nat,c9 P++[pS c']=c9 P'/\P'.length=j+1/\∀ u,u<j+1->hu P' u=hu ds u\/hu P' u=1000+u:=λc' hc'=>by
   refine⟨P++[c'],by unfold c9;rw[VM];rfl,by rw[V8,pl];rfl,λu hu'=>?_⟩;by_cases e:u=j
   ·rw[e,<-pl,FM,pl];exact hc'
   ·rw[Dk (by omega)];exact pu u (by omega)
  refine⟨_,rfl,s40 11 T2 (by decide) (by decide) λr S3 r0 r1 T3 O3 _=>⟨_,rfl,ifD (λz=>?_) (λz=>?_)⟩⟩
  ·have:=fin (1000+j) (.inr rfl);rw[w6 (by omega)]at this;exact⟨ln,T3,O2.trans O3,this⟩
  ·exact⟨_,rfl,ln,T3,O2.trans O3,fin c (.inl hj.symm)⟩
 rintro ys S2 ⟨T2,O2,P,rfl,pl,pu⟩;rw[p8]at pl pu;have gP:Hg H es P:=Sw g hH (by omega) λu ul=>pu u (by omega);refine⟨_,rfl,_,rfl,_,rfl,_,rfl,s54 0 T2.push a8 gP hen (by omega) (by omega) hH hm hmH λl2 ds2 S3 T3 O3 _ h3 g3 all=>?_⟩;exact O0 hH g3.P.len all h3 (c8 (q _ _ _))
theorem law_main(ns:List Int)(h:ns.length<=63):W prog 13 55 [.ro (ns.map SV.int)] [] λx _=>x = .bl true:=by
 show f6 (W prog 12) d55 _ _ _
 have hj:∃ m:Nat,1+(if ((ns.map SV.int).length:Int)<(3:Int) then ((ns.map SV.int).length:Int) else 3)=(m:Int)/\m<=10:=by
  rw[V7];generalize ns.length=k;refine⟨1+min k 3,?_,by omega⟩;split<;>omega
 obtain⟨m,hm,hm4⟩:=hj;refine⟨rfl,_,rfl,_,rfl,m,congrArg SV.int hm,⟨by omega,by omega⟩,?_⟩;refine t9 (i7 (hW _) _) (λi ρ S'=>∃ o1 o2 o3 o4 o5 o6,ρ=[some (.ro (ns.map SV.int)),o1,o2,o3,o4,o5,o6]) ⟨none,none,none,none,none,none,rfl⟩ (λ_ _ _ _=>trivial) ?_ ?_
 ·rintro i x ρ S E hE hR hx ⟨o1,o2,o3,o4,o5,o6,rfl⟩;obtain⟨rfl,hi⟩:=p0 hx;rw[Wh]at hi ⊢;refine⟨_,rfl,_,rfl,s39 11 h (by omega) λa b ha hb hb2=>?_⟩;have T1:TapeS (S++[SO.lst [.int a,.int b]]) S.length:=⟨a,b,a8,ha,hb,hb2⟩
  refine⟨_,rfl,_,rfl,s40 11 T1 (by decide) (by decide) λr S2 r0 r1 T2 O2 _=>?_⟩;refine s42 9 T2 λn es S3 Wb T3 O3=>?_;have el:=Wb.len;have nn:=Wb.few;have hen:=Wb.en;refine⟨_,rfl,s45 10 (by omega) (by omega) λS4 G4=>⟨_,rfl,s46 11 (by omega) λth S5 hth G5=>?_⟩⟩;have T5:=(G4.trans G5).tape T3;have ml:=HN (n:=n) (show es.length<=60 by omega);have thl:=Q0 hth
  have fin:∀ z:Int,z=((t4 es n+th:Nat):Int)->wSs (W prog 12) [(.asg (.nm 5) (.call 54 (.cons (.var 2) (.cons (.var 3) (.cons (.call 51 (.cons (.var 2) (.cons (.var 3) (.cons (.var 4) .nil)))) (.cons (.var 4) .nil)))))),chk,two] E [some (.ro (ns.map SV.int)),some (.int (i:Nat)),some (.loc S.length),some (g9 n es),some (.int z),o5,o6] S5:=by
   rintro _ rfl;generalize hHe:t4 es n+th=H at *;refine⟨_,rfl,_,rfl,_,rfl,_,rfl,_,rfl,s51 10 T5 (by omega) (by omega) λl cs S7 T7 O7 l7 h7 g=>⟨_,rfl,?_⟩⟩;refine s54 0 T7 h7 g hen (by omega) (by omega) (by omega) hth (by omega) λl2 ds S8 T8 O8 l8 h8 g8 all=>?_;have tl:=T7.lt;refine O0 (show H<=1000 by omega) g8.P.len all h8 ?_;exact Sy T8 g8 hen nn el (by omega) hth (by omega) (by omega) h8 λS' o5 o6=>hE _ _ ⟨_,_,_,_,_,_,rfl⟩
  have e4:(t4 es n:Int)+(th:Int)=((t4 es n+th:Nat):Int):=by omega
  exact fin _ e4
 ·rintro ρ S ⟨o1,o2,o3,o4,o5,o6,rfl⟩;exact rfl
end Hue
namespace PySem.W.Fast
theorem tw12515042530651747065:True:=⟨⟩
theorem tw14022505812835111083:True:=⟨⟩
theorem tw13305862334478486699:True:=⟨⟩
theorem tw3898587266671314678:True:=⟨⟩
theorem tw3172971663893999727:True:=⟨⟩
theorem tw3737435966692942886:True:=⟨⟩
theorem tw6572769581746621179:True:=⟨⟩
theorem tw18303405694204312184:True:=⟨⟩
theorem tw17166642467902881549:True:=⟨⟩
theorem tw8381449937873405712:True:=⟨⟩
theorem tw7400441351335256147:True:=⟨⟩
theorem tw13387673816280869681:True:=⟨⟩
theorem tw14865426701366883869:True:=⟨⟩
theorem tw7342826440814805511:True:=⟨⟩
theorem tw446118336018050675:True:=⟨⟩
theorem tw18279229062011652015:True:=⟨⟩
theorem tw7817721899044123894:True:=⟨⟩
theorem tw15338420805763971093:True:=⟨⟩
theorem tw3980684907341322621:True:=⟨⟩
theorem tw6738893565360383425:True:=⟨⟩
theorem tw9197804668544125247:True:=⟨⟩
theorem tw3309838592126041570:True:=⟨⟩
theorem tw7190914254356600523:True:=⟨⟩
theorem tw10680104502476890414:True:=⟨⟩
theorem tw10746918623179091763:True:=⟨⟩
theorem tw10572516892595466018:True:=⟨⟩
theorem tw3317591030996660073:True:=⟨⟩
theorem tw8415364220412121136:True:=⟨⟩
theorem tw4153224187331080568:True:=⟨⟩
theorem tw1830751013990023499:True:=⟨⟩
theorem tw1988045412743823201:True:=⟨⟩
theorem tw11772987682843964248:True:=⟨⟩
theorem tw16110538900403036935:True:=⟨⟩
theorem tw9948523641423451409:True:=⟨⟩
theorem tw6686903378962900667:True:=⟨⟩
theorem tw577420488038715544:True:=⟨⟩
theorem tw1179029926056708242:True:=⟨⟩
theorem tw3283170988711531472:True:=⟨⟩
theorem tw14186488870348771682:True:=⟨⟩
theorem tw7528085920511593358:True:=⟨⟩
theorem tw1312061318938544168:True:=⟨⟩
theorem tw970901637132926325:True:=⟨⟩
theorem tw5539862041607372776:True:=⟨⟩
theorem tw6549093644063070953:True:=⟨⟩
theorem tw12924392577019632111:True:=⟨⟩
theorem tw6953293489897136166:True:=⟨⟩
theorem tw4933530841855269799:True:=⟨⟩
theorem tw11250775741263498606:True:=⟨⟩
theorem tw1195240176353130124:True:=⟨⟩
theorem tw5606346810835386294:True:=⟨⟩
theorem tw15697542560089193294:True:=⟨⟩
theorem tw8206774756724212256:True:=⟨⟩
theorem tw2459186560121715436:True:=⟨⟩
theorem tw14338979666611783996:True:=⟨⟩
theorem tw8544630033720788726:True:=⟨⟩
theorem tw8578911824682914499:True:=⟨⟩
theorem tw6452539715984618215:True:=⟨⟩
theorem tw13318573703908574678:True:=⟨⟩
theorem tw12108351595811697964:True:=⟨⟩
theorem tw3302693702636396587:True:=⟨⟩
theorem tw7042139968331488505:True:=⟨⟩
theorem tw16994379754481223042:True:=⟨⟩
theorem tw16291602421666424651:True:=⟨⟩
theorem tw14965502616244312401:True:=⟨⟩
theorem tw5570778421885827775:True:=⟨⟩
theorem tw6832666409918473081:True:=⟨⟩
theorem tw9649523655525592703:True:=⟨⟩
theorem tw10175677629939555330:True:=⟨⟩
theorem tw7803550573204411783:True:=⟨⟩
theorem tw10436992275015933758:True:=⟨⟩
theorem tw2780210903865559431:True:=⟨⟩
theorem tw2288404007566487629:True:=⟨⟩
theorem tw1161367070756566713:True:=⟨⟩
theorem tw3318069640233008008:True:=⟨⟩
theorem tw7862729180944303412:True:=⟨⟩
theorem tw2048040451687018475:True:=⟨⟩
theorem tw17163130304637234019:True:=⟨⟩
theorem tw11794412146630336541:True:=⟨⟩
theorem tw18095117864302143240:True:=⟨⟩
theorem tw6746230494314219829:True:=⟨⟩
theorem tw6144318267314401419:True:=⟨⟩
theorem tw1395540816109445662:True:=⟨⟩
theorem tw4340447597225746207:True:=⟨⟩
theorem tw17914645247965106572:True:=⟨⟩
theorem tw4055653161360568863:True:=⟨⟩
theorem tw9702662413641955060:True:=⟨⟩
theorem tw17983213760363824224:True:=⟨⟩
theorem tw3625920096054624965:True:=⟨⟩
theorem tw16705199285586112056:True:=⟨⟩
theorem tw12851949010370375349:True:=⟨⟩
theorem tw12996388525240276338:True:=⟨⟩
theorem tw12587402106032204816:True:=⟨⟩
theorem tw6460748906887889332:True:=⟨⟩
theorem tw11727453368457220657:True:=⟨⟩
theorem tw14854763351737895918:True:=⟨⟩
theorem tw3972549268094340323:True:=⟨⟩
theorem tw17988995472121767793:True:=⟨⟩
theorem tw12558402399197053499:True:=⟨⟩
theorem tw17285155912685989052:True:=⟨⟩
theorem tw5245443336849066807:True:=⟨⟩
theorem tw12812620884101755854:True:=⟨⟩
theorem tw18181789296171059177:True:=⟨⟩
theorem tw13152916600612254185:True:=⟨⟩
theorem tw12600870134498613773:True:=⟨⟩
theorem tw9155371674587370390:True:=⟨⟩
theorem tw4474721754512362376:True:=⟨⟩
theorem tw12810451151793431825:True:=⟨⟩
theorem tw11945521244996566235:True:=⟨⟩
theorem tw981838215624898789:True:=⟨⟩
theorem tw1459723837030119639:True:=⟨⟩
theorem tw12542876687627502508:True:=⟨⟩
theorem tw9409445449157333295:True:=⟨⟩
theorem tw2507772927066755905:True:=⟨⟩
theorem tw2279787109578271367:True:=⟨⟩
theorem tw16427535758734545304:True:=⟨⟩
theorem tw10457435686286411364:True:=⟨⟩
theorem tw14168046304630660111:True:=⟨⟩
theorem tw17846788568403560854:True:=⟨⟩
theorem tw2191475123369579555:True:=⟨⟩
theorem tw71649854130563885:True:=⟨⟩
theorem tw11840855809325801691:True:=⟨⟩
theorem tw15581390578571935469:True:=⟨⟩
theorem tw8783645038488706884:True:=⟨⟩
theorem tw8746247698971309938:True:=⟨⟩
theorem tw14425976781443059763:True:=⟨⟩
theorem tw9094519379732369878:True:=⟨⟩
theorem tw15439033170447852717:True:=⟨⟩
theorem tw16293259825688849582:True:=⟨⟩
theorem tw4833388036874915851:True:=⟨⟩
theorem tw2725818610348649442:True:=⟨⟩
theorem tw4047686905362739471:True:=⟨⟩
theorem tw13304277241308601724:True:=⟨⟩
theorem tw4433136270536275658:True:=⟨⟩
theorem tw18395468104307350046:True:=⟨⟩
theorem tw4809425508158338451:True:=⟨⟩
theorem tw13709632775644715824:True:=⟨⟩
theorem tw15315874849093004078:True:=⟨⟩
theorem tw6329636050530934722:True:=⟨⟩
theorem tw3040100531610829856:True:=⟨⟩
theorem tw5035573855383300173:True:=⟨⟩
theorem tw17814594968247652700:True:=⟨⟩
theorem tw4467665574262306881:True:=⟨⟩
theorem tw16862594352732677427:True:=⟨⟩
theorem tw2254049695924038859:True:=⟨⟩
theorem tw5286076555472360226:True:=⟨⟩
theorem tw9651935694215784337:True:=⟨⟩
theorem tw11624565776586772869:True:=⟨⟩
theorem tw197205865649553640:True:=⟨⟩
theorem tw1468306458325193413:True:=⟨⟩
theorem tw8082221917840123767:True:=⟨⟩
theorem tw10618780786630680006:True:=⟨⟩
theorem tw11578570528456828731:True:=⟨⟩
theorem tw5793106541750757848:True:=⟨⟩
theorem tw14775927195101356314:True:=⟨⟩
theorem tw975342723002918178:True:=⟨⟩
theorem tw6848241275016626836:True:=⟨⟩
theorem tw5513194585176113716:True:=⟨⟩
theorem tw8241113241588467389:True:=⟨⟩
theorem tw7307163416132126377:True:=⟨⟩
theorem tw2827202468014234973:True:=⟨⟩
theorem tw16162970195234406514:True:=⟨⟩
theorem tw13466610380081915574:True:=⟨⟩
theorem tw12801803605120687983:True:=⟨⟩
theorem tw12381792329930694262:True:=⟨⟩
theorem tw9872750034766606673:True:=⟨⟩
theorem tw3232255903489715993:True:=⟨⟩
theorem tw9410832839610299863:True:=⟨⟩
theorem tw833638683019779323:True:=⟨⟩
theorem tw191861812728910951:True:=⟨⟩
theorem tw18231737888789939573:True:=⟨⟩
theorem tw13393775619513804483:True:=⟨⟩
theorem tw6714304553491846938:True:=⟨⟩
theorem tw499875722979142029:True:=⟨⟩
theorem tw10780037957511864650:True:=⟨⟩
theorem tw15932371445948562222:True:=⟨⟩
theorem tw7517176464214730690:True:=⟨⟩
theorem tw8120509923551277325:True:=⟨⟩
theorem tw17667012979423988905:True:=⟨⟩
theorem tw15228087100434384264:True:=⟨⟩
theorem tw2520633237500713626:True:=⟨⟩
theorem tw7955022225147818048:True:=⟨⟩
theorem tw13488600255081567498:True:=⟨⟩
theorem tw15898721493248736216:True:=⟨⟩
theorem tw3838169639870789107:True:=⟨⟩
theorem tw13655658060591278174:True:=⟨⟩
theorem tw7724460574588056476:True:=⟨⟩
theorem tw6392725421957414856:True:=⟨⟩
theorem tw17333010251428529711:True:=⟨⟩
theorem tw1517593478844614792:True:=⟨⟩
theorem tw10352261582167589231:True:=⟨⟩
theorem tw10335085434668097467:True:=⟨⟩
theorem tw15984655662802745572:True:=⟨⟩
theorem tw7209620440317366855:True:=⟨⟩
theorem tw3953721172599374118:True:=⟨⟩
theorem tw3413919052040528220:True:=⟨⟩
theorem tw553265670720534442:True:=⟨⟩
theorem tw11446511030565269291:True:=⟨⟩
theorem tw10510536123406245969:True:=⟨⟩
theorem tw14016667373945887891:True:=⟨⟩
theorem tw14663233587983598036:True:=⟨⟩
theorem tw17311217016972488282:True:=⟨⟩
theorem tw9848654260639237344:True:=⟨⟩
theorem tw7776069024599163535:True:=⟨⟩
theorem tw6144537262334450892:True:=⟨⟩
theorem tw1841961793487997000:True:=⟨⟩
theorem tw17945246389402294908:True:=⟨⟩
theorem tw16305183639941070933:True:=⟨⟩
theorem tw10542770091149231195:True:=⟨⟩
end PySem.W.Fast
namespace Hue
open PySem L2 Rf
noncomputable def k8(K:V5)(nm:Str)(i:Nat):Prop:=∃(f:Yi) (od an:Option Yi) (sl:Array (Option Yg)) (oc kV dc pm cd ct:Yg),PySem.W.nsIn K Yo nm=some (some (.ref f))/\K.lookup f=some ⟨oc,od,.func (PySem.W.fnOf nm nm (defArgs (top i)) (defBody (top i)) (defScope (top i)) .none kV dc pm an cd ct),sl⟩/\PySem.W.codeIn K cd nm=true/\PySem.W.keepIn K (.ref f)=true
theorem lnkK_mk{K:V5}{nm:Str}{i:Nat}{f:Yi}{od an:Option Yi}{sl:Array (Option Yg)}{oc kV dc pm cd ct:Yg}(a:PySem.W.nsIn K Yo nm=some (some (.ref f)))(l:K.lookup f=some ⟨oc,od,.func (PySem.W.fnOf nm nm (defArgs (top i)) (defBody (top i)) (defScope (top i)) .none kV dc pm an cd ct),sl⟩)(c:PySem.W.codeIn K cd nm=true)(k:PySem.W.keepIn K (.ref f)=true):k8 K nm i:=⟨f,od,an,sl,oc,kV,dc,pm,cd,ct,a,l,c,k⟩
theorem e8{K:V5}{h:Heap}{mg:Str->Option Yg}(X:K.In h)(G:h.Ns Yo mg)(D:Df){i:Nat}(x:k8 K D.name i)(e:D.st=top i)(b:∀(kV doc pm:Yg) (an:Option Yi) (cdv ct:Yg) (us:List Yg),us.length=D.ps.length->bindArgs (PySem.W.fnOf D.name D.name (defArgs (top i)) (defBody (top i)) (defScope (top i)) .none kV doc pm an cdv ct) ⟨us,[]⟩=pure (D.ps.zip us)):PIn K mg D:=by
 obtain⟨_,_,_,_,_,_,_,_,_,_,a,l,c,k⟩:=x;exact⟨_,_,e▸He (st:=top i) l c k,PySem.W.mg_of X G a,k,(He (st:=top i) l c k).binds (ps:=D.ps) b⟩
theorem i5{P:Df->Prop}{D:Df}{l:List Df}(a:P D)(b:∀ x∈l,P x):∀ x∈D::l,P x:=List.forall_mem_cons.mpr ⟨a,b⟩
theorem all_mk{l:PySem.W.OpenLaw}{w:Yq}{K:V5}{h:Heap}{mg:Str->Option Yg}{fa:Yi}(X:K.In h)(G:h.Ns Yo mg)(hfa:mg "law"=some (.ref fa))
 (x0:k8 K "is_number" 9)
 (x1:k8 K "is_listed" 10)
 (x2:k8 K "has_place" 12)
 (x3:k8 K "has_tie" 13)
 (x4:k8 K "check_place" 14)
 (x5:k8 K "check_tie" 15)
 (x6:k8 K "ties_at" 16)
 (x7:k8 K "most_at" 17)
 (x8:k8 K "thickest" 18)
 (x9:k8 K "enough" 19)
 (x10:k8 K "far_end" 20)
 (x11:k8 K "meets" 21)
 (x12:k8 K "is_hue" 23)
 (x13:k8 K "is_hueing" 24)
 (x14:k8 K "clash_of" 25)
 (x15:k8 K "hues_at" 26)
 (x16:k8 K "free_at" 27)
 (x17:k8 K "tie_of_hue" 29)
 (x18:k8 K "check_unlike" 30)
 (x19:k8 K "row_from" 31)
 (x20:k8 K "exchanged" 32)
 (x21:k8 K "tie_has_hue" 34)
 (x22:k8 K "tie_lacks_hue" 35)
 (x23:k8 K "with_hues" 36)
 (x24:k8 K "after_hue" 37)
 (x25:k8 K "after_drop" 38)
 (x26:k8 K "after_move" 39)
 (x27:k8 K "after_row" 40)
 (x28:k8 K "after_step" 41)
 (x29:k8 K "done_step" 42)
 (x30:k8 K "next_of_fan" 44)
 (x31:k8 K "fan_of" 45)
 (x32:k8 K "turning" 46)
 (x33:k8 K "turned" 47)
 (x34:k8 K "shared_hue" 48)
 (x35:k8 K "freeing_row" 49)
 (x36:k8 K "steps_to_hue" 50)
 (x37:k8 K "check_enough" 51)
 (x38:k8 K "hued_in" 52)
 (x39:k8 K "_law_tape" 54)
 (x40:k8 K "_law_draw" 55)
 (x41:k8 K "_law_pairs_by" 56)
 (x42:k8 K "_law_web" 57)
 (x43:k8 K "_law_meet" 58)
 (x44:k8 K "_law_count" 59)
 (x45:k8 K "_law_most" 60)
 (x46:k8 K "_law_thickest" 61)
 (x47:k8 K "_law_is_hueing" 62)
 (x48:k8 K "_law_row" 63)
 (x49:k8 K "_law_hues" 64)
 (x50:k8 K "_law_stepped" 65)
 (x51:k8 K "_law_within" 66)
 (x52:k8 K "_law_walked" 67)
 (x53:k8 K "_law_got" 68)
 (x54:k8 K "_law_filled" 69)
 (x55:k8 K "law" 70)
 (z0:PySem.W.nsIn K Yo "len"=some none)
 (z1:PySem.W.nsIn K Yo "abs"=some none)
 (z2:PySem.W.nsIn K Yo "min"=some none)
 (z3:PySem.W.nsIn K Yo "max"=some none)
 (z4:PySem.W.nsIn K Yo "int"=some none)
 (z5:PySem.W.nsIn K Yo "list"=some none)
 (z6:PySem.W.nsIn K Yo "tuple"=some none)
 (z7:PySem.W.nsIn K Yo "all"=some none)
 (z8:PySem.W.nsIn K Yo "any"=some none)
 (z9:PySem.W.nsIn K Yo "sorted"=some none)
 (z10:PySem.W.nsIn K Yo "isinstance"=some none)
 (z11:PySem.W.nsIn K Yo "str"=some none)
 (z12:PySem.W.nsIn K Yo "range"=some none)
 (z13:PySem.W.nsIn K Yo "enumerate"=some none)
 (z14:PySem.W.nsIn K Yo "zip"=some none)
 (z15:PySem.W.nsIn K Yo "set"=some none)
 (z16:PySem.W.nsIn K Yo "bool"=some none)
 (z17:PySem.W.nsIn K Yo "dict"=some none)
 (z18:PySem.W.nsIn K Yo "reversed"=some none)
 (z19:PySem.W.nsIn K Yo "repr"=some none)
 (z20:PySem.W.nsIn K Yo "sum"=some none)
 : ∃ fd:ZL,(∀(s:Yh) (v:Yg),BindsTo s fd ⟨[v],[]⟩ [("_law_script",v)])/\∀ base:Heap,K.In base->base.Ns Yo mg->FnOk l.prog w K mg base CX0 13 fa fd ["_law_script"] (spS K (W prog 13 55)):=by
 have y:=x55;obtain⟨f55,od55,an55,sl55,oc55,kV55,dc55,pm55,cd55,ct55,a55,l55,c55,k55⟩:=x55;have e:=hfa.symm.trans (PySem.W.mg_of X G a55);cases e
 have B:Bl mg:=by
  refine⟨λb=>?_,VV X G z12,VV X G z13,VV X G z18,VV X G z14,VV X G z20,VV X G z15,VV X G z17,λt ht=>?_⟩
  ·cases b with
   | len=>exact VV X G z0
   | abs=>exact VV X G z1
   | min=>exact VV X G z2
   | max=>exact VV X G z3
   | int=>exact VV X G z4
   | list=>exact VV X G z5
   | tuple=>exact VV X G z6
   | all=>exact VV X G z7
   | any=>exact VV X G z8
   | sorted=>exact VV X G z9
   | isi=>exact VV X G z10
   | str=>exact VV X G z11
   | repr=>exact VV X G z19
  ·cases t with
   | int=>exact VV X G z4
   | bool=>exact VV X G z16
   | str=>exact VV X G z11
   | list=>exact VV X G z5
   | tuple=>exact VV X G z6
   | none=>exact absurd rfl ht
 have hin:∀ D∈prog,PIn K mg D:=i5 (e8 X G d0 x0 rfl λ_ _ _ _ _ _=>E7 λ_=>rfl) (i5 (e8 X G d1 x1 rfl λ_ _ _ _ _ _=>E7 λ_=>rfl) (i5 (e8 X G d2 x2 rfl λ_ _ _ _ _ _=>Bm λ_ _=>rfl) (i5 (e8 X G d3 x3 rfl λ_ _ _ _ _ _=>Bm λ_ _=>rfl) (i5 (e8 X G d4 x4 rfl λ_ _ _ _ _ _=>Bm λ_ _=>rfl) (i5 (e8 X G d5 x5 rfl λ_ _ _ _ _ _=>Bm λ_ _=>rfl) (i5 (e8 X G d6 x6 rfl λ_ _ _ _ _ _=>Bm λ_ _=>rfl) (i5 (e8 X G d7 x7 rfl λ_ _ _ _ _ _=>E7 λ_=>rfl) (i5 (e8 X G d8 x8 rfl λ_ _ _ _ _ _=>E7 λ_=>rfl) (i5 (e8 X G d9 x9 rfl λ_ _ _ _ _ _=>E7 λ_=>rfl) (i5 (e8 X G d10 x10 rfl λ_ _ _ _ _ _=>C0 λ_ _ _=>rfl) (i5 (e8 X G d11 x11 rfl λ_ _ _ _ _ _=>C0 λ_ _ _=>rfl) (i5 (e8 X G d12 x12 rfl λ_ _ _ _ _ _=>E7 λ_=>rfl) (i5 (e8 X G d13 x13 rfl λ_ _ _ _ _ _=>Bm λ_ _=>rfl) (i5 (e8 X G d14 x14 rfl λ_ _ _ _ _ _=>Bm λ_ _=>rfl) (i5 (e8 X G d15 x15 rfl λ_ _ _ _ _ _=>C0 λ_ _ _=>rfl) (i5 (e8 X G d16 x16 rfl λ_ _ _ _ _ _=>E8 λ_ _ _ _=>rfl) (i5 (e8 X G d17 x17 rfl λ_ _ _ _ _ _=>E8 λ_ _ _ _=>rfl) (i5 (e8 X G d18 x18 rfl λ_ _ _ _ _ _=>Bm λ_ _=>rfl) (i5 (e8 X G d19 x19 rfl λ_ _ _ _ _ _=>FH λ_ _ _ _ _=>rfl) (i5 (e8 X G d20 x20 rfl λ_ _ _ _ _ _=>FH λ_ _ _ _ _=>rfl) (i5 (e8 X G d21 x21 rfl λ_ _ _ _ _ _=>C0 λ_ _ _=>rfl) (i5 (e8 X G d22 x22 rfl λ_ _ _ _ _ _=>C0 λ_ _ _=>rfl) (i5 (e8 X G d23 x23 rfl λ_ _ _ _ _ _=>C0 λ_ _ _=>rfl) (i5 (e8 X G d24 x24 rfl λ_ _ _ _ _ _=>E8 λ_ _ _ _=>rfl) (i5 (e8 X G d25 x25 rfl λ_ _ _ _ _ _=>C0 λ_ _ _=>rfl) (i5 (e8 X G d26 x26 rfl λ_ _ _ _ _ _=>E8 λ_ _ _ _=>rfl) (i5 (e8 X G d27 x27 rfl λ_ _ _ _ _ _=>FH λ_ _ _ _ _=>rfl) (i5 (e8 X G d28 x28 rfl λ_ _ _ _ _ _=>C0 λ_ _ _=>rfl) (i5 (e8 X G d29 x29 rfl λ_ _ _ _ _ _=>C0 λ_ _ _=>rfl) (i5 (e8 X G d30 x30 rfl λ_ _ _ _ _ _=>E8 λ_ _ _ _=>rfl) (i5 (e8 X G d31 x31 rfl λ_ _ _ _ _ _=>FH λ_ _ _ _ _=>rfl) (i5 (e8 X G d32 x32 rfl λ_ _ _ _ _ _=>C0 λ_ _ _=>rfl) (i5 (e8 X G d33 x33 rfl λ_ _ _ _ _ _=>FH λ_ _ _ _ _=>rfl) (i5 (e8 X G d34 x34 rfl λ_ _ _ _ _ _=>FH λ_ _ _ _ _=>rfl) (i5 (e8 X G d35 x35 rfl λ_ _ _ _ _ _=>FH λ_ _ _ _ _=>rfl) (i5 (e8 X G d36 x36 rfl λ_ _ _ _ _ _=>E8 λ_ _ _ _=>rfl) (i5 (e8 X G d37 x37 rfl λ_ _ _ _ _ _=>Bm λ_ _=>rfl) (i5 (e8 X G d38 x38 rfl λ_ _ _ _ _ _=>E8 λ_ _ _ _=>rfl) (i5 (e8 X G d39 x39 rfl λ_ _ _ _ _ _=>Bm λ_ _=>rfl) (i5 (e8 X G d40 x40 rfl λ_ _ _ _ _ _=>Bm λ_ _=>rfl) (i5 (e8 X G d41 x41 rfl λ_ _ _ _ _ _=>Bm λ_ _=>rfl) (i5 (e8 X G d42 x42 rfl λ_ _ _ _ _ _=>Bm λ_ _=>rfl) (i5 (e8 X G d43 x43 rfl λ_ _ _ _ _ _=>C0 λ_ _ _=>rfl) (i5 (e8 X G d44 x44 rfl λ_ _ _ _ _ _=>Bm λ_ _=>rfl) (i5 (e8 X G d45 x45 rfl λ_ _ _ _ _ _=>E7 λ_=>rfl) (i5 (e8 X G d46 x46 rfl λ_ _ _ _ _ _=>E7 λ_=>rfl) (i5 (e8 X G d47 x47 rfl λ_ _ _ _ _ _=>Bm λ_ _=>rfl) (i5 (e8 X G d48 x48 rfl λ_ _ _ _ _ _=>FH λ_ _ _ _ _=>rfl) (i5 (e8 X G d49 x49 rfl λ_ _ _ _ _ _=>C0 λ_ _ _=>rfl) (i5 (e8 X G d50 x50 rfl λ_ _ _ _ _ _=>C0 λ_ _ _=>rfl) (i5 (e8 X G d51 x51 rfl λ_ _ _ _ _ _=>C0 λ_ _ _=>rfl) (i5 (e8 X G d52 x52 rfl λ_ _ _ _ _ _=>E8 λ_ _ _ _=>rfl) (i5 (e8 X G d53 x53 rfl λ_ _ _ _ _ _=>FH λ_ _ _ _ _=>rfl) (i5 (e8 X G d54 x54 rfl λ_ _ _ _ _ _=>E8 λ_ _ _ _=>rfl) (i5 (e8 X G d55 y rfl λ_ _ _ _ _ _=>E7 λ_=>rfl) (λ_ h=>nomatch h))))))))))))))))))))))))))))))))))))))))))))))))))))))));refine⟨PySem.W.fnOf "law" "law" (defArgs (top 70)) (defBody (top 70)) (defScope (top 70)) .none kV55 dc55 pm55 an55 cd55 ct55,λs v => .of_eq rfl,λbase _ _=>?_⟩
 exact NE (P:=l.prog) (w:=w) (base:=base) (k:=12) (Δ:=W prog 12) (D:=d55) (He (st:=top 70) l55 c55 k55) (Va.mp HM d55 (V9 (show prog[55]?=some d55 from rfl))) B (λg x hx=>by
  rw[VG]at hx;cases hg:prog[g]? with
  | none=>rw[hg]at hx;cases hx
  | some D'=>
    rw[hg]at hx;have:D'.name=x:=by simpa using hx
    subst this;exact⟨D'.ps,JV HM B hin 12 g D' hg⟩) (Db 12)
theorem walkL{l:PySem.W.OpenLaw}{q:Yn}{loose:List Str}{XP:(Str->Option Yg)->Heap->Prop}{YP:Yq->Heap->Prop}{d:DefRec}{K:Params->V5}(hn:l.most=some 63)(hdf:d.params.defaults=[])
 (hY:∀(w:Yq) (h:Heap),YP w h->(K w.params).In h)
 (F:∀(w:Yq) (mg:Str->Option Yg) (fa:Yi) (h:Heap),(K w.params).In h->h.Ns Yo mg->mg d.name=some (.ref fa)->
   ∃ fd:ZL,(∀(s:Yh) (u:Yg),BindsTo s fd ⟨[u],[]⟩ [("_law_script",u)])/\∀ base:Heap,(K w.params).In base->base.Ns Yo mg->FnOk l.prog w (K w.params) mg base CX0 13 fa fd ["_law_script"] (spS (K w.params) (W prog 13 55))):
 PySem.W.WalkO q loose XP YP l.row.toRowW d [] (λf vs=>PySem.call f vs):=
 L2.walk_of (n:=63) (k:=13) (x:="_law_script") (CX:=λ_=>CX0) (sp:=λw=>spS (K w.params) (W prog 13 55)) hn (by decide) hdf ⟨rfl,by decide,by decide,rfl⟩ hY F (λ_ _ a ns hl hO hS=>Sc (law_main ns hl) hO hS) λ_ _ _ _ _ z=>z
end Hue
open PySem PySem.W PyProof.Rows
set_option maxRecDepth 100000 in
set_option maxHeartbeats 0 in
theorem PySem.Challenge.cw_huedties_k22_all_ties_keep_hues_holds : PySem.Challenge.rw_huedties_k22_all_ties_keep_hues.Holds := by
 w_on;o_law;k_head;(case hw=>w_witness2)
 k_fill
 refine Hue.walkL (l:=PySem.Challenge.rw_huedties_k22_all_ties_keep_hues) rfl rfl (λw h Y=>PySem.W.kIn_of Y) ?F
 case F=>
  intro w mg fa h KX G hmg;refine' Hue.all_mk KX G hmg ?_ ?_ ?_ ?_ ?_ ?_ ?_ ?_ ?_ ?_ ?_ ?_ ?_ ?_ ?_ ?_ ?_ ?_ ?_ ?_ ?_ ?_ ?_ ?_ ?_ ?_ ?_ ?_ ?_ ?_ ?_ ?_ ?_ ?_ ?_ ?_ ?_ ?_ ?_ ?_ ?_ ?_ ?_ ?_ ?_ ?_ ?_ ?_ ?_ ?_ ?_ ?_ ?_ ?_ ?_ ?_ ?_ ?_ ?_ ?_ ?_ ?_ ?_ ?_ ?_ ?_ ?_ ?_ ?_ ?_ ?_ ?_ ?_ ?_ ?_ ?_ ?_
  all_goals first | exact Hue.lnkK_mk (by k_is) (by k_is) (by k_is) (by k_is) | k_is
