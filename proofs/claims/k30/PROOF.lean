import PyProof.Rows.All
import Wide.All
import OpenK.AllK
import PySem.Challenge.RW_huedties_k30_hued_by_rows
set_option Elab.async false
set_option linter.all false
set_option maxRecDepth 100000
open PySem.W renaming Frag->Um,mg_none_of->V7
open Bool renaming and_eq_true->Uo,false_ne_true->V0,not_eq_true'->VM,or_eq_true->Va,false_eq_true->Vb,eq_iff_iff->Vj,eq_false_iff->Xm,noConfusion->Xs,false_or->Y7,true_and->Y8,or_false->Y9,true_or->YG,not_not->YJ
open List renaming getElem?_eq_getElem->Uq,length_map->Ur,mem_of_getElem?->Us,length_append->Ut,size_toArray->Uu,replicate->Uv,range->Uy,getElem?_map->Uz,getD_eq_getElem?_getD->V1,mem_singleton->V3,getElem?_set_self->V6,getElem?_append_left->V9,mem_cons->VA,mem_cons_of_mem->VB,all_eq_true->VC,mem_append->VD,append_assoc->VE,mem_range->VG,length_set->VH,mem_cons_self->VJ,getElem?_append_right->VL,length_take->VN,map_append->VO,map_cons->VP,replicate_succ->VQ,getElem?_set_ne->VR,getElem?_concat_length->VT,length_cons->VU,mem_map->VV,take_length->VW,mem_append_right->VX,append_nil->VY,take_succ->VZ,find?_cons->Vd,isEmpty_iff->Ve,mem_append_left->Vf,getElem?_of_mem->Vg,mem_filter->Vi,length_drop->Vl,getElem_mem->Vm,prefix_refl->Vn,length_singleton->Vp,length_range->Vr,getD->Vs,take_of_length_le->Vt,getElem?_range->Vu,flatten_cons->Vv,take_append_drop->Vx,getElem?_eq_none->Vy,all_cons->Vz,any_cons->W2,getElem?_replicate->W3,lookup_cons->W4,mem_of_mem_take->W5,length_nil->WB,length_replicate->WC,length_filter_le->WD,getElem?_drop->WG,filter_cons->WM,filter_append->WN,perm_append_comm->WQ,drop_eq_getElem_cons->WR,nodup_cons->WV,of_mem_zip->WW,reverse_cons->WX,any_eq_true->We,getLast?_eq_some_getLast->Wf,prefix_append->Wg,range_succ->Wi,ext_getElem?->Wm,mem_iff_getElem->Wn,mem_of_mem_drop->Wo,drop_zero->Wp,replicate_succ'->Wq,drop_length->Ws,pairwise_iff_getElem->Wt,filterMap_cons->Wu,pairwise_singleton->Wx,length_eq_zero_iff->Wy,nodup_append->Wz,eraseIdxIfInBounds_toArray->X0,countP_le_length->X1,map_congr_left->X5,map_set->X7,pairwise_cons->X8,getElem?_take->X9,take_zero->XA,countP_append->XD,find?_eq_none->XE,getLast?_eq_getElem?->XF,getElem?_take_of_lt->XH,cons_ne_nil->XJ,countP_cons->XM,drop_eq_nil_of_le->XO,all_map->XQ,find?_cons_of_pos->XR,find?_cons_of_neg->XS,countP_nil->XU,mem_iff_getElem?->XW,dropLast_eq_take->XX,getElem?_zipWith->XY,length->XZ,lookup->Xa,reverse_append->Xc,getElem_of_mem->Xd,map_take->Xe,mem_filterMap->Xf,zip_cons_cons->Xg,take_sublist->Xj,any_map->Xk,map_map->Xl,not_mem_nil->Xp,getLast_mem->Xu,nodup_range->Xv,countP->Xw,filter->Xx,foldl_cons->Xy,nil_append->Xz,head?_drop->Y1,foldl->Y4,nodup_nil->Y5,tail_drop->Y6,map_drop->YA,map_nil->YC,any_nil->YH
open PySem.Heap renaming get?_push_of_some->Uw,lt_size->V2,get?_push_size->V8,get?_update_other->Vo,get?_update_self->Vw,size_push->W7,SameBut->WJ,update->Xb,IsSliceOf->Y3
open Nat renaming le_refl->Ux,ne_of_lt->V4,le_trans->VF,lt_of_lt_of_le->VI,lt_or_ge->W8,zero_add->W9,lt_irrefl->WH,lt_succ_of_lt->WY,not_lt_zero->Wj,lt_succ_self->Wr,zero_le->Ww,add_le_add_left->X3,sub_zero->X6,lt_of_le_of_lt->XB,le_succ->XG,le_of_lt->XN,succ_ne_self->Xq,not_lt_of_gt->Xr,min_eq_right->Xt,zero_lt_one->Y0,min_eq_left->Y2,le_of_eq->YD,add_zero->YE,sub_self->YF,le_total->YI
open Array renaming length_toList->V5,toList_append->Vc,getElem?_toList->Wk,toList_push->Wl,toList_reverse->X2,toList->YB
open Int renaming le_trans->Vh,natCast_inj->Vk,le_of_lt->Vq,toNat_natCast->W6,le_refl->WZ,zero_add->Wa,emod_lt_of_pos->Wh,emod_nonneg->Wv,toNat_of_nonneg->X4,natCast_nonneg->XC,not_lt->Xi
open Option renaming map_some->WK,isSome->WL,isNone_iff_eq_none->WU,isSome_iff_exists->Wc,bind_some->XI,map_eq_none_iff->XT,isSome_some->Xh,getD_none->Xn,getD_some->Xo
open PySem renaming Value->YK,wpAny_bind->YL,Shared->YM,Addr->YN,wpAny_pure->YQ,model->YS,Program->YT,sizeLine->YU,wpAny->YV,mainGlobals->YW,World->YX,Around->YZ,bootBuiltins->Ya,compareOp->Yb,starEach->Yc,Scope->Yd,wpAny_truthy_bool->Ye,wpAny_newObj_type->Yg,wpAny_holding->Yh,swappedStores->Yj,wpAny_tryCatch->Yl,wpAny_rule->Yn,NameKind->Yo,cellsFrom->Yp,assignEach->Yq,binaryOp->Ys,wpAny_seqItems->Yu,wpAny_passesOwn->Yv,wpAny_pyIter_list->Yw,sysModules->Yx,wpAny_mono->Yy,plainId_quiet->Yz,wpAny_callSpecial?_slot->Z0,richCompare->Z2,wpAny_letGo->Z3,Operator->Z4,FuncData->Z5,codeAny_builtin->Z6,wpAny_updateSeq->Z7,keywordEach->Z8,swapsWith->Z9,wpAny_call_entry->ZA,swapsWithSole->ZC,letOwnedTupleGo->ZD,wpAny_Call_Name_kw->ZE,call_meets->ZF,wpAny_pyIter_tuple->ZG,wpAny_field->ZH,sliceBounds->ZI,foldedSetIterable->ZJ,wpAny_pyIter_enum->ZK,seqItems?->ZL,wpAny_standAt->ZM,attributeBase->ZN,wpAny_execs_nil->ZO,backToKw->ZQ,newFunctionEnv->ZR,wpAny_letOwnedTupleGo_enum->ZS,wpAny_getItem_list_slice->ZW,wpAny_comprehension_free->ZX,ExceptHandler->ZY,tupleKind->ZZ,noFill_tuple_add->Za,compEnvC->Zb,wpAny_pyNext_enum_itemD->Zc,SetTable->Zd,typeIs_int->Zf,wpAny_pyNext_enum_endD->Zg,pushCells_keeps->Zi,fitsIndex_both->Zj,dictSetDefault->Zk,DictEntry->Zl,assignInOrder->Zn,behindInMarks->Zo,seq_tuple_add->Zp,evalPart_none->Zq,builtinsNs->Zs,wpAny_assign_Name->Zu,codeAny_mono->Zw,concat_meets->Zx,wpAny_sequenceKey->Zy,wpAny_typeOf->Zz,seqIndex_neg->A00,PassesOwn->A02,pushCells->A03,updateSeq->A04,sizeLine_eq->A05,seqIndex_of->A06,wpAny_of_eq->A07,entryOfKey->A08,GenState->A09,wpAny_Name->A0a,bindName->A0b,wpAny_bindName->A0c,recursionLimit->A0d,wpAny_setField->A0g,firstArgMember->A0h,constantsAlone->A0j,lastMarks->A0k,seqIndex?->A0l
open PyProof.Rows renaming wpS_bind->YO,wpS_pure->YR,pendingOf->YY,wpS_forRange->Yf,failedOf->Yi,reverseSlice'->Yk,wpS_modify->Yr,wpS_mono->Yt,oneType'->Z1,assignInOrder_cons->ZP,K_mirror_equal->ZT,wpS_lift->ZU,SortedTo->ZV,subscriptTail_builtinR->Ze,setPending->Zh,entry_tuple_getitem->Zm,subscriptTail->Zr,args_tuple_getitem->Zt,assignInOrder_nil->Zv,pairsOf_size->A01,slicePart_none->A0e,Subscript_->A0f,SortKind->A0i
abbrev EE:=List (Nat×Nat)
theorem gM{α:Type}{l:List α}{i:Nat}{a:α}(h:l[i]?=some a):∃h:i<l.length,l[i]=a:=List.getElem?_eq_some_iff.mp h
theorem oj{α:Type}{a b:α}(h:some a=some b):a=b:=Option.some.inj h
theorem dQ{p:Prop}[Decidable p]:(decide p=true)=p:=decide_eq_true_eq
theorem iG{c:Prop}{h:Decidable c}(k:¬c){α:Sort u}{t e:α}:ite c t e=e:=if_neg k
theorem iP{c:Prop}{h:Decidable c}(k:c){α:Sort u}{t e:α}:ite c t e=t:=if_pos k
namespace L2
open PySem PySem.Spec PyProof.Rows
abbrev Key:=Sum Int Str
def Dm:Key->YK->Bool
 | .inl k,v=>Value.isInt k v
 | .inr x,v=>Value.isStrOf x v
def UU(w:YX):Key->Int
 | .inl k=>hashInt k
 | .inr x=>hashStr w x
theorem k8:∀{k:Key} {v:YK},Dm k v=true->(∃ i t,k=Sum.inl i/\v=Value.int i t)\/(∃ x t,k=Sum.inr x/\v=Value.str x t)
 | .inl i,v,h=>by
   obtain⟨t,e⟩:=Value.isInt_shape (k:=i) (v:=v) h;exact .inl ⟨i,t,rfl,e⟩
 | .inr x,v,h=>by
   obtain⟨t,e⟩:=Value.isStrOf_shape (x:=x) (v:=v) h;exact .inr ⟨x,t,rfl,e⟩
theorem JB(i:Int)(t:Tok):Dm (.inl i) (.int i t)=true:=by simp[Dm,Value.isInt]
theorem JC(x:Str)(t:Tok):Dm (.inr x) (.str x t)=true:=by simp[Dm,Value.isStrOf]
theorem Qd(a b:Int):decide ((Sum.inl a:Key)=Sum.inl b)=(a == b):=by
 by_cases e:a=b
 ·subst e;simp
 ·have h:¬ (Sum.inl a:Key)=Sum.inl b:=λq=>e (Sum.inl.inj q);rw[decide_eq_false h];exact(beq_eq_false_iff_ne.mpr e).symm
theorem Qf(a b:Str):decide ((Sum.inr a:Key)=Sum.inr b)=decide (a=b):=by
 by_cases e:a=b
 ·subst e;simp
 ·have h:¬ (Sum.inr a:Key)=Sum.inr b:=λq=>e (Sum.inr.inj q);rw[decide_eq_false h,decide_eq_false e]
theorem Qg(a:Int)(b:Str):decide ((Sum.inl a:Key)=Sum.inr b)=false:=decide_eq_false (λq=>nomatch q)
theorem Qh(a:Str)(b:Int):decide ((Sum.inr a:Key)=Sum.inl b)=false:=decide_eq_false (λq=>nomatch q)
noncomputable def p7(prog:YT)(w:YX):PySem.KeyKind prog w Key where
 is:=Dm
 hash:=UU w
 inj:=λv a b ha hb=>by
  rcases k8 ha with⟨i,t,rfl,rfl⟩ | ⟨x,t,rfl,rfl⟩
  ·rcases k8 hb with⟨j,u,rfl,e⟩ | ⟨y,u,rfl,e⟩
   ·injection e with e1 _;rw[e1]
   ·exact nomatch e
  ·rcases k8 hb with⟨j,u,rfl,e⟩ | ⟨y,u,rfl,e⟩
   ·exact nomatch e
   ·injection e with e1 _;rw[e1]
 byValue:=λk v h=>by
   rcases k8 h with⟨i,t,rfl,rfl⟩ | ⟨x,t,rfl,rfl⟩<;>rfl
 pyHash:=λhv h=>by
  rcases k8 hv with⟨i,t,rfl,rfl⟩ | ⟨x,t,rfl,rfl⟩
  ·exact wpAny_pyHash_int h
  ·exact wpAny_pyHash_str h
 eqBool:=λhu hv h=>by
  rcases k8 hu with⟨i,t,rfl,rfl⟩ | ⟨x,t,rfl,rfl⟩
  ·rcases k8 hv with⟨j,u,rfl,rfl⟩ | ⟨y,u,rfl,rfl⟩
   ·rw[Qd]at h;exact wpAny_eqBool_int h
   ·rw[Qg]at h;exact SeqAt.EqAt.int_str i t y u _ _ _ _ h
  ·rcases k8 hv with⟨j,u,rfl,rfl⟩ | ⟨y,u,rfl,rfl⟩
   ·rw[Qh]at h;exact SeqAt.EqAt.str_int x t j u _ _ _ _ h
   ·rw[Qf]at h;exact wpAny_eqBool_str h
 «strs»:=λk x t v h=>by
  rcases k8 h with⟨i,u,rfl,e⟩ | ⟨y,u,rfl,e⟩
  ·exact nomatch e
  ·injection e with e1 _;subst e1;cases v<;>rfl
theorem F6(prog:YT)(w:YX)(i:Int)(t:Tok):(p7 prog w).is (.inl i) (.int i t)=true:=JB i t
theorem F7(prog:YT)(w:YX)(x:Str)(t:Tok):(p7 prog w).is (.inr x) (.str x t)=true:=JC x t
inductive V where
 | non | bl (b:Bool) | int (i:Int) | str (x:Str) | byt (b:Array UInt8) | flt (b:UInt64) | ref (a:YN) | ty (n:String)
 deriving DecidableEq
def RelV:V->YK->Prop
 | .non,u=>u=Value.none
 | .bl b,u=>u=Value.bool b
 | .int i,u=>∃ t,u=Value.int i t
 | .str x,u=>∃ t,u=Value.str x t
 | .byt b,u=>∃ t,u=Value.bytes b t
 | .flt b,u=>∃ t,u=Value.float b t
 | .ref a,u=>u=Value.ref a
 | .ty n,u=>u=Value.type n
abbrev Vals:List V->List YK->Prop:=Paired RelV
theorem Vals.length{xs:List V}{us:List YK}(r:Vals xs us):xs.length=us.length:=Paired.length r
theorem Vals.get:∀{xs:List V} {us:List YK} {i:Nat} {x:V},Vals xs us->xs[i]?=some x->∃ u,us[i]?=some u/\RelV x u
 | _,_,_,_,.nil,e=>by simp at e
 | _,_,0,_,.cons r _,e=>by simp at e;subst e;exact⟨_,rfl,r⟩
 | _,_,i+1,x,.cons _ t,e=>by
   obtain⟨u,h1,h2⟩:=Vals.get (i:=i) (x:=x) t (by simpa using e);exact⟨u,by simpa using h1,h2⟩
theorem Vals.set{x:V}{u:YK}(r:RelV x u):∀{xs:List V} {us:List YK} (i:Nat),Vals xs us->Vals (xs.set i x) (us.set i u)
 | _,_,_,.nil => .nil
 | _,_,0,.cons _ t => .cons r t
 | _,_,i+1,.cons q t => .cons q (Vals.set r i t)
theorem Vals.append:∀{xs ys:List V} {us ws:List YK},Vals xs us->Vals ys ws->Vals (xs++ys) (us++ws)
 | _,_,_,_,.nil,s=>s
 | _,_,_,_,.cons r t,s => .cons r (Vals.append t s)
theorem Vals.take:∀{xs:List V} {us:List YK} (n:Nat),Vals xs us->Vals (xs.take n) (us.take n)
 | _,_,0,_ => .nil
 | _,_,_+1,.nil => .nil
 | _,_,n+1,.cons r t => .cons r (Vals.take n t)
theorem Vals.drop:∀{xs:List V} {us:List YK} (n:Nat),Vals xs us->Vals (xs.drop n) (us.drop n)
 | _,_,0,r=>r
 | _,_,_+1,.nil => .nil
 | _,_,n+1,.cons _ t=>Vals.drop n t
def RelO:Option V->Option YK->Prop
 | some v,some u=>RelV v u
 | none,none=>True
 | _,_=>False
def KV{κ:Type}:List (κ×V)->List (κ×YK)->Prop:=Paired λ(p:κ×V) (q:κ×YK)=>p.1=q.1/\RelV p.2 q.2
def kV:Key->V
 | .inl i => .int i
 | .inr x => .str x
inductive HO where
 | lst (xs:List V)
 | tup (xs:List V)
 | dK (kvs:List (Key×V)) | dT (kvs:List (List Key×V))
 | set (S:Int->Bool) (n:Nat)
 | ins (C dx:YN) (fs:List (Str×V))
 | own (x:YN)
 | xd (fs:List (Str×V))
 | met (f x:YN)
 | rng (lo hi:Int)
 | frz (o:Obj) (u:HO)
 | tbl (ps:Array YK)
 | ext (φ:Heap->Prop)
abbrev Hp:=YN->Option HO
def upd(H:Hp)(a:YN)(o:HO):Hp:=λb=>if b=a then some o else H b
theorem n6{H:Hp}{a:YN}{o:HO}:upd H a o a=some o:=by unfold upd;rw[iP rfl]
theorem upd_ne{H:Hp}{a b:YN}{o:HO}(h:b≠a):upd H a o b=H b:=by unfold upd;rw[iG h]
theorem Pj{H:Hp}{a b:YN}{o u:HO}(h:H a=some o)(h':H b=some u)(d:o≠u):a≠b:=by
 intro e;subst e;rw[h]at h';exact d (oj h')
theorem g7{H:Hp}{a b:YN}{o:HO}(h:H a=some o)(h':H b=none):a≠b:=by
 intro e;subst e;rw[h]at h';cases h'
section
variable(P:YT)(w:YX)
noncomputable def ObjOk(H:Hp)(h:Heap)(a:YN):HO->Prop
 | .lst xs=>xs.length<=YU/\∃(its:List YK) (n:Nat),Vals xs its/\h.get? a=some {cls := .type "list",data := .seq its.toArray n}
 | .tup xs=>xs.length<=YU/\∃ its:List YK,Vals xs its/\IsTup h a its.toArray
 | .dK kvs=>kvs.length<=YU/\(a == Yx)=false/\∃ vs,KV kvs vs/\h.DictOf (p7 P w) a vs
 | .dT kvs=>kvs.length<=YU/\(a == Yx)=false/\∃ xs:List (List Key×YN×YK),
    Paired (λ(p:List Key×V) (q:List Key×YN×YK)=>p.1=q.1/\H q.2.1=some (.tup (p.1.map kV))/\RelV p.2 q.2.2) kvs xs/\
    ∃ o es ep,h.get? a=some o/\o.ExactDict/\o.data = .dict es ep/\es.toList=xs.map (A08 (ZZ (p7 P w)))/\(xs.map (·.1)).Nodup
 | .set S n=>h.SetOf (intKind P w) a S n
 | .ins C dx fs=>H dx=some (.own a)/\fs.length<=1000/\dx≠a/\h.get? a=some (PySem.W.instObj C dx)/\
    ∃ mA,h.Ns1 dx mA/\(∀ f,RelO (fs.lookup f) (mA f))/\PySem.Within mA (fs.map (·.1))
 | .own _=>∃ o,h.get? a=some o
 | .xd fs=>∃ mA,h.Ns1 a mA/\∀ f,RelO (fs.lookup f) (mA f)
 | .rng lo hi=>∃ t u v,h.get? a=some {cls := .type "range",data := .fields #[.int lo t,.int hi u,.int 1 v]}
 | .frz o u=>h.get? a=some o/\ObjOk H h a u
 | .tbl ps=>h.get? a=some {cls := .none,data := .fields ps}
 | .met f x=>h.get? a=some (PySem.W.methodObj (.ref f) (.ref x))
 | .ext φ=>φ h/\(∃ o,h.get? a=some o)/\∀ h1 h2:Heap,φ h1->(∀ o,h1.get? a=some o->h2.get? a=some o)->φ h2
noncomputable def HOk(H:Hp)(h:Heap):Prop:=∀ a o,H a=some o->ObjOk P w H h a o
end
section
variable{P:YT}{w:YX}{H H':Hp}{h h':Heap}{a:YN}{o:HO}
theorem ObjOk.lt(x:ObjOk P w H h a o):a<h.objs.size:=by
 cases o with
 | lst xs=>obtain⟨_,_,_,_,e⟩:=x;exact V2 e
 | tup xs=>obtain⟨_,_,_,p⟩:=x;exact p.lt
 | dK kvs=>obtain⟨_,_,_,_,o,_,_,e,_⟩:=x;exact V2 e
 | dT kvs=>obtain⟨_,_,_,_,o,_,_,e,_⟩:=x;exact V2 e
 | set S n=>obtain⟨o,_,_,_,e,_⟩:=x;exact V2 e
 | ins C dx fs=>obtain⟨_,_,_,e,_⟩:=x;exact V2 e
 | own y=>obtain⟨_,e⟩:=x;exact V2 e
 | xd fs=>obtain⟨_,⟨_,_,_,e,_⟩,_⟩:=x;exact V2 e
 | rng lo hi=>obtain⟨_,_,_,e⟩:=x;exact V2 e
 | frz ob u=>obtain⟨e,_⟩:=x;exact V2 e
 | tbl ps=>exact V2 (show h.get? a=some _ from x)
 | met f y=>exact V2 (show h.get? a=some _ from x)
 | ext φ=>obtain⟨_,⟨_,e⟩,_⟩:=x;exact V2 e
theorem Paired.mapP{α β:Type}{F G:α->β->Prop}:∀{l₁:List α} {l₂:List β},Paired F l₁ l₂->(∀ a b,F a b->G a b)->Paired G l₁ l₂
 | _,_,.nil,_ => .nil
 | _,_,.cons r t,f => .cons (f _ _ r) (Paired.mapP t f)
theorem ObjOk.stay(x:ObjOk P w H h a o)(k:∀ b u,(b=a\/H b=some (.own a))->h.get? b=some u->h'.get? b=some u)
 (ho:∀ b,H b=some (.own a)->H' b=some (.own a)) (ht:∀ b xs,H b=some (.tup xs)->H' b=some (.tup xs)):ObjOk P w H' h' a o:=by
 induction o with
 | lst xs=>obtain⟨z,its,n,r,e⟩:=x;exact⟨z,its,n,r,k _ _ (.inl rfl) e⟩
 | tup xs=>obtain⟨z,its,r,ob,e,c⟩:=x;exact⟨z,its,r,ob,k _ _ (.inl rfl) e,c⟩
 | dK kvs=>obtain⟨z,y,vs,r,ob,es,ep,e,c⟩:=x;exact⟨z,y,vs,r,ob,es,ep,k _ _ (.inl rfl) e,c⟩
 | dT kvs=>
   obtain⟨z,y,xs,r,ob,es,ep,e,c⟩:=x;exact⟨z,y,xs,Paired.mapP r λp q z=>⟨z.1,ht _ _ z.2.1,z.2.2⟩,ob,es,ep,k _ _ (.inl rfl) e,c⟩
 | set S n=>obtain⟨ob,es,ep,t,e,c⟩:=x;exact⟨ob,es,ep,t,k _ _ (.inl rfl) e,c⟩
 | ins C dx fs=>
   obtain⟨d,z,ne,e,mA,⟨od,es,ep,e2,c⟩,r⟩:=x;exact⟨ho _ d,z,ne,k _ _ (.inl rfl) e,mA,⟨od,es,ep,k _ _ (.inr d) e2,c⟩,r⟩
 | own y=>obtain⟨ob,e⟩:=x;exact⟨ob,k _ _ (.inl rfl) e⟩
 | xd fs=>obtain⟨mA,⟨od,es,ep,e,c⟩,r⟩:=x;exact⟨mA,⟨od,es,ep,k _ _ (.inl rfl) e,c⟩,r⟩
 | rng lo hi=>obtain⟨t,u,v,e⟩:=x;exact⟨t,u,v,k _ _ (.inl rfl) e⟩
 | frz ob u ih=>obtain⟨e,q⟩:=x;exact⟨k _ _ (.inl rfl) e,ih q⟩
 | tbl ps=>
   have e:h.get? a=some {cls := .none,data := .fields ps}:=x;show h'.get? a=some {cls := .none,data := .fields ps};exact k a _ (.inl rfl) e
 | met f y=>
   have e:h.get? a=some (PySem.W.methodObj (.ref f) (.ref y)):=x;show h'.get? a=some (PySem.W.methodObj (.ref f) (.ref y));exact k a _ (.inl rfl) e
 | ext φ=>obtain⟨p,⟨o,e⟩,st⟩:=x;exact⟨st _ _ p λo q=>k _ _ (.inl rfl) q,⟨o,k _ _ (.inl rfl) e⟩,st⟩
theorem HOk.lt(x:HOk P w H h)(e:H a=some o):a<h.objs.size:=(x a o e).lt
theorem HOk.fresh(x:HOk P w H h)(e:h.objs.size<=a):H a=none:=by
 cases q:H a with
 | none=>rfl
 | some u=>exact absurd (VI (x.lt q) e) (WH _)
theorem HOk.kept(x:HOk P w H h)(k:∀ b u,h.get? b=some u->h'.get? b=some u):HOk P w H h':=λa o e=>
 (x a o e).stay (λb u _ q=>k b u q) (λ_ q=>q) λ_ _ q=>q
theorem HOk.laid(x:HOk P w H h)(k:∀ b u,h.get? b=some u->h'.get? b=some u)(hp:h.objs.size<=a)(new:ObjOk P w (upd H a o) h' a o):HOk P w (upd H a o) h':=λb u e=>by
 have hn:=x.fresh hp;by_cases hb:b=a
 ·subst hb;rw[n6]at e;cases e;exact new
 ·rw[upd_ne hb]at e;exact(x b u e).stay (λc v _ q=>k c v q) (λc q=>by rw[upd_ne (g7 q hn)];exact q) λc xs q=>by rw[upd_ne (g7 q hn)];exact q
end
def Rd(H:Hp)(a:YN)(u:HO):Prop:=H a=some u\/∃ o,H a=some (.frz o u)
theorem Rd.ok{P:YT}{w:YX}{H:Hp}{h:Heap}{a:YN}{u:HO}(r:Rd H a u)(x:HOk P w H h):ObjOk P w H h a u:=by
 rcases r with r | ⟨o,r⟩
 ·exact x a u r
 ·obtain⟨_,q⟩:=x a _ r;exact q
def Mut:Option HO->Prop
 | some (.lst _)=>True
 | some (.dK _)=>True
 | some (.dT _)=>True
 | some (.set _ _)=>True
 | some (.ins _ _ _)=>True
 | some (.ext _)=>True
 | _=>False
section
variable{P:YT}{w:YX}{H:Hp}{h h':Heap}{x e:YN}{o':HO}
theorem HOk.write(ok:HOk P w H h)(mu:Mut (H x))(he:e=x\/H e=some (.own x))(k:∀ b u,b≠e->h.get? b=some u->h'.get? b=some u)(heo:∃ u,h'.get? e=some u)
 (new:ObjOk P w (upd H x o') h' x o'):HOk P w (upd H x o') h':=λb u q=>by
 have nown:∀ c y,H c=some (.own y)->c≠x:=λc y r z=>by subst z;rw[r]at mu;exact mu
 have ntup:∀ c xs,H c=some (.tup xs)->c≠x:=λc xs r z=>by subst z;rw[r]at mu;exact mu
 by_cases hb:b=x
 ·subst hb;rw[n6]at q;cases q;exact new
 ·rw[upd_ne hb]at q;by_cases hbe:b=e
  ·have q':H b=some (.own x):=by
    rcases he with z | z
    ·exact absurd (hbe.trans z) hb
    ·rw[hbe];exact z
   rw[q]at q';cases q';obtain⟨v,hv⟩:=heo;exact⟨v,by rw[hbe];exact hv⟩
  ·refine(ok b u q).stay (λc v hc r=>k c v ?_ r) (λc r=>by rw[upd_ne (nown c b r)];exact r) λc xs r=>by rw[upd_ne (ntup c xs r)];exact r
   rcases hc with rfl | hc
   ·exact hbe
   ·rintro rfl;rcases he with z | z
    ·exact nown c b hc z
    ·rw[hc]at z;cases z;exact hb rfl
end
structure Un(fs ex:List YN)(H H':Hp)(h h':Heap):Prop where
 keep:∀ b o,h.get? b=some o->H b=none->b∉fs->b∉ex->h'.get? b=some o
 slot:∀ b o,h.get? b=some o->H b=none->b∈fs->b∉ex->∃ sl,h'.get? b=some {o with slots:=sl}
 free:∀ b o,h.get? b=some o->H b=none->b∉ex->H' b=none
 there:∀ b o,h.get? b=some o->b∉ex->∃ o',h'.get? b=some o'
 tups:∀ b xs,H b=some (.tup xs)->H' b=some (.tup xs)
 frzs:∀ b o u,H b=some (.frz o (.lst u))->H' b=some (.frz o (.lst u))
 tbls:∀ b ps,H b=some (.tbl ps)->∃ more,H' b=some (.tbl (ps++more))
section
variable{fs fs' ex ex':List YN}{H H1 H2:Hp}{h h1 h2 h':Heap}{a x e:YN}{o:HO}
theorem Un.any(u:Un fs ex H H1 h h1){b:YN}{ob:Obj}(q:h.get? b=some ob)(n:H b=none)(hx:b∉ex):∃ sl,h1.get? b=some {ob with slots:=sl}:=by
 by_cases hb:b∈fs
 ·exact u.slot b ob q n hb hx
 ·exact⟨ob.slots,u.keep b ob q n hb hx⟩
theorem Un.kept(k:∀ b u,h.get? b=some u->h'.get? b=some u):Un fs ex H H h h':=
 ⟨λb ob q _ _ _=>k b ob q,λb ob q _ _ _=>⟨ob.slots,k b ob q⟩,λ_ _ _ n _=>n,λb ob q _=>⟨ob,k b ob q⟩,λ_ _ q=>q,λ_ _ _ q=>q,λ_ ps q=>⟨#[],by rw[q];simp⟩⟩
theorem Un.refl:Un fs ex H H h h:=Un.kept λ_ _ q=>q
theorem Un.laid(k:∀ b u,h.get? b=some u->h'.get? b=some u)(hp:h.objs.size<=a)(hn:H a=none):Un fs ex H (upd H a o) h h' where
 keep:=λb u q _ _ _=>k b u q
 slot:=λb u q _ _ _=>⟨u.slots,k b u q⟩
 free:=λb u q n _=>by rw[upd_ne (V4 (VI (V2 q) hp))];exact n
 there:=λb u q _=>⟨u,k b u q⟩
 tups:=λb xs q=>by rw[upd_ne (g7 q hn)];exact q
 frzs:=λb u xs q=>by rw[upd_ne (g7 q hn)];exact q
 tbls:=λb ps q=>⟨#[],by rw[upd_ne (g7 q hn),q];simp⟩
theorem Un.write(mu:Mut (H x))(he:e=x\/H e=some (.own x))(k:∀ b u,b≠e->h.get? b=some u->h'.get? b=some u)(heo:∃ u,h'.get? e=some u):Un fs ex H (upd H x o) h h':=by
 have hx:∀ b,H b=none->b≠x:=λb n z=>by subst z;rw[n]at mu;exact mu
 have hb:∀ b,H b=none->b≠e:=λb n z=>by
  subst z;rcases he with r | r
  ·exact hx b n r
  ·rw[n]at r;cases r
 have hm:∀ b u,H b=some u->¬ Mut (some u)->b≠x:=λb u q nm z=>by subst z;rw[q]at mu;exact nm mu
 refine⟨λb u q n _ _=>k b u (hb b n) q,λb u q n _ _=>⟨u.slots,k b u (hb b n) q⟩,λb u q n _=>by rw[upd_ne (hx b n)];exact n,λb u q _=>?_,
  λb xs q=>by rw[upd_ne (hm b _ q λz=>z)];exact q,λb u xs q=>by rw[upd_ne (hm b _ q λz=>z)];exact q,λb ps q=>⟨#[],by rw[upd_ne (hm b _ q λz=>z),q];simp⟩⟩
 by_cases hbe:b=e
 ·subst hbe;exact heo
 ·exact⟨u,k b u hbe q⟩
end
def trk(h:Heap)(H:Hp):List YN:=(Uy h.objs.size).filter λa=>(H a).isSome
noncomputable def EN(h:Heap)(H:Hp):Heap:=PySem.W.hideAll h (trk h H)
theorem JD(h:Heap)(H:Hp):(EN h H).objs.size=h.objs.size:=PySem.W.hideAll_size _ _
theorem KP{h:Heap}{H:Hp}{b:YN}{o:Obj}(e:h.get? b=some o)(n:H b=none):(EN h H).get? b=some o:=
 PySem.W.hideAll_get _ e λhm=>by
  have q:(H b).isSome=true:=(Vi.mp hm).2;rw[n]at q;simp at q
theorem NV{h:Heap}{H:Hp}{b:YN}{o:Obj}(e:(EN h H).get? b=some o):h.get? b=some o/\H b=none:=by
 have e':h.get? b=some o:=PySem.W.of_hideAll (trk h H) e;refine⟨e',?_⟩;cases q:H b with
 | none=>rfl
 | some x=>
   have hm:b∈trk h H:=Vi.mpr ⟨VG.mpr (V2 e'),by simp[q]⟩;have z:(EN h H).get? b=none:=PySem.W.hideAll_none (trk h H) hm;rw[z]at e;cases e
structure Mod(K:Um)(mg:Str->Option YK)(base:Heap):Prop where
 kin:K.In base
 glob:base.Ns YW mg
 blt:∃ mb,base.Ns Zs mb/\∀ x:Str,x≠"__name__"->mb x=Ya x
 nolimit:base.NoLimit
structure Cx where
 prog:YT
 w:YX
 K:Um
 mg:Str->Option YK
 base:Heap
 A:YZ
 N:List Str
 s₀:YM
 H₀:Hp
 env:Env
 outer:List Env
 stack:List Env
 ex:List YN
 fn:Str->Bool
 calm:Bool
 pn:List (YN×Obj)
 xe:YK->YM->Prop
def frs(l:List Env):List YN:=l.filterMap (·.frame)
abbrev Cx.fs(X:Cx):List YN:=frs X.outer
def Vis(sc:Yd)(x:Str):Prop:=sc.names.lookup x=some .local\/sc.names.lookup x=some .cell\/sc.names.lookup x=some .free
def Loc(sc:Yd)(x:Str):Prop:=sc.names.lookup x=some .local\/sc.names.lookup x=some .cell
def Look(env:Env)(h:Heap)(m:Str->Option YK)(x:Str)(u:YK):Prop:=
 (env.kindOf x=some .local/\m x=some u)\/((env.kindOf x=some .cell\/env.kindOf x=some .free)/\∃ c,env.cells.lookup x=some c/\h.IsCell c (some u))
structure Cx.Ok(X:Cx):Prop where
 mod:Mod X.K X.mg X.base
 kind:X.env.scope.kind = .function
 glob:X.env.globals=YW
 blt:X.env.builtins=Zs
 above:X.s₀.heap.objs.size<=X.env.locals
 inj:∀ x y c,X.env.cells.lookup x=some c->X.env.cells.lookup y=some c->x=y
 has:∀ x,(X.env.kindOf x=some .cell\/X.env.kindOf x=some .free)->∃ c,X.env.cells.lookup x=some c
 cab:∀ x c,X.fn x=true->X.env.cells.lookup x=some c->X.s₀.heap.objs.size<=c
 hd:X.calm=true->X.A.handled=none
 frames:X.A.frames=some X.stack
 stk:X.stack=X.outer\/(X.stack=X.env::X.outer/\X.env.frame=some X.env.locals)
 exf:∀ b∈X.ex,b≠X.env.locals/\∀ x c,X.env.cells.lookup x=some c->c≠b
 bs:∀ b o,X.base.get? b=some o->X.s₀.heap.get? b=some o/\X.H₀ b=none
 bsz:X.base.objs.size<=X.s₀.heap.objs.size
 noex:∀ b o,X.base.get? b=some o->b∉X.ex
 exfs:∀ b∈X.ex,b∉X.fs
 funs:X.s₀.heap.FunFrames X.base X.outer
 frf:∀ b∈X.fs,X.H₀ b=none
structure Inv(X:Cx)(pq:List (YN×Obj))(σ:List (Option V))(H:Hp)(s:YM):Prop where
 ok:X.Ok
 os:s.os=X.s₀.os
 bare:AllBare s.gens
 base:Un X.fs X.ex X.H₀ H X.s₀.heap s.heap
 loc:∃ m,s.heap.Ns X.env.locals m/\∀(i:Nat) (x:Str) (v:V),X.N[i]?=some x->σ[i]?=some (some v)->Vis X.env.scope x->∃ u,RelV v u/\Look X.env s.heap m x u
 cell:∀ x c,X.env.cells.lookup x=some c->∃ v,s.heap.IsCell c v
 free:H X.env.locals=none
 freeC:∀ x c,X.env.cells.lookup x=some c->H c=none
 pin:∀ p∈X.pn++pq,s.heap.get? p.1=some p.2/\H p.1=none/\p.1≠X.env.locals/\p.1∉X.fs/\∀ v,p.2.data ≠ .cell v
 hok:HOk X.prog X.w H s.heap
 len:σ.length=X.N.length
section
variable{X:Cx}{pq:List (YN×Obj)}{σ:List (Option V)}{H H':Hp}{s:YM}{h':Heap}
theorem Cx.Ok.nofr(ok:X.Ok){b:YN}{o:Obj}(e:X.base.get? b=some o):b∉X.fs:=λhb=>by
 have:=(ok.funs.mem hb).1;rw[e]at this;cases this
theorem Inv.bs(I:Inv X pq σ H s):∀ b o,X.base.get? b=some o->s.heap.get? b=some o/\H b=none:=λb o e=>
 ⟨I.base.keep b o (I.ok.bs b o e).1 (I.ok.bs b o e).2 (I.ok.nofr e) (I.ok.noex b o e),I.base.free b o (I.ok.bs b o e).1 (I.ok.bs b o e).2 (I.ok.noex b o e)⟩
theorem Inv.bk(I:Inv X pq σ H s):∀ b o,X.base.get? b=some o->s.heap.get? b=some o:=λb o e=>(I.bs b o e).1
theorem Inv.mod(I:Inv X pq σ H s):Mod X.K X.mg X.base:=I.ok.mod
theorem Inv.kIn(I:Inv X pq σ H s):X.K.In s.heap:=I.ok.mod.kin.keeps I.bk
theorem Inv.lt(I:Inv X pq σ H s):X.env.locals<s.heap.objs.size:=let ⟨_,hn,_⟩:=I.loc;hn.lt
theorem Inv.sz(I:Inv X pq σ H s):X.s₀.heap.objs.size<=s.heap.objs.size:=VF I.ok.above (XN I.lt)
theorem Inv.nofs(I:Inv X pq σ H s){a:YN}(h:s.heap.objs.size<=a):a∉X.fs:=λhb=>by
 obtain⟨_,o,ho,_⟩:=I.ok.funs.mem hb;exact absurd (VI (V2 ho) (VF I.sz h)) (WH _)
theorem Inv.cne(I:Inv X pq σ H s):∀ x c,X.env.cells.lookup x=some c->c≠X.env.locals:=λx c e z=>by
 obtain⟨v,o,ho,hd⟩:=I.cell x c e;obtain⟨m,⟨o',es,ep,ho',hd',_⟩,_⟩:=I.loc;rw[z,ho']at ho;cases ho;rw[hd']at hd;cases hd
theorem Inv.funs(I:Inv X pq σ H s):s.heap.FunFrames X.base X.outer:=by
 have all:∀(l:List Env),(∀ b∈frs l,b∈X.fs)->X.s₀.heap.FunFrames X.base l->s.heap.FunFrames X.base l:=by
  intro l
  induction l with
  | nil=>intro _ _;trivial
  | cons env r ih=>
    intro hs hl;obtain⟨hk,⟨L,o,hf,hn,ho,hd⟩,hr⟩:=hl;have hL:L∈X.fs:=hs L (by unfold frs;rw[Wu,hf];exact VJ);obtain⟨sl,e⟩:=I.base.slot L o ho (I.ok.frf L hL) hL λz=>I.ok.exfs L z hL;exact⟨hk,⟨L,_,hf,hn,e,hd⟩,ih (λb hb=>hs b (by unfold frs;rw[Wu,hf];exact VB _ hb)) hr⟩
 exact all X.outer (λ_ hb=>hb) I.ok.funs
theorem Inv.stack(I:Inv X pq σ H s):s.heap.FunFrames X.base X.stack:=by
 rcases I.ok.stk with e | ⟨e,hf⟩
 ·rw[e];exact I.funs
 ·rw[e];obtain⟨m,hn,_⟩:=I.loc;refine .cons (by rw[I.ok.kind];decide) hf hn ?_ I.funs;exact Heap.get?_none_of_le (VF I.ok.bsz I.ok.above)
theorem Inv.stkSub(I:Inv X pq σ H s):∀ b∈frs X.stack,b∈X.env.locals::X.fs:=λb hb=>by
 rcases I.ok.stk with e | ⟨e,hf⟩
 ·rw[e]at hb;exact VB _ hb
 ·rw[e]at hb;unfold frs at hb;rw[Wu,hf]at hb;exact hb
theorem Inv.stkFree(I:Inv X pq σ H s):∀ b∈frs X.stack,H b=none:=λb hb=>by
 rcases VA.mp (I.stkSub b hb) with e | hb
 ·rw[e];exact I.free
 ·obtain⟨_,o,ho,_⟩:=I.ok.funs.mem hb;exact I.base.free b o ho (I.ok.frf b hb) λz=>I.ok.exfs b z hb
theorem Inv.step{g':Array A09}{t':Nat}{d':Drawn}{ch:List YN}(I:Inv X pq σ H s)
 (hch:∀ b∈ch,(b∈X.ex\/X.s₀.heap.objs.size<=b)/\b≠X.env.locals/\(∀ x c,X.env.cells.lookup x=some c->c≠b)/\∀ p∈X.pn++pq,p.1≠b)
 (keep:∀ b o,b≠X.env.locals->b∉X.fs->b∉ch->s.heap.get? b=some o->H b=none->h'.get? b=some o)
 (slot:∀ b o,b≠X.env.locals->b∈X.fs->b∉ch->s.heap.get? b=some o->H b=none->∃ sl,h'.get? b=some {o with slots:=sl}) (free:∀ b o,b∉ch->s.heap.get? b=some o->H b=none->H' b=none)
 (there:∀ b o,b∉ch->s.heap.get? b=some o->∃ o',h'.get? b=some o')
 (tups:∀ b xs,H b=some (.tup xs)->H' b=some (.tup xs)) (frzs:∀ b o u,H b=some (.frz o (.lst u))->H' b=some (.frz o (.lst u))) (tbls:∀ b ps,H b=some (.tbl ps)->∃ more,H' b=some (.tbl (ps++more)))
 (ns:∀ m,s.heap.Ns X.env.locals m->h'.Ns X.env.locals m) (hok:HOk X.prog X.w H' h') (hg:AllBare g'):
 Inv X pq σ H' {s with heap:=h',gens:=g',drawn:=d',toks:=t'}:=by
 have neL:∀ b o,X.s₀.heap.get? b=some o->b≠X.env.locals:=λb o e=>V4 (VI (V2 e) I.ok.above)
 have neC:∀ b o,X.s₀.heap.get? b=some o->b∉X.ex->b∉ch:=λb o e hx hb=>by
  rcases(hch b hb).1 with z | z
  ·exact hx z
  ·exact absurd (VI (V2 e) z) (WH _)
 have cellK:∀ x c,X.env.cells.lookup x=some c->∀ v,s.heap.IsCell c v->h'.IsCell c v:=λx c e v ⟨o,ho,hd⟩=>by
  have nch:c∉ch:=λz=>(hch c z).2.2.1 x c e rfl;by_cases hc:c∈X.fs
  ·obtain⟨sl,q⟩:=slot c o (I.cne x c e) hc nch ho (I.freeC x c e);exact⟨_,q,hd⟩
  ·exact⟨o,keep c o (I.cne x c e) hc nch ho (I.freeC x c e),hd⟩
 refine⟨I.ok,I.os,hg,⟨λb o e n hb hx=>?_,λb o e n hb hx=>?_,λb o e n hx=>?_,λb o e hx=>?_,λb xs e=>tups b xs (I.base.tups b xs e),λb o xs e=>frzs b o xs (I.base.frzs b o xs e),λb ps e=>?_⟩,?_,λx c e=>?_,?_,λx c e=>?_,λp hp=>?_,hok,I.len⟩
 ·exact keep b o (neL b o e) hb (neC b o e hx) (I.base.keep b o e n hb hx) (I.base.free b o e n hx)
 ·obtain⟨sl,e1⟩:=I.base.slot b o e n hb hx;obtain⟨sl',e2⟩:=slot b _ (neL b o e) hb (neC b o e hx) e1 (I.base.free b o e n hx);exact⟨sl',e2⟩
 ·obtain⟨o',e1⟩:=I.base.there b o e hx;exact free b o' (neC b o e hx) e1 (I.base.free b o e n hx)
 ·obtain⟨o',e1⟩:=I.base.there b o e hx;exact there b o' (neC b o e hx) e1
 ·obtain⟨m1,e1⟩:=I.base.tbls b ps e;obtain⟨m2,e2⟩:=tbls b _ e1;exact⟨m1++m2,by rw[e2,Array.append_assoc]⟩
 ·obtain⟨m,hn,hl⟩:=I.loc;refine⟨m,ns m hn,λi x v e1 e2 e3=>?_⟩;obtain⟨u,r,l⟩:=hl i x v e1 e2 e3;refine⟨u,r,?_⟩;rcases l with l | ⟨k,c,e,z⟩
  ·exact .inl l
  ·exact .inr ⟨k,c,e,cellK x c e _ z⟩
 ·obtain⟨v,z⟩:=I.cell x c e;exact⟨v,cellK x c e v z⟩
 ·obtain⟨m,⟨o,_,_,ho,_⟩,_⟩:=I.loc;exact free _ o (λz=>(hch _ z).2.1 rfl) ho I.free
 ·obtain⟨v,o,ho,hd⟩:=I.cell x c e;exact free c o (λz=>(hch c z).2.2.1 x c e rfl) ho (I.freeC x c e)
 ·obtain⟨e,n,ne,nf,d⟩:=I.pin p hp;have nch:p.1∉ch:=λz=>(hch p.1 z).2.2.2 p hp rfl;exact⟨keep p.1 p.2 ne nf nch e n,free p.1 p.2 nch e n,ne,nf,d⟩
theorem Inv.un{t':Nat}(I:Inv X pq σ H s)(u:Un X.fs [] H H' s.heap h')(hok:HOk X.prog X.w H' h'):Inv X pq σ H' {s with heap:=h',toks:=t'}:=by
 obtain⟨m,⟨o,es,ep,ho,r⟩,_⟩:=id I.loc;obtain⟨sl,hL⟩:=u.any ho I.free (by simp)
 exact I.step (g':=s.gens) (d':=s.drawn) (ch:=[]) (λ_ z=>nomatch z) (λb o _ hb _ e n=>u.keep b o e n hb (by simp)) (λb o _ hb _ e n=>u.slot b o e n hb (by simp)) (λb o _ e n=>u.free b o e n (by simp)) (λb o _ e=>u.there b o e (by simp)) u.tups u.frzs u.tbls (λm' hm=>by
  obtain⟨o',es',ep',ho',r'⟩:=hm;rw[ho]at ho';cases ho';exact⟨_,es',ep',hL,r'⟩) hok I.bare
theorem Inv.call{g':Array A09}{t':Nat}{d':Drawn}{ch:List YN}(I:Inv X pq σ H s)(u:Un (frs X.stack) ch H H' s.heap h')(hok:HOk X.prog X.w H' h')(hg:AllBare g')
 (hch:∀ b∈ch,(b∈X.ex\/X.s₀.heap.objs.size<=b)/\b≠X.env.locals/\(∀ x c,X.env.cells.lookup x=some c->c≠b)/\∀ p∈X.pn++pq,p.1≠b):
 Inv X pq σ H' {s with heap:=h',gens:=g',drawn:=d',toks:=t'}:=by
 obtain⟨m,⟨o,es,ep,ho,r⟩,_⟩:=id I.loc;obtain⟨sl,hL⟩:=u.any ho I.free λz=>(hch _ z).2.1 rfl
 exact I.step (ch:=ch) hch (λb o hL hb hc e n=>u.keep b o e n (λz=>(VA.mp (I.stkSub b z)).elim hL hb) hc) (λb o _ _ hc e n=>u.any e n hc) (λb o hc e n=>u.free b o e n hc) (λb o hc e=>u.there b o e hc) u.tups u.frzs u.tbls (λm' hm=>by
  obtain⟨o',es',ep',ho',r'⟩:=hm;rw[ho]at ho';cases ho';exact⟨_,es',ep',hL,r'⟩) hok hg
theorem Inv.turned{t':Nat}{it:YN}(I:Inv X pq σ H s)(k:∀ b o,b≠it->s.heap.get? b=some o->h'.get? b=some o)(hn:H it=none)(hL:it≠X.env.locals)
 (h1:it∈X.ex\/X.s₀.heap.objs.size<=it) (h2:∀ x c,X.env.cells.lookup x=some c->c≠it) (h3:∀ p∈X.pn++pq,p.1≠it):Inv X pq σ H {s with heap:=h',toks:=t'}:=by
 have nit:∀ b u,H b=some u->b≠it:=λb u e z=>by rw[z,hn]at e;cases e
 refine I.step (g':=s.gens) (d':=s.drawn) (ch:=[it]) (λb hb=>?_) (λb o _ _ hc e _=>k b o (λz=>hc (by simp[z])) e) (λb o _ _ hc e _=>⟨o.slots,k b o (λz=>hc (by simp[z])) e⟩) (λ_ _ _ _ n=>n)
  (λb o hc e=>⟨o,k b o (λz=>hc (by simp[z])) e⟩) (λ_ _ e=>e) (λ_ _ _ e=>e) (λb ps e=>⟨#[],by rw[e];simp⟩) (λm hm=>?_) (λb u e=>?_) I.bare
 ·have e:b=it:=by simpa using hb
  subst e;exact⟨h1,hL,h2,h3⟩
 ·obtain⟨o,es,ep,ho,r⟩:=hm;exact⟨o,es,ep,k _ o (Ne.symm hL) ho,r⟩
 ·refine(I.hok b u e).stay (λc v hc q=>k c v ?_ q) (λ_ q=>q) λ_ _ q=>q;rcases hc with z | z
  ·rw[z];exact nit b u e
  ·exact nit c _ z
theorem Inv.tok(I:Inv X pq σ H s)(t:Nat):Inv X pq σ H {s with toks:=t}:=I.un (h':=s.heap) (t':=t) Un.refl I.hok
theorem Inv.kept{t':Nat}(I:Inv X pq σ H s)(k:∀ b u,s.heap.get? b=some u->h'.get? b=some u):Inv X pq σ H {s with heap:=h',toks:=t'}:=I.un (Un.kept k) (I.hok.kept k)
theorem Inv.laid{a:YN}{o:HO}{t':Nat}(I:Inv X pq σ H s)(k:∀ b u,s.heap.get? b=some u->h'.get? b=some u)(hp:s.heap.objs.size<=a)(new:ObjOk X.prog X.w (upd H a o) h' a o):
 Inv X pq σ (upd H a o) {s with heap:=h',toks:=t'}:=I.un (Un.laid k hp (I.hok.fresh hp)) (I.hok.laid k hp new)
theorem Inv.write{x e:YN}{o:HO}{t':Nat}(I:Inv X pq σ H s)(mu:Mut (H x))(he:e=x\/H e=some (.own x))(k:∀ b u,b≠e->s.heap.get? b=some u->h'.get? b=some u)(heo:∃ u,h'.get? e=some u)
 (new:ObjOk X.prog X.w (upd H x o) h' x o):Inv X pq σ (upd H x o) {s with heap:=h',toks:=t'}:=I.un (Un.write mu he k heo) (I.hok.write mu he k heo new)
theorem Inv.weak{σ':List (Option V)}(I:Inv X pq σ H s)(hl:σ'.length=σ.length)(w:∀(i:Nat) v,σ'[i]?=some (some v)->σ[i]?=some (some v)):Inv X pq σ' H s:=
 ⟨I.ok,I.os,I.bare,I.base,let ⟨m,hn,hl'⟩:=I.loc;⟨m,hn,λi x v e1 e2 e3=>hl' i x v e1 (w i v e2) e3⟩,I.cell,I.free,I.freeC,I.pin,I.hok,hl.trans I.len⟩
theorem Inv.pins_of{pq':List (YN×Obj)}(I:Inv X pq σ H s)(h:∀ p∈pq',s.heap.get? p.1=some p.2/\H p.1=none/\p.1≠X.env.locals/\p.1∉X.fs/\∀ v,p.2.data ≠ .cell v):Inv X pq' σ H s:=
 ⟨I.ok,I.os,I.bare,I.base,I.loc,I.cell,I.free,I.freeC,λp hp=>(VD.mp hp).elim (λz=>I.pin p (Vf _ z)) (h p),I.hok,I.len⟩
theorem F8{N:List Str}(hN:N.Nodup){i j:Nat}{x:Str}(a:N[i]?=some x)(b:N[j]?=some x):i=j:=by
 obtain⟨h1,e1⟩:=gM a;obtain⟨h2,e2⟩:=gM b;exact(List.getElem_inj hN).mp (e1.trans e2.symm)
theorem Do{M:Model}{A:YZ}{E:YK->YM->Prop}{i:Nat}{x:Str}{v:V}{u:YK}{Q:Unit->YM->Prop}(I:Inv X pq σ H s)(hN:X.N.Nodup)(hi:X.N[i]?=some x)(hx:Loc X.env.scope x)(r:RelV v u)
 (h:∀ s',Inv X pq (σ.set i (some v)) H s'->(∃ a,WJ a s.heap s'.heap/\(a=X.env.locals\/X.env.cells.lookup x=some a))->Q () s') (hf:X.fn x=true\/X.env.scope.names.lookup x=some .local:=by first | exact .inl rfl | exact .inr rfl | assumption):YV M A (storeName X.env x u) Q E s:=by
 obtain⟨m,hn,hl⟩:=id I.loc;have hcls:(X.env.scope.kind == .class||(X.env.scope.kind == .module&&X.env.locals != X.env.globals))=false:=by rw[I.ok.kind];rfl
 have hiσ:i<σ.length:=by rw[I.len];exact(gM hi).1
 have cne:=I.cne
 have tracked:∀{a:YN} {h':Heap},(∃ o,s.heap.get? a=some o/\H a=none)->WJ a s.heap h'->HOk X.prog X.w H h':=λ{a h'} ha hs b ob e=>by
  obtain⟨_,_,hfree⟩:=ha;refine(I.hok b ob e).stay (λc w' hc q=>(hs.2 c ?_).trans q) (λ_ q=>q) λ_ _ q=>q;rintro rfl;rcases hc with rfl | hc
  ·rw[hfree]at e;cases e
  ·rw[hfree]at hc;cases hc
 rcases hx with hk | hk
 ·refine wpAny_storeName_local hk hn (λh' hn' hs=>?_) hcls;obtain⟨oL,_,_,hoL,_⟩:=id hn;refine h _ ⟨I.ok,I.os,I.bare,⟨λb o e n hb hx=>?_,λb o e n hb hx=>?_,I.base.free,λb o e hx=>?_,I.base.tups,I.base.frzs,I.base.tbls⟩,⟨_,hn',λj y v' e1 e2 e3=>?_⟩,λy c e=>?_,I.free,I.freeC,λp hp=>?_,tracked ⟨oL,hoL,I.free⟩ hs,by simpa using I.len⟩ ⟨_,hs,.inl rfl⟩
  ·exact(hs.2 b (V4 (VI (V2 e) I.ok.above))).trans (I.base.keep b o e n hb hx)
  ·obtain⟨sl,e1⟩:=I.base.slot b o e n hb hx;exact⟨sl,(hs.2 b (V4 (VI (V2 e) I.ok.above))).trans e1⟩
  ·obtain⟨o',e1⟩:=I.base.there b o e hx;exact⟨o',(hs.2 b (V4 (VI (V2 e) I.ok.above))).trans e1⟩
  ·by_cases hj:j=i
   ·subst hj;rw[hi]at e1;cases e1;rw[V6 hiσ]at e2;cases e2;exact⟨u,r,.inl ⟨hk,by simp⟩⟩
   ·rw[VR (Ne.symm hj)]at e2;obtain⟨u',r',q⟩:=hl j y v' e1 e2 e3;refine⟨u',r',?_⟩;rcases q with⟨k,e⟩ | ⟨k,c,e,z⟩
    ·refine .inl ⟨k,?_⟩;have:y≠x:=λe=>hj (F8 hN e1 (e▸hi));simp[this,e]
    ·exact .inr ⟨k,c,e,z.sameBut hs (cne y c e)⟩
  ·obtain⟨w',z⟩:=I.cell y c e;exact⟨w',z.sameBut hs (cne y c e)⟩
  ·obtain⟨e,n,ne,nf,d⟩:=I.pin p hp;exact⟨(hs.2 p.1 ne).trans e,n,ne,nf,d⟩
 ·have hfn:X.fn x=true:=by
   rcases hf with z | z
   ·exact z
   ·rw[z]at hk;cases hk
  obtain⟨c,hc⟩:=I.ok.has x (.inl hk);obtain⟨w',z⟩:=I.cell x c hc;refine wpAny_storeName_cell I.ok.kind hk hc z (λh' hc' hs=>?_);obtain⟨oc,hoc,hocd⟩:=id z;refine h {s with heap:=h'} ⟨I.ok,I.os,I.bare,⟨λb o e n hb hx=>?_,λb o e n hb hx=>?_,I.base.free,λb o e hx=>?_,I.base.tups,I.base.frzs,I.base.tbls⟩,⟨m,hn.sameBut hs (Ne.symm (cne x c hc)),λj y v' e1 e2 e3=>?_⟩,λy c' e=>?_,I.free,I.freeC,λp hp=>?_,tracked ⟨oc,hoc,I.freeC x c hc⟩ hs,by simpa using I.len⟩ ⟨c,hs,.inr hc⟩
  ·exact(hs.2 b (V4 (VI (V2 e) (I.ok.cab x c hfn hc)))).trans (I.base.keep b o e n hb hx)
  ·obtain⟨sl,e1⟩:=I.base.slot b o e n hb hx;exact⟨sl,(hs.2 b (V4 (VI (V2 e) (I.ok.cab x c hfn hc)))).trans e1⟩
  ·obtain⟨o',e1⟩:=I.base.there b o e hx;exact⟨o',(hs.2 b (V4 (VI (V2 e) (I.ok.cab x c hfn hc)))).trans e1⟩
  ·by_cases hj:j=i
   ·subst hj;rw[hi]at e1;cases e1;rw[V6 hiσ]at e2;cases e2;exact⟨u,r,.inr ⟨.inl hk,c,hc,hc'⟩⟩
   ·rw[VR (Ne.symm hj)]at e2;obtain⟨u',r',q⟩:=hl j y v' e1 e2 e3;refine⟨u',r',?_⟩;rcases q with q | ⟨k,c',e,z'⟩
    ·exact .inl q
    ·refine .inr ⟨k,c',e,z'.sameBut hs ?_⟩;rintro rfl;exact hj (F8 hN e1 (I.ok.inj _ _ _ e hc▸hi))
  ·by_cases hcc:c'=c
   ·subst hcc;exact⟨_,hc'⟩
   ·obtain⟨w2,z2⟩:=I.cell y c' e;exact⟨w2,z2.sameBut hs hcc⟩
  ·obtain⟨e,n,ne,nf,d⟩:=I.pin p hp;refine⟨(hs.2 p.1 ?_).trans e,n,ne,nf,d⟩;intro q;rw[q,hoc]at e;have q':oc=p.2:=oj e;exact d w' (by rw[<-q'];exact hocd)
theorem Br{M:Model}{A:YZ}{E:YK->YM->Prop}{i:Nat}{x:Str}{v:V}{u:YK}{Q:Unit->YM->Prop}(I:Inv X pq σ H s)(hN:X.N.Nodup)(hi:X.N[i]?=some x)(hx:Loc X.env.scope x)(r:RelV v u)
 (h:∀ s',Inv X pq (σ.set i (some v)) H s'->Q () s') (hf:X.fn x=true\/X.env.scope.names.lookup x=some .local:=by first | exact .inl rfl | exact .inr rfl | assumption):YV M A (storeName X.env x u) Q E s:=
 Do I hN hi hx r (λs' I' _=>h s' I') hf
theorem Inv.call'{s':YM}{ch:List YN}(I:Inv X pq σ H s)(ho:s'.os=s.os)(u:Un (frs X.stack) ch H H' s.heap s'.heap)(hok:HOk X.prog X.w H' s'.heap)(hg:AllBare s'.gens)
 (hch:∀ b∈ch,(b∈X.ex\/X.s₀.heap.objs.size<=b)/\b≠X.env.locals/\(∀ x c,X.env.cells.lookup x=some c->c≠b)/\∀ p∈X.pn++pq,p.1≠b):Inv X pq σ H' s':=by
 obtain⟨h',g',d',t',o'⟩:=s';have e:o'=s.os:=ho;subst e;exact I.call (g':=g') (t':=t') (d':=d') u hok hg hch
end
abbrev XK:=YK->Option YN->Hp->Prop
abbrev St:=List (Option V)
abbrev VK:=V->Hp->Prop
abbrev TE:=St->Hp->VK->Prop
abbrev TT:=St->Hp->(Bool->Hp->Prop)->Prop
abbrev TA:=St->Hp->(List V->Hp->Prop)->Prop
structure Ends where
 nx:St->Hp->Prop
 rt:VK
 bk:St->Hp->Prop:=λ_ _=>False
 ct:St->Hp->Prop:=λ_ _=>False
abbrev TS:=Ends->St->Hp->Prop
def EP(X:Cx)(pq:List (YN×Obj))(σ:St)(Q:VK)(u:YK)(s':YM):Prop:=∃ v H',Inv X pq σ H' s'/\RelV v u/\Q v H'
def TP(X:Cx)(pq:List (YN×Obj))(σ:St)(Q:Bool->Hp->Prop)(b:Bool)(s':YM):Prop:=∃ H',Inv X pq σ H' s'/\Q b H'
def AP(X:Cx)(pq:List (YN×Obj))(σ:St)(Q:List V->Hp->Prop)(us:List YK)(s':YM):Prop:=∃ vs H',Inv X pq σ H' s'/\Vals vs us/\Q vs H'
def SP(X:Cx)(pq:List (YN×Obj))(D:Ends)(f:Flow)(s':YM):Prop:=
 match f with
 | .next=>∃ σ' H',Inv X pq σ' H' s'/\D.nx σ' H'
 | .brk=>∃ σ' H',Inv X pq σ' H' s'/\D.bk σ' H'
 | .cont=>∃ σ' H',Inv X pq σ' H' s'/\D.ct σ' H'
 | .ret u=>∃ v σ' H',Inv X pq σ' H' s'/\RelV v u/\D.rt v H'
noncomputable def PE(X:Cx)(e:Expr)(t:TE):Prop:=
 ∀(pq:List (YN×Obj)) (s:YM) (σ:St) (H:Hp) (Q:VK),Inv X pq σ H s->t σ H Q->YV (YS X.prog X.w) X.A (eval e X.env) (EP X pq σ Q) X.xe s
noncomputable def PT(X:Cx)(e:Expr)(t:TT):Prop:=
 ∀(pq:List (YN×Obj)) (s:YM) (σ:St) (H:Hp) (Q:Bool->Hp->Prop),Inv X pq σ H s->t σ H Q->YV (YS X.prog X.w) X.A (isTrue e X.env (eval e X.env)) (TP X pq σ Q) X.xe s
noncomputable def PW(X:Cx)(e:Expr)(t:TT):Prop:=
 ∀(whole:Sem YK) (pq:List (YN×Obj)) (s:YM) (σ:St) (H:Hp) (Q:Bool->Hp->Prop),Inv X pq σ H s->t σ H Q->YV (YS X.prog X.w) X.A (isTrue e X.env whole) (TP X pq σ Q) X.xe s
theorem PW.pt{X:Cx}{e:Expr}{t:TT}(h:PW X e t):PT X e t:=h _
noncomputable def PA(X:Cx)(es:List Expr)(t:TA):Prop:=
 ∀(pos:Pos) (pq:List (YN×Obj)) (s:YM) (σ:St) (H:Hp) (Q:List V->Hp->Prop),Inv X pq σ H s->t σ H Q->YV (YS X.prog X.w) X.A (spliced (backTo pos (Yc es X.env))) (AP X pq σ Q) X.xe s
noncomputable def PS(X:Cx)(st:Stmt)(t:TS):Prop:=
 ∀(pq:List (YN×Obj)) (s:YM) (σ:St) (H:Hp) (D:Ends),Inv X pq σ H s->t D σ H->YV (YS X.prog X.w) X.A (exec st X.env) (SP X pq D) X.xe s
noncomputable def PSs(X:Cx)(st:List Stmt)(t:TS):Prop:=
 ∀(pq:List (YN×Obj)) (s:YM) (σ:St) (H:Hp) (D:Ends),Inv X pq σ H s->t D σ H->YV (YS X.prog X.w) X.A (execs st X.env) (SP X pq D) X.xe s
theorem thn{α:Type}{t:Sem α}{Q Q':α->YM->Prop}{M:Model}{A:YZ}{E:YK->YM->Prop}{s:YM}(h:YV M A t Q E s)(hQ:∀ a s,Q a s->Q' a s):YV M A t Q' E s:=Yy h hQ λ_ _ x=>x
section
variable{X:Cx}
def NW(i:Nat):TE:=λσ H Q=>∃ v,σ[i]?=some (some v)/\Q v H
def tC(v:V):TE:=λ_ H Q=>Q v H
theorem Qi{i:Nat}{x:Str}{pos:Pos}(hN:X.N[i]?=some x)(hv:Vis X.env.scope x)(hd:(x == ("__debug__":Str))=false:=by decide)(hcd:(x == ("__classdict__":Str))=false:=by decide):PE X (.Name x pos) (NW i):=by
 intro pq s σ H Q I h;obtain⟨v,e,h⟩:=h;obtain⟨m,hn,hl⟩:=I.loc;obtain⟨u,r,l⟩:=hl i x v hN e hv;have fin:EP X pq σ Q u s:=⟨v,H,I,r,h⟩
 rcases l with⟨hk,hm⟩ | ⟨hk,c,hc,hcell⟩
 ·exact A0a (wpAny_loadName_local I.ok.kind hk hn hm fin) hd
 ·rcases hk with hk | hk
  ·exact A0a (wpAny_loadName_cell I.ok.kind hk hc hcell fin) hd
  ·exact A0a (wpAny_loadName_free I.ok.kind hk hc hcell fin hcd) hd
theorem KQ{i j pos}:PE X (.Constant (.int i) j pos) (tC (.int i)):=λ_ _ _ H _ I h=>wpAny_Constant_int ⟨.int i,H,I.tok _,⟨_,rfl⟩,h⟩
theorem Sf{b j pos}:PE X (.Constant (.bool b) j pos) (tC (.bl b)):=λ_ _ _ H _ I h=>Constant_bool ⟨.bl b,H,I,rfl,h⟩
theorem Qj{j pos}:PE X (.Constant .none j pos) (tC .non):=λ_ _ _ H _ I h=>Constant_none ⟨.non,H,I,rfl,h⟩
theorem Qk{x j pos}:PE X (.Constant (.str x) j pos) (tC (.str x)):=λ_ _ _ H _ I h=>Calls.Constant_str ⟨.str x,H,I.tok _,⟨_,rfl⟩,h⟩
def Gl(X:Cx)(x:Str):Prop:=X.env.kindOf x=some .globalImplicit
theorem NX{E:YK->YM->Prop}{pq:List (YN×Obj)}{s:YM}{σ:St}{H:Hp}{x:Str}{u:YK}{pos:Pos}{Q:YK->YM->Prop}(I:Inv X pq σ H s)(hg:Gl X x)(hm:X.mg x=some u)(h:Q u s)
 (hd:(x == ("__debug__":Str))=false:=by decide):YV (YS X.prog X.w) X.A (eval (.Name x pos) X.env) Q E s:=
 Calls.Name_function_global I.ok.kind hg (Calls.loadGlobal_global (by rw[I.ok.glob];exact I.mod.glob.keeps I.bk) hm h) hd
theorem C8{E:YK->YM->Prop}{pq:List (YN×Obj)}{s:YM}{σ:St}{H:Hp}{x:Str}{u:YK}{pos:Pos}{Q:YK->YM->Prop}(I:Inv X pq σ H s)(hg:Gl X x)(hm:X.mg x=none)(hv:Ya x=some u)(h:Q u s)
 (hn:x≠"__name__":=by decide) (hd:(x == ("__debug__":Str))=false:=by decide):YV (YS X.prog X.w) X.A (eval (.Name x pos) X.env) Q E s:=by
 obtain⟨mb,h1,h2⟩:=I.mod.blt;exact Calls.Name_function_global I.ok.kind hg (Calls.loadGlobal_builtin (by rw[I.ok.glob];exact I.mod.glob.keeps I.bk) hm (by rw[I.ok.blt];exact h1.keeps I.bk) ((h2 x hn).trans hv) h) hd
theorem NY{x:Str}{v:V}{u:YK}{pos:Pos}(hg:Gl X x)(hm:X.mg x=none)(hv:Ya x=some u)(r:RelV v u)(hn:x≠"__name__":=by decide)(hd:(x == ("__debug__":Str))=false:=by decide):PE X (.Name x pos) (tC v):=
 λ_ _ _ H _ I h=>C8 I hg hm hv ⟨v,H,I,r,h⟩ hn hd
variable{a b:Expr}{ta tb:TE}{pos:Pos}
variable{tA tB':TT}{rest:List Expr}
def Sh(t u:TT):TT:=λσ H Q=>t σ H λc H1=>if c=true then u σ H1 Q else Q false H1
def tOr(t u:TT):TT:=λσ H Q=>t σ H λc H1=>if c=true then Q true H1 else u σ H1 Q
def Si(t:TT):TT:=λσ H Q=>t σ H λc H1=>Q (!c) H1
theorem NZ(ha:PT X a tA):PW X (.BoolOp .And [a] pos) tA:=by
 intro wh pq s σ H Q I h;refine isTrue_and (thn (ha pq s σ H Q I h) λc s1 e=>?_);cases c with
 | true=>exact isTrue_and_nil e
 | false=>exact e
theorem Ql(ha:PT X a tA):PW X (.BoolOp .Or [a] pos) tA:=by
 intro wh pq s σ H Q I h;refine isTrue_or (thn (ha pq s σ H Q I h) λc s1 e=>?_);cases c with
 | false=>exact isTrue_or_nil e
 | true=>exact e
theorem KR(ha:PT X a tA)(hb:PW X (.BoolOp .And (b::rest) pos) tB'):PW X (.BoolOp .And (a::b::rest) pos) (Sh tA tB'):=by
 intro wh pq s σ H Q I h;refine isTrue_and (thn (ha pq s σ H _ I h) λc s1 ⟨H1,I1,q1⟩=>?_);cases c with
 | true=>exact hb wh pq s1 σ H1 Q I1 q1
 | false=>exact⟨H1,I1,q1⟩
theorem Pk(ha:PT X a tA)(hb:PW X (.BoolOp .Or (b::rest) pos) tB'):PW X (.BoolOp .Or (a::b::rest) pos) (tOr tA tB'):=by
 intro wh pq s σ H Q I h;refine isTrue_or (thn (ha pq s σ H _ I h) λc s1 ⟨H1,I1,q1⟩=>?_);cases c with
 | true=>exact⟨H1,I1,q1⟩
 | false=>exact hb wh pq s1 σ H1 Q I1 q1
theorem Qm(ha:PT X a tA):PT X (.UnaryOp .Not a pos) (Si tA):=by
 intro pq s σ H Q I h;exact isTrue_not (ha pq s σ H (λc H1=>Q (!c) H1) I h)
def Pl(ta tb:TE):TE:=λσ H Q=>ta σ H λx H1=>∃ c,x = .bl c/\if c=true then tb σ H1 Q else Q (.bl false) H1
def Sj(ta tb:TE):TE:=λσ H Q=>ta σ H λx H1=>∃ c,x = .bl c/\if c=true then Q (.bl true) H1 else tb σ H1 Q
def Pm(ta:TE):TE:=λσ H Q=>ta σ H λx H1=>∃ c,x = .bl c/\Q (.bl (!c)) H1
theorem KS{op}{t:TE}(h:PE X a t):PE X (.BoolOp op [a] pos) t:=λpq s σ H Q I hw=>BoolOp_one (h pq s σ H Q I hw)
theorem KU(ha:PE X a ta)(hb:PE X (.BoolOp .And (b::rest) pos) tb):PE X (.BoolOp .And (a::b::rest) pos) (Pl ta tb):=by
 intro pq s σ H Q I h;refine BoolOp_and (thn (ha pq s σ H _ I h) λv s1 ⟨x,H1,I1,r1,q1⟩=>?_);obtain⟨c,rfl,q1⟩:=q1;cases r1;refine Ye ?_;cases c with
 | true=>exact hb pq s1 σ H1 Q I1 q1
 | false=>exact⟨.bl false,H1,I1,rfl,q1⟩
theorem Pn(ha:PE X a ta)(hb:PE X (.BoolOp .Or (b::rest) pos) tb):PE X (.BoolOp .Or (a::b::rest) pos) (Sj ta tb):=by
 intro pq s σ H Q I h;refine BoolOp_or (thn (ha pq s σ H _ I h) λv s1 ⟨x,H1,I1,r1,q1⟩=>?_);obtain⟨c,rfl,q1⟩:=q1;cases r1;refine Ye ?_;cases c with
 | false=>exact hb pq s1 σ H1 Q I1 q1
 | true=>exact⟨.bl true,H1,I1,rfl,q1⟩
theorem Qn(ha:PE X a ta):PE X (.UnaryOp .Not a pos) (Pm ta):=by
 intro pq s σ H Q I h;refine UnaryOp_ (thn (ha pq s σ H _ I h) λv s1 ⟨x,H1,I1,r1,q1⟩=>?_);obtain⟨c,rfl,q1⟩:=q1;cases r1;exact not_of (Ye ⟨.bl (!c),H1,I1,rfl,q1⟩)
def tIf(t:TT)(ta tb:TE):TE:=λσ H Q=>t σ H λc H1=>if c=true then ta σ H1 Q else tb σ H1 Q
theorem KW{c:Expr}(hc:PT X c tA)(ha:PE X a ta)(hb:PE X b tb):PE X (.IfExp c a b pos) (tIf tA ta tb):=by
 intro pq s σ H Q I h;refine wpAny_IfExp (thn (hc pq s σ H _ I h) λd s1 ⟨H1,I1,q1⟩=>?_);cases d with
 | true=>exact ha pq s1 σ H1 Q I1 q1
 | false=>exact hb pq s1 σ H1 Q I1 q1
end
def SqL(K:Um)(H:Hp)(a:YN)(xs:List V):Prop:=
 Rd H a (.lst xs)\/
  ∃(o:Obj) (its:Array YK) (n:Nat),K.lookup a=some o/\o.cls = .type "list"/\o.dict=none/\o.data = .seq its n/\its.size<=YU/\Vals xs its.toList
def SqT(K:Um)(H:Hp)(a:YN)(xs:List V):Prop:=
 Rd H a (.tup xs)\/
  ∃(o:Obj) (its:Array YK) (n:Nat),K.lookup a=some o/\o.cls = .type "tuple"/\o.data = .seq its n/\its.size<=YU/\Vals xs its.toList
def UV:YK->Option V
 | .none=>some .non
 | .bool b=>some (.bl b)
 | .int i _=>some (.int i)
 | .str x _=>some (.str x)
 | .bytes b _=>some (.byt b)
 | .float b _=>some (.flt b)
 | .ref a=>some (.ref a)
 | .type n=>some (.ty n)
 | _=>none
theorem RelV.abs{x:V}{u:YK}(r:RelV x u):UV u=some x:=by
 cases x with
 | non=>cases r;rfl
 | bl _=>cases r;rfl
 | int _=>obtain⟨t,rfl⟩:=r;rfl
 | str _=>obtain⟨t,rfl⟩:=r;rfl
 | byt _=>obtain⟨t,rfl⟩:=r;rfl
 | flt _=>obtain⟨t,rfl⟩:=r;rfl
 | ref _=>cases r;rfl
 | ty _=>cases r;rfl
theorem RelV.inj{x y:V}{u:YK}(r:RelV x u)(q:RelV y u):x=y:=oj (r.abs.symm.trans q.abs)
theorem Vals.inj:∀{xs ys:List V} {us:List YK},Vals xs us->Vals ys us->xs=ys
 | _,_,_,.nil,.nil=>rfl
 | _,_,_,.cons r t,.cons r' t'=>by rw[r.inj r',Vals.inj t t']
section
variable{X:Cx}{pq:List (YN×Obj)}{σ:St}{H:Hp}{s:YM}{a:YN}{xs ys:List V}
theorem SqL.of{K:Um}(h:H a=some (.lst xs)):SqL K H a xs := .inl (.inl h)
theorem SqT.of{K:Um}(h:H a=some (.tup xs)):SqT K H a xs := .inl (.inl h)
theorem Inv.list(I:Inv X pq σ H s)(h:SqL X.K H a xs):∃ its:List YK,Vals xs its/\PlainL s.heap a its.toArray/\xs.length<=YU:=by
 rcases h with h | ⟨o,its,n,hk,hc,hd,hs,hz,r⟩
 ·obtain⟨z,its,n,r,e⟩:=h.ok I.hok;exact⟨its,r,⟨_,n,e,rfl,rfl,rfl⟩,z⟩
 ·refine⟨its.toList,r,⟨o,n,I.kIn a o hk,hc,hd,by simpa using hs⟩,?_⟩;have e:=r.length;simp only[V5]at e;omega
theorem Inv.tuple(I:Inv X pq σ H s)(h:SqT X.K H a xs):∃ its:List YK,Vals xs its/\IsTup s.heap a its.toArray/\xs.length<=YU:=by
 rcases h with h | ⟨o,its,n,hk,hc,hs,hz,r⟩
 ·obtain⟨z,its,r,p⟩:=h.ok I.hok;exact⟨its,r,p,z⟩
 ·refine⟨its.toList,r,⟨o,I.kIn a o hk,hc,n,by simpa using hs⟩,?_⟩;have e:=r.length;simp only[V5]at e;omega
theorem Inv.list_inj(I:Inv X pq σ H s)(h:SqL X.K H a xs)(h':SqL X.K H a ys):xs=ys:=by
 obtain⟨its,r,⟨o,n,e,_,_,d⟩,_⟩:=I.list h;obtain⟨its',r',⟨o',n',e',_,_,d'⟩,_⟩:=I.list h';rw[e]at e';cases e';rw[d]at d';injection d' with d1 _;have:its=its':=by simpa using congrArg YB d1
 subst this;exact r.inj r'
theorem Inv.tuple_inj(I:Inv X pq σ H s)(h:SqT X.K H a xs)(h':SqT X.K H a ys):xs=ys:=by
 obtain⟨its,r,⟨o,e,_,n,d⟩,_⟩:=I.tuple h;obtain⟨its',r',⟨o',e',_,n',d'⟩,_⟩:=I.tuple h';rw[e]at e';cases e';rw[d]at d';injection d' with d1 _;have:its=its':=by simpa using congrArg YB d1
 subst this;exact r.inj r'
end
abbrev Cx.wish(X:Cx)(E:YK->YM->Prop):Cx:={X with xe:=E}
abbrev Cx.nox(X:Cx):Cx:=X.wish λ_ _=>False
theorem Cx.Ok.wish{X:Cx}(ok:X.Ok)(E:YK->YM->Prop):(X.wish E).Ok:=
 ⟨ok.mod,ok.kind,ok.glob,ok.blt,ok.above,ok.inj,ok.has,ok.cab,ok.hd,ok.frames,ok.stk,ok.exf,ok.bs,ok.bsz,ok.noex,ok.exfs,ok.funs,ok.frf⟩
theorem Cx.Ok.unwish{X:Cx}{E:YK->YM->Prop}(ok:(X.wish E).Ok):X.Ok:=
 ⟨ok.mod,ok.kind,ok.glob,ok.blt,ok.above,ok.inj,ok.has,ok.cab,ok.hd,ok.frames,ok.stk,ok.exf,ok.bs,ok.bsz,ok.noex,ok.exfs,ok.funs,ok.frf⟩
section
variable{X:Cx}{pq:List (YN×Obj)}{σ:St}{H:Hp}{s:YM}{E:YK->YM->Prop}
theorem Inv.wish(I:Inv X pq σ H s)(E:YK->YM->Prop):Inv (X.wish E) pq σ H s:=⟨I.ok.wish E,I.os,I.bare,I.base,I.loc,I.cell,I.free,I.freeC,I.pin,I.hok,I.len⟩
theorem Inv.unwish(I:Inv (X.wish E) pq σ H s):Inv X pq σ H s:=⟨I.ok.unwish,I.os,I.bare,I.base,I.loc,I.cell,I.free,I.freeC,I.pin,I.hok,I.len⟩
theorem SP.unwish{D:Ends}{f:Flow}{s':YM}(h:SP (X.wish E) pq D f s'):SP X pq D f s':=by
 cases f with
 | next=>obtain⟨σ',H',I,q⟩:=h;exact⟨σ',H',I.unwish,q⟩
 | brk=>obtain⟨σ',H',I,q⟩:=h;exact⟨σ',H',I.unwish,q⟩
 | cont=>obtain⟨σ',H',I,q⟩:=h;exact⟨σ',H',I.unwish,q⟩
 | ret u=>obtain⟨v,σ',H',I,r,q⟩:=h;exact⟨v,σ',H',I.unwish,r,q⟩
theorem PSs.nox{st:List Stmt}{t:TS}(h:PSs X.nox st t):PSs X st t:=λpq s σ H D I hw=>
 Yy (h pq s σ H D (I.wish _) hw) (λ_ _ q=>q.unwish) λ_ _ z=>False.elim z
end
section
variable{X:Cx}{st:Stmt}{rest:List Stmt}{t u:TS}{e:Expr}{te:TE}{pos:Pos}
def Sm:TS:=λD σ H=>D.nx σ H
def UW(t u:TS):TS:=λD σ H=>t {D with nx:=u D} σ H
theorem Na:PSs X [] Sm:=λ_ _ σ H _ I h=>ZO ⟨σ,H,I,h⟩
theorem KY(h1:PS X st t)(h2:PSs X rest u):PSs X (st::rest) (UW t u):=by
 intro pq s σ H D I h;refine wpAny_execs_cons (thn (h1 pq s σ H {D with nx:=u D} I h) λf s1 q=>?_);cases f with
 | next=>
   obtain⟨σ',H',I',q⟩:=q;exact h2 pq s1 σ' H' D I' q
 | ret v=>exact q
 | brk=>exact q
 | cont=>exact q
theorem Inv.quiet{pq:List (YN×Obj)}{σ:St}{H:Hp}{s:YM}(I:Inv X pq σ H s):interactive X.env=false:=by simp[interactive,I.ok.kind]
def So(te:TE):TS:=λD σ H=>te σ H λ_ H1=>D.nx σ H1
theorem Nb(he:PE X e te)(hs:Z9 e none pos.line X.env=pure false:=by rfl):PS X (.Expr e pos) (So te):=by
 intro pq s σ H D I h;exact wpAny_Expr_any (thn (he pq s σ H _ I h) λv s1 ⟨x,H1,I1,r1,q1⟩=>⟨σ,H1,I1,q1⟩) I.quiet hs
def UX(te:TE):TS:=λD σ H=>te σ H D.rt
theorem Qo(he:PE X e te):PS X (.Return (some e) pos) (UX te):=by
 intro pq s σ H D I h;exact wpAny_Return_some (thn (he pq s σ H _ I h) λv s1 ⟨x,H1,I1,r1,q1⟩=>⟨x,σ,H1,I1,r1,q1⟩)
def Sq(c:TT)(t u:TS):TS:=λD σ H=>c σ H λb H1=>if b=true then t D σ H1 else u D σ H1
theorem Sr{c:Expr}{a b:List Stmt}{tc:TT}(hc:PT X c tc)(ha:PSs X a t)(hb:PSs X b u):PS X (.If c a b pos) (Sq tc t u):=by
 intro pq s σ H D I h;refine wpAny_If (thn (hc pq s σ H _ I h) λd s1 ⟨H1,I1,q1⟩=>?_);cases d with
 | true=>exact ha pq s1 σ H1 D I1 q1
 | false=>exact hb pq s1 σ H1 D I1 q1
end
abbrev TG:=V->St->Hp->(St->Hp->Prop)->Prop
abbrev TGs:=List V->St->Hp->(St->Hp->Prop)->Prop
noncomputable def PG(X:Cx)(target:Expr)(t:TG):Prop:=
 ∀(pq:List (YN×Obj)) (s:YM) (σ:St) (H:Hp) (v:V) (u:YK) (Q:St->Hp->Prop),Inv X pq σ H s->RelV v u->t v σ H Q->
  YV (YS X.prog X.w) X.A (assign target X.env u) (λ_ s'=>∃ σ' H',Inv X pq σ' H' s'/\Q σ' H') X.xe s
noncomputable def PGs(X:Cx)(ts:List Expr)(t:TGs):Prop:=
 ∀(pq:List (YN×Obj)) (s:YM) (σ:St) (H:Hp) (vs:List V) (us:List YK) (Q:St->Hp->Prop),Inv X pq σ H s->Vals vs us->t vs σ H Q->
  YV (YS X.prog X.w) X.A (Zn ((Yq ts X.env).map (·.2)) us) (λ_ s'=>∃ σ' H',Inv X pq σ' H' s'/\Q σ' H') X.xe s
abbrev KZ:=V->V->V->Hp->(Hp->Prop)->Prop
noncomputable def Qp(X:Cx)(t:KZ):Prop:=
 ∀(pq:List (YN×Obj)) (s:YM) (σ:St) (H:Hp) (o i v:V) (ov iv u:YK) (Q:Hp->Prop),Inv X pq σ H s->RelV o ov->RelV i iv->RelV v u->t o i v H Q->
  YV (YS X.prog X.w) X.A (setItem ov iv u) (λ_ s'=>∃ H',Inv X pq σ H' s'/\Q H') X.xe s
abbrev TIp:=V->V->Hp->VK->Prop
noncomputable def PIp(X:Cx)(op:Z4)(t:TIp):Prop:=
 ∀(pq:List (YN×Obj)) (s:YM) (σ:St) (H:Hp) (x y:V) (v u:YK) (Q:VK),Inv X pq σ H s->RelV x v->RelV y u->t x y H Q->
  YV (YS X.prog X.w) X.A (inplaceOp op v u) (EP X pq σ Q) X.xe s
section
variable{X:Cx}{pos:Pos}
def Hm(i:Nat):TG:=λv σ H Q=>Q (σ.set i (some v)) H
theorem Nc{i:Nat}{x:Str}(hN:X.N.Nodup)(hi:X.N[i]?=some x)(hx:Loc X.env.scope x)(hf:X.fn x=true\/X.env.scope.names.lookup x=some .local:=by first | exact .inl rfl | exact .inr rfl | assumption):PG X (.Name x pos) (Hm i):=by
 intro pq s σ H v u Q I r h;exact Zu (Br I hN hi hx r (λs' I'=>⟨_,H,I',h⟩) hf)
def UY:TGs:=λvs σ H Q=>vs=[]/\Q σ H
def Ss(t:TG)(u:TGs):TGs:=λvs σ H Q=>∃ v r,vs=v::r/\t v σ H λσ' H'=>u r σ' H' Q
theorem Nd:PGs X [] UY:=by
 intro pq s σ H vs us Q I r h;obtain⟨e,h⟩:=h;subst e;cases r;exact Zv ⟨σ,H,I,h⟩
theorem Ka{e:Expr}{es:List Expr}{t:TG}{u:TGs}(h1:PG X e t)(h2:PGs X es u)
 (hs:(Yq (e::es) X.env).map (·.2)=assign e X.env::(Yq es X.env).map (·.2):=by rfl):PGs X (e::es) (Ss t u):=by
 intro pq s σ H vs us Q I r h;obtain⟨v,vr,e1,h⟩:=h;subst e1;cases r with
 | cons r rr=>
   rw[hs];refine ZP (thn (h1 pq s σ H _ _ _ I r h) λ_ s1 ⟨σ1,H1,I1,q1⟩=>?_);exact h2 pq s1 σ1 H1 _ _ Q I1 rr q1
def UZ(K:Um)(n:Nat)(t:TGs):TG:=λv σ H Q=>∃ a xs,v = .ref a/\SqT K H a xs/\xs.length=n/\t xs σ H Q
theorem Qq{es:List Expr}{k:Nat}{t:TGs}{n:Nat}(hc:X.calm=true)(h:PGs X es t)
 (hn:(Yq es X.env).length=n:=by rfl) (hst:(Yq es X.env).findIdx? (·.1)=none:=by rfl):PG X (.Tuple es k pos) (UZ X.K n t):=by
 intro pq s σ H v u Q I r hw;obtain⟨a,xs,e1,hq,hl,hw⟩:=hw;subst e1;cases r;obtain⟨its,rv,ht,hz⟩:=I.tuple hq;refine assign_Tuple_tuple (I.ok.hd hc) ht (by simp[hn,<-hl,rv.length]) hst λh' hx=>?_;have I1:Inv X pq σ H {s with heap:=h'}:=I.kept (t':=s.toks) λb o e=>hx b o (V4 (V2 e)) e;exact h pq _ σ H xs _ Q I1 (by simpa using rv) hw
def Su(to ti:TE)(t:KZ):TG:=λv σ H Q=>to σ H λo H1=>ti σ H1 λi H2=>t o i v H2 λH3=>Q σ H3
theorem Qr{o i:Expr}{to ti:TE}{t:KZ}(ho:PE X o to)(hi:PE X i ti)(hs:Qp X t)
 (ha:∀ v,assign (.Subscript o i pos) X.env v=(do
   let ov <- holding [v] (eval o X.env)
   let iv <- holding [v,ov] (eval i X.env)
   standAt pos
   holding [v,ov,iv] (setItem ov iv v)
   release [v,ov,iv] []):=by intro _;rfl):PG X (.Subscript o i pos) (Su to ti t):=by
 intro pq s σ H v u Q I r h;rw[ha];refine YL (Yh (thn (ho pq s σ H _ I h) λov s1 ⟨x,H1,I1,r1,q1⟩=>?_));refine YL (Yh (thn (hi pq s1 σ H1 _ I1 q1) λiv s2 ⟨y,H2,I2,r2,q2⟩=>?_));refine YL (ZM (YL (Yh (thn (hs pq s2 σ H2 x y v ov iv u _ I2 r1 r2 r q2) λ_ s3 ⟨H3,I3,q3⟩=>?_))));exact wpAny_release ⟨σ,H3,I3,q3⟩
def JE(te:TE)(g:TG):TS:=λD σ H=>te σ H λx H1=>g x σ H1 D.nx
theorem Kb{tg e:Expr}{te:TE}{g:TG}(he:PE X e te)(hg:PG X tg g)(hs:ZC [tg] e pos.line X.env=pure false:=by rfl)(hw:Yj [tg] e X.env=pure none:=by rfl)
 (h1:(Yq [tg] X.env).map (·.2)=[assign tg X.env]:=by rfl):PS X (.Assign [tg] e pos) (JE te g):=by
 intro pq s σ H D I h;refine wpAny_Assign_stores (thn (he pq s σ H _ I h) λv s1 ⟨x,H1,I1,r1,q1⟩=>?_) hs hw;rw[h1];exact thn (hg pq s1 σ H1 x v _ I1 r1 q1) λ_ s2 q=>q
theorem Qs{i:Nat}{x:Str}{e:Expr}{te:TE}{pos':Pos}(hN:X.N.Nodup)(hi:X.N[i]?=some x)(hx:Loc X.env.scope x)(he:PE X e te)(hs:Z9 e (some (.Name x pos')) pos.line X.env=pure false:=by rfl)(hf:X.fn x=true\/X.env.scope.names.lookup x=some .local:=by first | exact .inl rfl | exact .inr rfl | assumption):
 PS X (.Assign [.Name x pos'] e pos) (JE te (Hm i)):=by
 intro pq s σ H D I h;refine wpAny_Assign_Name (thn (he pq s σ H _ I h) λv s1 ⟨y,H1,I1,r1,q1⟩=>?_) hs;exact Br I1 hN hi hx r1 (λs2 I2=>⟨_,H1,I2,q1⟩) hf
def Sv(i j:Nat)(ta:TA):TS:=λD σ H=>ta σ H λvs H1=>∃ v w,vs=[v,w]/\D.nx ((σ.set i (some v)).set j (some w)) H1
theorem Qt{i j:Nat}{x y:Str}{a b:Expr}{ta:TA}{px py pt:Pos}{kt k2 pt2}(hc:X.calm=true)(hN:X.N.Nodup)(hi:X.N[i]?=some x)(hj:X.N[j]?=some y)(hij:i≠j)
 (hx:X.env.scope.names.lookup x=some .local) (hy:X.env.scope.names.lookup y=some .local) (ha:PA X [a,b] ta)
 (hw:Yj [.Tuple [.Name x px,.Name y py] kt pt] (.Tuple [a,b] k2 pt2) X.env=pure (some [x,y]))
 (hs:ZC [.Tuple [.Name x px,.Name y py] kt pt] (.Tuple [a,b] k2 pt2) pos.line X.env=pure false:=by rfl):
 PS X (.Assign [.Tuple [.Name x px,.Name y py] kt pt] (.Tuple [a,b] k2 pt2) pos) (Sv i j ta):=by
 intro pq s σ H D I h;rw[exec_Assign_arm];refine YL (ZM ?_);rw[hs];refine YL (YQ ?_);rw[iG (by decide)];refine YL (Tuple_ (thn (ha _ pq s σ H _ I h) λus s1 ⟨vs,H1,I1,r1,q1⟩=>?_));obtain⟨v,w,e1,q1⟩:=q1;subst e1
 obtain⟨u1,u2,rfl,rv,rw'⟩:∃ u1 u2,us=[u1,u2]/\RelV v u1/\RelV w u2:=by
  cases r1 with
  | cons p q=>
    cases q with
    | cons p' q'=>
      cases q';exact⟨_,_,rfl,p,p'⟩
 refine Yg ?_ (by show 2<=YU;decide);have I2:Inv X pq σ H1 {s1 with heap:=s1.heap.push {cls := .type "tuple",data := .seq [u1,u2].toArray}}:=I1.kept (t':=s1.toks) λb o e=>Uw _ e;rw[hw];refine YL (YQ ?_);show YV (YS X.prog X.w) X.A (do rule "assign.swapped-stores";let items <- unpackItems (.ref s1.heap.objs.size) 2 none;Zn [λv=>A0b X.env y v,λv=>A0b X.env x v] items.reverse;pure Flow.next) _ _ _;refine YL (Yn (YL (unpackItems_tuple (items:=#[u1,u2]) (I.ok.hd hc) (IsTup.new s1.heap _) λh' hx'=>?_)));have I3:=I2.kept (h':=h') (t':=s1.toks) λb o e=>hx' b o (V4 (V2 e)) e;show YV _ _ (Zn [λv=>A0b X.env y v,λv=>A0b X.env x v] [u2,u1] >>= λ_=>pure Flow.next) _ _ _;refine YL (ZP (A0c (Br I3 hN hj (.inl hy) rw' (λs2 I4=>?_) (.inr hy))));refine ZP (A0c (Br I4 hN hi (.inl hx) rv (λs3 I5=>Zv (YQ ?_)) (.inr hx)));rw[List.set_comm _ _ (Ne.symm hij)]at I5;exact⟨_,H1,I5,q1⟩
def Po(to ti te:TE)(tget:V->V->Hp->VK->Prop)(tip:TIp)(tset:KZ):TS:=λD σ H=>to σ H λo H1=>ti σ H1 λi H2=>tget o i H2 λx H3=>te σ H3 λy H4=>tip x y H4 λz H5=>tset o i z H5 λH6=>D.nx σ H6
noncomputable def Sw(X:Cx)(t:V->V->Hp->VK->Prop):Prop:=
 ∀(pq:List (YN×Obj)) (s:YM) (σ:St) (H:Hp) (o i:V) (ov iv:YK) (Q:VK),Inv X pq σ H s->RelV o ov->RelV i iv->t o i H Q->
  YV (YS X.prog X.w) X.A (getItem ov iv) (EP X pq σ Q) X.xe s
theorem Nf{o i e:Expr}{to ti te:TE}{tget:V->V->Hp->VK->Prop}{tip:TIp}{tset:KZ}{op:Z4}{tpos:Pos}(ho:PE X o to)(hi:PE X i ti)(hg:Sw X tget)(he:PE X e te)(hp:PIp X op tip)(hs:Qp X tset)
 (ha:∀ ov iv new,augStore i ov iv new=(do holding [new,ov,iv] (setItem ov iv new);release [new,ov,iv] [];pure .next):=by intros;rfl):PS X (.AugAssign (.Subscript o i tpos) op e pos) (Po to ti te tget tip tset):=by
 intro pq s σ H D I h;refine wpAny_AugAssign_SubscriptAny (thn (ho pq s σ H _ I h) λov s1 ⟨x1,H1,I1,r1,q1⟩=>?_) ha;refine thn (hi pq s1 σ H1 _ I1 q1) λiv s2 ⟨x2,H2,I2,r2,q2⟩=>?_;refine thn (hg pq s2 σ H2 x1 x2 ov iv _ I2 r1 r2 q2) λold s3 ⟨x3,H3,I3,r3,q3⟩=>?_;refine thn (he pq s3 σ H3 _ I3 q3) λv s4 ⟨x4,H4,I4,r4,q4⟩=>?_;refine thn (hp pq s4 σ H4 x3 x4 old v _ I4 r3 r4 q4) λnew s5 ⟨x5,H5,I5,r5,q5⟩=>?_;exact thn (hs pq s5 σ H5 x1 x2 x5 ov iv new _ I5 r1 r2 r5 q5) λ_ s6 ⟨H6,I6,q6⟩=>⟨σ,H6,I6,q6⟩
def ipI(f:Int->Int->Int):TIp:=λx y H Q=>∃ i j,x = .int i/\y = .int j/\Q (.int (f i j)) H
theorem Qu:PIp X .Add (ipI λi j=>i+j):=by
 intro pq s σ H x y v u Q I r1 r2 h;obtain⟨i,j,e1,e2,q⟩:=h;subst e1;subst e2;obtain⟨t,rfl⟩:=r1;obtain⟨t',rfl⟩:=r2;exact iadd_int ⟨.int _,H,I.tok _,⟨_,rfl⟩,q⟩
noncomputable def Kc(c:TT)(tb:TS):TS:=λD σ H=>∃ W:Nat->St->Hp->Prop,(∃ m,W m σ H)/\∀ m σ H,W m σ H->
 c σ H λb H1=>if b=true then ∃ N:St->Hp->Prop,(∀ σ' H',N σ' H'->∃ m',m'<m/\W m' σ' H')/\tb {D with nx:=N,ct:=N,bk:=D.nx} σ H1 else D.nx σ H1
theorem Kd{c:Expr}{body:List Stmt}{tc:TT}{tb:TS}(hp:A02 (YS X.prog X.w) X.A X.env X.xe)(hc:PT X c tc)(hb:PSs X body tb):PS X (.While c body [] pos) (Kc tc tb):=by
 intro pq s σ H D I h;obtain⟨W,⟨m0,w0⟩,turn⟩:=h;refine wpAny_While (codeAny_whileLoop (λn s'=>∃ σ' H',Inv X pq σ' H' s'/\W n σ' H') ?_ m0 ⟨σ,H,I,w0⟩);rintro n s1 ⟨σ1,H1,I1,w1⟩;refine Yv hp (thn (hc pq s1 σ1 H1 _ I1 (turn n σ1 H1 w1)) λb s2 ⟨H2,I2,q2⟩=>?_);cases b with
 | true=>
   obtain⟨N,hN,q2⟩:=q2;rw[iP rfl];refine Yv hp (thn (hb pq s2 σ1 H2 _ I2 q2) λf s3 q3=>?_);cases f with
   | next=>
     obtain⟨σ3,H3,I3,n3⟩:=q3;obtain⟨m',hm,w3⟩:=hN σ3 H3 n3;exact⟨m',hm,σ3,H3,I3,w3⟩
   | cont=>
     obtain⟨σ3,H3,I3,n3⟩:=q3;obtain⟨m',hm,w3⟩:=hN σ3 H3 n3;exact⟨m',hm,σ3,H3,I3,w3⟩
   | brk=>exact q3
   | ret v=>exact q3
 | false=>
   rw[iG V0];exact ZO ⟨σ1,H2,I2,q2⟩
end
structure It where
 go:Nat->Hp->Prop
 yld:Nat->Hp->V->Hp->Prop
 stop:Nat->Hp->Prop
def FpOk(X:Cx)(pq:List (YN×Obj))(H:Hp)(b:YN):Prop:=
 H b=none/\b≠X.env.locals/\b∉X.fs/\(b∈X.ex\/X.s₀.heap.objs.size<=b)/\(∀ x c,X.env.cells.lookup x=some c->c≠b)/\∀ p∈X.pn++pq,p.1≠b
theorem Inv.fpOk{X:Cx}{pq:List (YN×Obj)}{σ:St}{H H':Hp}{s:YM}{b:YN}(I:Inv X pq σ H s)(hb:s.heap.objs.size<=b)(hn:H' b=none):FpOk X pq H' b:=by
 refine⟨hn,Nat.ne_of_gt (VI I.lt hb),I.nofs hb,.inr (VF I.sz hb),λx c e z=>?_,λp hp z=>?_⟩
 ·obtain⟨v,q⟩:=I.cell x c e;exact absurd (VI q.lt (by rw[z];exact hb)) (WH _)
 ·exact absurd (VI (V2 (I.pin p hp).1) (by rw[z];exact hb)) (WH _)
structure Turn(P:YT)(w:YX)(K:Um)(tg:Expr)(J:It)(fp:List YN)(it:YN)(tn:Nat->Heap->Prop):Prop where
 mem:it∈fp
 obj:∀ i h,tn i h->∀ b∈fp,∃ o,h.get? b=some o/\∀ v,o.data ≠ .cell v
 keep:∀ i h h',tn i h->(∀ b∈fp,∀ o,h.get? b=some o->h'.get? b=some o)->tn i h'
 item:∀(X:Cx),X.prog=P->X.w=w->X.K=K->X.calm=true->∀(i:Nat) (pq:List (YN×Obj)) (s:YM) (σ:St) (H:Hp) (E:YK->YM->Prop),Inv X pq σ H s->(∀ b∈fp,FpOk X pq H b)->tn i s.heap->J.go i H->
  YV (YS P w) X.A (pyNext (.ref it)) (λr s1=>∃ u,r=some u/\
   YV (YS P w) X.A (ZD tg (.ref it) u) (λ_ s2=>∃ x H',Inv X pq σ H' s2/\RelV x u/\J.yld i H x H'/\tn (i+1) s2.heap/\∀ b∈fp,H' b=none) E s1) E s
 done:∀(X:Cx),X.prog=P->X.w=w->X.K=K->X.calm=true->∀(i:Nat) (pq:List (YN×Obj)) (s:YM) (σ:St) (H:Hp) (E:YK->YM->Prop),Inv X pq σ H s->(∀ b∈fp,FpOk X pq H b)->tn i s.heap->J.stop i H->
   YV (YS P w) X.A (pyNext (.ref it)) (λr s1=>r=none/\Inv X pq σ H s1) E s
 self:∀(A:YZ) (i:Nat) (s:YM) (Q:YK->YM->Prop) (E:YK->YM->Prop),tn i s.heap->Q (.ref it) s->YV (YS P w) A (pyIter (.ref it)) Q E s
abbrev TI:=St->Hp->(It->Hp->Prop)->Prop
noncomputable def PIE(X:Cx)(pq:List (YN×Obj))(σ:St)(tg:Expr)(R:It->Hp->Prop)(itv:YK)(s2:YM):Prop:=
 ∃(it:YN) (fp:List YN) (tn:Nat->Heap->Prop) (J:It) (H':Hp),itv = .ref it/\Inv X pq σ H' s2/\Turn X.prog X.w X.K tg J fp it tn/\tn 0 s2.heap/\(∀ b∈fp,FpOk X pq H' b)/\R J H'
noncomputable def PI(X:Cx)(tg iter:Expr)(wi:TI):Prop:=
 ∀(pq:List (YN×Obj)) (s:YM) (σ:St) (H:Hp) (R:It->Hp->Prop),Inv X pq σ H s->wi σ H R->
  YV (YS X.prog X.w) X.A (eval iter X.env) (λv s1=>YV (YS X.prog X.w) X.A (pyIter v) (PIE X pq σ tg R) X.xe s1) X.xe s
theorem Ke{M:Model}{A:YZ}{E:YK->YM->Prop}{s:YM}{tg:Expr}{it:YN}{u:YK}{o:Obj}{n:String}{vs:Array YK}{Q:Unit->YM->Prop}(ho:s.heap.get? it=some o)(hc:o.cls = .type n)(hd:o.data = .fields vs)
 (hn:["enumerate","zip","dict_itemiterator","dict_reverseitemiterator","odict_iterator","itertools.zip_longest","itertools.pairwise"].contains n=false) (hQ:Q () s):YV M A (ZD tg (.ref it) u) Q E s:=by
 unfold ZD
 cases tg<;>first
  | exact YQ hQ
  | (cases u<;>first
      | exact YQ hQ
      | (refine YL (wpAny_load ho ?_)
         rw[hc,hd];show YV M A (if (["enumerate","zip","dict_itemiterator","dict_reverseitemiterator","odict_iterator","itertools.zip_longest","itertools.pairwise"].contains n&&vs[0]? == some (rawInt _))=true then _ else _) Q E s;rw[iG (by intro h;rw[hn,Bool.false_and]at h;cases h)];exact YQ hQ))
def Itl(K:Um)(a:YN):It:=
 ⟨λi H=>∃ xs x,SqL K H a xs/\xs[i]?=some x,λi H x H'=>H'=H/\∀ xs,SqL K H a xs->xs[i]?=some x,λi H=>∃ xs,SqL K H a xs/\xs.length<=i⟩
def Itt(K:Um)(a:YN):It:=
 ⟨λi H=>∃ xs x,SqT K H a xs/\xs[i]?=some x,λi H x H'=>H'=H/\∀ xs,SqT K H a xs->xs[i]?=some x,λi H=>∃ xs,SqT K H a xs/\xs.length<=i⟩
def Itr(lo:Int)(n:Nat):It:=⟨λi _=>i<n,λi H x H'=>H'=H/\x = .int (lo+i),λi _=>n<=i⟩
theorem JF{P:YT}{w:YX}{K:Um}{tg:Expr}(a it:YN):Turn P w K tg (Itl K a) [it] it (λi h=>h.IsListIter it a i) where
 mem:=by simp
 obj:=λi h st b hb=>by
  have e:b=it:=by simpa using hb
  subst e;obtain⟨o,e,c,d⟩:=st;exact⟨o,e,λv z=>by rw[d]at z;cases z⟩
 keep:=λi h h' st k=>st.at λo e=>k it (by simp) o e
 item:=by
  intro X hP hw hK hc i pq s σ H E I hf st hg;subst hP hw hK;obtain⟨xs,x,hq,hx⟩:=hg;obtain⟨its,rv,p,hz⟩:=I.list hq;obtain⟨u,hu,ru⟩:=rv.get hx;obtain⟨f0,f1,f2,f3,f4,f5⟩:=hf it (by simp);refine wpAny_pyNext_list_item st p.isList (x:=u) (by simpa using hu) λh' st' sb=>?_;have I1:Inv X pq σ H {s with heap:=h'}:=I.turned (t':=s.toks) (λb o hb e=>(sb.2 b hb).trans e) f0 f1 f3 f4 f5;obtain⟨o,e,c,d⟩:=id st';exact⟨u,rfl,Ke (s:={s with heap:=h'}) e c d (by decide) ⟨x,H,I1,ru,⟨rfl,λys hy=>by rw[I.list_inj hy hq];exact hx⟩,st',λb hb=>(hf b hb).1⟩⟩
 done:=by
   intro X hP hw hK hc i pq s σ H E I hf st hg;subst hP hw hK;obtain⟨xs,hq,hx⟩:=hg;obtain⟨its,rv,p,hz⟩:=I.list hq;obtain⟨f0,f1,f2,f3,f4,f5⟩:=hf it (by simp);have hl:=rv.length;exact wpAny_pyNext_list_end (I.ok.hd hc) st p.isList (by simp;omega) λh' eb=>⟨rfl,I.turned (t':=s.toks) (λb o hb e=>eb b o hb e) f0 f1 f3 f4 f5⟩
 self:=λ_ _ _ _ _ st h=>wpAny_pyIter_listiter st h
theorem GO{P:YT}{w:YX}{K:Um}{tg:Expr}(a it:YN):Turn P w K tg (Itt K a) [it] it (λi h=>h.IsTupleIter it a i) where
 mem:=by simp
 obj:=λi h st b hb=>by
  have e:b=it:=by simpa using hb
  subst e;obtain⟨o,e,c,d⟩:=st;exact⟨o,e,λv z=>by rw[d]at z;cases z⟩
 keep:=λi h h' st k=>st.at λo e=>k it (by simp) o e
 item:=by
  intro X hP hw hK hc i pq s σ H E I hf st hg;subst hP hw hK;obtain⟨xs,x,hq,hx⟩:=hg;obtain⟨its,rv,p,hz⟩:=I.tuple hq;obtain⟨u,hu,ru⟩:=rv.get hx;obtain⟨f0,f1,f2,f3,f4,f5⟩:=hf it (by simp);refine wpAny_pyNext_tuple_item st (show s.heap.IsTuple a its.toArray from p) (x:=u) (by simpa using hu) λh' st' sb=>?_;have I1:Inv X pq σ H {s with heap:=h'}:=I.turned (t':=s.toks) (λb o hb e=>(sb.2 b hb).trans e) f0 f1 f3 f4 f5;obtain⟨o,e,c,d⟩:=id st';exact⟨u,rfl,Ke (s:={s with heap:=h'}) e c d (by decide) ⟨x,H,I1,ru,⟨rfl,λys hy=>by rw[I.tuple_inj hy hq];exact hx⟩,st',λb hb=>(hf b hb).1⟩⟩
 done:=by
   intro X hP hw hK hc i pq s σ H E I hf st hg;subst hP hw hK;obtain⟨xs,hq,hx⟩:=hg;obtain⟨its,rv,p,hz⟩:=I.tuple hq;obtain⟨f0,f1,f2,f3,f4,f5⟩:=hf it (by simp);have hl:=rv.length;exact wpAny_pyNext_tuple_end (I.ok.hd hc) st (show s.heap.IsTuple a its.toArray from p) (by simp;omega) λh' eb=>⟨rfl,I.turned (t':=s.toks) (λb o hb e=>eb b o hb e) f0 f1 f3 f4 f5⟩
 self:=λ_ _ _ _ _ st h=>wpAny_pyIter_tupleiter st h
theorem GP{P:YT}{w:YX}{K:Um}{tg:Expr}(it:YN)(lo:Int)(n:Nat):Turn P w K tg (Itr lo n) [it] it (λi h=>IsRangeIter h it (lo+(i:Nat) * 1) ((n:Int) - (i:Nat)) 1) where
 mem:=by simp
 obj:=λi h st b hb=>by
  have e:b=it:=by simpa using hb
  subst e
  exact⟨_,st,λv z=>by
   have z':Data.fields _=Data.cell v:=z;cases z'⟩
 keep:=λi h h' st k=>k it (by simp) _ st
 item:=by
  intro X hP hw hK hc i pq s σ H E I hf st hg;subst hP hw hK;obtain⟨f0,f1,f2,f3,f4,f5⟩:=hf it (by simp);have W:=Walks.range (prog:=X.prog) (w:=X.w) (I.ok.hd hc) it lo 1 n;refine W.item i s _ _ hg st λv h' tk hv st' kk=>?_;obtain⟨t,rfl⟩:=hv;have I1:Inv X pq σ H {s with heap:=h',toks:=tk}:=I.turned (λb o hb e=>kk b o (by simpa using hb) e) f0 f1 f3 f4 f5;refine⟨_,rfl,Ke (s:={s with heap:=h',toks:=tk}) (n:="range_iterator") st' rfl rfl (by decide) ⟨.int (lo+i),H,I1,⟨t,?_⟩,⟨rfl,rfl⟩,st',λb hb=>(hf b hb).1⟩⟩;rw[Int.mul_one]
 done:=by
   intro X hP hw hK hc i pq s σ H E I hf st hg;subst hP hw hK;obtain⟨f0,f1,f2,f3,f4,f5⟩:=hf it (by simp);exact wpAny_pyNext_range_end (I.ok.hd hc) st (by have:n<=i:=hg;omega) λh' eb=>⟨rfl,I.turned (t':=s.toks) (λb o hb e=>eb b o hb e) f0 f1 f3 f4 f5⟩
 self:=λ_ _ _ _ _ st h=>wpAny_pyIter_rangeiter st h
section
variable{X:Cx}{tg:Expr}
theorem Kf{pq:List (YN×Obj)}{σ:St}{H:Hp}{s:YM}{R:It->Hp->Prop}{E:YK->YM->Prop}{lo hi:Int}{t u v:Tok}{tk:Nat}(I:Inv X pq σ H s)(h1:-(2 ^ 62)<=lo)(h2:lo<2 ^ 62)(h3:-(2 ^ 62)<=hi)(h4:hi<2 ^ 62)
 (q:R (Itr lo (hi - lo).toNat) H):YV (YS X.prog X.w) X.A (pyIter (.ref s.heap.objs.size)) (PIE X pq σ tg R) E {s with heap:=s.heap.push {cls := .type "range",data := .fields #[.int lo t,.int hi u,.int 1 v]},toks:=tk}:=by
 refine wpAny_pyIter_range (IsRange.new ..) (small_one h1 h2 h3 h4) ?_;have I1:Inv X pq σ H {s with heap:=s.heap.push {cls := .type "range",data := .fields #[.int lo t,.int hi u,.int 1 v]},toks:=tk}:=I.kept λb o e=>Uw _ e
 refine⟨(s.heap.push {cls := .type "range",data := .fields #[.int lo t,.int hi u,.int 1 v]}).objs.size,[(s.heap.push {cls := .type "range",data := .fields #[.int lo t,.int hi u,.int 1 v]}).objs.size],_,_,H,rfl,
  I1.kept (t':=tk) λb o e=>Uw _ e,GP _ lo (hi - lo).toNat,?_,λb hb=>?_,q⟩
 ·have e1:lo+((0:Nat):Int) * 1=lo:=by simp
  have e2:(((hi - lo).toNat:Nat):Int) - ((0:Nat):Int)=Builtin.Range.rangeSize lo hi 1:=by rw[rangeSize_one];split<;>omega
  show IsRangeIter _ _ (lo+((0:Nat):Int) * 1) ((((hi - lo).toNat:Nat):Int) - ((0:Nat):Int)) 1;rw[e1,e2];exact V8 _ rfl
 ·have e:b=(s.heap.push {cls := .type "range",data := .fields #[.int lo t,.int hi u,.int 1 v]}).objs.size:=by simpa using hb
  subst e;exact I1.fpOk (Ux _) (I1.hok.fresh (Ux _))
def Sx(ta:TA):TI:=λσ H R=>ta σ H λvs H1=>∃ j:Int,vs=[.int j] /\ -(2 ^ 62)<=j/\j<2 ^ 62/\R (Itr 0 j.toNat) H1
theorem JG{a:Expr}{ta:TA}{p pos:Pos}(hg:Gl X "range")(hm:X.mg "range"=none)(ha:PA X [a] ta)(hs:Yc [a] X.env=[(false,eval a X.env)]:=by rfl):PI X tg (.Call (.Name "range" p) [a] [] pos) (Sx ta):=by
 intro pq s σ H R I h;refine Call_ (C8 I hg hm boot_range (PyProof.Rows.callWith_type1 (thn (ha pos pq s σ H _ I h) λus s1 ⟨vs,H1,I1,r1,q1⟩=>?_) hs rfl));obtain⟨j,e,q1,q2,q⟩:=q1;subst e;cases r1 with
 | cons r rr=>
   cases rr;obtain⟨t,rfl⟩:=r;exact call_range_1 (Kf I1 (by omega) (by omega) q1 q2 (by simpa using q))
noncomputable def Sy(wi:TI)(g:TG)(tb:TS):TS:=λD σ H=>wi σ H λJ H1=>∃ W:Nat->Nat->St->Hp->Prop,(∃ m,W 0 m σ H1)/\∀ i m σ H,W i m σ H->
 (J.stop i H/\D.nx σ H)\/(J.go i H/\∃ N:St->Hp->Prop,(∀ σ' H',N σ' H'->∃ m',m'<m/\W (i+1) m' σ' H')/\∀ x H',J.yld i H x H'->g x σ H' λσ2 H2=>tb {D with nx:=N,ct:=N,bk:=D.nx} σ2 H2)
def Bf(fp:List YN)(h:Heap):List (YN×Obj):=fp.filterMap λb=>(h.get? b).map λo=>(b,o)
theorem At{fp:List YN}{h:Heap}{b:YN}{o:Obj}(hb:b∈fp)(e:h.get? b=some o):(b,o)∈Bf fp h:=Xf.mpr ⟨b,hb,by rw[e];rfl⟩
theorem JH{fp:List YN}{h:Heap}{p:YN×Obj}(hp:p∈Bf fp h):p.1∈fp/\h.get? p.1=some p.2:=by
 obtain⟨b,hb,e⟩:=Xf.mp hp;cases q:h.get? b with
 | none=>rw[q]at e;cases e
 | some o=>
   rw[q]at e;have e':(b,o)=p:=oj e;subst e';exact⟨hb,q⟩
theorem Inv.pinned{pq:List (YN×Obj)}{σ:St}{H:Hp}{s:YM}{fp:List YN}(I:Inv X pq σ H s)(hf:∀ b∈fp,FpOk X pq H b)(ho:∀ b∈fp,∃ o,s.heap.get? b=some o/\∀ v,o.data ≠ .cell v):Inv X (pq++Bf fp s.heap) σ H s:=
 I.pins_of λp hp=>(VD.mp hp).elim (λz=>I.pin p (VX _ z)) λz=>by
  obtain⟨hb,e⟩:=JH z;obtain⟨f0,f1,f2,_⟩:=hf p.1 hb;obtain⟨o,e',d⟩:=ho p.1 hb;rw[e]at e';cases e';exact⟨e,f0,f1,f2,d⟩
theorem Inv.unpinned{pq pl:List (YN×Obj)}{σ:St}{H:Hp}{s:YM}(I:Inv X (pq++pl) σ H s):Inv X pq σ H s:=I.pins_of λp hp=>I.pin p (VX _ (Vf _ hp))
theorem Qv{iter:Expr}{body:List Stmt}{wi:TI}{g:TG}{tb:TS}{pos:Pos}(hp:A02 (YS X.prog X.w) X.A X.env X.xe)(hc:X.calm=true)(hi:PI X tg iter wi)(hg:PG X tg g)(hb:PSs X body tb)
 (hs:∀ x,ZJ iter X.env x=pure x:=by intro _;rfl):PS X (.For tg iter body [] pos) (Sy wi g tb):=by
 intro pq s σ H D I h;refine wpAny_For (thn (hi pq s σ H _ I h) λv s1 h1=>thn h1 λitv s2 h2=>?_) hs;obtain⟨it,fp,tn,J,H2,e,I2,T,st2,f2,W,⟨m0,w0⟩,turn⟩:=h2;subst e;have stat:∀{H':Hp},(∀ b∈fp,H' b=none)->∀ b∈fp,FpOk X pq H' b:=λhn b hb=>⟨hn b hb,(f2 b hb).2⟩
 refine codeAny_forLoop_any (λn s'=>∃ i σ' H',Inv X pq σ' H' s'/\tn i s'.heap/\(∀ b∈fp,H' b=none)/\W i n σ' H') ?_ m0 ⟨0,σ,H2,I2,st2,λb hb=>(f2 b hb).1,w0⟩;rintro n s3 ⟨i,σ3,H3,I3,st3,fr3,w3⟩;rcases turn i n σ3 H3 w3 with⟨stop,qn⟩ | ⟨go,N,hN,step⟩
 ·refine Yv hp (thn (T.done X rfl rfl rfl hc i pq s3 σ3 H3 X.xe I3 (stat fr3) st3 stop) λr s4 ⟨hr,I4⟩=>?_);subst hr;exact ZO ⟨σ3,H3,I4,qn⟩
 ·refine Yv hp (thn (T.item X rfl rfl rfl hc i pq s3 σ3 H3 X.xe I3 (stat fr3) st3 go) λr s4 ⟨u,hr,h4⟩=>?_);subst hr;refine Yv hp (thn h4 λ_ s5 ⟨x,H5,I5,r5,y5,st5,fr5⟩=>?_);have I5':=I5.pinned (stat fr5) (T.obj _ _ st5);refine Yv hp (thn (hg _ s5 σ3 H5 x u _ I5' r5 (step x H5 y5)) λ_ s6 ⟨σ6,H6,I6,q6⟩=>?_);refine Yv hp (thn (hb _ s6 σ6 H6 _ I6 q6) λf s7 q7=>?_)
  have again:∀{σ7:St} {H7:Hp},Inv X (pq++Bf fp s5.heap) σ7 H7 s7->N σ7 H7->∃ m,m<n/\∃ i σ' H',Inv X pq σ' H' s7/\tn i s7.heap/\(∀ b∈fp,H' b=none)/\W i m σ' H':=λ{σ7 H7} I7 n7=>by
   obtain⟨m',hm,w7⟩:=hN σ7 H7 n7;refine⟨m',hm,i+1,σ7,H7,I7.unpinned,T.keep _ _ _ st5 λb hb o e=>(I7.pin (b,o) (VX _ (VX _ (At hb e)))).1,λb hb=>?_,w7⟩;obtain⟨o,e,d⟩:=T.obj _ _ st5 b hb;exact(I7.pin (b,o) (VX _ (VX _ (At hb e)))).2.1
  cases f with
  | next=>obtain⟨σ7,H7,I7,n7⟩:=q7;exact again I7 n7
  | cont=>obtain⟨σ7,H7,I7,n7⟩:=q7;exact again I7 n7
  | brk=>obtain⟨σ7,H7,I7,q7⟩:=q7;exact⟨σ7,H7,I7.unpinned,q7⟩
  | ret v=>obtain⟨x7,σ7,H7,I7,r7,q7⟩:=q7;exact⟨x7,σ7,H7,I7.unpinned,r7,q7⟩
end
abbrev R2:=V->V->Hp->VK->Prop
noncomputable def OpR(X:Cx)(f:YK->YK->Sem YK)(r:R2):Prop:=
 ∀(pq:List (YN×Obj)) (s:YM) (σ:St) (H:Hp) (x y:V) (v u:YK) (Q:VK),Inv X pq σ H s->RelV x v->RelV y u->r x y H Q->
  YV (YS X.prog X.w) X.A (f v u) (EP X pq σ Q) X.xe s
noncomputable def UnR(X:Cx)(f:YK->Sem YK)(r:V->Hp->VK->Prop):Prop:=
 ∀(pq:List (YN×Obj)) (s:YM) (σ:St) (H:Hp) (x:V) (v:YK) (Q:VK),Inv X pq σ H s->RelV x v->r x H Q->
  YV (YS X.prog X.w) X.A (f v) (EP X pq σ Q) X.xe s
noncomputable def CallR(X:Cx)(f:YK)(r:List V->Hp->VK->Prop):Prop:=
 ∀(pq:List (YN×Obj)) (s:YM) (σ:St) (H:Hp) (xs:List V) (us:List YK) (Q:VK),Inv X pq σ H s->Vals xs us->r xs H Q->
  YV (YS X.prog X.w) X.A (call f us) (EP X pq σ Q) X.xe s
noncomputable def Ua(X:Cx)(r:V->Hp->(Bool->Hp->Prop)->Prop):Prop:=
 ∀(pq:List (YN×Obj)) (s:YM) (σ:St) (H:Hp) (x:V) (v:YK) (Q:Bool->Hp->Prop),Inv X pq σ H s->RelV x v->r x H Q->
  YV (YS X.prog X.w) X.A (truthy v) (TP X pq σ Q) X.xe s
def tOp(r:R2)(ta tb:TE):TE:=λσ H Q=>ta σ H λx H1=>tb σ H1 λy H2=>r x y H2 Q
def tUn(r:V->Hp->VK->Prop)(ta:TE):TE:=λσ H Q=>ta σ H λx H1=>r x H1 Q
def rI(C:Int->Int->Prop)(g:Int->Int->V):R2:=λx y H Q=>∃ i j,x = .int i/\y = .int j/\C i j/\Q (g i j) H
def rI0(g:Int->Int->V):R2:=λx y H Q=>∃ i j,x = .int i/\y = .int j/\Q (g i j) H
def rU(g:Int->V):V->Hp->VK->Prop:=λx H Q=>∃ i,x = .int i/\Q (g i) H
section
variable{X:Cx}{a b c:Expr}{ta tb tc:TE}{pos:Pos}
theorem Qw(ha:PE X a ta)(hb:PE X b tb){pq:List (YN×Obj)}{s:YM}{σ:St}{H:Hp}{R:V->V->Hp->Prop}(I:Inv X pq σ H s)
 (h:ta σ H λx H1=>tb σ H1 λy H2=>R x y H2) {Q:YK->YM->Prop} {f:YK->YK->Sem YK}
 (hf:∀ v u s2 x y H2,Inv X pq σ H2 s2->RelV x v->RelV y u->R x y H2->YV (YS X.prog X.w) X.A (f v u) Q X.xe s2):
 YV (YS X.prog X.w) X.A (eval a X.env) (λv s₁=>YV (YS X.prog X.w) X.A (eval b X.env) (λu s₂=>YV (YS X.prog X.w) X.A (f v u) Q X.xe s₂) X.xe s₁) X.xe s:=by
 refine thn (ha pq s σ H _ I h) λv s1 ⟨x,H1,I1,r1,q1⟩=>?_;refine thn (hb pq s1 σ H1 _ I1 q1) λu s2 ⟨y,H2,I2,r2,q2⟩=>?_;exact hf v u s2 x y H2 I2 r1 r2 q2
theorem T6{op:Z4}{r:R2}(ho:OpR X (Ys op) r)(ha:PE X a ta)(hb:PE X b tb):PE X (.BinOp a op b pos) (tOp r ta tb):=by
 intro pq s σ H Q I h;exact wpAny_BinOp (Qw ha hb I h λv u s2 x y H2 I2 rx ry q=>ho pq s2 σ H2 x y v u Q I2 rx ry q)
theorem Pp{op:UnaryOp}{r:V->Hp->VK->Prop}(ho:UnR X (unaryOp op) r)(ha:PE X a ta):PE X (.UnaryOp op a pos) (tUn r ta):=by
 intro pq s σ H Q I h;exact UnaryOp_ (thn (ha pq s σ H _ I h) λv s1 ⟨x,H1,I1,r1,q1⟩=>ho pq s1 σ H1 x v Q I1 r1 q1)
theorem opI{f:YK->YK->Sem YK}{C:Int->Int->Prop}{g:Int->Int->Int}
 (rule:∀(i j:Int) (t u:Tok) (s:YM) (Q:YK->YM->Prop) (E:YK->YM->Prop),C i j->Q (.int (g i j) s.toks) {s with toks:=s.toks+1}->YV (YS X.prog X.w) X.A (f (.int i t) (.int j u)) Q E s):
 OpR X f (rI C λi j => .int (g i j)):=by
 intro pq s σ H x y v u Q I rx ry h;obtain⟨i,j,rfl,rfl,hc,q⟩:=h;obtain⟨t,rfl⟩:=rx;obtain⟨t',rfl⟩:=ry;exact rule i j t t' s _ _ hc ⟨.int (g i j),H,I.tok _,⟨_,rfl⟩,q⟩
theorem T7{f:YK->YK->Sem YK}{g:Int->Int->Int}
 (rule:∀(i j:Int) (t u:Tok) (s:YM) (Q:YK->YM->Prop) (E:YK->YM->Prop),Q (.int (g i j) s.toks) {s with toks:=s.toks+1}->YV (YS X.prog X.w) X.A (f (.int i t) (.int j u)) Q E s):
 OpR X f (rI0 λi j => .int (g i j)):=by
 intro pq s σ H x y v u Q I rx ry h;obtain⟨i,j,rfl,rfl,q⟩:=h;obtain⟨t,rfl⟩:=rx;obtain⟨t',rfl⟩:=ry;exact rule i j t t' s _ _ ⟨.int (g i j),H,I.tok _,⟨_,rfl⟩,q⟩
theorem Ng{f:YK->YK->Sem YK}{g:Int->Int->Bool}
 (rule:∀(i j:Int) (t u:Tok) (s:YM) (Q:YK->YM->Prop) (E:YK->YM->Prop),Q (.bool (g i j)) s->YV (YS X.prog X.w) X.A (f (.int i t) (.int j u)) Q E s):
 OpR X f (rI0 λi j => .bl (g i j)):=by
 intro pq s σ H x y v u Q I rx ry h;obtain⟨i,j,rfl,rfl,q⟩:=h;obtain⟨t,rfl⟩:=rx;obtain⟨t',rfl⟩:=ry;exact rule i j t t' s _ _ ⟨.bl (g i j),H,I,rfl,q⟩
def T8(i j:Int):Prop:=0<j/\j<1073741824
def T9(i j:Int):Prop:=0<=j/\j<=1000000/\i.natAbs<2 ^ 64
def CMul(i j:Int):Prop:=(-(2 ^ 64)<i/\i<2 ^ 64)\/(-(2 ^ 64)<j/\j<2 ^ 64)
theorem CMul.ok{i j:Int}(h:CMul i j):IntMulOk i j:=by
 rcases h with⟨h1,h2⟩ | ⟨h1,h2⟩
 ·exact .of_left (intBits_le_64 h1 h2)
 ·exact .of_right (intBits_le_64 h1 h2)
theorem op_add:OpR X (Ys .Add) (rI0 λi j => .int (i+j)):=T7 λ_ _ _ _ _ _ _ q=>add_int q
theorem Qx:OpR X (Ys .Sub) (rI0 λi j => .int (i - j)):=T7 λ_ _ _ _ _ _ _ q=>sub_int q
theorem op_mul:OpR X (Ys .Mult) (rI CMul λi j => .int (i * j)):=opI λ_ _ _ _ _ _ _ hc q=>mul_int q hc.ok
theorem Nh:OpR X (Ys .FloorDiv) (rI T8 λi j => .int (i / j)):=opI λi j _ _ _ _ _ hc q=>by
 have h1:(0:Int)<j:=hc.1;have h2:j<1073741824:=hc.2;exact floordiv_int (by omega) (by rw[Int.fdiv_eq_ediv_of_nonneg i (by omega)];exact q) (.inl (PyProof.noPylong_small (by omega)))
theorem Qy:OpR X (Ys .Mod) (rI (λ_ j=>0<j) λi j => .int (i % j)):=opI λi j _ _ _ _ _ hc q=>by
 have h1:(0:Int)<j:=hc;exact mod_int' (by omega) (by rw[Int.fmod_eq_emod_of_nonneg i (by omega)];exact q)
theorem Qz:OpR X (Ys .Pow) (rI T9 λi j => .int (i ^ j.toNat)):=opI λ_ _ _ _ _ _ _ hc q=>pow_int_small hc.1 hc.2.1 hc.2.2 q
theorem unI{f:YK->Sem YK}{g:Int->Int}
 (rule:∀(i:Int) (t:Tok) (s:YM) (Q:YK->YM->Prop) (E:YK->YM->Prop),Q (.int (g i) s.toks) {s with toks:=s.toks+1}->YV (YS X.prog X.w) X.A (f (.int i t)) Q E s):
 UnR X f (rU λi => .int (g i)):=by
 intro pq s σ H x v Q I rx h;obtain⟨i,rfl,q⟩:=h;obtain⟨t,rfl⟩:=rx;exact rule i t s _ _ ⟨.int (g i),H,I.tok _,⟨_,rfl⟩,q⟩
theorem Kg:UnR X (unaryOp .USub) (rU λi => .int (-i)):=unI λ_ _ _ _ _ q=>neg_int q
end
def R0:V->V->Bool
 | .non,.non=>true | .non,.int _=>true | .int _,.non=>true | .non,.bl _=>true | .bl _,.non=>true | .non,.str _=>true | .str _,.non=>true
 | .int _,.int _=>true | .bl _,.bl _=>true | .str _,.str _=>true | .byt _,.byt _=>true
 | .int _,.str _=>true | .str _,.int _=>true | .bl _,.str _=>true | .str _,.bl _=>true
 | _,_=>false
def rEq:R2:=λx y H Q=>R0 x y=true/\Q (.bl (decide (x=y))) H
def rNe:R2:=λx y H Q=>R0 x y=true/\Q (.bl (!decide (x=y))) H
theorem Hn{i j:Int}:decide (V.int i=V.int j)=(i == j):=by
 rw[Vj];simp
theorem Kh{i j:Bool}:decide (V.bl i=V.bl j)=(i == j):=by
 rw[Vj];simp
theorem Ho{i j:Str}:decide (V.str i=V.str j)=(i == j):=by
 rw[Vj];simp
theorem Hq{i j:Array UInt8}:decide (V.byt i=V.byt j)=(i.toList == j.toList):=by
 rw[Vj];cases i;cases j;simp
section
variable{X:Cx}{a b c:Expr}{ta tb tc:TE}{pos:Pos}
theorem i5{pq:List (YN×Obj)}{σ:St}{H:Hp}{s:YM}{Q:VK}{k k':Bool}(I:Inv X pq σ H s)(q:Q (.bl k) H)(e:k=k'):EP X pq σ Q (.bool k') s:=by
 subst e;exact⟨.bl k,H,I,rfl,q⟩
theorem op_eq:OpR X (Yb .Eq) rEq:=by
 intro pq s σ H x y v u Q I rx ry h;obtain⟨hs,q⟩:=h;cases x with
 | non=>
   cases rx;cases y with
   | non=>cases ry;exact PySem.EqNone.eq_none_none (i5 I q (by simp))
   | bl j=>cases ry;exact PySem.EqNone.eq_none_bool (i5 I q (by simp))
   | int j=>obtain⟨t',rfl⟩:=ry;exact PySem.EqNone.eq_none_int (i5 I q (by simp))
   | str j=>obtain⟨t',rfl⟩:=ry;exact PySem.EqNone.eq_none_str (i5 I q (by simp))
   | _=>exact absurd (show false=true from hs) V0
 | bl i=>
   cases rx;cases y with
   | non=>cases ry;exact PySem.EqNone.eq_bool_none (i5 I q (by simp))
   | bl j=>cases ry;exact eq_bool (i5 I q Kh)
   | str j=>obtain⟨t',rfl⟩:=ry;exact PySem.EqMixed.eq_bool_str (i5 I q (by simp))
   | _=>exact absurd (show false=true from hs) V0
 | int i=>
   obtain⟨t,rfl⟩:=rx;cases y with
   | non=>cases ry;exact PySem.EqNone.eq_int_none (i5 I q (by simp))
   | int j=>obtain⟨t',rfl⟩:=ry;exact eq_int (i5 I q Hn)
   | str j=>obtain⟨t',rfl⟩:=ry;exact PySem.EqMixed.eq_int_str (i5 I q (by simp))
   | _=>exact absurd (show false=true from hs) V0
 | str i=>
   obtain⟨t,rfl⟩:=rx;cases y with
   | non=>cases ry;exact PySem.EqNone.eq_str_none (i5 I q (by simp))
   | bl j=>cases ry;exact PySem.EqMixed.eq_str_bool (i5 I q (by simp))
   | int j=>obtain⟨t',rfl⟩:=ry;exact PySem.EqMixed.eq_str_int (i5 I q (by simp))
   | str j=>obtain⟨t',rfl⟩:=ry;exact eq_str (i5 I q Ho)
   | _=>exact absurd (show false=true from hs) V0
 | byt i=>
   obtain⟨t,rfl⟩:=rx;cases y with
   | byt j=>obtain⟨t',rfl⟩:=ry;exact PySem.W.eq_bytes (i5 I q Hq)
   | _=>exact absurd (show false=true from hs) V0
 | _=>cases y<;>exact absurd (show false=true from hs) V0
theorem op_ne:OpR X (Yb .NotEq) rNe:=by
 intro pq s σ H x y v u Q I rx ry h;obtain⟨hs,q⟩:=h;cases x with
 | non=>
   cases rx;cases y with
   | non=>cases ry;exact PySem.EqNone.ne_none_none (i5 I q (by simp))
   | bl j=>cases ry;exact PySem.EqNone.ne_none_bool (i5 I q (by simp))
   | int j=>obtain⟨t',rfl⟩:=ry;exact PySem.EqNone.ne_none_int (i5 I q (by simp))
   | str j=>obtain⟨t',rfl⟩:=ry;exact PySem.EqNone.ne_none_str (i5 I q (by simp))
   | _=>exact absurd (show false=true from hs) V0
 | bl i=>
   cases rx;cases y with
   | non=>cases ry;exact PySem.EqNone.ne_bool_none (i5 I q (by simp))
   | bl j=>cases ry;exact ne_bool (i5 I q (congrArg not Kh))
   | str j=>obtain⟨t',rfl⟩:=ry;exact PySem.EqMixed.ne_bool_str (i5 I q (by simp))
   | _=>exact absurd (show false=true from hs) V0
 | int i=>
   obtain⟨t,rfl⟩:=rx;cases y with
   | non=>cases ry;exact PySem.EqNone.ne_int_none (i5 I q (by simp))
   | int j=>obtain⟨t',rfl⟩:=ry;exact ne_int (i5 I q (congrArg not Hn))
   | str j=>obtain⟨t',rfl⟩:=ry;exact PySem.EqMixed.ne_int_str (i5 I q (by simp))
   | _=>exact absurd (show false=true from hs) V0
 | str i=>
   obtain⟨t,rfl⟩:=rx;cases y with
   | non=>cases ry;exact PySem.EqNone.ne_str_none (i5 I q (by simp))
   | bl j=>cases ry;exact PySem.EqMixed.ne_str_bool (i5 I q (by simp))
   | int j=>obtain⟨t',rfl⟩:=ry;exact PySem.EqMixed.ne_str_int (i5 I q (by simp))
   | str j=>obtain⟨t',rfl⟩:=ry;exact ne_str (i5 I q (congrArg not Ho))
   | _=>exact absurd (show false=true from hs) V0
 | byt i=>
   obtain⟨t,rfl⟩:=rx;cases y with
   | byt j=>obtain⟨t',rfl⟩:=ry;exact PySem.W.ne_bytes (i5 I q (congrArg not Hq))
   | _=>exact absurd (show false=true from hs) V0
 | _=>cases y<;>exact absurd (show false=true from hs) V0
theorem TB:OpR X (Yb .Lt) (rI0 λi j => .bl (decide (i<j))):=Ng λ_ _ _ _ _ _ _ q=>lt_int q
theorem TC:OpR X (Yb .LtE) (rI0 λi j => .bl (decide (i<=j))):=Ng λ_ _ _ _ _ _ _ q=>le_int q
theorem TD:OpR X (Yb .Gt) (rI0 λi j => .bl (decide (j<i))):=Ng λ_ _ _ _ _ _ _ q=>gt_int q
theorem TF:OpR X (Yb .GtE) (rI0 λi j => .bl (decide (j<=i))):=Ng λ_ _ _ _ _ _ _ q=>ge_int q
theorem R1:OpR X (Yb .Is) (λx y H Q=>y = .non/\Q (.bl (decide (x = .non))) H):=by
 intro pq s σ H x y v u Q I rx ry h;obtain⟨rfl,q⟩:=h;cases ry;refine is_none_gen (i5 I q ?_)
 cases x<;>first
  | (cases rx;rfl)
  | (obtain⟨t,rfl⟩:=rx;rfl)
theorem op_notN:OpR X (Yb .IsNot) (λx y H Q=>y = .non/\Q (.bl (!decide (x = .non))) H):=by
 intro pq s σ H x y v u Q I rx ry h;obtain⟨rfl,q⟩:=h;cases ry;refine isnot_none_gen (i5 I q ?_)
 cases x<;>first
  | (cases rx;rfl)
  | (obtain⟨t,rfl⟩:=rx;rfl)
theorem OpR.or{f:YK->YK->Sem YK}{r r':R2}(h:OpR X f r)(h':OpR X f r'):OpR X f (λx y H Q=>r x y H Q\/r' x y H Q):=by
 intro pq s σ H x y v u Q I rx ry q;rcases q with q | q
 ·exact h pq s σ H x y v u Q I rx ry q
 ·exact h' pq s σ H x y v u Q I rx ry q
theorem Ce{op:CmpOp}{r:R2}(ho:OpR X (Yb op) r)(ha:PE X a ta)(hb:PE X b tb)(hm:Zo op b=false):PE X (.Compare a [op] [b] pos) (tOp r ta tb):=by
 intro pq s σ H Q I h;exact wpAny_Compare1 (Qw ha hb I h λv u s2 x y H2 I2 rx ry q=>ho pq s2 σ H2 x y v u Q I2 rx ry q) hm
def Pq(t:TE):TT:=λσ H Q=>t σ H λx H'=>∃ k,x = .bl k/\Q k H'
theorem Cf{op:CmpOp}{r:R2}(ho:OpR X (Yb op) r)(ha:PE X a ta)(hb:PE X b tb)(hm:Zo op b=false):PT X (.Compare a [op] [b] pos) (Pq (tOp r ta tb)):=by
 intro pq s σ H Q I h
 refine wpAny_isTrue_Compare1 (thn (ha pq s σ H _ I h) λv s1 ⟨x,H1,I1,r1,q1⟩=>thn (hb pq s1 σ H1 _ I1 q1) λu s2 ⟨y,H2,I2,r2,q2⟩=>
  thn (ho pq s2 σ H2 x y v u _ I2 r1 r2 q2) λc s3 ⟨z,H3,I3,r3,k,e,q3⟩=>?_) hm
 subst e;cases r3;exact Ye ⟨H3,I3,q3⟩
def GQ(r r':R2)(ta tb tc:TE):TE:=λσ H Q=>ta σ H λx H1=>tb σ H1 λy H2=>r x y H2 λz H3=>∃ k,z = .bl k/\
 (if k=true then tc σ H3 λw' H4=>r' y w' H4 Q else Q (.bl false) H3)
theorem Ki{op op':CmpOp}{r r':R2}(ho:OpR X (Yb op) r)(ho':OpR X (Yb op') r')(ha:PE X a ta)(hb:PE X b tb)(hc:PE X c tc)
 (hm:A0k [op,op'] [b,c]=false:=by with_unfolding_all rfl):PE X (.Compare a [op,op'] [b,c] pos) (GQ r r' ta tb tc):=by
 intro pq s σ H Q I h
 refine Compare_chain (thn (ha pq s σ H _ I h) λv s1 ⟨x,H1,I1,r1,q1⟩=>chain_link (thn (hb pq s1 σ H1 _ I1 q1) λu s2 ⟨y,H2,I2,r2,q2⟩=>
  thn (ho pq s2 σ H2 x y v u _ I2 r1 r2 q2) λd s3 ⟨z,H3,I3,r3,k,e,q3⟩=>?_)) hm
 subst e;cases r3;refine Ye ?_;cases k with
 | false=>exact ite_ff ⟨.bl false,H3,I3,rfl,q3⟩
 | true=>exact ite_tt (chain_last (thn (hc pq s3 σ H3 _ I3 q3) λw' s4 ⟨z',H4,I4,r4,q4⟩=>ho' pq s4 σ H4 y z' u w' Q I4 r2 r4 q4))
theorem Kj{op op':CmpOp}{r r':R2}(ho:OpR X (Yb op) r)(ho':OpR X (Yb op') r')(ha:PE X a ta)(hb:PE X b tb)(hc:PE X c tc)
 (hm:A0k [op,op'] [b,c]=false:=by with_unfolding_all rfl):PT X (.Compare a [op,op'] [b,c] pos) (Pq (GQ r r' ta tb tc)):=by
 intro pq s σ H Q I h
 refine isTrue_chain (thn (ha pq s σ H _ I h) λv s1 ⟨x,H1,I1,r1,q1⟩=>test_link (thn (hb pq s1 σ H1 _ I1 q1) λu s2 ⟨y,H2,I2,r2,q2⟩=>
  thn (ho pq s2 σ H2 x y v u _ I2 r1 r2 q2) λd s3 ⟨z,H3,I3,r3,k,e,q3⟩=>?_)) hm
 subst e;cases r3;refine Ye ?_;cases k with
 | false=>
   obtain⟨k',e',q'⟩:=q3;cases e';exact ite_ff ⟨H3,I3,q'⟩
 | true=>
   refine ite_tt (test_last (thn (hc pq s3 σ H3 _ I3 q3) λw' s4 ⟨z',H4,I4,r4,q4⟩=>thn (ho' pq s4 σ H4 y z' u w' _ I4 r2 r4 q4) λd' s5 ⟨z2,H5,I5,r5,k2,e2,q5⟩=>?_));subst e2;cases r5;exact Ye ⟨H5,I5,q5⟩
def Ni(K:Um)(x:V)(H:Hp)(k:Bool):Prop:=
 match x with
 | .non=>k=false
 | .bl b=>k=b
 | .int i=>k=(i != 0)
 | .str y=>y.length<=YU/\k=((y.length:Int) != 0)
 | .byt y=>y.size<=YU/\k=((y.size:Int) != 0)
 | .ref p=>(∃ xs,SqL K H p xs/\k=!xs.isEmpty)\/(∃ xs,SqT K H p xs/\k=!xs.isEmpty)\/∃ kvs,H p=some (.dK kvs)/\k=!kvs.isEmpty
 | _=>False
theorem GR{κ:Type}{kvs:List (κ×V)}{vs:List (κ×YK)}(r:KV kvs vs):(!vs.isEmpty)=!kvs.isEmpty:=by
 cases r<;>rfl
theorem Cs{xs:List V}{its:List YK}(r:Vals xs its):(!its.toArray.isEmpty)=!xs.isEmpty:=by
 cases r<;>simp
theorem Bg:(YU:Nat)<2 ^ 63:=by rw[A05];decide
theorem R3:Ua X (λx H Q=>∃ k,Ni X.K x H k/\Q k H):=by
 intro pq s σ H x v Q I rx h;obtain⟨k,e,q⟩:=h;have hl:=Bg;have hs:YU=16777216:=A05;cases x with
 | non=>
   cases rx;have e':k=false:=e;subst e';exact truthy_none ⟨H,I,q⟩
 | bl b=>
   cases rx;have e':k=b:=e;subst e';exact Ye ⟨H,I,q⟩
 | int i=>
   obtain⟨t,rfl⟩:=rx;have e':k=(i != 0):=e;subst e';exact PySem.P.truthy_int ⟨H,I,q⟩
 | str y=>
   obtain⟨t,rfl⟩:=rx;obtain⟨hy,e'⟩:y.length<=YU/\k=((y.length:Int) != 0):=e;subst e';exact PySem.P.truthy_str (by omega) ⟨H,I.tok _,q⟩
 | byt y=>
   obtain⟨t,rfl⟩:=rx;obtain⟨hy,e'⟩:y.size<=YU/\k=((y.size:Int) != 0):=e;subst e';exact PySem.W.truthy_bytes (by omega) ⟨H,I.tok _,q⟩
 | ref p=>
   cases rx;have e':(∃ xs,SqL X.K H p xs/\k=!xs.isEmpty)\/(∃ xs,SqT X.K H p xs/\k=!xs.isEmpty)\/∃ kvs,H p=some (.dK kvs)/\k=!kvs.isEmpty:=e;rcases e' with⟨xs,hx,e'⟩ | ⟨xs,hx,e'⟩ | ⟨kvs,hx,e'⟩
   ·subst e';obtain⟨its,r,pl,hz⟩:=I.list hx;have hlen:=r.length;exact wpAny_truthy_list pl.isList (by simp only[Uu];omega) ⟨H,I.tok _,by rw[Cs r];exact q⟩
   ·subst e';obtain⟨its,r,pl,hz⟩:=I.tuple hx;have hlen:=r.length;exact truthy_tuple pl (by simp only[Uu];omega) ⟨H,I.tok _,by rw[Cs r];exact q⟩
   ·subst e';obtain⟨hz,hS,vs,r,m⟩:kvs.length<=YU/\(p == Yx)=false/\∃ vs,KV kvs vs/\s.heap.DictOf (p7 X.prog X.w) p vs:=I.hok p _ hx;have hlen:kvs.length=vs.length:=Paired.length r;exact wpAny_truthy_dict hS m (by omega) ⟨H,I.tok _,by rw[GR r];exact q⟩
 | _=>exact(show False from e).elim
theorem Kk(ha:PE X a ta)(he:∀ whole,isTrue a X.env whole=(do let v <- whole;standAt a.pos;holding [v] (truthy v))):
 PT X a (λσ H Q=>ta σ H λx H'=>∃ k,Ni X.K x H' k/\Q k H'):=by
 intro pq s σ H Q I h;exact isTrue_plain (thn (ha pq s σ H _ I h) λv s1 ⟨x,H1,I1,r1,q1⟩=>R3 pq s1 σ H1 x v Q I1 r1 q1) (he _)
theorem GT:OpR X (Ys .Add) (λx y H Q=>∃ i j,x = .str i/\y = .str j/\i.length+j.length<=YU/\Q (.str (i++j)) H):=by
 intro pq s σ H x y v u Q I rx ry h;obtain⟨i,j,rfl,rfl,hz,q⟩:=h;obtain⟨t,rfl⟩:=rx;obtain⟨t',rfl⟩:=ry;exact add_str (λt' tk=>⟨.str (i++j),H,I.tok _,⟨_,rfl⟩,q⟩) hz
theorem AW{x:V}{us:List YK}(r:Vals [x] us):∃ u,us=[u]/\RelV x u:=by
 cases r with
 | cons r1 r2=>cases r2;exact⟨_,rfl,r1⟩
theorem Pr{x y:V}{us:List YK}(r:Vals [x,y] us):∃ u w',us=[u,w']/\RelV x u/\RelV y w':=by
 cases r with
 | cons r1 r2=>
   cases r2 with
   | cons r3 r4=>cases r4;exact⟨_,_,rfl,r1,r3⟩
theorem Kl:CallR X (.builtin "abs") (λxs H Q=>∃ i,xs=[.int i]/\Q (.int (if i<0 then -i else i)) H):=by
 intro pq s σ H xs us Q I r h;obtain⟨i,rfl,q⟩:=h;obtain⟨u,rfl,t,rfl⟩:=AW r;exact call_abs_int λu tk=>⟨.int (if i<0 then -i else i),H,I.tok _,⟨_,rfl⟩,q⟩
theorem JI(hc:X.calm=true):CallR X (.builtin "max") (λxs H Q=>∃ i j,xs=[.int i,.int j]/\Q (.int (if j>i then j else i)) H):=by
 intro pq s σ H xs us Q I r h;obtain⟨i,j,rfl,q⟩:=h;obtain⟨u,w',rfl,⟨t,rfl⟩,⟨t',rfl⟩⟩:=Pr r;refine max_two_ints (I.ok.hd hc) λh' tk k=>⟨_,H,I.kept k,?_,q⟩
 by_cases hj:j>i
 ·rw[iP hj,iP hj];exact⟨_,rfl⟩
 ·rw[iG hj,iG hj];exact⟨_,rfl⟩
theorem JJ(hc:X.calm=true):CallR X (.builtin "min") (λxs H Q=>∃ i j,xs=[.int i,.int j]/\Q (.int (if j<i then j else i)) H):=by
 intro pq s σ H xs us Q I r h;obtain⟨i,j,rfl,q⟩:=h;obtain⟨u,w',rfl,⟨t,rfl⟩,⟨t',rfl⟩⟩:=Pr r;refine min_two_ints (I.ok.hd hc) λh' tk k=>⟨_,H,I.kept k,?_,q⟩
 by_cases hj:j<i
 ·rw[iP hj,iP hj];exact⟨_,rfl⟩
 ·rw[iG hj,iG hj];exact⟨_,rfl⟩
theorem JK:CallR X (.type "int") (λxs H Q=>(∃ i,xs=[.int i]/\Q (.int i) H)\/∃ k,xs=[.bl k]/\Q (.int (if k then 1 else 0)) H):=by
 intro pq s σ H xs us Q I r h;rcases h with⟨i,rfl,q⟩ | ⟨k,rfl,q⟩
 ·obtain⟨u,rfl,t,rfl⟩:=AW r;exact call_int_int ⟨.int i,H,I,⟨_,rfl⟩,q⟩
 ·obtain⟨u,rfl,r1⟩:=AW r;cases r1;exact call_int_bool ⟨.int (if k then 1 else 0),H,I.tok _,⟨_,rfl⟩,q⟩
end
structure ObjM(h:Heap)(x dx C:YN)(mA:Str->Option YK):Prop where
 obj:h.get? x=some (PySem.W.instObj C dx)
 ns:h.Ns1 dx mA
 ne:dx≠x
theorem JL{h:Heap}{dx:YN}{mA:Str->Option YK}(n:h.Ns1 dx mA):∃ od,h.get? dx=some od/\∀ name,PySem.W.lookIn name od=some (mA name):=by
 obtain⟨o,es,ep,ho,hd,hk,_,hm⟩:=n;refine⟨o,ho,λname=>?_⟩;have e:=hm name;unfold nsFind findBy at e;rw[<-Array.find?_toList]at e;unfold PySem.W.lookIn;rw[hd];dsimp only;split
 ·rename_i y q;rw[q]at e;exact congrArg some e
 ·rename_i q;rw[q]at e
  have a:es.toList.any (·.refKey)=false:=by
   rw[List.any_eq_false];intro y hy;obtain⟨z,t,hkey⟩:=hk y (Array.mem_toList_iff.mp hy);simp[DictEntry.refKey,hkey]
  have a':¬ es.toList.any (·.refKey)=true:=by rw[a];exact V0
  rw[iG a'];exact congrArg some e
theorem ObjM.look{h:Heap}{x dx C:YN}{mA:Str->Option YK}(I:ObjM h x dx C mA):∃ od,PySem.W.InstAt h x (PySem.W.instObj C dx) C (some od)/\∀ name,PySem.W.lookIn name od=some (mA name):=
 let ⟨od,ho,hl⟩:=JL I.ns
 ⟨od,⟨I.obj,rfl,rfl,ho⟩,hl⟩
section
variable{P:YT}{w:YX}{H H':Hp}{h h':Heap}{a C dx:YN}{fs fs':List (Str×V)}
theorem Hr(hok:HOk P w H h)(e:H a=some (.ins C dx fs)):∃ mA,ObjM h a dx C mA/\(∀ f,RelO (fs.lookup f) (mA f))/\PySem.Within mA (fs.map (·.1))/\fs.length<=1000/\H dx=some (.own a):=by
 obtain⟨d,z,ne,ob,mA,n,r,q⟩:=(show ObjOk P w H h a (.ins C dx fs) from hok a _ e)
 exact⟨mA,⟨ob,n,ne⟩,r,q,z,d⟩
end
structure Cls(K:Um)(C:YN):Prop where
 pg:PySem.W.plainGet K C Str.empty=true
 hd:PySem.W.hasDictIn K C=true
 po:PySem.W.plainOver K C=true
 sa:PySem.W.findIn K (.ref C) "__setattr__"=some (some (.builtin "object.__setattr__"))
theorem Cls.get{K:Um}{C:YN}(c:Cls K C)(f:Str):PySem.W.plainGet K C f=true:=c.pg
section
variable{X:Cx}{pq:List (YN×Obj)}{σ:St}{H:Hp}{s:YM}{A:YZ}{E:YK->YM->Prop}{Q:YK->YM->Prop}{c:YK}{b:Bool}
inductive TyOf(K:Um)(H:Hp):V->YK->Prop where
 | non:TyOf K H .non (.type "NoneType")
 | bl (x:Bool):TyOf K H (.bl x) (.type "bool")
 | int (i:Int):TyOf K H (.int i) (.type "int")
 | str (x:Str):TyOf K H (.str x) (.type "str")
 | flt (x:UInt64):TyOf K H (.flt x) (.type "float")
 | lst {a:YN} {xs:List V} (e:H a=some (.lst xs)):TyOf K H (.ref a) (.type "list")
 | frz {a:YN} {o:Obj} {xs:List V} (e:H a=some (.frz o (.lst xs))):TyOf K H (.ref a) (.type "list")
 | tup {a:YN} {xs:List V} (e:H a=some (.tup xs)):TyOf K H (.ref a) (.type "tuple")
 | dK {a:YN} {kvs:List (Key×V)} (e:H a=some (.dK kvs)):TyOf K H (.ref a) (.type "dict")
 | dT {a:YN} {kvs:List (List Key×V)} (e:H a=some (.dT kvs)):TyOf K H (.ref a) (.type "dict")
 | ins {a C dx:YN} {fs:List (Str×V)} (e:H a=some (.ins C dx fs)) (cl:Cls K C) (ha:PySem.W.findIn K (.ref C) "__class__"=some (some (.builtin "object.__class__")))
    (hn:PySem.W.specialIn K (.builtin "object.__class__") "__get__"=some (some (.builtin "getset_descriptor.__get__"))) (htk:PySem.W.takesIn K (.builtin "object.__class__")=some true)
    (hm:PySem.W.mroIn K C (.type "object")=some true):TyOf K H (.ref a) (.ref C)
theorem JM{x:V}{u t:YK}(I:Inv X pq σ H s)(rx:RelV x u)(ty:TyOf X.K H x t)(e:PySem.W.kitOne X.K t c=some b)(h:∀ tk,Q (.bool b) {s with toks:=tk}):
 YV (YS X.prog X.w) A (call (.builtin "isinstance") [u,c]) Q E s:=by
 cases ty with
 | non=>cases(show u=Value.none from rx);exact PySem.W.kia_one PySem.W.kitx_none I.kIn True.intro e (λz=>nomatch z) h
 | bl y=>cases(show u=Value.bool y from rx);exact PySem.W.kia_one PySem.W.kitx_bool I.kIn True.intro e (λz=>nomatch z) h
 | int i=>obtain⟨t,q⟩:=(show ∃ t,u=Value.int i t from rx);cases q;exact PySem.W.kia_one PySem.W.kitx_int I.kIn True.intro e (λz=>nomatch z) h
 | str y=>obtain⟨t,q⟩:=(show ∃ t,u=Value.str y t from rx);cases q;exact PySem.W.kia_one PySem.W.kitx_str I.kIn True.intro e (λz=>nomatch z) h
 | flt y=>obtain⟨t,q⟩:=(show ∃ t,u=Value.float y t from rx);cases q;exact PySem.W.kia_one PySem.W.kitx_float I.kIn True.intro e (λz=>nomatch z) h
 | @lst a xs ea=>
   cases(show u=Value.ref a from rx);obtain⟨_,_,n,_,h1⟩:=(show ObjOk X.prog X.w H s.heap a (.lst xs) from I.hok a _ ea)
   exact PySem.W.kia_one PySem.W.kitx_list I.kIn ⟨_,h1,rfl⟩ e (λz=>nomatch z) h
 | @frz a ob xs ea=>
   cases(show u=Value.ref a from rx);obtain⟨_,_,_,n,_,h1⟩:=(show ObjOk X.prog X.w H s.heap a (.frz ob (.lst xs)) from I.hok a _ ea)
   exact PySem.W.kia_one PySem.W.kitx_list I.kIn ⟨_,h1,rfl⟩ e (λz=>nomatch z) h
 | @tup a xs ea=>
   cases(show u=Value.ref a from rx);obtain⟨_,_,_,p⟩:=(show ObjOk X.prog X.w H s.heap a (.tup xs) from I.hok a _ ea)
   obtain⟨o,h1,h2,_⟩:=p;exact PySem.W.kia_one PySem.W.kitx_tuple I.kIn ⟨o,h1,h2⟩ e (λz=>nomatch z) h
 | @dK a kvs ea=>
   cases(show u=Value.ref a from rx);obtain⟨_,_,vs,_,p⟩:=(show ObjOk X.prog X.w H s.heap a (.dK kvs) from I.hok a _ ea)
   obtain⟨o,es,ep,h1,h2,_⟩:=p;exact PySem.W.kia_one PySem.W.kitx_dict I.kIn ⟨o,h1,h2.1⟩ e (λz=>nomatch z) h
 | @dT a kvs ea=>
   cases(show u=Value.ref a from rx);obtain⟨_,_,xs,_,o,es,ep,h1,h2,_⟩:=(show ObjOk X.prog X.w H s.heap a (.dT kvs) from I.hok a _ ea)
   exact PySem.W.kia_one PySem.W.kitx_dict I.kIn ⟨o,h1,h2.1⟩ e (λz=>nomatch z) h
 | @ins a C dx fs ea cl ha hn htk hm=>
   cases(show u=Value.ref a from rx);obtain⟨mA,O,_⟩:=Hr I.hok ea;obtain⟨od,J,_⟩:=O.look;exact PySem.W.kia_one (PySem.W.kitx_own (cl.get _) cl.hd ha hn htk hm) I.kIn J e (λz=>nomatch z) h
end
structure Room(k:Nat)(A:YZ):Prop where
 hd:A.handled=none
 dp:A.depth+3 * k+5<A0d
 un:A.units+16 * k+200<cLine
 gd:A.guards=some []
theorem Room.deeper{k:Nat}{A:YZ}(r:Room (k+1) A)(env:Env):Room k (A.deeper env):=
 ⟨r.hd,by have:=r.dp;show A.depth+1+3 * k+5<_;omega,by have:=r.un;show A.units+3+16 * k+200<_;omega,r.gd⟩
theorem Room.depth{k:Nat}{A:YZ}(r:Room k A):A.depth<A0d:=by have:=r.dp;omega
def R4:TA:=λ_ H Q=>Q [] H
def F9(ta:TE)(tr:TA):TA:=λσ H Q=>ta σ H λx H1=>tr σ H1 λxs H2=>Q (x::xs) H2
section
variable{X:Cx}{e:Expr}{es:List Expr}{te:TE}{t:TA}{pos:Pos}
theorem Bh:PA X [] R4:=λ_ _ _ _ H Q I h=>Calls.spliced_nil ⟨[],H,I,.nil,h⟩
theorem AX(ha:PE X e te)(hr:PA X es t)(hs:Yc (e::es) X.env=(false,eval e X.env)::Yc es X.env:=by rfl):PA X (e::es) (F9 te t):=by
 intro pos pq s σ H Q I h;rw[hs];show YV _ _ (spliced ((false,eval e X.env)::backTo pos (Yc es X.env))) _ _ s;refine Calls.spliced_cons (thn (ha pq s σ H _ I h) λu s1 ⟨x,H1,I1,r1,q1⟩=>?_);exact thn (hr pos pq s1 σ H1 _ I1 q1) λus s2 ⟨xs,H2,I2,r2,q2⟩=>⟨x::xs,H2,I2,.cons r1 r2,q2⟩
def TH(t:TA):TE:=λσ H Q=>t σ H λxs H1=>xs.length<=YU/\∀ p,H1 p=none->Q (.ref p) (upd H1 p (.tup xs))
def TJ(t:TA):TE:=λσ H Q=>t σ H λxs H1=>xs.length<=YU/\∀ p,H1 p=none->Q (.ref p) (upd H1 p (.lst xs))
theorem R5{x1}(h:PA X es t):PE X (.Tuple es x1 pos) (TH t):=by
 intro pq s σ H Q I hq;refine wpAny_Tuple_spliced (thn (h pos pq s σ H _ I hq) λus s1 ⟨xs,H1,I1,r,z,q⟩=>⟨by rw[<-r.length];exact z,?_⟩);have hf:H1 s1.heap.objs.size=none:=I1.hok.fresh (Ux _);refine⟨.ref s1.heap.objs.size,upd H1 s1.heap.objs.size (.tup xs),I1.laid (t':=s1.toks) (λb u e=>Uw _ e) (Ux _) ?_,rfl,q _ hf⟩;exact⟨z,us,r,⟨_,V8 _ rfl,rfl,_,rfl⟩⟩
theorem R6(h:PA X es t):PE X (.List es pos) (TJ t):=by
 intro pq s σ H Q I hq;refine wpAny_List_spliced (thn (h pos pq s σ H _ I hq) λus s1 ⟨xs,H1,I1,r,z,q⟩=>⟨by rw[<-r.length];exact z,?_⟩);have hf:H1 s1.heap.objs.size=none:=I1.hok.fresh (Ux _);refine⟨.ref s1.heap.objs.size,upd H1 s1.heap.objs.size (.lst xs),I1.laid (t':=s1.toks) (λb u e=>Uw _ e) (Ux _) ?_,rfl,q _ hf⟩;exact⟨z,us,0,r,V8 _ rfl⟩
end
abbrev Sp:=List V->Hp->VK->XK->Prop
abbrev CXT:=List Env->Hp->YM->XK->YK->YM->Prop
structure Env0(P:YT)(w:YX)(K:Um)(mg:Str->Option YK)(base:Heap)(A:YZ)(outer:List Env)(s:YM)(H:Hp):Prop where
 frames:A.frames=some outer
 mod:Mod K mg base
 bs:∀ b o,base.get? b=some o->s.heap.get? b=some o/\H b=none
 bsz:base.objs.size<=s.heap.objs.size
 funs:s.heap.FunFrames base outer
 frf:∀ b∈frs outer,H b=none
 hok:HOk P w H s.heap
 bare:AllBare s.gens
noncomputable def CE(outer:List Env)(P:YT)(w:YX)(H:Hp)(s:YM)(Q:VK)(u:YK)(s':YM):Prop:=
 ∃ v H',s'.os=s.os/\AllBare s'.gens/\Un (frs outer) [] H H' s.heap s'.heap/\HOk P w H' s'.heap/\RelV v u/\Q v H'
noncomputable def CR(CX:CXT)(outer:List Env)(P:YT)(w:YX)(H:Hp)(s:YM)(Q:VK)(E:XK)(r:Result)(s':YM):Prop:=
 match r with
 | .ok (.ret u)=>CE outer P w H s Q u s'
 | .ok _=>False
 | .error e=>CX outer H s E e s'
structure FnOk(P:YT)(w:YX)(K:Um)(mg:Str->Option YK)(base:Heap)(CX:CXT)(k:Nat)(f:YN)(fd:Z5)(ps:List Str)(sp:Sp):Prop where
 len:∀ vs H Q E,sp vs H Q E->vs.length=ps.length
 run:∀(A:YZ) (outer:List Env) (s:YM) (H:Hp) (args:Args) (us:List YK) (vs:List V) (Q:VK) (E:XK),Room k A->Env0 P w K mg base A outer s H->BindsTo s fd args (ps.zip us)->Vals vs us->sp vs H Q E->
  codeAny (YS P w) A (.call (.ref f) args) (CR CX outer P w H s Q E) s
section
variable{X:Cx}{pq:List (YN×Obj)}{σ:St}{H:Hp}{s s':YM}
theorem Inv.env0(I:Inv X pq σ H s):Env0 X.prog X.w X.K X.mg X.base X.A X.stack s H:=
 ⟨I.ok.frames,I.ok.mod,I.bs,VF I.ok.bsz I.sz,I.stack,I.stkFree,I.hok,I.bare⟩
theorem Inv.after{Q:VK}{u:YK}(I:Inv X pq σ H s)(h:CE X.stack X.prog X.w H s Q u s'):EP X pq σ Q u s':=by
 obtain⟨v,H',os,bare,un,hok,r,q⟩:=h;obtain⟨hh,g,d,t,os'⟩:=s';obtain rfl:os'=s.os:=os;exact⟨v,H',I.call (h':=hh) (g':=g) (d':=d) (t':=t) (ch:=[]) un hok bare (λb z=>absurd z (by simp)),r,q⟩
end
def Ps(sp:Sp)(dvs:List V)(E:XK)(t:TA):TE:=λσ H Q=>t σ H λvs H1=>sp (vs++dvs) H1 Q E
def Binds(K:Um)(fd:Z5)(ps:List Str)(ds:List YK):Prop:=
 ∀(s:YM) (us:List YK),K.In s.heap->(us++ds).length=ps.length->BindsTo s fd ⟨us,[]⟩ (ps.zip (us++ds))
theorem Binds.all{K:Um}{fd:Z5}{ps:List Str}(h:∀ us:List YK,us.length=ps.length->bindArgs fd ⟨us,[]⟩=pure (ps.zip us)):Binds K fd ps []:=λs us _ hl=>by
 rw[VY]at hl ⊢;exact .of_eq (h us hl)
def GU(CX:CXT)(X:Cx)(E:XK):Prop:=∀(pq:List (YN×Obj)) (σ:St) (H:Hp) (s:YM) (e:YK) (s':YM),Inv X pq σ H s->CX X.stack H s E e s'->X.xe e s'
section
variable{X:Cx}{CX:CXT}{k:Nat}{f C:YN}{fd:Z5}{ps:List Str}{sp:Sp}{dvs:List V}{ds:List YK}{E:XK}{x m:Str}{p pos apos:Pos}{e o:Expr}{es:List Expr}{ta:TE}{t:TA}
theorem R7{pq:List (YN×Obj)}{σ:St}{H:Hp}{s:YM}{Q:VK}{us:List YK}{vs:List V}(F:FnOk X.prog X.w X.K X.mg X.base CX k f fd ps sp)(hr:Room k X.A)(hb:Binds X.K fd ps ds)(hd:Vals dvs ds)(hx:GU CX X E)
 (I:Inv X pq σ H s) (r:Vals vs us) (h:sp (vs++dvs) H Q E):YV (YS X.prog X.w) X.A (call (.ref f) us) (EP X pq σ Q) X.xe s:=by
 have r2:Vals (vs++dvs) (us++ds):=r.append hd;have hl:(us++ds).length=ps.length:=by rw[<-r2.length];exact F.len _ _ _ _ h
 refine wpAny_call (Zw (F.run X.A X.stack s H ⟨us,[]⟩ (us++ds) (vs++dvs) Q E hr I.env0 (hb s us I.kIn hl) r2 h) λr s' hq=>?_);cases r with
 | error e=>exact hx pq σ H s e s' I hq
 | ok fl=>
   cases fl with
   | ret u=>exact I.after hq
   | next=>exact False.elim hq
   | brk=>exact False.elim hq
   | cont=>exact False.elim hq
theorem Nj(F:FnOk X.prog X.w X.K X.mg X.base CX k f fd ps sp)(hr:Room k X.A)(hg:Gl X x)(hm:X.mg x=some (.ref f))(hk:PySem.W.keepIn X.K (.ref f)=true)(hb:Binds X.K fd ps ds)(hd:Vals dvs ds)(hx:GU CX X E)
 (ha:PA X (e::es) t) (hdb:(x == ("__debug__":Str))=false:=by decide) (he:Yc (e::es) X.env=(false,eval e X.env)::Yc es X.env:=by rfl) (hpl:(backTo pos (Yc es X.env)).any (·.1)=false:=by rfl):
 PE X (.Call (.Name x p) (e::es) [] pos) (Ps sp dvs E t):=by
 intro pq s σ H Q I h;refine ZE (NX I hg hm ?_ hdb);refine PySem.W.callWith_K (h₀:=X.base) I.ok.mod.kin hk (thn (ha pos pq s σ H _ I h) λus s1 ⟨vs,H1,I1,r,q⟩=>⟨I1.kIn,?_⟩) he hpl;exact R7 F hr hb hd hx I1 r q
end
noncomputable def PK(X:Cx)(kws:List Keyword)(t:TA):Prop:=
 ∀(pos:Pos) (pq:List (YN×Obj)) (s:YM) (σ:St) (H:Hp) (Q:List V->Hp->Prop),Inv X pq σ H s->t σ H Q->YV (YS X.prog X.w) X.A (evalAll ((ZQ pos (Z8 kws X.env)).map (·.2))) (AP X pq σ Q) X.xe s
section
variable{X:Cx}{CX:CXT}{k:Nat}{f C:YN}{fd:Z5}{ps ks:List Str}{sp:Sp}{E:XK}{x m:Str}{p pos apos kpos:Pos}{e o:Expr}{es:List Expr}{kws:List Keyword}{te ta:TE}{t tk:TA}{nm:Option Str}
theorem Km:PK X [] R4:=λ_ _ _ _ H Q I h=>wpAny_evalAll_nil ⟨[],H,I,.nil,h⟩
theorem Hs(ha:PE X e te)(hr:PK X kws t):PK X (⟨nm,e,kpos⟩::kws) (F9 te t):=by
 intro pos pq s σ H Q I h;show YV _ _ (evalAll ((do let v <- eval e X.env;standAt pos;pure v)::(ZQ pos (Z8 kws X.env)).map (·.2))) _ _ s;refine wpAny_evalAll_cons (YL (thn (ha pq s σ H _ I h) λu s1 ⟨x,H1,I1,r1,q1⟩=>YL (ZM (YQ ?_))));exact thn (hr pos pq s1 σ H1 _ I1 q1) λus s2 ⟨xs,H2,I2,r2,q2⟩=>⟨x::xs,H2,I2,.cons r1 r2,q2⟩
variable{g:List YK->List YK->List YK}{gV:List V->List V->List V}
end
structure FnScope(N P:List Str)(sc:Yd):Prop where
 kind:sc.kind = .function
 co:sc.isCoroutine=false
 gen:sc.isGenerator=false
 nd:N.Nodup
 pre:N.take P.length=P
 par:∀ x∈P,sc.names.lookup x=some .local\/sc.names.lookup x=some .cell
 nofree:∀ y∈sc.names,y.2 ≠ .free
theorem Dp{kindOf:Str->Option Yo}{x:Str}:∀{binds:List (Str×YK)} {m:Str->Option YK},(∀ v,(x,v)∉binds)->bindL kindOf binds m x=m x
 | [],_,_=>rfl
 | (n,v)::r,m,h=>by
   unfold bindL;rw[Dp λw hw=>h w (VB _ hw)];split
   ·have:x≠n:=by rintro rfl;exact h v VJ
    simp[this]
   ·rfl
theorem Dq{kindOf:Str->Option Yo}{x:Str}:∀{binds:List (Str×YK)} {m:Str->Option YK},(∀ v,(x,v)∉binds)->bindC kindOf binds m x=m x
 | [],_,_=>rfl
 | (n,v)::r,m,h=>by
   unfold bindC;rw[Dq λw hw=>h w (VB _ hw)];split
   ·rfl
   ·have:x≠n:=by rintro rfl;exact h v VJ
    simp[this]
theorem Dr{kindOf:Str->Option Yo}{x:Str}{v:YK}:∀{P:List Str} {vs:List YK} {i:Nat} {m:Str->Option YK},P.Nodup->P[i]?=some x->vs[i]?=some v->kindOf x=some .local->
 bindL kindOf (P.zip vs) m x=some v
 | [],_,_,_,_,h,_,_=>by simp at h
 | _::_,[],_,_,_,_,h,_=>by simp at h
 | p::P,w::vs,0,m,nd,h1,h2,hk=>by
   simp at h1 h2;subst h1;subst h2;show bindL kindOf ((p,w)::P.zip vs) m p=_;unfold bindL;rw[Dp λv hv=>(WV.mp nd).1 (WW hv).1,iP hk];simp
 | p::P,w::vs,i+1,m,nd,h1,h2,hk=>by
   show bindL kindOf ((p,w)::P.zip vs) m x=_;unfold bindL;exact Dr (i:=i) (WV.mp nd).2 (by simpa using h1) (by simpa using h2) hk
theorem Ds{kindOf:Str->Option Yo}{x:Str}{v:YK}:∀{P:List Str} {vs:List YK} {i:Nat} {m:Str->Option YK},P.Nodup->P[i]?=some x->vs[i]?=some v->kindOf x≠some .local->
 bindC kindOf (P.zip vs) m x=some v
 | [],_,_,_,_,h,_,_=>by simp at h
 | _::_,[],_,_,_,_,h,_=>by simp at h
 | p::P,w::vs,0,m,nd,h1,h2,hk=>by
   simp at h1 h2;subst h1;subst h2;show bindC kindOf ((p,w)::P.zip vs) m p=_;unfold bindC;rw[Dq λv hv=>(WV.mp nd).1 (WW hv).1,iG hk];simp
 | p::P,w::vs,i+1,m,nd,h1,h2,hk=>by
   show bindC kindOf ((p,w)::P.zip vs) m x=_;unfold bindC;exact Ds (i:=i) (WV.mp nd).2 (by simpa using h1) (by simpa using h2) hk
def start(N:List Str)(vs:List V):St:=vs.map some++Uv (N.length - vs.length) none
noncomputable def GV(CX:CXT)(P:YT)(w:YX)(K:Um)(mg:Str->Option YK)(base:Heap)(N:List Str)(qual:Str)(scope:Yd)(f:YN)(cd:YK)(A:YZ)(outer:List Env)(s:YM)(H:Hp)(E:XK):Cx where
 prog:=P
 w:=w
 K:=K
 mg:=mg
 base:=base
 A:=A.deeper (envOfC qual scope s.heap.objs.size f cd)
 N:=N
 s₀:=s
 H₀:=H
 env:=envOfC qual scope s.heap.objs.size f cd
 outer:=outer
 stack:=envOfC qual scope s.heap.objs.size f cd::outer
 ex:=[]
 calm:=true
 fn:=λ_=>true
 pn:=[]
 xe:=λe s'=>YV (YS P w) (A.deeper (envOfC qual scope s.heap.objs.size f cd)) (leaving (envOfC qual scope s.heap.objs.size f cd) e) (λ_ s''=>CX outer H s E e s'') (λe' s''=>CX outer H s E e' s'') s'
theorem FA{sc:Yd}{n:Nat}{x:Str}(h:sc.names.lookup x=some .cell):∃ c,(Yp n sc.names []).lookup x=some c:=by
 have q:=PySem.W.cellsFrom_some sc.names n [] (.inl h);exact Wc.mp q
theorem JN{CX:CXT}{P:YT}{w:YX}{K:Um}{mg:Str->Option YK}{base:Heap}{N ps:List Str}{qual:Str}{scope:Yd}{f:YN}{cd:YK}{A:YZ}{outer:List Env}{s s1:YM}{H:Hp}{E:XK}{us:List YK}{vs:List V}
 (S:FnScope N ps scope) (hd:A.handled=none) (e0:Env0 P w K mg base A outer s H) (hl:vs.length=ps.length) (r:Vals vs us)
 (x:InCallC s s.heap.objs.size (bindL (envOfC qual scope s.heap.objs.size f cd).kindOf (ps.zip us) λ_=>none) (Yp (s.heap.objs.size+1) scope.names []) (bindC (envOfC qual scope s.heap.objs.size f cd).kindOf (ps.zip us) λ_=>none) s1):
 Inv (GV CX P w K mg base N qual scope f cd A outer s H E) [] (start N vs) H s1:=by
 have hpl:ps.length<=N.length:=by have:=congrArg XZ S.pre;rw[VN]at this;omega
 obtain⟨h1,tk,rfl,hk⟩:=x.done;have noA:∀ b:YN,b∉(GV CX P w K mg base N qual scope f cd A outer s H E).ex:=λb z=>absurd (show b∈([]:List YN) from z) (by simp)
 refine⟨⟨e0.mod,S.kind,rfl,rfl,Ux _,λy z c h1 h2=>?_,λy hy=>?_,λy c _ h=>?_,λ_=>hd,Around.frames_deeper e0.frames,.inr ⟨rfl,rfl⟩,λb z=>absurd z (noA b),e0.bs,e0.bsz,λb _ _=>noA b,λb z=>absurd z (noA b),e0.funs,e0.frf⟩,
  rfl,e0.bare,Un.kept hk,⟨_,x.toInCall.ns,λi y v h1 h2 h3=>?_⟩,λy c h=>⟨_,x.cell y c h⟩,e0.hok.fresh (Ux _),λy c h=>?_,λp hp=>absurd (show p∈([]:List (YN×Obj)) from hp) (by simp),e0.hok.kept hk,?_⟩
 ·exact name_of_addr x.apart (PySem.mem_of_lookup h1) (PySem.mem_of_lookup h2)
 ·have hy:scope.names.lookup y=some .cell\/scope.names.lookup y=some .free:=hy;rcases hy with hy | hy
  ·exact FA hy
  ·exact absurd rfl (S.nofree _ (PySem.mem_of_lookup hy))
 ·exact XN (x.above y c (PySem.mem_of_lookup h))
 ·have hi:i<vs.length:=by
   unfold start at h2;by_cases hi:i<vs.length
   ·exact hi
   ·rw[VL (by simpa using hi)]at h2;rw[W3]at h2;split at h2<;>cases h2
  have ha:vs[i]?=some v:=by
   unfold start at h2;rw[V9 (by simpa using hi),Uz]at h2;cases e:vs[i]? with
   | none=>rw[e]at h2;cases h2
   | some a=>rw[e]at h2;cases h2;rfl
  obtain⟨u,hu,rv⟩:=r.get ha
  have hp:ps[i]?=some y:=by
   rw[<-S.pre,XH (by omega)];exact h1
  have ndP:ps.Nodup:=by rw[<-S.pre];exact S.nd.sublist (Xj _ _)
  refine⟨u,rv,?_⟩;rcases S.par y (Us hp) with k | k
  ·exact .inl ⟨k,Dr ndP hp hu k⟩
  ·obtain⟨c,e⟩:=FA (n:=s.heap.objs.size+1) k;refine .inr ⟨.inl k,c,e,?_⟩;have q:=x.cell y c e;rw[Ds ndP hp hu (by show scope.names.lookup y≠_;rw[k];decide)]at q;exact q
 ·exact e0.hok.fresh (XN (x.above y c (PySem.mem_of_lookup h)))
 ·unfold start;show _=N.length;rw[Ut,Ur,WC];omega
theorem TK{CX:CXT}{P:YT}{w:YX}{K:Um}{mg:Str->Option YK}{base:Heap}{k:Nat}{f:YN}{name qual:Str}{params:Arguments}{body:List Stmt}{scope:Yd}{dV kV doc pm cdv ct oc:YK}{an od:Option YN}
 {osl:Array (Option YK)} {N ps:List Str} {sp:Sp} (lk:K.lookup f=some ⟨oc,od,.func (PySem.W.fnOf name qual params body scope dV kV doc pm an cdv ct),osl⟩) (hcd:PySem.W.codeIn K cdv qual=true) (S:FnScope N ps scope)
 (len:∀ vs H Q E,sp vs H Q E->vs.length=ps.length)
 (hbody:∀(A:YZ) (outer:List Env) (s:YM) (H:Hp) (vs:List V) (Q:VK) (E:XK),Room k (A.deeper (envOfC qual scope s.heap.objs.size f cdv))->sp vs H Q E->
   ∃ t,PSs (GV CX P w K mg base N qual scope f cdv A outer s H E) body t/\t {nx:=λ_ H'=>Q .non H',rt:=Q} (start N vs) H):
 FnOk P w K mg base CX (k+1) f (PySem.W.fnOf name qual params body scope dV kV doc pm an cdv ct) ps sp:=by
 refine⟨len,λA outer s H args us vs Q E hr e0 hb r hsp=>?_⟩;have hl:=len _ _ _ _ hsp;have KX:K.In s.heap:=e0.mod.kin.keeps λb o e=>(e0.bs b o e).1;have lim:s.heap.NoLimit:=e0.mod.nolimit.keeps λb o e=>(e0.bs b o e).1
 have hkind:∀ y∈ps.zip us,scope.names.lookup y.1=some .local\/(scope.names.lookup y.1=some .cell/\((Yp (s.heap.objs.size+1) scope.names []).lookup y.1).isSome=true):=λ⟨n,v⟩ hy=>by
  rcases S.par n (WW hy).1 with q | q
  ·exact .inl q
  ·exact .inr ⟨q,PySem.W.cellsFrom_some _ _ _ (.inl q)⟩
 refine codeAny_call_function hr.depth (KX _ _ lk) rfl S.co S.gen rfl (PySem.W.codeRec_of KX hcd) (hb _ _ _ _ ?_);refine wpAny_newFunctionEnv_cells S.kind hkind λenv he s1 x=>?_;subst he;refine⟨lim.keeps x.toInCall.keep,codeAny_func ?_⟩;obtain⟨t,ht,hq⟩:=hbody A outer s H vs Q E (hr.deeper _) hsp;have I:Inv (GV CX P w K mg base N qual scope f cdv A outer s H E) [] (start N vs) H s1:=JN S hr.hd e0 hl r x;refine Yy (ht [] s1 (start N vs) H _ I hq) (λfl s' hs=>?_) λe s' hs=>hs
 have fin:∀{σ':St} {H':Hp} {v:V} {u:YK},Inv (GV CX P w K mg base N qual scope f cdv A outer s H E) [] σ' H' s'->RelV v u->Q v H'->CE outer P w H s Q u s':=
  λ{σ' H' v u} J rv q=>⟨v,H',J.os,J.bare,J.base,J.hok,rv,q⟩
 cases fl with
 | ret u=>
   obtain⟨v,σ',H',J,rv,q⟩:=hs;exact fin J rv q
 | next=>
   obtain⟨σ',H',J,q⟩:=hs;exact fin (v:=V.non) (u:=Value.none) J rfl q
 | brk=>
   obtain⟨_,_,_,q⟩:=hs;exact False.elim q
 | cont=>
   obtain⟨_,_,_,q⟩:=hs;exact False.elim q
section
variable{X:Cx}{x:Str}{p pos:Pos}{e:Expr}{es:List Expr}{t:TA}{id T:String}{r:List V->Hp->VK->Prop}
def tCB(r:List V->Hp->VK->Prop)(t:TA):TE:=λσ H Q=>t σ H λvs H1=>r vs H1 Q
theorem u8(hc:CallR X (.builtin id) r)(hg:Gl X x)(hm:X.mg x=none)(hv:Ya x=some (.builtin id))(ha:PA X (e::es) t)(hn:x≠"__name__":=by decide)(hdb:(x == ("__debug__":Str))=false:=by decide)
 (he:Yc (e::es) X.env=(false,eval e X.env)::Yc es X.env:=by rfl) (hpl:(backTo pos (Yc es X.env)).any (·.1)=false:=by rfl):PE X (.Call (.Name x p) (e::es) [] pos) (tCB r t):=by
 intro pq s σ H Q I h;refine ZE (C8 I hg hm hv ?_ hn hdb);exact PyProof.Rows.callWith_builtin1 (thn (ha pos pq s σ H _ I h) λus s1 ⟨vs,H1,I1,r1,q1⟩=>hc pq s1 σ H1 vs us Q I1 r1 q1) he hpl
theorem BR(hc:CallR X (.type T) r)(hg:Gl X x)(hm:X.mg x=none)(hv:Ya x=some (.type T))(ha:PA X (e::es) t)(hn:x≠"__name__":=by decide)(hdb:(x == ("__debug__":Str))=false:=by decide)
 (he:Yc (e::es) X.env=(false,eval e X.env)::Yc es X.env:=by rfl) (hpl:(backTo pos (Yc es X.env)).any (·.1)=false:=by rfl):PE X (.Call (.Name x p) (e::es) [] pos) (tCB r t):=by
 intro pq s σ H Q I h;refine ZE (C8 I hg hm hv ?_ hn hdb);exact PyProof.Rows.callWith_type1 (thn (ha pos pq s σ H _ I h) λus s1 ⟨vs,H1,I1,r1,q1⟩=>hc pq s1 σ H1 vs us Q I1 r1 q1) he hpl
end
end L2
namespace HT
open PySem PyProof.Rows
def lexLt:List Int->List Int->Bool
 | [],[]=>false
 | [],_::_=>true
 | _::_,[]=>false
 | x::xs,y::ys=>if x=y then lexLt xs ys else decide (x<y)
theorem GW(x y:Int)(xs ys:List Int):lexLt (x::xs) (y::ys)=if x=y then lexLt xs ys else decide (x<y):=rfl
theorem DX:lexLt [] []=false:=rfl
theorem Ct(y:Int)(ys:List Int):lexLt [] (y::ys)=true:=rfl
theorem Cu(x:Int)(xs:List Int):lexLt (x::xs) []=false:=rfl
theorem Kn(A:YZ)(s:YM)(a:Int)(t:Tok)(c:Int)(u:Tok):∃ e,SeqAt.EqAt A s (.int a t) (.int c u) e/\(e=true↔a=c):=
 ⟨(a == c),SeqAt.EqAt.int_int a t c u,by simp⟩
theorem rcLt_int(A:YZ)(s:YM)(a:Int)(t:Tok)(c:Int)(u:Tok)(prog:YT)(w:YX)(E:YK->YM->Prop)(Q:YK->YM->Prop)(h:Q (.bool (decide (a<c))) s):
 YV (YS prog w) A (Z2 .Lt (.int a t) (.int c u)) Q E s:=
 (PyProof.Rows.lt_int h:YV (YS prog w) A (Yb .Lt (.int a t) (.int c u)) Q E s)
section
open PySem.SeqAt
open PySem.AutoSeq1 (wpAny_loadPart')
open PySem.MeetsSeq PySem.MeetsSeq2 PySem.MeetsSeq3
theorem DY(l b:YN)(items items2:Array YK)(n n2:Nat)(dd dd2:Option YN)(sl sl2:Array (Option YK))(ns ms:List Int)(hi:IntsAre items.toList ns)(hj:IntsAre items2.toList ms):
 Meets (Builtin.«tuple.__lt__» ⟨[.ref l,.ref b],[]⟩)
  (λ_ R s=>s.heap.get? l=some {cls := .type "tuple",dict:=dd,data := .seq items n,slots:=sl}/\s.heap.get? b=some {cls := .type "tuple",dict:=dd2,data := .seq items2 n2,slots:=sl2}/\
    R (.ok (.ret (.bool (lexLt ns ms)))) s):=
 .of_wp λprog w A R s h=>by
  obtain⟨hp,g,d,tk,os⟩:=s;obtain⟨hl,hb,h⟩:=h;have f2:=AutoSeq1.sub_tuple_tuple;have z1:items.size=ns.length:=by rw[<-hi.length];simp
  have z2:items2.size=ms.length:=by rw[<-hj.length];simp
  wp_walk using wpAny_loadPart' hl,wpAny_loadPart' hb,wpAny_forIn_list _ (λrest b s'=>b.1=none/\s'=⟨hp,g,d,tk,os⟩/\∃(vs ws:List YK) (ns' ms':List Int),rest=vs.zip ws/\
   IntsAre vs ns'/\IntsAre ws ms'/\ns'.length+items2.size=ms'.length+items.size/\R (.ok (.ret (.bool (lexLt ns' ms')))) ⟨hp,g,d,tk,os⟩) _
  case turn=>
   rintro⟨y,x⟩ rest b s' ⟨hb',rfl,vs,ws,ns',ms',hz,hvi,hwi,hlen,hR⟩;cases hvi with
   | nil=>rw[List.zip_nil_left]at hz;cases hz
   | cons a t hvi'=>
     cases hwi with
     | nil=>rw[List.zip_nil_right]at hz;cases hz
     | cons c u hwi'=>
       rw[Xg]at hz;injection hz with hyx hrest;injection hyx with hy hx;subst hy hx;rw[GW]at hR;simp only[VU]at hlen;obtain⟨e,he,hiff⟩:=Kn A.in1 ⟨hp,g,d,tk,os⟩ a t c u;refine YL (he prog w _ _ ?_);cases e with
       | true=>
         rw[iP (hiff.mp rfl)]at hR
         wp_walk
         exact⟨rfl,rfl,_,_,_,_,hrest,hvi',hwi',by omega,hR⟩
       | false=>
         rw[iG (λq=>absurd (hiff.mpr q) V0)]at hR;have hri:=rcLt_int A.in1 ⟨hp,g,d,tk,os⟩ a t c u prog w
         wp_walk using hri
         exact⟨_,rfl,by simpa using hR⟩
  case fin=>
   rintro⟨b1,b2⟩ s' ⟨hb',rfl,vs,ws,ns',ms',hz,hvi,hwi,hlen,hR⟩;simp only at hb';subst hb'
   have hv:lexLt ns' ms'=decide (items.size<items2.size):=by
    cases hvi with
    | nil=>
      cases hwi with
      | nil=>
        simp only[WB]at hlen;rw[DX];exact(decide_eq_false (by omega)).symm
      | cons c u hw=>
        simp only[WB,VU]at hlen;rw[Ct];exact(decide_eq_true (by omega)).symm
    | cons a t hv=>
      cases hwi with
      | nil=>
        simp only[WB,VU]at hlen;rw[Cu];exact(decide_eq_false (by omega)).symm
      | cons c u hw=>
        rw[Xg]at hz;cases hz
   rw[hv]at hR
   wp_walk
   exact⟨_,rfl,by simpa[Builtin.Tuple.tupleCompareSizes] using hR⟩
  case h=>
   exact⟨rfl,rfl,items.toList,items2.toList,ns,ms,rfl,hi,hj,by omega,h⟩
end
section
variable{prog:YT}{w:YX}{A:YZ}{E:YK->YM->Prop}{s:YM}
theorem lt_tupInts{l b:YN}{items items2:Array YK}{ns ms:List Int}{Q:YK->YM->Prop}(hl:IsTup s.heap l items)(hb:IsTup s.heap b items2)(hi:IntsAre items.toList ns)(hj:IntsAre items2.toList ms)
 (hu:A.units<cLine) (h:Q (.bool (lexLt ns ms)) s):YV (YS prog w) A (Yb .Lt (.ref l) (.ref b)) Q E s:=by
 obtain⟨⟨cls,dd,data,sl⟩,ho,hc,n,hd⟩:=id hl;obtain⟨⟨cls2,dd2,data2,sl2⟩,ho2,hc2,n2,hd2⟩:=id hb;simp only at hc hd hc2 hd2;subst hc hd hc2 hd2
 exact richCompare_meets_room (op := .Lt) ⟨_,ho,rfl⟩ ⟨_,ho2,rfl⟩ PySem.F.slot_tuple_lt PySem.F.entry_tuple_lt (PySem.F.args_tuple_lt_2 _ _) (DY l b items items2 n n2 dd dd2 sl sl2 ns ms hi hj)
  ⟨ho,ho2,show Value.bool (lexLt ns ms)≠Value.notImplemented/\Q (.bool (lexLt ns ms)) s from ⟨(λx=>nomatch x),h⟩⟩ hu
theorem cat_tup{t b:YN}{vs ws:List YK}{Q:YK->YM->Prop}(ht:IsTup s.heap t vs.toArray)(hb:IsTup s.heap b ws.toArray)(hv:vs≠[])
 (h1:ws=[]->Q (.ref t) s) (h2:ws≠[]->Q (.ref s.heap.objs.size) {s with heap:=s.heap.push {cls := .type "tuple",data := .seq (vs++ws).toArray}})
 (hsz:vs.length+ws.length<=YU):YV (YS prog w) A (Ys .Add (.ref t) (.ref b)) Q E s:=by
 obtain⟨⟨cls,dd,data,sl⟩,ho,hc,n,hd⟩:=id ht;obtain⟨⟨cls2,dd2,data2,sl2⟩,ho2,hc2,n2,hd2⟩:=id hb;simp only at hc hd hc2 hd2;subst hc hd hc2 hd2;have e:vs.toArray++ws.toArray=(vs++ws).toArray:=by simp
 by_cases hw:ws=[]
 ·exact Zx ⟨_,ho,rfl⟩ ⟨_,ho2,rfl⟩ Za Zp PySem.F.slot_tuple_add PySem.F.entry_tuple_add (PySem.F.args_tuple_add_2 _ _)
   (tuple_addW1 t b vs.toArray ws.toArray n n2 dd dd2 sl sl2 (by simpa using hv) (by simp[hw])) ⟨ho,ho2,h1 hw⟩
 ·refine Zx ⟨_,ho,rfl⟩ ⟨_,ho2,rfl⟩ Za Zp PySem.F.slot_tuple_add PySem.F.entry_tuple_add (PySem.F.args_tuple_add_2 _ _)
   (tuple_addW2 t b vs.toArray ws.toArray n n2 dd dd2 sl sl2 (by simpa using hv) (by simpa using hw) (by rw[Uu,Uu];exact hsz)) ⟨ho,ho2,?_⟩
  rw[e];exact h2 hw
def sIx(n d:Nat):Option Int->Nat
 | none=>d
 | some v=>if v<0 then (v+(n:Int)).toNat else min v.toNat n
theorem sIx_none(n d:Nat):sIx n d none=d:=rfl
theorem sIx_nat(n d k:Nat):sIx n d (some (k:Int))=min k n:=by
 show(if (k:Int)<0 then ((k:Int)+(n:Int)).toNat else min (k:Int).toNat n)=min k n;rw[iG (by omega),W6]
theorem R8(n d:Nat)(hd:d<=n)(o:Option Int):sIx n d o<=n:=by
 cases o with
 | none=>exact hd
 | some v=>
   show(if v<0 then (v+(n:Int)).toNat else min v.toNat n)<=n;by_cases hv:v<0
   ·rw[iP hv];omega
   ·rw[iG hv];exact Nat.min_le_right _ _
theorem Ht(v:Int)(n d:Nat):(if v<0 then max (v+(n:Int)) 0 else min v (n:Int))=((sIx n d (some v):Nat):Int):=by
 show(if v<0 then max (v+(n:Int)) 0 else min v (n:Int))=(((if v<0 then (v+(n:Int)).toNat else min v.toNat n):Nat):Int)
 by_cases hv:v<0
 ·simp only[iP hv];omega
 ·simp only[iG hv];omega
theorem GX(lo hi:Option Int)(n:Nat):Builtin.Slice.sliceAdjust lo hi 1 (n:Int)=(((sIx n 0 lo:Nat):Int),((sIx n n hi:Nat):Int)):=by
 have h1:¬ ((1:Int)<0):=by omega
 unfold Builtin.Slice.sliceAdjust;simp only[h1,if_false];refine Prod.ext ?_ ?_
 ·cases lo with
  | none=>rfl
  | some v=>exact Ht v n 0
 ·cases hi with
  | none=>rfl
  | some v=>exact Ht v n n
theorem GY(i j:Nat):Builtin.Slice.slicePlaces (i:Int) (j:Int) 1=j - i:=by
 unfold Builtin.Slice.slicePlaces;have h1:(1:Int)>0:=by omega
 simp only[h1,if_true,Int.ediv_one];split<;>omega
theorem Cv{v:YK}{o:Option Int}{Q:Option Int->YM->Prop}(p:IsPart v o)(h:Q o s):YV (YS prog w) A (Builtin.Slice.slicePartIndex v) Q E s:=by
 cases p with
 | none=>exact A0e h
 | int i t=>exact slicePart_int h
theorem Ai{sl:YN}{vl vu:YK}{lo hi:Option Int}{n:Nat}{Q:Int×Int×Nat->YM->Prop}(hs:s.heap.IsSliceOf sl vl vu .none)(pl:IsPart vl lo)(pu:IsPart vu hi)
 (h:Q (((sIx n 0 lo:Nat):Int),1,sIx n n hi - sIx n 0 lo) s):YV (YS prog w) A (Builtin.Slice.sliceApplied (.ref sl) (pure (n:Int))) Q E s:=by
 obtain⟨os,hos,hcs,hds⟩:=id hs;unfold Builtin.Slice.sliceApplied Builtin.Slice.sliceFields;refine YL (YL (ZH hos hds (x:=vl) rfl (YL (ZH hos hds (x:=vu) rfl (YL (ZH hos hds (x := .none) rfl (YQ ?_)))))));refine YL (A0e ?_);show YV _ _ (if ((1:Int) == 0)=true then _ else _) _ _ s;rw[iG (by decide)];refine YL (Cv pl (YL (Cv pu (YL (YQ ?_)))));show YV _ _ (match Builtin.Slice.sliceAdjust lo hi 1 (n:Int) with | (lo,hi)=>pure (lo,(1:Int),Builtin.Slice.slicePlaces lo hi 1)) _ _ s;rw[GX lo hi n];show YV _ _ (pure (((sIx n 0 lo:Nat):Int),(1:Int),Builtin.Slice.slicePlaces ((sIx n 0 lo:Nat):Int) ((sIx n n hi:Nat):Int) 1)) _ _ s;rw[GY];exact YQ h
theorem Ko(xs:Array YK)(i k:Nat):((Uy k).filterMap λ(m:Nat)=>xs[((i:Int)+(m:Int) * 1).toNat]?).toArray=((xs.toList.drop i).take k).toArray:=by
 have e:(λ(m:Nat)=>xs[((i:Int)+(m:Int) * 1).toNat]?)=λm=>xs[i+m]?:=by
  funext m
  have:((i:Int)+(m:Int) * 1).toNat=i+m:=by omega
  rw[this]
 rw[e];have:=pick_run xs i k;rw[List.filterMap_map]at this;have e2:((λx=>xs[x]?)∘λx=>i+x)=λm=>xs[i+m]?:=rfl;rw[e2]at this;rw[this]
theorem getItem_tuple_cut{t sl:YN}{items:Array YK}{vl vu:YK}{lo hi:Option Int}{Q:YK->YM->Prop}(ht:IsTup s.heap t items)(hs:s.heap.IsSliceOf sl vl vu .none)(pl:IsPart vl lo)(pu:IsPart vu hi)
 (hw:¬ (sIx items.size 0 lo=0/\sIx items.size items.size hi=items.size))
 (h:Q (.ref s.heap.objs.size) {s with heap:=s.heap.push {cls := .type "tuple",data := .seq ((items.toList.drop (sIx items.size 0 lo)).take (sIx items.size items.size hi - sIx items.size 0 lo)).toArray}})
 (hsz:items.size<=YU):YV (YS prog w) A (getItem (.ref t) (.ref sl)) Q E s:=by
 have htake:sizeOk (.seq ((items.toList.drop (sIx items.size 0 lo)).take (sIx items.size items.size hi - sIx items.size 0 lo)).toArray):=by
  show((items.toList.drop (sIx items.size 0 lo)).take (sIx items.size items.size hi - sIx items.size 0 lo)).toArray.size<=YU;rw[Uu,VN,Vl,V5];omega
 have hj:sIx items.size items.size hi<=items.size:=R8 _ _ (Ux _) hi;obtain⟨os,hos,hcs,hds⟩:=id hs;have hTs:s.TypeIs (.ref sl) "slice":=⟨os,hos,hcs⟩
 unfold getItem
 try with_reducible refine Yh ?_
 first | refine YL (YQ ?_) | skip
 refine YL (Zy ht.typeIs (by decide) ?_)
 refine YL (Z0 (name:=Str.ofString "__getitem__") ht.typeIs PyProof.Rows.slot_tuple_getitem
  (ZA PyProof.Rows.slot_tuple_getitem ht.typeIs Zm ?_ (Zt _ _)))
 show YV _ _ (Builtin.Tuple.tupleItemsOf (.ref t) >>= _) _ _ s;refine YL (tupleItemsOf_ ht ?_);refine YL (Zz hTs ?_);rw[iP (by decide)];refine YL (Ai hs pl pu ?_)
 have hno:¬ ((((sIx items.size 0 lo:Nat):Int) == 0&&(1:Int) == 1&&(sIx items.size items.size hi - sIx items.size 0 lo) == items.size)=true):=by
  intro q;rw[Uo,Uo]at q;have q1:((sIx items.size 0 lo:Nat):Int)=0:=eq_of_beq q.1.1;have q2:sIx items.size items.size hi - sIx items.size 0 lo=items.size:=eq_of_beq q.2;exact hw ⟨by omega,by omega⟩
 show YV _ _ (if (((sIx items.size 0 lo:Nat):Int) == 0&&(1:Int) == 1&&(sIx items.size items.size hi - sIx items.size 0 lo) == items.size)=true then _ else _) _ _ s;rw[iG hno,Ko]
 first
  | exact YL (m:=Builtin.Tuple.tupleExact _) (Yg (YQ ⟨_,rfl,YQ h⟩) htake)
  | exact YL (m:=Builtin.Tuple.tupleExact _) (Yg (YL (YQ (YQ ⟨_,rfl,YQ h⟩))) htake)
  | exact YL (YL (m:=Builtin.Tuple.tupleExact _) (Yg (YQ (YQ ⟨_,rfl,YQ h⟩)) htake))
  | exact YL (YL (m:=Builtin.Tuple.tupleExact _) (Yg (YQ ⟨_,rfl,YQ h⟩) htake))
end
end HT
namespace L2
open PySem PySem.Spec PyProof.Rows
abbrev TO:=St->Hp->(Option Int->Hp->Prop)->Prop
noncomputable def PO(X:Cx)(e:Option Expr)(t:TO):Prop:=
 ∀(pq:List (YN×Obj)) (s:YM) (σ:St) (H:Hp) (Q:Option Int->Hp->Prop),Inv X pq σ H s->t σ H Q->
  YV (YS X.prog X.w) X.A (evalPart e X.env) (λu s'=>∃ o H',Inv X pq σ H' s'/\IsPart u o/\Q o H') X.xe s
def Nk:TO:=λ_ H Q=>Q none H
def TL(t:TE):TO:=λσ H Q=>t σ H λx H1=>∃ i,x = .int i/\Q (some i) H1
section
variable{X:Cx}{e:Expr}{te:TE}{lo hi:Option Expr}{tl th:TO}{pos p2:Pos}
theorem Nl:PO X none Nk:=by
 intro pq s σ H Q I h;rw[Zq];exact YQ ⟨none,H,I,.none,h⟩
theorem Hu(h:PE X e te):PO X (some e) (TL te):=by
 intro pq s σ H Q I hw;rw[evalPart_some];refine thn (h pq s σ H _ I hw) λu s1 ⟨x,H1,I1,r1,q1⟩=>?_;obtain⟨i,rfl,q⟩:=q1;obtain⟨t,rfl⟩:=r1;exact⟨some i,H1,I1,.int i t,q⟩
noncomputable def SlR(X:Cx)(r:V->Option Int->Option Int->Hp->VK->Prop):Prop:=
 ∀(pq:List (YN×Obj)) (s:YM) (σ:St) (H:Hp) (x:V) (v vl vu:YK) (lo hi:Option Int) (sl:YN) (Q:VK),Inv X pq σ H s->RelV x v->s.heap.IsSliceOf sl vl vu .none->IsPart vl lo->IsPart vu hi->r x lo hi H Q->
  ∃ T id,typeLookup (.type T) "__getitem__"=pure (some (.builtin id))/\s.TypeIs v T/\YV (YS X.prog X.w) X.A (getItem v (.ref sl)) (EP X pq σ Q) X.xe s
theorem SlR.or{r r':V->Option Int->Option Int->Hp->VK->Prop}(h:SlR X r)(h':SlR X r'):SlR X (λx lo hi H Q=>r x lo hi H Q\/r' x lo hi H Q):=by
 intro pq s σ H x v vl vu lo hi sl Q I rx hs pl pu q;rcases q with q | q
 ·exact h pq s σ H x v vl vu lo hi sl Q I rx hs pl pu q
 ·exact h' pq s σ H x v vl vu lo hi sl Q I rx hs pl pu q
def tSl(r:V->Option Int->Option Int->Hp->VK->Prop)(te:TE)(tl th:TO):TE:=λσ H Q=>te σ H λx H1=>tl σ H1 λl H2=>th σ H2 λu H3=>r x l u H3 Q
theorem Kp{r:V->Option Int->Option Int->Hp->VK->Prop}(hr:SlR X r)(he:PE X e te)(hl:PO X lo tl)(hu:PO X hi th):PE X (.Subscript e (.Slice lo hi none p2) pos) (tSl r te tl th):=by
 intro pq s σ H Q I h;refine A0f (thn (he pq s σ H _ I h) λv s1 ⟨x,H1,I1,r1,q1⟩=>?_);refine wpAny_Slice (thn (hl pq s1 σ H1 _ I1 q1) λvl s2 ⟨l,H2,I2,pl,q2⟩=>thn (hu pq s2 σ H2 _ I2 q2) λvu s3 ⟨u,H3,I3,pu,q3⟩=>?_);rw[Zq];refine YQ ?_;have I4:Inv X pq σ H3 {s3 with heap:=s3.heap.push {cls := .type "slice",data := .fields #[vl,vu,.none]}}:=I3.kept (t':=s3.toks) λb ob q=>Uw _ q;obtain⟨T,id,hT,ht,hg⟩:=hr pq {s3 with heap:=s3.heap.push {cls := .type "slice",data := .fields #[vl,vu,.none]}} σ H3 x v vl vu l u s3.heap.objs.size Q I4 r1 (Y3.new ..) pl pu q3;show YV (YS X.prog X.w) X.A (Zr e (.Slice lo hi none p2) v (.ref s3.heap.objs.size)) (EP X pq σ Q) X.xe {s3 with heap:=s3.heap.push {cls := .type "slice",data := .fields #[vl,vu,.none]}};exact tail_any (ops:=[.ref s3.heap.objs.size,v]) ht hT hg (by with_unfolding_all rfl)
def FB(xs:List V)(lo hi:Option Int):List V:=(xs.drop (HT.sIx xs.length 0 lo)).take (HT.sIx xs.length xs.length hi - HT.sIx xs.length 0 lo)
theorem CV(xs:List V)(lo hi:Option Int):(FB xs lo hi).length<=xs.length:=by
 unfold FB;rw[VN,Vl];omega
def TM(K:Um):V->Option Int->Option Int->Hp->VK->Prop:=λx lo hi H Q=>∃ a xs,x = .ref a/\SqT K H a xs/\
 ¬ (HT.sIx xs.length 0 lo=0/\HT.sIx xs.length xs.length hi=xs.length)/\∀ p,H p=none->Q (.ref p) (upd H p (.tup (FB xs lo hi)))
theorem sl_tup:SlR X (TM X.K):=by
 intro pq s σ H x v vl vu lo hi sl Q I rx hs pl pu h;obtain⟨a,xs,rfl,hx,hw,q⟩:=h;cases rx;obtain⟨its,r,ht,hz⟩:=I.tuple hx;have hlen:its.toArray.size=xs.length:=by rw[Uu];exact r.length.symm
 refine⟨"tuple",_,PyProof.Rows.slot_tuple_getitem.lookup,ht.typeIs,?_⟩;refine HT.getItem_tuple_cut ht hs pl pu (by rw[hlen];exact hw) ?_ (by rw[hlen];exact hz);rw[hlen];refine⟨.ref s.heap.objs.size,_,I.laid (t':=s.toks) (o := .tup (FB xs lo hi)) (λb ob q=>Uw _ q) (Ux _) ?_,rfl,q _ (I.hok.fresh (Ux _))⟩;exact⟨VF (CV xs lo hi) hz,_,(r.drop (HT.sIx xs.length 0 lo)).take (HT.sIx xs.length xs.length hi - HT.sIx xs.length 0 lo),IsTup.new _ _⟩
def Kq(K:Um):R2:=λx y H Q=>∃ a b xs ys,x = .ref a/\y = .ref b/\SqT K H a xs/\SqT K H b ys/\xs≠[]/\xs.length+ys.length<=YU/\
 (ys=[]->Q (.ref a) H)/\(ys≠[]->∀ p,H p=none->Q (.ref p) (upd H p (.tup (xs++ys))))
theorem Vals.nil_iff{xs:List V}{us:List YK}(r:Vals xs us):us=[]↔xs=[]:=by
 cases r with
 | nil=>simp
 | cons _ _=>simp
theorem op_catT:OpR X (Ys .Add) (Kq X.K):=by
 intro pq s σ H x y v u Q I rx ry h;obtain⟨a,b,xs,ys,rfl,rfl,ha,hb,hx,hz,q1,q2⟩:=h;cases rx;cases ry;obtain⟨its,r1,p1,_⟩:=I.tuple ha;obtain⟨its2,r2,p2,_⟩:=I.tuple hb;refine HT.cat_tup p1 p2 (λz=>hx (r1.nil_iff.mp z)) (λz=>⟨.ref a,H,I,rfl,q1 (r2.nil_iff.mp z)⟩) (λz=>?_) (by rw[<-r1.length,<-r2.length];exact hz);refine⟨.ref s.heap.objs.size,_,I.laid (t':=s.toks) (o := .tup (xs++ys)) (λb ob q=>Uw _ q) (Ux _) ?_,rfl,q2 (λw=>z (r2.nil_iff.mpr w)) _ (I.hok.fresh (Ux _))⟩;exact⟨by rw[Ut];exact hz,_,r1.append r2,IsTup.new _ _⟩
end
def ixN(n:Nat)(i:Int):Option Nat:=if 0<=i then (if i<n then some i.toNat else none) else if -(n:Int)<=i then some (i+n).toNat else none
def atI{α:Type}(xs:List α)(i:Int):Option α:=(ixN xs.length i).bind λj=>xs[j]?
theorem Hv{n:Nat}{i:Int}{j:Nat}(h:ixN n i=some j):A0l i n=some j/\j<n /\ -(n:Int)<=i/\i<n:=by
 unfold ixN at h;by_cases h0:0<=i
 ·rw[iP h0]at h;by_cases h1:i<n
  ·rw[iP h1]at h;have e:i.toNat=j:=oj h;exact⟨by rw[A06 h0 h1,e],by omega,by omega,h1⟩
  ·rw[iG h1]at h;cases h
 ·rw[iG h0]at h;by_cases h1:-(n:Int)<=i
  ·rw[iP h1]at h;have e:(i+n).toNat=j:=oj h;exact⟨by rw[A00 (by omega) h1,e],by omega,h1,by omega⟩
  ·rw[iG h1]at h;cases h
theorem Hw{α:Type}{xs:List α}{i:Int}{v:α}(h:atI xs i=some v):∃ j,A0l i xs.length=some j/\xs[j]?=some v/\j<xs.length /\ -(xs.length:Int)<=i/\i<xs.length:=by
 unfold atI at h;cases e:ixN xs.length i with
 | none=>rw[e]at h;cases h
 | some j=>
   rw[e]at h;obtain⟨h1,h2,h3,h4⟩:=Hv e;exact⟨j,h1,h,h2,h3,h4⟩
theorem e7{α:Type}{xs:List α}{j:Nat}{v:α}(h:xs[j]?=some v):atI xs (j:Int)=some v:=by
 have hj:j<xs.length:=(gM h).1
 have e:ixN xs.length (j:Int)=some j:=by
  unfold ixN;rw[iP (by omega),iP (by omega)];simp
 unfold atI;rw[e];exact h
theorem Kr{α:Type}(xs:List α)(v:α):atI (xs++[v]) (-1)=some v:=by
 have hl:(xs++[v]).length=xs.length+1:=by simp
 have e:ixN (xs++[v]).length (-1)=some xs.length:=by
  unfold ixN;rw[hl,iG (by decide),iP (by omega)]
  congr 1
  omega
 unfold atI;rw[e];show(xs++[v])[xs.length]?=some v;simp
def Hx(b:Expr):Prop:=∀ o i,subscripted b false o i=operate [o,i] (getItem o i)
noncomputable def IxR(X:Cx)(r:R2):Prop:=
 ∀(value slice:Expr) (pq:List (YN×Obj)) (s:YM) (σ:St) (H:Hp) (x y:V) (v u:YK) (Q:VK),Inv X pq σ H s->RelV x v->RelV y u->r x y H Q->
  subscripted slice false v u=operate [v,u] (getItem v u)->YV (YS X.prog X.w) X.A (Zr value slice v u) (EP X pq σ Q) X.xe s
noncomputable def MtR(X:Cx)(id:String)(r:V->List V->Hp->VK->Prop):Prop:=
 ∀(pq:List (YN×Obj)) (s:YM) (σ:St) (H:Hp) (x:V) (xs:List V) (v:YK) (us:List YK) (Q:VK),Inv X pq σ H s->RelV x v->Vals xs us->r x xs H Q->
  YV (YS X.prog X.w) X.A (call (.builtin id) (v::us)) (EP X pq σ Q) X.xe s
section
variable{X:Cx}{a b:Expr}{ta tb:TE}{pos:Pos}
theorem IxR.or{r r':R2}(h:IxR X r)(h':IxR X r'):IxR X (λx y H Q=>r x y H Q\/r' x y H Q):=by
 intro value slice pq s σ H x y v u Q I rx ry q hs;rcases q with q | q
 ·exact h value slice pq s σ H x y v u Q I rx ry q hs
 ·exact h' value slice pq s σ H x y v u Q I rx ry q hs
theorem TN{r:R2}(hr:IxR X r)(ha:PE X a ta)(hb:PE X b tb)(hs:Hx b):PE X (.Subscript a b pos) (tOp r ta tb):=by
 intro pq s σ H Q I h;exact A0f (Qw ha hb I h λv u s2 x y H2 I2 rx ry q=>hr a b pq s2 σ H2 x y v u Q I2 rx ry q (hs _ _))
def TQ(K:Um):R2:=λx y H Q=>∃ p xs i v,x = .ref p/\y = .int i/\SqL K H p xs/\atI xs i=some v/\Q v H
def TR(K:Um):R2:=λx y H Q=>∃ p xs i v,x = .ref p/\y = .int i/\SqT K H p xs/\atI xs i=some v/\Q v H
theorem ix_list:IxR X (TQ X.K):=by
 intro value slice pq s σ H x y v u Q I rx ry h hs;obtain⟨p,xs,i,z,rfl,rfl,hq,he,q⟩:=h;cases rx;obtain⟨t,rfl⟩:=ry;obtain⟨its,r,pl,hz⟩:=I.list hq;obtain⟨j,h1,h2,h3,h4,h5⟩:=Hw he;obtain⟨w,ew,rw'⟩:=r.get h2;have hl:=r.length;have hn:=Bg;have fin:EP X pq σ Q w s:=⟨z,H,I,rw',q⟩
 by_cases h0:0<=i
 ·have hj:i.toNat=j:=by
   rw[A06 h0 h5]at h1;exact oj h1
  exact item_listR pl.isList h0 (by omega) (by rw[hj];simpa using ew) fin hs
 ·have hj:(i+(its.toArray.size:Int)).toNat=j:=by
   rw[A00 (by omega) h4]at h1;rw[Uu,<-hl];exact oj h1
  exact Ze (x:=w) pl.isList.typeIs slot_list_getitem.lookup
   (wpAny_getItem_list_neg (Q:=λr s'=>r=w/\EP X pq σ Q r s') pl.isList (by omega) (by rw[Uu]<;>omega) (by omega) (by rw[hj];simpa using ew) ⟨rfl,fin⟩) hs
theorem R9:IxR X (TR X.K):=by
 intro value slice pq s σ H x y v u Q I rx ry h hs;obtain⟨p,xs,i,z,rfl,rfl,hq,he,q⟩:=h;cases rx;obtain⟨t,rfl⟩:=ry;obtain⟨its,r,pl,hz⟩:=I.tuple hq;obtain⟨j,h1,h2,h3,h4,h5⟩:=Hw he;obtain⟨w,ew,rw'⟩:=r.get h2;have hl:=r.length;have hn:=Bg;have fin:EP X pq σ Q w s:=⟨z,H,I,rw',q⟩
 exact Ze (x:=w) pl.typeIs slot_tuple_getitem.lookup
  (getItem_tuple (j:=j) (Q:=λr s'=>r=w/\EP X pq σ Q r s') pl (by omega) (by omega) (by rw[Uu,<-hl];exact h1) (by simpa using ew) ⟨rfl,fin⟩) hs
theorem GZ(its:List YK)(n j:Nat)(u:YK):Obj.mapSeq (·.setIfInBounds j u) {cls := .type "list",data := .seq its.toArray n}={cls := .type "list",data := .seq (its.set j u).toArray n}:=by
 simp[Obj.mapSeq]
theorem Inv.lst{pq:List (YN×Obj)}{σ:St}{H:Hp}{s:YM}{p:YN}{xs:List V}(I:Inv X pq σ H s)(h:H p=some (.lst xs)):
 ∃(its:List YK) (n:Nat),Vals xs its/\s.heap.get? p=some {cls := .type "list",data := .seq its.toArray n}/\xs.length<=YU:=by
 obtain⟨z,its,n,r,e⟩:=I.hok p _ h;exact⟨its,n,r,e,z⟩
theorem Inv.lstUpd{pq:List (YN×Obj)}{σ:St}{H:Hp}{s:YM}{p:YN}{xs ys:List V}{its its':List YK}{n n':Nat}{f:Obj->Obj}(I:Inv X pq σ H s)(h:H p=some (.lst xs))
 (ho:s.heap.get? p=some {cls := .type "list",data := .seq its.toArray n}) (hf:f {cls := .type "list",data := .seq its.toArray n}={cls := .type "list",data := .seq its'.toArray n'}) (r:Vals ys its') (hz:ys.length<=YU) (t:Nat):
 Inv X pq σ (upd H p (.lst ys)) {s with heap:=s.heap.update p f,toks:=t}:=by
 have e:(s.heap.update p f).get? p=some {cls := .type "list",data := .seq its'.toArray n'}:=by
  rw[Vw f ho (by rw[hf]<;>rfl),hf]
 refine I.write (x:=p) (e:=p) (by rw[h];trivial) (.inl rfl) (λb u hb q=>(Vo _ _ (Ne.symm hb)).trans q) ⟨_,e⟩ ?_;exact⟨hz,its',n',r,e⟩
def Hy:V->V->V->Hp->(Hp->Prop)->Prop:=λo i v H Q=>∃ p xs k j,o = .ref p/\i = .int k/\H p=some (.lst xs)/\ixN xs.length k=some j/\Q (upd H p (.lst (xs.set j v)))
theorem FC:Qp X Hy:=by
 intro pq s σ H o i v ov iv u Q I ro ri rv h;obtain⟨p,xs,k,j,rfl,rfl,hp,hj,q⟩:=h;cases ro;obtain⟨t,rfl⟩:=ri;obtain⟨its,n,r,ho,hz⟩:=I.lst hp;obtain⟨h1,h2,h3,h4⟩:=Hv hj;have hl:=r.length;have hn:=Bg
 have I':Inv X pq σ (upd H p (.lst (xs.set j v))) {s with heap:=s.heap.update p (Obj.mapSeq (·.setIfInBounds j u))}:=
  I.lstUpd hp ho (GZ its n j u) (r.set rv j) (by rw[VH];exact hz) s.toks
 by_cases h0:0<=k
 ·have hk:k.toNat=j:=by
   rw[A06 h0 h4]at h1;exact oj h1
  exact PySem.W.ki_setAt ho h0 (by omega) (by rw[Uu,<-hl];exact h4) (by rw[hk];exact⟨_,I',q⟩)
 ·have hk:(k+(its.toArray.size:Int)).toNat=j:=by
   rw[A00 (by omega) h3]at h1;rw[Uu,<-hl];exact oj h1
  exact PySem.W.ki_setBack ho (by omega) (by rw[Uu,<-hl];exact h3) (by omega) (by rw[hk];exact⟨_,I',q⟩)
theorem EO(lo hi:Option Int)(n:Nat):(ZI lo hi none n).1=((HT.sIx n 0 lo:Nat):Int)/\(ZI lo hi none n).2.1=((HT.sIx n n hi:Nat):Int)/\(ZI lo hi none n).2.2=1:=by
 refine⟨?_,?_,rfl⟩
 ·cases lo with
  | none=>simp[ZI,HT.sIx]
  | some i=>
    simp only[ZI,HT.sIx,Xn,show(1:Int)>0 by decide,if_true];by_cases h:i<0
    ·simp only[h,if_true]<;>omega
    ·simp only[h,if_false]<;>omega
 ·cases hi with
  | none=>simp[ZI,HT.sIx]
  | some i=>
    simp only[ZI,HT.sIx,Xn,show(1:Int)>0 by decide,if_true];by_cases h:i<0
    ·simp only[h,if_true]<;>omega
    ·simp only[h,if_false]<;>omega
theorem DZ(its:List YK)(lo hi:Option Int):slicePick its.toArray lo hi none=((its.drop (HT.sIx its.length 0 lo)).take (HT.sIx its.length its.length hi - HT.sIx its.length 0 lo)).toArray:=by
 obtain⟨h1,h2,h3⟩:=EO lo hi its.toArray.size;unfold slicePick;rw[h1,h2,h3];simp only[sliceRange_one,pick_run,Uu]<;>rfl
def TU(K:Um):V->Option Int->Option Int->Hp->VK->Prop:=λx lo hi H Q=>∃ a xs,x = .ref a/\SqL K H a xs/\∀ p,H p=none->Q (.ref p) (upd H p (.lst (FB xs lo hi)))
theorem sl_list:SlR X (TU X.K):=by
 intro pq s σ H x v vl vu lo hi sl Q I rx hs pl pu h;obtain⟨a,xs,rfl,hx,q⟩:=h;cases rx;obtain⟨its,r,ht,hz⟩:=I.list hx;have hlen:=r.length;refine⟨"list",_,slot_list_getitem.lookup,ht.isList.typeIs,?_⟩;refine ZW ht.isList hs pl pu .none (by simp) ?_ (by rw[Uu]<;>omega);rw[DZ,<-hlen];refine⟨.ref s.heap.objs.size,_,I.laid (t':=s.toks) (o := .lst (FB xs lo hi)) (λb ob q=>Uw _ q) (Ux _) ?_,rfl,q _ (I.hok.fresh (Ux _))⟩;exact⟨VF (CV xs lo hi) hz,_,0,(r.drop (HT.sIx xs.length 0 lo)).take (HT.sIx xs.length xs.length hi - HT.sIx xs.length 0 lo),V8 _ rfl⟩
def r6:V->Bool
 | .non=>true
 | .bl _=>true
 | .int _=>true
 | .str _=>true
 | _=>false
def eqV:V->V->Bool
 | .non,.non=>true
 | .bl a,.bl b=>a == b
 | .bl a,.int b=>(if a then 1 else 0) == b
 | .int a,.bl b=>a == (if b then 1 else 0)
 | .int a,.int b=>a == b
 | .str a,.str b=>a == b
 | _,_=>false
theorem Kt{A:YZ}{s:YM}{y x:V}{u v:YK}(ry:RelV y u)(rx:RelV x v)(fy:r6 y=true)(fx:r6 x=true):SeqAt.EqAt A s u v (eqV y x):=by
 cases y with
 | non=>
   cases ry;cases x with
   | non=>cases rx;exact SeqAt.EqAt.same _
   | bl b=>cases rx;exact SeqAt.EqAt.none_bool b
   | int b=>obtain⟨t,rfl⟩:=rx;exact SeqAt.EqAt.none_int b t
   | str b=>obtain⟨t,rfl⟩:=rx;exact SeqAt.EqAt.none_str b t
   | _=>exact absurd (show false=true from fx) V0
 | bl a=>
   cases ry;cases x with
   | non=>cases rx;exact SeqAt.EqAt.bool_none a
   | bl b=>cases rx;exact SeqAt.EqAt.bool_bool a b
   | int b=>obtain⟨t,rfl⟩:=rx;exact SeqAt.EqAt.bool_int a b t
   | str b=>obtain⟨t,rfl⟩:=rx;exact SeqAt.EqAt.bool_str a b t
   | _=>exact absurd (show false=true from fx) V0
 | int a=>
   obtain⟨t',rfl⟩:=ry;cases x with
   | non=>cases rx;exact SeqAt.EqAt.int_none a t'
   | bl b=>cases rx;exact SeqAt.EqAt.int_bool a t' b
   | int b=>obtain⟨t,rfl⟩:=rx;exact SeqAt.EqAt.int_int a t' b t
   | str b=>obtain⟨t,rfl⟩:=rx;exact SeqAt.EqAt.int_str a t' b t
   | _=>exact absurd (show false=true from fx) V0
 | str a=>
   obtain⟨t',rfl⟩:=ry;cases x with
   | non=>cases rx;exact SeqAt.EqAt.str_none a t'
   | bl b=>cases rx;exact SeqAt.EqAt.str_bool a t' b
   | int b=>obtain⟨t,rfl⟩:=rx;exact SeqAt.EqAt.str_int a t' b t
   | str b=>obtain⟨t,rfl⟩:=rx;exact SeqAt.EqAt.str_str a t' b t
   | _=>exact absurd (show false=true from fx) V0
 | _=>exact absurd (show false=true from fy) V0
def eqU(x:V)(u:YK):Bool:=match u with
 | .none=>eqV .non x
 | .bool b=>eqV (.bl b) x
 | .int i _=>eqV (.int i) x
 | .str z _=>eqV (.str z) x
 | _=>false
theorem Ku{x y:V}{u:YK}(r:RelV y u)(f:r6 y=true):eqU x u=eqV y x:=by
 cases y with
 | non=>cases r;rfl
 | bl b=>cases r;rfl
 | int i=>obtain⟨t,rfl⟩:=r;rfl
 | str z=>obtain⟨t,rfl⟩:=r;rfl
 | _=>exact absurd (show false=true from f) V0
theorem Bs{x:V}:∀{xs:List V} {us:List YK},Vals xs us->xs.all r6=true->us.any (eqU x)=xs.any λy=>eqV y x
 | _,_,.nil,_=>rfl
 | y::xs,u::us,.cons r t,f=>by
   rw[Vz,Uo]at f;rw[W2,W2,Ku r f.1,Bs t f.2]
theorem B3{A:YZ}{s:YM}{x:V}{v:YK}(rx:RelV x v)(fx:r6 x=true):∀{xs:List V} {us:List YK},Vals xs us->xs.all r6=true->∀ u∈us,SeqAt.EqAt A s u v (eqU x u)
 | _,_,.nil,_=>λu hu=>by cases hu
 | y::xs,u::us,.cons r t,f=>λu' hu=>by
   rw[Vz,Uo]at f;rcases VA.mp hu with rfl | hu
   ·rw[Ku r f.1];exact Kt r rx f.1 fx
   ·exact B3 rx fx t f.2 u' hu
def inV(x:V)(xs:List V):Bool:=xs.any λy=>eqV y x
def rIn(K:Um)(neg:Bool):R2:=λx y H Q=>∃ p xs,y = .ref p/\(SqL K H p xs\/SqT K H p xs)/\r6 x=true/\xs.all r6=true/\Q (.bl (if neg then !inV x xs else inV x xs)) H
theorem JO:OpR X (Yb .In) (rIn X.K false):=by
 intro pq s σ H x y v u Q I rx ry h;obtain⟨p,xs,rfl,hq,fx,fs,q⟩:=h;cases ry;rcases hq with hq | hq
 ·obtain⟨its,r,pl,hz⟩:=I.list hq;refine SeqAt.in_listAt (eqU x) pl.isList (λw hw=>B3 rx fx r fs w (by simpa using hw)) ⟨.bl _,H,I,rfl,?_⟩;rw[show its.toArray.any (eqU x)=its.any (eqU x) by simp,Bs r fs];exact q
 ·obtain⟨its,r,pl,hz⟩:=I.tuple hq;refine SeqAt.in_tupleAt (eqU x) pl (λw hw=>B3 rx fx r fs w (by simpa using hw)) ⟨.bl _,H,I,rfl,?_⟩;rw[show its.toArray.any (eqU x)=its.any (eqU x) by simp,Bs r fs];exact q
theorem EQ:OpR X (Yb .NotIn) (rIn X.K true):=by
 intro pq s σ H x y v u Q I rx ry h;obtain⟨p,xs,rfl,hq,fx,fs,q⟩:=h;cases ry;rcases hq with hq | hq
 ·obtain⟨its,r,pl,hz⟩:=I.list hq;refine SeqAt.notIn_listAt (eqU x) pl.isList (λw hw=>B3 rx fx r fs w (by simpa using hw)) ⟨.bl _,H,I,rfl,?_⟩;rw[show its.toArray.any (eqU x)=its.any (eqU x) by simp,Bs r fs];exact q
 ·obtain⟨its,r,pl,hz⟩:=I.tuple hq;refine SeqAt.notIn_tupleAt (eqU x) pl (λw hw=>B3 rx fx r fs w (by simpa using hw)) ⟨.bl _,H,I,rfl,?_⟩;rw[show its.toArray.any (eqU x)=its.any (eqU x) by simp,Bs r fs];exact q
theorem ER:CallR X (.builtin "len") (λxs H Q=>∃ p ys,xs=[.ref p]/\(SqL X.K H p ys\/SqT X.K H p ys)/\Q (.int ys.length) H):=by
 intro pq s σ H xs us Q I r h;obtain⟨p,ys,rfl,hq,q⟩:=h;obtain⟨u,rfl,rx⟩:=AW r;cases rx;have hn:=Bg;rcases hq with hq | hq
 ·obtain⟨its,r',pl,hz⟩:=I.list hq;have hlen:=r'.length;exact Calls.call_len_list pl.isList (by simp only[Uu]<;>omega) ⟨.int ys.length,H,I.tok _,⟨s.toks+1,by rw[Uu,hlen]⟩,q⟩
 ·obtain⟨its,r',pl,hz⟩:=I.tuple hq;have hlen:=r'.length;exact len_tuple pl (by simp only[Uu]<;>omega) ⟨.int ys.length,H,I.tok _,⟨s.toks+1,by rw[Uu,hlen]⟩,q⟩
theorem CallR.or{f:YK}{r r':List V->Hp->VK->Prop}(h:CallR X f r)(h':CallR X f r'):CallR X f (λxs H Q=>r xs H Q\/r' xs H Q):=by
 intro pq s σ H xs us Q I rs q;rcases q with q | q
 ·exact h pq s σ H xs us Q I rs q
 ·exact h' pq s σ H xs us Q I rs q
theorem ES:CallR X (.type "list") (λxs H Q=>∃ p ys,xs=[.ref p]/\(SqL X.K H p ys\/SqT X.K H p ys)/\∀ l,H l=none->Q (.ref l) (upd H l (.lst ys))):=by
 intro pq s σ H xs us Q I r h;obtain⟨p,ys,rfl,hq,q⟩:=h;obtain⟨u,rfl,rx⟩:=AW r;cases rx
 have fin:∀(its:List YK),Vals ys its->ys.length<=YU->∀(h':Heap) (c':Nat),(∀ b o',s.heap.get? b=some o'->h'.get? b=some o')->
  h'.get? s.heap.objs.size=some {cls := .type "list",dict:=none,data := .seq its.toArray c',slots:=#[]}->EP X pq σ Q (.ref s.heap.objs.size) {s with heap:=h'}:=λits r' hz h' c' kp e=>
  ⟨.ref s.heap.objs.size,_,I.laid (t':=s.toks) kp (Ux _) (show ObjOk X.prog X.w _ h' _ (.lst ys) from ⟨hz,its,c',r',e⟩),rfl,q _ (I.hok.fresh (Ux _))⟩
 rcases hq with hq | hq
 ·obtain⟨its,r',pl,hz⟩:=I.list hq;have hlen:=r'.length;obtain⟨o,ho,hc,n,hd⟩:=pl.isList;exact call_list_seq p (.inl rfl) ho hc hd (λh' c' kp e=>fin its r' hz h' c' kp e) (by simp only[Uu]<;>omega)
 ·obtain⟨its,r',pl,hz⟩:=I.tuple hq;have hlen:=r'.length;obtain⟨o,ho,hc,n,hd⟩:=pl;exact call_list_seq p (.inr rfl) ho hc hd (λh' c' kp e=>fin its r' hz h' c' kp e) (by simp only[Uu]<;>omega)
theorem Da:CallR X (.type "tuple") (λxs H Q=>∃ p ys,xs=[.ref p]/\((SqL X.K H p ys/\∀ l,H l=none->Q (.ref l) (upd H l (.tup ys)))\/(SqT X.K H p ys/\Q (.ref p) H))):=by
 intro pq s σ H xs us Q I r h;obtain⟨p,ys,rfl,h⟩:=h;obtain⟨u,rfl,rx⟩:=AW r;cases rx;rcases h with⟨hq,q⟩ | ⟨hq,q⟩
 ·obtain⟨its,r',pl,hz⟩:=I.list hq;have hlen:=r'.length;refine call_tuple_list pl.isList (λh' kp=>?_) (by simp only[Uu]<;>omega);have I1:Inv X pq σ H {s with heap:=h'}:=I.kept (t':=s.toks) kp
  have I2:Inv X pq σ (upd H h'.objs.size (.tup ys)) {s with heap:=h'.push {cls := .type "tuple",data := .seq its.toArray}}:=
   I1.laid (t':=s.toks) (λb o e=>Uw _ e) (Ux _) (show ObjOk X.prog X.w _ _ _ (.tup ys) from ⟨hz,its,r',IsTup.new _ _⟩)
  exact⟨.ref h'.objs.size,_,I2,rfl,q _ (I1.hok.fresh (Ux _))⟩
 ·obtain⟨its,r',pl,hz⟩:=I.tuple hq;exact call_tuple_same pl ⟨.ref p,H,I,rfl,q⟩
def tyV(K:Um)(T:String)(x:V)(H:Hp):Prop:=match x with
 | .str _=>T="str"
 | .int _=>T="int"
 | .ref p=>(T="list"/\∃ xs,SqL K H p xs)\/(T="tuple"/\∃ o,K.lookup p=some o/\o.cls = .type "tuple"/\o.dict=none)\/
    (T="dict"/\((∃ kvs,H p=some (.dK kvs))\/∃ kvs,H p=some (.dT kvs)))\/(T="set"/\∃ S n,H p=some (.set S n))
 | _=>False
theorem Kv{pq:List (YN×Obj)}{σ:St}{H:Hp}{s:YM}{T:String}{x:V}{v:YK}(I:Inv X pq σ H s)(r:RelV x v)(ty:tyV X.K T x H):
 s.TypeIs v T/\∀ a,v = .ref a->∃ ob,s.heap.get? a=some ob/\ob.dict=none:=by
 cases x with
 | str z=>
   obtain⟨t,rfl⟩:=r;cases(show T="str" from ty);exact⟨typeIs_str s z t,λ_ e=>nomatch e⟩
 | int i=>
   obtain⟨t,rfl⟩:=r;cases(show T="int" from ty);exact⟨Zf s i t,λ_ e=>nomatch e⟩
 | ref p=>
   cases r;rcases ty with⟨rfl,xs,hq⟩ | ⟨rfl,o,hk,hc,hd⟩ | ⟨rfl,hk⟩ | ⟨rfl,S,n,hk⟩
   ·obtain⟨its,_,pl,_⟩:=I.list hq;refine⟨pl.isList.typeIs,λa e=>?_⟩;cases e;obtain⟨o,n,e,c,hd,_⟩:=pl;exact⟨o,e,hd⟩
   ·refine⟨⟨o,I.kIn p o hk,hc⟩,λa e=>?_⟩;cases e;exact⟨o,I.kIn _ o hk,hd⟩
   ·have z:∃ o,s.heap.get? p=some o/\o.ExactDict:=by
     rcases hk with⟨kvs,hk⟩ | ⟨kvs,hk⟩
     ·obtain⟨_,_,_,_,o,_,_,e,ex,_⟩:=I.hok p _ hk;exact⟨o,e,ex⟩
     ·obtain⟨_,_,_,_,o,_,_,e,ex,_⟩:=I.hok p _ hk;exact⟨o,e,ex⟩
    obtain⟨o,e,ex⟩:=z;refine⟨⟨o,e,ex.1⟩,λa e2=>?_⟩;cases e2;exact⟨o,e,ex.2.1⟩
   ·obtain⟨o,_,_,_,e,ex,_⟩:=I.hok p _ hk;refine⟨⟨o,e,ex.1⟩,λa e2=>?_⟩;cases e2;exact⟨o,e,ex.2.1⟩
 | _=>exact False.elim ty
def RA(K:Um)(T:String)(r:V->List V->Hp->VK->Prop)(to:TE):TE:=λσ H Q=>to σ H λx H1=>tyV K T x H1/\r x [] H1 Q
def tBM(K:Um)(T:String)(r:V->List V->Hp->VK->Prop)(to:TE)(t:TA):TE:=λσ H Q=>to σ H λx H1=>tyV K T x H1/\t σ H1 λxs H2=>r x xs H2 Q
variable{o e:Expr}{es:List Expr}{to:TE}{t:TA}{name:Str}{apos cpos:Pos}{T id:String}{r:V->List V->Hp->VK->Prop}
theorem Cw(pa:PlainAttrs T)(slot:Slot T name id)(hty:typeOf (.builtin id)=pure (.type "method_descriptor"))(hm:MtR X id r)(ho:PE X o to)
 (hbase:ZN o name X.env (eval o X.env)=eval o X.env:=by rfl) (hline:(apos.endLine == cpos.line)=true:=by rfl):PE X (.Call (.Attribute o name apos) [] [] cpos) (RA X.K T r to):=by
 intro pq s σ H Q I h;refine wpAny_Call_method0_late hbase hline (thn (ho pq s σ H _ I h) λv s1 ⟨x,H1,I1,r1,ty,q1⟩=>?_);obtain⟨h1,h2⟩:=Kv I1 r1 ty;exact⟨T,id,pa,slot,hty,h1,h2,Calls.callWith_builtin rfl (PySem.evalArgs_none (hm pq s1 σ H1 x [] v [] Q I1 r1 .nil q1))⟩
theorem FD(pa:PlainAttrs T)(slot:Slot T name id)(hty:typeOf (.builtin id)=pure (.type "method_descriptor"))(hm:MtR X id r)(ho:PE X o to)(ha:PA X (e::es) t)
 (hbase:ZN o name X.env (eval o X.env)=eval o X.env:=by rfl)
 (hfew:((backTo cpos (Yc (e::es) X.env)).all (λx=>!x.1)&&(ZQ cpos (Z8 [] X.env)).all (λx=>x.1.isSome)
   && decide ((e::es).length+([]:List Keyword).length+(if ([]:List Keyword).isEmpty then 0 else 1)<30))=true:=by rfl)
 (hline:(apos.endLine == cpos.line)=true:=by rfl) (hs:Yc (e::es) X.env=(false,eval e X.env)::Yc es X.env:=by rfl) (hplain:(backTo cpos (Yc es X.env)).any (·.1)=false:=by rfl):
 PE X (.Call (.Attribute o name apos) (e::es) [] cpos) (tBM X.K T r to t):=by
 intro pq s σ H Q I h;refine wpAny_Call_method_late hbase hfew hline rfl (thn (ho pq s σ H _ I h) λv s1 ⟨x,H1,I1,r1,ty,q1⟩=>?_);obtain⟨h1,h2⟩:=Kv I1 r1 ty;refine⟨T,id,pa,slot,hty,h1,h2,?_⟩;have hA:=ha cpos pq s1 σ H1 _ I1 q1;rw[hs]at hA ⊢;refine Calls.callWith_builtin (by show(false||(backTo cpos (Yc es X.env)).any (·.1))=false;rw[hplain]<;>rfl) (Calls.evalArgs_plain ?_);exact thn hA λus s2 ⟨vs,H2,I2,r2,q2⟩=>hm pq s2 σ H2 x vs v us Q I2 r1 r2 q2
end
noncomputable def MtM(X:Cx)(id:String)(r:V->List V->Hp->VK->Prop):Prop:=
 ∀(pq:List (YN×Obj)) (s:YM) (σ:St) (H:Hp) (x:V) (xs:List V) (v:YK) (us:List YK) (Q:VK),Inv X pq σ H s->RelV x v->Vals xs us->r x xs H Q->
  YV (YS X.prog X.w) X.A (call (.builtin id) (v::us)) (EP X pq σ Q) X.xe s
theorem Vals.one{x:V}{us:List YK}(h:Vals [x] us):∃ u,us=[u]/\RelV x u:=by
 cases h with
 | cons r q=>cases q;exact⟨_,rfl,r⟩
theorem Vals.two{x y:V}{us:List YK}(h:Vals [x,y] us):∃ u v,us=[u,v]/\RelV x u/\RelV y v:=by
 cases h with
 | cons r q=>
   obtain⟨v,rfl,s⟩:=Vals.one q;exact⟨_,v,rfl,r,s⟩
theorem Vals.zero:∀{us:List YK},Vals [] us->us=[]
 | _,.nil=>rfl
theorem Vals.dropLast{xs:List V}{us:List YK}(h:Vals xs us):Vals xs.dropLast us.dropLast:=by
 induction h with
 | nil=>exact .nil
 | cons r t ih=>
   cases t with
   | nil=>exact .nil
   | cons q t'=>exact .cons r ih
theorem Vals.eraseIdx:∀{xs:List V} {us:List YK} (i:Nat),Vals xs us->Vals (xs.eraseIdx i) (us.eraseIdx i)
 | _,_,_,.nil => .nil
 | _,_,0,.cons _ t=>t
 | _,_,i+1,.cons r t => .cons r (Vals.eraseIdx i t)
theorem Vals.reverse{xs:List V}{us:List YK}(h:Vals xs us):Vals xs.reverse us.reverse:=by
 induction h with
 | nil=>exact .nil
 | cons r t ih=>rw[WX,WX];exact Vals.append ih (.cons r .nil)
theorem Vals.rep{xs:List V}{us:List YK}(h:Vals xs us):∀ k:Nat,Vals (Uv k xs).flatten (Uv k us).flatten
 | 0 => .nil
 | k+1=>by
   rw[VQ,VQ,Vv,Vv];exact Vals.append h (Vals.rep h k)
theorem Ga{α:Type}(l:List α):l.eraseIdx (l.length - 1)=l.dropLast:=by
 induction l with
 | nil=>rfl
 | cons a r ih=>
   cases r with
   | nil=>rfl
   | cons b r=>
     have e:(a::b::r).length - 1=((b::r).length - 1)+1:=by
      have h1:(a::b::r).length=r.length+2:=rfl;have h2:(b::r).length=r.length+1:=rfl;omega
     rw[e,List.eraseIdx_cons_succ,ih]
     all_goals rfl
theorem Dt{α:Type}:∀(l:List α) (i:Nat),(l.eraseIdx i).length<=l.length
 | [],_=>Ux _
 | _::_,0=>XG _
 | _::r,i+1=>Nat.succ_le_succ (Dt r i)
theorem Du(its:List YK):∀(k:Nat) (acc:List YK),
 Y4 (λx1 x2=>x1++x2) acc.toArray (Uv k its.toArray)=(acc++(Uv k its).flatten).toArray
 | 0,acc=>by simp
 | k+1,acc=>by
   have e:acc.toArray++its.toArray=(acc++its).toArray:=by simp
   have e2:(acc++its)++(Uv k its).flatten=acc++(Uv (k+1) its).flatten:=by
    rw[VQ,Vv,VE]
   rw[<-e2,<-Du its k (acc++its),<-e,VQ,Xy]
section
variable{X:Cx}{pq:List (YN×Obj)}{σ:St}{H:Hp}{s:YM}{l b:YN}{xs ys zs:List V}
theorem Inv.lset{its its':List YK}{n:Nat}{f:Array YK->Array YK}{t':Nat}(I:Inv X pq σ H s)(hH:H l=some (.lst xs))
 (e:s.heap.get? l=some {cls := .type "list",data := .seq its.toArray n}) (hf:f its.toArray=its'.toArray) (hv:Vals ys its') (hz:ys.length<=YU):
 Inv X pq σ (upd H l (.lst ys)) {s with heap:=s.heap.update l (Obj.mapSeq f),toks:=t'}:=by
 have q:=PySem.IsL.update e f;rw[hf]at q;refine I.write (x:=l) (e:=l) (by rw[hH];exact trivial) (.inl rfl) (λb' u hb hu=>(Vo s.heap (Obj.mapSeq f) (Ne.symm hb)).trans hu) ⟨_,q⟩ ?_;exact⟨hz,its',_,hv,q⟩
theorem Inv.lnew{its:List YK}{t':Nat}(I:Inv X pq σ H s)(hv:Vals ys its)(hz:ys.length<=YU):
 Inv X pq σ (upd H s.heap.objs.size (.lst ys)) {s with heap:=s.heap.push {cls := .type "list",data := .seq its.toArray},toks:=t'}:=
 I.laid (λ_ _ q=>Uw _ q) (Ux _) ⟨hz,its,0,hv,V8 _ rfl⟩
theorem Inv.fresh(I:Inv X pq σ H s):H s.heap.objs.size=none:=I.hok.fresh (Ux _)
theorem Inv.lstM(I:Inv X pq σ H s)(hH:H l=some (.lst xs)):xs.length<=YU/\∃(its:List YK) (n:Nat),Vals xs its/\xs.length=its.length/\s.heap.get? l=some {cls := .type "list",data := .seq its.toArray n}:=by
 obtain⟨z,its,n,r,e⟩:=I.hok l _ hH;exact⟨z,its,n,r,r.length,e⟩
theorem FE{n:Nat}(h:n<=YU):Builtin.List.listTooLong n=false:=by
 unfold Builtin.List.listTooLong;exact decide_eq_false (by omega)
end
section
variable{X:Cx}
def Hz:V->List V->Hp->VK->Prop:=λx vs H Q=>∃ l xs y,x = .ref l/\vs=[y]/\H l=some (.lst xs)/\xs.length<YU/\Q .non (upd H l (.lst (xs++[y])))
theorem C9:MtM X "list.append" Hz:=by
 intro pq s σ H x vs v us Q I rx rv h;obtain⟨l,xs,y,rfl,rfl,hH,hz,q⟩:=h;cases rx;obtain⟨u,rfl,ru⟩:=rv.one;obtain⟨z,its,n,r,hl,e⟩:=I.lstM hH;refine ZF F.slot_list_append ⟨_,e,rfl⟩ F.entry_list_append (F.args_list_append_2 _ _) (PySem.list_append l its.toArray n u (by rw[Uu];omega)) ⟨e,?_⟩;refine⟨.non,_,I.lset (its':=its++[u]) hH e (by simp) (r.append (.cons ru .nil)) ?_,rfl,q⟩;rw[Ut,Vp];omega
def I0:V->List V->Hp->VK->Prop:=λx vs H Q=>∃ l b xs zs,x = .ref l/\vs=[.ref b]/\H l=some (.lst xs)/\H b=some (.lst zs)/\xs.length+zs.length<=YU/\Q .non (upd H l (.lst (xs++zs)))
theorem Dv:MtM X "list.extend" I0:=by
 intro pq s σ H x vs v us Q I rx rv h;obtain⟨l,b,xs,zs,rfl,rfl,hH,hB,hz,q⟩:=h;cases rx;obtain⟨u,rfl,ru⟩:=rv.one;cases ru;obtain⟨z,its,n,r,hl,e⟩:=I.lstM hH;obtain⟨z2,its2,n2,r2,hl2,e2⟩:=I.lstM hB;have hsz:its.toArray.size+its2.toArray.size<=YU:=by rw[Uu,Uu];omega
 have hlong:¬ (!its.toArray.isEmpty&&Builtin.List.listTooLong (its.toArray.size+its2.toArray.size))=true:=by
  rw[FE hsz,Bool.and_false];exact V0
 refine ZF F.slot_list_extend ⟨_,e,rfl⟩ F.entry_list_extend (F.args_list_extend_2 _ _)
  (AutoSeq1.list_extend_list_list_0 l its.toArray n b its2.toArray n2 hlong (by rw[Uu];omega) (by omega)) ⟨e,e2,?_⟩
 refine⟨.non,_,I.lset (its':=its++its2) hH e (by simp) (r.append r2) ?_,rfl,q⟩;rw[Ut];omega
def TV:V->List V->Hp->VK->Prop:=λx vs H Q=>∃ l xs y,x = .ref l/\vs=[]/\H l=some (.lst xs)/\xs[xs.length - 1]?=some y/\Q y (upd H l (.lst xs.dropLast))
theorem Kw:MtM X "list.pop" TV:=by
 intro pq s σ H x vs v us Q I rx rv h;obtain⟨l,xs,y,rfl,rfl,hH,hy,q⟩:=h;cases rx;have hus:=rv.zero;subst hus;obtain⟨z,its,n,r,hl,e⟩:=I.lstM hH;obtain⟨u,hu,ru⟩:=r.get hy
 have hy':its.toArray[its.toArray.size - 1]?=some u:=by
  show its.toArray[its.length - 1]?=some u;rw[<-Wk,<-hl];exact hu
 refine ZF F.slot_list_pop ⟨_,e,rfl⟩ F.entry_list_pop (F.args_list_pop_1 _) (MeetsSeq.list_pop_last l its.toArray n u hy' (by rw[Uu];omega)) ⟨e,?_⟩;refine⟨y,_,I.lset (its':=its.dropLast) hH e ?_ r.dropLast ?_,ru,q⟩
 ·show its.toArray.eraseIdxIfInBounds (its.toArray.size - 1)=its.dropLast.toArray;rw[Uu,X0,Ga]
 ·rw[List.length_dropLast];omega
def Kx:V->List V->Hp->VK->Prop:=λx vs H Q=>∃ l xs i k y,x = .ref l/\vs=[.int i]/\H l=some (.lst xs) /\ -(2 ^ 63)<=i/\i<2 ^ 63/\A0l i xs.length=some k/\xs[k]?=some y/\Q y (upd H l (.lst (xs.eraseIdx k)))
theorem FF:MtM X "list.pop" Kx:=by
 intro pq s σ H x vs v us Q I rx rv h;obtain⟨l,xs,i,k,y,rfl,rfl,hH,h1,h2,hk,hy,q⟩:=h;cases rx;obtain⟨u,rfl,ru⟩:=rv.one;obtain⟨t,rfl⟩:=ru;obtain⟨z,its,n,r,hl,e⟩:=I.lstM hH;obtain⟨w,hw,rw'⟩:=r.get hy
 refine ZF F.slot_list_pop ⟨_,e,rfl⟩ F.entry_list_pop (F.args_list_pop_2 _ _)
  (MeetsSeq.list_pop_at l its.toArray n i t k w (Zj h1 h2) (by rw[Uu,<-hl];exact hk) (by rw[<-Wk];exact hw) (by rw[Uu];omega)) ⟨e,?_⟩
 refine⟨y,_,I.lset (its':=its.eraseIdx k) hH e ?_ (r.eraseIdx k) ?_,rw',q⟩
 ·show its.toArray.eraseIdxIfInBounds k=(its.eraseIdx k).toArray;rw[X0]
 ·have:=Dt xs k;omega
def Ky:V->List V->Hp->VK->Prop:=λx vs H Q=>∃ l xs,x = .ref l/\vs=[]/\H l=some (.lst xs)/\Q .non (upd H l (.lst []))
theorem FG:MtM X "list.clear" Ky:=by
 intro pq s σ H x vs v us Q I rx rv h;obtain⟨l,xs,rfl,rfl,hH,q⟩:=h;cases rx;have hus:=rv.zero;subst hus;obtain⟨z,its,n,r,hl,e⟩:=I.lstM hH;refine ZF F.slot_list_clear ⟨_,e,rfl⟩ F.entry_list_clear (F.args_list_clear_1 _) (AutoSeq1.list_clear_list_0 l its.toArray n (by rw[Uu];omega)) ⟨e,?_⟩;exact⟨.non,_,I.lset (its':=[]) (ys:=[]) hH e rfl .nil (Ww _),rfl,q⟩
def TW:R2:=λx y H Q=>∃ l b xs zs,x = .ref l/\y = .ref b/\H l=some (.lst xs)/\H b=some (.lst zs)/\xs.length+zs.length<=YU/\∀ p,H p=none->Q (.ref p) (upd H p (.lst (xs++zs)))
theorem RB:OpR X (Ys .Add) TW:=by
 intro pq s σ H x y v u Q I rx ry h;obtain⟨l,b,xs,zs,rfl,rfl,hH,hB,hz,q⟩:=h;cases rx;cases ry;obtain⟨z,its,n,r,hl,e⟩:=I.lstM hH;obtain⟨z2,its2,n2,r2,hl2,e2⟩:=I.lstM hB;refine PySem.P.add_list e e2 ?_ (by rw[Uu,Uu];omega);have ea:its.toArray++its2.toArray=(its++its2).toArray:=by simp
 rw[ea];exact⟨.ref _,_,I.lnew (t':=s.toks) (r.append r2) (by rw[Ut];omega),rfl,q _ I.fresh⟩
def TX:R2:=λx y H Q=>∃ l k xs,x = .ref l/\y = .int k/\H l=some (.lst xs) /\ -(2 ^ 63)<=k/\k<2 ^ 63/\xs.length * k.toNat<=YU/\
 ∀ p,H p=none->Q (.ref p) (upd H p (.lst (Uv k.toNat xs).flatten))
theorem Nm{α:Type}(xs:List α)(k:Nat):(Uv k xs).flatten.length=k * xs.length:=by
 induction k with
 | zero=>simp
 | succ k ih=>rw[VQ,Vv,Ut,ih,Nat.succ_mul,Nat.add_comm]
theorem RC:OpR X (Ys .Mult) TX:=by
 intro pq s σ H x y v u Q I rx ry h;obtain⟨l,k,xs,rfl,rfl,hH,h1,h2,hz,q⟩:=h;cases rx;obtain⟨t,rfl⟩:=ry;obtain⟨z,its,n,r,hl,e⟩:=I.lstM hH;have hlen:its.toArray.size * k.toNat<=YU:=by rw[Uu,<-hl];exact hz
 have hcap:¬ its.toArray.size * k.toNat>(2 ^ 63 - 1) / 8:=by
  have:(YU:Nat)<=(2 ^ 63 - 1) / 8:=by decide
  omega
 have hfit:¬ (!Builtin.List.listFitsIndex k)=true:=by
  rw[Zj h1 h2];exact V0
 have hlong:¬ Builtin.List.listTooLong (its.toArray.size * k.toNat)=true:=by
  rw[FE hlen];exact V0
 have hnew:Y4 (λx1 x2=>x1++x2) #[] (Uv (if its.toArray.isEmpty=true then 0 else k.toNat) its.toArray)=(Uv k.toNat its).flatten.toArray:=by
  have f0:∀ m:Nat,Y4 (λx1 x2=>x1++x2) #[] (Uv m its.toArray)=(Uv m its).flatten.toArray:=λm=>by
   have:=Du its m [];rw[Xz]at this;exact this
  rw[f0];cases its with
  | nil=>simp
  | cons a r'=>rw[iG (by simp)]
 refine wpAny_binaryOp_repeat_ref (T:="list") (U:="int") (by decide) ⟨_,e,rfl⟩ (λs'=>Zf s' k t) noFill_list_mul F.fills_int_mul F.slot_int_rmul repeat_list F.slot_int_index.lookup
  (ZF F.slot_int_rmul (Zf s k t) F.entry_int_rmul (F.args_int_rmul_2 _ _) (int___rmul___int_list k t l its.toArray n)
    ⟨e,rfl,⟨_,e,rfl⟩,ZF F.slot_list_mul ⟨_,e,rfl⟩ F.entry_list_mul (F.args_list_mul_2 _ _) (AutoListH.list___mul___list_int_3 l its.toArray n k t hfit hcap hlong) ⟨e,?_⟩⟩)
 rw[hnew];exact⟨.ref _,_,I.lnew (t':=s.toks) (r.rep k.toNat) (by rw[Nm,Nat.mul_comm];exact hz),rfl,q _ I.fresh⟩
end
end L2
namespace Att
open PySem PySem.W PySem.Calls PyProof.Rows
theorem CZ{P:Params}{h:Heap}:∀(ns:List Int) (vs:List YK),WellAll P h vs (ns.map WData.int)->IntsAre vs ns:=by
 intro ns
 induction ns with
 | nil=>
   intro vs w;rw[YC]at w;cases w;exact .nil
 | cons n ns ih=>
   intro vs w;rw[VP]at w;cases w with
   | cons a b=>
     cases a;exact .cons _ _ (ih _ b)
theorem JP{l:OpenLaw}{n:Nat}(hn:l.most=some n){P:Params}{h:Heap}{args:List WData}{vals:List YK}
 (hpre:l.row.toRowW.claim.pre args=true) (hwl:WellAll P h vals args):
 ∃ a vs ns,vals=[Value.ref a]/\args=[WData.list (ns.map WData.int)]/\h.get? a=some {cls := .type "list",data := .seq vs.toArray}/\IntsAre vs ns/\ns.length<=n:=by
 have hsh:WShape.hasAll [] args [.list .int]=true:=(pre_splitW hpre).1;have hc:l.pre.holds [] {args:=args}=true:=(pre_splitW hpre).2;obtain⟨d,r,rfl,h1,h2⟩:=hasAllW_cons hsh;obtain rfl:=hasAllW_nil h2;obtain⟨xs,rfl,h3⟩:=hasW_list h1;obtain⟨ns,rfl⟩:=items_int h3
 have hlen:ns.length<=n:=by
  unfold OpenLaw.pre at hc
  have h4:(WTm.not (.lt (.lit (.int (n:Int))) (.len (.arg 0)))).holds [] {args:=[.list (ns.map .int)]}=true:=by
   have h4:=(holds_andW hc).1;rw[hn]at h4;exact h4
  have h5:=condW_of h4 (w_not (w_lt w_lit (w_len_list (w_arg rfl))));rw[Ur]at h5;refine Nat.le_of_not_lt λq=>?_;have q':(n:Int)<((ns.length:Nat):Int):=by omega
  first
   | (rw[decide_eq_true q']at h5;exact absurd h5 (by decide))
   | (simp at h5;omega)
 cases hwl with
 | cons w1 w2=>
   cases w2;cases w1 with
   | list ho hall=>exact⟨_,_,ns,rfl,rfl,ho,CZ ns _ hall,hlen⟩
theorem JQ(l:OpenLaw)(args:List WData):l.row.toRowW.claim.post args (.bool true) args=true:=
 postW_of (r:=l.row.toRowW) (X:=(true == true))
  (show WShape.has [] (.bool true) .bool=true by first | rfl | decide | simp[WShape.has,WShape.arms,WShape.armsAll])
  (show(WTm.eq .res (.lit (.bool true))).value [] {args:=args,res:=some (.bool true),after:=args}=some (.bool (true == true)) from w_eq_bool (w_res rfl) w_lit) rfl
theorem attach_call{l:OpenLaw}{n:Nat}{q:YT}{loose:List Str}{XP:(Str->Option YK)->Heap->Prop}{YP:YX->Heap->Prop}{d:DefRec}
 (hn:l.most=some n) (hdf:d.params.defaults=[])
 (call:∀(w:YX) (s₀ s₁:YM) (mg mb:Str->Option YK) (fa:YN) (o:Obj) (pm cd doc:YK) (a:YN) (vs:List YK) (ns:List Int),
   Ground q loose [] XP w s₀ mg mb s₁.heap->YP w s₁.heap->
   s₁.heap.get? fa=some o->o.data = .func (docDef d.name d.params d.body d.scope pm cd doc)->s₁.heap.CodeRec cd d.name->mg d.name=some (.ref fa)->
   s₁.heap.get? a=some {cls := .type "list",data := .seq vs.toArray}->IntsAre vs ns->ns.length<=n->s₁.gens=#[]->
   codeAny (YS l.prog w) callerA (.call (.ref fa) ⟨[.ref a],[]⟩) (λr s'=>r = .ok (.ret (.bool true))/\OldK s₁.heap s'.heap/\s'.os=s₁.os/\AllBare s'.gens) s₁):
 WalkO q loose XP YP l.row.toRowW d [] (λf vs=>PySem.call f vs):=by
 intro w s₀ s₁ mg mb G Y fa o pm cd doc dV kV ho hd hcd hD hmg hg args vals as hpre hlay hrd hwl hlo;obtain rfl:dV = .none:=Dflts.none hD hdf;obtain rfl:kV = .none:=Dflts.noKw hD;obtain⟨a,vs,ns,rfl,rfl,hobj,hints,hlen⟩:=JP hn hpre hwl;refine enter_call (Zw (call w s₀ s₁ mg mb fa o pm cd doc a vs ns G Y ho (fd_plain hd) hcd hmg hobj hints hlen hg) λr s' hq=>?_);obtain⟨rfl,h2,h3,h4⟩:=hq;exact⟨.inl ⟨.bool true,.bool true,[],rfl,λ_=>rfl,.bool true,JQ l _,λ_=>⟨List.Pairwise.nil,λ_ hm=>(nomatch hm)⟩⟩,h2,h3,h4⟩
end Att
namespace L2
open PySem PySem.Spec PyProof.Rows
theorem Dw:∀{vs:List YK} {ns:List Int},IntsAre vs ns->Vals (ns.map V.int) vs
 | _,_,.nil => .nil
 | _,_,.cons n t h => .cons ⟨t,rfl⟩ (Dw h)
def Nn(H:Hp):Prop:=∀ b,H b=none\/∃ o xs,H b=some (.frz o (.lst xs))
theorem Kz{P:YT}{w:YX}{K:Um}{mg mb:Str->Option YK}{CX:CXT}{k:Nat}{fa a:YN}{fd:Z5}{x:Str}{sp:Sp}{s₁:YM}{vs:List YK}{ns:List Int}
 (KX:K.In s₁.heap) (hns:s₁.heap.Ns YW mg) (hb:s₁.heap.Ns Zs mb) (hbb:∀ x:Str,x≠"__name__"->mb x=Ya x) (hlim:s₁.heap.NoLimit) (hg:s₁.gens=#[])
 (ha:s₁.heap.get? a=some {cls := .type "list",data := .seq vs.toArray}) (hi:IntsAre vs ns) (hl:ns.length<=YU) (hr:Room k callerA)
 (F:∀ base:Heap,K.In base->base.Ns YW mg->FnOk P w K mg base CX k fa fd [x] sp) (hbind:∀(s:YM) (u:YK),BindsTo s fd ⟨[u],[]⟩ [(x,u)])
 (hsp:∀ H:Hp,Nn H->SqL K H a (ns.map V.int)->sp [.ref a] H (λv _=>v = .bl true) λ_ _ _=>False)
 (hCX:∀ H e s',CX [] H s₁ (λ_ _ _=>False) e s'->False):
 codeAny (YS P w) callerA (.call (.ref fa) ⟨[.ref a],[]⟩) (λr s'=>r = .ok (.ret (.bool true))/\OldK s₁.heap s'.heap/\s'.os=s₁.os/\AllBare s'.gens) s₁:=by
 have rv:=Dw hi;have lenV:=hi.length
 have core:∀ H:Hp,Nn H->SqL K H a (ns.map V.int)->HOk P w H s₁.heap->(∀ b,H b≠none->b=a)->(H a≠none->K.lookup a=none)->
  codeAny (YS P w) callerA (.call (.ref fa) ⟨[.ref a],[]⟩) (λr s'=>r = .ok (.ret (.bool true))/\OldK s₁.heap s'.heap/\s'.os=s₁.os/\AllBare s'.gens) s₁:=by
  intro H hO hS hok hA hK;have u5:∀{b:YN} {o:Obj},s₁.heap.get? b=some o->H b=none->(EN s₁.heap H).get? b=some o:=λe n=>KP e n
  have noA:∀{b:YN} {o:Obj} {es:Array Zl} {ep:Nat},s₁.heap.get? b=some o->o.data = .dict es ep->H b=none:=λ{b o es ep} e d=>by
   cases q:H b with
   | none=>rfl
   | some u=>
     have e':b=a:=hA b (by rw[q];simp);subst e';rw[ha]at e;cases e;have d':Data.seq vs.toArray _=Data.dict es ep:=d;cases d'
  have nsK:∀{b:YN} {m:Str->Option YK},s₁.heap.Ns b m->(EN s₁.heap H).Ns b m:=λ{b m} ⟨o,es,ep,e,d,r⟩=>⟨o,es,ep,u5 e (noA e d),d,r⟩
  have hKb:K.In (EN s₁.heap H):=λb o e=>u5 (KX b o e) (by
   cases q:H b with
   | none=>rfl
   | some u=>
     have e':b=a:=hA b (by rw[q];simp);subst e';rw[hK (by rw[q];simp)]at e;cases e)
  have hM:Mod K mg (EN s₁.heap H):=⟨hKb,nsK hns,⟨mb,nsK hb,hbb⟩,let ⟨mc,h1,h2⟩:=hlim;⟨mc,nsK h1,h2⟩⟩
  have e0:Env0 P w K mg (EN s₁.heap H) callerA [] s₁ H:=⟨rfl,hM,λb o e=>NV e,YD (JD _ _),trivial,λb hb=>absurd (show b∈([]:List YN) from hb) (by simp),hok,.of_eq hg⟩
  refine Zw ((F _ hKb (nsK hns)).run callerA [] s₁ H ⟨[.ref a],[]⟩ [.ref a] [.ref a] _ _ hr e0 (hbind s₁ (.ref a)) (.cons rfl .nil) (hsp H hO hS)) λr s' h=>?_;cases r with
  | error e=>exact(hCX H e s' h).elim
  | ok fl=>
    cases fl with
    | next=>exact False.elim h
    | brk=>exact False.elim h
    | cont=>exact False.elim h
    | ret u=>
      obtain⟨v,H',os,bare,un,hok',r',q⟩:=h;have q':v = .bl true:=q;subst q';obtain rfl:u=Value.bool true:=r';refine⟨rfl,OldK.of_keep λb o e=>?_,os,bare⟩;cases q:H b with
      | none=>exact un.keep b o e q (by intro z;exact absurd (show b∈([]:List YN) from z) (by simp)) (by simp)
      | some u=>
        rcases hO b with z | ⟨ob,xs,z⟩
        ·rw[q]at z;cases z
        ·have z2:=un.frzs b ob _ z;obtain⟨e1,_⟩:=hok b _ z;obtain⟨e2,_⟩:=hok' b _ z2;rw[e]at e1;cases e1;exact e2
 cases hk:K.lookup a with
 | some o=>
   have e:=KX a o hk;rw[ha]at e;cases e;refine core (λ_=>none) (λ_ => .inl rfl) (.inr ⟨_,vs.toArray,_,hk,rfl,rfl,rfl,by rw[Uu,lenV];exact hl,by simpa using rv⟩) (λb u z=>by have z':(none:Option HO)=some u:=z;cases z') (λb z=>absurd rfl z) λz=>absurd rfl z
 | none=>
   refine core (λb=>if b=a then some (.frz {cls := .type "list",data := .seq vs.toArray} (.lst (ns.map V.int))) else none) (λb=>?_) (.inl (.inr ⟨{cls := .type "list",data := .seq vs.toArray},iP rfl⟩)) (λb u z=>?_) (λb z=>?_) λ_=>hk
   ·by_cases hb:b=a
    ·exact .inr ⟨_,_,iP hb⟩
    ·exact .inl (iG hb)
   ·by_cases hb:b=a
    ·have z':=(iP hb).symm.trans z;cases z';subst hb;exact⟨ha,by rw[Ur];exact hl,vs,_,rv,ha⟩
    ·have z':=(iG hb).symm.trans z;cases z'
   ·by_cases hb:b=a
    ·exact hb
    ·exact absurd (iG hb) z
theorem walk_of{l:PySem.W.OpenLaw}{n k:Nat}{q:YT}{loose:List Str}{XP:(Str->Option YK)->Heap->Prop}{YP:YX->Heap->Prop}{d:DefRec}{K:Params->Um}{CX:YX->CXT}{sp:YX->Sp}{x:Str}
 (hn:l.most=some n) (hn2:n<=YU) (hdf:d.params.defaults=[]) (hr:Room k callerA)
 (hY:∀(w:YX) (h:Heap),YP w h->(K w.params).In h)
 (F:∀(w:YX) (mg:Str->Option YK) (fa:YN) (h:Heap),(K w.params).In h->h.Ns YW mg->mg d.name=some (.ref fa)->
   ∃ fd:Z5,(∀(s:YM) (u:YK),BindsTo s fd ⟨[u],[]⟩ [(x,u)])/\
    ∀ base:Heap,(K w.params).In base->base.Ns YW mg->FnOk l.prog w (K w.params) mg base (CX w) k fa fd [x] (sp w))
 (hsp:∀(w:YX) (H:Hp) (a:YN) (ns:List Int),ns.length<=n->Nn H->SqL (K w.params) H a (ns.map V.int)->sp w [.ref a] H (λv _=>v = .bl true) λ_ _ _=>False)
 (hCX:∀(w:YX) (H:Hp) (s:YM) (e:YK) (s':YM),CX w [] H s (λ_ _ _=>False) e s'->False):
 PySem.W.WalkO q loose XP YP l.row.toRowW d [] (λf vs=>PySem.call f vs):=by
 refine Att.attach_call hn hdf λw s₀ s₁ mg mb fa o pm cd doc a vs ns G Y ho hd hcd hmg hobj hints hlen hg=>?_;have KX:=hY w _ Y;obtain⟨fd,hb,hF⟩:=F w mg fa _ KX G.T.g hmg;exact Kz KX G.T.g G.T.b G.T.builtins G.T.nolimit hg hobj hints (VF hlen hn2) hr hF hb (λH hO hS=>hsp w H a ns hlen hO hS) λH e s'=>hCX w H s₁ e s'
def defArgs(s:Stmt):Arguments:=match s with
 | .FunctionDef _ a _ _ _ _ _ _ _ _=>a
 | _=>{posonlyargs:=[],args:=[],vararg:=none,kwonlyargs:=[],kw_defaults:=[],kwarg:=none,defaults:=[]}
def defBody(s:Stmt):List Stmt:=match s with
 | .FunctionDef _ _ b _ _ _ _ _ _ _=>b
 | _=>[]
def defScope(s:Stmt):Yd:=match s with
 | .FunctionDef _ _ _ _ _ _ sc _ _ _=>sc
 | _=>{kind := .function,names:=[],isGenerator:=false,isCoroutine:=false}
abbrev CX0:CXT:=λ_ _ _ _ _ _=>False
abbrev E0:XK:=λ_ _ _=>False
theorem TY{X:Cx}:GU CX0 X E0:=λ_ _ _ _ _ _ _ h=>h.elim
structure Fun(K:Um)(x qual:Str)(st:Stmt)(f:YN)(fd:Z5):Prop where
 ex:∃(oc:YK) (od:Option YN) (kV doc pm:YK) (an:Option YN) (cdv ct:YK) (osl:Array (Option YK)),
  fd=PySem.W.fnOf x qual (defArgs st) (defBody st) (defScope st) .none kV doc pm an cdv ct/\K.lookup f=some ⟨oc,od,.func fd,osl⟩/\PySem.W.codeIn K cdv qual=true
 kp:PySem.W.keepIn K (.ref f)=true
section
variable{P:YT}{w:YX}{K:Um}{mg:Str->Option YK}{base:Heap}
theorem Fun.ok{x qual:Str}{st:Stmt}{f:YN}{fd:Z5}{N ps:List Str}{k:Nat}{sp:Sp}(F:Fun K x qual st f fd)(S:FnScope N ps (defScope st))(len:∀ vs H Q E,sp vs H Q E->vs.length=ps.length)
 (hbody:∀(cdv:YK) (A:YZ) (outer:List Env) (s:YM) (H:Hp) (vs:List V) (Q:VK) (E:XK),Room k (A.deeper (envOfC qual (defScope st) s.heap.objs.size f cdv))->sp vs H Q E->
   ∃ t,PSs (GV CX0 P w K mg base N qual (defScope st) f cdv A outer s H E).nox (defBody st) t/\t {nx:=λ_ H'=>Q .non H',rt:=Q} (start N vs) H):FnOk P w K mg base CX0 (k+1) f fd ps sp:=by
 obtain⟨oc,od,kV,doc,pm,an,cdv,ct,osl,rfl,lk,hcd⟩:=F.ex;refine TK lk hcd S len λA outer s H vs Q E hr hsp=>?_;obtain⟨t,h,q⟩:=hbody cdv A outer s H vs Q E hr hsp;exact⟨t,h.nox,q⟩
theorem Fun.binds{x qual:Str}{st:Stmt}{f:YN}{fd:Z5}{ps:List Str}(F:Fun K x qual st f fd)
 (h:∀(kV doc pm:YK) (an:Option YN) (cdv ct:YK) (us:List YK),us.length=ps.length->bindArgs (PySem.W.fnOf x qual (defArgs st) (defBody st) (defScope st) .none kV doc pm an cdv ct) ⟨us,[]⟩=pure (ps.zip us)):Binds K fd ps []:=by
 obtain⟨oc,od,kV,doc,pm,an,cdv,ct,osl,rfl,lk,hcd⟩:=F.ex;exact .all (h kV doc pm an cdv ct)
theorem Gb{x qual:Str}{st:Stmt}{f:YN}{oc:YK}{od an:Option YN}{osl:Array (Option YK)}{kV doc pm cdv ct:YK}(l:K.lookup f=some ⟨oc,od,.func (PySem.W.fnOf x qual (defArgs st) (defBody st) (defScope st) .none kV doc pm an cdv ct),osl⟩)
 (c:PySem.W.codeIn K cdv qual=true) (k:PySem.W.keepIn K (.ref f)=true):Fun K x qual st f (PySem.W.fnOf x qual (defArgs st) (defBody st) (defScope st) .none kV doc pm an cdv ct):=⟨⟨oc,od,kV,doc,pm,an,cdv,ct,osl,rfl,l,c⟩,k⟩
end
end L2
set_option maxHeartbeats 4000000
namespace L2
open PySem PySem.Spec PyProof.Rows
def v9(env:Env):List (Str×Yo)->List (Str×YN)->List (Str×YN)
 | [],acc=>acc
 | (n,k)::r,acc=>if k == .free then v9 env r ((n,(env.cells.lookup n).getD 0)::acc) else v9 env r acc
theorem Aj{env:Env}{scope:Yd}(h:∀ x∈scope.names,x.2 = .free->∃ c,env.cells.lookup x.1=some c):closureFor scope env=pure (v9 env scope.names []):=by
 unfold closureFor
 have go:∀(names:List (Str×Yo)) (acc:List (Str×YN)),(∀ x∈names,x.2 = .free->∃ c,env.cells.lookup x.1=some c)->
  (forIn names acc λx r=>match x with
    | (name,kind)=>if (kind == NameKind.free)=true then do let __do_lift <- cellOf env name;pure (ForInStep.yield ((name,__do_lift)::r)) else pure (ForInStep.yield r):Sem (List (Str×YN)))=pure (v9 env names acc):=by
  intro names
  induction names with
  | nil=>intro acc _;rfl
  | cons x r ih=>
    intro acc hx;obtain⟨n,k⟩:=x;rw[List.forIn_cons];have hr:=λy hy=>hx y (VB _ hy);by_cases hk:k = .free
    ·subst hk;obtain⟨c,hc⟩:=hx (n,.free) VJ rfl;have hc':env.cells.lookup n=some c:=hc;unfold v9;simp only[beq_self_eq_true,if_true,cellOf,hc',Xo,pure_bind];exact ih _ hr
    ·have hb:(k == NameKind.free)=false:=by simpa using hk
     unfold v9;simp only[hb,Vb,if_false,pure_bind];exact ih _ hr
 have:=go scope.names [] h;simp only[this]
 first | rfl | simp
theorem CA{env:Env}:∀(names:List (Str×Yo)) (acc:List (Str×YN)),(∀ x∈names,x.2 = .free->∃ c,env.cells.lookup x.1=some c)->(∀ p∈acc,env.cells.lookup p.1=some p.2)->
 ∀ p∈v9 env names acc,env.cells.lookup p.1=some p.2
 | [],_,_,ha,p,hp=>ha p hp
 | (n,k)::r,acc,h,ha,p,hp=>by
   unfold v9 at hp;have hr:=λy hy=>h y (VB _ hy);split at hp
   ·rename_i hk;have hk:k = .free:=by simpa using hk
    obtain⟨c,hc⟩:=h (n,k) VJ hk;have hc':env.cells.lookup n=some c:=hc;refine CA r _ hr (λq hq=>?_) p hp;rcases VA.mp hq with rfl | hq
    ·show env.cells.lookup n=some ((env.cells.lookup n).getD 0);rw[hc'];rfl
    ·exact ha q hq
   ·exact CA r acc hr ha p hp
theorem CB{env:Env}:∀(names:List (Str×Yo)) (acc:List (Str×YN)),∀ p∈acc,p∈v9 env names acc
 | [],_,_,hp=>hp
 | (n,k)::r,acc,p,hp=>by
   unfold v9;split
   ·exact CB r _ p (VB _ hp)
   ·exact CB r acc p hp
theorem CC{env:Env}:∀(names:List (Str×Yo)) (acc:List (Str×YN)) (n:Str),(n,NameKind.free)∈names->∃ c,(n,c)∈v9 env names acc
 | (m,k)::r,acc,n,hn=>by
   unfold v9;rcases VA.mp hn with e | hn
   ·cases e;simp only[beq_self_eq_true,if_true];exact⟨_,CB r _ _ VJ⟩
   ·split
    ·exact CC r _ n hn
    ·exact CC r _ n hn
theorem B4{env:Env}:∀(names:List (Str×Yo)) (acc:List (Str×YN)),∀ p∈v9 env names acc,p∈acc\/(p.1,NameKind.free)∈names
 | [],_,_,hp => .inl hp
 | (n,k)::r,acc,p,hp=>by
   unfold v9 at hp;split at hp
   ·rename_i hk;have hk:k = .free:=by simpa using hk
    subst hk;rcases B4 r _ p hp with z | z
    ·rcases VA.mp z with rfl | z
     ·exact .inr VJ
     ·exact .inl z
    ·exact .inr (VB _ z)
   ·rcases B4 r _ p hp with z | z
    ·exact .inl z
    ·exact .inr (VB _ z)
theorem y9:∀(names:List (Str×Yo)) (n:Nat) (acc:List (Str×YN)),∀ p∈Yp n names acc,p∈acc\/(n<=p.2/\(p.1,NameKind.cell)∈names)
 | [],_,_,_,hp => .inl hp
 | (x,k)::r,n,acc,p,hp=>by
   unfold Yp at hp;split at hp
   ·rename_i hk;have hk:k = .cell:=by simpa using hk
    subst hk;rcases y9 r (n+1) _ p hp with z | ⟨z,w⟩
    ·rcases VA.mp z with rfl | z
     ·exact .inr ⟨Ux _,VJ⟩
     ·exact .inl z
    ·exact .inr ⟨Nat.le_of_succ_le z,VB _ w⟩
   ·rcases y9 r n acc p hp with z | ⟨z,w⟩
    ·exact .inl z
    ·exact .inr ⟨z,VB _ w⟩
theorem A0:∀(names:List (Str×Yo)) (n:Nat) (acc:List (Str×YN)),∀ p∈acc,p∈Yp n names acc
 | [],_,_,_,hp=>hp
 | (x,k)::r,n,acc,p,hp=>by
   unfold Yp;split
   ·exact A0 r _ _ p (VB _ hp)
   ·exact A0 r _ _ p hp
theorem Ac:∀(names:List (Str×Yo)) (n:Nat) (acc:List (Str×YN)) (x:Str),(x,NameKind.cell)∈names->∃ c,(x,c)∈Yp n names acc
 | (y,k)::r,n,acc,x,hx=>by
   unfold Yp;rcases VA.mp hx with e | hx
   ·cases e;simp only[beq_self_eq_true,if_true];exact⟨_,A0 r _ _ _ VJ⟩
   ·split
    ·exact Ac r _ _ x hx
    ·exact Ac r _ _ x hx
theorem Ad:∀(names:List (Str×Yo)) (h:Heap) (acc:List (Str×YN)),∀ p∈Yp h.objs.size names acc,p∈acc\/(A03 h names).IsCell p.2 none
 | [],_,_,_,hp => .inl hp
 | (x,k)::r,h,acc,p,hp=>by
   unfold Yp at hp;unfold A03;split at hp
   ·rename_i hk;rw[iP hk];have:=Ad r (h.push {cls := .type "cell",data := .cell none}) ((x,h.objs.size)::acc) p (by rw[W7];exact hp);rcases this with z | z
    ·rcases VA.mp z with rfl | z
     ·exact .inr ⟨_,Zi _ _ _ _ (V8 _ rfl),rfl⟩
     ·exact .inl z
    ·exact .inr z
   ·rename_i hk;rw[iG hk];exact Ad r h acc p hp
theorem AF:∀(names:List (Str×Yo)) (n:Nat) (acc:List (Str×YN)),(acc.Pairwise λx y=>x.2≠y.2)->(∀ p∈acc,p.2<n)->(Yp n names acc).Pairwise λx y=>x.2≠y.2
 | [],_,_,h,_=>h
 | (x,k)::r,n,acc,h,hl=>by
   unfold Yp;split
   ·refine AF r (n+1) _ (X8.mpr ⟨λy hy e=>?_,h⟩) λp hp=>?_
    ·have h1:=hl y hy;have e':n=y.2:=e;exact absurd h1 (by rw[<-e'];exact WH _)
    ·rcases VA.mp hp with rfl | hp
     ·exact Wr _
     ·exact WY (hl p hp)
   ·exact AF r n acc h hl
theorem B5{env:Env}(inj:∀ x y c,env.cells.lookup x=some c->env.cells.lookup y=some c->x=y):∀(names:List (Str×Yo)) (acc:List (Str×YN)),(names.map (·.1)).Nodup->
 (∀ x∈names,x.2 = .free->∃ c,env.cells.lookup x.1=some c)->(acc.Pairwise λx y=>x.2≠y.2)->(∀ p∈acc,env.cells.lookup p.1=some p.2/\p.1∉names.map (·.1))->(v9 env names acc).Pairwise λx y=>x.2≠y.2
 | [],_,_,_,h,_=>h
 | (n,k)::r,acc,nd,hf,h,ha=>by
   unfold v9;have nd':=WV.mp nd;have hr:=λy hy=>hf y (VB _ hy);split
   ·rename_i hk;have hk:k = .free:=by simpa using hk
    obtain⟨c,hc⟩:=hf (n,k) VJ hk;have hc':env.cells.lookup n=some c:=hc;refine B5 inj r _ nd'.2 hr (X8.mpr ⟨λy hy e=>?_,h⟩) λp hp=>?_
    ·have e':(env.cells.lookup n).getD 0=y.2:=e;rw[hc']at e';have e2:c=y.2:=e';have q:=(ha y hy).1;have:=inj n y.1 c hc' (by rw[e2];exact q);exact(ha y hy).2 (by rw[<-this];exact VJ)
    ·rcases VA.mp hp with rfl | hp
     ·refine⟨?_,nd'.1⟩;show env.cells.lookup n=some ((env.cells.lookup n).getD 0);rw[hc'];rfl
     ·exact⟨(ha p hp).1,λz=>(ha p hp).2 (VB _ z)⟩
   ·exact B5 inj r acc nd'.2 hr h λp hp=>⟨(ha p hp).1,λz=>(ha p hp).2 (VB _ z)⟩
theorem w4{env:Env}:∀(names:List (Str×Yo)) (x:Str),
 (names.map λ(n,k)=>if (k == NameKind.free&&env.scope.kind == .function&&env.kindOf n == some .cell) then (n,NameKind.cell) else (n,k)).lookup x=
   (names.lookup x).map λk=>if (k == NameKind.free&&env.scope.kind == .function&&env.kindOf x == some .cell) then NameKind.cell else k
 | [],x=>rfl
 | (n,k)::r,x=>by
   have ih:=w4 (env:=env) r x;rw[VP];show Xa x ((if (k == NameKind.free&&env.scope.kind == .function&&env.kindOf n == some .cell)=true then (n,NameKind.cell) else (n,k))::_)=_;split
   ·rename_i hc;rw[W4,W4];cases hx:x == n with
    | false=>exact ih
    | true=>
      have e:x=n:=by simpa using hx
      subst e;simp only[WK];rw[iP hc]
   ·rename_i hc;rw[W4,W4];cases hx:x == n with
    | false=>exact ih
    | true=>
      have e:x=n:=by simpa using hx
      subst e;simp only[WK];rw[iG hc]
theorem j6{α:Type}:∀{l:List (Str×α)} {n:Str} {c:α},(l.map (·.1)).Nodup->(n,c)∈l->l.lookup n=some c
 | (k,v)::r,n,c,nd,h=>by
   have nd':=WV.mp nd;rw[W4];rcases VA.mp h with e | h2
   ·cases e;simp
   ·cases hb:n == k with
    | true=>
      have e:n=k:=by simpa using hb
      exact absurd (VV.mpr ⟨(n,c),h2,e⟩:k∈r.map (·.1)) nd'.1
    | false=>exact j6 nd'.2 h2
theorem Bd{α:Type}:∀{l:List (Str×α)} {n:Str} {c:α},(n,c)∈l->∃ d,l.lookup n=some d
 | (k,v)::r,n,c,h=>by
   rw[W4];cases hb:n == k with
   | true=>exact⟨v,rfl⟩
   | false=>
     rcases VA.mp h with e | h
     ·cases e;simp at hb
     ·exact Bd h
noncomputable abbrev i8(X:Cx)(scope:Yd)(N':List Str)(s2:YM)(H2:Hp)(cs:List (Str×YN))(C:YN)(fp:List YN):Cx where
 prog:=X.prog
 w:=X.w
 K:=X.K
 mg:=X.mg
 base:=X.base
 A:=X.A
 N:=N'
 s₀:=s2
 H₀:=H2
 env:=Zb scope cs C X.env
 outer:=X.stack
 stack:=X.stack
 ex:=fp
 fn:=λx=>scope.names.lookup x == some .cell
 calm:=X.calm
 pn:=X.pn
 xe:=λ_ _=>False
def y6(sc0 sc:Yd)(own cn N:List Str)(js:List Nat):Bool:=
 (decide (sc.kind = .function))&&(sc.names.all λx=>!decide (x.2 = .free)||decide (sc0.names.lookup x.1=some .cell)||decide (sc0.names.lookup x.1=some .free))
 && decide ((sc.names.map (·.1)).Nodup)&&(own.all λx=>decide (sc.names.lookup x=some .local)||decide (sc.names.lookup x=some .cell))&&(cn.all λx=>decide (sc.names.lookup x=some .free))
 && decide ((own++cn).Nodup)&&decide (js.map (λj=>N[j]?)=cn.map some)
def Ay(k:Nat)(js:List Nat)(σ:St):St:=Uv k none++js.map λj=>(σ[j]?).join
noncomputable def Db(X:Cx)(ifs:List Expr)(t:TT):Prop:=
 ∀(pq:List (YN×Obj)) (s:YM) (σ:St) (H:Hp) (Q:Bool->Hp->Prop),Inv X pq σ H s->t σ H Q->
  YV (YS X.prog X.w) X.A (forIn ifs true λc r=>if r=true then do let ok <- isTrue c X.env (eval c X.env);pure (ForInStep.yield ok) else pure (ForInStep.yield r)) (TP X pq σ Q) X.xe s
theorem L0{X:Cx}:Db X [] (λ_ H Q=>Q true H):=λ_ _ _ H _ I h=>wpAny_tests_nil ⟨H,I,h⟩
theorem L3{X:Cx}{c:Expr}{t:TT}(h:PT X c t):Db X [c] t:=λpq s σ H Q I hw=>wpAny_tests_one (h pq s σ H Q I hw)
theorem L4{M:Model}{A:YZ}{E:YK->YM->Prop}{s:YM}{scope:Yd}{env:Env}{cl:List (Str×YN)}{Q:Env->YM->Prop}
 (h:Q (newEnv scope s.heap.objs.size env.globals (Yp (s.heap.objs.size+1) scope.names cl) env.qual none .none (some env) Zs) {s with heap:=A03 (s.heap.push {cls := .type "dict",data := .dict #[]}) scope.names}):
 YV M A (ZR scope env.globals cl [] env.qual none .none (some env)) Q E s:=by
 simp only[ZR,Xh,if_true];refine YL (wpAny_alloc ?_);refine YL (wpAny_layCells _ (λname kind cells=>by cases hkc:kind == NameKind.cell<;>simp[hkc]) _ _ _ _ ?_);rw[show({s with heap:=s.heap.push {cls := .type "dict",data := .dict #[]}}:YM).heap.objs.size=s.heap.objs.size+1 from W7 ..];refine YL ?_;rw[List.forIn_nil];exact YQ (YQ h)
structure CForm(prog:YT)(w:YX)(A:YZ)(E tg iter:Expr)(ifs:List Expr)(emit:YK->Env->Sem Unit)(dp:Nat:=0):Prop where
 turn:∀(it:YK) (D:YN) (env:Env),compTurn E dp it (.ref D) env=(do
  standAt iter.pos
  match <- pyNext it with
  | none=>pure (.done .next)
  | some v=>
    ZD tg it v
    assign tg env v
    let mut ok:=true
    for c in ifs do
     if ok then ok <- isTrue c env (eval c env)
    if ok then emit (.ref D) env
    again (.compLoop E dp it (.ref D) env))
 und:∀(it acc:YK) (env:Env),A.under (.compLoop E dp it acc env)=A
 den:∀(it acc:YK) (env:Env),(YS prog w).den (.compLoop E dp it acc env)=(compTurn E dp it acc env).onRaise (λx=>do noteFrame x env;theTreesLotGoes x)
 start:∀{R:Result->YM->Prop} {s:YM} {it acc:YK} {env:Env},codeAny (YS prog w) A (.compLoop E dp it acc env) R s->YV (YS prog w) A (pyIter it) (λit' s'=>codeAny (YS prog w) A (.compLoop E dp it' acc env) R s') (notedBy (YS prog w) A env λx s'=>R (.error x) s') s->
  codeAny (YS prog w) A (.compStart E dp it acc env) R s
theorem CForm.loop{prog:YT}{w:YX}{A:YZ}{E tg iter:Expr}{ifs:List Expr}{emit:YK->Env->Sem Unit}{dp:Nat}(F:CForm prog w A E tg iter ifs emit dp){R:Result->YM->Prop}{s:YM}{it:YK}{D:YN}{env:Env}(I:Nat->YM->Prop)
 (turn:∀ n s,I n s->YV (YS prog w) A (pyNext it) (λr s₁=>match r with
   | none=>R (.ok .next) s₁
   | some v=>YV (YS prog w) A (ZD tg it v) (λ_ s₁'=>YV (YS prog w) A (assign tg env v) (λ_ s₂=>
      YV (YS prog w) A (forIn ifs true λc r=>if r=true then do let ok <- isTrue c env (eval c env);pure (ForInStep.yield ok) else pure (ForInStep.yield r)) (λok s₃=>
       if ok=true then YV (YS prog w) A (emit (.ref D) env) (λ_ s₅=>∃ m,m<n/\I m s₅) (λ_ _=>False) s₃
       else ∃ m,m<n/\I m s₃) (λ_ _=>False) s₂) (λ_ _=>False) s₁') (λ_ _=>False) s₁) (λ_ _=>False) s)
 (n:Nat) (h:I n s):
 codeAny (YS prog w) A (.compLoop E dp it (.ref D) env) R s:=by
 refine codeAny_loop rfl I (λn s hI=>?_) n h;rw[F.und,F.den];refine wpAny_noted ?_;rw[F.turn];refine YL (ZM (YL (Yy (turn n s hI) (λr s₁ h₁=>?_) λ_ _ h'=>False.elim h')));cases r with
 | none=>exact YQ h₁
 | some v=>
   refine YL (Yy h₁ (λ_ s₁' h₁'=>?_) λ_ _ h'=>False.elim h');refine YL (Yy h₁' (λ_ s₂ h₂=>YL (Yy h₂ (λok s₃ h₃=>?_) λ_ _ h'=>False.elim h')) λ_ _ h'=>False.elim h');cases ok with
   | false=>exact YQ ⟨rfl,h₃⟩
   | true=>exact YL (Yy h₃ (λ_ s₅ h₅=>YQ ⟨rfl,h₅⟩) λ_ _ h'=>False.elim h')
noncomputable def RD{α:Type}(J:It)(g:TG)(tt:TT)(tem:α->St->Hp->(α->Hp->Prop)->Prop)(σ':St)(Q:Hp->Prop)(W:Nat->Nat->α->Hp->Prop):Prop:=
 ∀ i m a H,W i m a H->(J.stop i H/\Q H)\/(J.go i H/\∃ N:α->Hp->Prop,(∀ a' H',N a' H'->∃ m',m'<m/\W (i+1) m' a' H')/\∀ x H',J.yld i H x H'->g x σ' H' λσ2 H2=>tt σ2 H2 λb H3=>if b=true then tem a σ2 H3 N else N a H3)
def TZ(elt:Expr)(acc:YK)(env:Env):Sem Unit:=do
 let x <- eval elt env
 let _ <- call (.builtin "list.append") [acc,x]
theorem Gc{prog:YT}{w:YX}{A:YZ}{elt tg iter:Expr}{ifs:List Expr}{scope:Yd}{pos:Pos}:CForm prog w A (.ListComp elt [⟨tg,iter,ifs,0⟩] scope pos) tg iter ifs (TZ elt) where
 turn:=λ_ _ _=>compTurn_list ..
 und:=λ_ _ _=>rfl
 den:=λ_ _ _=>rfl
 start:=λh0 h=>codeAny_compStart_list h0 h
def Ub(te:TE)(D:YN)(ys:List V)(σ:St)(H:Hp)(N:List V->Hp->Prop):Prop:=te σ H λv H4=>H4 D=some (.lst ys)/\ys.length<YU/\N (ys++[v]) (upd H4 D (.lst (ys++[v])))
noncomputable def Pt(J:It)(g:TG)(tt:TT)(te:TE)(D:YN)(σ':St)(Q:List V->Hp->Prop)(W:Nat->Nat->List V->Hp->Prop):Prop:=
 ∀ i m ys H,W i m ys H->(J.stop i H/\Q ys H)\/(J.go i H/\∃ N:List V->Hp->Prop,(∀ ys' H',N ys' H'->∃ m',m'<m/\W (i+1) m' ys' H')/\∀ x H',J.yld i H x H'->g x σ' H' λσ2 H2=>tt σ2 H2 λb H3=>
  if b=true then te σ2 H3 λv H4=>H4 D=some (.lst ys)/\ys.length<YU/\N (ys++[v]) (upd H4 D (.lst (ys++[v]))) else N ys H3)
noncomputable def L5(wi:TI)(g:TG)(tt:TT)(te:TE)(k:Nat)(js:List Nat):TE:=λσ H Q=>wi σ H λJ H1=>∀ D,H1 D=none->
 ∃ W:Nat->Nat->List V->Hp->Prop,(∃ m,W 0 m [] (upd H1 D (.lst [])))/\Pt J g tt te D (Ay k js σ) (λ_ H=>Q (.ref D) H) W
section
variable{X:Cx}{pq:List (YN×Obj)}{σ:St}{H2:Hp}{s2:YM}{tg elt iter:Expr}{ifs:List Expr}{scope:Yd}{pos:Pos}{own cn:List Str}{js:List Nat}{g:TG}{tt:TT}{te:TE}
theorem FH{α:Type}{E:Expr}{emit:YK->Env->Sem Unit}{mk:Sem YK}{o0:Obj}{u0:HO}{a0:α}{tem:YN->α->St->Hp->(α->Hp->Prop)->Prop}(F:CForm X.prog X.w X.A E tg iter ifs emit)(hmk:∀{Q:YK->YM->Prop},Q (.ref s2.heap.objs.size) {s2 with heap:=s2.heap.push o0}->YV (YS X.prog X.w) X.A mk Q X.xe s2)(nf0:o0.isFreed=false)(new0:∀(H:Hp) (h:Heap),h.get? s2.heap.objs.size=some o0->ObjOk X.prog X.w H h s2.heap.objs.size u0)(hok:y6 X.env.scope scope own cn X.N js=true)(hc:X.calm=true)
 (hg:∀ s2 H2 cs C fp,PG (i8 X scope (own++cn) s2 H2 cs C fp) tg g) (ht:∀ s2 H2 cs C fp,Db (i8 X scope (own++cn) s2 H2 cs C fp) ifs tt) (hem:∀ D s2 H2 cs C fp pq s σ H (a:α) (N:α->Hp->Prop),Inv (i8 X scope (own++cn) s2 H2 cs C fp) pq σ H s->tem D a σ H N->YV (YS X.prog X.w) X.A (emit (.ref D) (Zb scope cs C X.env)) (λ_ s1=>∃ σ1 a1 H1,Inv (i8 X scope (own++cn) s2 H2 cs C fp) pq σ1 H1 s1/\N a1 H1) (λ_ _=>False) s)
 (I2:Inv X pq σ H2 s2) {it:YN} {fp:List YN} {tn:Nat->Heap->Prop} {J:It} (T:Turn X.prog X.w X.K tg J fp it tn) (st2:tn 0 s2.heap) (f2:∀ b∈fp,FpOk X pq H2 b)
 {Qe:Hp->Prop} (hW:∃ W:Nat->Nat->α->Hp->Prop,(∃ m,W 0 m a0 (upd H2 s2.heap.objs.size u0))/\RD J g tt (tem s2.heap.objs.size) (Ay own.length js σ) Qe W)
 {RR:YK->YN->Result->YM->Prop}
 (hRR:∀ C H' s',Inv X pq σ H' s'->FpOk X pq H' C->(∃ m,s'.heap.Ns C m)->Qe H'->RR (.ref s2.heap.objs.size) C (.ok .next) s'):
 YV (YS X.prog X.w) X.A mk (λacc s₃=>YV (YS X.prog X.w) X.A (ZR scope X.env.globals (v9 X.env scope.names []) [] X.env.qual none .none (some X.env)) (λcenv s₄=>
  codeAny (YS X.prog X.w) X.A (.compStart E 0 (.ref it) acc {cenv with scope:=relabel scope X.env}) (RR acc cenv.locals) s₄) X.xe s₃) X.xe s2:=by
 unfold y6 at hok;simp only[Uo,dQ,VC,Va,VM,decide_eq_false_iff_not]at hok;obtain⟨⟨⟨⟨⟨⟨k1,k2⟩,k3⟩,k4⟩,k5⟩,k6⟩,k7⟩:=hok
 have hfreeK:∀ x∈scope.names,x.2 = .free->X.env.kindOf x.1=some .cell\/X.env.kindOf x.1=some .free:=λx hx hf=>by
  rcases k2 x hx with(z | z) | z
  ·exact absurd hf z
  ·exact .inl z
  ·exact .inr z
 have hfree:∀ x∈scope.names,x.2 = .free->∃ c,X.env.cells.lookup x.1=some c:=λx hx hf=>I2.ok.has x.1 (hfreeK x hx hf);refine hmk (L4 ?_);have hsz3:(s2.heap.push o0).objs.size=s2.heap.objs.size+1:=W7 ..;dsimp only;generalize hh3:s2.heap.push o0=h3 at hsz3 ⊢;have old3:∀ b o,s2.heap.get? b=some o->h3.get? b=some o:=λb o e=>hh3▸Uw _ e;have hD3:h3.get? s2.heap.objs.size=some o0:=hh3▸V8 _ nf0;generalize hcs:Yp (h3.objs.size+1) scope.names (v9 X.env scope.names [])=cs;generalize hh4:A03 (h3.push {cls := .type "dict",data := .dict #[]}) scope.names=h4;have old4:∀ b o,h3.get? b=some o->h4.get? b=some o:=λb o e=>hh4▸Zi _ _ b o (Uw _ e);have old:∀ b o,s2.heap.get? b=some o->h4.get? b=some o:=λb o e=>old4 b o (old3 b o e);have hD4:h4.get? s2.heap.objs.size=some o0:=old4 _ _ hD3;have hNs:h4.Ns h3.objs.size (λ_=>none):=hh4▸(Heap.Ns.new h3 (.type "dict")).keeps (Zi _ _);generalize hC:h3.objs.size=C at hNs hcs ⊢;have hCD:@Eq Nat C (s2.heap.objs.size+1):=by rw[<-hC];exact hsz3
 have clM:=CA (env:=X.env) scope.names [] hfree (λp hp=>absurd hp (by simp));have cellLt:∀ x c,X.env.cells.lookup x=some c->@LT.lt Nat _ c s2.heap.objs.size:=λx c e=>by obtain⟨v,z⟩:=I2.cell x c e;exact z.lt
 have apart:cs.Pairwise λx y=>x.2≠y.2:=by
  rw[<-hcs];refine AF _ _ _ (B5 I2.ok.inj scope.names [] k3 hfree List.Pairwise.nil λp hp=>absurd hp (by simp)) λp hp=>?_;have:=cellLt _ _ (clM p hp);show @LT.lt Nat _ p.2 (C+1);omega
 have csM:∀ p∈cs,X.env.cells.lookup p.1=some p.2\/(C+1<=p.2/\(p.1,NameKind.cell)∈scope.names/\h4.IsCell p.2 none):=λp hp=>by
  have hp0:=hp;rw[<-hcs]at hp;rcases y9 _ _ _ p hp with z | ⟨z,y⟩
  ·exact .inl (clM p z)
  ·have e:h3.objs.size+1=(h3.push {cls := .type "dict",data := .dict #[]}).objs.size:=by rw[W7]
   have hp':=hp;rw[<-hC,e]at hp';rcases Ad _ _ _ p hp' with q | q
   ·exact .inl (clM p q)
   ·exact .inr ⟨z,y,hh4▸q⟩
 have hX:(i8 X scope (own++cn) s2 H2 cs C fp).Ok:=by
  refine⟨I2.ok.mod,k1,I2.ok.glob,I2.ok.blt,by show @LE.le Nat _ s2.heap.objs.size C;omega,λx y c h1 h2=>name_of_addr apart (PySem.mem_of_lookup h1) (PySem.mem_of_lookup h2),λx hx=>?_,λx c hf hx=>?_,I2.ok.hd,I2.ok.frames,.inl rfl,λb hb=>?_,I2.bs,VF I2.ok.bsz I2.sz,λb o e hb=>?_,λb hb hf=>?_,I2.stack,I2.stkFree⟩
  ·have hx':(relabel scope X.env).names.lookup x=some .cell\/(relabel scope X.env).names.lookup x=some .free:=hx
   have hl:scope.names.lookup x=some .cell\/scope.names.lookup x=some .free:=by
    unfold relabel at hx';dsimp only at hx';rw[w4]at hx';cases e:scope.names.lookup x with
    | none=>rw[e]at hx';simp at hx'
    | some k=>
      rw[e]at hx';cases k<;>simp_all
   have:∃ c,(x,c)∈cs:=by
    rw[<-hcs];rcases hl with hl | hl
    ·exact Ac _ _ _ x (PySem.mem_of_lookup hl)
    ·obtain⟨c,hc'⟩:=CC (env:=X.env) scope.names [] x (PySem.mem_of_lookup hl);exact⟨c,A0 _ _ _ _ hc'⟩
   obtain⟨c,hm⟩:=this;exact Bd hm
  ·have hf':scope.names.lookup x=some .cell:=by simpa using hf
   have hm:=PySem.mem_of_lookup (show cs.lookup x=some c from hx);rcases csM _ hm with z | ⟨z,_⟩
   ·
    rw[<-hcs]at hm;rcases y9 _ _ _ _ hm with q | ⟨q,_⟩
    ·rcases B4 (env:=X.env) scope.names [] _ q with q' | q'
     ·exact absurd q' (by simp)
     ·have:=j6 k3 q';have h2:scope.names.lookup x=some .free:=this;rw[hf']at h2;cases h2
    ·show @LE.le Nat _ s2.heap.objs.size c;have q2:@LE.le Nat _ (C+1) c:=q;omega
   ·show @LE.le Nat _ s2.heap.objs.size c;have z2:@LE.le Nat _ (C+1) c:=z;omega
  ·obtain⟨f0,f1,f2',f3,f4,f5⟩:=f2 b hb;obtain⟨o,ho,_⟩:=T.obj 0 _ st2 b hb;have hb2:@LT.lt Nat _ b s2.heap.objs.size:=V2 ho;refine⟨?_,λx c e=>?_⟩
   ·show @Ne Nat b C;omega
   ·rcases csM _ (PySem.mem_of_lookup (show cs.lookup x=some c from e)) with z | ⟨z,_⟩
    ·exact f4 x c z
    ·have z2:@LE.le Nat _ (C+1) c:=z;show @Ne Nat c b;omega
  ·obtain⟨f0,f1,f2',f3,f4,f5⟩:=f2 b hb;rcases f3 with z | z
   ·exact I2.ok.noex b o e z
   ·exact absurd (VI (V2 e) (VF I2.ok.bsz z)) (WH _)
  ·obtain⟨f0,f1,f2',_⟩:=f2 b hb;rcases VA.mp (I2.stkSub b hf) with z | z
   ·exact f1 z
   ·exact f2' z
 have hDn:H2 s2.heap.objs.size=none:=I2.fresh;have hCn:H2 C=none:=I2.hok.fresh (show @LE.le Nat _ s2.heap.objs.size C by omega)
 have stkNe:∀ b,b≠X.env.locals->b∉X.fs->b∉frs X.stack:=λb h1 h2 hb=>by
  rcases VA.mp (I2.stkSub b hb) with z | z
  ·exact h1 z
  ·exact h2 z
 have I4:Inv (i8 X scope (own++cn) s2 H2 cs C fp) pq (Ay own.length js σ) (upd H2 s2.heap.objs.size u0) {s2 with heap:=h4}:=by
  refine⟨hX,rfl,I2.bare,Un.laid old (Ux _) hDn,⟨λ_=>none,hNs,λi x v e1 e2 e3=>?_⟩,λx c e=>?_,?_,λx c e=>?_,λp hp=>?_,I2.hok.laid old (Ux _) (new0 _ _ hD4),?_⟩
  ·
   have hi:own.length<=i:=by
    rcases W8 i own.length with z | z
    ·exfalso;unfold Ay at e2;rw[V9 (by simpa using z),W3,iP z]at e2;cases e2
    ·exact z
   have e1':cn[i - own.length]?=some x:=by
    have:(own++cn)[i]?=some x:=e1;rw[VL hi]at this;exact this
   have e2':(js.map λj=>(σ[j]?).join)[i - own.length]?=some (some v):=by
    unfold Ay at e2;rw[VL (by simpa using hi)]at e2;simpa using e2
   rw[Uz]at e2';cases hj:js[i - own.length]? with
   | none=>rw[hj]at e2';cases e2'
   | some j=>
     rw[hj]at e2';have e2'':(σ[j]?).join=some v:=by simpa using e2'
     have hσ:σ[j]?=some (some v):=by
      cases q:σ[j]? with
      | none=>rw[q]at e2'';cases e2''
      | some z=>rw[q]at e2'';simp at e2'';rw[e2'']
     have hNx:X.N[j]?=some x:=by
      have:=congrArg (λl=>l[i - own.length]?) k7;simp only[Uz,hj,e1',WK]at this;exact oj this
     have hfx:scope.names.lookup x=some .free:=k5 x (Us e1');have hK:=hfreeK (x,.free) (PySem.mem_of_lookup hfx) rfl;have hK':X.env.kindOf x=some .cell\/X.env.kindOf x=some .free:=hK;obtain⟨m,hn,hl⟩:=I2.loc
     have hvis:Vis X.env.scope x:=by
      rcases hK' with z | z
      ·exact .inr (.inl z)
      ·exact .inr (.inr z)
     obtain⟨u,r,l⟩:=hl j x v hNx hσ hvis;refine⟨u,r,.inr ?_⟩;rcases l with⟨l1,_⟩ | ⟨l1,c,l2,l3⟩
     ·rcases hK' with z | z
      ·rw[z]at l1;cases l1
      ·rw[z]at l1;cases l1
     ·have hrl:(Zb scope cs C X.env).kindOf x=some .cell\/(Zb scope cs C X.env).kindOf x=some .free:=by
       show(relabel scope X.env).names.lookup x=_\/(relabel scope X.env).names.lookup x=_;unfold relabel;dsimp only;rw[w4,hfx];simp only[WK];split
       ·exact .inl rfl
       ·exact .inr rfl
      refine⟨hrl,c,?_,l3.keeps λb o e=>old b o e⟩;show cs.lookup x=some c;obtain⟨c',hc'⟩:=hX.has x hrl;have hc2:cs.lookup x=some c':=hc';rw[hc2];have hm:=PySem.mem_of_lookup hc2
      have:X.env.cells.lookup x=some c':=by
       rcases csM _ hm with z | ⟨_,z,_⟩
       ·exact z
       ·have:=j6 k3 z;have h2:scope.names.lookup x=some .cell:=this;rw[hfx]at h2;cases h2
      rw[l2]at this;exact this.symm
  ·rcases csM _ (PySem.mem_of_lookup (show cs.lookup x=some c from e)) with z | ⟨_,_,z⟩
   ·obtain⟨v,q⟩:=I2.cell _ _ z;exact⟨v,q.keeps λb o e=>old b o e⟩
   ·exact⟨none,z⟩
  ·show upd H2 s2.heap.objs.size u0 C=none;rw[upd_ne (show @Ne Nat C s2.heap.objs.size by omega)];exact hCn
  ·have hne:c≠s2.heap.objs.size/\H2 c=none:=by
    rcases csM _ (PySem.mem_of_lookup (show cs.lookup x=some c from e)) with z | ⟨z,_,_⟩
    ·exact⟨V4 (cellLt _ _ z),I2.freeC _ _ z⟩
    ·have z2:@LE.le Nat _ (C+1) c:=z;exact⟨show @Ne Nat c s2.heap.objs.size by omega,I2.hok.fresh (show @LE.le Nat _ s2.heap.objs.size c by omega)⟩
   rw[upd_ne hne.1];exact hne.2
  ·obtain⟨e,n,ne,nf,d⟩:=I2.pin p hp;have hlt:@LT.lt Nat _ p.1 s2.heap.objs.size:=V2 e;refine⟨old _ _ e,?_,?_,stkNe _ ne nf,d⟩
   ·rw[upd_ne (V4 hlt)];exact n
   ·show @Ne Nat p.1 C;omega
  ·show(Ay own.length js σ).length=(own++cn).length;unfold Ay;have hl:=congrArg XZ k7;simp only[Ur]at hl;simp[hl]
 have stat:∀{H':Hp},(∀ b∈fp,H' b=none)->∀ b∈fp,FpOk (i8 X scope (own++cn) s2 H2 cs C fp) pq H' b:=λhn b hb=>by
  obtain⟨f0,f1,f2',f3,f4,f5⟩:=f2 b hb;exact⟨hn b hb,(hX.exf b hb).1,stkNe b f1 f2',.inl hb,λx c e=>(hX.exf b hb).2 x c e,f5⟩
 have back:∀{σ':St} {H':Hp} {s':YM},Inv (i8 X scope (own++cn) s2 H2 cs C fp) pq σ' H' s'->Inv X pq σ H' s':=λ{σ' H' s'} J'=>
  I2.call' (ch:=fp) J'.os J'.base J'.hok J'.bare λb hb=>by
   obtain⟨f0,f1,f2',f3,f4,f5⟩:=f2 b hb;exact⟨f3,f1,f4,f5⟩
 obtain⟨W,⟨m0,w0⟩,turn⟩:=hW
 have loop:codeAny (YS X.prog X.w) X.A (.compLoop E 0 (.ref it) (.ref s2.heap.objs.size) (Zb scope cs C X.env)) (RR (.ref s2.heap.objs.size) C) {s2 with heap:=h4}:=by
  refine F.loop (λn s'=>∃ i ys H',Inv (i8 X scope (own++cn) s2 H2 cs C fp) pq (Ay own.length js σ) H' s'/\tn i s'.heap/\(∀ b∈fp,H' b=none)/\W i n ys H') ?_ m0
   ⟨0,a0,_,I4,T.keep _ _ _ st2 λb hb o e=>old b o e,λb hb=>?_,w0⟩
  ·rintro n s3 ⟨i,ys,H3,I3,st3,fr3,w3⟩;rcases turn i n ys H3 w3 with⟨stop,q⟩ | ⟨go,N,hN,step⟩
   ·refine thn (T.done (i8 X scope (own++cn) s2 H2 cs C fp) rfl rfl rfl hc i pq s3 _ H3 _ I3 (stat fr3) st3 stop) λr s4 ⟨hr,I5⟩=>?_;subst hr;obtain⟨m,hn,_⟩:=I5.loc;exact hRR C H3 s4 (back I5) (I2.fpOk (show @LE.le Nat _ s2.heap.objs.size C by omega) I5.free) ⟨m,hn⟩ q
   ·refine thn (T.item (i8 X scope (own++cn) s2 H2 cs C fp) rfl rfl rfl hc i pq s3 _ H3 _ I3 (stat fr3) st3 go) λr s4 ⟨u,hr,h4'⟩=>?_;subst hr;refine thn h4' λ_ s5 ⟨x,H5,I5,r5,y5,st5,fr5⟩=>?_;have I5':=I5.pinned (stat fr5) (T.obj _ _ st5);refine thn (hg s2 H2 cs C fp _ s5 _ H5 x u _ I5' r5 (step x H5 y5)) λ_ s6 ⟨σ6,H6,I6,q6⟩=>?_;refine thn (ht s2 H2 cs C fp _ s6 σ6 H6 _ I6 q6) λb s7 ⟨H7,I7,q7⟩=>?_
    have again:∀{σ8:St} {H8:Hp} {s8:YM} {ys8:α},Inv (i8 X scope (own++cn) s2 H2 cs C fp) (pq++Bf fp s5.heap) σ8 H8 s8->(∀(j:Nat) v,(Ay own.length js σ)[j]?=some (some v)->σ8[j]?=some (some v))->(∃ m',m'<n/\W (i+1) m' ys8 H8)->
     ∃ m,m<n/\∃ i ys H',Inv (i8 X scope (own++cn) s2 H2 cs C fp) pq (Ay own.length js σ) H' s8/\tn i s8.heap/\(∀ b∈fp,H' b=none)/\W i m ys H':=λ{σ8 H8 s8 ys8} I8 hw8 ⟨m',hm,w8⟩=>by
     refine⟨m',hm,i+1,ys8,H8,I8.unpinned.weak (by rw[I8.len,I4.len]) hw8,T.keep _ _ _ st5 λb hb o e=>(I8.pin (b,o) (VX _ (VX _ (At hb e)))).1,λb hb=>?_,w8⟩;obtain⟨o,e,d⟩:=T.obj _ _ st5 b hb;exact(I8.pin (b,o) (VX _ (VX _ (At hb e)))).2.1
    have capK:∀{σ8:St} {H8:Hp} {s8:YM},Inv (i8 X scope (own++cn) s2 H2 cs C fp) (pq++Bf fp s5.heap) σ8 H8 s8->Inv (i8 X scope (own++cn) s2 H2 cs C fp) (pq++Bf fp s5.heap) (Ay own.length js σ) H8 s8:=λ{σ8 H8 s8} I8=>by
     have IX:=back I8.unpinned;refine⟨I8.ok,I8.os,I8.bare,I8.base,?_,I8.cell,I8.free,I8.freeC,I8.pin,I8.hok,I4.len⟩;obtain⟨m,hn,_⟩:=I8.loc;refine⟨m,hn,λi x v e1 e2 e3=>?_⟩;obtain⟨mx,hnx,hlx⟩:=IX.loc
     have hi:own.length<=i:=by
      rcases W8 i own.length with z | z
      ·exfalso;unfold Ay at e2;rw[V9 (by simpa using z),W3,iP z]at e2;cases e2
      ·exact z
     have e1':cn[i - own.length]?=some x:=by
      have:(own++cn)[i]?=some x:=e1;rw[VL hi]at this;exact this
     have e2':(js.map λj=>(σ[j]?).join)[i - own.length]?=some (some v):=by
      unfold Ay at e2;rw[VL (by simpa using hi)]at e2;simpa using e2
     rw[Uz]at e2';cases hj:js[i - own.length]? with
     | none=>rw[hj]at e2';cases e2'
     | some j=>
       rw[hj]at e2';have e2'':(σ[j]?).join=some v:=by simpa using e2'
       have hσ:σ[j]?=some (some v):=by
        cases q:σ[j]? with
        | none=>rw[q]at e2'';cases e2''
        | some z=>rw[q]at e2'';simp at e2'';rw[e2'']
       have hNx:X.N[j]?=some x:=by
        have:=congrArg (λl=>l[i - own.length]?) k7;simp only[Uz,hj,e1',WK]at this;exact oj this
       have hfx:scope.names.lookup x=some .free:=k5 x (Us e1');have hK':X.env.kindOf x=some .cell\/X.env.kindOf x=some .free:=hfreeK (x,.free) (PySem.mem_of_lookup hfx) rfl
       have hvis:Vis X.env.scope x:=by
        rcases hK' with z | z
        ·exact .inr (.inl z)
        ·exact .inr (.inr z)
       obtain⟨u,r,l⟩:=hlx j x v hNx hσ hvis;refine⟨u,r,.inr ?_⟩;rcases l with⟨l1,_⟩ | ⟨l1,c,l2,l3⟩
       ·rcases hK' with z | z
        ·rw[z]at l1;cases l1
        ·rw[z]at l1;cases l1
       ·have hrl:(Zb scope cs C X.env).kindOf x=some .cell\/(Zb scope cs C X.env).kindOf x=some .free:=by
         show(relabel scope X.env).names.lookup x=_\/(relabel scope X.env).names.lookup x=_;unfold relabel;dsimp only;rw[w4,hfx];simp only[WK];split
         ·exact .inl rfl
         ·exact .inr rfl
        refine⟨hrl,c,?_,l3⟩;show cs.lookup x=some c;obtain⟨c',hc'⟩:=hX.has x hrl;have hc2:cs.lookup x=some c':=hc';rw[hc2];have hm:=PySem.mem_of_lookup hc2
        have:X.env.cells.lookup x=some c':=by
         rcases csM _ hm with z | ⟨_,z,_⟩
         ·exact z
         ·have:=j6 k3 z;have h2:scope.names.lookup x=some .cell:=this;rw[hfx]at h2;cases h2
        rw[l2]at this;exact this.symm
    cases b with
    | false=>
      rw[iG V0];rw[iG V0]at q7;exact again (capK I7) (λ_ _ e=>e) (hN _ _ q7)
    | true=>
      rw[iP rfl];rw[iP rfl]at q7;exact thn (hem _ s2 H2 cs C fp _ s7 σ6 H7 _ _ I7 q7) λ_ s9 ⟨σ9,a9,H9,I9,q9⟩=>again (capK I9) (λ_ _ e=>e) (hN _ _ q9)
  ·obtain⟨f0,_⟩:=f2 b hb;obtain⟨o,ho,_⟩:=T.obj 0 _ st2 b hb;rw[upd_ne (V4 (V2 ho))];exact f0
 exact F.start loop (T.self _ 0 _ _ _ (T.keep _ _ _ st2 λb hb o e=>old b o e) loop)
theorem Cy(hok:y6 X.env.scope scope own cn X.N js=true)(hc:X.calm=true)
 (hg:∀ s2 H2 cs C fp,PG (i8 X scope (own++cn) s2 H2 cs C fp) tg g) (ht:∀ s2 H2 cs C fp,Db (i8 X scope (own++cn) s2 H2 cs C fp) ifs tt) (he:∀ s2 H2 cs C fp,PE (i8 X scope (own++cn) s2 H2 cs C fp) elt te)
 (I2:Inv X pq σ H2 s2) {it:YN} {fp:List YN} {tn:Nat->Heap->Prop} {J:It} (T:Turn X.prog X.w X.K tg J fp it tn) (st2:tn 0 s2.heap) (f2:∀ b∈fp,FpOk X pq H2 b)
 {Qe:Hp->Prop} (hW:∃ W:Nat->Nat->List V->Hp->Prop,(∃ m,W 0 m [] (upd H2 s2.heap.objs.size (.lst [])))/\Pt J g tt te s2.heap.objs.size (Ay own.length js σ) (λ_ H=>Qe H) W)
 {RR:YK->YN->Result->YM->Prop}
 (hRR:∀ C H' s',Inv X pq σ H' s'->FpOk X pq H' C->(∃ m,s'.heap.Ns C m)->Qe H'->RR (.ref s2.heap.objs.size) C (.ok .next) s'):
 YV (YS X.prog X.w) X.A (newList []) (λacc s₃=>YV (YS X.prog X.w) X.A (ZR scope X.env.globals (v9 X.env scope.names []) [] X.env.qual none .none (some X.env)) (λcenv s₄=>
  codeAny (YS X.prog X.w) X.A (.compStart (.ListComp elt [⟨tg,iter,ifs,0⟩] scope pos) 0 (.ref it) acc {cenv with scope:=relabel scope X.env}) (RR acc cenv.locals) s₄) X.xe s₃) X.xe s2:=by
 obtain⟨W,w0,hw⟩:=hW;refine FH (RR:=RR) (a0:=[]) (o0:={cls := .type "list",dict:=none,data := .seq ([]:List YK).toArray}) (u0 := .lst []) (tem:=Ub te) Gc (λhq=>Yg hq) rfl (λ_ _ hD=>⟨Ww _,[],0,.nil,hD⟩) hok hc hg ht (λD s2 H2 cs C fp pq s σ H ys N I h=>?_) I2 T st2 f2 ⟨W,w0,hw⟩ hRR;refine YL (thn (he s2 H2 cs C fp _ s σ H _ I h) λy s8 ⟨v,H8,I8,r8,hD8,hz8,q8⟩=>?_);refine YL (thn (C9 (X:=i8 X scope (own++cn) s2 H2 cs C fp) _ s8 σ H8 (.ref D) [v] (.ref D) [y] (λ_ H9=>H9=upd H8 D (.lst (ys++[v]))) I8 rfl (.cons r8 .nil) ⟨_,ys,v,rfl,rfl,hD8,hz8,rfl⟩) λ_ s9 ⟨z,H9,I9,r9,e9⟩=>?_);subst e9;exact YQ ⟨_,_,_,I9,q8⟩
theorem No{wi:TI}(own cn:List Str)(js:List Nat)(hi:PI X tg iter wi)(hg:∀ s2 H2 cs C fp,PG (i8 X scope (own++cn) s2 H2 cs C fp) tg g)(ht:∀ s2 H2 cs C fp,Db (i8 X scope (own++cn) s2 H2 cs C fp) ifs tt)
 (he:∀ s2 H2 cs C fp,PE (i8 X scope (own++cn) s2 H2 cs C fp) elt te) (hc:X.calm=true:=by rfl) (hok:y6 X.env.scope scope own cn X.N js=true:=by kernel_rfl)
 (hs:∀ x,ZJ iter X.env x=pure x:=by intro _;rfl):PE X (.ListComp elt [⟨tg,iter,ifs,0⟩] scope pos) (L5 wi g tt te own.length js):=by
 intro pq s σ H Q I h;have hok':=hok;unfold y6 at hok';simp only[Uo,dQ,VC,Va,VM,decide_eq_false_iff_not]at hok';obtain⟨⟨⟨⟨⟨⟨k1,k2⟩,k3⟩,k4⟩,k5⟩,k6⟩,k7⟩:=hok'
 have hfree:∀ x∈scope.names,x.2 = .free->∃ c,X.env.cells.lookup x.1=some c:=λx hx hf=>I.ok.has x.1 (by
  rcases k2 x hx with(z | z) | z
  ·exact absurd hf z
  ·exact .inl z
  ·exact .inr z)
 rw[eval_ListComp];refine ZX (use:=none) rfl hs (Aj hfree) k1 (λx hx hl=>?_) (thn (hi pq s σ H _ I h) λv s1 h1=>thn h1 λitv s2 h2=>?_)
 ·have:=j6 k3 (show(x.1,x.2)∈scope.names from hx);rw[this,hl]
 ·obtain⟨it,fp,tn,J,H2,e,I2,T,st2,f2,q⟩:=h2;subst e;refine Cy (RR:=λacc C=>compPost (YS X.prog X.w) X.A X.xe none (EP X pq σ Q) acc C) hok hc hg ht he I2 T st2 f2 (q _ I2.fresh) ?_;intro C H' s' I' fC ⟨m,hn⟩ q';obtain⟨f0,f1,f2',f3,f4,f5⟩:=fC;refine⟨m,hn,λh' hs'=>⟨.ref s2.heap.objs.size,H',?_,rfl,q'⟩⟩;exact I'.turned (t':=s'.toks) (λb o hb e=>(hs'.2 b hb).trans e) f0 f1 f3 f4 f5
theorem Ge{wi:TI}{i:Nat}{x:Str}{px spos:Pos}(own cn:List Str)(js:List Nat)(hN:X.N.Nodup)(hix:X.N[i]?=some x)(hx:X.env.scope.names.lookup x=some .local)(hi:PI X tg iter wi)
 (hg:∀ s2 H2 cs C fp,PG (i8 X scope (own++cn) s2 H2 cs C fp) tg g) (ht:∀ s2 H2 cs C fp,Db (i8 X scope (own++cn) s2 H2 cs C fp) ifs tt)
 (he:∀ s2 H2 cs C fp,PE (i8 X scope (own++cn) s2 H2 cs C fp) elt te) (hc:X.calm=true:=by rfl) (hok:y6 X.env.scope scope own cn X.N js=true:=by kernel_rfl)
 (hsw:Z9 (.ListComp elt [⟨tg,iter,ifs,0⟩] scope pos) (some (.Name x px)) spos.line X.env=pure true:=by rfl)
 (hs:∀ x,ZJ iter X.env x=pure x:=by intro _;rfl):PS X (.Assign [.Name x px] (.ListComp elt [⟨tg,iter,ifs,0⟩] scope pos) spos) (JE (L5 wi g tt te own.length js) (Hm i)):=by
 intro pq s σ H D I h;have hok':=hok;unfold y6 at hok';simp only[Uo,dQ,VC,Va,VM,decide_eq_false_iff_not]at hok';obtain⟨⟨⟨⟨⟨⟨k1,k2⟩,k3⟩,k4⟩,k5⟩,k6⟩,k7⟩:=hok'
 have hfree:∀ x∈scope.names,x.2 = .free->∃ c,X.env.cells.lookup x.1=some c:=λx hx hf=>I.ok.has x.1 (by
  rcases k2 x hx with(z | z) | z
  ·exact absurd hf z
  ·exact .inl z
  ·exact .inr z)
 rw[exec_Assign_Name_used _ _ _ _ hsw];refine YL (ZM (YL ?_));show YV _ X.A (do let _ <- comprehension (.ListComp elt [⟨tg,iter,ifs,0⟩] scope pos) scope X.env _ (newList []) false (eval iter X.env) (some (assign (.Name x px) X.env))) _ _ s
 refine YL (Yy (ZX (use:=some (assign (.Name x px) X.env)) (Q:=λ_ s'=>SP X pq D .next s') rfl hs (Aj hfree) k1 (λx hx hl=>?_)
  (thn (hi pq s σ H _ I h) λv s1 h1=>thn h1 λitv s2 h2=>?_)) (λ_ s' hq=>YQ (YQ hq)) λ_ _ e=>e)
 ·have:=j6 k3 (show(x.1,x.2)∈scope.names from hx);rw[this,hl]
 ·obtain⟨it,fp,tn,J,H2,e,I2,T,st2,f2,q⟩:=h2;subst e;refine Cy (RR:=λacc C=>compPost (YS X.prog X.w) X.A X.xe (some (assign (.Name x px) X.env)) (λ_ s'=>SP X pq D .next s') acc C) hok hc hg ht he I2 T st2 f2 (q _ I2.fresh) ?_;intro C H' s' I' fC ⟨m,hn⟩ q';obtain⟨f0,f1,f2',f3,f4,f5⟩:=fC;show YV _ X.A (assign (.Name x px) X.env (.ref s2.heap.objs.size)) _ _ _;refine Zu (Do I' hN hix (.inl hx) (v := .ref s2.heap.objs.size) rfl (λs3 I3 hch=>?_) (.inr hx));obtain⟨a,hsb,ha⟩:=hch
  have hCa:C≠a:=by
   rcases ha with z | z
   ·rw[z];exact f1
   ·exact λe=>f4 x a z e.symm
  refine⟨m,hn.sameBut hsb hCa,λh' hs'=>?_⟩;exact⟨_,H',I3.turned (t':=s3.toks) (λb o hb e=>(hs'.2 b hb).trans e) f0 f1 f3 f4 f5,q'⟩
end
end L2
namespace PySem
open AutoSeq1 (wpAny_loadPart')
section
variable{prog:YT}{w:YX}{A:YZ}{E:YK->YM->Prop}{s:YM}
theorem Az{it l:YN}{i:Nat}{items}{x:YK}{Q:YK->YM->Prop}(hit:s.heap.IsTupleIter it l i)
 (hl:s.heap.IsTuple l items) (hx:items[i]?=some x)
 (hQ:∀ h',h'.IsTupleIter it l (i+1)->WJ it s.heap h'->Q x {s with heap:=h'}):
 YV (YS prog w) A (Builtin.SmallTypes.nextOf (.ref it)) Q E s:=by
 obtain⟨o,ho,hc,hd⟩:=id hit;obtain⟨ol,hol,_,nl,hdl⟩:=hl;unfold Builtin.SmallTypes.nextOf
 refine YL (Z0 (name:=Str.ofString "__next__") hit.typeIs F.slot_tuple_iterator_next
  (ZA F.slot_tuple_iterator_next hit.typeIs F.entry_tuple_iterator_next ?_ (F.args_tuple_iterator_next_1 _)))
 show YV _ _ (field (.ref it) 0 >>= _) _ _ s;refine YL (ZH ho hd (x := .ref l) rfl ?_);show YV _ _ (if (Value.ref l == Value.none)=true then _ else _) _ _ s;rw[iG (show ¬ ((Value.ref l == Value.none)=true) from V0)];show YV _ _ (field (.ref it) 1 >>= _) _ _ s;refine YL (ZH ho hd (x := .int i 0) rfl ?_);show YV _ _ (ZL (.ref l) >>= _) _ _ s;refine YL (Yu hol hdl ?_);simp only[W6,hx];refine YL (A0g ho hd (by simp) (YQ ⟨x,rfl,YQ (hQ _ ?_ (WJ.update ..))⟩))
 exact⟨_,Vw _ ho (Obj.isFreed_of_fields (Obj.data_mapFields hd _)),(Obj.cls_mapFields ..).trans hc,by
  rw[Obj.data_mapFields hd];simp[rawInt]⟩
theorem B6{it l:YN}{i:Nat}{items}{Q:YK->YM->Prop}(hh:A.handled=none)
 (hit:s.heap.IsTupleIter it l i) (hl:s.heap.IsTuple l items) (hx:items[i]?=none)
 (hE:∀ h' e,Heap.ExtBut it s.heap h'->(∃ o,h'.get? e=some o/\o.cls = .type "StopIteration")->E (.ref e) {s with heap:=h'}):
 YV (YS prog w) A (Builtin.SmallTypes.nextOf (.ref it)) Q E s:=by
 obtain⟨o,ho,hc,hd⟩:=id hit;obtain⟨ol,hol,_,nl,hdl⟩:=hl;unfold Builtin.SmallTypes.nextOf
 refine YL (Z0 (name:=Str.ofString "__next__") hit.typeIs F.slot_tuple_iterator_next
  (ZA F.slot_tuple_iterator_next hit.typeIs F.entry_tuple_iterator_next ?_ (F.args_tuple_iterator_next_1 _)))
 show YV _ _ (field (.ref it) 0 >>= _) _ _ s;refine YL (ZH ho hd (x := .ref l) rfl ?_);show YV _ _ (if (Value.ref l == Value.none)=true then _ else _) _ _ s;rw[iG (show ¬ ((Value.ref l == Value.none)=true) from V0)];show YV _ _ (field (.ref it) 1 >>= _) _ _ s;refine YL (ZH ho hd (x := .int i 0) rfl ?_);show YV _ _ (ZL (.ref l) >>= _) _ _ s;refine YL (Yu hol hdl ?_);simp only[W6,hx];refine YL (Yn (YL (A0g ho hd (by simp) ?_)))
 first
  | refine YL (Z3 ?_)
  | skip
 show YV _ _ (newExc (.type "StopIteration") [] >>= _) _ _ _;refine YL ?_;simp only[newExc,newTuple];refine YL (Yg ?_ (by size_fits));refine YL (m:=A0h _ _) (A07 (a:=Value.none) (by first | rfl | (simp only[A0h];rfl)) ?_);refine Yg ?_ (by size_fits);simp only[raiseNew];refine YL (wpAny_handled ?_)
 first | rw[show A.in1.handled=none from hh] | rw[hh]
 refine YL (YQ (wpAny_throw ?_));exact hE _ _ (((WJ.update ..).extBut.push _).push _) ⟨_,V8 _ rfl,rfl⟩
end
theorem Aw{prog:YT}{w:YX}{A:YZ}(hh:A.handled=none)(it l:YN)(hne:l≠it)(items:Array YK):
 Draws prog w A it [it,l] items.size (λi v=>items[i]?=some v) (λi h=>h.IsTupleIter it l i/\h.IsTuple l items) where
 live:=λ_ _ st=>let ⟨o,ho,_⟩:=st.1;⟨o,ho⟩
 frame:=λ_ _ _ st hk=>⟨st.1.at λo e=>hk it (by simp) o e,let ⟨o,ho,r⟩:=st.2;⟨o,hk l (by simp) o ho,r⟩⟩
 item:=λi s Q E hi st hQ=>by
  refine Az st.1 st.2 (x:=items[i]) (by simp[hi]) λh' hit' hs'=>?_;exact hQ _ h' s.toks (by simp[hi]) ⟨hit',st.2.extBut hs'.extBut hne⟩ hs'
 done:=λs Q E st hE=>B6 hh st.1 st.2 (by simp) hE
theorem Bi(l:YN)(items:Array YK)(n:Nat)(dct:Option YN)(sl:Array (Option YK)):
 Meets (Builtin.«enumerate.__new__» ⟨[.type "enumerate",.ref l],[]⟩) (λ_ R s=>s.heap.get? l=some {cls := .type "tuple",dict:=dct,data := .seq items n,slots:=sl}/\
  R (.ok (.ret (.ref (s.heap.push {cls := .type "tuple_iterator",data := .fields #[.ref l,.int 0 0]}).objs.size)))
   {s with heap:=(s.heap.push {cls := .type "tuple_iterator",data := .fields #[.ref l,.int 0 0]}).push {cls := .type "enumerate",data := .fields #[.none,.bool false,.ref s.heap.objs.size,rawInt 0,.none,.none]}}):=
 .of_wp λprog w A R s h=>by
  obtain⟨hp,g,d,tk,os⟩:=s;obtain⟨hl,h⟩:=h;have hsub:=sub_enumerate;have hL:Heap.IsTuple (Shared.heap ⟨hp,g,d,tk,os⟩) l items:=⟨_,hl,rfl,n,rfl⟩
  wp_walk using wpAny_loadPart' hl
  refine wpAny_stack_any λst=>YQ ?_;split
  ·rename_i c _ _ _ _ _;cases(c == Value.type "enumerate")
   ·wp_walk using wpAny_loadPart' hl,ZG hL
    exact⟨_,rfl,h⟩
   ·wp_walk using wpAny_loadPart' hl,ZG hL
    exact⟨_,rfl,h⟩
  ·wp_walk using wpAny_loadPart' hl,ZG hL
   exact⟨_,rfl,h⟩
section
variable{prog:YT}{w:YX}{A:YZ}{E:YK->YM->Prop}{s:YM}
theorem Ae{l:YN}{items:Array YK}{Q:YK->YM->Prop}(hL:s.heap.IsTuple l items)
 (h:∀ h',IsEnum h' (s.heap.objs.size+1) s.heap.objs.size 0 .none->h'.IsTupleIter s.heap.objs.size l 0->h'.objs.size=s.heap.objs.size+2->
   (∀ b o,s.heap.get? b=some o->h'.get? b=some o)->Q (.ref (s.heap.objs.size+1)) {s with heap:=h'}):
 YV (YS prog w) A (call (.type "enumerate") [.ref l]) Q E s:=by
 obtain⟨⟨c,dct,dt,sl⟩,hl,hc,n,hd⟩:=hL;replace hc:c = .type "tuple":=hc;replace hd:dt = .seq items n:=hd;subst hc hd
 refine callType_new F.called_enumerate (by decide) (F.typeCall_enumerate_1 _) (F.newCall_enumerate_1 _) (λobj=>F.args_object_init_2 obj _) F.entry_enumerate_new
  (Bi l items n dct sl) ⟨hl,?_⟩
 have hz:(s.heap.push {cls := .type "tuple_iterator",data := .fields #[.ref l,.int 0 0]}).objs.size=s.heap.objs.size+1:=W7 ..;show _/\_;rw[hz]
 have he:IsEnum ((s.heap.push {cls := .type "tuple_iterator",data := .fields #[.ref l,.int 0 0]}).push
  {cls := .type "enumerate",data := .fields #[.none,.bool false,.ref s.heap.objs.size,rawInt 0,.none,.none]}) (s.heap.objs.size+1) s.heap.objs.size 0 .none:=by
  have:=V8 (s.heap.push {cls := .type "tuple_iterator",data := .fields #[.ref l,.int 0 0]})
   (o:={cls := .type "enumerate",data := .fields #[.none,.bool false,.ref s.heap.objs.size,rawInt 0,.none,.none]}) rfl
  rw[hz]at this;exact this
 refine⟨⟨_,he,rfl⟩,h _ he ⟨_,Uw _ (V8 _ rfl),rfl,rfl⟩ (by rw[W7,hz]) λb o x=>Uw _ (Uw _ x)⟩
end
end PySem
namespace L2
open PySem PySem.Spec PyProof.Rows
section
variable{X:Cx}{pq:List (YN×Obj)}{σ:St}{H:Hp}{s:YM}{h':Heap}
theorem Inv.turnedL{t':Nat}{ch:List YN}(I:Inv X pq σ H s)(k:∀ b o,b∉ch->s.heap.get? b=some o->h'.get? b=some o)(hf:∀ b∈ch,FpOk X pq H b):Inv X pq σ H {s with heap:=h',toks:=t'}:=by
 have nit:∀ b u,H b=some u->b∉ch:=λb u e z=>by rw[(hf b z).1]at e;cases e
 refine I.step (g':=s.gens) (d':=s.drawn) (ch:=ch) (λb hb=>?_) (λb o _ _ hc e _=>k b o hc e) (λb o _ _ hc e _=>⟨o.slots,k b o hc e⟩) (λ_ _ _ _ n=>n)
  (λb o hc e=>⟨o,k b o hc e⟩) (λ_ _ e=>e) (λ_ _ _ e=>e) (λb ps e=>⟨#[],by rw[e];simp⟩) (λm hm=>?_) (λb u e=>?_) I.bare
 ·obtain⟨f0,f1,f2,f3,f4,f5⟩:=hf b hb;exact⟨f3,f1,f4,f5⟩
 ·obtain⟨o,es,ep,ho,r⟩:=hm;exact⟨o,es,ep,k _ o (λz=>(hf _ z).2.1 rfl) ho,r⟩
 ·refine(I.hok b u e).stay (λc v hc q=>k c v ?_ q) (λ_ q=>q) λ_ _ q=>q;rcases hc with z | z
  ·rw[z];exact nit b u e
  ·exact nit c _ z
theorem Inv.turnLay{t':Nat}{ch:List YN}{o:HO}(I:Inv X pq σ H s)(k:∀ b u,b∉ch->s.heap.get? b=some u->h'.get? b=some u)(hf:∀ b∈ch,FpOk X pq H b)
 (new:ObjOk X.prog X.w (upd H s.heap.objs.size o) h' s.heap.objs.size o):Inv X pq σ (upd H s.heap.objs.size o) {s with heap:=h',toks:=t'}:=by
 have hT:H s.heap.objs.size=none:=I.fresh;have nit:∀ b u,H b=some u->b∉ch:=λb u e z=>by rw[(hf b z).1]at e;cases e
 have lt:∀ b u,s.heap.get? b=some u->b≠s.heap.objs.size:=λb u e=>V4 (V2 e)
 refine I.step (g':=s.gens) (d':=s.drawn) (ch:=ch) (λb hb=>?_) (λb o _ _ hc e _=>k b o hc e) (λb o _ _ hc e _=>⟨o.slots,k b o hc e⟩) (λb u _ e n=>by rw[upd_ne (lt b u e)];exact n)
  (λb o hc e=>⟨o,k b o hc e⟩) (λb xs e=>by rw[upd_ne (g7 e hT)];exact e) (λb u xs e=>by rw[upd_ne (g7 e hT)];exact e) (λb ps e=>⟨#[],by rw[upd_ne (g7 e hT),e];simp⟩) (λm hm=>?_) (λb u e=>?_) I.bare
 ·obtain⟨f0,f1,f2,f3,f4,f5⟩:=hf b hb;exact⟨f3,f1,f4,f5⟩
 ·obtain⟨o,es,ep,ho,r⟩:=hm;exact⟨o,es,ep,k _ o (λz=>(hf _ z).2.1 rfl) ho,r⟩
 ·by_cases hb:b=s.heap.objs.size
  ·subst hb;rw[n6]at e;cases e;exact new
  ·rw[upd_ne hb]at e;refine(I.hok b u e).stay (λc v hc q=>k c v ?_ q) (λc q=>by rw[upd_ne (g7 q hT)];exact q) λc xs q=>by rw[upd_ne (g7 q hT)];exact q
   rcases hc with z | z
   ·rw[z];exact nit b u e
   ·exact nit c _ z
end
def RE(K:Um)(a:YN):It:=
 ⟨λi H=>∃ xs x,SqL K H a xs/\xs[i]?=some x,λi H x H'=>∃ p v,H p=none/\x = .ref p/\(∀ xs,SqL K H a xs->xs[i]?=some v)/\H'=upd H p (.tup [.int i,v]),λi H=>∃ xs,SqL K H a xs/\xs.length=i⟩
def RF(K:Um)(a:YN):It:=
 ⟨λi H=>∃ xs x,SqT K H a xs/\xs[i]?=some x,λi H x H'=>∃ p v,H p=none/\x = .ref p/\(∀ xs,SqT K H a xs->xs[i]?=some v)/\H'=upd H p (.tup [.int i,v]),λi H=>∃ xs,SqT K H a xs/\xs.length=i⟩
theorem L6:2<=YU:=by decide
theorem Gf{P:YT}{w:YX}{K:Um}{elts:List Expr}{kx:Nat}{tp:Pos}(a e it:YN)(hei:e≠it)(hae:a≠e)(hai:a≠it):Turn P w K (.Tuple elts kx tp) (RE K a) [e,it] e (λi h=>(∃ old,IsEnum h e it i old)/\h.IsListIter it a i) where
 mem:=by simp
 obj:=λi h st b hb=>by
  rcases VA.mp hb with rfl | hb
  ·obtain⟨⟨old,z⟩,_⟩:=st;exact⟨_,z,λv q=>by cases q⟩
  ·have e':b=it:=by simpa using hb
   subst e';obtain⟨o,q,c,d⟩:=st.2;exact⟨o,q,λv z=>by rw[d]at z;cases z⟩
 keep:=λi h h' st k=>⟨let ⟨old,z⟩:=st.1;⟨old,k e (by simp) _ z⟩,st.2.at λo q=>k it (by simp) o q⟩
 item:=by
  intro X hP hw hK hc i pq s σ H E I hf st hg;subst hP hw hK;obtain⟨xs,x,hq,hx⟩:=hg;obtain⟨its,rv,p,hz⟩:=I.list hq;obtain⟨u,hu,ru⟩:=rv.get hx;obtain⟨⟨old,he⟩,hli⟩:=st
  have hil:i<its.toArray.size:=by
   have:=(gM hu).1;simpa using this
  refine Zc (Draws.list (prog:=X.prog) (w:=X.w) (A:=X.A.in1) (show X.A.in1.handled=none from I.ok.hd hc) it a hai its.toArray) he ⟨hli,p.isList⟩ hil hei (by simp[hei,Ne.symm hae]) λy h' tk hy ho hs' hT hsz hk=>?_
  have hyu:y=u:=by
   have:its.toArray[i]?=some u:=by simpa using hu
   rw[this]at hy;exact(oj hy).symm
  subst hyu;refine⟨_,rfl,?_⟩
  have I1:Inv X pq σ (upd H s.heap.objs.size (.tup [.int i,x])) {s with heap:=h',toks:=tk+1}:=
   I.turnLay (ch:=[e,it]) (λb o hb q=>hk b o (λz=>hb (by simp[z])) (λz=>hb (by simp[z])) q) hf ⟨L6,[.int i tk,y],.cons ⟨tk,rfl⟩ (.cons ru .nil),⟨_,hT,rfl,_,rfl⟩⟩
  refine ZS ho λh2 he2 hs2=>?_
  have hfp1:∀ b∈[e,it],FpOk X pq (upd H s.heap.objs.size (.tup [.int i,x])) b:=λb hb=>by
   obtain⟨f0,f1⟩:=hf b hb
   have hbl:b≠s.heap.objs.size:=by
    rcases VA.mp hb with rfl | hb
    ·exact V4 (V2 he)
    ·have e':b=it:=by simpa using hb
     subst e';obtain⟨o,q,_⟩:=hli;exact V4 (V2 q)
   exact⟨by rw[upd_ne hbl];exact f0,f1⟩
  have I2:Inv X pq σ (upd H s.heap.objs.size (.tup [.int i,x])) {s with heap:=h2,toks:=tk+1}:=
   Inv.turnedL (s:={s with heap:=h',toks:=tk+1}) (t':=tk+1) (ch:=[e,it]) I1 (λb o hb q=>(hs2.2 b (λz=>hb (by simp[z]))).trans q) hfp1
  refine⟨.ref s.heap.objs.size,_,I2,rfl,⟨_,x,I.fresh,rfl,λys hy=>by rw[I.list_inj hy hq];exact hx,rfl⟩,⟨⟨y,by simpa using he2⟩,hs'.1.extBut hs2.extBut (Ne.symm hei)⟩,λb hb=>(hfp1 b hb).1⟩
 done:=by
   intro X hP hw hK hc i pq s σ H E I hf st hg;subst hP hw hK;obtain⟨xs,hq,hx⟩:=hg;obtain⟨its,rv,p,hz⟩:=I.list hq;obtain⟨⟨old,he⟩,hli⟩:=st;have hl:=rv.length;have hn:its.toArray.size=i:=by simp;omega
   refine Zg (Draws.list (prog:=X.prog) (w:=X.w) (A:=X.A.in1) (show X.A.in1.handled=none from I.ok.hd hc) it a hai its.toArray) he (by rw[hn];exact⟨hli,p.isList⟩) λh' eb=>⟨rfl,I.turnedL (t':=s.toks) (ch:=[e,it]) (λb o hb q=>eb b o (λz=>hb (by simp[z])) q) hf⟩
 self:=λ_ _ _ _ _ st h=>let ⟨old,z⟩:=st.1;ZK z h
theorem Gg{P:YT}{w:YX}{K:Um}{elts:List Expr}{kx:Nat}{tp:Pos}(a e it:YN)(hei:e≠it)(hae:a≠e)(hai:a≠it):Turn P w K (.Tuple elts kx tp) (RF K a) [e,it] e (λi h=>(∃ old,IsEnum h e it i old)/\h.IsTupleIter it a i) where
 mem:=by simp
 obj:=λi h st b hb=>by
  rcases VA.mp hb with rfl | hb
  ·obtain⟨⟨old,z⟩,_⟩:=st;exact⟨_,z,λv q=>by cases q⟩
  ·have e':b=it:=by simpa using hb
   subst e';obtain⟨o,q,c,d⟩:=st.2;exact⟨o,q,λv z=>by rw[d]at z;cases z⟩
 keep:=λi h h' st k=>⟨let ⟨old,z⟩:=st.1;⟨old,k e (by simp) _ z⟩,st.2.at λo q=>k it (by simp) o q⟩
 item:=by
  intro X hP hw hK hc i pq s σ H E I hf st hg;subst hP hw hK;obtain⟨xs,x,hq,hx⟩:=hg;obtain⟨its,rv,p,hz⟩:=I.tuple hq;obtain⟨u,hu,ru⟩:=rv.get hx;obtain⟨⟨old,he⟩,hli⟩:=st
  have hil:i<its.toArray.size:=by
   have:=(gM hu).1;simpa using this
  refine Zc (Aw (prog:=X.prog) (w:=X.w) (A:=X.A.in1) (show X.A.in1.handled=none from I.ok.hd hc) it a hai its.toArray) he ⟨hli,p⟩ hil hei (by simp[hei,Ne.symm hae]) λy h' tk hy ho hs' hT hsz hk=>?_
  have hyu:y=u:=by
   have:its.toArray[i]?=some u:=by simpa using hu
   rw[this]at hy;exact(oj hy).symm
  subst hyu;refine⟨_,rfl,?_⟩
  have I1:Inv X pq σ (upd H s.heap.objs.size (.tup [.int i,x])) {s with heap:=h',toks:=tk+1}:=
   I.turnLay (ch:=[e,it]) (λb o hb q=>hk b o (λz=>hb (by simp[z])) (λz=>hb (by simp[z])) q) hf ⟨L6,[.int i tk,y],.cons ⟨tk,rfl⟩ (.cons ru .nil),⟨_,hT,rfl,_,rfl⟩⟩
  refine ZS ho λh2 he2 hs2=>?_
  have hfp1:∀ b∈[e,it],FpOk X pq (upd H s.heap.objs.size (.tup [.int i,x])) b:=λb hb=>by
   obtain⟨f0,f1⟩:=hf b hb
   have hbl:b≠s.heap.objs.size:=by
    rcases VA.mp hb with rfl | hb
    ·exact V4 (V2 he)
    ·have e':b=it:=by simpa using hb
     subst e';obtain⟨o,q,_⟩:=hli;exact V4 (V2 q)
   exact⟨by rw[upd_ne hbl];exact f0,f1⟩
  have I2:Inv X pq σ (upd H s.heap.objs.size (.tup [.int i,x])) {s with heap:=h2,toks:=tk+1}:=
   Inv.turnedL (s:={s with heap:=h',toks:=tk+1}) (t':=tk+1) (ch:=[e,it]) I1 (λb o hb q=>(hs2.2 b (λz=>hb (by simp[z]))).trans q) hfp1
  refine⟨.ref s.heap.objs.size,_,I2,rfl,⟨_,x,I.fresh,rfl,λys hy=>by rw[I.tuple_inj hy hq];exact hx,rfl⟩,⟨⟨y,by simpa using he2⟩,hs'.1.extBut hs2.extBut (Ne.symm hei)⟩,λb hb=>(hfp1 b hb).1⟩
 done:=by
   intro X hP hw hK hc i pq s σ H E I hf st hg;subst hP hw hK;obtain⟨xs,hq,hx⟩:=hg;obtain⟨its,rv,p,hz⟩:=I.tuple hq;obtain⟨⟨old,he⟩,hli⟩:=st;have hl:=rv.length;have hn:its.toArray.size=i:=by simp;omega
   refine Zg (Aw (prog:=X.prog) (w:=X.w) (A:=X.A.in1) (show X.A.in1.handled=none from I.ok.hd hc) it a hai its.toArray) he (by rw[hn];exact⟨hli,p⟩) λh' eb=>⟨rfl,I.turnedL (t':=s.toks) (ch:=[e,it]) (λb o hb q=>eb b o (λz=>hb (by simp[z])) q) hf⟩
 self:=λ_ _ _ _ _ st h=>let ⟨old,z⟩:=st.1;ZK z h
section
variable{X:Cx}
def Ta(K:Um)(ta:TA):TI:=λσ H R=>ta σ H λvs H1=>∃ a,vs=[.ref a]/\(((∃ xs,SqL K H1 a xs)/\R (RE K a) H1)\/((∃ xs,SqT K H1 a xs)/\R (RF K a) H1))
theorem Cz:Ya "enumerate"=some (.type "enumerate"):=by decide +kernel
theorem Np{a:Expr}{ta:TA}{p pos:Pos}{elts:List Expr}{kx:Nat}{tp:Pos}(hg:Gl X "enumerate")(hm:X.mg "enumerate"=none)(ha:PA X [a] ta)(hs:Yc [a] X.env=[(false,eval a X.env)]:=by rfl):
 PI X (.Tuple elts kx tp) (.Call (.Name "enumerate" p) [a] [] pos) (Ta X.K ta):=by
 intro pq s σ H R I h;refine Call_ (C8 I hg hm Cz (PyProof.Rows.callWith_type1 (thn (ha pos pq s σ H _ I h) λus s1 ⟨vs,H1,I1,r1,q1⟩=>?_) hs rfl));obtain⟨l,e,q1⟩:=q1;subst e;cases r1 with
 | cons r rr=>
   cases rr;cases r;rcases q1 with⟨⟨xs,hq⟩,q⟩ | ⟨⟨xs,hq⟩,q⟩
   ·obtain⟨its,rv,pl,hz⟩:=I1.list hq;have hlt:@LT.lt Nat _ l s1.heap.objs.size:=by obtain⟨o,n,e,_⟩:=pl;exact V2 e
    refine call_enumerate_list pl.isList λh' he hli hsz hk=>?_;refine ZK he ?_;have I2:Inv X pq σ H1 {s1 with heap:=h'}:=I1.kept (t':=s1.toks) hk;refine⟨s1.heap.objs.size+1,[s1.heap.objs.size+1,s1.heap.objs.size],_,_,H1,rfl,I2,Gf l _ s1.heap.objs.size (show @Ne Nat _ _ by omega) (show @Ne Nat _ _ by omega) (show @Ne Nat _ _ by omega),⟨⟨_,he⟩,hli⟩,λb hb=>?_,q⟩
    have hb2:@LE.le Nat _ s1.heap.objs.size b:=by
     rcases VA.mp hb with rfl | hb
     ·exact XG _
     ·have e:b=s1.heap.objs.size:=by simpa using hb
      rw[e];exact Ux _
    exact I1.fpOk hb2 (I1.hok.fresh hb2)
   ·obtain⟨its,rv,pl,hz⟩:=I1.tuple hq;have hlt:@LT.lt Nat _ l s1.heap.objs.size:=by obtain⟨o,e,_⟩:=pl;exact V2 e
    refine Ae (show s1.heap.IsTuple l its.toArray from pl) λh' he hli hsz hk=>?_;refine ZK he ?_;have I2:Inv X pq σ H1 {s1 with heap:=h'}:=I1.kept (t':=s1.toks) hk;refine⟨s1.heap.objs.size+1,[s1.heap.objs.size+1,s1.heap.objs.size],_,_,H1,rfl,I2,Gg l _ s1.heap.objs.size (show @Ne Nat _ _ by omega) (show @Ne Nat _ _ by omega) (show @Ne Nat _ _ by omega),⟨⟨_,he⟩,hli⟩,λb hb=>?_,q⟩
    have hb2:@LE.le Nat _ s1.heap.objs.size b:=by
     rcases VA.mp hb with rfl | hb
     ·exact XG _
     ·have e:b=s1.heap.objs.size:=by simpa using hb
      rw[e];exact Ux _
    exact I1.fpOk hb2 (I1.hok.fresh hb2)
end
theorem JR(its:List YK)(k:Nat)(y:YK):(its.toArray.extract 0 k).push y++its.toArray.extract k=(its.take k++y::its.drop k).toArray:=by
 apply Array.toList_inj.mp;simp
 first
  | done
  | exact Vt (by simp)
section
variable{X:Cx}
def IA:V->List V->Hp->VK->Prop:=λx vs H Q=>∃ l xs i y,x = .ref l/\vs=[.int i,y]/\H l=some (.lst xs)/\0<=i/\i<=xs.length/\xs.length<YU/\Q .non (upd H l (.lst (xs.take i.toNat++y::xs.drop i.toNat)))
theorem Dx:MtM X "list.insert" IA:=by
 intro pq s σ H x vs v us Q I rx rv h;obtain⟨l,xs,i,y,rfl,rfl,hH,h0,h1,hz,q⟩:=h;cases rx;obtain⟨u1,u2,rfl,⟨t,rfl⟩,ru⟩:=Vals.two rv;obtain⟨z,its,n,r,hl,e⟩:=I.lstM hH;have hn:=Bg;refine ZF F.slot_list_insert ⟨_,e,rfl⟩ F.entry_list_insert (F.args_list_insert_3 _ _ _) (AutoSeq1.list_insert_list_int_val_1 l its.toArray n i t u2 (by rw[Zj (by omega) (by omega)];exact V0) (by rw[Uu];omega)) ⟨e,?_⟩;refine⟨.non,_,I.lset (its':=its.take i.toNat++u2::its.drop i.toNat) hH e ?_ (Vals.append (r.take _) (.cons ru (r.drop _))) ?_,rfl,q⟩
 ·have hk:(if i<0 then (i+(its.toArray.size:Int)).toNat else min i.toNat its.toArray.size)=i.toNat:=by
   rw[iG (by omega),Uu];omega
  show(let k:=if i<0 then (i+(its.toArray.size:Int)).toNat else min i.toNat its.toArray.size;(its.toArray.extract 0 k).push u2++its.toArray.extract k)=_;rw[hk];exact JR its i.toNat u2
 ·rw[Ut,VN,VU,Vl];omega
def Af(xs ys:List V):Bool:=xs.length == ys.length&&(xs.zip ys).all λp=>eqV p.1 p.2
def Nq(K:Um)(neg:Bool):R2:=λx y H Q=>∃ a b xs ys,x = .ref a/\y = .ref b/\SqL K H a xs/\SqL K H b ys/\((xs.all r6=true/\ys.all r6=true)\/xs=[]\/ys=[])/\Q (.bl (if neg then !Af xs ys else Af xs ys)) H
theorem D0{xs ys:List V}(hl:xs.length=ys.length):(Uy xs.length).all (λj=>eqV (xs.getD j .non) (ys.getD j .non))=Af xs ys:=by
 have e1:Af xs ys=(xs.zip ys).all λp=>eqV p.1 p.2:=by unfold Af;simp[hl]
 rw[e1,Vj,VC,VC];constructor
 ·intro h p hp;obtain⟨j,hj,e⟩:=Wn.mp hp;have hj1:j<xs.length:=by simp at hj;omega
  have hj2:j<ys.length:=by omega
  have:=h j (VG.mpr hj1);rw[<-e];simpa[Vs,hj1,hj2] using this
 ·intro h j hj;have hj1:j<xs.length:=VG.mp hj;have hj2:j<ys.length:=by omega
  have:=h (xs[j],ys[j]) (Wn.mpr ⟨j,by simp;omega,by simp⟩);simpa[Vs,hj1,hj2] using this
theorem Au{xs ys:List V}{us ws:List YK}{A:YZ}{s:YM}(r1:Vals xs us)(r2:Vals ys ws)(f:(xs.all r6=true/\ys.all r6=true)\/xs=[]\/ys=[]):
 ∀ j (h1:j<us.toArray.size) (h2:j<ws.toArray.size),SeqAt.EqAt A s us.toArray[j] ws.toArray[j] (eqV (xs.getD j .non) (ys.getD j .non)):=by
 intro j h1 h2;have l1:=r1.length;have l2:=r2.length;simp only[Uu]at h1 h2;have hj1:j<xs.length:=by omega
 have hj2:j<ys.length:=by omega
 obtain⟨f1,f2⟩:xs.all r6=true/\ys.all r6=true:=by
  rcases f with f | f | f
  ·exact f
  ·subst f;simp at hj1
  ·subst f;simp at hj2
 obtain⟨u,eu,ru⟩:=r1.get (i:=j) (x:=xs[j]) (by simp[hj1]);obtain⟨w',ew,rw'⟩:=r2.get (i:=j) (x:=ys[j]) (by simp[hj2])
 have e1:us.toArray[j]=u:=by
  have:=gM eu;obtain⟨_,q⟩:=this;simpa using q
 have e2:ws.toArray[j]=w':=by
  obtain⟨_,q⟩:=gM ew;simpa using q
 rw[e1,e2];have g1:xs.getD j .non=xs[j]:=by simp[Vs,hj1]
 have g2:ys.getD j .non=ys[j]:=by simp[Vs,hj2]
 rw[g1,g2];exact Kt ru rw' (VC.mp f1 _ (Vm hj1)) (VC.mp f2 _ (Vm hj2))
theorem RG(hu:X.A.units<cLine):OpR X (Yb .Eq) (Nq X.K false):=by
 intro pq s σ H x y v u Q I rx ry h;obtain⟨a,b,xs,ys,rfl,rfl,h1,h2,f,q⟩:=h;cases rx;cases ry;obtain⟨its1,r1,p1,_⟩:=I.list h1;obtain⟨its2,r2,p2,_⟩:=I.list h2;have l1:=r1.length;have l2:=r2.length;by_cases hl:xs.length=ys.length
 ·refine SeqAt.eq_listAt p1.isList p2.isList (by simp;omega) hu (Au r1 r2 f) ⟨.bl _,H,I,rfl,?_⟩;rw[Uu,<-l1,D0 hl];exact q
 ·refine SeqAt.eq_list_lengthsAt p1.isList p2.isList (by simp;omega) hu ⟨.bl false,H,I,rfl,?_⟩;have e:Af xs ys=false:=by unfold Af;simp[hl]
  rw[show(if false=true then !Af xs ys else Af xs ys)=Af xs ys from rfl,e]at q;exact q
theorem RH(hu:X.A.units<cLine):OpR X (Yb .NotEq) (Nq X.K true):=by
 intro pq s σ H x y v u Q I rx ry h;obtain⟨a,b,xs,ys,rfl,rfl,h1,h2,f,q⟩:=h;cases rx;cases ry;obtain⟨its1,r1,p1,_⟩:=I.list h1;obtain⟨its2,r2,p2,_⟩:=I.list h2;have l1:=r1.length;have l2:=r2.length;by_cases hl:xs.length=ys.length
 ·refine(SeqAt.RcNeAt.lists p1.isList p2.isList (by simp;omega) hu (Au r1 r2 f)) _ _ _ _ ?_;refine⟨.bl _,H,I,rfl,?_⟩;rw[Uu,<-l1,D0 hl];exact q
 ·refine(SeqAt.RcNeAt.lists_lengths p1.isList p2.isList (by simp;omega) hu) _ _ _ _ ?_;refine⟨.bl true,H,I,rfl,?_⟩;have e:Af xs ys=false:=by unfold Af;simp[hl]
  rw[show(if true=true then !Af xs ys else Af xs ys)=!Af xs ys from rfl,e]at q;exact q
theorem call_isi1:CallR X (.builtin "isinstance") (λxs H Q=>∃ x T t b,xs=[x,.ty T]/\TyOf X.K H x t/\PySem.W.kitOne X.K t (.type T)=some b/\Q (.bl b) H):=by
 intro pq s σ H xs us Q I r h;obtain⟨x,T,t,b,rfl,ty,e,q⟩:=h;obtain⟨u1,u2,rfl,r1,r2⟩:=Vals.two r;cases r2;exact JM I r1 ty e λtk=>⟨.bl b,H,I.tok tk,rfl,q⟩
theorem Gh{pq:List (YN×Obj)}{σ:St}{H:Hp}{s:YM}{A:YZ}{E:YK->YM->Prop}{Q:YK->YM->Prop}{b:Bool}{x:V}{u t:YK}{tp:YN}{dd:Option YN}{its:List YK}{n:Nat}{sl:Array (Option YK)}(I:Inv X pq σ H s)(rx:RelV x u)(ty:TyOf X.K H x t)
 (htp:s.heap.get? tp=some ⟨.type "tuple",dd,.seq its.toArray n,sl⟩) (e:PySem.W.kitAny X.K t its=some b) (h:∀ tk,Q (.bool b) {s with toks:=tk}):
 YV (YS X.prog X.w) A (call (.builtin "isinstance") [u,.ref tp]) Q E s:=by
 cases ty with
 | non=>cases(show u=Value.none from rx);exact PySem.W.kia_tup PySem.W.kitx_none I.kIn True.intro htp e (λz=>nomatch z) h
 | bl y=>cases(show u=Value.bool y from rx);exact PySem.W.kia_tup PySem.W.kitx_bool I.kIn True.intro htp e (λz=>nomatch z) h
 | int i=>obtain⟨t,q⟩:=(show ∃ t,u=Value.int i t from rx);cases q;exact PySem.W.kia_tup PySem.W.kitx_int I.kIn True.intro htp e (λz=>nomatch z) h
 | str y=>obtain⟨t,q⟩:=(show ∃ t,u=Value.str y t from rx);cases q;exact PySem.W.kia_tup PySem.W.kitx_str I.kIn True.intro htp e (λz=>nomatch z) h
 | flt y=>obtain⟨t,q⟩:=(show ∃ t,u=Value.float y t from rx);cases q;exact PySem.W.kia_tup PySem.W.kitx_float I.kIn True.intro htp e (λz=>nomatch z) h
 | @lst a xs ea=>
   cases(show u=Value.ref a from rx);obtain⟨_,_,n,_,h1⟩:=(show ObjOk X.prog X.w H s.heap a (.lst xs) from I.hok a _ ea)
   exact PySem.W.kia_tup PySem.W.kitx_list I.kIn ⟨_,h1,rfl⟩ htp e (λz=>nomatch z) h
 | @frz a ob xs ea=>
   cases(show u=Value.ref a from rx);obtain⟨_,_,_,n,_,h1⟩:=(show ObjOk X.prog X.w H s.heap a (.frz ob (.lst xs)) from I.hok a _ ea)
   exact PySem.W.kia_tup PySem.W.kitx_list I.kIn ⟨_,h1,rfl⟩ htp e (λz=>nomatch z) h
 | @tup a xs ea=>
   cases(show u=Value.ref a from rx);obtain⟨_,_,_,p⟩:=(show ObjOk X.prog X.w H s.heap a (.tup xs) from I.hok a _ ea)
   obtain⟨o,h1,h2,_⟩:=p;exact PySem.W.kia_tup PySem.W.kitx_tuple I.kIn ⟨o,h1,h2⟩ htp e (λz=>nomatch z) h
 | @dK a kvs ea=>
   cases(show u=Value.ref a from rx);obtain⟨_,_,vs,_,p⟩:=(show ObjOk X.prog X.w H s.heap a (.dK kvs) from I.hok a _ ea)
   obtain⟨o,es,ep,h1,h2,_⟩:=p;exact PySem.W.kia_tup PySem.W.kitx_dict I.kIn ⟨o,h1,h2.1⟩ htp e (λz=>nomatch z) h
 | @dT a kvs ea=>
   cases(show u=Value.ref a from rx);obtain⟨_,_,xs,_,o,es,ep,h1,h2,_⟩:=(show ObjOk X.prog X.w H s.heap a (.dT kvs) from I.hok a _ ea)
   exact PySem.W.kia_tup PySem.W.kitx_dict I.kIn ⟨o,h1,h2.1⟩ htp e (λz=>nomatch z) h
 | @ins a C dx fs ea cl ha hn htk hm=>
   cases(show u=Value.ref a from rx);obtain⟨mA,O,_⟩:=Hr I.hok ea;obtain⟨od,J,_⟩:=O.look;exact PySem.W.kia_tup (PySem.W.kitx_own (cl.get _) cl.hd ha hn htk hm) I.kIn J htp e (λz=>nomatch z) h
theorem IB:∀(Ts:List String) {us:List YK},Vals (Ts.map V.ty) us->us=Ts.map Value.type
 | [],_,.nil=>rfl
 | T::r,_,.cons h t=>by cases h;rw[IB r t];rfl
theorem JS:CallR X (.builtin "isinstance") (λxs H Q=>∃(x:V) (p:YN) (Ts:List String) (t:YK) (b:Bool),xs=[x,.ref p]/\H p=some (.tup (Ts.map V.ty))/\TyOf X.K H x t/\PySem.W.kitAny X.K t (Ts.map Value.type)=some b/\Q (.bl b) H):=by
 intro pq s σ H xs us Q I r h;obtain⟨x,p,Ts,t,b,rfl,hp,ty,e,q⟩:=h;obtain⟨u1,u2,rfl,r1,r2⟩:=Vals.two r;cases r2;obtain⟨_,its,rv,⟨⟨c,dd,dt,sl⟩,h1,h2,n,h3⟩⟩:=(show ObjOk X.prog X.w H s.heap p (.tup (Ts.map V.ty)) from I.hok p _ hp)
 have ei:=IB Ts rv;subst ei;replace h2:c = .type "tuple":=h2;replace h3:dt = .seq (Ts.map Value.type).toArray n:=h3;subst h2 h3;exact Gh I r1 ty h1 e λtk=>⟨.bl b,H,I.tok tk,rfl,q⟩
theorem JT(hc:X.calm=true):CallR X (.builtin "all") (λxs H Q=>∃(a:YN) (bs:List Bool),xs=[.ref a]/\SqL X.K H a (bs.map V.bl)/\Q (.bl (bs.all id)) H):=by
 intro pq s σ H xs us Q I r h;obtain⟨a,bs,rfl,hq,q⟩:=h;obtain⟨u,rfl,ru⟩:=AW r;cases ru;obtain⟨its,rv,pl,hz⟩:=I.list hq;have hl:=rv.length;rw[Ur]at hl;refine call_all_walk (Yw pl.isList ?_);have hlt:a<s.heap.objs.size:=by obtain⟨o,n,e,_⟩:=pl;exact V2 e
 refine⟨s.heap.objs.size,_,_,_,_,_,λi=>bs.getD i false,rfl,Walks.list (by exact I.ok.hd hc) s.heap.objs.size a (V4 hlt) its.toArray,⟨⟨_,V8 _ rfl,rfl,rfl⟩,pl.isList.push _⟩,?_,λh' tk hk=>?_⟩
 ·intro i v s' Q' E' hv hQ';have hv':its[i]?=some v:=by simpa using hv
  have hi:i<its.length:=(gM hv').1;have hb:(bs.map V.bl)[i]?=some (.bl (bs[i]'(by omega))):=by simp
  obtain⟨u',eu,ru'⟩:=rv.get hb;rw[hv']at eu;cases eu;cases ru';have hg:bs.getD i false=bs[i]'(by omega):=by simp[Vs,show i<bs.length by omega]
  have hQ2:Q' (bs.getD i false) s':=hQ';rw[hg]at hQ2;exact Ye hQ2
 ·have I1:Inv X pq σ H {s with heap:=h',toks:=tk}:=I.kept λb o e=>hk b o (by simp;exact V4 (V2 e)) (Uw _ e);refine⟨.bl _,H,I1,rfl,?_⟩
  have e:(Uy its.toArray.size).all (λi=>bs.getD i false)=bs.all id:=by
   rw[Uu,<-hl,Vj,VC,VC];constructor
   ·intro h b hb;obtain⟨j,hj,e⟩:=Wn.mp hb;have:=h j (VG.mpr hj);simpa[Vs,hj,e] using this
   ·intro h j hj;have hj1:j<bs.length:=VG.mp hj;have:=h bs[j] (Vm hj1);simpa[Vs,hj1] using this
  rw[e];exact q
end
def srt(ns:List Int):List Int:=ns.mergeSort (λa b=>decide (a<=b))
theorem L7(ns:List Int):(srt ns).Perm ns:=List.mergeSort_perm _ _
theorem RI(ns:List Int):(srt ns).Pairwise (·<=·):=by
 have h:=List.pairwise_mergeSort (le:=λ(a b:Int)=>decide (a<=b)) (λa b c h1 h2=>by simp only[dQ]at *;omega) (λa b=>by simp only[Va,dQ];omega) ns;exact h.imp λh=>of_decide_eq_true h
theorem RJ{ns ns':List Int}(hp:ns'.Perm ns)(hs:ns'.Pairwise (·<=·)):ns'=srt ns:=
 List.Perm.eq_of_pairwise (λ_ _ _ _ a b=>Int.le_antisymm a b) hs (RI ns) (hp.trans (L7 ns).symm)
theorem Bt:∀{ns:List Int} {us:List YK},Vals (ns.map V.int) us->IntsAre us ns
 | [],_,.nil => .nil
 | _::_,_,.cons ⟨_,e⟩ t=>by subst e;exact .cons _ _ (Bt t)
theorem Dy:∀{ns:List Int} {us:List YK},IntsAre us ns->Vals (ns.map V.int) us
 | _,_,.nil => .nil
 | _,_,.cons _ _ t => .cons ⟨_,rfl⟩ (Dy t)
theorem L8:Ya "sorted"=some (.builtin "sorted"):=by decide +kernel
end L2
set_option maxHeartbeats 1000000
namespace Srt
open PySem PyProof.Rows
def Sg(xs:Array Keyed)(lo k:Nat):Prop:=∀ i j,i<=j->j<k->K xs (lo+i)<=K xs (lo+j)
def Dg(xs:Array Keyed)(lo k:Nat):Prop:=∀ i j,i<=j->j<k->K xs (lo+j)<=K xs (lo+i)
structure Sb(a₀ a1:Array Keyed)(lo:Nat)(pd:Array (Nat×Nat×Nat))(st:SortSt):Prop where
 perm:(arrOf st).Perm a₀
 kind:kindOf st=Z1
 failed:Yi st=none
 pend:YY st=pd
 pre:∀ i,i<lo->(arrOf st)[i]?=a1[i]?
section
variable{a₀ a1:Array Keyed}{lo:Nat}{pd:Array (Nat×Nat×Nat)}{st:SortSt}
theorem Sb.size(h:Sb a₀ a1 lo pd st):(arrOf st).size=a₀.size:=h.perm.size_eq
theorem Sb.put(h:Sb a₀ a1 lo pd st){xs:Array Keyed}(hp:xs.Perm (arrOf st))(hq:∀ i,i<lo->xs[i]?=(arrOf st)[i]?):Sb a₀ a1 lo pd (setArr st xs):=
 ⟨hp.trans h.perm,h.kind,h.failed,h.pend,λi hi=>(hq i hi).trans (h.pre i hi)⟩
theorem Sb.at(h:Sb a₀ a1 lo pd st)(h0:IntKeys a₀){i:Nat}(hi:i<a₀.size):∃ t q,(arrOf st)[i]?=some (.int (K (arrOf st) i) t,q):=
 SBase.at (a₀:=a₀) (st:=SortSt.mk' Z1 (arrOf st) #[] 0 none) ⟨h.perm,rfl,rfl,rfl⟩ h0 hi
theorem Nr{xs:Array Keyed}{i j k:Nat}(hj:j<=xs.size)(h:k<i):(mirror xs i j ((j - i) / 2))[k]?=xs[k]?:=by
 rw[getElem?_mirror_all hj,iG (by omega)]
theorem Nt{xs:Array Keyed}{s d k:Nat}(hs:s<xs.size)(hd:d<=s)(h:k<s - d):(bubble xs s d)[k]?=xs[k]?:=by
 rw[getElem?_bubble hs d hd,iG (by omega),iG (by omega)]
end
section
variable{prog:YT}{w:YX}{A:YZ}{E:YK->YM->Prop}{s:YM}{a₀ a1:Array Keyed}{lo:Nat}{pd:Array (Nat×Nat×Nat)}
theorem FI{st:SortSt}{i j:Nat}{Q:Option Bool->SortSt->Prop}(hB:Sb a₀ a1 lo pd st)(h0:IntKeys a₀)(hi:i<a₀.size)(hj:j<a₀.size)
 (h:Q (some (decide (K (arrOf st) i<K (arrOf st) j))) st):wpS (YS prog w) A E s (ltAt' i j) Q st:=by
 obtain⟨t,p,e1⟩:=hB.at h0 hi;obtain⟨u,q,e2⟩:=hB.at h0 hj;exact wpS_ltAt hB.kind e1 e2 h
theorem L9{st:SortSt}{n ok:Nat}{Q:Bool->SortSt->Prop}(h0:IntKeys a₀)(hn:lo+n<=a₀.size)(hok:ok<=n)(hB:Sb a₀ a1 lo pd st)(hs:Sg (arrOf st) lo ok)
 (h:∀ st',Sb a₀ a1 lo pd st'->Sg (arrOf st') lo n->Q true st'):wpS (YS prog w) A E s (binarySort' lo n ok) Q st:=by
 rw[binarySort'_eq]
 refine YO (Yt (Yf (I:=λk c st'=>c=(none,())/\Sb a₀ a1 lo pd st'/\Sg (arrOf st') lo (min k n))
  (Q:=λc st'=>c=(none,())/\Sb a₀ a1 lo pd st'/\Sg (arrOf st') lo n) ?one ?out ?ini) ?beh)
 case beh=>rintro c st' ⟨rfl,b,g⟩;exact YR (h st' b g)
 case ini=>
  refine⟨rfl,hB,λi j hij hj=>?_⟩;rcases Nat.eq_zero_or_pos ok with z | z
  ·rw[show i=j by omega];exact WZ _
  ·exact hs i j hij (by omega)
 case out=>
  rintro c st' ⟨e,b,g⟩;rw[show min (max (max ok 1) n) n=n by omega]at g;exact⟨e,b,g⟩
 case one=>
  rintro k c st' a b ⟨rfl,hb,g⟩;rw[show min k n=k by omega]at g;have hk:lo+k<a₀.size:=by omega
  refine YO (Yt (Yf (I:=λx c z=>z=st'/\∃ l r,c=(none,l,r)/\l<=r/\r<=k/\r - l<=k - x/\(∀ i,i<l->K (arrOf st') (lo+i)<=K (arrOf st') (lo+k))/\∀ i,r<=i->i<k->K (arrOf st') (lo+k)<K (arrOf st') (lo+i))
   (Q:=λc z=>z=st'/\∃ l r,c=(none,l,r)/\l<=k/\(∀ i,i<l->K (arrOf st') (lo+i)<=K (arrOf st') (lo+k))/\∀ i,l<=i->i<k->K (arrOf st') (lo+k)<K (arrOf st') (lo+i)) ?i1 ?i2 ?i3) ?i4)
  case i3=>exact⟨rfl,0,k,rfl,by omega,by omega,by omega,λi hi=>by omega,λi h1 h2=>by omega⟩
  case i2=>
   rintro c z ⟨rfl,l,r,rfl,h1,h2,h3,h4,h5⟩;rw[show r=l by omega]at h5;exact⟨rfl,l,r,rfl,by omega,h4,h5⟩
  case i1=>
   rintro x c z _ hx ⟨rfl,l,r,rfl,h1,h2,h3,h4,h5⟩;dsimp only;by_cases ge:l≥r
   ·rw[iP ge];rw[show r=l by omega]at h5;exact YR ⟨rfl,l,r,rfl,by omega,h4,h5⟩
   ·rw[iG ge];refine YO (FI hb h0 hk (by omega) ?_);by_cases y:K (arrOf z) (lo+k)<K (arrOf z) (lo+(l+r) / 2)
    ·simp only[y,decide_true,if_true];exact YR ⟨rfl,l,(l+r) / 2,rfl,by omega,by omega,by omega,h4,λi p q=>Int.lt_of_lt_of_le y (g _ _ p q)⟩
    ·simp only[y,decide_false,Vb,if_false];exact YR ⟨rfl,(l+r) / 2+1,r,rfl,by omega,by omega,by omega,λi p=>Vh (g i ((l+r) / 2) (by omega) (by omega)) (Xi.mp y),h5⟩
  case i4=>
   rintro c z ⟨rfl,l,r,rfl,h1,h4,h5⟩;show wpS _ _ _ _ (do moveDown' (lo+k) (lo+l);pure (ForInStep.yield (none,()))) _ _;rw[moveDown'_eq];have hz:lo+k<(arrOf z).size:=by rw[hb.size];exact hk
   refine YO (Yr (YR ⟨rfl,hb.put (bubble_perm _ _ _) (λi hi=>Nt hz (by omega) (by omega)),?_⟩));rw[show min (k+1) n=k+1 by omega];intro i j hij hj;show K (bubble (arrOf z) (lo+k) (lo+k - (lo+l))) (lo+i)<=K (bubble (arrOf z) (lo+k) (lo+k - (lo+l))) (lo+j);rw[K_bubble hz (by omega),K_bubble hz (by omega),show lo+k - (lo+k - (lo+l))=lo+l by omega];by_cases i1:i<l
   ·rw[iG (by omega),iG (by omega)];by_cases j1:j<l
    ·rw[iG (by omega),iG (by omega)];exact g _ _ hij (by omega)
    ·by_cases j2:j=l
     ·rw[iP (by omega)];exact h4 _ i1
     ·rw[iG (by omega),iP (by omega),show lo+j - 1=lo+(j - 1) by omega];exact g _ _ (by omega) (by omega)
   ·by_cases i2:i=l
    ·rw[iP (by omega)];by_cases j2:j=l
     ·rw[iP (by omega)];exact WZ _
     ·rw[iG (by omega),iP (by omega),show lo+j - 1=lo+(j - 1) by omega];exact Vq (h5 _ (by omega) (by omega))
    ·rw[iG (by omega),iP (by omega),iG (by omega),iP (by omega),show lo+i - 1=lo+(i - 1) by omega,show lo+j - 1=lo+(j - 1) by omega];exact g _ _ (by omega) (by omega)
end
def upL(lo a m:Nat):StateT SortSt Sem AscSt:=
 forIn [a:m] ((none,a):AscSt) λ_ c=>do
  match <- ltAt' (lo+c.2) (lo+c.2 - 1) with
  | some b=>if b=true then pure (.done (none,c.2)) else pure (.yield (none,c.2+1))
  | _=>pure (.done (some none,c.2))
def Gi(lo n m:Nat):StateT SortSt Sem (Option Nat):=do
 Yk lo (lo+n)
 let c <- upL lo n m
 match c.1 with
 | some r=>pure r
 | none=>pure (some c.2)
noncomputable def dnL(lo n m:Nat):StateT SortSt Sem DescSt:=
 forIn [n:m] ((none,n,0):DescSt) λ_ c=>do
  match <- ltAt' (lo+c.2.1) (lo+c.2.1 - 1) with
  | some b=>
    if b=true then
     if c.2.2>0 then do
      Yk (lo+c.2.1 - (c.2.2+1)) (lo+c.2.1)
      pure (.yield (none,c.2.1+1,0))
     else pure (.yield (none,c.2.1+1,0))
    else do
     match <- ltAt' (lo+c.2.1 - 1) (lo+c.2.1) with
     | some d=>if d=true then pure (.done (none,c.2.1,c.2.2)) else pure (.yield (none,c.2.1+1,c.2.2+1))
     | _=>pure (.done (some none,c.2.1,c.2.2))
  | _=>pure (.done (some none,c.2.1,c.2.2))
noncomputable def dpL(lo n m:Nat):StateT SortSt Sem (Option Nat):=do
 liftM (rule "list.sort.descending-run")
 let c <- dnL lo (n+1) m
 match c.1 with
 | some r=>pure r
 | none=>
   if c.2.2>0 then do
    Yk (lo+c.2.1 - (c.2.2+1)) (lo+c.2.1)
    Gi lo c.2.1 m
   else Gi lo c.2.1 m
theorem RK(lo m:Nat):countRun' lo m=(do
 let c <- upL lo 1 m
 match c.1 with
 | some r=>pure r
 | none=>
   if (c.2 == m)=true then pure (some c.2)
   else if c.2>1 then do
    match <- ltAt' lo (lo+c.2 - 1) with
    | some b=>if b=true then pure (some c.2) else do
       Yk lo (lo+c.2)
       dpL lo c.2 m
    | _=>pure none
   else dpL lo c.2 m):=by
 rw[countRun'_eq];have e3:∀ n (f:PUnit->StateT SortSt Sem (Option Nat)),(∀ u,f u=(upL lo n m >>= λc=>match c.1 with | some r=>pure r | none=>pure (some c.2)))->(Yk lo (lo+n) >>= f)=Gi lo n m:=λn f h=>congrArg (λk=>Yk lo (lo+n) >>= k) (funext h);have up:∀ n (f g:AscSt->StateT SortSt Sem (Option Nat)),(∀ r n,f (r,n)=g (r,n))->(upL lo n m >>= f)=(upL lo n m >>= g):=λn f g h=>congrArg (λk=>upL lo n m >>= k) (funext λc=>h c.1 c.2);have dn:∀ n (f g:DescSt->StateT SortSt Sem (Option Nat)),(∀ r n q,f (r,n,q)=g (r,n,q))->(dnL lo n m >>= f)=(dnL lo n m >>= g):=λn f g h=>congrArg (λk=>dnL lo n m >>= k) (funext λc=>h c.1 c.2.1 c.2.2)
 have dp:∀ n (f:PUnit->StateT SortSt Sem (Option Nat)),(∀ u,f u=(dnL lo (n+1) m >>= λc=>match c.1 with
  | some r=>pure r
  | none=>if c.2.2>0 then do
     Yk (lo+c.2.1 - (c.2.2+1)) (lo+c.2.1)
     Gi lo c.2.1 m
    else Gi lo c.2.1 m))->(liftM (rule "list.sort.descending-run") >>= f)=dpL lo n m:=λn f h=>congrArg (λk=>liftM (rule "list.sort.descending-run") >>= k) (funext h)
 refine up 1 _ _ λr n=>?_;cases r with
 | some r=>rfl
 | none=>
   dsimp only;split
   ·rfl
   ·split
    ·refine congrArg (λk=>ltAt' lo (lo+n - 1) >>= k) (funext λx=>?_);cases x with
     | none=>rfl
     | some b=>
       dsimp only;split
       ·rfl
       ·refine congrArg (λk=>Yk lo (lo+n) >>= k) (funext λu=>?_);refine dp n _ λu=>dn (n+1) _ _ λr n q=>?_;cases r with
        | some r=>rfl
        | none=>
          dsimp only;split
          ·refine congrArg (λk=>Yk (lo+n - (q+1)) (lo+n) >>= k) (funext λu=>?_);exact e3 n _ λu=>up n _ _ λr n=>by cases r<;>rfl
          ·exact e3 n _ λu=>up n _ _ λr n=>by cases r<;>rfl
    ·refine dp n _ λu=>dn (n+1) _ _ λr n q=>?_;cases r with
     | some r=>rfl
     | none=>
       dsimp only;split
       ·refine congrArg (λk=>Yk (lo+n - (q+1)) (lo+n) >>= k) (funext λu=>?_);exact e3 n _ λu=>up n _ _ λr n=>by cases r<;>rfl
       ·exact e3 n _ λu=>up n _ _ λr n=>by cases r<;>rfl
section
variable{prog:YT}{w:YX}{A:YZ}{E:YK->YM->Prop}{s:YM}{a₀ a1:Array Keyed}{lo:Nat}{pd:Array (Nat×Nat×Nat)}
theorem ET{st:SortSt}{i j:Nat}{Q:Unit->SortSt->Prop}(h:Q () (setArr st (mirror (arrOf st) i j ((j - i) / 2)))):wpS (YS prog w) A E s (Yk i j) Q st:=by
 rw[reverseSlice'_eq];exact Yr h
theorem Sb.mir{st:SortSt}(hB:Sb a₀ a1 lo pd st){i j:Nat}(hi:lo<=i)(hj:j<=a₀.size):Sb a₀ a1 lo pd (setArr st (mirror (arrOf st) i j ((j - i) / 2))):=
 hB.put (mirror_perm _ _ _ _) λk hk=>Nr (by rw[hB.size];exact hj) (by omega)
theorem Sg.more{xs:Array Keyed}{x:Nat}(h:Sg xs lo x)(h1:1<=x)(hx:K xs (lo+x - 1)<=K xs (lo+x)):Sg xs lo (x+1):=λi j hij hj=>by
 by_cases z:j<x
 ·exact h i j hij z
 ·rw[show j=x by omega];by_cases y:i=x
  ·rw[y];exact WZ _
  ·refine Vh (h i (x - 1) (by omega) (by omega)) ?_;rw[show lo+(x - 1)=lo+x - 1 by omega];exact hx
theorem Dg.more{xs ys:Array Keyed}{x:Nat}(h:Dg xs lo x)(e:∀ k,K ys k=K xs k)(h1:1<=x)(hx:K xs (lo+x)<=K xs (lo+x - 1)):Dg ys lo (x+1):=λi j hij hj=>by
 rw[e,e];by_cases z:j<x
 ·exact h i j hij z
 ·rw[show j=x by omega];by_cases y:i=x
  ·rw[y];exact WZ _
  ·have:=h i (x - 1) (by omega) (by omega);rw[show lo+(x - 1)=lo+x - 1 by omega]at this;exact Vh hx this
theorem Pu{st:SortSt}{a m:Nat}{Q:AscSt->SortSt->Prop}(h0:IntKeys a₀)(hm:lo+m<=a₀.size)(ha:1<=a)(ham:a<=m)(hB:Sb a₀ a1 lo pd st)(hs:Sg (arrOf st) lo a)
 (h:∀ n,a<=n->n<=m->Sg (arrOf st) lo n->(n=m\/K (arrOf st) (lo+n)<K (arrOf st) (lo+n - 1))->Q (none,n) st):wpS (YS prog w) A E s (upL lo a m) Q st:=by
 unfold upL;refine Yf (I:=λx c z=>z=st/\c=(none,x)/\Sg (arrOf st) lo x) (λx c z hx hxm=>?_) (λc z=>?_) ⟨rfl,rfl,hs⟩
 ·rintro⟨rfl,rfl,g⟩;refine YO (FI hB h0 (by omega) (by omega) ?_);by_cases y:K (arrOf z) (lo+x)<K (arrOf z) (lo+x - 1)
  ·simp only[y,decide_true,if_true];exact YR (h x hx (by omega) g (.inr y))
  ·simp only[y,decide_false,Vb,if_false];exact YR ⟨rfl,rfl,g.more (by omega) (Xi.mp y)⟩
 ·rintro⟨rfl,rfl,g⟩;rw[show max a m=m by omega]at g ⊢;exact h m ham (Ux _) g (.inl rfl)
theorem LA{st:SortSt}{n m:Nat}{Q:Option Nat->SortSt->Prop}(h0:IntKeys a₀)(hm:lo+m<=a₀.size)(h1:1<=n)(hnm:n<=m)(hB:Sb a₀ a1 lo pd st)(hs:Dg (arrOf st) lo n)
 (h:∀ k st',Sb a₀ a1 lo pd st'->1<=k->k<=m->Sg (arrOf st') lo k->Q (some k) st'):wpS (YS prog w) A E s (Gi lo n m) Q st:=by
 unfold Gi;have hz:lo+n<=(arrOf st).size:=by rw[hB.size];omega
 have hB':=hB.mir (i:=lo) (j:=lo+n) (Ux _) (by omega);refine YO (ET (YO (Pu h0 hm h1 hnm hB' (λi j hij hj=>?_) λk k1 k2 g _=>YR (h k _ hB' (by omega) k2 g))));show K (mirror (arrOf st) lo (lo+n) _) (lo+i)<=K (mirror (arrOf st) lo (lo+n) _) (lo+j);rw[K_mirror hz,K_mirror hz,iP (by omega),iP (by omega)];have:=hs (n - 1 - j) (n - 1 - i) (by omega) (by omega);rw[show lo+(n - 1 - j)=lo+(lo+n) - 1 - (lo+j) by omega,show lo+(n - 1 - i)=lo+(lo+n) - 1 - (lo+i) by omega]at this;exact this
theorem Tb{st:SortSt}{n m:Nat}{Q:DescSt->SortSt->Prop}(h0:IntKeys a₀)(hm:lo+m<=a₀.size)(h1:1<=n)(hnm:n<=m)(hB:Sb a₀ a1 lo pd st)(hs:Dg (arrOf st) lo n)
 (h:∀ x q st',Sb a₀ a1 lo pd st'->n<=x->x<=m->Dg (arrOf st') lo x->q+1<=x->(∀ i,lo+x - (q+1)<=i->i<lo+x->K (arrOf st') i=K (arrOf st') (lo+x - 1))->Q (none,x,q) st'):wpS (YS prog w) A E s (dnL lo n m) Q st:=by
 unfold dnL;refine Yf (I:=λx c z=>∃ q,c=(none,x,q)/\Sb a₀ a1 lo pd z/\Dg (arrOf z) lo x/\q+1<=x/\∀ i,lo+x - (q+1)<=i->i<lo+x->K (arrOf z) i=K (arrOf z) (lo+x - 1)) (λx c z hx hxm=>?_) (λc z=>?_) ⟨0,rfl,hB,hs,by omega,λi a b=>by congr 1;omega⟩
 ·rintro⟨q,rfl,hb,g,hq,he⟩;have hz:lo+x<=(arrOf z).size:=by rw[hb.size];omega
  dsimp only;refine YO (FI hb h0 (by omega) (by omega) ?_);by_cases y:K (arrOf z) (lo+x)<K (arrOf z) (lo+x - 1)
  ·simp only[y,decide_true,if_true];by_cases p:q>0
   ·rw[iP p];exact YO (ET (YR ⟨0,rfl,hb.mir (by omega) (by omega),g.more (ZT hz he) (by omega) (Vq y),by omega,λi a b=>by congr 1;omega⟩))
   ·rw[iG p];exact YR ⟨0,rfl,hb,g.more (λ_=>rfl) (by omega) (Vq y),by omega,λi a b=>by congr 1;omega⟩
  ·simp only[y,decide_false,Vb,if_false];refine YO (FI hb h0 (by omega) (by omega) ?_);by_cases v:K (arrOf z) (lo+x - 1)<K (arrOf z) (lo+x)
   ·simp only[v,decide_true,if_true];exact YR (h x q z hb hx (by omega) g hq he)
   ·simp only[v,decide_false,Vb,if_false];have e:K (arrOf z) (lo+x)=K (arrOf z) (lo+x - 1):=by omega
    refine YR ⟨q+1,rfl,hb,g.more (λ_=>rfl) (by omega) (by omega),by omega,λi a b=>?_⟩;rw[show lo+(x+1) - 1=lo+x by omega];by_cases u:i=lo+x
    ·rw[u]
    ·rw[e];exact he i (by omega) (by omega)
 ·rintro⟨q,rfl,hb,g,hq,he⟩;rw[show max n m=m by omega]at g hq he ⊢;exact h m q z hb hnm (Ux _) g hq he
theorem Pv{st:SortSt}{n m:Nat}{Q:Option Nat->SortSt->Prop}(h0:IntKeys a₀)(hm:lo+m<=a₀.size)(hnm:n+1<=m)(hB:Sb a₀ a1 lo pd st)(hs:Dg (arrOf st) lo (n+1))
 (h:∀ k st',Sb a₀ a1 lo pd st'->1<=k->k<=m->Sg (arrOf st') lo k->Q (some k) st'):wpS (YS prog w) A E s (dpL lo n m) Q st:=by
 unfold dpL;refine YO (ZU (Yn ⟨rfl,?_⟩));refine YO (Tb h0 hm (by omega) hnm hB hs λx q st' hb hx1 hx2 g hq he=>?_);have hz:lo+x<=(arrOf st').size:=by rw[hb.size];omega
 dsimp only;by_cases p:q>0
 ·rw[iP p];refine YO (ET (LA h0 hm (by omega) hx2 (hb.mir (by omega) (by omega)) (λi j hij hj=>?_) h));show K (mirror (arrOf st') _ _ _) (lo+j)<=K (mirror (arrOf st') _ _ _) (lo+i);rw[ZT hz he,ZT hz he];exact g i j hij hj
 ·rw[iG p];exact LA h0 hm (by omega) hx2 hb g h
theorem LB{st:SortSt}{m:Nat}{Q:Option Nat->SortSt->Prop}(h0:IntKeys a₀)(hm:lo+m<=a₀.size)(h1:1<=m)(hB:Sb a₀ a1 lo pd st)
 (h:∀ k st',Sb a₀ a1 lo pd st'->1<=k->k<=m->Sg (arrOf st') lo k->Q (some k) st'):wpS (YS prog w) A E s (countRun' lo m) Q st:=by
 rw[RK];refine YO (Pu h0 hm (Ux 1) h1 hB (λi j hij hj=>by rw[show i=j by omega];exact WZ _) λn n1 n2 g hor=>?_);dsimp only;by_cases e:n=m
 ·rw[iP (by simpa using e)];exact YR (h n st hB n1 n2 g)
 ·rw[iG (by simpa using e)];have hlt:=hor.resolve_left e;by_cases z:n>1
  ·rw[iP z];refine YO (FI hB h0 (by omega) (by omega) ?_);by_cases y:K (arrOf st) lo<K (arrOf st) (lo+n - 1)
   ·simp only[y,decide_true,if_true];exact YR (h n st hB n1 n2 g)
   ·simp only[y,decide_false,Vb,if_false];have hz:lo+n<=(arrOf st).size:=by rw[hB.size];omega
    have al:∀ k,lo<=k->k<lo+n->K (arrOf st) k=K (arrOf st) (lo+n - 1):=λk a b=>by
     have p:=g 0 (k - lo) (by omega) (by omega);have q:=g (k - lo) (n - 1) (by omega) (by omega);rw[show lo+(k - lo)=k by omega]at p q;rw[show lo+(n - 1)=lo+n - 1 by omega]at q;rw[YE]at p;omega
    refine YO (ET (Pv h0 hm (by omega) (hB.mir (Ux _) (by omega)) ?_ h));refine Dg.more (xs:=arrOf st) (λi j hij hj=>?_) (ZT hz al) (by omega) (Vq hlt);rw[al _ (by omega) (by omega),al (lo+i) (by omega) (by omega)];exact WZ _
  ·rw[iG z];have:n=1:=by omega
   subst this;refine Pv h0 hm (by omega) hB ?_ h;exact Dg.more (xs:=arrOf st) (λi j hij hj=>by rw[show i=j by omega];exact WZ _) (λ_=>rfl) (Ux _) (Vq hlt)
end
def FJ:Bool->Keyed->Array Keyed->Nat->Nat->Nat->StateT SortSt Sem (Option Nat):=sortPriv% PySem.Builtin.gallop
abbrev GS:=Option (Option Nat)×Nat×Nat
def bey(l:Bool)(k:Keyed)(a:Array Keyed)(o i:Nat):StateT SortSt Sem (Option Bool):=do
 let x <- elem' a (o+i)
 if l=true then lt' x k else do
  let r <- lt' k x
  pure (r.map λb=>!b)
def Nu(f:Nat->StateT SortSt Sem (Option Bool))(n lo hi:Nat):StateT SortSt Sem GS:=
 forIn [:n] ((none,lo,hi):GS) λ_ c=>if c.2.1≥c.2.2 then pure (.done (none,c.2.1,c.2.2)) else do
  match <- f (c.2.1+(c.2.2 - c.2.1) / 2) with
  | some b=>if b=true then pure (.yield (none,c.2.1+(c.2.2 - c.2.1) / 2+1,c.2.2)) else pure (.yield (none,c.2.1,c.2.1+(c.2.2 - c.2.1) / 2))
  | _=>pure (.done (some none,c.2.1,c.2.2))
def Nv(f:Nat->StateT SortSt Sem (Option Bool))(n lo hi:Nat):StateT SortSt Sem (Option Nat):=do
 let c <- Nu f n lo hi
 match c.1 with
 | some r=>pure r
 | none=>pure (some c.2.2)
def RL(f:Nat->StateT SortSt Sem (Option Bool))(n h:Nat):StateT SortSt Sem GS:=
 forIn [:n] ((none,0,1):GS) λ_ c=>if c.2.2≥n - h then pure (.done (none,c.2.1,c.2.2)) else do
  match <- f (h+c.2.2) with
  | some b=>if (!b)=true then pure (.done (none,c.2.1,c.2.2)) else pure (.yield (none,c.2.2,2 * c.2.2+1))
  | _=>pure (.done (some none,c.2.1,c.2.2))
def RM(f:Nat->StateT SortSt Sem (Option Bool))(n h:Nat):StateT SortSt Sem GS:=
 forIn [:n] ((none,0,1):GS) λ_ c=>if c.2.2≥h+1 then pure (.done (none,c.2.1,c.2.2)) else do
  match <- f (h - c.2.2) with
  | some b=>if b=true then pure (.done (none,c.2.1,c.2.2)) else pure (.yield (none,c.2.2,2 * c.2.2+1))
  | _=>pure (.done (some none,c.2.1,c.2.2))
def Nw(f:Nat->StateT SortSt Sem (Option Bool))(n h:Nat):StateT SortSt Sem (Option Nat):=do
 match <- f h with
 | some r=>
   if r=true then do
    let c <- RL f n h
    match c.1 with
    | some r=>pure r
    | none=>Nv f n (h+c.2.1+1) (h+min c.2.2 (n - h))
   else do
    let c <- RM f n h
    match c.1 with
    | some r=>pure r
    | none=>Nv f n (h+1 - min c.2.2 (h+1)) (h - c.2.1)
 | _=>pure none
theorem RN(l:Bool)(k:Keyed)(a:Array Keyed)(o n h:Nat):FJ l k a o n h=Nw (bey l k a o) n h:=by
 unfold Nw;refine congrArg (λg=>bey l k a o h >>= g) (funext λx=>?_);cases x with
 | none=>rfl
 | some r=>
   cases r with
   | true=>
     refine congrArg (λg=>RL (bey l k a o) n h >>= g) (funext λc=>?_);obtain⟨c,d,e⟩:=c;cases c with
     | some r=>rfl
     | none=>
       refine congrArg (λg=>Nu (bey l k a o) n (h+d+1) (h+min e (n - h)) >>= g) (funext λc=>?_);obtain⟨c,d,e⟩:=c;cases c<;>rfl
   | false=>
     refine congrArg (λg=>RM (bey l k a o) n h >>= g) (funext λc=>?_);obtain⟨c,d,e⟩:=c;cases c with
     | some r=>rfl
     | none=>
       refine congrArg (λg=>Nu (bey l k a o) n (h+1 - min e (h+1)) (h - d) >>= g) (funext λc=>?_);obtain⟨c,d,e⟩:=c;cases c<;>rfl
section
variable{prog:YT}{w:YX}{A:YZ}{E:YK->YM->Prop}{s:YM}
noncomputable def Pw(prog:YT)(w:YX)(A:YZ)(E:YK->YM->Prop)(s:YM)(f:Nat->StateT SortSt Sem (Option Bool))(b:Nat->Bool)(n:Nat)(st:SortSt):Prop:=
 ∀ i,i<n->∀ Q:Option Bool->SortSt->Prop,Q (some (b i)) st->wpS (YS prog w) A E s (f i) Q st
structure Many(b:Nat->Bool)(n k:Nat):Prop where
 le:k<=n
 yes:∀ i,i<k->b i=true
 no:∀ i,k<=i->i<n->b i=false
theorem LC{f:Nat->StateT SortSt Sem (Option Bool)}{b:Nat->Bool}{n lo hi:Nat}{st:SortSt}{Q:Option Nat->SortSt->Prop}(hf:Pw prog w A E s f b n st)(mono:∀ i j,i<=j->b j=true->b i=true)(h1:lo<=hi)(h2:hi<=n)(y:∀ i,i<lo->b i=true)(z:∀ i,hi<=i->i<n->b i=false)
 (q:∀ k,Many b n k->Q (some k) st):wpS (YS prog w) A E s (Nv f n lo hi) Q st:=by
 unfold Nv Nu
 refine YO (Yt (Yf (I:=λx c t=>t=st/\∃ l r,c=(none,l,r)/\l<=r/\r<=n/\r - l<=n - x/\(∀ i,i<l->b i=true)/\∀ i,r<=i->i<n->b i=false)
  (Q:=λc t=>t=st/\∃ l r,c=(none,l,r)/\Many b n r) ?a ?b ⟨rfl,lo,hi,rfl,h1,h2,by omega,y,z⟩) ?c)
 case a=>
  rintro x c t _ hx ⟨rfl,l,r,rfl,a1,a2,a3,a4,a5⟩;dsimp only;by_cases g:l≥r
  ·rw[iP g];exact YR ⟨rfl,l,r,rfl,a2,λi hi=>a4 i (by omega),a5⟩
  ·rw[iG g];refine YO (hf (l+(r - l) / 2) (by omega) _ ?_);cases e:b (l+(r - l) / 2) with
   | true=>exact YR ⟨rfl,_,r,rfl,by omega,a2,by omega,λi hi=>mono i _ (by omega) e,a5⟩
   | false=>
     refine YR ⟨rfl,l,_,rfl,by omega,by omega,by omega,a4,λi hi hn=>?_⟩;cases e':b i with
     | false=>rfl
     | true=>rw[mono _ i hi e']at e;cases e
 case b=>
  rintro c t ⟨rfl,l,r,rfl,a1,a2,a3,a4,a5⟩;have:l=r:=by omega
  subst this;exact⟨rfl,l,l,rfl,a2,a4,a5⟩
 case c=>
  rintro c t ⟨rfl,l,r,rfl,m⟩;exact YR (q r m)
theorem RO{f:Nat->StateT SortSt Sem (Option Bool)}{b:Nat->Bool}{n h:Nat}{st:SortSt}{Q:Option Nat->SortSt->Prop}(hf:Pw prog w A E s f b n st)(mono:∀ i j,i<=j->b j=true->b i=true)(hn:h<n)
 (q:∀ k,Many b n k->Q (some k) st):wpS (YS prog w) A E s (Nw f n h) Q st:=by
 have anti:∀ i j,i<=j->b i=false->b j=false:=λi j hij e=>by
  cases e':b j with
  | false=>rfl
  | true=>rw[mono i j hij e']at e;cases e
 unfold Nw;refine YO (hf h hn _ ?_);cases e:b h with
 | true=>
   dsimp only;rw[iP rfl];unfold RL
   refine YO (Yt (Yf (I:=λx c t=>t=st/\∃ l o,c=(none,l,o)/\l<o/\x+1<=o/\l<n - h/\b (h+l)=true)
    (Q:=λc t=>t=st/\∃ l o,c=(none,l,o)/\l<o/\l<n - h/\b (h+l)=true/\(n - h<=o\/b (h+o)=false)) ?a ?b ⟨rfl,0,1,rfl,by omega,by omega,by omega,e⟩) ?c)
   case a=>
    rintro x c t _ hx ⟨rfl,l,o,rfl,a1,a2,a3,a4⟩;dsimp only;by_cases g:o≥n - h
    ·rw[iP g];exact YR ⟨rfl,l,o,rfl,a1,a3,a4,.inl g⟩
    ·rw[iG g];refine YO (hf (h+o) (by omega) _ ?_);cases e':b (h+o) with
     | true=>exact YR ⟨rfl,o,_,rfl,by omega,by omega,by omega,e'⟩
     | false=>exact YR ⟨rfl,l,o,rfl,a1,a3,a4,.inr e'⟩
   case b=>
    rintro c t ⟨rfl,l,o,rfl,a1,a2,a3,a4⟩;exact⟨rfl,l,o,rfl,a1,a3,a4,.inl (by omega)⟩
   case c=>
    rintro c t ⟨rfl,l,o,rfl,a1,a3,a4,a5⟩;dsimp only;refine LC hf mono (by omega) (by omega) (λi hi=>mono i _ (by omega) a4) (λi hi hn'=>?_) q;rcases a5 with z | z
    ·omega
    ·exact anti _ i (by omega) z
 | false=>
   dsimp only;rw[iG (by decide)];unfold RM
   refine YO (Yt (Yf (I:=λx c t=>t=st/\∃ l o,c=(none,l,o)/\l<o/\x+1<=o/\l<=h/\b (h - l)=false)
    (Q:=λc t=>t=st/\∃ l o,c=(none,l,o)/\l<o/\l<=h/\b (h - l)=false/\(h+1<=o\/b (h - o)=true)) ?a ?b ⟨rfl,0,1,rfl,by omega,by omega,by omega,e⟩) ?c)
   case a=>
    rintro x c t _ hx ⟨rfl,l,o,rfl,a1,a2,a3,a4⟩;dsimp only;by_cases g:o≥h+1
    ·rw[iP g];exact YR ⟨rfl,l,o,rfl,a1,a3,a4,.inl g⟩
    ·rw[iG g];refine YO (hf (h - o) (by omega) _ ?_);cases e':b (h - o) with
     | true=>exact YR ⟨rfl,l,o,rfl,a1,a3,a4,.inr e'⟩
     | false=>exact YR ⟨rfl,o,_,rfl,by omega,by omega,by omega,e'⟩
   case b=>
    rintro c t ⟨rfl,l,o,rfl,a1,a2,a3,a4⟩;exact⟨rfl,l,o,rfl,a1,a3,a4,.inl (by omega)⟩
   case c=>
    rintro c t ⟨rfl,l,o,rfl,a1,a3,a4,a5⟩;dsimp only;refine LC hf mono (by omega) (by omega) (λi hi=>?_) (λi hi hn'=>anti _ i (by omega) a4) q;rcases a5 with z | z
    ·omega
    ·exact mono i _ (by omega) z
end
def nk(p:Keyed):Int:=numOf p.1
def Ik(p:Keyed):Prop:=∃ n t,p.1 = .int n t
def Up(l:List Keyed):Prop:=l.Pairwise λx y=>nk x<=nk y
structure Res(A B r:List Keyed):Prop where
 pm:r.Perm (A++B)
 so:Up r
structure Mi(A B O:List Keyed)(i j:Nat):Prop where
 pm:O.Perm (A.take i++B.take j)
 so:Up O
 la:∀ x∈O,∀ y∈A.drop i,nk x<=nk y
 lb:∀ x∈O,∀ y∈B.drop j,nk x<=nk y
section
variable{A B O:List Keyed}{i j:Nat}
theorem Up.app{l m:List Keyed}(a:Up l)(b:Up m)(h:∀ x∈l,∀ y∈m,nk x<=nk y):Up (l++m):=List.pairwise_append.mpr ⟨a,b,h⟩
theorem Up.get{l:List Keyed}(a:Up l){i j:Nat}{x y:Keyed}(hi:l[i]?=some x)(hj:l[j]?=some y)(hij:i<=j):nk x<=nk y:=by
 obtain⟨h1,rfl⟩:=gM hi;obtain⟨h2,rfl⟩:=gM hj;rcases W8 i j with z | z
 ·exact(Wt.mp a) i j h1 h2 z
 ·have:i=j:=by omega
  subst this;exact WZ _
theorem k9{l:List Keyed}{i:Nat}{y:Keyed}(h:y∈l.drop i):∃ k,i<=k/\l[k]?=some y:=by
 obtain⟨k,hk⟩:=XW.mp h;rw[WG]at hk;exact⟨i+k,by omega,hk⟩
theorem m5{l:List Keyed}{i:Nat}{y:Keyed}(h:y∈l.take i):∃ k,k<i/\l[k]?=some y:=by
 obtain⟨k,hk⟩:=XW.mp h;rw[X9]at hk;split at hk
 ·rename_i z;exact⟨k,z,hk⟩
 ·cases hk
theorem Ak{l:List Keyed}{i:Nat}{x:Keyed}(h:l[i]?=some x):l.drop i=x::l.drop (i+1):=by
 obtain⟨h1,rfl⟩:=gM h;exact WR h1
theorem Al{l:List Keyed}{i:Nat}{x:Keyed}(h:l[i]?=some x):l.take (i+1)=l.take i++[x]:=by rw[VZ,h];rfl
theorem Mi.pushA(M:Mi A B O i j)(hA:Up A){x:Keyed}(hx:A[i]?=some x)(h:∀ y∈B.drop j,nk x<=nk y):Mi A B (O++[x]) (i+1) j:=by
 have dx:=Ak hx;refine⟨?_,M.so.app (Wx _ _) λa ha b hb=>?_,λa ha y hy=>?_,λa ha y hy=>?_⟩
 ·rw[Al hx,VE];refine(M.pm.append_right [x]).trans ?_;rw[VE];exact List.Perm.append_left _ WQ
 ·rw[V3.mp hb];exact M.la a ha x (by rw[dx];exact VJ ..)
 ·rcases VD.mp ha with ha | ha
  ·exact M.la a ha y (by rw[dx];exact VB _ hy)
  ·rw[V3.mp ha];obtain⟨k,hk,e⟩:=k9 hy;exact hA.get hx e (by omega)
 ·rcases VD.mp ha with ha | ha
  ·exact M.lb a ha y hy
  ·rw[V3.mp ha];exact h y hy
theorem Mi.pushB(M:Mi A B O i j)(hB:Up B){x:Keyed}(hx:B[j]?=some x)(h:∀ y∈A.drop i,nk x<=nk y):Mi A B (O++[x]) i (j+1):=by
 have dx:=Ak hx;refine⟨?_,M.so.app (Wx _ _) λa ha b hb=>?_,λa ha y hy=>?_,λa ha y hy=>?_⟩
 ·rw[Al hx,<-VE];exact M.pm.append_right [x]
 ·rw[V3.mp hb];exact M.lb a ha x (by rw[dx];exact VJ ..)
 ·rcases VD.mp ha with ha | ha
  ·exact M.la a ha y hy
  ·rw[V3.mp ha];exact h y hy
 ·rcases VD.mp ha with ha | ha
  ·exact M.lb a ha y (by rw[dx];exact VB _ hy)
  ·rw[V3.mp ha];obtain⟨k,hk,e⟩:=k9 hy;exact hB.get hx e (by omega)
theorem Mi.moreA(hA:Up A)(M:Mi A B O i j):∀ k,i+k<=A.length->(∀ t x,t<k->A[i+t]?=some x->∀ y∈B.drop j,nk x<=nk y)->Mi A B (O++(A.drop i).take k) (i+k) j
 | 0,_,_=>by rw[XA,VY];exact M
 | k+1,hk,h=>by
   have ih:=Mi.moreA hA M k (by omega) λt x ht=>h t x (by omega);have hx:=Uq (show i+k<A.length by omega);have:=ih.pushA hA hx (h k _ (by omega) hx);rw[VE]at this;have e:(A.drop i).take (k+1)=(A.drop i).take k++[A[i+k]]:=by rw[VZ,WG,hx];rfl
   rw[e];exact this
theorem Mi.moreB(hB:Up B)(M:Mi A B O i j):∀ k,j+k<=B.length->(∀ t x,t<k->B[j+t]?=some x->∀ y∈A.drop i,nk x<=nk y)->Mi A B (O++(B.drop j).take k) i (j+k)
 | 0,_,_=>by rw[XA,VY];exact M
 | k+1,hk,h=>by
   have ih:=Mi.moreB hB M k (by omega) λt x ht=>h t x (by omega);have hx:=Uq (show j+k<B.length by omega);have:=ih.pushB hB hx (h k _ (by omega) hx);rw[VE]at this;have e:(B.drop j).take (k+1)=(B.drop j).take k++[B[j+k]]:=by rw[VZ,WG,hx];rfl
   rw[e];exact this
theorem Cg{l:List Keyed}(h:Up l)(i:Nat):Up (l.drop i):=List.Pairwise.sublist (List.drop_sublist i l) h
theorem Mi.done(M:Mi A B O i j)(hA:Up A)(hj:B.length<=j):Res A B (O++A.drop i):=by
 refine⟨?_,M.so.app (Cg hA i) M.la⟩;have p:=M.pm;rw[Vt hj]at p;refine(p.append_right _).trans ?_;rw[VE];refine(List.Perm.append_left _ WQ).trans ?_;rw[<-VE,Vx]
theorem Mi.last(M:Mi A B O i j)(hB:Up B){x:Keyed}(hx:A[i]?=some x)(hi:i+1=A.length)(h:∀ y∈B,nk y<=nk x):Res A B (O++B.drop j++A.drop i):=by
 have dx:=Ak hx;rw[show A.drop (i+1)=[] from XO (by omega)]at dx;rw[dx];refine⟨?_,(M.so.app (Cg hB j) M.lb).app (Wx _ _) λa ha b hb=>?_⟩
 ·have p:=M.pm;have tA:A.take i++[x]=A:=by rw[<-Al hx,Vt (by omega)]
  refine((p.append_right (B.drop j)).append_right [x]).trans ?_;rw[VE (A.take i),Vx,VE];refine(List.Perm.append_left _ WQ).trans ?_;rw[<-VE,tA]
 ·rw[V3.mp hb];rcases VD.mp ha with ha | ha
  ·exact M.la a ha x (by rw[dx];exact List.mem_singleton_self _)
  ·exact h a (Wo ha)
end
section
variable{prog:YT}{w:YX}{A:YZ}{E:YK->YM->Prop}{s:YM}
theorem IC{st:SortSt}{x y:Keyed}{Q:Option Bool->SortSt->Prop}(hx:Ik x)(hy:Ik y)(hk:kindOf st=Z1)(h:Q (some (decide (nk x<nk y))) st):wpS (YS prog w) A E s (lt' x y) Q st:=by
 obtain⟨a,t,ea⟩:=hx;obtain⟨b,u,eb⟩:=hy;obtain⟨x1,x2⟩:=x;obtain⟨y1,y2⟩:=y;cases ea;cases eb;rw[lt'_eq];refine YO (wpS_get ?_);rw[hk,keyLt'_oneType];refine YO (ZU (wpAny_attempt (oneLt_int ⟨rfl,?_⟩)));exact YR h
theorem u9{st:SortSt}{a:Array Keyed}{i:Nat}{x:Keyed}{Q:Keyed->SortSt->Prop}(h:a.toList[i]?=some x)(q:Q x st):wpS (YS prog w) A E s (elem' a i) Q st:=by
 have e:a[i]?=some x:=by rw[<-Wk];exact h
 rw[elem'_eq,e];exact YR q
def bB(l:Bool)(k:Keyed)(L:List Keyed)(o n i:Nat):Bool:=match L[o+i]? with
 | some x=>decide (i<n)&&if l then decide (nk x<nk k) else !decide (nk k<nk x)
 | none=>false
theorem Nx{l:Bool}{k:Keyed}{L:List Keyed}{o n:Nat}(hL:∀ i j x y,o<=i->i<=j->j<o+n->L[i]?=some x->L[j]?=some y->nk x<=nk y)(hn:o+n<=L.length):∀ i j,i<=j->bB l k L o n j=true->bB l k L o n i=true:=by
 intro i j hij h;unfold bB at h ⊢;cases hj:L[o+j]? with
 | none=>rw[hj]at h;cases h
 | some y=>
   rw[hj]at h;simp only[Uo,dQ]at h;have hi:=Uq (show o+i<L.length by omega);rw[hi];have:=hL _ _ _ _ (by omega) (by omega) (by omega) hi hj;simp only[Uo,dQ];refine⟨by omega,?_⟩;cases l with
   | true=>simp only[if_true,dQ]at h ⊢;omega
   | false=>simp only[Vb,if_false,VM,decide_eq_false_iff_not]at h ⊢;omega
theorem Dz{st:SortSt}{l:Bool}{k:Keyed}{a:Array Keyed}{o n h:Nat}{Q:Option Nat->SortSt->Prop}(hk:kindOf st=Z1)(ik:Ik k)(ia:∀ x∈a.toList,Ik x)(hL:∀ i j x y,o<=i->i<=j->j<o+n->a.toList[i]?=some x->a.toList[j]?=some y->nk x<=nk y)(hn:o+n<=a.toList.length)(hh:h<n)
 (q:∀ c,Many (bB l k a.toList o n) n c->Q (some c) st):wpS (YS prog w) A E s (FJ l k a o n h) Q st:=by
 rw[RN];refine RO (b:=bB l k a.toList o n) (λi hi Q q=>?_) (Nx hL hn) hh q;have hx:=Uq (show o+i<a.toList.length by omega);unfold bey;refine YO (u9 hx ?_);have ix:=ia _ (Us hx);unfold bB at q;rw[hx]at q;cases l with
 | true=>
   rw[iP rfl];refine IC ix ik hk ?_;simpa[hi] using q
 | false=>
   rw[iG (by decide)];refine YO (IC ik ix hk (YR ?_));simpa[hi] using q
theorem u6{α:Type}{c:Prop}[Decidable c]{m1 m2:StateT SortSt Sem α}{Q:α->SortSt->Prop}{st:SortSt}(h1:c->wpS (YS prog w) A E s m1 Q st)(h2:¬c->wpS (YS prog w) A E s m2 Q st):wpS (YS prog w) A E s (if c then m1 else m2) Q st:=by
 split
 ·exact h1 ‹_›
 ·exact h2 ‹_›
theorem j7{α:Type}{c:Prop}[Decidable c]{m1 m2:StateT SortSt Sem α}{Q:α->SortSt->Prop}{st:SortSt}(h:c)(k:wpS (YS prog w) A E s m1 Q st):wpS (YS prog w) A E s (if c then m1 else m2) Q st:=by rw[iP h];exact k
theorem j8{α:Type}{c:Prop}[Decidable c]{m1 m2:StateT SortSt Sem α}{Q:α->SortSt->Prop}{st:SortSt}(h:¬c)(k:wpS (YS prog w) A E s m2 Q st):wpS (YS prog w) A E s (if c then m1 else m2) Q st:=by rw[iG h];exact k
end
def Tc:Array Keyed->Array Keyed->StateT SortSt Sem (Array Keyed):=sortPriv% PySem.Builtin.mergeLo
structure Ks(st z:SortSt):Prop where
 k:kindOf z=kindOf st
 a:arrOf z=arrOf st
 p:YY z=YY st
 f:Yi z=Yi st
theorem Ks.refl(st:SortSt):Ks st st:=⟨rfl,rfl,rfl,rfl⟩
theorem Ks.gal{st z:SortSt}(h:Ks st z)(g:Nat):Ks st (SortSt.mk' (kindOf z) (arrOf z) (YY z) g (Yi z)):=⟨h.k,h.a,h.p,h.f⟩
theorem A6(a:Array Keyed)(i j:Nat):(a.extract i j).toList=(a.toList.drop i).take (j - i):=by
 rw[Array.toList_extract,List.extract_eq_take_drop]
theorem EU(a:Array Keyed)(i:Nat):(a.extract i a.size).toList=a.toList.drop i:=by
 rw[A6,Vt (by rw[Vl,V5];exact Ux _)]
theorem Mi.nil(A B:List Keyed):Mi A B [] 0 0:=⟨.nil,.nil,(λ_ h=>nomatch h),λ_ h=>nomatch h⟩
abbrev LS:=Option (Array Keyed)×Array Keyed×Nat×Nat×Nat×Nat×Nat
abbrev dn(a b o:Array Keyed)(i j:Nat):Array Keyed:=o++a.extract i a.size++b.extract j b.size
abbrev ls(a b o:Array Keyed)(i j:Nat):Array Keyed:=o++b.extract j b.size++a.extract i a.size
def loC(a b o:Array Keyed)(i j g m k:Nat):StateT SortSt Sem (ForInStep LS):=do
 let x <- elem' a i
 if (i+1+1 == a.size)=true then pure (.done (some (ls a b (o.push x) (i+1) j),o.push x,i+1,j,g,m,k))
 else if (decide (m<7)&&decide (k<7))=true then pure (.done (none,o.push x,i+1,j,g,m,k))
 else pure (.yield (none,o.push x,i+1,j,g,m,k))
noncomputable def loB(a b o:Array Keyed)(i j g m n:Nat):StateT SortSt Sem (ForInStep LS):=do
 let x <- elem' b j
 if (j+1 == b.size)=true then pure (.done (some (dn a b (o.push x) i (j+1)),o.push x,i,j+1,g,m,n)) else do
  let y <- elem' a i
  match <- FJ true y b (j+1) (b.size - (j+1)) 0 with
  | some k=>(if k>0 then (if (j+1+k == b.size)=true then pure (.done (some (dn a b (o.push x++b.extract (j+1) (j+1+k)) i (j+1+k)),o.push x++b.extract (j+1) (j+1+k),i,j+1+k,g,m,k))
     else loC a b (o.push x++b.extract (j+1) (j+1+k)) i (j+1+k) g m k) else loC a b (o.push x) i (j+1) g m k)
  | _=>pure (.done (some (dn a b (o.push x) i (j+1)),o.push x,i,j+1,g,m,n))
noncomputable def loA(a b o:Array Keyed)(i j g m n:Nat):StateT SortSt Sem (ForInStep LS):=do
 modify λz=>SortSt.mk' (kindOf z) (arrOf z) (YY z) g (Yi z)
 let y <- elem' b j
 match <- FJ false y a i (a.size - i) 0 with
 | some k=>(if k>0 then (if (i+k+1 == a.size)=true then pure (.done (some (ls a b (o++a.extract i (i+k)) (i+k) j),o++a.extract i (i+k),i+k,j,g,k,n))
    else if (i+k == a.size)=true then pure (.done (some (dn a b (o++a.extract i (i+k)) (i+k) j),o++a.extract i (i+k),i+k,j,g,k,n))
    else loB a b (o++a.extract i (i+k)) (i+k) j g k n) else loB a b o i j g k n)
 | _=>pure (.done (some (dn a b o i j),o,i,j,g,m,n))
theorem CD{k:Keyed}{L:List Keyed}{o n c:Nat}(M:Many (bB false k L o n) n c){t:Nat}{x:Keyed}(hx:L[o+t]?=some x)(ht:t<n):(t<c->nk x<=nk k)/\(c<=t->nk k<nk x):=by
 constructor
 ·intro h;have:=M.yes t h;unfold bB at this;rw[hx]at this;simp[ht]at this;omega
 ·intro h;have:=M.no t h ht;unfold bB at this;rw[hx]at this;simp[ht]at this;omega
theorem D1{k:Keyed}{L:List Keyed}{o n c:Nat}(M:Many (bB true k L o n) n c){t:Nat}{x:Keyed}(hx:L[o+t]?=some x)(ht:t<n):(t<c->nk x<nk k)/\(c<=t->nk k<=nk x):=by
 constructor
 ·intro h;have:=M.yes t h;unfold bB at this;rw[hx]at this;simp[ht]at this;omega
 ·intro h;have:=M.no t h ht;unfold bB at this;rw[hx]at this;simp[ht]at this;omega
structure Two(a b:Array Keyed)(la:Keyed):Prop where
 ia:∀ x∈a.toList,Ik x
 ib:∀ x∈b.toList,Ik x
 hA:Up a.toList
 hB:Up b.toList
 hla:a.toList[a.size - 1]?=some la
 hlt:∀ y∈b.toList,nk y<nk la
section
variable{a b:Array Keyed}{la:Keyed}(T:Two a b la)
include T
theorem Two.gA{i:Nat}(h:i<a.size):∃ x,a.toList[i]?=some x/\Ik x:=by
 have e:=Uq (show i<a.toList.length by rw[V5];exact h);exact⟨_,e,T.ia _ (Us e)⟩
theorem Two.gB{i:Nat}(h:i<b.size):∃ x,b.toList[i]?=some x/\Ik x:=by
 have e:=Uq (show i<b.toList.length by rw[V5];exact h);exact⟨_,e,T.ib _ (Us e)⟩
theorem Two.fin{o:Array Keyed}{i j:Nat}(M:Mi a.toList b.toList o.toList i j)(hj:b.size<=j):Res a.toList b.toList (dn a b o i j).toList:=by
 have lb1:b.toList.length=b.size:=V5;unfold dn;rw[Vc,Vc,EU,EU,XO (as:=b.toList) (by omega),VY];exact M.done T.hA (by omega)
theorem Two.lst{o:Array Keyed}{i j:Nat}(M:Mi a.toList b.toList o.toList i j)(hi:i+1=a.size):Res a.toList b.toList (ls a b o i j).toList:=by
 have la1:a.toList.length=a.size:=V5;unfold ls;rw[Vc,Vc,EU,EU];have e:i=a.size - 1:=by omega
 subst e;exact M.last T.hB T.hla (by omega) λy hy=>Vq (T.hlt y hy)
end
@[elab_as_elim] theorem ex4{τ α β γ δ:Type}{f:α->β->γ->δ->τ}{R:α->β->γ->δ->Prop}{P:τ->Prop}(c:τ)(h:∃ x y z u,c=f x y z u/\R x y z u)(k:∀ x y z u,R x y z u->P (f x y z u)):P c:=by
  obtain⟨x,y,z,u,rfl,r⟩:=h;exact k x y z u r
@[elab_as_elim] theorem ex5{τ α β γ δ ε:Type}{f:α->β->γ->δ->ε->τ}{R:α->β->γ->δ->ε->Prop}{P:τ->Prop}(c:τ)(h:∃ x y z u v,c=f x y z u v/\R x y z u v)(k:∀ x y z u v,R x y z u v->P (f x y z u v)):P c:=by
  obtain⟨x,y,z,u,v,rfl,r⟩:=h;exact k x y z u v r
@[elab_as_elim] theorem ex6{τ α β γ δ ε ζ:Type}{f:α->β->γ->δ->ε->ζ->τ}{R:α->β->γ->δ->ε->ζ->Prop}{P:τ->Prop}(c:τ)(h:∃ x y z u v w,c=f x y z u v w/\R x y z u v w)(k:∀ x y z u v w,R x y z u v w->P (f x y z u v w)):P c:=by
  obtain⟨x,y,z,u,v,w,rfl,r⟩:=h;exact k x y z u v w r
@[elab_as_elim] theorem ex2{τ α β:Type}{f:α->β->τ}{R:α->β->Prop}{P:τ->Prop}(c:τ)(h:∃ x y,c=f x y/\R x y)(k:∀ x y,R x y->P (f x y)):P c:=by
  obtain⟨x,y,rfl,r⟩:=h;exact k x y r
def Ends(a b:Array Keyed)(st:SortSt)(x:Nat)(c:LS)(z:SortSt):Prop:=Ks st z/\((∃ r d,c=(some r,d)/\Res a.toList b.toList r.toList)\/∃ o i j g m n,c=(none,o,i,j,g,m,n)/\Mi a.toList b.toList o.toList i j/\i+1<a.size/\j<b.size/\x<=i+j)
def Ny(a b:Array Keyed)(st:SortSt)(x:Nat)(r:ForInStep LS)(z:SortSt):Prop:=match r with
 | .done c=>Ends a b st x c z
 | .yield c=>∃ o i j g m n,c=(none,o,i,j,g,m,n)/\Ks st z/\Mi a.toList b.toList o.toList i j/\i+1<a.size/\j<b.size/\x<=i+j
section
variable{prog:YT}{w:YX}{A:YZ}{E:YK->YM->Prop}{s:YM}{a b:Array Keyed}{la:Keyed}
theorem LD(T:Two a b la){st z:SortSt}{o:Array Keyed}{x i j g m k:Nat}(K:Ks st z)(M:Mi a.toList b.toList o.toList i j)(hi:i+1<a.size)(hj:j<b.size)(hx:x<=i+j)(h:∀ u,a.toList[i]?=some u->∀ y∈b.toList.drop j,nk u<=nk y):
 wpS (YS prog w) A E s (loC a b o i j g m k) (Ny a b st x) z:=by
 obtain⟨u,hu,iu⟩:=T.gA (i:=i) (by omega);unfold loC;refine YO (u9 hu ?_);have M':Mi a.toList b.toList (o.push u).toList (i+1) j:=by rw[Wl];exact M.pushA T.hA hu (h u hu)
 by_cases e:i+1+1=a.size
 ·refine j7 (by simpa using e) ?_;exact YR ⟨K,.inl ⟨_,_,rfl,T.lst M' e⟩⟩
 ·refine j8 (by simpa using e) ?_;by_cases f:(decide (m<7)&&decide (k<7))=true
  ·refine j7 f ?_;exact YR ⟨K,.inr ⟨_,_,_,_,_,_,rfl,M',by omega,hj,by omega⟩⟩
  ·refine j8 f ?_;exact YR ⟨_,_,_,_,_,_,rfl,K,M',by omega,hj,by omega⟩
theorem LF(T:Two a b la){st z:SortSt}(hk:kindOf st=Z1){o:Array Keyed}{x i j g m n:Nat}(K:Ks st z)(M:Mi a.toList b.toList o.toList i j)(hi:i+1<a.size)(hj:j<b.size)(hx:x<=i+j)(h:∀ u,b.toList[j]?=some u->∀ y∈a.toList.drop i,nk u<=nk y):
 wpS (YS prog w) A E s (loB a b o i j g m n) (Ny a b st x) z:=by
 have lb1:b.toList.length=b.size:=V5;obtain⟨u,hu,iu⟩:=T.gB hj;unfold loB;refine YO (u9 hu ?_);have M':Mi a.toList b.toList (o.push u).toList i (j+1):=by rw[Wl];exact M.pushB T.hB hu (h u hu)
 by_cases e:j+1=b.size
 ·refine j7 (by simpa using e) ?_;exact YR ⟨K,.inl ⟨_,_,rfl,T.fin M' (by omega)⟩⟩
 refine j8 (by simpa using e) ?_;obtain⟨v,hv,iv⟩:=T.gA (i:=i) (by omega);refine YO (u9 hv ?_);refine YO (Dz (K.k.trans hk) iv T.ib (λp q x y _ h2 _ h3 h4=>T.hB.get h3 h4 h2) (by omega) (by omega) λk Mk=>?_);have kl:=Mk.le
 have M2:=M'.moreB T.hB k (by omega) λt x ht hx y hy=>by
  have:=(D1 Mk hx (by omega)).1 ht;obtain⟨p,hp,e⟩:=k9 hy;exact Vh (Vq this) (T.hA.get hv e hp)
 have rest:∀ u',a.toList[i]?=some u'->∀ y∈b.toList.drop (j+1+k),nk u'<=nk y:=λu' hu' y hy=>by
  rw[hv]at hu';rw[<-oj hu'];obtain⟨p,hp,e⟩:=k9 hy;have pl:=(gM e).1;have e':b.toList[j+1+(p - (j+1))]?=some y:=by rw[show j+1+(p - (j+1))=p by omega];exact e
  exact(D1 Mk e' (by omega)).2 (by omega)
 dsimp only;by_cases k0:k>0
 ·refine j7 k0 ?_
  have M3:Mi a.toList b.toList (o.push u++b.extract (j+1) (j+1+k)).toList i (j+1+k):=by
   rw[Vc,A6,show j+1+k - (j+1)=k by omega];exact M2
  by_cases e2:j+1+k=b.size
  ·refine j7 (by simpa using e2) ?_;exact YR ⟨K,.inl ⟨_,_,rfl,T.fin M3 (by omega)⟩⟩
  ·refine j8 (by simpa using e2) ?_;exact LD T K M3 hi (by omega) (by omega) rest
 ·refine j8 k0 ?_;have:k=0:=by omega
  subst this;exact LD T K M' hi (by omega) (by omega) rest
theorem LG(T:Two a b la){st z:SortSt}(hk:kindOf st=Z1){o:Array Keyed}{x i j g m n:Nat}(K:Ks st z)(M:Mi a.toList b.toList o.toList i j)(hi:i+1<a.size)(hj:j<b.size)(hx:x<=i+j):
 wpS (YS prog w) A E s (loA a b o i j g m n) (Ny a b st x) z:=by
 have la1:a.toList.length=a.size:=V5;obtain⟨u,hu,iu⟩:=T.gB hj;unfold loA;refine YO (Yr ?_);have K:=K.gal g;refine YO (u9 hu ?_);refine YO (Dz (K.k.trans hk) iu T.ia (λp q x y _ h2 _ h3 h4=>T.hA.get h3 h4 h2) (by omega) (by omega) λk Mk=>?_);have kl:=Mk.le;have lt:=T.hlt u (Us hu)
 have kn:i+k<a.size:=by
  rcases W8 (i+k) a.size with z | z
  ·exact z
  ·have e:a.toList[i+(a.size - 1 - i)]?=some la:=by rw[show i+(a.size - 1 - i)=a.size - 1 by omega];exact T.hla
   have:=(CD Mk e (by omega)).1 (by omega);omega
 have M2:=M.moreA T.hA k (by omega) λt x ht hx y hy=>by
  have:=(CD Mk hx (by omega)).1 ht;obtain⟨p,hp,e⟩:=k9 hy;exact Vh this (T.hB.get hu e hp)
 have rest:∀ u',b.toList[j]?=some u'->∀ y∈a.toList.drop (i+k),nk u'<=nk y:=λu' hu' y hy=>by
  rw[hu]at hu';rw[<-oj hu'];obtain⟨p,hp,e⟩:=k9 hy;have pl:=(gM e).1;have e':a.toList[i+(p - i)]?=some y:=by rw[show i+(p - i)=p by omega];exact e
  exact Vq ((CD Mk e' (by omega)).2 (by omega))
 dsimp only;by_cases k0:k>0
 ·refine j7 k0 ?_
  have M3:Mi a.toList b.toList (o++a.extract i (i+k)).toList (i+k) j:=by
   rw[Vc,A6,show i+k - i=k by omega];exact M2
  by_cases e2:i+k+1=a.size
  ·refine j7 (by simpa using e2) ?_;exact YR ⟨K,.inl ⟨_,_,rfl,T.lst M3 e2⟩⟩
  ·refine j8 (by simpa using e2) ?_;refine j8 (by simp;omega) ?_;exact LF T hk K M3 (by omega) hj (by omega) rest
 ·refine j8 k0 ?_;have:k=0:=by omega
  subst this;exact LF T hk K M hi hj hx rest
end
section
variable{prog:YT}{w:YX}{A:YZ}{E:YK->YM->Prop}{s:YM}
theorem Td{a b:Array Keyed}{la:Keyed}(T:Two a b la){st:SortSt}{Q:Array Keyed->SortSt->Prop}(hk:kindOf st=Z1)(hb0:1<=b.size)(h00:∀ x y,a.toList[0]?=some x->b.toList[0]?=some y->nk y<=nk x)(q:∀ r z,Ks st z->Res a.toList b.toList r.toList->Q r z):wpS (YS prog w) A E s (Tc a b) Q st:=by
 have la1:a.toList.length=a.size:=V5;have lb1:b.toList.length=b.size:=V5;have ha0:1<=a.size:=by have:=(gM T.hla).1;omega
 obtain⟨b0,hb,_⟩:=T.gB (i:=0) (by omega)
 have M0:Mi a.toList b.toList (#[b0]:Array Keyed).toList 0 1:=(Mi.nil _ _).pushB T.hB hb λy hy=>by
  obtain⟨k,_,e⟩:=k9 hy;obtain⟨x,hx,_⟩:=T.gA (i:=0) (by omega);exact Vh (h00 x b0 hx hb) (T.hA.get hx e (by omega))
 refine YO (ZU (Yn ⟨rfl,?_⟩));refine YO (u9 hb ?_);refine u6 (λc1=>?_) λc1=>?_
 ·exact YR (q _ _ (Ks.refl st) (T.fin M0 (by simp at c1;omega)))
 refine u6 (λc2=>?_) λc2=>?_
 ·exact YR (q _ _ (Ks.refl st) (T.lst M0 (by simpa using c2)))
 replace c1:¬ 1=b.size:=by simpa using c1
 replace c2:¬ 0+1=a.size:=by simpa using c2
 refine YO (wpS_get ?_)
 refine YO (Yt (Yf (I:=λx c z=>∃ out i j g,c=(none,out,i,j,g)/\Ks st z/\Mi a.toList b.toList out.toList i j/\i+1<a.size/\j<b.size/\x<=i+j)
  (Q:=λc z=>∃ r d,c=(some r,d)/\Ks st z/\Res a.toList b.toList r.toList) ?out ?no ⟨#[b0],0,1,_,rfl,Ks.refl st,M0,by omega,by omega,by omega⟩) ?beh)
 case beh=>
  exact λc z h=>ex2 c h λr d h=>YR (q r z h.1 h.2)
 case no=>
  rintro c z ⟨out,i,j,g,rfl,K,M,h1,h2,h3⟩;omega
 case out=>
  refine λx c z _ hx h=>ex4 c h λout i j g h=>?_;dsimp only;have K:=h.1;have M:=h.2.1;have h1:=h.2.2.1;have h2:=h.2.2.2.1;have h3:=h.2.2.2.2;clear h
  refine YO (Yt (Yf (I:=λy c z=>∃ out i j m n,c=(none,out,i,j,m,n)/\Ks st z/\Mi a.toList b.toList out.toList i j/\i+1<a.size/\j<b.size/\x+y<=i+j)
   (Q:=λc z=>Ks st z/\((∃ r d,c=(some r,d)/\Res a.toList b.toList r.toList)\/∃ out i j m n,c=(none,out,i,j,m,n)/\Mi a.toList b.toList out.toList i j/\i+1<a.size/\j<b.size/\x+1<=i+j)) ?one ?none ⟨out,i,j,0,0,rfl,K,M,h1,h2,by omega⟩) ?two)
  case none=>
   rintro c z ⟨out,i,j,m,n,rfl,K,M,h1,h2,h3⟩;omega
  case one=>
   clear h1 h2 h3 M K;refine λy c z _ hy h=>ex5 c h λout i j m n h=>?_;dsimp only;have K:=h.1;have M:=h.2.1;have h1:=h.2.2.1;have h2:=h.2.2.2.1;have h3:=h.2.2.2.2;clear h;obtain⟨u,hu,iu⟩:=T.gB h2;obtain⟨v,hv,iv⟩:=T.gA (i:=i) (by omega);refine YO (u9 hu ?_);refine YO (u9 hv ?_);refine YO (IC iu iv (K.k.trans hk) ?_);refine u6 (λw=>?_) λw=>?_
   ·replace w:nk u<nk v:=by simpa using w
    refine YO (u9 hu ?_)
    have M':Mi a.toList b.toList (out.push u).toList i (j+1):=by
     rw[Wl];refine M.pushB T.hB hu λy hy=>?_;obtain⟨p,hp,e⟩:=k9 hy;exact Vh (Vq w) (T.hA.get hv e hp)
    refine u6 (λe=>?_) λe=>?_
    ·exact YR ⟨K,.inl ⟨_,_,rfl,T.fin M' (by simp at e;omega)⟩⟩
    replace e:¬ j+1=b.size:=by simpa using e
    refine u6 (λ_=>?_) λ_=>?_
    ·exact YR ⟨K,.inr ⟨_,_,_,_,_,rfl,M',h1,by omega,by omega⟩⟩
    ·exact YR ⟨_,_,_,_,_,rfl,K,M',h1,by omega,by omega⟩
   ·replace w:¬ nk u<nk v:=by simpa using w
    refine YO (u9 hv ?_)
    have M':Mi a.toList b.toList (out.push v).toList (i+1) j:=by
     rw[Wl];refine M.pushA T.hA hv λy hy=>?_;obtain⟨p,hp,e⟩:=k9 hy;exact Vh (Xi.mp w) (T.hB.get hu e hp)
    refine u6 (λe=>?_) λe=>?_
    ·exact YR ⟨K,.inl ⟨_,_,rfl,T.lst M' (by simpa using e)⟩⟩
    replace e:¬ i+1+1=a.size:=by simpa using e
    refine u6 (λ_=>?_) λ_=>?_
    ·exact YR ⟨K,.inr ⟨_,_,_,_,_,rfl,M',by omega,h2,by omega⟩⟩
    ·exact YR ⟨_,_,_,_,_,rfl,K,M',by omega,h2,by omega⟩
  case two=>
   clear h1 h2 h3 M K;refine λc z h=>h.2.elim (λR=>ex2 c R λr d R=>YR ⟨r,_,rfl,h.1,R⟩) λh'=>ex5 c h' λout i j m n M=>?_
   ·have K:=h.1;have h1:=M.2.1;have h2:=M.2.2.1;have h3:=M.2.2.2;replace M:=M.1;dsimp only;refine YO (ZU (Yn ⟨rfl,?_⟩))
    refine YO (Yt (Yf (I:=λy c z=>∃ o i j g m n,c=(none,o,i,j,g,m,n)/\Ks st z/\Mi a.toList b.toList o.toList i j/\i+1<a.size/\j<b.size/\x+1<=i+j)
     (Q:=Ends a b st (x+1)) ?aa ?bb ⟨_,_,_,_,_,_,rfl,K,M,h1,h2,h3⟩) ?cc)
    case aa=>
     clear h1 h2 h3 M K h;refine λy c z _ hy h=>ex6 c h λo i j g m n h=>?_;dsimp only;have K:=h.1;have M:=h.2.1;have h1:=h.2.2.1;have h2:=h.2.2.2.1;have h3:=h.2.2.2.2;refine Yt (Q:=Ny a b st (x+1)) ?_ λr z h=>?_
     ·refine u6 (λ_=>?_) λ_=>?_
      ·exact LG T hk (g:=g - 1) (m:=m) (n:=n) K M h1 h2 h3
      ·exact LG T hk (g:=g) (m:=m) (n:=n) K M h1 h2 h3
     ·cases r with
      | done c=>exact h
      | yield c=>exact h
    case bb=>
     rintro c z ⟨o,i,j,g,m,n,rfl,K,M,h1,h2,h3⟩;exact⟨K,.inr ⟨_,_,_,_,_,_,rfl,M,h1,h2,h3⟩⟩
    case cc=>
     refine λc z h=>h.2.elim (λR=>ex2 c R λr d R=>YR ⟨r,_,rfl,h.1,R⟩) λh'=>ex6 c h' λo i j g m n M=>?_;dsimp only;exact YO (Yr (YR ⟨o,i,j,_,rfl,h.1.gal _,M⟩))
end
def Te:Array Keyed->Array Keyed->StateT SortSt Sem (Array Keyed):=sortPriv% PySem.Builtin.mergeHi
structure Mh(A B O:List Keyed)(i j:Nat):Prop where
 pm:O.Perm (A.drop i++B.drop j)
 so:Up O
 la:∀ x∈O,∀ y∈A.take i,nk y<=nk x
 lb:∀ x∈O,∀ y∈B.take j,nk y<=nk x
section
variable{A B O:List Keyed}{i j:Nat}
theorem Up.cons{x:Keyed}{l:List Keyed}(a:Up l)(h:∀ y∈l,nk x<=nk y):Up (x::l):=X8.mpr ⟨h,a⟩
theorem Mh.pushA(M:Mh A B O (i+1) j)(hA:Up A){x:Keyed}(hx:A[i]?=some x)(h:∀ y∈B.take j,nk y<=nk x):Mh A B (x::O) i j:=by
 have tx:=Al hx;have mx:x∈A.take (i+1):=by rw[tx];simp
 refine⟨?_,M.so.cons λy hy=>M.la y hy x mx,λu hu y hy=>?_,λu hu y hy=>?_⟩
 ·rw[Ak hx];exact M.pm.cons x
 ·rcases VA.mp hu with e | hu
  ·rw[e];obtain⟨k,hk,e⟩:=m5 hy;exact hA.get e hx (by omega)
  ·exact M.la u hu y (by rw[tx];exact Vf _ hy)
 ·rcases VA.mp hu with e | hu
  ·rw[e];exact h y hy
  ·exact M.lb u hu y hy
theorem Mh.pushB(M:Mh A B O i (j+1))(hB:Up B){x:Keyed}(hx:B[j]?=some x)(h:∀ y∈A.take i,nk y<=nk x):Mh A B (x::O) i j:=by
 have tx:=Al hx;have mx:x∈B.take (j+1):=by rw[tx];simp
 refine⟨?_,M.so.cons λy hy=>M.lb y hy x mx,λu hu y hy=>?_,λu hu y hy=>?_⟩
 ·rw[Ak hx];exact(M.pm.cons x).trans List.perm_middle.symm
 ·rcases VA.mp hu with e | hu
  ·rw[e];exact h y hy
  ·exact M.la u hu y hy
 ·rcases VA.mp hu with e | hu
  ·rw[e];obtain⟨k,hk,e⟩:=m5 hy;exact hB.get e hx (by omega)
  ·exact M.lb u hu y (by rw[tx];exact Vf _ hy)
theorem Mh.moreA(hA:Up A){p:Nat}:∀ k {O:List Keyed},Mh A B O (p+k) j->p+k<=A.length->(∀ t x,p<=t->t<p+k->A[t]?=some x->∀ y∈B.take j,nk y<=nk x)->Mh A B ((A.drop p).take k++O) p j
 | 0,_,M,_,_=>M
 | k+1,_,M,hk,h=>by
   have hx:=Uq (show p+k<A.length by omega);have M1:=Mh.pushA (i:=p+k) M hA hx (h _ _ (by omega) (by omega) hx);have:=Mh.moreA hA k M1 (by omega) λt x h1 h2=>h t x h1 (by omega);have e:(A.drop p).take (k+1)=(A.drop p).take k++[A[p+k]]:=by rw[VZ,WG,hx];rfl
   rw[e,VE];exact this
theorem Mh.moreB(hB:Up B){p:Nat}:∀ k {O:List Keyed},Mh A B O i (p+k)->p+k<=B.length->(∀ t x,p<=t->t<p+k->B[t]?=some x->∀ y∈A.take i,nk y<=nk x)->Mh A B ((B.drop p).take k++O) i p
 | 0,_,M,_,_=>M
 | k+1,_,M,hk,h=>by
   have hx:=Uq (show p+k<B.length by omega);have M1:=Mh.pushB (j:=p+k) M hB hx (h _ _ (by omega) (by omega) hx);have:=Mh.moreB hB k M1 (by omega) λt x h1 h2=>h t x h1 (by omega);have e:(B.drop p).take (k+1)=(B.drop p).take k++[B[p+k]]:=by rw[VZ,WG,hx];rfl
   rw[e,VE];exact this
theorem BS{l:List Keyed}(h:Up l)(i:Nat):Up (l.take i):=List.Pairwise.sublist (Xj i l) h
theorem Px(A B O:List Keyed)(i j:Nat)(p:O.Perm (A.drop i++B.drop j)):(A.take i++B.take j++O).Perm (A++B):=by
 refine(List.Perm.append_left _ p).trans ?_;rw[VE];refine(List.Perm.append_left _ ?_).trans (l₂:=A.take i++(A.drop i++(B.take j++B.drop j))) ?_
 ·rw[<-VE,<-VE];exact List.Perm.append_right _ WQ
 ·rw[Vx,<-VE,Vx]
theorem Mh.done(M:Mh A B O i j)(hA:Up A)(hB:Up B)(h:i=0\/j=0):Res A B (A.take i++B.take j++O):=by
 refine⟨Px A B O i j M.pm,?_⟩;refine Up.app (Up.app (BS hA i) (BS hB j) λx hx y hy=>?_) M.so λx hx y hy=>?_
 ·rcases h with rfl | rfl
  ·cases hx
  ·cases hy
 ·rcases VD.mp hx with hx | hx
  ·exact M.la y hy x hx
  ·exact M.lb y hy x hx
theorem Mh.first(M:Mh A B O i j)(hA:Up A)(hB:Up B)(h:∀ x∈B.take j,∀ y∈A,nk x<=nk y):Res A B (B.take j++A.take i++O):=by
 refine⟨(List.Perm.append_right O WQ).trans (Px A B O i j M.pm),?_⟩;refine Up.app (Up.app (BS hB j) (BS hA i) λx hx y hy=>h x hx y (W5 hy)) M.so λx hx y hy=>?_;rcases VD.mp hx with hx | hx
 ·exact M.lb y hy x hx
 ·exact M.la y hy x hx
end
abbrev LH:=Option (Array Keyed)×Nat×Nat×Array Keyed×Nat×Nat×Nat
abbrev dh(a b o:Array Keyed)(i j:Nat):Array Keyed:=a.extract 0 i++b.extract 0 j++o.reverse
abbrev fh(a b o:Array Keyed)(i j:Nat):Array Keyed:=b.extract 0 j++a.extract 0 i++o.reverse
def hiC(a b o:Array Keyed)(i j g m k:Nat):StateT SortSt Sem (ForInStep LH):=do
 let x <- elem' a (i - 1)
 if (i - 1 == 0)=true then pure (.done (some (dh a b (o.push x) (i - 1) j),i - 1,j,o.push x,g,m,k))
 else if (decide (m<7)&&decide (k<7))=true then pure (.done (none,i - 1,j,o.push x,g,m,k))
 else pure (.yield (none,i - 1,j,o.push x,g,m,k))
noncomputable def hiB(a b o:Array Keyed)(i j g m n:Nat):StateT SortSt Sem (ForInStep LH):=do
 let x <- elem' b (j - 1)
 if (j - 1 == 1)=true then pure (.done (some (fh a b (o.push x) i (j - 1)),i,j - 1,o.push x,g,m,n)) else do
  let y <- elem' a (i - 1)
  match <- FJ true y b 0 (j - 1) (j - 1 - 1) with
  | some p=>(if j - 1 - p>0 then (if (p == 1)=true then pure (.done (some (fh a b (o.push x++(b.extract p (j - 1)).reverse) i p),i,p,o.push x++(b.extract p (j - 1)).reverse,g,m,j - 1 - p))
     else if (p == 0)=true then pure (.done (some (dh a b (o.push x++(b.extract p (j - 1)).reverse) i p),i,p,o.push x++(b.extract p (j - 1)).reverse,g,m,j - 1 - p))
     else hiC a b (o.push x++(b.extract p (j - 1)).reverse) i p g m (j - 1 - p)) else hiC a b (o.push x) i (j - 1) g m (j - 1 - p))
  | _=>pure (.done (some (dh a b (o.push x) i (j - 1)),i,j - 1,o.push x,g,m,n))
noncomputable def hiA(a b o:Array Keyed)(i j g m n:Nat):StateT SortSt Sem (ForInStep LH):=do
 modify λz=>SortSt.mk' (kindOf z) (arrOf z) (YY z) g (Yi z)
 let y <- elem' b (j - 1)
 match <- FJ false y a 0 i (i - 1) with
 | some p=>(if i - p>0 then (if (p == 0)=true then pure (.done (some (dh a b (o++(a.extract p i).reverse) p j),p,j,o++(a.extract p i).reverse,g,i - p,n))
    else hiB a b (o++(a.extract p i).reverse) p j g (i - p) n) else hiB a b o i j g (i - p) n)
 | _=>pure (.done (some (dh a b o i j),i,j,o,g,m,n))
def Py(a b:Array Keyed)(st:SortSt)(x:Nat)(c:LH)(z:SortSt):Prop:=Ks st z/\((∃ r d,c=(some r,d)/\Res a.toList b.toList r.toList)\/∃ i j o g m n,c=(none,i,j,o,g,m,n)/\Mh a.toList b.toList o.toList.reverse i j/\1<=i/\i<=a.size/\2<=j/\j<=b.size/\x+(i+j)<=a.size+b.size)
def Nz(a b:Array Keyed)(st:SortSt)(x:Nat)(r:ForInStep LH)(z:SortSt):Prop:=match r with
 | .done c=>Py a b st x c z
 | .yield c=>∃ i j o g m n,c=(none,i,j,o,g,m,n)/\Ks st z/\Mh a.toList b.toList o.toList.reverse i j/\1<=i/\i<=a.size/\2<=j/\j<=b.size/\x+(i+j)<=a.size+b.size
structure Tw(a b:Array Keyed)(fb:Keyed):Prop where
 ia:∀ x∈a.toList,Ik x
 ib:∀ x∈b.toList,Ik x
 hA:Up a.toList
 hB:Up b.toList
 hfb:b.toList[0]?=some fb
 hlt:∀ y∈a.toList,nk fb<nk y
section
variable{a b:Array Keyed}{fb:Keyed}(T:Tw a b fb)
include T
theorem Tw.gA{i:Nat}(h:i<a.size):∃ x,a.toList[i]?=some x/\Ik x:=by
 have e:=Uq (show i<a.toList.length by rw[V5];exact h);exact⟨_,e,T.ia _ (Us e)⟩
theorem Tw.gB{i:Nat}(h:i<b.size):∃ x,b.toList[i]?=some x/\Ik x:=by
 have e:=Uq (show i<b.toList.length by rw[V5];exact h);exact⟨_,e,T.ib _ (Us e)⟩
theorem Tw.fin{o:Array Keyed}{i j:Nat}(M:Mh a.toList b.toList o.toList.reverse i j)(h:i=0\/j=0):Res a.toList b.toList (dh a b o i j).toList:=by
 unfold dh;rw[Vc,Vc,A6,A6,X2,Wp,Wp,X6,X6];exact M.done T.hA T.hB h
theorem Tw.fst{o:Array Keyed}{i:Nat}(M:Mh a.toList b.toList o.toList.reverse i 1):Res a.toList b.toList (fh a b o i 1).toList:=by
 unfold fh;rw[Vc,Vc,A6,A6,X2,Wp,Wp,X6,X6];refine M.first T.hA T.hB λx hx y hy=>?_
 obtain⟨k,hk,e⟩:=m5 hx;rw[show k=0 by omega,T.hfb]at e;rw[<-oj e];exact Vq (T.hlt y hy)
end
theorem Bu(o:Array Keyed)(x:Keyed):(o.push x).toList.reverse=x::o.toList.reverse:=by rw[Wl,Xc];rfl
theorem ID(o a:Array Keyed)(p i:Nat):(o++(a.extract p i).reverse).toList.reverse=(a.toList.drop p).take (i - p)++o.toList.reverse:=by rw[Vc,Xc,X2,List.reverse_reverse,A6]
section
variable{prog:YT}{w:YX}{A:YZ}{E:YK->YM->Prop}{s:YM}{a b:Array Keyed}{fb:Keyed}
theorem LI(T:Tw a b fb){st z:SortSt}{o:Array Keyed}{x i j g m k:Nat}(K:Ks st z)(M:Mh a.toList b.toList o.toList.reverse i j)(h1:1<=i)(h2:i<=a.size)(h3:2<=j)(h4:j<=b.size)(hx:x+(i+j)<=a.size+b.size)(h:∀ u,a.toList[i - 1]?=some u->∀ y∈b.toList.take j,nk y<=nk u):
 wpS (YS prog w) A E s (hiC a b o i j g m k) (Nz a b st x) z:=by
 obtain⟨u,hu,iu⟩:=T.gA (i:=i - 1) (by omega);unfold hiC;refine YO (u9 hu ?_)
 have M':Mh a.toList b.toList (o.push u).toList.reverse (i - 1) j:=by
  rw[Bu];exact Mh.pushA (by rw[show i - 1+1=i by omega];exact M) T.hA hu (h u hu)
 by_cases e:i - 1=0
 ·refine j7 (by simpa using e) ?_;exact YR ⟨K,.inl ⟨_,_,rfl,T.fin M' (.inl e)⟩⟩
 ·refine j8 (by simpa using e) ?_;by_cases f:(decide (m<7)&&decide (k<7))=true
  ·refine j7 f ?_;exact YR ⟨K,.inr ⟨_,_,_,_,_,_,rfl,M',by omega,by omega,h3,h4,by omega⟩⟩
  ·refine j8 f ?_;exact YR ⟨_,_,_,_,_,_,rfl,K,M',by omega,by omega,h3,h4,by omega⟩
theorem LJ(T:Tw a b fb){st z:SortSt}(hk:kindOf st=Z1){o:Array Keyed}{x i j g m n:Nat}(K:Ks st z)(M:Mh a.toList b.toList o.toList.reverse i j)(h1:1<=i)(h2:i<=a.size)(h3:2<=j)(h4:j<=b.size)(hx:x+(i+j)<=a.size+b.size)(h:∀ u,b.toList[j - 1]?=some u->∀ y∈a.toList.take i,nk y<=nk u):
 wpS (YS prog w) A E s (hiB a b o i j g m n) (Nz a b st x) z:=by
 have lb1:b.toList.length=b.size:=V5;obtain⟨u,hu,iu⟩:=T.gB (i:=j - 1) (by omega);unfold hiB;refine YO (u9 hu ?_)
 have M':Mh a.toList b.toList (o.push u).toList.reverse i (j - 1):=by
  rw[Bu];exact Mh.pushB (by rw[show j - 1+1=j by omega];exact M) T.hB hu (h u hu)
 by_cases e:j - 1=1
 ·refine j7 (by simpa using e) ?_;rw[e]at M' ⊢;exact YR ⟨K,.inl ⟨_,_,rfl,T.fst M'⟩⟩
 refine j8 (by simpa using e) ?_;obtain⟨v,hv,iv⟩:=T.gA (i:=i - 1) (by omega);refine YO (u9 hv ?_);refine YO (Dz (K.k.trans hk) iv T.ib (λp q x y _ h2 _ h3 h4=>T.hB.get h3 h4 h2) (by omega) (by omega) λp Mk=>?_);have kl:=Mk.le
 have up:∀ t x,p<=t->t<j - 1->b.toList[t]?=some x->∀ y∈a.toList.take i,nk y<=nk x:=λt x a1 a2 hx y hy=>by
  obtain⟨c,hc,e⟩:=m5 hy;have:=(D1 Mk (t:=t) (by rw[W9];exact hx) a2).2 a1;exact Vh (T.hA.get e hv (by omega)) this
 have rest:∀ u',a.toList[i - 1]?=some u'->∀ y∈b.toList.take p,nk y<=nk u':=λu' hu' y hy=>by
  rw[hv]at hu';rw[<-oj hu'];obtain⟨c,hc,e⟩:=m5 hy;exact Vq ((D1 Mk (t:=c) (by rw[W9];exact e) (by omega)).1 hc)
 dsimp only;by_cases k0:j - 1 - p>0
 ·refine j7 k0 ?_
  have M3:Mh a.toList b.toList (o.push u++(b.extract p (j - 1)).reverse).toList.reverse i p:=by
   rw[ID];exact Mh.moreB T.hB (j - 1 - p) (by rw[show p+(j - 1 - p)=j - 1 by omega];exact M') (by omega) λt x a1 a2=>up t x a1 (by omega)
  by_cases e1:p=1
  ·refine j7 (by simpa using e1) ?_;subst e1;exact YR ⟨K,.inl ⟨_,_,rfl,T.fst M3⟩⟩
  refine j8 (by simpa using e1) ?_;by_cases e2:p=0
  ·refine j7 (by simpa using e2) ?_;exact YR ⟨K,.inl ⟨_,_,rfl,T.fin M3 (.inr e2)⟩⟩
  refine j8 (by simpa using e2) ?_;exact LI T K M3 h1 h2 (by omega) (by omega) (by omega) rest
 ·refine j8 k0 ?_;have:p=j - 1:=by omega
  subst this;exact LI T K M' h1 h2 (by omega) (by omega) (by omega) rest
theorem LK(T:Tw a b fb){st z:SortSt}(hk:kindOf st=Z1){o:Array Keyed}{x i j g m n:Nat}(K:Ks st z)(M:Mh a.toList b.toList o.toList.reverse i j)(h1:1<=i)(h2:i<=a.size)(h3:2<=j)(h4:j<=b.size)(hx:x+(i+j)<=a.size+b.size):
 wpS (YS prog w) A E s (hiA a b o i j g m n) (Nz a b st x) z:=by
 have la1:a.toList.length=a.size:=V5;obtain⟨u,hu,iu⟩:=T.gB (i:=j - 1) (by omega);unfold hiA;refine YO (Yr ?_);have K:=K.gal g;refine YO (u9 hu ?_);refine YO (Dz (K.k.trans hk) iu T.ia (λp q x y _ h2 _ h3 h4=>T.hA.get h3 h4 h2) (by omega) (by omega) λp Mk=>?_);have kl:=Mk.le
 have up:∀ t x,p<=t->t<i->a.toList[t]?=some x->∀ y∈b.toList.take j,nk y<=nk x:=λt x a1 a2 hx y hy=>by
  obtain⟨c,hc,e⟩:=m5 hy;have:=(CD Mk (t:=t) (by rw[W9];exact hx) a2).2 a1;exact Vh (T.hB.get e hu (by omega)) (Vq this)
 have rest:∀ u',b.toList[j - 1]?=some u'->∀ y∈a.toList.take p,nk y<=nk u':=λu' hu' y hy=>by
  rw[hu]at hu';rw[<-oj hu'];obtain⟨c,hc,e⟩:=m5 hy;exact(CD Mk (t:=c) (by rw[W9];exact e) (by omega)).1 hc
 dsimp only;by_cases k0:i - p>0
 ·refine j7 k0 ?_
  have M3:Mh a.toList b.toList (o++(a.extract p i).reverse).toList.reverse p j:=by
   rw[ID];exact Mh.moreA T.hA (i - p) (by rw[show p+(i - p)=i by omega];exact M) (by omega) λt x a1 a2=>up t x a1 (by omega)
  by_cases e2:p=0
  ·refine j7 (by simpa using e2) ?_;exact YR ⟨K,.inl ⟨_,_,rfl,T.fin M3 (.inl e2)⟩⟩
  refine j8 (by simpa using e2) ?_;exact LJ T hk K M3 (by omega) (by omega) h3 h4 (by omega) rest
 ·refine j8 k0 ?_;have:p=i:=by omega
  subst this;exact LJ T hk K M h1 h2 h3 h4 hx rest
end
theorem Mh.nil(A B:List Keyed):Mh A B [] A.length B.length:=⟨by rw[Ws,Ws];exact .refl _,List.Pairwise.nil,(λ_ h=>nomatch h),λ_ h=>nomatch h⟩
section
variable{prog:YT}{w:YX}{A:YZ}{E:YK->YM->Prop}{s:YM}
theorem Tf{a b:Array Keyed}{fb:Keyed}(T:Tw a b fb){st:SortSt}{Q:Array Keyed->SortSt->Prop}(hk:kindOf st=Z1)(ha0:1<=a.size)(hll:∀ x,a.toList[a.size - 1]?=some x->∀ y∈b.toList,nk y<=nk x)(q:∀ r z,Ks st z->Res a.toList b.toList r.toList->Q r z):wpS (YS prog w) A E s (Te a b) Q st:=by
 have la1:a.toList.length=a.size:=V5;have lb1:b.toList.length=b.size:=V5;have hb0:1<=b.size:=by have:=(gM T.hfb).1;omega
 obtain⟨a0,ha,_⟩:=T.gA (i:=a.size - 1) (by omega)
 have M0:Mh a.toList b.toList (#[a0]:Array Keyed).toList.reverse (a.size - 1) b.size:=by
  refine Mh.pushA (O:=[]) ?_ T.hA ha λy hy=>hll a0 ha y (W5 hy);have:=Mh.nil a.toList b.toList;rw[la1,lb1]at this;rw[show a.size - 1+1=a.size by omega];exact this
 refine YO (ZU (Yn ⟨rfl,?_⟩));refine YO (u9 ha ?_);refine u6 (λc1=>?_) λc1=>?_
 ·exact YR (q _ _ (Ks.refl st) (T.fin M0 (.inl (by simpa using c1))))
 replace c1:¬ a.size - 1=0:=by simpa using c1
 refine u6 (λc2=>?_) λc2=>?_
 ·replace c2:b.size=1:=by simpa using c2
  refine YR (q _ _ (Ks.refl st) ?_);rw[c2]at M0 ⊢;exact T.fst M0
 replace c2:¬ b.size=1:=by simpa using c2
 refine YO (wpS_get ?_)
 refine YO (Yt (Yf (I:=λx c z=>∃ i j out g,c=(none,i,j,out,g)/\Ks st z/\Mh a.toList b.toList out.toList.reverse i j/\1<=i/\i<=a.size/\2<=j/\j<=b.size/\x+(i+j)<=a.size+b.size)
  (Q:=λc z=>∃ r d,c=(some r,d)/\Ks st z/\Res a.toList b.toList r.toList) ?out ?no ⟨a.size - 1,b.size,#[a0],_,rfl,Ks.refl st,M0,by omega,by omega,by omega,by omega,by omega⟩) ?beh)
 case beh=>
  exact λc z h=>ex2 c h λr d h=>YR (q r z h.1 h.2)
 case no=>
  rintro c z ⟨i,j,out,g,rfl,K,M,h1,h2,h3,h4,h5⟩;omega
 case out=>
  refine λx c z _ hx h=>ex4 c h λi j out g h=>?_;dsimp only;have K:=h.1;have M:=h.2.1;have h1:=h.2.2.1;have h2:=h.2.2.2.1;have h3:=h.2.2.2.2.1;have h4:=h.2.2.2.2.2.1;have h5:=h.2.2.2.2.2.2;clear h
  refine YO (Yt (Yf (I:=λy c z=>∃ i j out m n,c=(none,i,j,out,m,n)/\Ks st z/\Mh a.toList b.toList out.toList.reverse i j/\1<=i/\i<=a.size/\2<=j/\j<=b.size/\x+y+(i+j)<=a.size+b.size)
   (Q:=λc z=>Ks st z/\((∃ r d,c=(some r,d)/\Res a.toList b.toList r.toList)\/∃ i j out m n,c=(none,i,j,out,m,n)/\Mh a.toList b.toList out.toList.reverse i j/\1<=i/\i<=a.size/\2<=j/\j<=b.size/\x+1+(i+j)<=a.size+b.size)) ?one ?none ⟨i,j,out,0,0,rfl,K,M,h1,h2,h3,h4,by omega⟩) ?two)
  case none=>
   rintro c z ⟨i,j,out,m,n,rfl,K,M,h1,h2,h3,h4,h5⟩;omega
  case one=>
   clear h1 h2 h3 h4 h5 M K;refine λy c z _ hy h=>ex5 c h λi j out m n h=>?_;dsimp only;have K:=h.1;have M:=h.2.1;have h1:=h.2.2.1;have h2:=h.2.2.2.1;have h3:=h.2.2.2.2.1;have h4:=h.2.2.2.2.2.1;have h5:=h.2.2.2.2.2.2;clear h;obtain⟨u,hu,iu⟩:=T.gB (i:=j - 1) (by omega);obtain⟨v,hv,iv⟩:=T.gA (i:=i - 1) (by omega);refine YO (u9 hu ?_);refine YO (u9 hv ?_);refine YO (IC iu iv (K.k.trans hk) ?_);refine u6 (λw=>?_) λw=>?_
   ·replace w:nk u<nk v:=by simpa using w
    refine YO (u9 hv ?_)
    have M':Mh a.toList b.toList (out.push v).toList.reverse (i - 1) j:=by
     rw[Bu];refine Mh.pushA (by rw[show i - 1+1=i by omega];exact M) T.hA hv λy hy=>?_;obtain⟨p,hp,e⟩:=m5 hy;exact Vh (T.hB.get e hu (by omega)) (Vq w)
    refine u6 (λe=>?_) λe=>?_
    ·exact YR ⟨K,.inl ⟨_,_,rfl,T.fin M' (.inl (by simpa using e))⟩⟩
    replace e:¬ i - 1=0:=by simpa using e
    refine u6 (λ_=>?_) λ_=>?_
    ·exact YR ⟨K,.inr ⟨_,_,_,_,_,rfl,M',by omega,by omega,h3,h4,by omega⟩⟩
    ·exact YR ⟨_,_,_,_,_,rfl,K,M',by omega,by omega,h3,h4,by omega⟩
   ·replace w:¬ nk u<nk v:=by simpa using w
    refine YO (u9 hu ?_)
    have M':Mh a.toList b.toList (out.push u).toList.reverse i (j - 1):=by
     rw[Bu];refine Mh.pushB (by rw[show j - 1+1=j by omega];exact M) T.hB hu λy hy=>?_;obtain⟨p,hp,e⟩:=m5 hy;exact Vh (T.hA.get e hv (by omega)) (Xi.mp w)
    refine u6 (λe=>?_) λe=>?_
    ·replace e:j - 1=1:=by simpa using e
     rw[e]at M' ⊢;exact YR ⟨K,.inl ⟨_,_,rfl,T.fst M'⟩⟩
    replace e:¬ j - 1=1:=by simpa using e
    refine u6 (λ_=>?_) λ_=>?_
    ·exact YR ⟨K,.inr ⟨_,_,_,_,_,rfl,M',h1,h2,by omega,by omega,by omega⟩⟩
    ·exact YR ⟨_,_,_,_,_,rfl,K,M',h1,h2,by omega,by omega,by omega⟩
  case two=>
   clear h1 h2 h3 h4 h5 M K;refine λc z h=>h.2.elim (λR=>ex2 c R λr d R=>YR ⟨r,_,rfl,h.1,R⟩) λh'=>ex5 c h' λi j out m n M=>?_
   ·have K:=h.1;have h1:=M.2.1;have h2:=M.2.2.1;have h3:=M.2.2.2.1;have h4:=M.2.2.2.2.1;have h5:=M.2.2.2.2.2;replace M:=M.1;dsimp only;refine YO (ZU (Yn ⟨rfl,?_⟩))
    refine YO (Yt (Yf (I:=λy c z=>∃ i j o g m n,c=(none,i,j,o,g,m,n)/\Ks st z/\Mh a.toList b.toList o.toList.reverse i j/\1<=i/\i<=a.size/\2<=j/\j<=b.size/\x+1+(i+j)<=a.size+b.size)
     (Q:=Py a b st (x+1)) ?aa ?bb ⟨_,_,_,_,_,_,rfl,K,M,h1,h2,h3,h4,h5⟩) ?cc)
    case aa=>
     clear h1 h2 h3 h4 h5 M K h;refine λy c z _ hy h=>ex6 c h λi j o g m n h=>?_;dsimp only;have K:=h.1;have M:=h.2.1;have h1:=h.2.2.1;have h2:=h.2.2.2.1;have h3:=h.2.2.2.2.1;have h4:=h.2.2.2.2.2.1;have h5:=h.2.2.2.2.2.2;clear h;refine Yt (Q:=Nz a b st (x+1)) ?_ λr z h=>?_
     ·refine u6 (λ_=>?_) λ_=>?_
      ·exact LK T hk (g:=g - 1) (m:=m) (n:=n) K M h1 h2 h3 h4 h5
      ·exact LK T hk (g:=g) (m:=m) (n:=n) K M h1 h2 h3 h4 h5
     ·cases r with
      | done c=>exact h
      | yield c=>exact h
    case bb=>
     exact λc z h=>ex6 c h λi j o g m n h=>⟨h.1,.inr ⟨_,_,_,_,_,_,rfl,h.2⟩⟩
    case cc=>
     refine λc z h=>h.2.elim (λR=>ex2 c R λr d R=>YR ⟨r,_,rfl,h.1,R⟩) λh'=>ex6 c h' λi j o g m n M=>?_;dsimp only;exact YO (Yr (YR ⟨i,j,o,_,rfl,h.1.gal _,M⟩))
end
theorem RP(i:Nat):mergeAt' i=(do
 let s <- get
 let (some (sa,na,power),some (sb,nb,_)):=((YY s)[i]?,(YY s)[i+1]?) | unsupported "internal:list.sort.pending"
 set (Zh s (((YY s).setIfInBounds i (sa,na+nb,power)).eraseIdxIfInBounds (i+1)))
 let some k <- FJ false (<- elem' (arrOf s) sb) (arrOf s) sa na 0 | return false
 let (sa,na):=(sa+k,na - k)
 if na == 0 then return true
 let some nb <- FJ true (<- elem' (arrOf s) (sa+na - 1)) (arrOf s) sb nb (nb - 1) | return false
 if nb == 0 then return true
 let x:=(arrOf s).extract sa sb
 let y:=(arrOf s).extract sb (sb+nb)
 let merged <- if na<=nb then Tc x y else Te x y
 modify λs=>setArr s (merged.toList.zipIdx.foldl (λa (p,j)=>a.setIfInBounds (sa+j) p) (arrOf s))
 return (Yi (<- get)).isNone):=rfl
theorem IE(sa:Nat):∀(m M:List Keyed) (o:Nat) (P S:List Keyed) (a:Array Keyed),a.toList=P++(M++S)->m.length=M.length->P.length=sa+o->
 ((m.zipIdx o).foldl (λa (x:Keyed×Nat)=>a.setIfInBounds (sa+x.2) x.1) a).toList=P++(m++S)
 | [],[],_,_,_,_,e,_,_=>e
 | p::m,x::M,o,P,S,a,e,hl,hp=>by
   rw[List.zipIdx_cons,Xy]
   have:=IE sa m M (o+1) (P++[p]) S (a.setIfInBounds (sa+o) p) (by
    rw[Array.toList_setIfInBounds,e,<-hp,List.set_append_right _ _ (Ux _),YF,VE];rfl) (by simpa using hl) (by rw[Ut,hp];rfl)
   rw[this,VE];rfl
 | [],_::_,_,_,_,_,_,h,_=>by simp at h
 | _::_,[],_,_,_,_,_,h,_=>by simp at h
structure Ru(L1 L2:List Keyed)(st:SortSt):Prop where
 k:kindOf st=Z1
 f:Yi st=none
 a:(arrOf st).toList=L1++L2
 u1:Up L1
 u2:Up L2
 ik:∀ x∈L1++L2,Ik x
structure Fi(L:List Keyed)(st:SortSt):Prop where
 f:Yi st=none
 a:(arrOf st).toList.Perm L
 u:Up (arrOf st).toList
 p:(YY st).size<=1
section
variable{prog:YT}{w:YX}{A:YZ}{E:YK->YM->Prop}{s:YM}
theorem RQ{L1 L2:List Keyed}{st:SortSt}{pw p2:Nat}{Q:Bool->SortSt->Prop}(R:Ru L1 L2 st)(h1:1<=L1.length)(h2:1<=L2.length)(hp:YY st=#[(0,L1.length,pw),(L1.length,L2.length,p2)])
 (q:∀ z,Fi (L1++L2) z->Q true z):wpS (YS prog w) A E s (mergeAt' 0) Q st:=by
 rw[RP];refine YO (wpS_get ?_);have e1:(YY st)[0]?=some (0,L1.length,pw):=by rw[hp];rfl
 have e2:(YY st)[0+1]?=some (L1.length,L2.length,p2):=by rw[hp];rfl
 simp only[e1,e2];refine YO (Yr (f:=λ_=>Zh st (((YY st).setIfInBounds 0 (0,L1.length+L2.length,pw)).eraseIdxIfInBounds (0+1))) ?_);generalize hz:Zh st (((YY st).setIfInBounds 0 (0,L1.length+L2.length,pw)).eraseIdxIfInBounds (0+1))=z0;have zk:kindOf z0=Z1:=by rw[<-hz];exact R.k
 have za:arrOf z0=arrOf st:=by rw[<-hz]
 have zf:Yi z0=none:=by rw[<-hz];exact R.f
 have zp:(YY z0).size<=1:=by
  rw[<-hz];show(((YY st).setIfInBounds 0 (0,L1.length+L2.length,pw)).eraseIdxIfInBounds (0+1)).size<=1;rw[hp];simp[Array.eraseIdxIfInBounds]
 have ll:(arrOf st).toList.length=L1.length+L2.length:=by rw[R.a,Ut]
 have ls:(arrOf st).size=L1.length+L2.length:=by rw[<-V5];exact ll
 have gA:∀{i x},L1[i]?=some x->(arrOf st).toList[i]?=some x:=λ{i x} h=>by
  rw[R.a,V9 (gM h).1];exact h
 have gB:∀{i x},L2[i]?=some x->(arrOf st).toList[L1.length+i]?=some x:=λ{i x} h=>by
  rw[R.a,VL (by omega),show L1.length+i - L1.length=i by omega];exact h
 have gA':∀{i x},i<L1.length->(arrOf st).toList[i]?=some x->L1[i]?=some x:=λ{i x} h e=>by
  rw[R.a,V9 h]at e;exact e
 have gB':∀{i x},L1.length<=i->(arrOf st).toList[i]?=some x->L2[i - L1.length]?=some x:=λ{i x} h e=>by
  rw[R.a,VL h]at e;exact e
 have ik:∀ x∈(arrOf st).toList,Ik x:=λx hx=>R.ik x (by rw[<-R.a];exact hx);have hb0:=Uq (show 0<L2.length by omega);have hal:=Uq (show L1.length - 1<L1.length by omega);generalize L2[0]=b0 at hb0;generalize L1[L1.length - 1]=al at hal;have ib0:=ik b0 (Us (gB hb0));have ial:=ik al (Us (gA hal));have whole:(∀ x∈L1,∀ y∈L2,nk x<=nk y)->Fi (L1++L2) z0:=λh=>⟨zf,by rw[za,R.a],by rw[za,R.a];exact R.u1.app R.u2 h,zp⟩
 refine YO (u9 (by have:=gB hb0;rwa [YE]at this) ?_);refine YO (Dz zk ib0 ik (λi j x y _ a1 a2 a3 a4=>R.u1.get (gA' (by omega) a3) (gA' (by omega) a4) a1) (by omega) (by omega) λk Mk=>?_);have kl:=Mk.le;have fy:∀ t x,L1[t]?=some x->(t<k->nk x<=nk b0)/\(k<=t->nk b0<nk x):=λt x hx=>CD Mk (t:=t) (by rw[W9];exact gA hx) (gM hx).1;dsimp only;by_cases c1:L1.length - k=0
 ·refine j7 (by simpa using c1) ?_;refine YR (q _ (whole λx hx y hy=>?_));obtain⟨i,hi⟩:=Vg hx;obtain⟨j,hj⟩:=Vg hy;have:=(gM hi).1;exact Vh ((fy i x hi).1 (by omega)) (R.u2.get hb0 hj (by omega))
 refine j8 (by simpa using c1) ?_;refine YO (u9 (by rw[show 0+k+(L1.length - k) - 1=L1.length - 1 by omega];exact gA hal) ?_);refine YO (Dz zk ial ik (λi j x y a0 a1 a2 a3 a4=>R.u2.get (gB' (by omega) a3) (gB' (by omega) a4) (by omega)) (by omega) (by omega) λm Mm=>?_);have ml:=Mm.le;have sy:∀ t x,L2[t]?=some x->(t<m->nk x<nk al)/\(m<=t->nk al<=nk x):=λt x hx=>D1 Mm (t:=t) (gB hx) (gM hx).1;dsimp only;by_cases c2:m=0
 ·refine j7 (by simpa using c2) ?_;refine YR (q _ (whole λx hx y hy=>?_));obtain⟨i,hi⟩:=Vg hx;obtain⟨j,hj⟩:=Vg hy;have:=(gM hi).1;exact Vh (R.u1.get hi hal (by omega)) ((sy j y hj).2 (by omega))
 refine j8 (by simpa using c2) ?_
 have ex:((arrOf st).extract (0+k) L1.length).toList=L1.drop k:=by
  rw[A6,R.a,W9,List.drop_append_of_le_length kl,List.take_append_of_le_length (by rw[Vl];exact Ux _),Vt (by rw[Vl];exact Ux _)]
 have ey:((arrOf st).extract L1.length (L1.length+m)).toList=L2.take m:=by
  rw[A6,R.a,List.drop_left,show L1.length+m - L1.length=m by omega]
 have sx:((arrOf st).extract (0+k) L1.length).size=L1.length - k:=by rw[<-V5,ex,Vl]
 have sY:((arrOf st).extract L1.length (L1.length+m)).size=m:=by rw[<-V5,ey,VN];omega
 generalize (arrOf st).extract (0+k) L1.length=x at ex sx ⊢;generalize (arrOf st).extract L1.length (L1.length+m)=y at ey sY ⊢;have ia:∀ u∈x.toList,Ik u:=λu hu=>R.ik u (Vf _ (Wo (by rw[<-ex];exact hu)));have ib:∀ u∈y.toList,Ik u:=λu hu=>R.ik u (VX _ (W5 (by rw[<-ey];exact hu)));have hA:Up x.toList:=by rw[ex];exact Cg R.u1 k
 have hB:Up y.toList:=by rw[ey];exact BS R.u2 m
 have xa:x.toList[x.size - 1]?=some al:=by rw[ex,WG,sx,show k+(L1.length - k - 1)=L1.length - 1 by omega];exact hal
 have yb:y.toList[0]?=some b0:=by rw[ey,X9,iP (by omega)];exact hb0
 have lt1:∀ u∈y.toList,nk u<nk al:=λu hu=>by
  rw[ey]at hu;obtain⟨i,hi,e⟩:=m5 hu;exact(sy i u e).1 hi
 have lt2:∀ u∈x.toList,nk b0<nk u:=λu hu=>by
  rw[ex]at hu;obtain⟨i,hi,e⟩:=k9 hu;exact(fy i u e).2 hi
 have fin:∀(r:Array Keyed) (z:SortSt),Ks z0 z->Res x.toList y.toList r.toList->Q true (setArr z (r.toList.zipIdx.foldl (λa (p:Keyed×Nat)=>a.setIfInBounds (0+k+p.2) p.1) (arrOf z))):=λr z K Rs=>by
  have pr:=Rs.1;have ur:=Rs.2;rw[ex,ey]at pr;have lr:r.toList.length=(L1.drop k++L2.take m).length:=pr.length_eq
  have ez:(arrOf z).toList=L1.take k++((L1.drop k++L2.take m)++L2.drop m):=by
   rw[K.a,za,R.a,VE,Vx,<-VE,Vx]
  have bk:=IE (0+k) r.toList (L1.drop k++L2.take m) 0 (L1.take k) (L2.drop m) (arrOf z) ez lr (by rw[VN];omega);have mr:∀ u∈r.toList,u∈L1.drop k\/u∈L2.take m:=λu hu=>VD.mp (pr.mem_iff.mp hu);refine q _ ⟨K.f.trans zf,?_,?_,by show(YY z).size<=1;rw[K.p];exact zp⟩
  ·show(r.toList.zipIdx.foldl (λa (p:Keyed×Nat)=>a.setIfInBounds (0+k+p.2) p.1) (arrOf z)).toList.Perm _;rw[bk];refine((pr.append_right (L2.drop m)).append_left (L1.take k)).trans ?_;rw[<-ez,K.a,za,R.a]
  ·show Up (r.toList.zipIdx.foldl (λa (p:Keyed×Nat)=>a.setIfInBounds (0+k+p.2) p.1) (arrOf z)).toList;rw[bk];refine(BS R.u1 k).app (ur.app (Cg R.u2 m) ?_) ?_
   ·intro u hu v hv;obtain⟨j,hj,ej⟩:=k9 hv;rcases mr u hu with h | h
    ·obtain⟨i,hi,ei⟩:=k9 h;have:=(gM ei).1;exact Vh (R.u1.get ei hal (by omega)) ((sy j v ej).2 hj)
    ·obtain⟨i,hi,ei⟩:=m5 h;exact R.u2.get ei ej (by omega)
   ·intro u hu v hv;obtain⟨i,hi,ei⟩:=m5 hu;have a1:=(fy i u ei).1 hi;rcases VD.mp hv with hv | hv
    ·rcases mr v hv with h | h
     ·obtain⟨j,hj,ej⟩:=k9 h;exact R.u1.get ei ej (by omega)
     ·obtain⟨j,hj,ej⟩:=m5 h;exact Vh a1 (R.u2.get hb0 ej (by omega))
    ·obtain⟨j,hj,ej⟩:=k9 hv;exact Vh a1 (R.u2.get hb0 ej (by omega))
 have tail:∀(r:Array Keyed) (z:SortSt),Ks z0 z->Res x.toList y.toList r.toList->wpS (YS prog w) A E s (do
  modify λs=>setArr s (r.toList.zipIdx.foldl (λa (p,j)=>a.setIfInBounds (0+k+j) p) (arrOf s))
  return (Yi (<- get)).isNone) Q z:=λr z K Rs=>by
  refine YO (Yr (YO (wpS_get (YR ?_))));have:=fin r z K Rs;have e:(Yi z).isNone=true:=by rw[K.f,zf];rfl
  show Q (Yi z).isNone _;rw[e];exact this
 by_cases c3:L1.length - k<=m
 ·refine j7 c3 ?_;refine YO (Td (la:=al) ⟨ia,ib,hA,hB,xa,lt1⟩ zk (by omega) (λu v a1 a2=>?_) λr z K Rs=>tail r z K Rs);rw[yb]at a2;rw[<-oj a2];exact Vq (lt2 u (Us a1))
 ·refine j8 c3 ?_;refine YO (Tf (fb:=b0) ⟨ia,ib,hA,hB,yb,lt2⟩ zk (by omega) (λu a1 v hv=>?_) λr z K Rs=>tail r z K Rs);rw[xa]at a1;rw[<-oj a1];exact Vq (lt1 v hv)
end
theorem IF{xs:Array Keyed}{i:Nat}{x:Keyed}(h:xs.toList[i]?=some x):K xs i=nk x:=by
 rw[Wk]at h;unfold K;rw[h];rfl
theorem Pz{xs:Array Keyed}{lo k:Nat}(h:Sg xs lo k):Up ((xs.toList.drop lo).take k):=by
 refine Wt.mpr λi j hi hj hij=>?_;have a1:=Uq hi;have a2:=Uq hj;have jk:j<k:=by rw[VN]at hj;omega
 rw[X9,iP (by omega),WG]at a1 a2;rw[<-IF a1,<-IF a2];exact h i j (by omega) jk
theorem Th{xs:Array Keyed}(h:Up xs.toList):ZV xs xs.size:=λi j hij hj=>by
 have a1:=Uq (show i<xs.toList.length by rw[V5];omega);have a2:=Uq (show j<xs.toList.length by rw[V5];omega);rw[IF a1,IF a2];exact h.get a1 a2 hij
theorem Sg.pre{xs ys:Array Keyed}{n:Nat}(h:Sg xs 0 n)(e:∀ i,i<n->ys[i]?=xs[i]?):Sg ys 0 n:=λi j hij hj=>by
 have k:∀ i,i<n->K ys (0+i)=K xs (0+i):=λi hi=>by unfold K;rw[W9,e i hi]
 rw[k i (by omega),k j hj];exact h i j hij hj
structure Lv(a₀:Array Keyed)(st:SortSt):Prop where
 perm:(arrOf st).Perm a₀
 kind:kindOf st=Z1
 failed:Yi st=none
 runs:((YY st).size<=1/\ZV (arrOf st) a₀.size)\/∃ n1 pw,1<=n1/\n1<a₀.size/\YY st=#[(0,n1,pw),(n1,a₀.size - n1,0)]/\Sg (arrOf st) 0 n1/\Sg (arrOf st) n1 (a₀.size - n1)
section
variable{prog:YT}{w:YX}{A:YZ}{E:YK->YM->Prop}{s:YM}{a₀:Array Keyed}
theorem Lv.one{st:SortSt}(h:Sb a₀ a₀ 0 #[] st)(g:Sg (arrOf st) 0 a₀.size):Lv a₀ (Zh st ((YY st).push (0,a₀.size,0))):=
 ⟨h.perm,h.kind,h.failed,.inl ⟨by show((YY st).push _).size<=1;rw[h.pend];exact Ux 1,λi j hij hj=>by have:=g i j hij hj;rwa [W9,W9]at this⟩⟩
theorem LL{st:SortSt}{Q:Bool->SortSt->Prop}(h0:IntKeys a₀){n1 pw:Nat}(h1:1<=n1)(h2:n1<a₀.size)(L:Lv a₀ st)(hp:YY st=#[(0,n1,pw),(n1,a₀.size - n1,0)])(g1:Sg (arrOf st) 0 n1)(g2:Sg (arrOf st) n1 (a₀.size - n1))
 (q:∀ z,(arrOf z).Perm a₀->Yi z=none->ZV (arrOf z) a₀.size->(YY z).size<=1->Q true z):wpS (YS prog w) A E s (mergeAt' 0) Q st:=by
 have sz:(arrOf st).toList.length=a₀.size:=by rw[V5];exact L.perm.size_eq
 have l1:((arrOf st).toList.take n1).length=n1:=by rw[VN];omega
 have l2:((arrOf st).toList.drop n1).length=a₀.size - n1:=by rw[Vl];omega
 have e:=Vx n1 (arrOf st).toList;refine RQ (L1:=(arrOf st).toList.take n1) (L2:=(arrOf st).toList.drop n1) (pw:=pw) (p2:=0) ⟨L.kind,L.failed,e.symm,?_,?_,?_⟩ (by omega) (by omega) (by rw[l1,l2];exact hp) λz F=>?_
 ·have:=Pz g1;rwa [Wp]at this
 ·have:=Pz g2;rwa [Vt (by omega)]at this
 ·intro x hx;rw[e]at hx;exact h0 x (L.perm.toList.mem_iff.mp hx)
 ·have pm:(arrOf z).toList.Perm a₀.toList:=by have:=F.a;rw[e]at this;exact this.trans L.perm.toList
  have pz:(arrOf z).Perm a₀:=Array.perm_iff_toList_perm.mpr pm;have:=Th F.u;rw[pz.size_eq]at this;exact q z pz F.f this F.p
theorem O0{st:SortSt}{Q:Unit->SortSt->Prop}(h0:IntKeys a₀)(hB:SBase a₀ st)(h64:64<=a₀.size)(h128:a₀.size<128)
 (h:∀ st',(arrOf st').Perm a₀->Yi st'=none->ZV (arrOf st') a₀.size->Q () st'):wpS (YS prog w) A E s sortRuns' Q st:=by
 rw[sortRuns'_eq];refine YO (wpS_get ?_);dsimp only
 obtain⟨mr,hmr,m1,m2⟩:∃ mr,minRun' a₀.size a₀.size 0=mr/\a₀.size<=2 * mr/\1<=mr/\mr<a₀.size:=by
  refine⟨a₀.size / 2+max 0 (a₀.size % 2),?_,by omega,by omega,by omega⟩;obtain⟨f,hf⟩:∃ f,a₀.size=f+1+1:=⟨a₀.size - 2,by omega⟩
  have:minRun' (f+1+1) a₀.size 0=a₀.size / 2+max 0 (a₀.size % 2):=by rw[minRun'_succ,iG (by omega),minRun'_succ,iP (by omega)]
  rwa [<-hf]at this
 simp only[hB.size,hmr];have S0:Sb a₀ a₀ 0 #[] st:=⟨hB.perm,hB.kind,hB.failed,hB.pend,λi hi=>by omega⟩
 refine YO (Yt (Yf
  (I:=λx c z=>(x=0/\c=(none,0)/\Sb a₀ a₀ 0 #[] z)\/(x=1/\∃ n1,c=(none,n1)/\mr<=n1/\n1<a₀.size/\Sb a₀ (arrOf z) n1 #[(0,n1,0)] z/\Sg (arrOf z) 0 n1)\/(1<=x/\c=(none,a₀.size)/\Lv a₀ z))
  (Q:=λc z=>c=(none,a₀.size)/\Lv a₀ z) ?step ?fin (.inl ⟨rfl,rfl,S0⟩)) ?post)
 case fin=>
  rintro c z (⟨hx,_,_⟩ | ⟨hx,_⟩ | ⟨_,hc,hD⟩)
  ·omega
  ·omega
  ·exact⟨hc,hD⟩
 case step=>
  rintro x c z _ hx (⟨rfl,rfl,hB'⟩ | ⟨rfl,n1,rfl,hn1,hn2,hB',g1⟩ | ⟨hx1,rfl,hD⟩)
  ·dsimp only;refine j8 (by omega) ?_
   have go:∀ n z,Sb a₀ a₀ 0 #[] z->mr<=n->n<=a₀.size->Sg (arrOf z) 0 n->wpS (YS prog w) A E s (do
    modify λs=>Zh s ((YY s).push (0,n,0))
    pure (ForInStep.yield ((none:Option Unit),0+n))) (λr st'=>match r with
    | .done b=>b=(none,a₀.size)/\Lv a₀ st'
    | .yield b=>(0+1=0/\b=(none,0)/\Sb a₀ a₀ 0 #[] st')\/(0+1=1/\∃ n1,b=(none,n1)/\mr<=n1/\n1<a₀.size/\Sb a₀ (arrOf st') n1 #[(0,n1,0)] st'/\Sg (arrOf st') 0 n1)\/(1<=0+1/\b=(none,a₀.size)/\Lv a₀ st')) z:=λn z S a1 a2 g=>by
    refine YO (Yr (YR ?_));by_cases e:n=a₀.size
    ·subst e;exact .inr (.inr ⟨by omega,by rw[W9],Lv.one S g⟩)
    ·exact .inr (.inl ⟨rfl,n,by rw[W9],a1,by omega,⟨S.perm,S.kind,S.failed,by show(YY z).push _=_;rw[S.pend];rfl,λ_ _=>rfl⟩,g⟩)
   refine YO (LB h0 (by omega) (by omega) hB' λm z2 S2 a1 a2 g2=>?_);dsimp only;by_cases hlt:m<mr
   ·refine j7 hlt ?_;refine YO (ZU (Yn ⟨rfl,?_⟩));refine YO (L9 h0 (by omega) (by omega) S2 g2 λz3 S3 g3=>?_);rw[iG (by decide)];refine YO (wpS_get ?_);have hb:(YY z3).back?=none:=by rw[S3.pend];rfl
    rw[hb];dsimp only;exact go _ z3 S3 (by omega) (by omega) g3
   ·refine j8 hlt ?_;refine YO (wpS_get ?_);have hb:(YY z2).back?=none:=by rw[S2.pend];rfl
    rw[hb];dsimp only;exact go _ z2 S2 (by omega) (by omega) g2
  ·dsimp only;refine j8 (by omega) ?_;refine YO (LB h0 (by omega) (by omega) hB' λm z2 S2 a1 a2 g2=>?_);dsimp only;by_cases hlt:m<mr
   ·refine j7 hlt ?_;refine YO (ZU (Yn ⟨rfl,?_⟩));refine YO (L9 h0 (by omega) (by omega) S2 g2 λz3 S3 g3=>?_);rw[iG (by decide)];refine YO (wpS_get ?_);have hb:(YY z3).back?=some (0,n1,0):=by rw[S3.pend];rfl
    rw[hb];dsimp only;have e:min (a₀.size - n1) mr=a₀.size - n1:=by omega
    refine YO (Yt (Yf (I:=λ_ c z''=>z''=z3/\c=(none,())) (Q:=λc z''=>z''=z3/\c=(none,())) ?_ (λ_ _ hh=>hh) ⟨rfl,rfl⟩) ?_)
    ·rintro y c z'' _ _ ⟨rfl,rfl⟩;refine YO (wpS_get ?_);rw[iG (by rw[S3.pend];exact WH 1)];exact YR ⟨rfl,rfl⟩
    ·rintro c z'' ⟨rfl,rfl⟩;refine YO (Yr (YO (Yr (YR ?_))));refine .inr (.inr ⟨by omega,by rw[e,show n1+(a₀.size - n1)=a₀.size by omega],S3.perm,S3.kind,S3.failed,.inr ⟨n1,power' a₀.size (2 * 0+n1) (2 * 0+n1+n1+min (a₀.size - n1) mr) a₀.size,by omega,hn2,?_,g1.pre S3.pre,by rw[<-e];exact g3⟩⟩);show((YY _).modify ((YY _).size - 1) _).push (n1,min (a₀.size - n1) mr,0)=_;rw[S3.pend];generalize power' a₀.size (2 * 0+n1) (2 * 0+n1+n1+min (a₀.size - n1) mr) a₀.size=pw;rw[e];rfl
   ·refine j8 hlt ?_;refine YO (wpS_get ?_);have hb:(YY z2).back?=some (0,n1,0):=by rw[S2.pend];rfl
    rw[hb];dsimp only;have e:m=a₀.size - n1:=by omega
    refine YO (Yt (Yf (I:=λ_ c z''=>z''=z2/\c=(none,())) (Q:=λc z''=>z''=z2/\c=(none,())) ?_ (λ_ _ hh=>hh) ⟨rfl,rfl⟩) ?_)
    ·rintro y c z'' _ _ ⟨rfl,rfl⟩;refine YO (wpS_get ?_);rw[iG (by rw[S2.pend];exact WH 1)];exact YR ⟨rfl,rfl⟩
    ·rintro c z'' ⟨rfl,rfl⟩;refine YO (Yr (YO (Yr (YR ?_))));refine .inr (.inr ⟨by omega,by rw[e,show n1+(a₀.size - n1)=a₀.size by omega],S2.perm,S2.kind,S2.failed,.inr ⟨n1,power' a₀.size (2 * 0+n1) (2 * 0+n1+n1+m) a₀.size,by omega,hn2,?_,g1.pre S2.pre,by rw[<-e];exact g2⟩⟩);show((YY _).modify ((YY _).size - 1) _).push (n1,m,0)=_;rw[S2.pend];generalize power' a₀.size (2 * 0+n1) (2 * 0+n1+n1+m) a₀.size=pw;rw[e];rfl
  ·dsimp only;refine j7 (Ux _) ?_;exact YR ⟨rfl,hD⟩
 case post=>
  rintro c z ⟨rfl,hD⟩;dsimp only
  refine YO (Yt (Yf (I:=λx c z=>c=(none,())/\((x=0/\Lv a₀ z)\/((arrOf z).Perm a₀/\Yi z=none/\ZV (arrOf z) a₀.size/\(YY z).size<=1)))
   (Q:=λc z=>c=(none,())/\(arrOf z).Perm a₀/\Yi z=none/\ZV (arrOf z) a₀.size) ?one ?two ⟨rfl,.inl ⟨rfl,hD⟩⟩) ?beh)
  case two=>
   rintro c z ⟨rfl,⟨e,_⟩ | ⟨b1,b2,b3,b4⟩⟩
   ·omega
   ·exact⟨rfl,b1,b2,b3⟩
  case beh=>
   rintro c z ⟨rfl,b1,b2,b3⟩;exact YR (h _ b1 b2 b3)
  case one=>
   have stop:∀ z,(arrOf z).Perm a₀->Yi z=none->ZV (arrOf z) a₀.size->(YY z).size<=1->True:=λ_ _ _ _ _=>trivial;rintro x c z _ _ ⟨rfl,⟨rfl,L⟩ | ⟨b1,b2,b3,b4⟩⟩
   ·refine YO (wpS_get ?_);rcases L.runs with⟨r1,r2⟩ | ⟨n1,pw,r1,r2,r3,r4,r5⟩
    ·refine j7 r1 ?_;exact YR ⟨rfl,L.perm,L.failed,r2⟩
    ·rw[iG (by rw[r3];exact(by decide:¬ (2:Nat)<=1))];have ei:(YY z).size - 2=0:=by rw[r3];rfl
     rw[ei];refine YO (LL h0 r1 r2 L r3 r4 r5 λz' c1 c2 c3 c4=>?_);exact YR ⟨rfl,.inr ⟨c1,c2,c3,c4⟩⟩
   ·refine YO (wpS_get ?_);refine j7 b4 ?_;exact YR ⟨rfl,b1,b2,b3⟩
end
section
variable{prog:YT}{w:YX}{A:YZ}{E:YK->YM->Prop}{s:YM}
theorem JU{a:YN}{vs:List YK}{ns:List Int}{n:Nat}{P:Fin->YM->Prop}(ho:s.heap.get? a=some (seqObj "list" vs.toArray n))(hI:IntsAre vs ns)(h64:64<=vs.length)(h128:vs.length<128)
 (h:∀(out:Array YK) (ns':List Int),IntsAre out.toList ns'->ns'.Perm ns->ns'.Pairwise (·<=·)->P (.done (.ret .none)) {s with heap:=sortedHeap s.heap a vs out}):
 YV (YS prog w) A (Builtin.«list.sort» ⟨[.ref a],[]⟩) P E s:=by
 rw[list_sort_plain];refine YL (listItems_at ho rfl (YL (listUpdate_at ho rfl ?_)));obtain⟨e1,ho1⟩:∃ e1,(s.heap.update a (Obj.mapSeq λ_=>#[])).get? a=some (seqObj "list" #[] e1):=⟨_,get?_update_seq ho (λ_=>#[])⟩
 refine YL (seqEpoch_at ho1 rfl (YL (wpAny_newTuple (YL (wpAny_newList (Yh ?_))))))
 have ho6:(((s.heap.update a (Obj.mapSeq λ_=>#[])).push (seqObj "tuple" vs.toArray 0)).push (seqObj "list" #[] 0)).get? a=some (seqObj "list" #[] e1):=
  Uw _ (Uw _ ho1)
 show YV (YS prog w) A _ P E {s with heap:=((s.heap.update a (Obj.mapSeq λ_=>#[])).push (seqObj "tuple" vs.toArray 0)).push (seqObj "list" #[] 0)};dsimp only;have c:¬ vs.toArray.size<2:=by simp;omega
 rw[iG c,iG c]
 match vs,hI,h64 with
 | v::u::vs,hI,h64=>
   rw[keyKind_ints hI];refine YL (YQ ?_)
   refine YL (Yy (O0 (a₀:=pairsOf (v::u::vs)) (st:=SortSt.mk' Z1 (pairsOf (v::u::vs)) #[] 7 none)
    (Q:=λ_ z=>(arrOf z).Perm (pairsOf (v::u::vs))/\Yi z=none/\ZV (arrOf z) (pairsOf (v::u::vs)).size)
    hI.intKeys ⟨Array.Perm.refl _,rfl,rfl,rfl⟩ (by rw[A01];exact h64) (by rw[A01];exact h128) λz a1 a2 a3=>⟨a1,a2,a3⟩) ?_ λ_ _ e=>e)
   rintro⟨⟨⟩,z⟩ s' ⟨rfl,hp,hf,hs⟩;obtain⟨ns',b1,b2,b3⟩:=sorted_out hI hp hs;dsimp only;refine YL (seqEpoch_at ho6 rfl (YL (listUpdate_at ho6 rfl ?_ (hsz2:=by refine VF (YD ((Array.size_map ..).trans (hp.size_eq.trans (A01 _)))) ?_;rw[A05];omega))));rw[hf];simp only[bne_self_eq_false,Vb,if_false];exact YQ (h _ ns' b1 b2 b3)
theorem LM{a:YN}{vs:List YK}{ns:List Int}{n:Nat}{P:Fin->YM->Prop}(ho:s.heap.get? a=some (seqObj "list" vs.toArray n))(hI:IntsAre vs ns)(h128:vs.length<128)
 (h:∀(out:Array YK) (ns':List Int),IntsAre out.toList ns'->ns'.Perm ns->ns'.Pairwise (·<=·)->P (.done (.ret .none)) {s with heap:=sortedHeap s.heap a vs out}):
 YV (YS prog w) A (Builtin.«list.sort» ⟨[.ref a],[]⟩) P E s:=by
 rcases W8 vs.length 64 with c | c
 ·exact list_sort_tree ho hI c h
 ·exact JU ho hI c h128 h
theorem sorted_all{l:YN}{vs:List YK}{ns:List Int}{Q:YK->YM->Prop}(hl:s.heap.IsList l vs.toArray)(hI:IntsAre vs ns)(h128:vs.length<128)
 (h:∀(out:Array YK) (ns':List Int),IntsAre out.toList ns'->ns'.Perm ns->ns'.Pairwise (·<=·)->Q (.ref (s.heap.objs.size+1)) {s with heap:=sortedAll s.heap vs out}):
 YV (YS prog w) A (call (.builtin "sorted") [.ref l]) Q E s:=by
 refine Calls.call_function_entry kind_sorted plain_sorted entry_sorted (args_sorted1 _) ?_;unfold Builtin.«sorted»;refine YL (m:=checkCount "sorted" 1 1 _) (YQ (YL (collect_list hl (YL (wpAny_newList ?_)))));have hz:((s.heap.push (seqObj "list" #[] 0)).update s.heap.objs.size (Obj.mapSeq (·++vs.toArray))).objs.size=s.heap.objs.size+1:=by rw[Heap.size_update,size_push']
 have hg:(((s.heap.push (seqObj "list" #[] 0)).update s.heap.objs.size (Obj.mapSeq (·++vs.toArray))).push (seqObj "list" vs.toArray 0)).get? (s.heap.objs.size+1)=some (seqObj "list" vs.toArray 0):=by
  rw[<-hz];exact V8 _ rfl
 show YV _ _ _ _ _ {s with heap:=((s.heap.push (seqObj "list" #[] 0)).update s.heap.objs.size (Obj.mapSeq (·++vs.toArray))).push (seqObj "list" vs.toArray 0)};rw[hz];exact YL (Yh (ZA slot_list_sort ⟨_,hg,rfl⟩ entry_list_sort (LM hg hI h128 λout ns' a1 a2 a3=>⟨_,rfl,YQ ⟨_,rfl,h out ns' a1 a2 a3⟩⟩) (args_list_sort _)))
end
end Srt
namespace L2
open PySem PySem.Spec PyProof.Rows
section
variable{X:Cx}
theorem EV:CallR X (.builtin "sorted") (λxs H Q=>∃ p ns,xs=[.ref p]/\SqL X.K H p (ns.map V.int)/\ns.length<128/\∀ l,H l=none->Q (.ref l) (upd H l (.lst ((srt ns).map V.int)))):=by
 intro pq s σ H xs us Q I r h;obtain⟨p,ns,rfl,hq,hb,q⟩:=h;obtain⟨u,rfl,rx⟩:=AW r;cases rx;obtain⟨its,r',pl,hz⟩:=I.list hq;have hlen:=r'.length;rw[Ur]at hlen;refine Srt.sorted_all pl.isList (Bt r') (by omega) λout ns' a1 a2 a3=>?_;obtain⟨e,he⟩:=sortedAll_at s.heap its out;have en:=RJ a2 a3;subst en;refine⟨.ref (s.heap.objs.size+1),_,I.laid (t':=s.toks) (λb o h=>sortedAll_old h) (XG _) (show ObjOk X.prog X.w _ _ _ (.lst ((srt ns).map V.int)) from ⟨?_,out.toList,e,Dy a1,by simpa using he⟩),rfl,q _ (I.hok.fresh (XG _))⟩;rw[Ur,a2.length_eq];exact VF (XN hb) (by decide)
end
end L2
namespace Rf
open PySem L2
inductive TyN where
 | int | bool | str | list | tuple | none
 deriving DecidableEq
def TyN.nm:TyN->String
 | .int=>"int" | .bool=>"bool" | .str=>"str" | .list=>"list" | .tuple=>"tuple" | .none=>"NoneType"
inductive SV where
 | non | bl (b:Bool) | int (i:Int) | str (x:Str) | tup (xs:List SV) | loc (k:Nat) | ro (xs:List SV) | ty (t:TyN)
inductive SO where
 | lst (xs:List SV)
 | iset (ms:List Int)
 | dtp (kvs:List ((Int×Int)×Int)) | dtl (kvs:List (List Int×SV)) | dtf (o:Obj) (us:List (List Key×V)) (kvs:List (List Int×SV)) | dct (kvs:List (Int×SV)) | dcf (o:Obj) (ks:List (Key×V)) (kvs:List (Int×SV))
abbrev Sto:=List SO
abbrev EnvS:=List (Option SV)
def FzL(K:Um)(H:Hp)(a:YN)(vs:List V):Prop:=(∃ o,H a=some (.frz o (.lst vs)))\/
 ∃(o:Obj) (its:Array YK) (n:Nat),K.lookup a=some o/\o.cls = .type "list"/\o.dict=none/\o.data = .seq its n/\its.size<=YU/\Vals vs its.toList
theorem FzL.sq{K:Um}{H:Hp}{a:YN}{vs:List V}(h:FzL K H a vs):SqL K H a vs:=h.imp (λ⟨o,e⟩ => .inr ⟨o,e⟩) id
mutual
noncomputable def Rl(K:Um)(as:List YN)(H:Hp):V->SV->Prop
 | v,.non=>v = .non
 | v,.bl b=>v = .bl b
 | v,.int i=>v = .int i
 | v,.str x=>v = .str x
 | v,.tup xs=>∃ p vs,v = .ref p/\H p=some (.tup vs)/\RlAll K as H vs xs
 | v,.loc k=>∃ a,as[k]?=some a/\v = .ref a
 | v,.ro xs=>∃ a vs,v = .ref a/\FzL K H a vs/\RlAll K as H vs xs
 | v,.ty t=>v = .ty t.nm
noncomputable def RlAll(K:Um)(as:List YN)(H:Hp):List V->List SV->Prop
 | vs,[]=>vs=[]
 | vs,x::xs=>∃ v r,vs=v::r/\Rl K as H v x/\RlAll K as H r xs
end
def imm:HO->Bool
 | .tup _=>true
 | .frz _ (.lst _)=>true
 | _=>false
def KeepU(H H':Hp):Prop:=∀ b o,H b=some o->imm o=true->H' b=some o
theorem KeepU.refl(H:Hp):KeepU H H:=λ_ _ h _=>h
theorem KeepU.trans{H H' H'':Hp}(a:KeepU H H')(b:KeepU H' H''):KeepU H H'':=λx o h i=>b x o (a x o h i) i
theorem Am{H:Hp}{p:YN}{o:HO}(hp:H p=none):KeepU H (upd H p o):=λb u h _=>by
 rw[upd_ne (g7 h hp)];exact h
theorem CF{H:Hp}{a:YN}{u o:HO}(h:H a=some u)(i:imm u=false):KeepU H (upd H a o):=λb v hb iv=>by
 rw[upd_ne (Pj hb h (by intro z;rw[z,i]at iv;cases iv))];exact hb
theorem FzL.mono{K:Um}{H H':Hp}{a:YN}{vs:List V}(k:KeepU H H')(h:FzL K H a vs):FzL K H' a vs:=h.imp (λ⟨o,e⟩=>⟨o,k _ _ e rfl⟩) id
theorem EW{α:Type}{as as':List α}(h:as <+: as'){k:Nat}{a:α}(e:as[k]?=some a):as'[k]?=some a:=by
 obtain⟨t,rfl⟩:=h;rw[V9 ((gM e).1)];exact e
mutual
theorem Rl.mono{K:Um}{as as':List YN}{H H':Hp}(ha:as <+: as')(hH:KeepU H H'):∀(x:SV) (v:V),Rl K as H v x->Rl K as' H' v x
 | .non,v,h=>by unfold Rl at h ⊢;exact h
 | .bl _,v,h=>by unfold Rl at h ⊢;exact h
 | .int _,v,h=>by unfold Rl at h ⊢;exact h
 | .str _,v,h=>by unfold Rl at h ⊢;exact h
 | .tup xs,v,h=>by
   unfold Rl at h ⊢;obtain⟨p,vs,e,hp,h⟩:=h;exact⟨p,vs,e,hH p _ hp rfl,RlAll.mono ha hH xs vs h⟩
 | .ro xs,v,h=>by
   unfold Rl at h ⊢;obtain⟨p,vs,e,hp,h⟩:=h;exact⟨p,vs,e,hp.mono hH,RlAll.mono ha hH xs vs h⟩
 | .ty _,v,h=>by unfold Rl at h ⊢;exact h
 | .loc k,v,h=>by
   unfold Rl at h ⊢;obtain⟨a,e,z⟩:=h;exact⟨a,EW ha e,z⟩
theorem RlAll.mono{K:Um}{as as':List YN}{H H':Hp}(ha:as <+: as')(hH:KeepU H H'):∀(xs:List SV) (vs:List V),RlAll K as H vs xs->RlAll K as' H' vs xs
 | [],vs,h=>by unfold RlAll at h ⊢;exact h
 | x::xs,vs,h=>by
   unfold RlAll at h ⊢;obtain⟨v,r,e,h1,h2⟩:=h;exact⟨v,r,e,Rl.mono ha hH x v h1,RlAll.mono ha hH xs r h2⟩
end
section
variable{K:Um}{as:List YN}{H:Hp}
theorem rl_non{v:V}:Rl K as H v .non↔v = .non:=by unfold Rl;exact Iff.rfl
theorem rl_bl{v:V}{b:Bool}:Rl K as H v (.bl b)↔v = .bl b:=by unfold Rl;exact Iff.rfl
theorem rl_int{v:V}{i:Int}:Rl K as H v (.int i)↔v = .int i:=by unfold Rl;exact Iff.rfl
theorem rl_str{v:V}{x:Str}:Rl K as H v (.str x)↔v = .str x:=by unfold Rl;exact Iff.rfl
theorem rl_tup{v:V}{xs:List SV}:Rl K as H v (.tup xs)↔∃ p vs,v = .ref p/\H p=some (.tup vs)/\RlAll K as H vs xs:=by rw[Rl]
theorem rl_loc{v:V}{k:Nat}:Rl K as H v (.loc k)↔∃ a,as[k]?=some a/\v = .ref a:=by unfold Rl;exact Iff.rfl
theorem rl_ro{v:V}{xs:List SV}:Rl K as H v (.ro xs)↔∃ a vs,v = .ref a/\FzL K H a vs/\RlAll K as H vs xs:=by rw[Rl]
theorem rl_ty{v:V}{n:TyN}:Rl K as H v (.ty n)↔v = .ty n.nm:=by unfold Rl;exact Iff.rfl
theorem rla_nil{vs:List V}:RlAll K as H vs []↔vs=[]:=by unfold RlAll;exact Iff.rfl
theorem rla_cons{vs:List V}{x:SV}{xs:List SV}:RlAll K as H vs (x::xs)↔∃ v r,vs=v::r/\Rl K as H v x/\RlAll K as H r xs:=by rw[RlAll]
theorem RlAll.nil:RlAll K as H [] []:=rla_nil.mpr rfl
theorem RlAll.cons{v:V}{x:SV}{vs:List V}{xs:List SV}(h:Rl K as H v x)(t:RlAll K as H vs xs):RlAll K as H (v::vs) (x::xs):=rla_cons.mpr ⟨v,vs,rfl,h,t⟩
theorem RlAll.length:∀{xs:List SV} {vs:List V},RlAll K as H vs xs->vs.length=xs.length
 | [],_,h=>by rw[rla_nil.mp h];rfl
 | x::xs,_,h=>by
   obtain⟨v,r,rfl,_,t⟩:=rla_cons.mp h;simp[t.length]
theorem RlAll.get:∀{xs:List SV} {vs:List V} {i:Nat} {x:SV},RlAll K as H vs xs->xs[i]?=some x->∃ v,vs[i]?=some v/\Rl K as H v x
 | [],_,i,_,_,e=>by simp at e
 | y::xs,_,0,_,h,e=>by
   obtain⟨v,r,rfl,a,_⟩:=rla_cons.mp h;simp at e;subst e;exact⟨v,rfl,a⟩
 | y::xs,_,i+1,_,h,e=>by
   obtain⟨v,r,rfl,_,t⟩:=rla_cons.mp h;simpa using t.get (by simpa using e)
theorem RlAll.get'{xs:List SV}{vs:List V}{i:Nat}{v:V}(h:RlAll K as H vs xs)(e:vs[i]?=some v):∃ x,xs[i]?=some x/\Rl K as H v x:=by
 have hl:i<xs.length:=by rw[<-h.length];exact(gM e).1
 obtain⟨v',e',r⟩:=h.get (Uq hl);rw[e]at e';cases e';exact⟨_,Uq hl,r⟩
theorem RlAll.append:∀{xs ys:List SV} {vs us:List V},RlAll K as H vs xs->RlAll K as H us ys->RlAll K as H (vs++us) (xs++ys)
 | [],_,_,_,h,h'=>by rw[rla_nil.mp h];exact h'
 | x::xs,_,_,_,h,h'=>by
   obtain⟨v,r,rfl,a,t⟩:=rla_cons.mp h;exact .cons a (t.append h')
theorem RlAll.take:∀{xs:List SV} {vs:List V} (n:Nat),RlAll K as H vs xs->RlAll K as H (vs.take n) (xs.take n)
 | _,_,0,_=>by simpa using RlAll.nil
 | [],_,n+1,h=>by rw[rla_nil.mp h];exact .nil
 | x::xs,_,n+1,h=>by
   obtain⟨v,r,rfl,a,t⟩:=rla_cons.mp h;exact .cons a (t.take n)
theorem RlAll.drop:∀{xs:List SV} {vs:List V} (n:Nat),RlAll K as H vs xs->RlAll K as H (vs.drop n) (xs.drop n)
 | _,_,0,h=>h
 | [],_,n+1,h=>by rw[rla_nil.mp h];exact .nil
 | x::xs,_,n+1,h=>by
   obtain⟨v,r,rfl,a,t⟩:=rla_cons.mp h;exact t.drop n
theorem RlAll.set{x:SV}{v:V}(hx:Rl K as H v x):∀{xs:List SV} {vs:List V} (n:Nat),RlAll K as H vs xs->RlAll K as H (vs.set n v) (xs.set n x)
 | [],_,n,h=>by rw[rla_nil.mp h];exact .nil
 | y::xs,_,0,h=>by
   obtain⟨_,r,rfl,_,t⟩:=rla_cons.mp h;exact .cons hx t
 | y::xs,_,n+1,h=>by
   obtain⟨_,r,rfl,a,t⟩:=rla_cons.mp h;exact .cons a (t.set hx n)
theorem RlAll.rev:∀{xs:List SV} {vs:List V},RlAll K as H vs xs->RlAll K as H vs.reverse xs.reverse
 | [],_,h=>by rw[rla_nil.mp h];exact .nil
 | x::xs,_,h=>by
   obtain⟨v,r,rfl,a,t⟩:=rla_cons.mp h;rw[WX,WX];exact t.rev.append (.cons a .nil)
theorem RlAll.ins{x:SV}{v:V}(hx:Rl K as H v x){xs:List SV}{vs:List V}(h:RlAll K as H vs xs)(n:Nat):RlAll K as H (vs.take n++v::vs.drop n) (xs.take n++x::xs.drop n):=(h.take n).append (.cons hx (h.drop n))
theorem RlAll.ints{is:List Int}:RlAll K as H (is.map V.int) (is.map SV.int):=by
 induction is with
 | nil=>exact .nil
 | cons i is ih=>exact .cons (rl_int.mpr rfl) ih
end
noncomputable def RlD(K:Um)(as:List YN)(H:Hp):List (Key×V)->List (Int×SV)->Prop
 | ks,[]=>ks=[]
 | ks,p::r=>∃ v t,ks=(.inl p.1,v)::t/\Rl K as H v p.2/\RlD K as H t r
theorem RlD.mono{K:Um}{as as':List YN}{H H':Hp}(ha:as <+: as')(hH:KeepU H H'):∀(kvs:List (Int×SV)) (ks:List (Key×V)),RlD K as H ks kvs->RlD K as' H' ks kvs
 | [],_,h=>h
 | p::r,_,⟨v,t,e,h1,h2⟩=>⟨v,t,e,Rl.mono ha hH p.2 v h1,RlD.mono ha hH r t h2⟩
noncomputable def RlT(K:Um)(as:List YN)(H:Hp):List (List Key×V)->List (List Int×SV)->Prop
 | us,[]=>us=[]
 | us,p::r=>∃ v t,us=(p.1.map Sum.inl,v)::t/\Rl K as H v p.2/\RlT K as H t r
theorem RlT.mono{K:Um}{as as':List YN}{H H':Hp}(ha:as <+: as')(hH:KeepU H H'):∀(kvs:List (List Int×SV)) (us:List (List Key×V)),RlT K as H us kvs->RlT K as' H' us kvs
 | [],_,h=>h
 | p::r,_,⟨v,t,e,h1,h2⟩=>⟨v,t,e,Rl.mono ha hH p.2 v h1,RlT.mono ha hH r t h2⟩
def dtV(kvs:List ((Int×Int)×Int)):List (List Key×V):=kvs.map λp=>([.inl p.1.1,.inl p.1.2],V.int p.2)
noncomputable def RlO(K:Um)(as:List YN)(H:Hp)(a:YN):SO->Prop
 | .lst xs=>∃ vs,H a=some (.lst vs)/\RlAll K as H vs xs
 | .iset ms=>∃ F,H a=some (.set F ms.length)/\∀ k,F k=decide (k∈ms)
 | .dtp kvs=>H a=some (.dT (dtV kvs))
 | .dtl kvs=>∃ us,H a=some (.dT us)/\RlT K as H us kvs
 | .dtf o us kvs=>H a=some (.frz o (.dT us))/\RlT K as H us kvs
 | .dct kvs=>∃ ks,H a=some (.dK ks)/\RlD K as H ks kvs
 | .dcf o ks kvs=>H a=some (.frz o (.dK ks))/\RlD K as H ks kvs
structure Ok(K:Um)(as:List YN)(H:Hp)(S:Sto):Prop where
 len:as.length=S.length
 nd:as.Nodup
 obj:∀(k:Nat) (o:SO) (a:YN),S[k]?=some o->as[k]?=some a->RlO K as H a o
noncomputable def EnvOk(K:Um)(as:List YN)(H:Hp)(σ:St)(ρ:EnvS):Prop:=σ.length=ρ.length/\∀(i:Nat) (x:SV),ρ[i]?=some (some x)->∃ v,σ[i]?=some (some v)/\Rl K as H v x
theorem EnvOk.mono{K:Um}{as as':List YN}{H H':Hp}{σ:St}{ρ:EnvS}(h:EnvOk K as H σ ρ)(ha:as <+: as')(hH:KeepU H H'):EnvOk K as' H' σ ρ:=⟨h.1,λi x e=>let ⟨v,a,b⟩:=h.2 i x e;⟨v,a,Rl.mono ha hH x v b⟩⟩
theorem EnvOk.set{K:Um}{as:List YN}{H:Hp}{σ:St}{ρ:EnvS}(h:EnvOk K as H σ ρ){i:Nat}{v:V}{x:SV}(hx:Rl K as H v x):EnvOk K as H (σ.set i (some v)) (ρ.set i (some x)):=⟨by rw[VH,VH];exact h.1,λj y e=>by
 by_cases hij:i=j
 ·subst hij;have hi:i<ρ.length:=by have:=(gM e).1;rwa [VH]at this
  rw[V6 hi]at e;rw[V6 (by rw[h.1];exact hi)];cases e;exact⟨v,rfl,hx⟩
 ·rw[VR hij]at e ⊢;exact h.2 j y e⟩
section
variable{K:Um}{as:List YN}{H:Hp}{S:Sto}
theorem RlO.mono{as':List YN}{H':Hp}{a:YN}(ha:as <+: as')(hH:KeepU H H')(e:∀ u,H a=some u->H' a=some u):∀{o:SO},RlO K as H a o->RlO K as' H' a o
 | .lst xs,⟨vs,h1,h2⟩=>⟨vs,e _ h1,RlAll.mono ha hH xs vs h2⟩
 | .iset ms,⟨F,h1,h2⟩=>⟨F,e _ h1,h2⟩
 | .dtp kvs,h1=>e _ h1
 | .dtl kvs,⟨us,h1,h2⟩=>⟨us,e _ h1,RlT.mono ha hH kvs us h2⟩
 | .dtf _ us kvs,⟨h1,h2⟩=>⟨e _ h1,RlT.mono ha hH kvs us h2⟩
 | .dct kvs,⟨ks,h1,h2⟩=>⟨ks,e _ h1,RlD.mono ha hH kvs ks h2⟩
 | .dcf _ ks kvs,⟨h1,h2⟩=>⟨e _ h1,RlD.mono ha hH kvs ks h2⟩
theorem RlO.some{a:YN}:∀{o:SO},RlO K as H a o->∃ u,H a=some u/\imm u=false
 | .lst _,⟨_,h,_⟩=>⟨_,h,rfl⟩
 | .iset _,⟨_,h,_⟩=>⟨_,h,rfl⟩
 | .dtp _,h=>⟨_,h,rfl⟩
 | .dtl _,⟨_,h,_⟩=>⟨_,h,rfl⟩
 | .dtf _ _ _,⟨h,_⟩=>⟨_,h,rfl⟩
 | .dct _,⟨_,h,_⟩=>⟨_,h,rfl⟩
 | .dcf _ _ _,⟨h,_⟩=>⟨_,h,rfl⟩
theorem Ok.of(h:Ok K as H S){k:Nat}{a:YN}(e:as[k]?=some a):∃ o,S[k]?=some o/\RlO K as H a o:=by
 have hk:k<S.length:=by rw[<-h.len];exact(gM e).1
 exact⟨S[k],Uq hk,h.obj k _ a (Uq hk) e⟩
theorem Ok.new(h:Ok K as H S){p:YN}{o:HO}(hp:H p=none):Ok K as (upd H p o) S:=⟨h.len,h.nd,λk u a e ea=>by
 have r:=h.obj k u a e ea;obtain⟨z,hz,_⟩:=r.some;exact r.mono (Vn as) (Am hp) λvs hv=>by rw[upd_ne (g7 hz hp)];exact hv⟩
theorem Ok.free(h:Ok K as H S){p:YN}(hp:H p=none):p∉as:=λhm=>by
 obtain⟨k,hk⟩:=Vg hm;obtain⟨o,_,r⟩:=h.of hk;obtain⟨z,hz,_⟩:=r.some;rw[hp]at hz;cases hz
theorem Ok.pushO(h:Ok K as H S){p:YN}(hp:H p=none){u:HO}{x:SO}(r:RlO K (as++[p]) (upd H p u) p x):Ok K (as++[p]) (upd H p u) (S++[x]):=by
 have pre:as <+: as++[p]:=Wg _ _;refine⟨by rw[Ut,Ut,h.len];rfl,?_,λk o a e ea=>?_⟩
 ·rw[Wz];refine⟨h.nd,by simp,λa ha b hb=>?_⟩;rw[V3.mp hb];intro z;subst z;exact h.free hp ha
 ·by_cases hk:k<S.length
  ·rw[V9 hk]at e;rw[V9 (by rw[h.len];exact hk)]at ea;exact((h.new (o:=u) hp).obj k o a e ea).mono pre (KeepU.refl _) λ_ z=>z
  ·have hk':k=S.length:=by
    have:=(gM e).1;rw[Ut,Vp]at this;omega
   subst hk';rw[VT]at e;rw[<-h.len,VT]at ea;cases e;cases ea;exact r
theorem Ok.push(h:Ok K as H S){p:YN}(hp:H p=none){vs:List V}{xs:List SV}(r:RlAll K as H vs xs):Ok K (as++[p]) (upd H p (.lst vs)) (S++[.lst xs]):=h.pushO hp ⟨vs,n6,RlAll.mono (Wg _ _) (Am hp) xs vs r⟩
theorem Ok.writeO(h:Ok K as H S){k:Nat}{a:YN}{y x:SO}{u:HO}(e:S[k]?=some y)(ea:as[k]?=some a)(r:KeepU H (upd H a u)->RlO K as (upd H a u) a x):Ok K as (upd H a u) (S.set k x)/\KeepU H (upd H a u):=by
 obtain⟨z,h1,iz⟩:=(h.obj k _ a e ea).some;have ku:KeepU H (upd H a u):=CF h1 iz;refine⟨⟨by rw[VH];exact h.len,h.nd,λj o b eo eb=>?_⟩,ku⟩;by_cases hj:k=j
 ·subst hj;rw[V6 ((gM e).1)]at eo;rw[ea]at eb;cases eo;cases eb;exact r ku
 ·rw[VR hj]at eo
  have hab:b≠a:=λz=>by
   subst z;exact hj ((List.getElem?_inj ((gM ea).1) h.nd).mp (ea.trans eb.symm))
  exact(h.obj j o b eo eb).mono (Vn as) ku λws hw=>by rw[upd_ne hab];exact hw
theorem Ok.write(h:Ok K as H S){k:Nat}{a:YN}{ys xs:List SV}{vs:List V}(e:S[k]?=some (.lst ys))(ea:as[k]?=some a)(r:RlAll K as H vs xs):Ok K as (upd H a (.lst vs)) (S.set k (.lst xs))/\KeepU H (upd H a (.lst vs)):=h.writeO e ea λku=>⟨vs,n6,RlAll.mono (Vn as) ku xs vs r⟩
end
structure Go(as:List YN)(H:Hp)(as':List YN)(H':Hp):Prop where
 pre:as <+: as'
 keep:∀ b o,H b=some o->b∉as->H' b=some o/\b∉as'
theorem Go.refl(as:List YN)(H:Hp):Go as H as H:=⟨Vn _,λ_ _ h n=>⟨h,n⟩⟩
theorem Go.trans{as as1 as2:List YN}{H H1 H2:Hp}(a:Go as H as1 H1)(b:Go as1 H1 as2 H2):Go as H as2 H2:=⟨a.pre.trans b.pre,λx o h n=>let ⟨h1,n1⟩:=a.keep x o h n;b.keep x o h1 n1⟩
theorem Go.new{as:List YN}{H:Hp}{p:YN}{o:HO}(hp:H p=none):Go as H as (upd H p o):=⟨Vn _,λb u h n=>⟨by rw[upd_ne (g7 h hp)];exact h,n⟩⟩
theorem Go.push{as:List YN}{H:Hp}{p:YN}{o:HO}(hp:H p=none):Go as H (as++[p]) (upd H p o):=⟨Wg _ _,λb u h n=>⟨by rw[upd_ne (g7 h hp)];exact h,by
 rw[VD,V3];rintro(z | z)
 ·exact n z
 ·exact g7 h hp z⟩⟩
theorem Go.write{as:List YN}{H:Hp}{a:YN}{o:HO}(ha:a∈as):Go as H as (upd H a o):=⟨Vn _,λb u h n=>⟨by rw[upd_ne (λz=>n (by rw[z];exact ha))];exact h,n⟩⟩
section
variable{K:Um}{as as':List YN}{H H':Hp}{S:Sto}
theorem Ok.away(h:Ok K as H S){b:YN}{o:HO}(e:H b=some o)(i:imm o=true):b∉as:=λhm=>by
 obtain⟨k,hk⟩:=Vg hm;obtain⟨_,_,r⟩:=h.of hk;obtain⟨z,hz,iz⟩:=r.some;rw[e]at hz;cases hz;rw[i]at iz;cases iz
theorem Go.ku(g:Go as H as' H')(ok:Ok K as H S):KeepU H H':=λb o h i=>(g.keep b o h (ok.away h i)).1
theorem Ok.other(h:Ok K as H S){b:YN}{vs us:List V}(hb:H b=some (.lst vs))(n:b∉as):Ok K as (upd H b (.lst us)) S:=⟨h.len,h.nd,λk o a e ea=>(h.obj k o a e ea).mono (Vn as) (CF hb rfl) λws hw=>by
 rw[upd_ne (λz=>n (by rw[<-z];exact Us ea))];exact hw⟩
end
end Rf
namespace L2
open PySem PySem.Spec PyProof.Rows
section
variable{κ:Type}[DecidableEq κ]
def AB(kvs:List (κ×V))(k:κ):Option V:=(kvs.find? λkv=>decide (kv.1=k)).map (·.2)
def B7(kvs:List (κ×V))(k:κ)(v:V):List (κ×V):=
 if (kvs.any λkv=>decide (kv.1=k))=true then kvs.map (λkv=>if kv.1=k then (kv.1,v) else kv) else kvs++[(k,v)]
theorem B8{p:κ×V}{r:List (κ×V)}{k:κ}(e:p.1=k):AB (p::r) k=some p.2:=by simp[AB,Vd,e]
theorem B9{p:κ×V}{r:List (κ×V)}{k:κ}(e:¬ p.1=k):AB (p::r) k=AB r k:=by simp[AB,Vd,e]
theorem D3(k:κ):∀ kvs:List (κ×V),(kvs.any λkv=>decide (kv.1=k))=(AB kvs k).isSome
 | []=>rfl
 | p::r=>by
   rw[W2];by_cases e:p.1=k
   ·simp only[B8 e,decide_eq_true e,YG,Xh]
   ·rw[B9 e,decide_eq_false e,Y7];exact D3 k r
theorem FK(kvs:List (κ×V))(k:κ)(v:V):(B7 kvs k v).length<=kvs.length+1:=by
 unfold B7;split
 ·rw[Ur];omega
 ·rw[Ut,VU,WB];omega
theorem LN{kvs:List (κ×V)}{k:κ}(v:V)(h:AB kvs k=none):B7 kvs k v=kvs++[(k,v)]:=by
 unfold B7;rw[D3,h];exact iG (by decide)
theorem RelO.isSome_eq{o:Option V}{u:Option YK}(r:RelO o u):o.isSome=u.isSome:=by
 cases o with
 | none=>cases u with
   | none=>rfl
   | some _=>exact(show False from r).elim
 | some _=>cases u with
   | none=>exact(show False from r).elim
   | some _=>rfl
theorem RelO.getD{o:Option V}{u:Option YK}{d:V}{d':YK}(r:RelO o u)(rd:RelV d d'):RelV (o.getD d) (u.getD d'):=by
 cases o with
 | none=>cases u with
   | none=>exact rd
   | some _=>exact(show False from r).elim
 | some _=>cases u with
   | none=>exact(show False from r).elim
   | some _=>exact r
theorem KV.val{kvs:List (κ×V)}{vs:List (κ×YK)}(r:KV kvs vs)(k:κ):RelO (AB kvs k) (valueAt vs k):=by
 unfold KV at r
 induction r with
 | nil=>exact True.intro
 | @cons p q ps qs h t ih=>
   obtain⟨h1,h2⟩:=h;by_cases e:p.1=k
   ·have e':q.1=k:=h1.symm.trans e;have b:valueAt (q::qs) k=some q.2:=by simp[valueAt,Vd,e']
    rw[B8 e,b];exact h2
   ·have e':¬ q.1=k:=λz=>e (h1.trans z);have b:valueAt (q::qs) k=valueAt qs k:=by simp[valueAt,Vd,e']
    rw[B9 e,b];exact ih
theorem KV.any{kvs:List (κ×V)}{vs:List (κ×YK)}(r:KV kvs vs)(k:κ):(kvs.any λkv=>decide (kv.1=k))=vs.any λkv=>decide (kv.1=k):=by
 unfold KV at r
 induction r with
 | nil=>rfl
 | cons h t ih=>rw[W2,W2,ih,h.1]
theorem KV.repl{kvs:List (κ×V)}{vs:List (κ×YK)}(r:KV kvs vs)(k:κ){y:V}{u:YK}(ry:RelV y u):
 KV (kvs.map λkv=>if kv.1=k then (kv.1,y) else kv) (vs.map λkv=>if kv.1=k then (kv.1,u) else kv):=by
 unfold KV at r ⊢
 induction r with
 | nil=>exact .nil
 | @cons p q ps qs h t ih=>
   rw[VP,VP];refine .cons ?_ ih;obtain⟨h1,h2⟩:=h;by_cases e:p.1=k
   ·rw[iP e,iP (h1.symm.trans e)];exact⟨h1,ry⟩
   ·rw[iG e,iG (λz=>e (h1.trans z))];exact⟨h1,h2⟩
theorem KV.put{kvs:List (κ×V)}{vs:List (κ×YK)}(r:KV kvs vs)(k:κ){y:V}{u:YK}(ry:RelV y u):KV (B7 kvs k y) (stored vs k u):=by
 unfold B7 stored;rw[r.any k];by_cases e:(vs.any λkv=>decide (kv.1=k))=true
 ·rw[iP e,iP e];exact r.repl k ry
 ·rw[iG e,iG e];exact Paired.snoc r ⟨rfl,ry⟩
theorem KV.keys{kvs:List (κ×V)}{vs:List (κ×YK)}(r:KV kvs vs):kvs.map (·.1)=vs.map (·.1):=by
 unfold KV at r
 induction r with
 | nil=>rfl
 | cons h t ih=>rw[VP,VP,ih,h.1]
theorem KV.length{kvs:List (κ×V)}{vs:List (κ×YK)}(r:KV kvs vs):kvs.length=vs.length:=Paired.length r
end
theorem Ti{P:YT}{w:YX}{k:Key}{u:YK}(r:RelV (kV k) u):(p7 P w).is k u=true:=by
 cases k with
 | inl i=>obtain⟨t,e⟩:=(show ∃ t,u=Value.int i t from r);subst e;exact F6 P w i t
 | inr x=>obtain⟨t,e⟩:=(show ∃ t,u=Value.str x t from r);subst e;exact F7 P w x t
theorem E1{P:YT}{w:YX}:∀{ks:List Key} {us:List YK},Vals (ks.map kV) us->ItemsAre (p7 P w) ks us
 | [],_,r=>by rw[YC]at r;cases r;exact .nil
 | k::ks,_,r=>by
   rw[VP]at r;cases r with
   | cons h t=>exact .cons (Ti h) (E1 t)
abbrev KT(H:Hp):List (List Key×V)->List (List Key×YN×YK)->Prop:=Paired λp q=>p.1=q.1/\H q.2.1=some (.tup (p.1.map kV))/\RelV p.2 q.2.2
theorem KT.val{H:Hp}{kvs:List (List Key×V)}{xs:List (List Key×YN×YK)}(r:KT H kvs xs)(k:List Key):RelO (AB kvs k) ((atKey xs k).map (·.2)):=by
 induction r with
 | nil=>exact True.intro
 | @cons p q ps qs h t ih=>
   obtain⟨h1,_,h2⟩:=h;by_cases e:p.1=k
   ·have e':q.1=k:=h1.symm.trans e;have b:atKey (q::qs) k=some q.2:=by simp[atKey,Vd,e']
    rw[B8 e,b];exact h2
   ·have e':¬ q.1=k:=λz=>e (h1.trans z);have b:atKey (q::qs) k=atKey qs k:=by simp[atKey,Vd,e']
    rw[B9 e,b];exact ih
theorem KT.repl{H:Hp}{kvs:List (List Key×V)}{xs:List (List Key×YN×YK)}(r:KT H kvs xs)(k:List Key){y:V}{u:YK}(ry:RelV y u):
 KT H (kvs.map λkv=>if kv.1=k then (kv.1,y) else kv) (xs.map (putAt k u)):=by
 induction r with
 | nil=>exact .nil
 | @cons p q ps qs h t ih=>
   rw[VP,VP];refine .cons ?_ ih;obtain⟨h1,h2,h3⟩:=h;unfold putAt;by_cases e:p.1=k
   ·rw[iP e,iP (h1.symm.trans e)];exact⟨h1,h2,ry⟩
   ·rw[iG e,iG (λz=>e (h1.trans z))];exact⟨h1,h2,h3⟩
theorem KT.put{H:Hp}{kvs:List (List Key×V)}{xs:List (List Key×YN×YK)}(r:KT H kvs xs)(k:List Key){b:YN}{y:V}{u:YK}(hb:H b=some (.tup (k.map kV)))(ry:RelV y u):
 KT H (B7 kvs k y) (storedH xs k b u):=by
 have e:(kvs.any λkv=>decide (kv.1=k))=(atKey xs k).isSome:=by
  rw[D3,(r.val k).isSome_eq,Option.isSome_map]
 unfold B7 storedH;rw[e];by_cases q:(atKey xs k).isSome=true
 ·rw[iP q,iP q];exact r.repl k ry
 ·rw[iG q,iG q];exact Paired.snoc r ⟨rfl,hb,ry⟩
theorem KT.keeps{H H':Hp}{kvs:List (List Key×V)}{xs:List (List Key×YN×YK)}(r:KT H kvs xs)(ht:∀ b ys,H b=some (.tup ys)->H' b=some (.tup ys)):KT H' kvs xs:=
 Paired.mapP r λ_ _ z=>⟨z.1,ht _ _ z.2.1,z.2.2⟩
section
variable{P:YT}{w:YX}{H:Hp}{h:Heap}{a:YN}
theorem Q0{u:HO}(ok:HOk P w H h)(e:Rd H a u):ObjOk P w H h a u:=e.ok ok
theorem Tj{kvs:List (Key×V)}(ok:HOk P w H h)(e:Rd H a (.dK kvs)):kvs.length<=YU/\(a == Yx)=false/\∃ vs,KV kvs vs/\h.DictOf (p7 P w) a vs:=
 show ObjOk P w H h a (.dK kvs) from Q0 ok e
theorem LO{ks:List Key}(ok:HOk P w H h)(e:H a=some (.tup (ks.map kV))):(ZZ (p7 P w)).is h ks a:=by
 obtain⟨_,its,r,o,h1,h2,n,h3⟩:=(show ObjOk P w H h a (.tup (ks.map kV)) from ok a _ e)
 exact⟨o,its.toArray,n,h1,h2,h3,by simpa using E1 r⟩
theorem Q1{kvs:List (List Key×V)}(ok:HOk P w H h)(e:Rd H a (.dT kvs)):kvs.length<=YU/\(a == Yx)=false/\
 ∃ xs,KT H kvs xs/\h.DictOfH (ZZ (p7 P w)) a xs:=by
 obtain⟨z,y,xs,r,o,es,ep,h1,h2,h3,h4,h5⟩:=(show ObjOk P w H h a (.dT kvs) from Q0 ok e)
 refine⟨z,y,xs,r,o,es,ep,h1,h2,h3,h4,λx hx=>?_,h5⟩
 have all:∀{l:List (List Key×V)} {m:List (List Key×YN×YK)},KT H l m->∀ x∈m,(ZZ (p7 P w)).is h x.1 x.2.1:=by
  intro l m q
  induction q with
  | nil=>intro x hx;exact nomatch hx
  | @cons p q ps qs hq t ih=>
    intro x hx;rcases VA.mp hx with e | hx
    ·subst e;exact LO ok (by rw[<-hq.1];exact hq.2.1)
    ·exact ih x hx
 exact all r x hx
theorem Tk{kvs:List (List Key×V)}(ok:HOk P w H h)(e:H a=some (.dT kvs)):kvs.length<=YU/\(a == Yx)=false/\
 ∃ xs,KT H kvs xs/\h.DictOfH (ZZ (p7 P w)) a xs:=Q1 ok (.inl e)
end
def DGet(H:Hp)(a:YN)(y:V)(r:Option V):Prop:=
 (∃ kvs k,Rd H a (.dK kvs)/\y=kV k/\r=AB kvs k)\/∃ kvs k b,Rd H a (.dT kvs)/\y = .ref b/\H b=some (.tup (k.map kV))/\r=AB kvs k
def DPut(H:Hp)(a:YN)(y v:V)(H':Hp):Prop:=
 (∃ kvs k,H a=some (.dK kvs)/\y=kV k/\kvs.length<YU/\H'=upd H a (.dK (B7 kvs k v)))\/
 ∃ kvs k b,H a=some (.dT kvs)/\y = .ref b/\H b=some (.tup (k.map kV))/\kvs.length<YU/\H'=upd H a (.dT (B7 kvs k v))
theorem DGet.t{H:Hp}{a b:YN}{kvs:List (List Key×V)}{k:List Key}(e:H a=some (.dT kvs))(eb:H b=some (.tup (k.map kV))):DGet H a (.ref b) (AB kvs k) := .inr ⟨kvs,k,b,.inl e,rfl,eb,rfl⟩
theorem DPut.t{H:Hp}{a b:YN}{kvs:List (List Key×V)}{k:List Key}{v:V}(e:H a=some (.dT kvs))(eb:H b=some (.tup (k.map kV)))(hl:kvs.length<YU):
 DPut H a (.ref b) v (upd H a (.dT (B7 kvs k v))) := .inr ⟨kvs,k,b,e,rfl,eb,hl,rfl⟩
section
variable{X:Cx}{pq:List (YN×Obj)}{σ:St}{H:Hp}{s:YM}{a:YN}{y v:V}{u r:YK}{o:Option V}{A:YZ}{E:YK->YM->Prop}
theorem Inv.big(I:Inv X pq σ H s):Yx<s.heap.objs.size:=by
 have h:YW<s.heap.objs.size:=(I.mod.glob.keeps I.bk).lt;exact Nat.lt_trans (by decide) h
theorem O6{h':Heap}{t':Nat}{ob:HO}(I:Inv X pq σ H s)(mu:Mut (H a))(hs:WJ a s.heap h')(he:∃ q,h'.get? a=some q)(new:ObjOk X.prog X.w (upd H a ob) h' a ob):
 Inv X pq σ (upd H a ob) {s with heap:=h',toks:=t'}:=
 I.write (x:=a) (e:=a) mu (.inl rfl) (λb q hb z=>(hs.2 b hb).trans z) he new
end
theorem LP{P:YT}{w:YX}{H:Hp}(h:Heap)(hb:Yx<h.objs.size):ObjOk P w H (h.push {cls := .type "dict",data := .dict #[]}) h.objs.size (.dT []):=
 ⟨Ww _,beq_eq_false_iff_ne.mpr (Ne.symm (V4 hb)),[],.nil,_,#[],0,V8 _ rfl,⟨rfl,rfl,rfl⟩,rfl,rfl,Y5⟩
def RS:TE:=λ_ H Q=>∀ p,H p=none->Q (.ref p) (upd H p (.dT []))
section
variable{X:Cx}{pos:Pos}
theorem LQ:PE X (.Dict [] [] pos) RS:=λpq s σ H Q I h=>
 wpAny_Dict_empty ⟨.ref s.heap.objs.size,_,I.laid (a:=s.heap.objs.size) (o := .dT []) (t':=s.toks) (λ_ _ q=>Uw _ q) (Ux _) (LP s.heap I.big),rfl,h _ (I.hok.fresh (Ux _))⟩
end
structure M2(X:Cx)(o:Expr)(m:Str)(apos:Pos)(e f:Expr)(cpos:Pos):Prop where
 base:ZN o m X.env (eval o X.env)=eval o X.env
 few:((backTo cpos (Yc [e,f] X.env)).all (λx=>!x.1)&&(ZQ cpos (Z8 [] X.env)).all (λx=>x.1.isSome)
  && decide (([e,f]:List Expr).length+([]:List Keyword).length+(if ([]:List Keyword).isEmpty then 0 else 1)<30))=true
 line:(apos.endLine == cpos.line)=true
 trees:backTo cpos (Yc [e,f] X.env)=[(false,eval e X.env),(false,eval f X.env)]
def IsD(H:Hp)(a:YN):Prop:=(∃ kvs,Rd H a (.dK kvs))\/∃ kvs,Rd H a (.dT kvs)
theorem RT{X:Cx}{pq:List (YN×Obj)}{σ:St}{H:Hp}{s:YM}{a:YN}(I:Inv X pq σ H s)(d:IsD H a):
 s.TypeIs (.ref a) "dict"/\(∀ b,Value.ref a = .ref b->∃ ob,s.heap.get? b=some ob/\ob.dict=none)/\(a == Yx)=false:=by
 rcases d with⟨kvs,e⟩ | ⟨kvs,e⟩
 ·obtain⟨_,hd,vs,_,dd⟩:=Tj I.hok e;refine⟨dd.typeIs,λb q=>?_,hd⟩;cases q;obtain⟨ob,_,_,h1,h2,_⟩:=dd;exact⟨ob,h1,h2.2.1⟩
 ·obtain⟨_,hd,xs,_,dd⟩:=Q1 I.hok e;refine⟨dd.typeIs,λb q=>?_,hd⟩;cases q;obtain⟨ob,_,_,h1,h2,_⟩:=dd;exact⟨ob,h1,h2.2.1⟩
mutual
noncomputable def Dat(H:Hp):V->PyData->Prop
 | x,.none=>x = .non
 | x,.bool b=>x = .bl b
 | x,.int i=>x = .int i
 | x,.str s=>x = .str s
 | x,.list ds=>∃ a xs,x = .ref a/\H a=some (.lst xs)/\DatAll H xs ds
 | x,.tuple ds=>∃ a xs,x = .ref a/\H a=some (.tup xs)/\DatAll H xs ds
 | _,.dict _=>False
noncomputable def DatAll(H:Hp):List V->List PyData->Prop
 | [],[]=>True
 | x::xs,d::ds=>Dat H x d/\DatAll H xs ds
 | [],_::_=>False
 | _::_,[]=>False
end
mutual
theorem Dat.mono{H H':Hp}(k:∀ b o,H b=some o->H' b=some o):∀(x:V) (d:PyData),Dat H x d->Dat H' x d
 | _,.none,h=>by unfold Dat at h ⊢;exact h
 | _,.bool _,h=>by unfold Dat at h ⊢;exact h
 | _,.int _,h=>by unfold Dat at h ⊢;exact h
 | _,.str _,h=>by unfold Dat at h ⊢;exact h
 | x,.list ds,h=>by
   unfold Dat at h ⊢;obtain⟨a,xs,e,h1,h2⟩:=h;exact⟨a,xs,e,k _ _ h1,DatAll.mono k xs ds h2⟩
 | x,.tuple ds,h=>by
   unfold Dat at h ⊢;obtain⟨a,xs,e,h1,h2⟩:=h;exact⟨a,xs,e,k _ _ h1,DatAll.mono k xs ds h2⟩
 | _,.dict _,h=>by unfold Dat at h;exact h.elim
theorem DatAll.mono{H H':Hp}(k:∀ b o,H b=some o->H' b=some o):∀(xs:List V) (ds:List PyData),DatAll H xs ds->DatAll H' xs ds
 | [],[],_=>by unfold DatAll;trivial
 | x::xs,d::ds,h=>by
   unfold DatAll at h ⊢;exact⟨Dat.mono k x d h.1,DatAll.mono k xs ds h.2⟩
 | [],_::_,h=>by unfold DatAll at h;exact h.elim
 | _::_,[],h=>by unfold DatAll at h;exact h.elim
end
section
variable{X:Cx}{a b:Expr}{ta:TE}{pos:Pos}
theorem JV:OpR X (Yb .IsNot) (λx y H Q=>∃ c d,x = .bl c/\y = .bl d/\Q (.bl (c != d)) H):=by
 intro pq s σ H x y v u Q I rx ry h;obtain⟨c,d,rfl,rfl,q⟩:=h;cases rx;cases ry;exact isnot_bool ⟨.bl (c != d),H,I,rfl,q⟩
end
section
variable{X:Cx}
theorem LR{prog:YT}{w:YX}{A:YZ}{E:YK->YM->Prop}{s:YM}{t b:YN}{ws:List YK}{Q:YK->YM->Prop}(ht:IsTup s.heap t #[])(hb:IsTup s.heap b ws.toArray)(h1:Q (.ref b) s):
 YV (YS prog w) A (Ys .Add (.ref t) (.ref b)) Q E s:=by
 obtain⟨⟨cls,dd,data,sl⟩,ho,hc,n,hd⟩:=id ht;obtain⟨⟨cls2,dd2,data2,sl2⟩,ho2,hc2,n2,hd2⟩:=id hb;simp only at hc hd hc2 hd2;subst hc hd hc2 hd2
 exact Zx ⟨_,ho,rfl⟩ ⟨_,ho2,rfl⟩ Za Zp PySem.F.slot_tuple_add PySem.F.entry_tuple_add (PySem.F.args_tuple_add_2 _ _)
  (tuple_addW0 t b #[] ws.toArray n n2 dd dd2 sl sl2 (by simp)) ⟨ho,ho2,h1⟩
def LU(K:Um):R2:=λx y H Q=>∃ a b ys,x = .ref a/\y = .ref b/\SqT K H a []/\SqT K H b ys/\Q (.ref b) H
theorem O7:OpR X (Ys .Add) (LU X.K):=by
 intro pq s σ H x y v u Q I rx ry h;obtain⟨a,b,ys,rfl,rfl,ha,hb,q⟩:=h;cases rx;cases ry;obtain⟨its,r1,p1,_⟩:=I.tuple ha;obtain⟨its2,r2,p2,_⟩:=I.tuple hb;cases r1;exact LR p1 p2 ⟨.ref b,H,I,rfl,q⟩
theorem O8:OpR X (Ys .Add) (λx y H Q=>Kq X.K x y H Q\/LU X.K x y H Q):=op_catT.or O7
end
section
variable{prog:YT}{w:YX}{A:YZ}{E:YK->YM->Prop}{s:YM}
open HT in
theorem Dc{t sl:YN}{items:Array YK}{vl vu:YK}{lo hi:Option Int}{Q:YK->YM->Prop}(ht:IsTup s.heap t items)(hs:s.heap.IsSliceOf sl vl vu .none)(pl:IsPart vl lo)(pu:IsPart vu hi)
 (hw:sIx items.size 0 lo=0/\sIx items.size items.size hi=items.size) (h:Q (.ref t) s):YV (YS prog w) A (getItem (.ref t) (.ref sl)) Q E s:=by
 obtain⟨os,hos,hcs,hds⟩:=id hs;have hTs:s.TypeIs (.ref sl) "slice":=⟨os,hos,hcs⟩
 unfold getItem
 try with_reducible refine Yh ?_
 first | refine YL (YQ ?_) | skip
 refine YL (Zy ht.typeIs (by decide) ?_)
 refine YL (Z0 (name:=Str.ofString "__getitem__") ht.typeIs PyProof.Rows.slot_tuple_getitem
  (ZA PyProof.Rows.slot_tuple_getitem ht.typeIs Zm ?_ (Zt _ _)))
 show YV _ _ (Builtin.Tuple.tupleItemsOf (.ref t) >>= _) _ _ s;refine YL (tupleItemsOf_ ht ?_);refine YL (Zz hTs ?_);rw[iP (by decide)];refine YL (Ai hs pl pu ?_)
 have hyes:(((sIx items.size 0 lo:Nat):Int) == 0&&(1:Int) == 1&&(sIx items.size items.size hi - sIx items.size 0 lo) == items.size)=true:=by
  rw[hw.1,hw.2];simp
 show YV _ _ (if (((sIx items.size 0 lo:Nat):Int) == 0&&(1:Int) == 1&&(sIx items.size items.size hi - sIx items.size 0 lo) == items.size)=true then _ else _) _ _ s;rw[iP hyes];unfold Builtin.Tuple.tupleIsExact;refine YL (YL (Zz ht.typeIs (YQ ?_)));rw[iP (by decide)];exact YL (Yn (YQ ⟨_,rfl,YQ h⟩))
end
section
variable{X:Cx}
def Tl(K:Um):V->Option Int->Option Int->Hp->VK->Prop:=λx lo hi H Q=>∃ a xs,x = .ref a/\SqT K H a xs/\(HT.sIx xs.length 0 lo=0/\HT.sIx xs.length xs.length hi=xs.length)/\Q (.ref a) H
theorem O9:SlR X (Tl X.K):=by
 intro pq s σ H x v vl vu lo hi sl Q I rx hs pl pu h;obtain⟨a,xs,rfl,hx,hw,q⟩:=h;cases rx;obtain⟨its,r,ht,hz⟩:=I.tuple hx;have hlen:its.toArray.size=xs.length:=by rw[Uu];exact r.length.symm
 exact⟨"tuple",_,PyProof.Rows.slot_tuple_getitem.lookup,ht.typeIs,Dc ht hs pl pu (by rw[hlen];exact hw) ⟨.ref a,H,I,rfl,q⟩⟩
end
section
variable{prog:YT}{w:YX}{A:YZ}{E:YK->YM->Prop}{s:YM}
def IsPr(h:Heap)(v:YK)(a b:Int):Prop:=∃ p o n t u,v = .ref p/\h.get? p=some o/\o.cls = .type "tuple"/\o.data = .seq #[.int a t,.int b u] n
theorem IsPr.at{h h':Heap}{v:YK}{a b:Int}(x:IsPr h v a b)(k:∀ p o,h.get? p=some o->o.cls = .type "tuple"->h'.get? p=some o):IsPr h' v a b:=by
 obtain⟨p,o,n,t1,t2,e,ho,hc,hd⟩:=x;exact⟨p,o,n,t1,t2,e,k p o ho hc,hc,hd⟩
end
def Up(xs:Array Nat):Prop:=∀ i j (hi:i<xs.size) (hj:j<xs.size),i<j->xs[i]<xs[j]
structure Tab(w:YX)(t:Zd):Prop where
 up:Up t.place
 no:t.dummies=#[]
 led:t.led=!w.params.followText "set-order"
noncomputable def SetX(prog:YT)(w:YX)(h:Heap)(a:YN)(L:List Int):Prop:=
 ∃ o es ep t,h.get? a=some o/\o.ExactSet/\o.data = .set es ep t/\ElemsOf (intKind prog w) es.toList/\es.size<scanBound/\t.fits es.size=true/\Tab w t/\(es.toList.map λe=>numOf e.2).Perm L
section
variable{prog:YT}{w:YX}{A:YZ}{E:YK->YM->Prop}{s:YM}
theorem SetX.keep{h h':Heap}{a:YN}{L:List Int}(x:SetX prog w h a L)(k:∀ o,h.get? a=some o->h'.get? a=some o):SetX prog w h' a L:=by
 obtain⟨o,es,ep,t,ho,r⟩:=x;exact⟨o,es,ep,t,k o ho,r⟩
theorem IG{k:Int}{v:YK}(h:(intKind prog w).is k v=true):numOf v=k:=by
 obtain⟨t,rfl⟩:=Value.isInt_shape (k:=k) (v:=v) h;rfl
end
end L2
set_option maxHeartbeats 400000
namespace L2
open PySem PySem.Spec PyProof.Rows
def SetAt(w:YX)(h:Heap)(a:YN)(es:Array (Int×YK))(ep:Nat)(t:Zd):Prop:=∃ o,h.get? a=some o/\o.cls = .type "set"/\o.data = .set es ep t/\t.fits es.size=true/\Tab w t
theorem SetAt.keep{w:YX}{h h':Heap}{a:YN}{es:Array (Int×YK)}{ep:Nat}{t:Zd}(x:SetAt w h a es ep t)(k:∀ o,h.get? a=some o->h'.get? a=some o):SetAt w h' a es ep t:=let ⟨o,e,r⟩:=x;⟨o,k o e,r⟩
def slotAt(t:Zd)(i:Nat):Nat:=if i=0 then 0 else t.place.getD (i - 1) 0+1
inductive Way(w:YX)(h:Heap)(T0 S:YN)(es:Array (Int×YK))(ep:Nat)(t:Zd)(fs:List (Int×YK))(i:Nat):YK->Prop where
 | text (hw:w.params.followText "set-order"=true) (hf:fs=(pickOrder (w.params.setOrder S ep) es).toList):Way w h T0 S es ep t fs i (.int 0 0)
 | table (hw:w.params.followText "set-order"=false) (hd:(!t.plain&&decide (es.size>1))=false) (hf:fs=es.toList):Way w h T0 S es ep t fs i (.int (slotAt t i:Nat) 0)
 | drawn (hw:w.params.followText "set-order"=false) (pl:List Nat) (o:Obj) (n:Nat) (ho:h.get? T0=some o) (hd:o.data = .seq (pl.map λk=>Value.int (k:Nat) 0).toArray n) (hl:pl.length=fs.length)
    (hf:∀(k:Nat) p,pl[k]?=some p->es[p]?=fs[k]?):Way w h T0 S es ep t fs i (.ref T0)
def Sit(w:YX)(h:Heap)(T0 I S:YN)(es:Array (Int×YK))(ep:Nat)(t:Zd)(fs:List (Int×YK))(i:Nat):Prop:=
 ∃ o first,h.get? I=some o/\o.cls = .type "set_iterator"/\o.data = .fields #[first,.int (i:Nat) 0,.ref S,.int (es.size:Nat) 0,.int (ep:Nat) 0]/\Way w h T0 S es ep t fs i first
section
variable{prog:YT}{w:YX}{A:YZ}{E:YK->YM->Prop}{s:YM}{T0 I S:YN}{es:Array (Int×YK)}{ep:Nat}{t:Zd}{fs:List (Int×YK)}{i:Nat}
theorem Sit.typeIs(x:Sit w s.heap T0 I S es ep t fs i):s.TypeIs (.ref I) "set_iterator":=let ⟨o,_,e,c,_⟩:=x;⟨o,e,c⟩
theorem Sit.keep{h h':Heap}(x:Sit w h T0 I S es ep t fs i)(k:∀ b,b=I\/b=T0->∀ o,h.get? b=some o->h'.get? b=some o):Sit w h' T0 I S es ep t fs i:=by
 obtain⟨o,first,ho,hc,hd,W⟩:=x;refine⟨o,first,k I (.inl rfl) _ ho,hc,hd,?_⟩;cases W with
 | text hw hf=>exact .text hw hf
 | table hw hp hf=>exact .table hw hp hf
 | drawn hw pl oT n hoT hdT hl hf=>exact .drawn hw pl oT n (k T0 (.inr rfl) _ hoT) hdT hl hf
end
end L2
set_option maxHeartbeats 800000
set_option maxHeartbeats 2000000
namespace L2
open PySem PySem.Spec PyProof.Rows
open PySem.AutoSeq1 (wpAny_loadPart')
open PySem.MeetsSeq PySem.MeetsSeq2 PySem.MeetsSeq3
theorem rcLt_int{prog:YT}{w:YX}{A:YZ}{E:YK->YM->Prop}{s:YM}{a b:Int}{t u:Tok}{Q:YK->YM->Prop}(h:Q (.bool (decide (a<b))) s):YV (YS prog w) A (Z2 .Lt (.int a t) (.int b u)) Q E s:=by
 exact wpAny_richCompare_same (Zf s a t) (Zf s b u) slot_int_lt (call_int_lt ⟨(λx=>nomatch x),h⟩)
section
variable{prog:YT}{w:YX}{A:YZ}{E:YK->YM->Prop}{s:YM}{a₀:Array Keyed}
structure SBk(κ:A0i)(a₀:Array Keyed)(st:SortSt):Prop where
 perm:(arrOf st).Perm a₀
 kind:kindOf st=κ
 failed:Yi st=none
 pend:YY st=#[]
theorem SBk.size{κ:A0i}{st:SortSt}(h:SBk κ a₀ st):(arrOf st).size=a₀.size:=h.perm.size_eq
theorem SBk.setArr{κ:A0i}{st:SortSt}(h:SBk κ a₀ st){xs:Array Keyed}(hp:xs.Perm (arrOf st)):SBk κ a₀ (setArr st xs):=⟨hp.trans h.perm,h.kind,h.failed,h.pend⟩
variable{κ:A0i}
end
section
variable{X:Cx}
theorem Tm:Ya "any"=some (.builtin "any"):=by decide +kernel
theorem JW(hc:X.calm=true):CallR X (.builtin "any") (λxs H Q=>∃(a:YN) (bs:List Bool),xs=[.ref a]/\SqL X.K H a (bs.map V.bl)/\Q (.bl (bs.any id)) H):=by
 intro pq s σ H xs us Q I r h;obtain⟨a,bs,rfl,hq,q⟩:=h;obtain⟨u,rfl,ru⟩:=AW r;cases ru;obtain⟨its,rv,pl,hz⟩:=I.list hq;have hl:=rv.length;rw[Ur]at hl;refine call_any_walk (Yw pl.isList ?_);have hlt:a<s.heap.objs.size:=by obtain⟨o,n,e,_⟩:=pl;exact V2 e
 refine⟨s.heap.objs.size,_,_,_,_,_,λi=>bs.getD i false,rfl,Walks.list (by exact I.ok.hd hc) s.heap.objs.size a (V4 hlt) its.toArray,⟨⟨_,V8 _ rfl,rfl,rfl⟩,pl.isList.push _⟩,?_,λh' tk hk=>?_⟩
 ·intro i v s' Q' E' hv hQ';have hv':its[i]?=some v:=by simpa using hv
  have hi:i<its.length:=(gM hv').1;have hb:(bs.map V.bl)[i]?=some (.bl (bs[i]'(by omega))):=by simp
  obtain⟨u',eu,ru'⟩:=rv.get hb;rw[hv']at eu;cases eu;cases ru';have hg:bs.getD i false=bs[i]'(by omega):=by simp[Vs,show i<bs.length by omega]
  have hQ2:Q' (bs.getD i false) s':=hQ';rw[hg]at hQ2;exact Ye hQ2
 ·have I1:Inv X pq σ H {s with heap:=h',toks:=tk}:=I.kept λb o e=>hk b o (by simp;exact V4 (V2 e)) (Uw _ e);refine⟨.bl _,H,I1,rfl,?_⟩
  have e:(Uy its.toArray.size).any (λi=>bs.getD i false)=bs.any id:=by
   rw[Uu,<-hl,Vj,We,We];constructor
   ·rintro⟨j,hj,e⟩;have hj1:j<bs.length:=VG.mp hj;exact⟨bs[j],Vm hj1,by simpa[Vs,hj1] using e⟩
   ·rintro⟨b,hb,e⟩;obtain⟨j,hj,e2⟩:=Wn.mp hb;exact⟨j,VG.mpr hj,by simpa[Vs,hj,e2] using e⟩
  rw[e];exact q
end
end L2
namespace Rf
open PySem L2
abbrev QE:=SV->Sto->Prop
abbrev WE:=EnvS->Sto->QE->Prop
abbrev WA:=EnvS->Sto->(List SV->Sto->Prop)->Prop
abbrev WT:=EnvS->Sto->(Bool->Sto->Prop)->Prop
noncomputable def Post(K:Um)(as:List YN)(H:Hp)(Q:VK):QE:=λx S'=>∀ as' H' v,Go as H as' H'->Ok K as' H' S'->Rl K as' H' v x->Q v H'
noncomputable def Tn(K:Um)(as:List YN)(H:Hp)(Q:List V->Hp->Prop):List SV->Sto->Prop:=λxs S'=>∀ as' H' vs,Go as H as' H'->Ok K as' H' S'->RlAll K as' H' vs xs->Q vs H'
def PostT(K:Um)(as:List YN)(H:Hp)(Q:Bool->Hp->Prop):Bool->Sto->Prop:=λb S'=>∀ as' H',Go as H as' H'->Ok K as' H' S'->Q b H'
noncomputable def lift(K:Um)(w:WE):TE:=λσ H Q=>∃ as ρ S,Ok K as H S/\EnvOk K as H σ ρ/\w ρ S (Post K as H Q)
noncomputable def liftA(K:Um)(w:WA):TA:=λσ H Q=>∃ as ρ S,Ok K as H S/\EnvOk K as H σ ρ/\w ρ S (Tn K as H Q)
noncomputable def liftT(K:Um)(w:WT):TT:=λσ H Q=>∃ as ρ S,Ok K as H S/\EnvOk K as H σ ρ/\w ρ S (PostT K as H Q)
def Mono(w:WE):Prop:=∀ ρ S (P P':QE),(∀ x S',P x S'->P' x S')->w ρ S P->w ρ S P'
def MonoA(w:WA):Prop:=∀ ρ S (P P':List SV->Sto->Prop),(∀ x S',P x S'->P' x S')->w ρ S P->w ρ S P'
def MonoT(w:WT):Prop:=∀ ρ S (P P':Bool->Sto->Prop),(∀ x S',P x S'->P' x S')->w ρ S P->w ρ S P'
theorem g9{X:Cx}{e:Expr}{t:TE}(t':TE)(h:PE X e t)(imp:∀ σ H Q,t' σ H Q->t σ H Q):PE X e t':=λpq s σ H Q I hw=>h pq s σ H Q I (imp σ H Q hw)
theorem Bj{X:Cx}{e:Expr}{t:TT}(t':TT)(h:PT X e t)(imp:∀ σ H Q,t' σ H Q->t σ H Q):PT X e t':=λpq s σ H Q I hw=>h pq s σ H Q I (imp σ H Q hw)
theorem LV{X:Cx}{e:List Expr}{t:TA}(t':TA)(h:PA X e t)(imp:∀ σ H Q,t' σ H Q->t σ H Q):PA X e t':=λp pq s σ H Q I hw=>h p pq s σ H Q I (imp σ H Q hw)
section
variable{K:Um}{as as1 as2:List YN}{H H1 H2:Hp}
theorem Post.mono{Q:VK}{x:SV}{S:Sto}(h:Post K as H Q x S)(g:Go as H as1 H1):Post K as1 H1 Q x S:=λas' H' v g'=>h as' H' v (g.trans g')
end
abbrev S2:=SV->SV->Sto->QE->Prop
abbrev S1:=SV->Sto->QE->Prop
abbrev Sn:=List SV->Sto->QE->Prop
def w2(s:S2)(a b:WE):WE:=λρ S Q=>a ρ S λx S1=>b ρ S1 λy S2=>s x y S2 Q
def w1(s:S1)(a:WE):WE:=λρ S Q=>a ρ S λx S1=>s x S1 Q
def wn(s:Sn)(a:WA):WE:=λρ S Q=>a ρ S λxs S1=>s xs S1 Q
def Mono2(s:S2):Prop:=∀ x y S (P P':QE),(∀ x S',P x S'->P' x S')->s x y S P->s x y S P'
def E2(s:S1):Prop:=∀ x S (P P':QE),(∀ x S',P x S'->P' x S')->s x S P->s x S P'
def MonoN(s:Sn):Prop:=∀ x S (P P':QE),(∀ x S',P x S'->P' x S')->s x S P->s x S P'
theorem Mono.two{s:S2}{a b:WE}(hs:Mono2 s)(ha:Mono a)(hb:Mono b):Mono (w2 s a b):=λρ S P P' i h=>ha _ _ _ _ (λ_ _ h=>hb _ _ _ _ (λ_ _ h=>hs _ _ _ _ _ i h) h) h
theorem Mono.one{s:S1}{a:WE}(hs:E2 s)(ha:Mono a):Mono (w1 s a):=λρ S P P' i h=>ha _ _ _ _ (λ_ _ h=>hs _ _ _ _ i h) h
theorem Mono.n{s:Sn}{a:WA}(hs:MonoN s)(ha:MonoA a):Mono (wn s a):=λρ S P P' i h=>ha _ _ _ _ (λ_ _ h=>hs _ _ _ _ i h) h
noncomputable def B0(K:Um)(s:S2)(r:R2):Prop:=∀ as H S x y v u Q,Ok K as H S->Rl K as H v x->Rl K as H u y->s x y S (Post K as H Q)->r v u H Q
noncomputable def Uc(K:Um)(s:S1)(r:V->Hp->VK->Prop):Prop:=∀ as H S x v Q,Ok K as H S->Rl K as H v x->s x S (Post K as H Q)->r v H Q
noncomputable def To(K:Um)(s:Sn)(r:List V->Hp->VK->Prop):Prop:=∀ as H S xs vs Q,Ok K as H S->RlAll K as H vs xs->s xs S (Post K as H Q)->r vs H Q
theorem A7{K:Um}{s:S2}{r:R2}{wa wb:WE}(sim:B0 K s r)(ms:Mono2 s)(ma:Mono wa)(mb:Mono wb):∀ σ H Q,lift K (w2 s wa wb) σ H Q->tOp r (lift K wa) (lift K wb) σ H Q:=by
 rintro σ H Q ⟨as,ρ,S,ok,en,h⟩;refine⟨as,ρ,S,ok,en,ma _ _ _ _ (λx S1 hb as1 H1 v g1 ok1 rv=>?_) h⟩;refine⟨as1,ρ,S1,ok1,en.mono g1.pre (g1.ku ok),mb _ _ _ _ (λy S2 hs as2 H2 u g2 ok2 ru=>?_) hb⟩;exact sim as2 H2 S2 x y v u Q ok2 (Rl.mono g2.pre (g2.ku ok1) x v rv) ru (ms _ _ _ _ _ (λz S3 hz=>hz.mono (g1.trans g2)) hs)
theorem RU{K:Um}{s:S1}{r:V->Hp->VK->Prop}{wa:WE}(sim:Uc K s r)(ms:E2 s)(ma:Mono wa):∀ σ H Q,lift K (w1 s wa) σ H Q->tUn r (lift K wa) σ H Q:=by
 rintro σ H Q ⟨as,ρ,S,ok,en,h⟩;refine⟨as,ρ,S,ok,en,ma _ _ _ _ (λx S1 hs as1 H1 v g1 ok1 rv=>?_) h⟩;exact sim as1 H1 S1 x v Q ok1 rv (ms _ _ _ _ (λz S3 hz=>hz.mono g1) hs)
theorem Tp{K:Um}{s:Sn}{r:List V->Hp->VK->Prop}{wa:WA}(sim:To K s r)(ms:MonoN s)(ma:MonoA wa):∀ σ H Q,lift K (wn s wa) σ H Q->tCB r (liftA K wa) σ H Q:=by
 rintro σ H Q ⟨as,ρ,S,ok,en,h⟩;refine⟨as,ρ,S,ok,en,ma _ _ _ _ (λx S1 hs as1 H1 v g1 ok1 rv=>?_) h⟩;exact sim as1 H1 S1 x v Q ok1 rv (ms _ _ _ _ (λz S3 hz=>hz.mono g1) hs)
def E3:WA:=λ_ S Q=>Q [] S
def D4(a:WE)(b:WA):WA:=λρ S Q=>a ρ S λx S1=>b ρ S1 λxs S2=>Q (x::xs) S2
theorem MonoA.nil:MonoA E3:=λ_ _ _ _ i h=>i _ _ h
theorem MonoA.cons{a:WE}{b:WA}(ha:Mono a)(hb:MonoA b):MonoA (D4 a b):=λ_ _ _ _ i h=>ha _ _ _ _ (λ_ _ h=>hb _ _ _ _ (λ_ _ h=>i _ _ h) h) h
theorem OA{X:Cx}{K:Um}:PA X [] (liftA K E3):=LV _ Bh λσ H Q ⟨as,ρ,S,ok,en,h⟩=>h as H [] (Go.refl _ _) ok .nil
theorem LW{K:Um}{a:WE}{b:WA}(ma:Mono a)(mb:MonoA b):∀ σ H Q,liftA K (D4 a b) σ H Q->F9 (lift K a) (liftA K b) σ H Q:=by
 rintro σ H Q ⟨as,ρ,S,ok,en,h⟩;refine⟨as,ρ,S,ok,en,ma _ _ _ _ (λx S1 hs as1 H1 v g1 ok1 rv=>?_) h⟩;refine⟨as1,ρ,S1,ok1,en.mono g1.pre (g1.ku ok),mb _ _ _ _ (λxs S2 hq as2 H2 vs g2 ok2 rs=>?_) hs⟩;exact hq as2 H2 _ (g1.trans g2) ok2 (.cons (Rl.mono g2.pre (g2.ku ok1) x v rv) rs)
theorem LX{X:Cx}{K:Um}{e:Expr}{es:List Expr}{a:WE}{b:WA}(ma:Mono a)(mb:MonoA b)(h1:PE X e (lift K a))(h2:PA X es (liftA K b))(hs:Yc (e::es) X.env=(false,eval e X.env)::Yc es X.env):PA X (e::es) (liftA K (D4 a b)):=LV _ (AX h1 h2 hs) (LW ma mb)
def RV(i:Nat):WE:=λρ S Q=>∃ x,ρ[i]?=some (some x)/\Q x S
def wC(x:SV):WE:=λ_ S Q=>Q x S
theorem Mono.var{i:Nat}:Mono (RV i):=λ_ _ _ _ i ⟨x,a,b⟩=>⟨x,a,i _ _ b⟩
theorem Mono.c{x:SV}:Mono (wC x):=λ_ _ _ _ i h=>i _ _ h
theorem OB{K:Um}{i:Nat}:∀ σ H Q,lift K (RV i) σ H Q->NW i σ H Q:=λσ H Q ⟨as,ρ,S,ok,en,x,e,h⟩=>let ⟨v,ev,rv⟩:=en.2 i x e;⟨v,ev,h as H v (Go.refl _ _) ok rv⟩
theorem FL{K:Um}{x:SV}{v:V}(hx:∀ as H,Rl K as H v x):∀ σ H Q,lift K (wC x) σ H Q->tC v σ H Q:=λσ H Q ⟨as,ρ,S,ok,en,h⟩=>h as H v (Go.refl _ _) ok (hx as H)
def big:Nat:=100000
theorem AC{n:Nat}(h:n<=big):n<=YU:=VF h (by decide)
theorem Gj{n:Nat}(h:n<big):n<YU:=VI h (by decide)
def OC:Sn:=λxs S Q=>xs.length<=big/\Q (.tup xs) S
def OD:Sn:=λxs S Q=>xs.length<=big/\Q (.loc S.length) (S++[.lst xs])
theorem MonoN.tup:MonoN OC:=λ_ _ _ _ i h=>⟨h.1,i _ _ h.2⟩
theorem MonoN.lst:MonoN OD:=λ_ _ _ _ i h=>⟨h.1,i _ _ h.2⟩
theorem RW{K:Um}{as:List YN}{H:Hp}{S:Sto}{p:YN}(ok:Ok K as H S):Rl K (as++[p]) (upd H p (.lst vs)) (.ref p) (.loc S.length):=rl_loc.mpr ⟨p,by rw[<-ok.len,VT],rfl⟩
theorem AM{K:Um}{as:List YN}{H:Hp}{S:Sto}{Q:VK}{xs:List SV}{vs:List V}(ok:Ok K as H S)(r:RlAll K as H vs xs)(h:Post K as H Q (.loc S.length) (S++[.lst xs])):∀ p,H p=none->Q (.ref p) (upd H p (.lst vs)):=λp hp=>
 h (as++[p]) _ (.ref p) (Go.push hp) (ok.push hp r) (RW ok)
theorem BA{K:Um}{as:List YN}{H:Hp}{S:Sto}{Q:VK}{xs:List SV}{vs:List V}(ok:Ok K as H S)(r:RlAll K as H vs xs)(h:Post K as H Q (.tup xs) S):∀ p,H p=none->Q (.ref p) (upd H p (.tup vs)):=λp hp=>
 h as _ (.ref p) (Go.new hp) (ok.new hp) (rl_tup.mpr ⟨p,vs,rfl,n6,RlAll.mono (Vn _) (Am hp) xs vs r⟩)
theorem OE{K:Um}{wa:WA}(ma:MonoA wa):∀ σ H Q,lift K (wn OC wa) σ H Q->TH (liftA K wa) σ H Q:=by
 rintro σ H Q ⟨as,ρ,S,ok,en,h⟩;refine⟨as,ρ,S,ok,en,ma _ _ _ _ (λxs S1 hs as1 H1 vs g1 ok1 rv=>?_) h⟩;exact⟨by rw[rv.length];exact AC hs.1,BA ok1 rv (hs.2.mono g1)⟩
theorem OF{K:Um}{wa:WA}(ma:MonoA wa):∀ σ H Q,lift K (wn OD wa) σ H Q->TJ (liftA K wa) σ H Q:=by
 rintro σ H Q ⟨as,ρ,S,ok,en,h⟩;refine⟨as,ρ,S,ok,en,ma _ _ _ _ (λxs S1 hs as1 H1 vs g1 ok1 rv=>?_) h⟩;exact⟨by rw[rv.length];exact AC hs.1,AM ok1 rv (hs.2.mono g1)⟩
end Rf
namespace L2
open PySem PySem.Spec PyProof.Rows
section
variable{prog:YT}{w:YX}{A:YZ}{E:YK->YM->Prop}{s:YM}
theorem SetX.kind{h:Heap}{a:YN}{L:List Int}(x:SetX prog w h a L):h.SetOf (intKind prog w) a (λk=>decide (k∈L)) L.length:=by
 obtain⟨o,es,ep,t,ho,hx,hd,hel,hb,hf,hT,hp⟩:=x;refine⟨o,es,ep,t,ho,hx,hd,hel,λk=>?_,hb,hf,by rw[<-hp.length_eq];simp⟩;rw[dQ,<-hp.mem_iff,VV];constructor
 ·rintro⟨e,he,rfl⟩;obtain⟨⟨k,hk,_⟩,_⟩:=hel e he;exact⟨e,he,by rw[IG hk];exact hk⟩
 ·rintro⟨e,he,hk⟩;exact⟨e,he,IG hk⟩
end
section
variable{X:Cx}
theorem LY:OpR X (Yb .In) (λx y H Q=>∃(k:Int) (p:YN) (S:Int->Bool) (n:Nat),x = .int k/\y = .ref p/\H p=some (.set S n)/\Q (.bl (S k)) H):=by
 intro pq s σ H x y v u Q I rx ry h;obtain⟨k,p,S,n,rfl,rfl,hp,q⟩:=h;obtain⟨t,rfl⟩:=rx;cases ry;have hS:s.heap.SetOf (intKind X.prog X.w) p S n:=I.hok p _ hp;exact wpAny_inSet_of (k:=k) (intKind_is _ _ _ _) rfl hS ⟨.bl _,H,I.tok _,rfl,q⟩
theorem IH(hu:X.A.units<cLine):OpR X (Yb .Eq) (λx y H Q=>∃ a b xs,x = .ref a/\y = .ref b/\SqT X.K H a xs/\SqT X.K H b []/\Q (.bl xs.isEmpty) H):=by
 intro pq s σ H x y v u Q I rx ry h;obtain⟨a,b,xs,rfl,rfl,ha,hb,q⟩:=h;cases rx;cases ry;obtain⟨its1,r1,p1,_⟩:=I.tuple ha;obtain⟨its2,r2,p2,_⟩:=I.tuple hb;cases r2;refine SeqAt.eq_tupleAt (e:=λ_=>true) (show s.heap.IsTuple a its1.toArray from p1) (show s.heap.IsTuple b _ from p2) hu (λj _ h2=>by simp at h2) ?_;refine⟨.bl xs.isEmpty,H,I,?_,q⟩;show Value.bool _=Value.bool _
 congr 1
 cases xs with
 | nil=>cases r1;rfl
 | cons x xs=>cases r1;simp
end
theorem Vals.rev:∀{xs:List V} {us:List YK},Vals xs us->Vals xs.reverse us.reverse
 | _,_,.nil => .nil
 | _,_,.cons r rr=>by
   rw[WX,WX];exact(Vals.rev rr).append (.cons r .nil)
section
variable{X:Cx}{e st:Expr}{te:TE}{tp:TO}{pos p2:Pos}
def Ud(K:Um)(te:TE)(tp:TO):TE:=λσ H Q=>te σ H λx H1=>tp σ H1 λu H2=>u=some (-1)/\∃ a xs,x = .ref a/\SqL K H2 a xs/\∀ p,H2 p=none->Q (.ref p) (upd H2 p (.lst xs.reverse))
theorem RX(he:PE X e te)(hp:PO X (some st) tp):PE X (.Subscript e (.Slice none none (some st) p2) pos) (Ud X.K te tp):=by
 intro pq s σ H Q I h;refine A0f (thn (he pq s σ H _ I h) λv s1 ⟨x,H1,I1,r1,q1⟩=>?_);refine wpAny_Slice ?_;rw[Zq];refine YQ (YQ ?_);refine thn (hp pq s1 σ H1 _ I1 q1) λvu s3 ⟨u,H3,I3,pu,q3⟩=>?_;obtain⟨rfl,a,xs,rfl,hx,q⟩:=q3;cases r1;have I4:Inv X pq σ H3 {s3 with heap:=s3.heap.push {cls := .type "slice",data := .fields #[.none,.none,vu]}}:=I3.kept (t':=s3.toks) λb ob q=>Uw _ q;show YV (YS X.prog X.w) X.A (Zr e (.Slice none none (some st) p2) (.ref a) (.ref s3.heap.objs.size)) (EP X pq σ Q) X.xe {s3 with heap:=s3.heap.push {cls := .type "slice",data := .fields #[.none,.none,vu]}};obtain⟨its,r,ht,hz⟩:=I4.list hx;have hlen:=r.length;refine tail_any (ops:=[.ref a,.ref s3.heap.objs.size]) ht.isList.typeIs slot_list_getitem.lookup ?_ (by with_unfolding_all rfl);refine ZW ht.isList (Y3.new ..) .none .none pu (by decide) ?_ (by rw[Uu]<;>omega);rw[PySem.W.krv_pick];refine⟨.ref _,_,I4.laid (t':=s3.toks) (o := .lst xs.reverse) (λb ob q=>Uw _ q) (Ux _) ?_,rfl,q _ (I4.hok.fresh (Ux _))⟩;exact⟨by rw[List.length_reverse];exact hz,_,0,r.rev,V8 _ rfl⟩
end
open PySem PySem.Spec PyProof.Rows PySem.SeqAt
section
variable{X:Cx}
def Q2(K:Um):R2:=λx y H Q=>∃ a t,x = .ref a/\y = .str t/\((∃ xs,SqL K H a xs)\/∃ xs,SqT K H a xs)/\Q (.bl false) H
theorem OG(hu:X.A.units<cLine):OpR X (Yb .Eq) (Q2 X.K):=by
 intro pq s σ H x y v u Q I rx ry h;obtain⟨a,t,rfl,rfl,h1,q⟩:=h;cases rx;obtain⟨tk,rfl⟩:=ry
 have e:YV (YS X.prog X.w) X.A (Z2 .Eq (.ref a) (.str t tk)) (EP X pq σ Q) X.xe s:=by
  rcases h1 with⟨xs,h1⟩ | ⟨xs,h1⟩
  ·obtain⟨its,r1,p1,_⟩:=I.list h1;exact RcAt.list_str t tk p1.isList hu _ _ _ _ ⟨.bl false,H,I,rfl,q⟩
  ·obtain⟨its,r1,p1,_⟩:=I.tuple h1;exact RcAt.tuple_str (items:=its.toArray) t tk p1 hu _ _ _ _ ⟨.bl false,H,I,rfl,q⟩
 exact e
end
end L2
namespace Rf
open PySem L2
def v4:SV->Bool
 | .non=>true | .bl _=>true | .int _=>true | .str _=>true | _=>false
def toV:SV->V
 | .non => .non | .bl b => .bl b | .int i => .int i | .str x => .str x | _ => .non
def eqF:SV->SV->Bool
 | .non,.non=>true
 | .bl a,.bl b=>a == b
 | .bl a,.int b=>(if a then 1 else 0) == b
 | .int a,.bl b=>a == (if b then 1 else 0)
 | .int a,.int b=>a == b
 | .str a,.str b=>a == b
 | _,_=>false
def Dd(xs ys:List SV):Bool:=xs.length == ys.length&&(xs.zip ys).all λp=>eqF p.1 p.2
def inS(x:SV)(xs:List SV):Bool:=xs.any λy=>eqF y x
section
variable{K:Um}{as:List YN}{H:Hp}
theorem II{x:SV}{v:V}(f:v4 x=true)(r:Rl K as H v x):v=toV x:=by
 cases x with
 | non=>exact rl_non.mp r
 | bl _=>exact rl_bl.mp r
 | int _=>exact rl_int.mp r
 | str _=>exact rl_str.mp r
 | _=>cases f
theorem An:∀{xs:List SV} {vs:List V},xs.all v4=true->RlAll K as H vs xs->vs=xs.map toV
 | [],_,_,r=>rla_nil.mp r
 | x::xs,_,f,r=>by
   rw[Vz,Uo]at f;obtain⟨v,vs,rfl,r1,r2⟩:=rla_cons.mp r;rw[II f.1 r1,An f.2 r2];rfl
theorem FM{x:SV}(f:v4 x=true):r6 (toV x)=true:=by cases x<;>first | rfl | cases f
theorem CG{xs:List SV}(f:xs.all v4=true):(xs.map toV).all r6=true:=by
 rw[VC]at f ⊢;intro v hv;obtain⟨x,hx,rfl⟩:=VV.mp hv;exact FM (f x hx)
theorem EX{x y:SV}(fx:v4 x=true)(fy:v4 y=true):eqV (toV x) (toV y)=eqF x y:=by
 cases x<;>first | cases fx;done | (cases y<;>first | rfl | cases fy)
theorem RY{x:SV}{xs:List SV}(fx:v4 x=true)(f:xs.all v4=true):inV (toV x) (xs.map toV)=inS x xs:=by
 unfold inV inS;rw[Xk];rw[VC]at f;rw[Vj,We,We];constructor
 ·rintro⟨y,hy,e⟩;exact⟨y,hy,by rw[<-EX (f y hy) fx];exact e⟩
 ·rintro⟨y,hy,e⟩;exact⟨y,hy,by show eqV (toV y) (toV x)=true;rw[EX (f y hy) fx];exact e⟩
theorem OH:∀{xs ys:List SV},xs.all v4=true->ys.all v4=true->Af (xs.map toV) (ys.map toV)=Dd xs ys:=by
 intro xs ys fx fy;unfold Af Dd;rw[Ur,Ur,List.zip_map,XQ]
 congr 1
 rw[Vj,VC,VC];rw[VC]at fx fy;constructor
 ·rintro h ⟨a,b⟩ hm;have:=h (a,b) hm;rw[<-EX (fx a (WW hm).1) (fy b (WW hm).2)];exact this
 ·rintro h ⟨a,b⟩ hm;have:=h (a,b) hm;show eqV (toV a) (toV b)=true;rw[EX (fx a (WW hm).1) (fy b (WW hm).2)];exact this
def seqS:SV->Sto->Option (List SV)
 | .tup xs,_=>some xs
 | .ro xs,_=>some xs
 | .loc k,S=>match S[k]? with | some (.lst xs)=>some xs | _=>none
 | _,_=>none
theorem EY{x:SV}{v:V}{S:Sto}{xs:List SV}(ok:Ok K as H S)(r:Rl K as H v x)(h:seqS x S=some xs):∃ a vs,v = .ref a/\(SqL K H a vs\/SqT K H a vs)/\RlAll K as H vs xs:=by
 cases x with
 | tup ys=>
   cases h;obtain⟨p,vs,rfl,hp,rr⟩:=rl_tup.mp r;exact⟨p,vs,rfl,.inr (SqT.of hp),rr⟩
 | ro ys=>
   cases h;obtain⟨p,vs,rfl,hp,rr⟩:=rl_ro.mp r;exact⟨p,vs,rfl,.inl hp.sq,rr⟩
 | loc k=>
   obtain⟨a,ea,rfl⟩:=rl_loc.mp r;unfold seqS at h;cases hs:S[k]? with
   | none=>simp only[hs]at h;cases h
   | some o=>
     cases o with
     | lst ys=>
       simp only[hs]at h;cases h;obtain⟨vs,h1,rr⟩:=ok.obj k _ a hs ea;exact⟨a,vs,rfl,.inl (SqL.of h1),rr⟩
     | iset _=>simp only[hs]at h;cases h
     | dtl _=>simp only[hs]at h;cases h
     | dtf _ _ _=>simp only[hs]at h;cases h
     | dtp _=>simp only[hs]at h;cases h
     | dct _=>simp only[hs]at h;cases h
     | dcf _ _ _=>simp only[hs]at h;cases h
 | _=>cases h
theorem j0{k:Nat}{v:V}{S:Sto}{xs:List SV}(ok:Ok K as H S)(r:Rl K as H v (.loc k))(h:S[k]?=some (.lst xs)):∃ a vs,v = .ref a/\as[k]?=some a/\H a=some (.lst vs)/\RlAll K as H vs xs:=by
 obtain⟨a,ea,rfl⟩:=rl_loc.mp r;obtain⟨vs,h1,rr⟩:=ok.obj k _ a h ea;exact⟨a,vs,rfl,ea,h1,rr⟩
end
def LZ:S2
 | .int i,.int j,S,Q=>Q (.int (i+j)) S
 | .str i,.str j,S,Q=>i.length+j.length<=big/\Q (.str (i++j)) S
 | .tup xs,.tup ys,S,Q=>xs.length+ys.length<=big/\Q (.tup (xs++ys)) S
 | .loc k,.loc l,S,Q=>∃ xs ys,S[k]?=some (.lst xs)/\S[l]?=some (.lst ys)/\xs.length+ys.length<=big/\Q (.loc S.length) (S++[.lst (xs++ys)])
 | _,_,_,_=>False
def Gk(C:Int->Int->Prop)(g:Int->Int->SV):S2
 | .int i,.int j,S,Q=>C i j/\Q (g i j) S
 | _,_,_,_=>False
def Bv(g:Int->Int->SV):S2
 | .int i,.int j,S,Q=>Q (g i j) S
 | _,_,_,_=>False
def La:S2
 | .int i,.int j,S,Q=>CMul i j/\Q (.int (i * j)) S
 | .loc k,.int j,S,Q=>∃ xs,S[k]?=some (.lst xs)/\(-1000000<j/\j<1000000)/\xs.length * j.toNat<=big/\Q (.loc S.length) (S++[.lst (Uv j.toNat xs).flatten])
 | _,_,_,_=>False
theorem Mono2.add:Mono2 LZ:=λx y S P P' i h=>by
 unfold LZ at h ⊢
 split at h<;>first
  | exact i _ _ h
  | exact⟨h.1,i _ _ h.2⟩
  | (obtain⟨xs,ys,a,b,c,d⟩:=h;exact⟨xs,ys,a,b,c,i _ _ d⟩)
  | exact h.elim
theorem Mono2.int{C:Int->Int->Prop}{g:Int->Int->SV}:Mono2 (Gk C g):=λx y S P P' i h=>by
 unfold Gk at h ⊢;split at h
 ·exact⟨h.1,i _ _ h.2⟩
 ·exact h.elim
theorem Mono2.int0{g:Int->Int->SV}:Mono2 (Bv g):=λx y S P P' i h=>by
 unfold Bv at h ⊢;split at h
 ·exact i _ _ h
 ·exact h.elim
theorem Mono2.mul:Mono2 La:=λx y S P P' i h=>by
 unfold La at h ⊢;split at h
 ·exact⟨h.1,i _ _ h.2⟩
 ·obtain⟨xs,a,b,c,d⟩:=h;exact⟨xs,a,b,c,i _ _ d⟩
 ·exact h.elim
section
variable{K:Um}
theorem Post.here{as:List YN}{H:Hp}{Q:VK}{x:SV}{S:Sto}{v:V}(h:Post K as H Q x S)(ok:Ok K as H S)(r:Rl K as H v x):Q v H:=h as H v (Go.refl _ _) ok r
theorem EZ{C:Int->Int->Prop}{g:Int->Int->SV}{g':Int->Int->V}(hg:∀ as H i j,Rl K as H (g' i j) (g i j)):B0 K (Gk C g) (rI C g'):=λas H S x y v u Q ok rx ry h=>by
 unfold Gk at h;split at h
 ·rw[rl_int]at rx ry;exact⟨_,_,rx,ry,h.1,h.2.here ok (hg _ _ _ _)⟩
 ·exact h.elim
theorem BB{g:Int->Int->SV}{g':Int->Int->V}(hg:∀ as H i j,Rl K as H (g' i j) (g i j)):B0 K (Bv g) (rI0 g'):=λas H S x y v u Q ok rx ry h=>by
 unfold Bv at h;split at h
 ·rw[rl_int]at rx ry;exact⟨_,_,rx,ry,h.here ok (hg _ _ _ _)⟩
 ·exact h.elim
def Tq(K:Um):R2:=λx y H Q=>(((rI0 λi j => .int (i+j)) x y H Q\/TW x y H Q)\/(Kq K x y H Q\/LU K x y H Q))\/∃ i j,x = .str i/\y = .str j/\i.length+j.length<=YU/\Q (.str (i++j)) H
theorem OI{X:Cx}:OpR X (Ys .Add) (Tq X.K):=((op_add.or RB).or O8).or GT
theorem OJ:B0 K LZ (Tq K):=λas H S x y v u Q ok rx ry h=>by
 unfold LZ at h;split at h
 ·rw[rl_int]at rx ry;exact .inl (.inl (.inl ⟨_,_,rx,ry,h.here ok (rl_int.mpr rfl)⟩))
 ·rw[rl_str]at rx ry;exact .inr ⟨_,_,rx,ry,AC h.1,h.2.here ok (rl_str.mpr rfl)⟩
 ·rename_i xs ys;obtain⟨a,vs,rfl,ha,ra⟩:=rl_tup.mp rx;obtain⟨b,us,rfl,hb,rb⟩:=rl_tup.mp ry;have l1:=ra.length;have l2:=rb.length;by_cases hx:vs=[]
  ·subst hx;have:xs=[]:=Wy.mp (by rw[<-l1];rfl);subst this;exact .inl (.inr (.inr ⟨a,b,us,rfl,rfl,SqT.of ha,SqT.of hb,h.2.here ok ry⟩))
  ·refine .inl (.inr (.inl ⟨a,b,vs,us,rfl,rfl,SqT.of ha,SqT.of hb,hx,by rw[l1,l2];exact AC h.1,λz=>?_,λ_=>BA ok (ra.append rb) h.2⟩));have:ys=[]:=Wy.mp (by rw[<-l2,z];rfl);subst this;rw[VY]at h;exact h.2.here ok rx
 ·obtain⟨xs,ys,h1,h2,h3,h4⟩:=h;obtain⟨a,vs,rfl,_,ha,ra⟩:=j0 ok rx h1;obtain⟨b,us,rfl,_,hb,rb⟩:=j0 ok ry h2;exact .inl (.inl (.inr ⟨a,b,vs,us,rfl,rfl,ha,hb,by rw[ra.length,rb.length];exact AC h3,AM ok (ra.append rb) h4⟩))
 ·exact h.elim
theorem RlAll.rep{as:List YN}{H:Hp}{vs:List V}{xs:List SV}(h:RlAll K as H vs xs):∀ n,RlAll K as H (Uv n vs).flatten (Uv n xs).flatten
 | 0=>by simpa using RlAll.nil
 | n+1=>by
   rw[VQ,VQ,Vv,Vv];exact h.append (RlAll.rep h n)
theorem OK:B0 K La (λx y H Q=>(rI CMul λi j => .int (i * j)) x y H Q\/TX x y H Q):=λas H S x y v u Q ok rx ry h=>by
 unfold La at h;split at h
 ·rw[rl_int]at rx ry;exact .inl ⟨_,_,rx,ry,h.1,h.2.here ok (rl_int.mpr rfl)⟩
 ·rename_i k j;obtain⟨xs,h1,h2,h3,h4⟩:=h;obtain⟨a,vs,rfl,_,ha,ra⟩:=j0 ok rx h1;rw[rl_int]at ry;subst ry;exact .inr (⟨a,j,vs,rfl,rfl,ha,by omega,by omega,by rw[ra.length];exact AC h3,AM ok (ra.rep _) h4⟩)
 ·exact h.elim
end
def scS:SV->SV->Option Bool
 | .int i,.int j=>some (decide (i=j))
 | .bl i,.bl j=>some (decide (i=j))
 | .str i,.str j=>some (decide (i=j))
 | .non,.non=>some true
 | .non,.int _=>some false | .int _,.non=>some false | .non,.bl _=>some false | .bl _,.non=>some false | .non,.str _=>some false | .str _,.non=>some false
 | .int _,.str _=>some false | .str _,.int _=>some false | .bl _,.str _=>some false | .str _,.bl _=>some false
 | _,_=>none
def Gn:SV->SV->Sto->(Bool->Prop)->Prop
 | .loc k,.loc l,S,Q=>∃ xs ys,S[k]?=some (.lst xs)/\S[l]?=some (.lst ys)/\((xs.all v4=true/\ys.all v4=true)\/xs=[]\/ys=[])/\Q (Dd xs ys)
 | _,_,_,_=>False
def JX:SV->SV->Sto->(Bool->Prop)->Prop
 | .loc k,.loc l,S,Q=>∃ xs ys,S[k]?=some (.lst xs)/\S[l]?=some (.lst ys)/\((xs.all v4=true/\ys.all v4=true)\/xs=[]\/ys=[])/\Q (Dd xs ys)
 | .loc k,.str _,S,Q=>(∃ xs,S[k]?=some (.lst xs))/\Q false
 | .tup _,.str _,_,Q=>Q false
 | _,_,_,_=>False
theorem RZ{x y:SV}{S:Sto}{Q:Bool->Prop}(h:JX x y S Q):Gn x y S Q\/(∃ t,y = .str t/\((∃ k xs,x = .loc k/\S[k]?=some (.lst xs))\/∃ xs,x = .tup xs)/\Q false):=by
 unfold JX at h;split at h
 ·exact .inl h
 ·obtain⟨⟨xs,e⟩,q⟩:=h;exact .inr ⟨_,rfl,.inl ⟨_,xs,rfl,e⟩,q⟩
 ·exact .inr ⟨_,rfl,.inr ⟨_,rfl⟩,h⟩
 ·exact h.elim
theorem JY{x y:SV}{S:Sto}{P P':Bool->Prop}(i:∀ b,P b->P' b)(h:JX x y S P):JX x y S P':=by
 unfold JX at h ⊢;split at h
 ·obtain⟨xs,ys,a,b,c,d⟩:=h;exact⟨xs,ys,a,b,c,i _ d⟩
 ·exact⟨h.1,i _ h.2⟩
 ·exact i _ h
 ·exact h.elim
def sEq:S2:=λx y S Q=>match scS x y with | some b=>Q (.bl b) S | none=>JX x y S λb=>Q (.bl b) S
def sNe:S2:=λx y S Q=>match scS x y with | some b=>Q (.bl (!b)) S | none=>Gn x y S λb=>Q (.bl (!b)) S
def D5:SV->Sto->Option (List Int)
 | .loc k,S=>match S[k]? with | some (.iset ms)=>some ms | _=>none
 | _,_=>none
def sIn(neg:Bool):S2:=λx y S Q=>match D5 y S with
 | some ms=>∃ i,x = .int i/\neg=false/\Q (.bl (decide (i∈ms))) S
 | none=>v4 x=true/\∃ ys,seqS y S=some ys/\ys.all v4=true/\Q (.bl (if neg then !inS x ys else inS x ys)) S
def Ax:SV->Bool
 | .non=>true
 | _=>false
def Lb(neg:Bool):S2:=λx y S Q=>(y = .non/\Q (.bl (if neg then !Ax x else Ax x)) S)\/∃ c d,neg=true/\x = .bl c/\y = .bl d/\Q (.bl (c != d)) S
theorem JZ{x y:SV}{S:Sto}{P P':Bool->Prop}(i:∀ b,P b->P' b)(h:Gn x y S P):Gn x y S P':=by
 unfold Gn at h ⊢;split at h
 ·obtain⟨xs,ys,a,b,c,d⟩:=h;exact⟨xs,ys,a,b,c,i _ d⟩
 ·exact h.elim
theorem Mono2.eq:Mono2 sEq:=λx y S P P' i h=>by
 unfold sEq at h ⊢;split at h
 ·exact i _ _ h
 ·exact JY (λ_=>i _ _) h
theorem Mono2.ne:Mono2 sNe:=λx y S P P' i h=>by
 unfold sNe at h ⊢;split at h
 ·exact i _ _ h
 ·exact JZ (λ_=>i _ _) h
theorem Mono2.in'{n:Bool}:Mono2 (sIn n):=λx y S P P' i h=>by
 unfold sIn at h ⊢;split at h
 ·obtain⟨j,e,z,h⟩:=h;exact⟨j,e,z,i _ _ h⟩
 ·obtain⟨f,ys,a,b,h⟩:=h;exact⟨f,ys,a,b,i _ _ h⟩
theorem Mono2.isN{n:Bool}:Mono2 (Lb n):=λx y S P P' i h=>h.imp (λh=>⟨h.1,i _ _ h.2⟩) λ⟨c,d,z,a,b,h⟩=>⟨c,d,z,a,b,i _ _ h⟩
section
variable{K:Um}
theorem Lc{as:List YN}{H:Hp}{x y:SV}{v u:V}{b:Bool}(e:scS x y=some b)(rx:Rl K as H v x)(ry:Rl K as H u y):R0 v u=true/\decide (v=u)=b:=by
 cases x<;>first | (unfold scS at e;cases e;done) | (cases y<;>first | (unfold scS at e;cases e;done) | (simp only[rl_non,rl_bl,rl_int,rl_str]at rx ry;subst rx ry;unfold scS at e;injection e with e;subst e;exact⟨rfl,by simp⟩))
theorem IJ{as:List YN}{H:Hp}{S:Sto}{x y:SV}{v u:V}{Q:Bool->Prop}(ok:Ok K as H S)(rx:Rl K as H v x)(ry:Rl K as H u y)(h:Gn x y S Q):∃ a b xs ys,v = .ref a/\u = .ref b/\SqL K H a xs/\SqL K H b ys/\((xs.all r6=true/\ys.all r6=true)\/xs=[]\/ys=[])/\Q (Af xs ys):=by
 unfold Gn at h;split at h
 ·obtain⟨xs,ys,h1,h2,h3,h4⟩:=h;obtain⟨a,vs,rfl,_,ha,ra⟩:=j0 ok rx h1;obtain⟨b,us,rfl,_,hb,rb⟩:=j0 ok ry h2;refine⟨a,b,vs,us,rfl,rfl,SqL.of ha,SqL.of hb,?_,?_⟩
  ·rcases h3 with⟨f1,f2⟩ | h3 | h3
   ·rw[An f1 ra,An f2 rb];exact .inl ⟨CG f1,CG f2⟩
   ·subst h3;exact .inr (.inl (rla_nil.mp ra))
   ·subst h3;exact .inr (.inr (rla_nil.mp rb))
  ·have e:Af vs us=Dd xs ys:=by
    rcases h3 with⟨f1,f2⟩ | h3 | h3
    ·rw[An f1 ra,An f2 rb,OH f1 f2]
    ·subst h3;have:=rla_nil.mp ra;subst this;have l:=rb.length;unfold Af Dd;simp[l]
    ·subst h3;have:=rla_nil.mp rb;subst this;have l:=ra.length;unfold Af Dd;simp[l]
   rw[e];exact h4
 ·exact h.elim
theorem Ra:B0 K sEq (λx y H Q=>rEq x y H Q\/(Nq K false x y H Q\/Q2 K x y H Q)):=λas H S x y v u Q ok rx ry h=>by
 unfold sEq at h;split at h
 ·rename_i b e;obtain⟨h1,h2⟩:=Lc e rx ry;exact .inl ⟨h1,by rw[h2];exact h.here ok (rl_bl.mpr rfl)⟩
 ·rcases RZ h with h | ⟨t,rfl,h,q⟩
  ·obtain⟨a,b,xs,ys,e1,e2,h1,h2,h3,h4⟩:=IJ ok rx ry h;exact .inr (.inl ⟨a,b,xs,ys,e1,e2,h1,h2,h3,h4.here ok (rl_bl.mpr rfl)⟩)
  ·rw[rl_str]at ry;subst ry;rcases h with⟨k,xs,rfl,hk⟩ | ⟨xs,rfl⟩
   ·obtain⟨a,vs,rfl,_,ha,_⟩:=j0 ok rx hk;exact .inr (.inr ⟨a,t,rfl,rfl,.inl ⟨vs,SqL.of ha⟩,Post.here q ok (rl_bl.mpr rfl)⟩)
   ·obtain⟨p,vs,rfl,hp,_⟩:=rl_tup.mp rx;exact .inr (.inr ⟨p,t,rfl,rfl,.inr ⟨vs,SqT.of hp⟩,Post.here q ok (rl_bl.mpr rfl)⟩)
theorem Rb:B0 K sNe (λx y H Q=>rNe x y H Q\/Nq K true x y H Q):=λas H S x y v u Q ok rx ry h=>by
 unfold sNe at h;split at h
 ·rename_i b e;obtain⟨h1,h2⟩:=Lc e rx ry;exact .inl ⟨h1,by rw[h2];exact h.here ok (rl_bl.mpr rfl)⟩
 ·obtain⟨a,b,xs,ys,e1,e2,h1,h2,h3,h4⟩:=IJ ok rx ry h;exact .inr ⟨a,b,xs,ys,e1,e2,h1,h2,h3,h4.here ok (rl_bl.mpr rfl)⟩
theorem OL{as:List YN}{H:Hp}{S:Sto}{y:SV}{u:V}{ms:List Int}(ok:Ok K as H S)(r:Rl K as H u y)(h:D5 y S=some ms):∃ a k F,y = .loc k/\u = .ref a/\as[k]?=some a/\S[k]?=some (.iset ms)/\H a=some (.set F ms.length)/\∀ k,F k=decide (k∈ms):=by
 cases y with
 | loc k=>
   obtain⟨a,ea,rfl⟩:=rl_loc.mp r;unfold D5 at h;cases hs:S[k]? with
   | none=>simp only[hs]at h;cases h
   | some o=>
     cases o with
     | lst ys=>simp only[hs]at h;cases h
     | iset ns=>
       simp only[hs]at h;cases h;obtain⟨F,h1,h2⟩:=ok.obj k _ a hs ea;exact⟨a,k,F,rfl,rfl,ea,hs,h1,h2⟩
     | dtl _=>simp only[hs]at h;cases h
     | dtf _ _ _=>simp only[hs]at h;cases h
     | dtp _=>simp only[hs]at h;cases h
     | dct _=>simp only[hs]at h;cases h
     | dcf _ _ _=>simp only[hs]at h;cases h
 | _=>cases h
def Rc(K:Um)(neg:Bool):R2:=λx y H Q=>rIn K neg x y H Q\/(neg=false/\∃(k:Int) (p:YN) (S:Int->Bool) (n:Nat),x = .int k/\y = .ref p/\H p=some (.set S n)/\Q (.bl (S k)) H)
theorem Re{X:Cx}:OpR X (Yb .In) (Rc X.K false):=λpq s σ H x y v u Q I rx ry h=>h.elim (JO pq s σ H x y v u Q I rx ry) λh=>LY pq s σ H x y v u Q I rx ry h.2
theorem Ja{X:Cx}:OpR X (Yb .NotIn) (Rc X.K true):=λpq s σ H x y v u Q I rx ry h=>h.elim (EQ pq s σ H x y v u Q I rx ry) λh=>by cases h.1
theorem Ld{n:Bool}:B0 K (sIn n) (Rc K n):=λas H S x y v u Q ok rx ry h=>by
 unfold sIn at h;split at h
 ·rename_i ms hi;obtain⟨i,rfl,rfl,h⟩:=h;obtain⟨a,k,F,rfl,rfl,ea,es,hF,hk⟩:=OL ok ry hi;rw[rl_int]at rx;exact .inr ⟨rfl,i,a,F,_,rx,rfl,hF,by rw[hk];exact h.here ok (rl_bl.mpr rfl)⟩
 ·obtain⟨f,ys,hs,fs,h⟩:=h;obtain⟨a,vs,rfl,hq,rr⟩:=EY ok ry hs;have ev:=II f rx;have es:=An fs rr;subst ev es;exact .inl ⟨a,_,rfl,hq,FM f,CG fs,by rw[RY f fs];exact h.here ok (rl_bl.mpr rfl)⟩
theorem FN{as:List YN}{H:Hp}{x:SV}{v:V}(r:Rl K as H v x):decide (v=V.non)=Ax x:=by
 cases x with
 | non=>rw[rl_non.mp r];rfl
 | bl _=>rw[rl_bl.mp r];rfl
 | int _=>rw[rl_int.mp r];rfl
 | str _=>rw[rl_str.mp r];rfl
 | tup _=>obtain⟨p,vs,rfl,_⟩:=rl_tup.mp r;rfl
 | loc _=>obtain⟨p,_,rfl⟩:=rl_loc.mp r;rfl
 | ro _=>obtain⟨p,vs,rfl,_⟩:=rl_ro.mp r;rfl
 | ty _=>rw[rl_ty.mp r];rfl
theorem OM:B0 K (Lb false) (λx y H Q=>y = .non/\Q (.bl (decide (x = .non))) H):=λas H S x y v u Q ok rx ry h=>by
 rcases h with⟨e,h⟩ | ⟨c,d,z,_⟩
 ·subst e;exact⟨rl_non.mp ry,by rw[FN rx];exact h.here ok (rl_bl.mpr rfl)⟩
 ·cases z
theorem Lf:B0 K (Lb true) (λx y H Q=>(y = .non/\Q (.bl (!decide (x = .non))) H)\/∃ c d,x = .bl c/\y = .bl d/\Q (.bl (c != d)) H):=λas H S x y v u Q ok rx ry h=>by
 rcases h with⟨e,h⟩ | ⟨c,d,_,rfl,rfl,h⟩
 ·subst e;exact .inl ⟨rl_non.mp ry,by rw[FN rx];exact h.here ok (rl_bl.mpr rfl)⟩
 ·exact .inr ⟨c,d,rl_bl.mp rx,rl_bl.mp ry,h.here ok (rl_bl.mpr rfl)⟩
end
def sIx:S2
 | x,.int i,S,Q=>∃ xs y,seqS x S=some xs/\atI xs i=some y/\Q y S
 | _,_,_,_=>False
theorem Mono2.ix:Mono2 sIx:=λx y S P P' i h=>by
 unfold sIx at h ⊢;split at h
 ·obtain⟨xs,z,a,b,c⟩:=h;exact⟨xs,z,a,b,i _ _ c⟩
 ·exact h.elim
section
variable{K:Um}
theorem RlAll.atI{as:List YN}{H:Hp}{xs:List SV}{vs:List V}{i:Int}{y:SV}(h:RlAll K as H vs xs)(e:L2.atI xs i=some y):∃ v,L2.atI vs i=some v/\Rl K as H v y:=by
 unfold L2.atI at e ⊢;rw[h.length];cases hj:ixN xs.length i with
 | none=>rw[hj]at e;cases e
 | some j=>
   rw[hj]at e;exact h.get e
theorem Rg:B0 K sIx (λx y H Q=>TQ K x y H Q\/TR K x y H Q):=λas H S x y v u Q ok rx ry h=>by
 unfold sIx at h;split at h
 ·obtain⟨xs,z,h1,h2,h3⟩:=h;obtain⟨a,vs,rfl,hq,rr⟩:=EY ok rx h1;obtain⟨w,hw,rw'⟩:=rr.atI h2;rw[rl_int]at ry;rcases hq with hq | hq
  ·exact .inl ⟨a,vs,_,w,rfl,ry,hq,hw,h3.here ok rw'⟩
  ·exact .inr ⟨a,vs,_,w,rfl,ry,hq,hw,h3.here ok rw'⟩
 ·exact h.elim
end
end Rf
namespace L2
open PySem PySem.Spec PyProof.Rows
section
variable{prog:YT}{w:YX}{A:YZ}{R:Result->YM->Prop}{I:YN}{fp wr:List YN}{n:Nat}{P:Nat->YK->Prop}{St:Nat->Heap->Prop}
structure CmpIn(prog:YT)(w:YX)(A:YZ)(wr:List YN)(S:YN)(P:Nat->YK->Prop)(bt:Nat->Nat->Bool)(G:Heap->Prop):Prop where
 keep:∀ h h',G h->(∀ b o,b∉wr->b≠S->h.get? b=some o->h'.get? b=some o)->G h'
 cmp:∀(s:YM),G s.heap->∀(i j:Nat) (vi vj:YK) (Q:YK->YM->Prop) (E:YK->YM->Prop),P i vi->P j vj->Q (.bool (bt i j)) s->YV (YS prog w) A (Z2 .Lt vi vj) Q E s
theorem Ea{kw:List (Str×YK)}(W:Walks prog w A.in1 I fp wr n P St){bt:Nat->Nat->Bool}{S:YN}{G:Heap->Prop}(C:CmpIn prog w A.in1 wr S P bt G)(hSf:S∉fp)(k:Nat):
 ∀(j:Nat) (s:YM) (vb:YK) (c:Nat),n=j+1+k->St (j+1) s.heap->G s.heap->P (argBest bt j) vb->
 s.heap.get? S=some {cls := .type "list",dict:=none,data := .seq #[vb,vb] c,slots:=#[]}->
 (∀ v h' tk,P (argBest bt (n - 1)) v->(∀ b o,b∉wr->b≠S->s.heap.get? b=some o->h'.get? b=some o)->R (.ok (.ret v)) {s with heap:=h',toks:=tk})->
 codeAny (YS prog w) A (.builtin "min.loop" ⟨[.ref I,.none,.ref S],kw⟩) R s:=by
 have hSw:S∉wr:=λz=>hSf (W.sub _ z);have nm:(toString "min"++toString ".loop":String)="min.loop":=by decide
 induction k with
 | zero=>
   intro j s vb c hk hst hG hPb hS hR;refine Z6 F.entry_min_loop ?_;rw[Around.under_plainId F.plain_min_loop _];refine YL (m:=ZL (.ref S)) (Yu hS rfl ?_);have hst':St n s.heap:=by rw[hk];exact hst
   refine YL (m:=tryCatch (pyNext (.ref I)) _) (Yl (W.done s _ _ hst' λh1 tk k1=>?_));have hS1:=k1 S _ hSw hS;refine YL (m:=A04 S (λ_=>#[])) (Z7 hS1 rfl (YL (Z3 (YQ ?_))));exact hR vb _ tk (by rw[hk];exact hPb) λb o hb hn e=>(Vo _ _ (Ne.symm hn)).trans (k1 b o hb e)
 | succ k ih=>
   intro j s vb c hk hst hG hPb hS hR;refine Z6 F.entry_min_loop ?_;rw[Around.under_plainId F.plain_min_loop _];refine YL (m:=ZL (.ref S)) (Yu hS rfl ?_);refine YL (m:=tryCatch (pyNext (.ref I)) _) (Yl (W.item (j+1) s _ _ (by omega) hst λv h1 tk hP st1 k1=>?_));have hS1:=k1 S _ hSw hS;have hG1:=C.keep _ _ hG λb o hb _ e=>k1 b o hb e;refine YL (m:=tryCatch (holding [v,v] (Z2 .Lt v vb >>= _)) _) (Yl (Yh (YL (C.cmp _ hG1 (j+1) (argBest bt j) v vb _ _ hP hPb ?_))));refine YL (Yh (Ye (YL (Z3 (YQ ?_)))));cases hb:bt (j+1) (argBest bt j) with
   | true=>
     simp only[if_true];refine YL (Z7 hS1 rfl (YL (Z3 ?_)));rw[nm];have up:∀ b o,b≠S->h1.get? b=some o->(Xb h1 S (Obj.mapSeq λ_=>#[v,v])).get? b=some o:=λb o hn e=>(Vo _ _ (Ne.symm hn)).trans e;refine YQ ⟨Yz F.plain_min_loop _,ih (j+1) _ v _ (by omega) (W.frame _ _ _ st1 λb hbf o e=>up b o (λz=>hSf (z▸hbf)) e) (C.keep _ _ hG1 λb o _ hn e=>up b o hn e) ?_ (Vw _ hS1 rfl) λv' h2 tk2 hP' k2=>?_⟩
     ·simp only[argBest,hb,if_true];exact hP
     ·exact hR v' h2 tk2 hP' λb o hbw hn e=>k2 b o hbw hn (up b o hn (k1 b o hbw e))
   | false=>
     simp only[Vb,if_false];refine YL (Z3 ?_);rw[nm];refine YQ ⟨Yz F.plain_min_loop _,ih (j+1) _ vb c (by omega) st1 hG1 ?_ hS1 λv' h2 tk2 hP' k2=>?_⟩
     ·simp only[argBest,hb,Vb,if_false];exact hPb
     ·exact hR v' h2 tk2 hP' λb o hbw hn e=>k2 b o hbw hn (k1 b o hbw e)
theorem De{d:YK}(W:Walks prog w A.in1 I fp wr n P St){bt:Nat->Nat->Bool}{S:YN}{G:Heap->Prop}(C:CmpIn prog w A.in1 wr S P bt G)(hSf:S∉fp){s:YM}{c:Nat}(hst:St 0 s.heap)(hG:G s.heap)
 (hS:s.heap.get? S=some {cls := .type "list",dict:=none,data := .seq #[] c,slots:=#[]})
 (h0:n=0->∀ h' tk,(∀ b o,b∉wr->b≠S->s.heap.get? b=some o->h'.get? b=some o)->R (.ok (.ret d)) {s with heap:=h',toks:=tk})
 (hR:0<n->∀ v h' tk,P (argBest bt (n - 1)) v->(∀ b o,b∉wr->b≠S->s.heap.get? b=some o->h'.get? b=some o)->R (.ok (.ret v)) {s with heap:=h',toks:=tk}):
 codeAny (YS prog w) A (.builtin "min.loop" ⟨[.ref I,.none,.ref S],[(Str.ofString "default",d)]⟩) R s:=by
 have hSw:S∉wr:=λz=>hSf (W.sub _ z);have nm:(toString "min"++toString ".loop":String)="min.loop":=by decide
 refine Z6 F.entry_min_loop ?_;rw[Around.under_plainId F.plain_min_loop _];refine YL (m:=ZL (.ref S)) (Yu hS rfl ?_);by_cases hn:n=0
 ·subst hn;refine YL (m:=tryCatch (pyNext (.ref I)) _) (Yl (W.done s _ _ hst λh1 tk k1=>?_));exact YL (Yn (YQ (h0 rfl h1 tk λb o hb _ e=>k1 b o hb e)))
 ·refine YL (m:=tryCatch (pyNext (.ref I)) _) (Yl (W.item 0 s _ _ (by omega) hst λv h1 tk hP st1 k1=>?_));have hS1:=k1 S _ hSw hS;have up:∀ b o,b≠S->h1.get? b=some o->(Xb h1 S (Obj.mapSeq λ_=>#[v,v])).get? b=some o:=λb o hn e=>(Vo _ _ (Ne.symm hn)).trans e;refine YL (m:=A04 S (λ_=>#[v,v])) (Z7 hS1 rfl ?_);rw[nm];refine YQ ⟨Yz F.plain_min_loop _,Ea W C hSf (n - 1) 0 _ v _ (by omega) (W.frame _ _ _ st1 λb hbf o e=>up b o (λz=>hSf (z▸hbf)) e) (C.keep _ _ (C.keep _ _ hG λb o hb _ e=>k1 b o hb e) λb o _ hn e=>up b o hn e) hP (Vw _ hS1 rfl) λv' h2 tk2 hP' k2=>?_⟩;exact hR (by omega) v' h2 tk2 hP' λb o hbw hn e=>k2 b o hbw hn (up b o hn (k1 b o hbw e))
end
theorem Dh{a b:Int}{us:List YK}(r:Vals [V.int a,V.int b] us):IntsAre us [a,b]:=by
 cases r with
 | cons r1 r2=>
   obtain⟨t1,rfl⟩:=r1;cases r2 with
   | cons r2 r3=>
     obtain⟨t2,rfl⟩:=r2;cases r3;exact .cons _ _ (.cons _ _ .nil)
theorem Eb(a v:YK):argsOk "min" ⟨[a],[(Str.ofString "default",v)]⟩:=by unfold argsOk;kernel_rfl
section
variable{prog:YT}{w:YX}{A:YZ}{E:YK->YM->Prop}{s:YM}
theorem Ec{l:YN}{items:Array YK}{d:YK}{Q:YK->YM->Prop}(hh:A.handled=none)(hl:s.heap.IsList l items)(bt:Nat->Nat->Bool)(G:Heap->Prop)(hG:G s.heap)
 (hkeep:∀ h h',G h->(∀ b o,b<s.heap.objs.size->h.get? b=some o->h'.get? b=some o)->G h')
 (hcmp:∀(s':YM),G s'.heap->∀(i j:Nat) (vi vj:YK) (Q:YK->YM->Prop) (E:YK->YM->Prop),items[i]?=some vi->items[j]?=some vj->Q (.bool (bt i j)) s'->YV (YS prog w) A.in1 (Z2 .Lt vi vj) Q E s')
 (h0:items.size=0->∀ h' tk,(∀ b o,s.heap.get? b=some o->h'.get? b=some o)->Q d {s with heap:=h',toks:=tk})
 (hR:0<items.size->∀ v h' tk,items[argBest bt (items.size - 1)]?=some v->(∀ b o,s.heap.get? b=some o->h'.get? b=some o)->Q v {s with heap:=h',toks:=tk}):
 YV (YS prog w) A (call (.builtin "min") [.ref l] [(Str.ofString "default",d)]) Q E s:=by
 have nm:(toString "min"++toString ".loop":String)="min.loop":=by decide
 have hlt:l<s.heap.objs.size:=by obtain⟨o,ho,_⟩:=hl;exact V2 ho
 refine kmb_tree F.kind_min F.plain_min F.entry_min (Eb _ _) ?_;refine YL (m:=Builtin.Builtins.bindParams "min" ["key","default"] 0 ⟨[],[(Str.ofString "default",d)]⟩) (A07 (show Builtin.Builtins.bindParams "min" ["key","default"] 0 ⟨[],[(Str.ofString "default",d)]⟩=pure [none,some d] from rfl) ?_);refine YL (YQ ?_);refine YL (Yw hl ?_);refine YL (Yg ?_);rw[nm];have W:=Walks.list (prog:=prog) (w:=w) (A:=A.in1) hh s.heap.objs.size l (V4 hlt) items;have k1:∀ b o,s.heap.get? b=some o->((s.heap.push {cls := .type "list_iterator",data := .fields #[.ref l,.int 0 0]}).push {cls := .type "list",data := .seq ([]:List YK).toArray}).get? b=some o:=λb o e=>Uw _ (Uw _ e);have nS:(s.heap.push {cls := .type "list_iterator",data := .fields #[.ref l,.int 0 0]}).objs.size=s.heap.objs.size+1:=by simp[W7]
 have C:CmpIn prog w A.in1 [s.heap.objs.size] (s.heap.push {cls := .type "list_iterator",data := .fields #[.ref l,.int 0 0]}).objs.size (λi v=>items[i]?=some v) bt G:=⟨λh h' g k=>hkeep h h' g λb o hb e=>k b o (by simp;exact V4 hb) (by rw[nS];exact V4 (WY hb)) e,hcmp⟩
 have old:∀(h:Heap),(∀ b o,b∉[s.heap.objs.size]->b≠(s.heap.push {cls := .type "list_iterator",data := .fields #[.ref l,.int 0 0]}).objs.size->((s.heap.push {cls := .type "list_iterator",data := .fields #[.ref l,.int 0 0]}).push {cls := .type "list",data := .seq ([]:List YK).toArray}).get? b=some o->h.get? b=some o)->∀ b o,s.heap.get? b=some o->h.get? b=some o:=λh k b o e=>k b o (by simp;exact V4 (V2 e)) (by rw[nS];have:=V2 e;exact V4 (WY this)) (k1 b o e);refine YQ ⟨Yz F.plain_min_loop _,De (d:=d) W C ?_ ?_ (hkeep _ _ hG λb o _ e=>k1 b o e) (V8 _ rfl) (λhz h' tk k=>h0 hz h' tk (old h' k)) (λhz v h' tk hv k=>hR hz v h' tk hv (old h' k))⟩
 ·rw[nS];simp only[VA,Xp,or_false,not_or];exact⟨Xq _,λz=>absurd hlt (by rw[<-z];exact Xr (Wr _))⟩
 ·exact⟨⟨_,Uw _ (V8 _ rfl),rfl,rfl⟩,hl.at λo e=>k1 _ _ e⟩
end
section
variable{X:Cx}
noncomputable def Gp(X:Cx)(f:YK)(ks:List Str)(r:List V->List V->Hp->VK->Prop):Prop:=
 ∀(pq:List (YN×Obj)) (s:YM) (σ:St) (H:Hp) (vs zs:List V) (us ws:List YK) (Q:VK),Inv X pq σ H s->Vals vs us->Vals zs ws->r vs zs H Q->YV (YS X.prog X.w) X.A (call f us (ks.zip ws)) (EP X pq σ Q) X.xe s
def Ue(r:List V->List V->Hp->VK->Prop)(t tk:TA):TE:=λσ H Q=>t σ H λvs H1=>tk σ H1 λzs H2=>r vs zs H2 Q
theorem E4{id:String}{ks:List Str}{r:List V->List V->Hp->VK->Prop}{x:Str}{p pos:Pos}{e:Expr}{es:List Expr}{kws:List Keyword}{t tk:TA}(hc:Gp X (.builtin id) ks r)(hg:Gl X x)(hm:X.mg x=none)(hv:Ya x=some (.builtin id))(ha:PA X (e::es) t)(hkw:PK X kws tk)
 (hks:(ZQ pos (Z8 kws X.env)).filterMap (·.1)=ks:=by rfl) (hn:x≠"__name__":=by decide) (hdb:(x == ("__debug__":Str))=false:=by decide)
 (he:backTo pos (Yc (e::es) X.env)=(false,eval e X.env)::backTo pos (Yc es X.env):=by rfl) (hpl:(backTo pos (Yc (e::es) X.env)).any (·.1)=false:=by rfl)
 (hall:(ZQ pos (Z8 kws X.env)).all (·.1.isSome)=true:=by rfl) (hno:(ZQ pos (Z8 kws X.env)).any (·.1.isNone)=false:=by rfl):PE X (.Call (.Name x p) (e::es) kws pos) (Ue r t tk):=by
 intro pq s σ H Q I h;refine ZE (C8 I hg hm hv ?_ hn hdb);refine callWith_kw (thn (ha pos pq s σ H _ I h) λus s1 ⟨vs,H1,I1,r1,q1⟩=>thn (hkw pos pq s1 σ H1 _ I1 q1) λws s2 ⟨zs,H2,I2,r2,q2⟩=>?_) he hpl hall hno;rw[hks];exact hc pq s2 σ H2 vs zs us ws Q I2 r1 r2 q2
def ON(H:Hp)(vs:List V)(ps:List (Int×Int)):Prop:=vs.length=ps.length/\∀(i:Nat) (p:Int×Int),ps[i]?=some p->∃ q,vs[i]?=some (.ref q)/\H q=some (.tup [.int p.1,.int p.2])
def lt2(p q:Int×Int):Bool:=HT.lexLt [p.1,p.2] [q.1,q.2]
def Tr:List V->List V->Hp->VK->Prop:=λxs zs H Q=>∃ l vs ps,xs=[.ref l]/\zs=[.non]/\H l=some (.lst vs)/\ON H vs ps/\(ps=[]->Q .non H)/\
 ∀(i:Nat) p q,ps[i]?=some p->vs[i]?=some (.ref q)->i=argBest (λa b=>lt2 (ps.getD a (0,0)) (ps.getD b (0,0))) (ps.length - 1)->0<ps.length->Q (.ref q) H
theorem Jb(hc:X.calm=true)(hu:X.A.units+1<cLine):Gp X (.builtin "min") ["default"] Tr:=by
 intro pq s σ H xs zs us ws Q I r rz h;obtain⟨l,vs,ps,rfl,rfl,hl,⟨hlen,hps⟩,q0,q1⟩:=h;obtain⟨u,rfl,ru⟩:=AW r;cases ru;obtain⟨z,rfl,rz'⟩:=AW rz;cases rz';obtain⟨its,rv,pl,hz⟩:=I.list (SqL.of hl);have hl2:=rv.length
 have tup:∀(i:Nat) (v:YK),its.toArray[i]?=some v->∃ q p,v = .ref q/\ps[i]?=some p/\vs[i]?=some (.ref q)/\H q=some (.tup [.int p.1,.int p.2])/\∃ ti:List YK,IsTup s.heap q ti.toArray/\IntsAre ti [p.1,p.2]:=λi v hv=>by
  have hv':its[i]?=some v:=by simpa using hv
  have hi:i<ps.length:=by have:=(gM hv').1;omega
  obtain⟨q,e1,e2⟩:=hps i ps[i] (by simp[hi]);obtain⟨u',eu,ru'⟩:=rv.get e1;rw[hv']at eu;cases eu;cases ru';obtain⟨ti,rt,pt,_⟩:=I.tuple (SqT.of e2);exact⟨q,ps[i],rfl,by simp[hi],e1,e2,ti,pt,Dh rt⟩
 refine Ec (I.ok.hd hc) pl.isList (λa b=>lt2 (ps.getD a (0,0)) (ps.getD b (0,0))) (λh=>∀(i:Nat) (v:YK),its.toArray[i]?=some v->∃ q p,v = .ref q/\q<s.heap.objs.size/\ps[i]?=some p/\∃ ti:List YK,IsTup h q ti.toArray/\IntsAre ti [p.1,p.2]) ?_ ?_ ?_ ?_ ?_
 ·intro i v hv;obtain⟨q,p,e1,e2,_,_,ti,e3,e4⟩:=tup i v hv;obtain⟨o,ho,_⟩:=e3;exact⟨q,p,e1,V2 ho,e2,ti,⟨o,ho,by assumption⟩,e4⟩
 ·intro h h' g k i v hv;obtain⟨q,p,e1,e2,e3,ti,⟨o,ho,hr⟩,e5⟩:=g i v hv;exact⟨q,p,e1,e2,e3,ti,⟨o,k q o e2 ho,hr⟩,e5⟩
 ·intro s' g i j vi vj Q' E' hi hj q;obtain⟨qi,pi,rfl,_,ei,ti,ti1,ti2⟩:=g i vi hi;obtain⟨qj,pj,rfl,_,ej,tj,tj1,tj2⟩:=g j vj hj;refine HT.lt_tupInts ti1 tj1 (by simpa using ti2) (by simpa using tj2) (show X.A.units+1<cLine from hu) ?_;have e1:ps.getD i (0,0)=pi:=by simp[Vs,ei]
  have e2:ps.getD j (0,0)=pj:=by simp[Vs,ej]
  rw[e1,e2]at q;exact q
 ·intro hz' h' tk k
  have:ps=[]:=by
   cases ps with
   | nil=>rfl
   | cons p r=>rw[Uu]at hz';simp at hlen;omega
  exact⟨.non,H,I.kept (t':=tk) k,rfl,q0 this⟩
 ·intro hp v h' tk hv k;obtain⟨q,p,rfl,e2,e3,e4,_⟩:=tup _ v hv;have hsz:its.toArray.size=ps.length:=by rw[Uu];omega
  rw[hsz]at e2 e3 hp;exact⟨.ref q,H,I.kept (t':=tk) k,rfl,q1 _ p q e2 e3 rfl hp⟩
end
section
variable{prog:YT}{w:YX}{κ:Type}[DecidableEq κ]{knd:HeapKind prog w κ}{A:YZ}{E:YK->YM->Prop}{s:YM}
theorem Gq{d a:YN}{o:Obj}{es:Array Zl}{ep:Nat}{xs:List (κ×YN×YK)}{k:κ}{v:YK}(hkey:knd.is s.heap k a)(ho:s.heap.get? d=some o)(hc:o.ExactDict)(hd:o.data = .dict es ep)(he:es.toList=xs.map (A08 knd))(his:∀ x∈xs,knd.is s.heap x.1 x.2.1)(hn:(xs.map (·.1)).Nodup)
 (hno:atKey xs k=none) (hnot:k∉xs.map (·.1)):(s.heap.update d (Obj.mapDictKeys (·.push ⟨knd.hash k,.ref a,v⟩))).DictOfH knd d (storedH xs k a v):=by
 have same:WJ d s.heap (s.heap.update d (Obj.mapDictKeys (·.push ⟨knd.hash k,.ref a,v⟩))):=WJ.update ..;rw[storedH_new hno];refine⟨_,_,ep+1,Vw _ ho (Obj.isFreed_of_dict (Obj.data_mapDictKeys hd _)),hc.mapDictKeys _,Obj.data_mapDictKeys hd _,by simp[he,A08],λx hx=>?_,?_⟩
 ·have hx':x∈xs\/x=(k,a,v):=by simpa using hx
  rcases hx' with hx' | rfl
  ·exact knd.keeps (his x hx') ho hd same
  ·exact knd.keeps hkey ho hd same
 ·rw[VO];exact Wz.mpr ⟨hn,by simp,λx hx y hy z=>hnot (by simp at hy;subst hy;rw[<-z];exact hx)⟩
theorem Lg{d a:YN}{xs:List (κ×YN×YK)}{k:κ}{v:YK}{Q:YK->YM->Prop}(hu:knd.room A)(hkey:knd.is s.heap k a)(hm:s.heap.DictOfH knd d xs)
 (h1:∀ p,atKey xs k=some p->∀ tk,Q p.2 {s with toks:=tk})
 (h2:atKey xs k=none->∀ h' tk,h'.DictOfH knd d (storedH xs k a v)->WJ d s.heap h'->Q v {s with heap:=h',toks:=tk}) (hsz:xs.length<=YU):YV (YS prog w) A (Zk d (.ref a) v) Q E s:=by
 obtain⟨o,es,ep,ho,hc,hd,he,his,hn⟩:=id hm;unfold Zk
 try with_reducible refine Yh ?_
 refine YL (knd.pyHash hu hkey (YL (wpAny_dictFind_heap (s:={s with toks:=s.toks+knd.draws k}) hu hkey ho hd he his hn (λhno=>?_) (λj p hj=>?_))))
 ·have e0:=atKey_none_of_get hno;refine YL (Yn (YL (wpAny_updateDictKeys (hz:=by have e:=size_of_entries he;omega) (s:={s with toks:=s.toks+knd.draws k}) ho hd (YQ ?_))));exact h2 e0 _ _ (Gq hkey ho hc hd he his hn e0 (not_mem_keys_of_get hno)) (WJ.update ..)
 ·refine YL (wpAny_dictEntries (s:={s with toks:=s.toks+knd.draws k}) ho hd ?_);rw[entry_at he j,hj];exact YL (Yn (YQ (h1 p (atKey_of_get hn hj) _)))
theorem D6(d a:YN)(hd:(d == Yx)=false)(v:YK):
 MeetsIn prog w (Builtin.«dict.setdefault» ⟨[.ref d,.ref a,v],[]⟩) (λA R s=>knd.room A.in1/\∃ k xs,knd.is s.heap k a/\s.heap.DictOfH knd d xs/\xs.length<=YU/\s.TypeIs (.ref d) "dict"/\
  (∀ p,atKey xs k=some p->∀ tk,R (.ok (.ret p.2)) {s with toks:=tk})/\
  (atKey xs k=none->∀ h' tk,h'.DictOfH knd d (storedH xs k a v)->WJ d s.heap h'->R (.ok (.ret v)) {s with heap:=h',toks:=tk})):=
 .of_wp λA R s ⟨hu,k,xs,hkey,hm,hz,ht,h1,h2⟩=>by
  unfold Builtin.«dict.setdefault»;refine YL ?_;unfold Builtin.Dict.keyAndDefault;refine YL (wpAny_notOrdered_dict ht ?_);refine YQ ?_;show YV _ _ (if (d == Yx)=true then _ else (Zk d (.ref a) v >>= _)) _ _ s;rw[hd];rw[iG V0];exact YL (Lg hu hkey hm (λp e tk=>YQ ⟨p.2,rfl,h1 p e tk⟩) (λe h' tk m' b'=>YQ ⟨v,rfl,h2 e h' tk m' b'⟩) hz)
end
section
variable{X:Cx}{o e f:Expr}{apos cpos:Pos}{td ty tx:TE}
def Tt(td ty tx:TE):TE:=λσ H Q=>td σ H λx H1=>∃ a,x = .ref a/\IsD H1 a/\ty σ H1 λy H2=>tx σ H2 λz H3=>∃ kvs k b,y = .ref b/\H3 a=some (.dT kvs)/\H3 b=some (.tup (k.map kV))/\kvs.length<YU/\
 (∀ v,AB kvs k=some v->Q v H3)/\(AB kvs k=none->Q z (upd H3 a (.dT (B7 kvs k z))))
theorem OO(hu:X.A.units+1<cLine)(ho:PE X o td)(he:PE X e ty)(hf:PE X f tx)(m:M2 X o "setdefault" apos e f cpos):PE X (.Call (.Attribute o "setdefault" apos) [e,f] [] cpos) (Tt td ty tx):=by
 intro pq s σ H Q I h;refine wpAny_Call_method m.base m.few m.line PySem.F.plainAttrs_dict PySem.F.slot_dict_setdefault PySem.F.type_dict_setdefault (thn (ho pq s σ H _ I h) λu s1 ⟨x,H1,I1,rx,a,ex,d,q1⟩=>?_);subst ex;obtain rfl:u=Value.ref a:=rx;obtain⟨t1,t2,_⟩:=RT I1 d;refine⟨t1,t2,?_⟩;rw[m.trees]
 refine Calls.callWith_builtin rfl (Calls.evalArgs_plain (Calls.spliced_cons (thn (he pq s1 σ H1 _ I1 q1) λiv s2 ⟨y,H2,I2,ry,q2⟩=>
  Calls.spliced_cons (thn (hf pq s2 σ H2 _ I2 q2) λfv s3 ⟨z,H3,I3,rz,kvs,k,b,ey,ha,hb,hz,qs,qn⟩=>Calls.spliced_nil ?_))))
 subst ey;cases ry;obtain⟨hl,hd,xs,rel,dd⟩:=Tk I3.hok ha;have hxl:xs.length<=YU:=by rw[<-Paired.length rel];exact hl
 refine call_meetsIn PySem.F.slot_dict_setdefault dd.typeIs PySem.F.entry_dict_setdefault (PySem.F.args_dict_setdefault_3 _ _ _) (D6 (knd:=ZZ (p7 X.prog X.w)) a b hd fv) ⟨tupleKind_room_in1 hu,k,xs,LO I3.hok hb,dd,hxl,dd.typeIs,λp e tk=>?_,λe h' tk dd' hs=>?_⟩
 ·have rv:=rel.val k;rw[e]at rv;cases hv:AB kvs k with
  | none=>rw[hv]at rv;exact rv.elim
  | some v=>rw[hv]at rv;exact⟨v,H3,I3.tok tk,rv,qs v hv⟩
 ·have hv:AB kvs k=none:=by
   have rv:=rel.val k;rw[e]at rv;cases hv:AB kvs k with
   | none=>rfl
   | some v=>rw[hv]at rv;exact rv.elim
  refine⟨z,_,?_,rz,qn hv⟩;obtain⟨q,es,ep,hq,h2,h3,h4,_,h5⟩:=dd';have hl2:(B7 kvs k z).length<=YU:=by have:=FK kvs k z;omega
  refine O6 I3 (by rw[ha];exact True.intro) hs ⟨q,hq⟩ ⟨hl2,hd,_,(rel.put k hb rz).keeps λc ys ec=>?_,q,es,ep,hq,h2,h3,h4,h5⟩;rw[upd_ne (Pj ec ha (λz=>nomatch z))];exact ec
end
section
variable{prog:YT}{w:YX}{A:YZ}{R:Result->YM->Prop}{I:YN}{fp wr:List YN}{n:Nat}{P:Nat->YK->Prop}{St:Nat->Heap->Prop}
structure CmpMx(prog:YT)(w:YX)(A:YZ)(wr:List YN)(S:YN)(P:Nat->YK->Prop)(bt:Nat->Nat->Bool)(G:Heap->Prop):Prop where
 keep:∀ h h',G h->(∀ b o,b∉wr->b≠S->h.get? b=some o->h'.get? b=some o)->G h'
 cmp:∀(s:YM),G s.heap->∀(i j:Nat) (vi vj:YK) (Q:YK->YM->Prop) (E:YK->YM->Prop),P i vi->P j vj->Q (.bool (bt i j)) s->YV (YS prog w) A (Z2 .Gt vi vj) Q E s
theorem Ed{kw:List (Str×YK)}(W:Walks prog w A.in1 I fp wr n P St){bt:Nat->Nat->Bool}{S:YN}{G:Heap->Prop}(C:CmpMx prog w A.in1 wr S P bt G)(hSf:S∉fp)(k:Nat):
 ∀(j:Nat) (s:YM) (vb:YK) (c:Nat),n=j+1+k->St (j+1) s.heap->G s.heap->P (argBest bt j) vb->
 s.heap.get? S=some {cls := .type "list",dict:=none,data := .seq #[vb,vb] c,slots:=#[]}->
 (∀ v h' tk,P (argBest bt (n - 1)) v->(∀ b o,b∉wr->b≠S->s.heap.get? b=some o->h'.get? b=some o)->R (.ok (.ret v)) {s with heap:=h',toks:=tk})->
 codeAny (YS prog w) A (.builtin "max.loop" ⟨[.ref I,.none,.ref S],kw⟩) R s:=by
 have hSw:S∉wr:=λz=>hSf (W.sub _ z);have nm:(toString "max"++toString ".loop":String)="max.loop":=by decide
 induction k with
 | zero=>
   intro j s vb c hk hst hG hPb hS hR;refine Z6 F.entry_max_loop ?_;rw[Around.under_plainId F.plain_max_loop _];refine YL (m:=ZL (.ref S)) (Yu hS rfl ?_);have hst':St n s.heap:=by rw[hk];exact hst
   refine YL (m:=tryCatch (pyNext (.ref I)) _) (Yl (W.done s _ _ hst' λh1 tk k1=>?_));have hS1:=k1 S _ hSw hS;refine YL (m:=A04 S (λ_=>#[])) (Z7 hS1 rfl (YL (Z3 (YQ ?_))));exact hR vb _ tk (by rw[hk];exact hPb) λb o hb hn e=>(Vo _ _ (Ne.symm hn)).trans (k1 b o hb e)
 | succ k ih=>
   intro j s vb c hk hst hG hPb hS hR;refine Z6 F.entry_max_loop ?_;rw[Around.under_plainId F.plain_max_loop _];refine YL (m:=ZL (.ref S)) (Yu hS rfl ?_);refine YL (m:=tryCatch (pyNext (.ref I)) _) (Yl (W.item (j+1) s _ _ (by omega) hst λv h1 tk hP st1 k1=>?_));have hS1:=k1 S _ hSw hS;have hG1:=C.keep _ _ hG λb o hb _ e=>k1 b o hb e;refine YL (m:=tryCatch (holding [v,v] (Z2 .Gt v vb >>= _)) _) (Yl (Yh (YL (C.cmp _ hG1 (j+1) (argBest bt j) v vb _ _ hP hPb ?_))));refine YL (Yh (Ye (YL (Z3 (YQ ?_)))));cases hb:bt (j+1) (argBest bt j) with
   | true=>
     simp only[if_true];refine YL (Z7 hS1 rfl (YL (Z3 ?_)));rw[nm];have up:∀ b o,b≠S->h1.get? b=some o->(Xb h1 S (Obj.mapSeq λ_=>#[v,v])).get? b=some o:=λb o hn e=>(Vo _ _ (Ne.symm hn)).trans e;refine YQ ⟨Yz F.plain_max_loop _,ih (j+1) _ v _ (by omega) (W.frame _ _ _ st1 λb hbf o e=>up b o (λz=>hSf (z▸hbf)) e) (C.keep _ _ hG1 λb o _ hn e=>up b o hn e) ?_ (Vw _ hS1 rfl) λv' h2 tk2 hP' k2=>?_⟩
     ·simp only[argBest,hb,if_true];exact hP
     ·exact hR v' h2 tk2 hP' λb o hbw hn e=>k2 b o hbw hn (up b o hn (k1 b o hbw e))
   | false=>
     simp only[Vb,if_false];refine YL (Z3 ?_);rw[nm];refine YQ ⟨Yz F.plain_max_loop _,ih (j+1) _ vb c (by omega) st1 hG1 ?_ hS1 λv' h2 tk2 hP' k2=>?_⟩
     ·simp only[argBest,hb,Vb,if_false];exact hPb
     ·exact hR v' h2 tk2 hP' λb o hbw hn e=>k2 b o hbw hn (k1 b o hbw e)
theorem Di{d:YK}(W:Walks prog w A.in1 I fp wr n P St){bt:Nat->Nat->Bool}{S:YN}{G:Heap->Prop}(C:CmpMx prog w A.in1 wr S P bt G)(hSf:S∉fp){s:YM}{c:Nat}(hst:St 0 s.heap)(hG:G s.heap)
 (hS:s.heap.get? S=some {cls := .type "list",dict:=none,data := .seq #[] c,slots:=#[]})
 (h0:n=0->∀ h' tk,(∀ b o,b∉wr->b≠S->s.heap.get? b=some o->h'.get? b=some o)->R (.ok (.ret d)) {s with heap:=h',toks:=tk})
 (hR:0<n->∀ v h' tk,P (argBest bt (n - 1)) v->(∀ b o,b∉wr->b≠S->s.heap.get? b=some o->h'.get? b=some o)->R (.ok (.ret v)) {s with heap:=h',toks:=tk}):
 codeAny (YS prog w) A (.builtin "max.loop" ⟨[.ref I,.none,.ref S],[(Str.ofString "default",d)]⟩) R s:=by
 have hSw:S∉wr:=λz=>hSf (W.sub _ z);have nm:(toString "max"++toString ".loop":String)="max.loop":=by decide
 refine Z6 F.entry_max_loop ?_;rw[Around.under_plainId F.plain_max_loop _];refine YL (m:=ZL (.ref S)) (Yu hS rfl ?_);by_cases hn:n=0
 ·subst hn;refine YL (m:=tryCatch (pyNext (.ref I)) _) (Yl (W.done s _ _ hst λh1 tk k1=>?_));exact YL (Yn (YQ (h0 rfl h1 tk λb o hb _ e=>k1 b o hb e)))
 ·refine YL (m:=tryCatch (pyNext (.ref I)) _) (Yl (W.item 0 s _ _ (by omega) hst λv h1 tk hP st1 k1=>?_));have hS1:=k1 S _ hSw hS;have up:∀ b o,b≠S->h1.get? b=some o->(Xb h1 S (Obj.mapSeq λ_=>#[v,v])).get? b=some o:=λb o hn e=>(Vo _ _ (Ne.symm hn)).trans e;refine YL (m:=A04 S (λ_=>#[v,v])) (Z7 hS1 rfl ?_);rw[nm];refine YQ ⟨Yz F.plain_max_loop _,Ed W C hSf (n - 1) 0 _ v _ (by omega) (W.frame _ _ _ st1 λb hbf o e=>up b o (λz=>hSf (z▸hbf)) e) (C.keep _ _ (C.keep _ _ hG λb o hb _ e=>k1 b o hb e) λb o _ hn e=>up b o hn e) hP (Vw _ hS1 rfl) λv' h2 tk2 hP' k2=>?_⟩;exact hR (by omega) v' h2 tk2 hP' λb o hbw hn e=>k2 b o hbw hn (up b o hn (k1 b o hbw e))
end
theorem Ee(a v:YK):argsOk "max" ⟨[a],[(Str.ofString "default",v)]⟩:=by unfold argsOk;kernel_rfl
section
variable{prog:YT}{w:YX}{A:YZ}{E:YK->YM->Prop}{s:YM}
theorem Ef{l:YN}{items:Array YK}{d:YK}{Q:YK->YM->Prop}(hh:A.handled=none)(hl:s.heap.IsList l items)(bt:Nat->Nat->Bool)(G:Heap->Prop)(hG:G s.heap)
 (hkeep:∀ h h',G h->(∀ b o,b<s.heap.objs.size->h.get? b=some o->h'.get? b=some o)->G h')
 (hcmp:∀(s':YM),G s'.heap->∀(i j:Nat) (vi vj:YK) (Q:YK->YM->Prop) (E:YK->YM->Prop),items[i]?=some vi->items[j]?=some vj->Q (.bool (bt i j)) s'->YV (YS prog w) A.in1 (Z2 .Gt vi vj) Q E s')
 (h0:items.size=0->∀ h' tk,(∀ b o,s.heap.get? b=some o->h'.get? b=some o)->Q d {s with heap:=h',toks:=tk})
 (hR:0<items.size->∀ v h' tk,items[argBest bt (items.size - 1)]?=some v->(∀ b o,s.heap.get? b=some o->h'.get? b=some o)->Q v {s with heap:=h',toks:=tk}):
 YV (YS prog w) A (call (.builtin "max") [.ref l] [(Str.ofString "default",d)]) Q E s:=by
 have nm:(toString "max"++toString ".loop":String)="max.loop":=by decide
 have hlt:l<s.heap.objs.size:=by obtain⟨o,ho,_⟩:=hl;exact V2 ho
 refine kmb_tree F.kind_max F.plain_max F.entry_max (Ee _ _) ?_;refine YL (m:=Builtin.Builtins.bindParams "max" ["key","default"] 0 ⟨[],[(Str.ofString "default",d)]⟩) (A07 (show Builtin.Builtins.bindParams "max" ["key","default"] 0 ⟨[],[(Str.ofString "default",d)]⟩=pure [none,some d] from rfl) ?_);refine YL (YQ ?_);refine YL (Yw hl ?_);refine YL (Yg ?_);rw[nm];have W:=Walks.list (prog:=prog) (w:=w) (A:=A.in1) hh s.heap.objs.size l (V4 hlt) items;have k1:∀ b o,s.heap.get? b=some o->((s.heap.push {cls := .type "list_iterator",data := .fields #[.ref l,.int 0 0]}).push {cls := .type "list",data := .seq ([]:List YK).toArray}).get? b=some o:=λb o e=>Uw _ (Uw _ e);have nS:(s.heap.push {cls := .type "list_iterator",data := .fields #[.ref l,.int 0 0]}).objs.size=s.heap.objs.size+1:=by simp[W7]
 have C:CmpMx prog w A.in1 [s.heap.objs.size] (s.heap.push {cls := .type "list_iterator",data := .fields #[.ref l,.int 0 0]}).objs.size (λi v=>items[i]?=some v) bt G:=⟨λh h' g k=>hkeep h h' g λb o hb e=>k b o (by simp;exact V4 hb) (by rw[nS];exact V4 (WY hb)) e,hcmp⟩
 have old:∀(h:Heap),(∀ b o,b∉[s.heap.objs.size]->b≠(s.heap.push {cls := .type "list_iterator",data := .fields #[.ref l,.int 0 0]}).objs.size->((s.heap.push {cls := .type "list_iterator",data := .fields #[.ref l,.int 0 0]}).push {cls := .type "list",data := .seq ([]:List YK).toArray}).get? b=some o->h.get? b=some o)->∀ b o,s.heap.get? b=some o->h.get? b=some o:=λh k b o e=>k b o (by simp;exact V4 (V2 e)) (by rw[nS];have:=V2 e;exact V4 (WY this)) (k1 b o e);refine YQ ⟨Yz F.plain_max_loop _,Di (d:=d) W C ?_ ?_ (hkeep _ _ hG λb o _ e=>k1 b o e) (V8 _ rfl) (λhz h' tk k=>h0 hz h' tk (old h' k)) (λhz v h' tk hv k=>hR hz v h' tk hv (old h' k))⟩
 ·rw[nS];simp only[VA,Xp,or_false,not_or];exact⟨Xq _,λz=>absurd hlt (by rw[<-z];exact Xr (Wr _))⟩
 ·exact⟨⟨_,Uw _ (V8 _ rfl),rfl,rfl⟩,hl.at λo e=>k1 _ _ e⟩
end
section
variable{X:Cx}
def gtB(ns:List Int)(a b:Nat):Bool:=decide (ns.getD a 0>ns.getD b 0)
theorem IK(ns:List Int):∀ k j,j<=k->ns.getD j 0<=ns.getD (argBest (gtB ns) k) 0
 | 0,j,hj=>by
   have:j=0:=by omega
   subst this;exact WZ _
 | k+1,j,hj=>by
   have ih:=IK ns k;simp only[argBest];split
   ·rename_i hb;have hb:=of_decide_eq_true hb;by_cases e:j=k+1
    ·subst e;exact WZ _
    ·have:=ih j (by omega);omega
   ·rename_i hb;have hb:¬ ns.getD (k+1) 0>ns.getD (argBest (gtB ns) k) 0:=λz=>hb (decide_eq_true z);by_cases e:j=k+1
    ·subst e;omega
    ·exact ih j (by omega)
theorem FO(bt:Nat->Nat->Bool):∀ k,argBest bt k<=k
 | 0=>Ux _
 | k+1=>by
   simp only[argBest];split
   ·exact Ux _
   ·exact Nat.le_succ_of_le (FO bt k)
def Grt(ns:List Int)(m:Int):Prop:=m∈ns/\∀ n∈ns,n<=m
theorem FP{ns:List Int}(h:0<ns.length):Grt ns (ns.getD (argBest (gtB ns) (ns.length - 1)) 0):=by
 have hb:=FO (gtB ns) (ns.length - 1);have hlt:argBest (gtB ns) (ns.length - 1)<ns.length:=by omega
 refine⟨by rw[show ns.getD (argBest (gtB ns) (ns.length - 1)) 0=ns[argBest (gtB ns) (ns.length - 1)] by simp[Vs,hlt]];exact Vm hlt,λn hn=>?_⟩;obtain⟨j,hj⟩:=Vg hn;have hjl:=(gM hj).1;have:=IK ns (ns.length - 1) j (by omega);rw[show ns.getD j 0=n by simp[Vs,hj]]at this;exact this
def Tu:List V->List V->Hp->VK->Prop:=λxs zs H Q=>∃ l ns d,xs=[.ref l]/\zs=[.int d]/\H l=some (.lst (ns.map V.int))/\(ns=[]->Q (.int d) H)/\∀ m,Grt ns m->Q (.int m) H
theorem Ch{ns:List Int}{its:List YK}(rv:Vals (ns.map V.int) its){i:Nat}{v:YK}(h:its[i]?=some v):∃ n t,ns[i]?=some n/\v = .int n t:=by
 have hl:=rv.length;rw[Ur]at hl;have hi:i<ns.length:=by have:=(gM h).1;omega
 have e:(ns.map V.int)[i]?=some (.int ns[i]):=by simp[hi]
 obtain⟨u,eu,ru⟩:=rv.get e;rw[h]at eu;cases eu;obtain⟨t,rfl⟩:=ru;exact⟨_,t,by simp[hi],rfl⟩
theorem Jc(hc:X.calm=true):Gp X (.builtin "max") ["default"] Tu:=by
 intro pq s σ H xs zs us ws Q I r rz h;obtain⟨l,ns,d,rfl,rfl,hl,q0,q1⟩:=h;obtain⟨u,rfl,ru⟩:=AW r;cases ru;obtain⟨z,rfl,rz'⟩:=AW rz;obtain⟨t,rfl⟩:=rz';obtain⟨its,rv,pl,hz⟩:=I.list (SqL.of hl);have hl2:ns.length=its.length:=by have:=rv.length;rwa [Ur]at this
 refine Ef (I.ok.hd hc) pl.isList (gtB ns) (λ_=>True) trivial (λ_ _ _ _=>trivial) ?_ ?_ ?_
 ·intro s' _ i j vi vj Q' E' hi hj q
  exact CmpOf.ints_gt (P:=λi v=>its.toArray[i]?=some v) (λi=>ns.getD i 0) (λi v h=>by
   obtain⟨n,t1,e1,rfl⟩:=Ch rv (show its[i]?=some v by simpa using h);exact⟨t1,by simp[Vs,e1]⟩) i j vi vj s' Q' E' hi hj q
 ·intro hz' h' tk k
  have:ns=[]:=by
   cases ns with
   | nil=>rfl
   | cons p r=>rw[Uu]at hz';simp at hl2;omega
  exact⟨.int d,H,I.kept (t':=tk) k,⟨t,rfl⟩,q0 this⟩
 ·intro hp v h' tk hv k;obtain⟨n,t1,e1,rfl⟩:=Ch rv (show its[argBest (gtB ns) (its.toArray.size - 1)]?=some v by simpa using hv);have hsz:its.toArray.size=ns.length:=by rw[Uu];omega
  rw[hsz]at e1 hp;have g:=FP hp;rw[show ns.getD (argBest (gtB ns) (ns.length - 1)) 0=n by simp[Vs,e1]]at g;exact⟨.int n,H,I.kept (t':=tk) k,⟨t1,rfl⟩,q1 n g⟩
theorem Jd(hc:X.calm=true):CallR X (.builtin "max") (λxs H Q=>∃ l ns,xs=[.ref l]/\H l=some (.lst (ns.map V.int))/\0<ns.length/\∀ m,Grt ns m->Q (.int m) H):=by
 intro pq s σ H xs us Q I r h;obtain⟨l,ns,rfl,hl,hn,q1⟩:=h;obtain⟨u,rfl,ru⟩:=AW r;cases ru;obtain⟨its,rv,pl,hz⟩:=I.list (SqL.of hl);have hl2:ns.length=its.length:=by have:=rv.length;rwa [Ur]at this
 have hlt:l<s.heap.objs.size:=by obtain⟨o,ho,_⟩:=pl.isList;exact V2 ho
 have hne:l≠s.heap.objs.size:=V4 hlt;refine call_max_walk (Yw pl.isList ⟨s.heap.objs.size,[s.heap.objs.size,l],[s.heap.objs.size],its.toArray.size,_,_,gtB ns,rfl,Walks.list (prog:=X.prog) (w:=X.w) (A:=X.A.in1) (I.ok.hd hc) s.heap.objs.size l hne its.toArray,?_,?_,?_,?_,?_⟩)
 ·exact⟨⟨_,V8 _ rfl,rfl,rfl⟩,pl.isList.at λo e=>Uw _ e⟩
 ·intro b hb;rcases VA.mp hb with rfl | hb
  ·show _<(s.heap.push _).objs.size;rw[W7];exact Wr _
  ·rw[V3.mp hb];show _<(s.heap.push _).objs.size;rw[W7];exact WY hlt
 ·rw[Uu];omega
 ·exact CmpOf.ints_gt (λi=>ns.getD i 0) (λi v h=>by
   obtain⟨n,t1,e1,rfl⟩:=Ch rv (show its[i]?=some v by simpa using h);exact⟨t1,by simp[Vs,e1]⟩)
 ·intro v h' tk hv k;obtain⟨n,t1,e1,rfl⟩:=Ch rv (show its[argBest (gtB ns) (its.toArray.size - 1)]?=some v by simpa using hv);have hsz:its.toArray.size=ns.length:=by rw[Uu];omega
  rw[hsz]at e1;have g:=FP hn;rw[show ns.getD (argBest (gtB ns) (ns.length - 1)) 0=n by simp[Vs,e1]]at g;refine⟨.int n,H,I.kept (t':=tk) (λb o e=>k b o (λz=>?_) (Uw _ e)),⟨t1,rfl⟩,q1 n g⟩;rw[V3.mp z]at e;exact WH _ (V2 e)
theorem OP{body:List Stmt}{h₀:ZY}{hs:List ZY}{pos:Pos}{t:TS}(hx:∀ e s,¬ X.xe e s)(hb:PSs X body t):PS X (.Try body (h₀::hs) [] [] pos) t:=by
 intro pq s σ H D I hw;refine wpAny_Try_except (Yy (hb pq s σ H D I hw) (λf s1 q=>?_) λe s1 z=>(hx e s1 z).elim);cases f with
 | next=>exact ZO q
 | _=>exact q
end
end L2
namespace Rf
open PySem L2
inductive BI where
 | len | abs | min | max | int | list | tuple | all | any | sorted | isi | str | repr
 deriving DecidableEq
def BI.name:BI->Str
 | .len=>"len" | .abs=>"abs" | .min=>"min" | .max=>"max" | .int=>"int" | .list=>"list" | .tuple=>"tuple" | .all=>"all" | .any=>"any" | .sorted=>"sorted" | .isi=>"isinstance" | .str=>"str" | .repr=>"repr"
def blS:List SV->Option (List Bool)
 | []=>some []
 | .bl b::xs=>(blS xs).map (b::·)
 | _::_=>none
def Gr:List SV->Option (List Int)
 | []=>some []
 | .int i::xs=>(Gr xs).map (i::·)
 | _::_=>none
def tyS:SV->Sto->Option TyN
 | .non,_=>some .none
 | .bl _,_=>some .bool
 | .int _,_=>some .int
 | .str _,_=>some .str
 | .tup _,_=>some .tuple
 | .loc k,S=>match S[k]? with | some (.lst _)=>some .list | _=>none
 | _,_=>none
def FQ:TyN->TyN->Bool
 | .bool,.int=>true
 | a,b=>decide (a=b)
def Je:List SV->Option (List TyN)
 | []=>some []
 | .ty t::xs=>(Je xs).map (t::·)
 | _::_=>none
def a0(f:Sto->QE->Prop):Sn:=λxs S Q=>match xs with | []=>f S Q | _=>False
def a1(f:S1):Sn:=λxs S Q=>match xs with | [x]=>f x S Q | _=>False
def a2(f:S2):Sn:=λxs S Q=>match xs with | [x,y]=>f x y S Q | _=>False
def oI(f:Int->Sto->QE->Prop):S1:=λx S Q=>match x with | .int i=>f i S Q | _=>False
theorem Tv{f:Sto->QE->Prop}{xs:List SV}{S:Sto}{Q:QE}(h:a0 f xs S Q):xs=[]/\f S Q:=match xs,h with | [],h=>⟨rfl,h⟩
theorem D7{f:S1}{xs:List SV}{S:Sto}{Q:QE}(h:a1 f xs S Q):∃ x,xs=[x]/\f x S Q:=match xs,h with | [x],h=>⟨x,rfl,h⟩
theorem Lh{f:S2}{xs:List SV}{S:Sto}{Q:QE}(h:a2 f xs S Q):∃ x y,xs=[x,y]/\f x y S Q:=match xs,h with | [x,y],h=>⟨x,y,rfl,h⟩
theorem CH{f:Int->Sto->QE->Prop}{x:SV}{S:Sto}{Q:QE}(h:oI f x S Q):∃ i,x = .int i/\f i S Q:=match x,h with | .int i,h=>⟨i,rfl,h⟩
theorem A8{f:S1}(m:E2 f):MonoN (a1 f):=λxs S P P' i h=>by
 replace h:=D7 h;obtain⟨x,rfl,h⟩:=h;exact m x S P P' i h
theorem Ci{f:S2}(m:Mono2 f):MonoN (a2 f):=λxs S P P' i h=>by
 replace h:=Lh h;obtain⟨x,y,rfl,h⟩:=h;exact m x y S P P' i h
theorem OQ{f:Int->Sto->QE->Prop}(m:∀ k S P P',(∀ x S',P x S'->P' x S')->f k S P->f k S P'):E2 (oI f):=λx S P P' i h=>by
 replace h:=CH h;obtain⟨k,rfl,h⟩:=h;exact m k S P P' i h
def Tx:S1
 | .int i,S,Q=>Q (.int i) S
 | .bl b,S,Q=>Q (.int (if b then 1 else 0)) S
 | _,_,_=>False
theorem Q3{x:SV}{S:Sto}{Q:QE}(h:Tx x S Q):(∃ i,x = .int i/\Q (.int i) S)\/∃ b,x = .bl b/\Q (.int (if b then 1 else 0)) S:=match x,h with
 | .int i,h => .inl ⟨i,rfl,h⟩
 | .bl b,h => .inr ⟨b,rfl,h⟩
def Ty:S2:=λx y S Q=>match y with
 | .ty t=>∃ a,t ≠ .none/\tyS x S=some a/\Q (.bl (FQ a t)) S
 | .tup ts=>∃ a bs,TyN.none∉bs/\tyS x S=some a/\Je ts=some bs/\Q (.bl (bs.any (FQ a))) S
 | _=>False
theorem Q4{x y:SV}{S:Sto}{Q:QE}(h:Ty x y S Q):(∃ t a,y = .ty t/\t ≠ .none/\tyS x S=some a/\Q (.bl (FQ a t)) S)\/∃ ts a bs,y = .tup ts/\TyN.none∉bs/\tyS x S=some a/\Je ts=some bs/\Q (.bl (bs.any (FQ a))) S:=match y,h with
 | .ty t,⟨a,h⟩ => .inl ⟨t,a,rfl,h⟩
 | .tup ts,⟨a,bs,h⟩ => .inr ⟨ts,a,bs,rfl,h⟩
def Uf:S1:=λx S Q=>∃ xs,seqS x S=some xs/\Q (.int xs.length) S
def Ug:S1:=oI λi S Q=>Q (.int (if i<0 then -i else i)) S
def Uh:S2:=λx y S Q=>oI (λi S Q=>oI (λj S Q=>Q (.int (if j<i then j else i)) S) y S Q) x S Q
def Ui:S2:=λx y S Q=>oI (λi S Q=>oI (λj S Q=>Q (.int (if j>i then j else i)) S) y S Q) x S Q
def Tz:S1:=λx S Q=>∃ xs,seqS x S=some xs/\Q (.loc S.length) (S++[.lst xs])
def Rh:S1:=λx S Q=>∃ xs,seqS x S=some xs/\Q (.tup xs) S
def Uj:S1:=λx S Q=>∃ xs bs,x ≠ .tup xs/\seqS x S=some xs/\blS xs=some bs/\Q (.bl (bs.all id)) S
def Uk:S1:=λx S Q=>∃ xs bs,x ≠ .tup xs/\seqS x S=some xs/\blS xs=some bs/\Q (.bl (bs.any id)) S
def OR:S1:=λx S Q=>∃ xs ns,x ≠ .tup xs/\seqS x S=some xs/\Gr xs=some ns/\ns.length<128/\Q (.loc S.length) (S++[.lst ((srt ns).map SV.int)])
def sBi:BI->Sn
 | .len=>a1 Uf
 | .abs=>a1 Ug
 | .min=>a2 Uh
 | .max=>a2 Ui
 | .int=>a1 Tx
 | .list=>a1 Tz
 | .tuple=>a1 Rh
 | .all=>a1 Uj
 | .any=>a1 Uk
 | .sorted=>a1 OR
 | .isi=>a2 Ty
 | .str=>λ_ _ _=>False
 | .repr=>λ_ _ _=>False
theorem MonoN.bi:∀{b:BI},MonoN (sBi b)
 | .len=>A8 λ_ _ _ _ i ⟨a,c,d⟩=>⟨a,c,i _ _ d⟩
 | .abs=>A8 (OQ λ_ _ _ _ i h=>i _ _ h)
 | .min=>Ci λx y S P P' i h=>by
   replace h:=CH h;obtain⟨k,rfl,h1⟩:=h;obtain⟨l,rfl,h2⟩:=CH h1;exact i _ _ h2
 | .max=>Ci λx y S P P' i h=>by
   replace h:=CH h;obtain⟨k,rfl,h1⟩:=h;obtain⟨l,rfl,h2⟩:=CH h1;exact i _ _ h2
 | .int=>A8 λx S P P' i h=>by
   replace h:=Q3 h;rcases h with⟨k,rfl,h⟩ | ⟨b,rfl,h⟩
   ·exact i _ _ h
   ·exact i _ _ h
 | .list=>A8 λ_ _ _ _ i ⟨a,c,d⟩=>⟨a,c,i _ _ d⟩
 | .tuple=>A8 λ_ _ _ _ i ⟨a,c,d⟩=>⟨a,c,i _ _ d⟩
 | .all=>A8 λ_ _ _ _ i ⟨a,b,c,d,e,f⟩=>⟨a,b,c,d,e,i _ _ f⟩
 | .any=>A8 λ_ _ _ _ i ⟨a,b,c,d,e,f⟩=>⟨a,b,c,d,e,i _ _ f⟩
 | .sorted=>A8 λ_ _ _ _ i ⟨a,b,c,d,e,f,g⟩=>⟨a,b,c,d,e,f,i _ _ g⟩
 | .isi=>Ci λx y S P P' i h=>by
   replace h:=Q4 h;rcases h with⟨t,a,rfl,h1,h2,h⟩ | ⟨ts,a,bs,rfl,h1,h2,h3,h⟩
   ·exact⟨a,h1,h2,i _ _ h⟩
   ·exact⟨a,bs,h1,h2,h3,i _ _ h⟩
 | .str=>λ_ _ _ _ _ h=>h
 | .repr=>λ_ _ _ _ _ h=>h
section
variable{K:Um}{as:List YN}{H:Hp}{S:Sto}
theorem Gs:∀{xs:List SV} {bs:List Bool} {vs:List V},blS xs=some bs->RlAll K as H vs xs->vs=bs.map V.bl
 | [],_,_,e,r=>by cases e;exact rla_nil.mp r
 | .bl b::xs,_,_,e,r=>by
   obtain⟨v,vs,rfl,r1,r2⟩:=rla_cons.mp r;unfold blS at e;cases h:blS xs with
   | none=>rw[h]at e;cases e
   | some cs=>
     rw[h]at e;cases e;rw[rl_bl.mp r1,Gs h r2];rfl
 | .non::_,_,_,e,_=>by cases e
 | .int _::_,_,_,e,_=>by cases e
 | .str _::_,_,_,e,_=>by cases e
 | .tup _::_,_,_,e,_=>by cases e
 | .loc _::_,_,_,e,_=>by cases e
 | .ro _::_,_,_,e,_=>by cases e
 | .ty _::_,_,_,e,_=>by cases e
theorem IL:∀{xs:List SV} {bs:List Int} {vs:List V},Gr xs=some bs->RlAll K as H vs xs->vs=bs.map V.int
 | [],_,_,e,r=>by cases e;exact rla_nil.mp r
 | .int b::xs,_,_,e,r=>by
   obtain⟨v,vs,rfl,r1,r2⟩:=rla_cons.mp r;unfold Gr at e;cases h:Gr xs with
   | none=>rw[h]at e;cases e
   | some cs=>
     rw[h]at e;cases e;rw[rl_int.mp r1,IL h r2];rfl
 | .non::_,_,_,e,_=>by cases e
 | .bl _::_,_,_,e,_=>by cases e
 | .str _::_,_,_,e,_=>by cases e
 | .tup _::_,_,_,e,_=>by cases e
 | .loc _::_,_,_,e,_=>by cases e
 | .ro _::_,_,_,e,_=>by cases e
 | .ty _::_,_,_,e,_=>by cases e
theorem AH{x:SV}{v:V}{xs:List SV}(ok:Ok K as H S)(r:Rl K as H v x)(n:x ≠ .tup xs)(h:seqS x S=some xs):∃ a vs,v = .ref a/\SqL K H a vs/\RlAll K as H vs xs:=by
 cases x with
 | tup ys=>cases h;exact absurd rfl n
 | ro ys=>
   cases h;obtain⟨p,vs,rfl,hp,rr⟩:=rl_ro.mp r;exact⟨p,vs,rfl,hp.sq,rr⟩
 | loc k=>
   obtain⟨a,ea,rfl⟩:=rl_loc.mp r;unfold seqS at h;cases hs:S[k]? with
   | none=>simp only[hs]at h;cases h
   | some o=>
     cases o with
     | lst ys=>
       simp only[hs]at h;cases h;obtain⟨vs,h1,rr⟩:=ok.obj k _ a hs ea;exact⟨a,vs,rfl,SqL.of h1,rr⟩
     | iset _=>simp only[hs]at h;cases h
     | dtl _=>simp only[hs]at h;cases h
     | dtf _ _ _=>simp only[hs]at h;cases h
     | dtp _=>simp only[hs]at h;cases h
     | dct _=>simp only[hs]at h;cases h
     | dcf _ _ _=>simp only[hs]at h;cases h
 | _=>cases h
theorem Ca{vs:List V}{x:SV}(r:RlAll K as H vs [x]):∃ v,vs=[v]/\Rl K as H v x:=by
 obtain⟨v,t,rfl,r1,r2⟩:=rla_cons.mp r;rw[rla_nil.mp r2];exact⟨v,rfl,r1⟩
theorem Jf{vs:List V}{x y:SV}(r:RlAll K as H vs [x,y]):∃ v u,vs=[v,u]/\Rl K as H v x/\Rl K as H u y:=by
 obtain⟨v,t,rfl,r1,r2⟩:=rla_cons.mp r;obtain⟨u,rfl,r3⟩:=Ca r2;exact⟨v,u,rfl,r1,r3⟩
end
theorem Li{K:Um}{as:List YN}{H:Hp}{S:Sto}{Q:VK}{x:SV}{v:V}{ys:List SV}(ok:Ok K as H S)(r1:Rl K as H v x)(h1:seqS x S=some ys)(h2:Post K as H Q (.tup ys) S):∃ p us,v = .ref p/\((SqL K H p us/\∀ l,H l=none->Q (.ref l) (upd H l (.tup us)))\/(SqT K H p us/\Q (.ref p) H)):=by
 cases x with
 | tup zs=>
   cases h1;obtain⟨p,us,rfl,hp,rr⟩:=rl_tup.mp r1;exact⟨p,us,rfl,.inr ⟨SqT.of hp,h2.here ok r1⟩⟩
 | loc k=>
   obtain⟨a,us,rfl,hq,rr⟩:=AH ok r1 (by intro z;cases z) h1;exact⟨a,us,rfl,.inl ⟨hq,BA ok rr h2⟩⟩
 | ro k=>
   obtain⟨a,us,rfl,hq,rr⟩:=AH ok r1 (by intro z;cases z) h1;exact⟨a,us,rfl,.inl ⟨hq,BA ok rr h2⟩⟩
 | _=>cases h1
section
variable{K:Um}{as:List YN}{H:Hp}{S:Sto}
theorem Q5{x:SV}{v:V}{a:TyN}(ok:Ok K as H S)(r:Rl K as H v x)(h:tyS x S=some a):TyOf K H v (.type a.nm):=by
 cases x with
 | non=>cases h;rw[rl_non.mp r];exact .non
 | bl b=>cases h;rw[rl_bl.mp r];exact .bl b
 | int b=>cases h;rw[rl_int.mp r];exact .int b
 | str b=>cases h;rw[rl_str.mp r];exact .str b
 | tup xs=>cases h;obtain⟨p,vs,rfl,hp,_⟩:=rl_tup.mp r;exact .tup hp
 | loc k=>
   obtain⟨b,eb,rfl⟩:=rl_loc.mp r;unfold tyS at h;cases hs:S[k]? with
   | none=>simp only[hs]at h;cases h
   | some o=>
     cases o with
     | lst ys=>
       simp only[hs]at h;cases h;obtain⟨vs,h1,_⟩:=ok.obj k _ b hs eb;exact .lst h1
     | iset _=>simp only[hs]at h;cases h
     | dtl _=>simp only[hs]at h;cases h
     | dtf _ _ _=>simp only[hs]at h;cases h
     | dtp _=>simp only[hs]at h;cases h
     | dct _=>simp only[hs]at h;cases h
     | dcf _ _ _=>simp only[hs]at h;cases h
 | _=>cases h
noncomputable def ktn(t c:String):Option Bool:=if (Value.type t == Value.type c)=true then some true else if PySem.W.kitMeta c=true then (fastBuiltinMro t).map (·.contains (.type c)) else none
theorem IM{K:Um}(a:TyN)(t:TyN)(ht:t ≠ .none):PySem.W.kitOne K (.type a.nm) (.type t.nm)=some (FQ a t):=by
 have e:PySem.W.kitOne K (.type a.nm) (.type t.nm)=ktn a.nm t.nm:=rfl;rw[e];cases a<;>cases t<;>first | exact absurd rfl ht | decide +kernel
theorem IN{K:Um}(a:TyN):∀(bs:List TyN),TyN.none∉bs->PySem.W.kitAny K (.type a.nm) ((bs.map TyN.nm).map Value.type)=some (bs.any (FQ a))
 | [],_=>rfl
 | b::bs,h=>by
   rw[VP,VP,PySem.W.kitAny,IM a b (λz=>h (by rw[z];simp)),W2];cases FQ a b with
   | true=>rfl
   | false=>exact IN a bs (λz=>h (VB _ z))
theorem Lj:∀{xs:List SV} {bs:List TyN} {vs:List V},Je xs=some bs->RlAll K as H vs xs->vs=(bs.map TyN.nm).map V.ty
 | [],_,_,e,r=>by cases e;exact rla_nil.mp r
 | .ty b::xs,_,_,e,r=>by
   obtain⟨v,vs,rfl,r1,r2⟩:=rla_cons.mp r;unfold Je at e;cases h:Je xs with
   | none=>rw[h]at e;cases e
   | some cs=>
     rw[h]at e;cases e;rw[rl_ty.mp r1,Lj h r2];rfl
 | .non::_,_,_,e,_=>by cases e
 | .bl _::_,_,_,e,_=>by cases e
 | .str _::_,_,_,e,_=>by cases e
 | .tup _::_,_,_,e,_=>by cases e
 | .loc _::_,_,_,e,_=>by cases e
 | .ro _::_,_,_,e,_=>by cases e
 | .int _::_,_,_,e,_=>by cases e
end
noncomputable def rBi(K:Um):BI->List V->Hp->VK->Prop
 | .len=>λxs H Q=>∃ p ys,xs=[.ref p]/\(SqL K H p ys\/SqT K H p ys)/\Q (.int ys.length) H
 | .abs=>λxs H Q=>∃ i,xs=[.int i]/\Q (.int (if i<0 then -i else i)) H
 | .min=>λxs H Q=>∃ i j,xs=[.int i,.int j]/\Q (.int (if j<i then j else i)) H
 | .max=>λxs H Q=>∃ i j,xs=[.int i,.int j]/\Q (.int (if j>i then j else i)) H
 | .int=>λxs H Q=>(∃ i,xs=[.int i]/\Q (.int i) H)\/∃ k,xs=[.bl k]/\Q (.int (if k then 1 else 0)) H
 | .list=>λxs H Q=>∃ p ys,xs=[.ref p]/\(SqL K H p ys\/SqT K H p ys)/\∀ l,H l=none->Q (.ref l) (upd H l (.lst ys))
 | .tuple=>λxs H Q=>∃ p ys,xs=[.ref p]/\((SqL K H p ys/\∀ l,H l=none->Q (.ref l) (upd H l (.tup ys)))\/(SqT K H p ys/\Q (.ref p) H))
 | .all=>λxs H Q=>∃(a:YN) (bs:List Bool),xs=[.ref a]/\SqL K H a (bs.map V.bl)/\Q (.bl (bs.all id)) H
 | .any=>λxs H Q=>∃(a:YN) (bs:List Bool),xs=[.ref a]/\SqL K H a (bs.map V.bl)/\Q (.bl (bs.any id)) H
 | .sorted=>λxs H Q=>∃ p ns,xs=[.ref p]/\SqL K H p (ns.map V.int)/\ns.length<128/\∀ l,H l=none->Q (.ref l) (upd H l (.lst ((srt ns).map V.int)))
 | .isi=>λxs H Q=>(∃ x T t b,xs=[x,.ty T]/\TyOf K H x t/\PySem.W.kitOne K t (.type T)=some b/\Q (.bl b) H)\/(∃(x:V) (p:YN) (Ts:List String) (t:YK) (b:Bool),xs=[x,.ref p]/\H p=some (.tup (Ts.map V.ty))/\TyOf K H x t/\PySem.W.kitAny K t (Ts.map Value.type)=some b/\Q (.bl b) H)
 | .str=>λ_ _ _=>False
 | .repr=>λ_ _ _=>False
theorem Ri{K:Um}:∀{b:BI},To K (sBi b) (rBi K b)
 | .len=>λas H S xs vs Q ok r h=>by
   replace h:=D7 h;obtain⟨x,rfl,ys,h1,h2⟩:=h;obtain⟨v,rfl,r1⟩:=Ca r;obtain⟨a,us,rfl,hq,rr⟩:=EY ok r1 h1;exact⟨a,us,rfl,hq,by rw[rr.length];exact h2.here ok (rl_int.mpr rfl)⟩
 | .abs=>λas H S xs vs Q ok r h=>by
   replace h:=D7 h;obtain⟨x,rfl,h⟩:=h;replace h:=CH h;obtain⟨i,rfl,h⟩:=h;obtain⟨v,rfl,r1⟩:=Ca r;exact⟨_,by rw[rl_int.mp r1],Post.here h ok (rl_int.mpr rfl)⟩
 | .min=>λas H S xs vs Q ok r h=>by
   replace h:=Lh h;obtain⟨x,y,rfl,h⟩:=h;replace h:=CH h;obtain⟨i,rfl,h⟩:=h;replace h:=CH h;obtain⟨j,rfl,h⟩:=h;obtain⟨v,u,rfl,r1,r2⟩:=Jf r;exact⟨_,_,by rw[rl_int.mp r1,rl_int.mp r2],Post.here h ok (rl_int.mpr rfl)⟩
 | .max=>λas H S xs vs Q ok r h=>by
   replace h:=Lh h;obtain⟨x,y,rfl,h⟩:=h;replace h:=CH h;obtain⟨i,rfl,h⟩:=h;replace h:=CH h;obtain⟨j,rfl,h⟩:=h;obtain⟨v,u,rfl,r1,r2⟩:=Jf r;exact⟨_,_,by rw[rl_int.mp r1,rl_int.mp r2],Post.here h ok (rl_int.mpr rfl)⟩
 | .int=>λas H S xs vs Q ok r h=>by
   replace h:=D7 h;obtain⟨x,rfl,h⟩:=h;obtain⟨v,rfl,r1⟩:=Ca r;replace h:=Q3 h;rcases h with⟨k,rfl,h⟩ | ⟨b,rfl,h⟩
   ·exact .inl ⟨_,by rw[rl_int.mp r1],Post.here h ok (rl_int.mpr rfl)⟩
   ·exact .inr ⟨_,by rw[rl_bl.mp r1],Post.here h ok (rl_int.mpr rfl)⟩
 | .list=>λas H S xs vs Q ok r h=>by
   replace h:=D7 h;obtain⟨x,rfl,ys,h1,h2⟩:=h;obtain⟨v,rfl,r1⟩:=Ca r;obtain⟨a,us,rfl,hq,rr⟩:=EY ok r1 h1;exact⟨a,us,rfl,hq,AM ok rr h2⟩
 | .tuple=>λas H S xs vs Q ok r h=>by
   replace h:=D7 h;obtain⟨x,rfl,ys,h1,h2⟩:=h;obtain⟨v,rfl,r1⟩:=Ca r;obtain⟨p,us,rfl,z⟩:=Li ok r1 h1 h2;exact⟨p,us,rfl,z⟩
 | .all=>λas H S xs vs Q ok r h=>by
   replace h:=D7 h;obtain⟨x,rfl,ys,bs,h0,h1,h2,h3⟩:=h;obtain⟨v,rfl,r1⟩:=Ca r;obtain⟨a,us,rfl,hq,rr⟩:=AH ok r1 h0 h1;rw[Gs h2 rr]at hq;exact⟨a,bs,rfl,hq,h3.here ok (rl_bl.mpr rfl)⟩
 | .any=>λas H S xs vs Q ok r h=>by
   replace h:=D7 h;obtain⟨x,rfl,ys,bs,h0,h1,h2,h3⟩:=h;obtain⟨v,rfl,r1⟩:=Ca r;obtain⟨a,us,rfl,hq,rr⟩:=AH ok r1 h0 h1;rw[Gs h2 rr]at hq;exact⟨a,bs,rfl,hq,h3.here ok (rl_bl.mpr rfl)⟩
 | .sorted=>λas H S xs vs Q ok r h=>by
   replace h:=D7 h;obtain⟨x,rfl,ys,ns,h0,h1,h2,h3,h4⟩:=h;obtain⟨v,rfl,r1⟩:=Ca r;obtain⟨a,us,rfl,hq,rr⟩:=AH ok r1 h0 h1;rw[IL h2 rr]at hq;exact⟨a,ns,rfl,hq,h3,AM ok RlAll.ints h4⟩
 | .isi=>λas H S xs vs Q ok r h=>by
   replace h:=Lh h;obtain⟨x,y,rfl,h⟩:=h;obtain⟨v,u,rfl,r1,r2⟩:=Jf r;replace h:=Q4 h;rcases h with⟨t,a,rfl,h0,h1,h2⟩ | ⟨ts,a,bs,rfl,h0,h1,h2,h3⟩
   ·rw[rl_ty.mp r2];exact .inl ⟨v,_,_,_,rfl,Q5 ok r1 h1,IM _ _ h0,h2.here ok (rl_bl.mpr rfl)⟩
   ·obtain⟨p,vs,rfl,hp,rr⟩:=rl_tup.mp r2;rw[Lj h2 rr]at hp;exact .inr ⟨v,p,_,_,_,rfl,hp,Q5 ok r1 h1,IN _ _ h0,h3.here ok (rl_bl.mpr rfl)⟩
 | .str=>λ_ _ _ _ _ _ _ _ h=>False.elim h
 | .repr=>λ_ _ _ _ _ _ _ _ h=>False.elim h
theorem Cj{K:Um}{as:List YN}{H:Hp}:∀{ns:List Int} {vs:List V},RlAll K as H vs (ns.map SV.int)->vs=ns.map V.int
 | [],vs,h=>rla_nil.mp h
 | n::ns,vs,h=>by
   obtain⟨v,r,rfl,h1,h2⟩:=rla_cons.mp h;rw[rl_int.mp h1,Cj h2];rfl
inductive MT where
 | append | extend | pop | insert | clear
 deriving DecidableEq
def MT.name:MT->Str
 | .append=>"append" | .extend=>"extend" | .pop=>"pop" | .insert=>"insert" | .clear=>"clear"
def oL(f:Nat->Sto->QE->Prop):S1:=λx S Q=>match x with | .loc k=>f k S Q | _=>False
theorem Cb{f:Nat->Sto->QE->Prop}{x:SV}{S:Sto}{Q:QE}(h:oL f x S Q):∃ k,x = .loc k/\f k S Q:=match x,h with | .loc k,h=>⟨k,rfl,h⟩
def Q6:Nat->Sto->QE->Prop:=λk S Q=>∃ xs y,S[k]?=some (.lst xs)/\xs[xs.length - 1]?=some y/\Q y (S.set k (.lst xs.dropLast))
def Q7(k:Nat):Int->Sto->QE->Prop:=λi S Q=>∃ xs y,S[k]?=some (.lst xs)/\(0<=i/\i<xs.length)/\xs.length<=big/\xs[i.toNat]?=some y/\Q y (S.set k (.lst (xs.eraseIdx i.toNat)))
def Q8(y:SV):Nat->Sto->QE->Prop:=λk S Q=>oI (Q7 k) y S Q
def U0(x:SV):Sn:=λxs S Q=>match xs with
 | []=>oL Q6 x S Q
 | [y]=>oL (Q8 y) x S Q
 | _=>False
def OS(x:SV):S1:=λy S Q=>oL (λk S Q=>∃ xs,S[k]?=some (.lst xs)/\xs.length<big/\Q .non (S.set k (.lst (xs++[y])))) x S Q
def OT(x:SV):S1:=λy S Q=>oL (λk S Q=>oL (λl S Q=>∃ xs ys,S[k]?=some (.lst xs)/\S[l]?=some (.lst ys)/\xs.length+ys.length<=big/\Q .non (S.set k (.lst (xs++ys)))) y S Q) x S Q
def OU(x:SV):S2:=λz y S Q=>oL (λk S Q=>oI (λi S Q=>∃ xs,S[k]?=some (.lst xs)/\(0<=i/\i<=xs.length)/\xs.length<big/\Q .non (S.set k (.lst (xs.take i.toNat++y::xs.drop i.toNat)))) z S Q) x S Q
def Rj(x:SV):Sto->QE->Prop:=λS Q=>oL (λk S Q=>∃ xs,S[k]?=some (.lst xs)/\Q .non (S.set k (.lst []))) x S Q
def sMt:MT->SV->Sn
 | .append,x=>a1 (OS x)
 | .extend,x=>a1 (OT x)
 | .pop,x=>U0 x
 | .insert,x=>a2 (OU x)
 | .clear,x=>a0 (Rj x)
theorem Q9{x:SV}{xs:List SV}{S:Sto}{Q:QE}(h:U0 x xs S Q):∃ k,x = .loc k/\((xs=[]/\∃ xs y,S[k]?=some (.lst xs)/\xs[xs.length - 1]?=some y/\Q y (S.set k (.lst xs.dropLast)))\/
 ∃ i,xs=[.int i]/\∃ xs y,S[k]?=some (.lst xs)/\(0<=i/\i<xs.length)/\xs.length<=big/\xs[i.toNat]?=some y/\Q y (S.set k (.lst (xs.eraseIdx i.toNat)))):=match xs,h with
 | [],h=>by
   have h:oL Q6 x S Q:=h;obtain⟨k,e,h⟩:=Cb h;exact⟨k,e,.inl ⟨rfl,h⟩⟩
 | [y],h=>by
   have h:oL (Q8 y) x S Q:=h;obtain⟨k,e,h⟩:=Cb h;have h:oI (Q7 k) y S Q:=h;obtain⟨i,e2,h⟩:=CH h;exact⟨k,e,.inr ⟨i,by rw[e2],h⟩⟩
theorem Eg:∀{m:MT} {x:SV},MonoN (sMt m x)
 | .append,x=>A8 λy S P P' i h=>by
   replace h:=Cb h;obtain⟨k,rfl,a,c,d,e⟩:=h;exact⟨a,c,d,i _ _ e⟩
 | .extend,x=>A8 λy S P P' i h=>by
   replace h:=Cb h;obtain⟨k,rfl,h⟩:=h;replace h:=Cb h;obtain⟨l,rfl,a,c,d,e,f,g⟩:=h;exact⟨a,c,d,e,f,i _ _ g⟩
 | .pop,x=>λxs S P P' i h=>by
   replace h:=Q9 h;obtain⟨k,rfl,h⟩:=h;rcases h with⟨rfl,a,c,d,e,f⟩ | ⟨j,rfl,a,c,d,e,f,g,h⟩
   ·exact⟨a,c,d,e,i _ _ f⟩
   ·exact⟨a,c,d,e,f,g,i _ _ h⟩
 | .insert,x=>Ci λz y S P P' i h=>by
   replace h:=Cb h;obtain⟨k,rfl,h⟩:=h;replace h:=CH h;obtain⟨j,rfl,a,c,d,e,f⟩:=h;exact⟨a,c,d,e,i _ _ f⟩
 | .clear,x=>λxs S P P' i h=>by
   replace h:=Tv h;obtain⟨rfl,h⟩:=h;replace h:=Cb h;obtain⟨k,rfl,a,c,d⟩:=h;exact⟨a,c,i _ _ d⟩
def rMt:MT->V->List V->Hp->VK->Prop
 | .append=>Hz
 | .extend=>I0
 | .pop=>λx vs H Q=>TV x vs H Q\/Kx x vs H Q
 | .insert=>IA
 | .clear=>Ky
section
variable{K:Um}{as:List YN}{H:Hp}{S:Sto}
theorem RlAll.erase:∀{xs:List SV} {vs:List V} (n:Nat),RlAll K as H vs xs->RlAll K as H (vs.eraseIdx n) (xs.eraseIdx n)
 | [],_,n,h=>by rw[rla_nil.mp h];exact .nil
 | x::xs,_,0,h=>by
   obtain⟨v,r,rfl,a,t⟩:=rla_cons.mp h;exact t
 | x::xs,_,n+1,h=>by
   obtain⟨v,r,rfl,a,t⟩:=rla_cons.mp h;exact .cons a (t.erase n)
theorem RlAll.dropLast{xs:List SV}{vs:List V}(h:RlAll K as H vs xs):RlAll K as H vs.dropLast xs.dropLast:=by
 rw[XX,XX,h.length];exact h.take _
theorem y7{Q:VK}{k:Nat}{a:YN}{xs ys:List SV}{us:List V}{x:SV}{v:V}(ok:Ok K as H S)(e:S[k]?=some (.lst xs))(ea:as[k]?=some a)(r:RlAll K as H us ys)(h:Post K as H Q x (S.set k (.lst ys)))(rx:Rl K as H v x):Q v (upd H a (.lst us)):=by
 obtain⟨ok',ku⟩:=ok.write e ea r;exact h as _ v (Go.write (Us ea)) ok' (Rl.mono (Vn _) ku x v rx)
theorem Lk:∀{m:MT} {Q:VK} {x:SV} {v:V} {xs:List SV} {vs:List V} (ok:Ok K as H S) (rx:Rl K as H v x) (r:RlAll K as H vs xs) (h:sMt m x xs S (Post K as H Q)),rMt m v vs H Q
 | .append,Q,x,v,xs,vs,ok,rx,r,h=>by
   replace h:=D7 h;obtain⟨y,rfl,h⟩:=h;replace h:=Cb h;obtain⟨k,rfl,ys,h1,h2,h3⟩:=h;obtain⟨a,us,rfl,ea,ha,ra⟩:=j0 ok rx h1;obtain⟨u,rfl,ru⟩:=Ca r;exact⟨a,us,u,rfl,rfl,ha,by rw[ra.length];exact Gj h2,y7 ok h1 ea (ra.append (.cons ru .nil)) h3 (rl_non.mpr rfl)⟩
 | .extend,Q,x,v,xs,vs,ok,rx,r,h=>by
   replace h:=D7 h;obtain⟨y,rfl,h⟩:=h;replace h:=Cb h;obtain⟨k,rfl,h⟩:=h;replace h:=Cb h;obtain⟨l,rfl,ys,zs,h1,h2,h3,h4⟩:=h;obtain⟨a,us,rfl,ea,ha,ra⟩:=j0 ok rx h1;obtain⟨u,rfl,ru⟩:=Ca r;obtain⟨b,ws,rfl,eb,hb,rb⟩:=j0 ok ru h2;exact⟨a,b,us,ws,rfl,rfl,ha,hb,by rw[ra.length,rb.length];exact AC h3,y7 ok h1 ea (ra.append rb) h4 (rl_non.mpr rfl)⟩
 | .pop,Q,x,v,xs,vs,ok,rx,r,h=>by
   replace h:=Q9 h;obtain⟨k,rfl,h⟩:=h;rcases h with⟨rfl,ys,y,h1,h2,h3⟩ | ⟨i,rfl,ys,y,h1,h2,h3,h4,h5⟩
   ·obtain⟨a,us,rfl,ea,ha,ra⟩:=j0 ok rx h1;obtain⟨z,hz,rz⟩:=ra.get h2;rw[rla_nil.mp r];exact .inl ⟨a,us,z,rfl,rfl,ha,by rw[ra.length];exact hz,y7 ok h1 ea ra.dropLast h3 rz⟩
   ·obtain⟨a,us,rfl,ea,ha,ra⟩:=j0 ok rx h1;obtain⟨u,rfl,ru⟩:=Ca r;obtain⟨z,hz,rz⟩:=ra.get h4;rw[rl_int.mp ru];have hb:big=100000:=rfl;refine .inr ⟨a,us,i,i.toNat,z,rfl,rfl,ha,by omega,by omega,?_,hz,y7 ok h1 ea (ra.erase _) h5 rz⟩;rw[ra.length];exact PySem.seqIndex_of h2.1 h2.2
 | .insert,Q,x,v,xs,vs,ok,rx,r,h=>by
   replace h:=Lh h;obtain⟨z,y,rfl,h⟩:=h;replace h:=Cb h;obtain⟨k,rfl,h⟩:=h;replace h:=CH h;obtain⟨i,rfl,ys,h1,h2,h3,h4⟩:=h;obtain⟨a,us,rfl,ea,ha,ra⟩:=j0 ok rx h1;obtain⟨u,w,rfl,ru,rw'⟩:=Jf r;rw[rl_int.mp ru];exact⟨a,us,i,w,rfl,rfl,ha,h2.1,by rw[ra.length];exact h2.2,by rw[ra.length];exact Gj h3,y7 ok h1 ea (ra.ins rw' _) h4 (rl_non.mpr rfl)⟩
 | .clear,Q,x,v,xs,vs,ok,rx,r,h=>by
   replace h:=Tv h;obtain⟨rfl,h⟩:=h;replace h:=Cb h;obtain⟨k,rfl,ys,h1,h2⟩:=h;obtain⟨a,us,rfl,ea,ha,ra⟩:=j0 ok rx h1;rw[rla_nil.mp r];exact⟨a,us,rfl,rfl,ha,y7 ok h1 ea .nil h2 (rl_non.mpr rfl)⟩
end
mutual
inductive Tg where
 | nm (i:Nat) | tup (ts:Tgs)
inductive Tgs where
 | nil | cons (t:Tg) (ts:Tgs)
end
mutual
inductive Ex where
 | var (i:Nat) | c (x:SV) | op (o:Z4) (a b:Ex) | neg (a:Ex) | cmp (o:CmpOp) (a b:Ex) | chn (o p:CmpOp) (a b c:Ex)
 | and (a b:Ex) | or (a b:Ex) | not (a:Ex) | ife (t a b:Ex) | tup (es:Exs) | lst (es:Exs) | ix (a b:Ex) | slc (a:Ex) (lo hi:Eo)
 | call (f:Nat) (es:Exs) | bi (b:BI) (es:Exs) | mt (m:MT) (a:Ex) (es:Exs) | comp (own cn:List Str) (js:List Nat) (g:Tg) (it:Itb) (t:Eo) (e:Ex) | tyc (t:TyN) | rev (a:Ex) | max1 (a:Ex) | maxd (a d:Ex) | eqd (n:Bool) (a b:Ex) | mind (a d:Ex) | dnewp | setd (d e v:Ex) | eqt0 (a b:Ex) | eqtl (a b:Ex) | no
inductive Exs where
 | nil | cons (e:Ex) (es:Exs)
inductive Eo where
 | no | yes (e:Ex)
inductive Itb where
 | seq (e:Ex) | rng1 (a:Ex) | enum (e:Ex)
end
inductive Stm where
 | asg (t:Tg) (e:Ex) | par (i j:Nat) (a b:Ex) | put (o i e:Ex) | augS (o i e:Ex) | expr (e:Ex) | iff (t:Ex) (a b:List Stm) | loop (g:Tg) (it:Itb) (b:List Stm) | whl (t:Ex) (b:List Stm) | tri (b:List Stm)
 | ret (e:Ex) | no
def sOp:Z4->S2
 | .Add=>LZ
 | .Sub=>Bv λi j => .int (i - j)
 | .Mult=>La
 | .FloorDiv=>Gk T8 λi j => .int (i / j)
 | .Mod=>Gk (λ_ j=>0<j) λi j => .int (i % j)
 | .Pow=>Gk T9 λi j => .int (i ^ j.toNat)
 | _=>λ_ _ _ _=>False
def Ao:CmpOp->S2
 | .Eq=>sEq
 | .NotEq=>sNe
 | .Lt=>Bv λi j => .bl (decide (i<j))
 | .LtE=>Bv λi j => .bl (decide (i<=j))
 | .Gt=>Bv λi j => .bl (decide (j<i))
 | .GtE=>Bv λi j => .bl (decide (j<=i))
 | .In=>sIn false
 | .NotIn=>sIn true
 | .Is=>Lb false
 | .IsNot=>Lb true
def Ll:S1
 | .int i,S,Q=>Q (.int (-i)) S
 | _,_,_=>False
def Lm:SV->Sto->Option Bool
 | .bl b,_=>some b
 | .tup xs,_=>some (!xs.isEmpty)
 | .loc k,S=>match S[k]? with | some (.lst xs)=>some (!xs.isEmpty) | _=>none
 | _,_=>none
def Rk(w:WE):WT:=λρ S Q=>w ρ S λx S'=>∃ b,Lm x S'=some b/\Q b S'
def Ln(a b:WE):WE:=λρ S Q=>a ρ S λx S1=>∃ c,x = .bl c/\if c=true then b ρ S1 Q else Q (.bl false) S1
def wOr(a b:WE):WE:=λρ S Q=>a ρ S λx S1=>∃ c,x = .bl c/\if c=true then Q (.bl true) S1 else b ρ S1 Q
def OV(a:WE):WE:=λρ S Q=>a ρ S λx S1=>∃ c,x = .bl c/\Q (.bl (!c)) S1
def D8(a b:WT):WT:=λρ S Q=>a ρ S λc S1=>if c=true then b ρ S1 Q else Q false S1
def Gv(a b:WT):WT:=λρ S Q=>a ρ S λc S1=>if c=true then Q true S1 else b ρ S1 Q
def IO(a:WT):WT:=λρ S Q=>a ρ S λc S1=>Q (!c) S1
def OW(t:WT)(a b:WE):WE:=λρ S Q=>t ρ S λc S1=>if c=true then a ρ S1 Q else b ρ S1 Q
def Lo(s s':S2)(a b c:WE):WE:=λρ S Q=>a ρ S λx S1=>b ρ S1 λy S2=>s x y S2 λz S3=>∃ k,z = .bl k/\if k=true then c ρ S3 λu S4=>s' y u S4 Q else Q (.bl false) S3
abbrev WO:=EnvS->Sto->(Option Int->Sto->Prop)->Prop
def Rm:WO:=λ_ S Q=>Q none S
def Lp(w:WE):WO:=λρ S Q=>w ρ S λx S1=>∃ i,x = .int i/\Q (some i) S1
def Cc(xs:List SV)(lo hi:Option Int):List SV:=(xs.drop (HT.sIx xs.length 0 lo)).take (HT.sIx xs.length xs.length hi - HT.sIx xs.length 0 lo)
def Lq:SV->Option Int->Option Int->Sto->QE->Prop
 | .loc k,lo,hi,S,Q=>∃ xs,S[k]?=some (.lst xs)/\Q (.loc S.length) (S++[.lst (Cc xs lo hi)])
 | .tup xs,lo,hi,S,Q=>Q (.tup (Cc xs lo hi)) S
 | _,_,_,_,_=>False
def Rn(a:WE)(lo hi:WO):WE:=λρ S Q=>a ρ S λx S1=>lo ρ S1 λl S2=>hi ρ S2 λh S3=>Lq x l h S3 Q
abbrev WI:=EnvS->Sto->((Sto->Prop)->List SV->Sto->Prop)->Prop
def keepS:SV->Sto->Sto->Prop
 | .loc k,S,S'=>S'[k]?=S[k]?
 | _,_,_=>True
def QA(w:WE):WI:=λρ S R=>w ρ S λx S1=>∃ xs,seqS x S1=some xs/\R (keepS x S1) xs S1
def CI(lo hi:Int):List SV:=(Uy (hi - lo).toNat).map λ(i:Nat) => .int (lo+i)
def Ls(w:WE):WI:=λρ S R=>w ρ S λx S1=>∃ j,x = .int j/\(-(2 ^ 62)<=j/\j<2 ^ 62)/\R (λ_=>True) (CI 0 j) S1
def BC(xs:List SV):List SV:=(Uy xs.length).zipWith (λ(i:Nat) x => .tup [.int i,x]) xs
def Lu(w:WE):WI:=λρ S R=>w ρ S λx S1=>∃ xs,seqS x S1=some xs/\R (keepS x S1) (BC xs) S1
def OX:S1
 | .loc k,S,Q=>∃ xs,S[k]?=some (.lst xs)/\Q (.loc S.length) (S++[.lst xs.reverse])
 | _,_,_=>False
def Lw(a:WE):WE:=λρ S Q=>a ρ S λx S1=>∃ k ns,x = .loc k/\S1[k]?=some (.lst (ns.map SV.int))/\0<ns.length/\∀ m,Grt ns m->Q (.int m) S1
def Lx(a d:WE):WE:=λρ S Q=>a ρ S λx S1=>d ρ S1 λy S2=>∃ k ps,x = .loc k/\y = .non/\S2[k]?=some (.lst (ps.map λp:Int×Int=>SV.tup [.int p.1,.int p.2]))/\(ps=[]->Q .non S2)/\∀ p∈ps,Q (.tup [.int p.1,.int p.2]) S2
def dpv(kvs:List ((Int×Int)×Int))(k:Int×Int):Option Int:=(kvs.find? λp=>decide (p.1=k)).map (·.2)
def Ly(d e v:WE):WE:=λρ S Q=>d ρ S λx S1=>∃ k kv0,x = .loc k/\S1[k]?=some (.dtp kv0)/\e ρ S1 λy S2=>v ρ S2 λz S3=>∃ i j m kvs,y = .tup [.int i,.int j]/\z = .int m/\S3[k]?=some (.dtp kvs)/\kvs.length<big/\
 (∀ n,dpv kvs (i,j)=some n->Q (.int n) S3)/\(dpv kvs (i,j)=none->Q (.int m) (S3.set k (.dtp (kvs++[((i,j),m)]))))
def Jg(kvs:List (List Int×SV))(k:List Int):Option SV:=(kvs.find? λp=>decide (p.1=k)).map (·.2)
def QB(kvs:List (List Int×SV))(k:List Int)(x:SV):List (List Int×SV):=if (kvs.any λp=>decide (p.1=k))=true then kvs.map (λp=>if p.1=k then (p.1,x) else p) else kvs++[(k,x)]
def EqS(S:Sto):Nat->SV->SV->Prop
 | 0,x,y=>v4 x=true/\x=y
 | k+1,x,y=>EqS S k x y\/(∃ a b xs ys,x = .loc a/\y = .loc b/\S[a]?=some (.lst xs)/\S[b]?=some (.lst ys)/\xs.length=ys.length/\∀(i:Nat) u v,xs[i]?=some u->ys[i]?=some v->EqS S k u v)\/(∃ xs ys,x = .tup xs/\y = .tup ys/\xs.length=ys.length/\∀(i:Nat) u v,xs[i]?=some u->ys[i]?=some v->EqS S k u v)
def Lz(n:Bool):S2:=λx y S Q=>∃(a b:Nat) (xs ys:List SV),x = .loc a/\y = .loc b/\S[a]?=some (.lst xs)/\S[b]?=some (.lst ys)/\xs.length=ys.length/\(∀(i:Nat) u v,xs[i]?=some u->ys[i]?=some v->EqS S 2 u v)/\Q (.bl (!n)) S
def MA(a d:WE):WE:=λρ S Q=>a ρ S λx S1=>d ρ S1 λy S2=>∃ k ns i,x = .loc k/\y = .int i/\S2[k]?=some (.lst (ns.map SV.int))/\(ns=[]->Q (.int i) S2)/\∀ m,Grt ns m->Q (.int m) S2
def Jh(kvs:List (Int×SV))(i:Int):Option SV:=(kvs.find? λp=>decide (p.1=i)).map (·.2)
def QC(kvs:List (Int×SV))(i:Int)(x:SV):List (Int×SV):=if (kvs.any λp=>decide (p.1=i))=true then kvs.map (λp=>if p.1=i then (p.1,x) else p) else kvs++[(i,x)]
def LsI(S:Sto)(ts:List Nat)(xss:List (List Int)):Prop:=ts.length=xss.length/\∀(i t:Nat) (xs:List Int),ts[i]?=some t->xss[i]?=some xs->S[t]?=some (.lst (xs.map SV.int))
def FR:S2:=λx y S Q=>∃ xs,x = .tup xs/\y = .tup []/\Q (.bl xs.isEmpty) S
def FS:S2:=λx y S Q=>∃ ts us xss,x = .tup (ts.map SV.loc)/\y = .tup (us.map SV.loc)/\LsI S ts xss/\LsI S us xss/\Q (.bl true) S
def Gx:WE:=λ_ S Q=>Q (.loc S.length) (S++[.dtp []])
def wMt(m:MT)(a:WE)(b:WA):WE:=λρ S Q=>a ρ S λx S1=>(∃ k xs,x = .loc k/\S1[k]?=some (.lst xs))/\b ρ S1 λxs S2=>sMt m x xs S2 Q
mutual
noncomputable def wTg:Tg->SV->EnvS->(EnvS->Prop)->Prop
 | .nm i,x,ρ,Q=>Q (ρ.set i (some x))
 | .tup ts,.tup xs,ρ,Q=>AU ts xs ρ Q
 | .tup _,_,_,_=>False
noncomputable def AU:Tgs->List SV->EnvS->(EnvS->Prop)->Prop
 | .nil,[],ρ,Q=>Q ρ
 | .cons t ts,x::xs,ρ,Q=>wTg t x ρ λρ'=>AU ts xs ρ' Q
 | _,_,_,_=>False
end
def FT(k:Nat)(js:List Nat)(ρ:EnvS):EnvS:=Uv k none++js.map λj=>(ρ[j]?).join
noncomputable def p0(keep:Sto->Prop)(g:Tg)(t:WT)(e:WE)(ρ:EnvS)(Q:List SV->Sto->Prop):List SV->List SV->Sto->Prop
 | [],ys,S=>keep S/\Q ys S
 | x::xs,ys,S=>keep S/\wTg g x ρ λρ2=>t ρ2 S λb S1=>if b=true then e ρ2 S1 λy S2=>ys.length<big/\p0 keep g t e ρ Q xs (ys++[y]) S2 else p0 keep g t e ρ Q xs ys S1
noncomputable def IP(k:Nat)(js:List Nat)(g:Tg)(i:WI)(t:WT)(e:WE):WE:=λρ S Q=>i ρ S λkeep xs S1=>p0 keep g t e (FT k js ρ) (λys S2=>Q (.loc S2.length) (S2++[.lst ys])) xs [] S1
def tt1(w:WE):WE×WT:=(w,Rk w)
def wBl(w:WE):WT:=λρ S Q=>w ρ S λx S'=>∃ b,x = .bl b/\Q b S'
def tt2(w:WE):WE×WT:=(w,wBl w)
def U1:WT:=λ_ S Q=>Q true S
mutual
noncomputable def wEx(Δ:Nat->Sn):Ex->WE×WT
 | .var i=>tt1 (RV i)
 | .c x=>tt1 (wC x)
 | .op o a b=>tt1 (w2 (sOp o) (wEx Δ a).1 (wEx Δ b).1)
 | .neg a=>tt1 (w1 Ll (wEx Δ a).1)
 | .cmp o a b=>tt2 (w2 (Ao o) (wEx Δ a).1 (wEx Δ b).1)
 | .chn o p a b c=>tt2 (Lo (Ao o) (Ao p) (wEx Δ a).1 (wEx Δ b).1 (wEx Δ c).1)
 | .and a b=>(Ln (wEx Δ a).1 (wEx Δ b).1,D8 (wEx Δ a).2 (wEx Δ b).2)
 | .or a b=>(wOr (wEx Δ a).1 (wEx Δ b).1,Gv (wEx Δ a).2 (wEx Δ b).2)
 | .not a=>(OV (wEx Δ a).1,IO (wEx Δ a).2)
 | .ife t a b=>(OW (wEx Δ t).2 (wEx Δ a).1 (wEx Δ b).1,λ_ _ _=>False)
 | .tup es=>tt1 (wn OC (FU Δ es))
 | .lst es=>tt1 (wn OD (FU Δ es))
 | .ix a b=>tt1 (w2 sIx (wEx Δ a).1 (wEx Δ b).1)
 | .slc a lo hi=>tt1 (Rn (wEx Δ a).1 (wEo Δ lo).1 (wEo Δ hi).1)
 | .call f es=>tt1 (wn (Δ f) (FU Δ es))
 | .bi b es=>tt1 (wn (sBi b) (FU Δ es))
 | .mt m a es=>tt1 (wMt m (wEx Δ a).1 (FU Δ es))
 | .comp own _ js g it t e=>tt1 (IP own.length js g (OY Δ it) (wEo Δ t).2 (wEx Δ e).1)
 | .tyc t=>tt1 (wC (.ty t))
 | .rev a=>tt1 (w1 OX (wEx Δ a).1)
 | .max1 a=>tt1 (Lw (wEx Δ a).1)
 | .maxd a d=>tt1 (MA (wEx Δ a).1 (wEx Δ d).1)
 | .eqt0 a b=>tt2 (w2 FR (wEx Δ a).1 (wEx Δ b).1)
 | .eqtl a b=>tt2 (w2 FS (wEx Δ a).1 (wEx Δ b).1)
 | .eqd n a b=>tt2 (w2 (Lz n) (wEx Δ a).1 (wEx Δ b).1)
 | .dnewp=>tt1 Gx
 | .setd d e v=>tt1 (Ly (wEx Δ d).1 (wEx Δ e).1 (wEx Δ v).1)
 | .mind a d=>tt1 (Lx (wEx Δ a).1 (wEx Δ d).1)
 | .no=>(λ_ _ _=>False,λ_ _ _=>False)
noncomputable def FU(Δ:Nat->Sn):Exs->WA
 | .nil=>E3
 | .cons e es=>D4 (wEx Δ e).1 (FU Δ es)
noncomputable def wEo(Δ:Nat->Sn):Eo->WO×WT
 | .no=>(Rm,U1)
 | .yes e=>(Lp (wEx Δ e).1,(wEx Δ e).2)
noncomputable def OY(Δ:Nat->Sn):Itb->WI
 | .seq e=>QA (wEx Δ e).1
 | .rng1 a=>Ls (wEx Δ a).1
 | .enum e=>Lu (wEx Δ e).1
end
structure EndsS where
 nx:EnvS->Sto->Prop
 rt:SV->Sto->Prop
 bk:EnvS->Sto->Prop:=λ_ _=>False
 ct:EnvS->Sto->Prop:=λ_ _=>False
abbrev WS:=EndsS->EnvS->Sto->Prop
def Eh:SV->SV->SV->Sto->(Sto->Prop)->Prop
 | .loc k,.int i,v,S,Q=>∃ xs j,S[k]?=some (.lst xs)/\ixN xs.length i=some j/\Q (S.set k (.lst (xs.set j v)))
 | _,_,_,_,_=>False
def v5(keep:Sto->Prop)(g:Tg)(b:WS)(D:EndsS):List SV->EnvS->Sto->Prop
 | [],ρ,S=>keep S/\D.nx ρ S
 | x::xs,ρ,S=>keep S/\wTg g x ρ λρ2=>b {D with nx:=v5 keep g b D xs,ct:=v5 keep g b D xs,bk:=D.nx} ρ2 S
noncomputable def Ro(t:WT)(b:WS):WS:=λD ρ S=>∃ W:Nat->EnvS->Sto->Prop,(∃ m,W m ρ S)/\∀ m ρ S,W m ρ S->t ρ S λc S1=>if c=true then
 b {D with nx:=λρ' S'=>∃ m',m'<m/\W m' ρ' S',ct:=λρ' S'=>∃ m',m'<m/\W m' ρ' S',bk:=D.nx} ρ S1 else D.nx ρ S1
mutual
noncomputable def wSt(Δ:Nat->Sn):Stm->WS
 | .asg t e=>λD ρ S=>(wEx Δ e).1 ρ S λx S1=>wTg t x ρ λρ'=>D.nx ρ' S1
 | .par i j a b=>λD ρ S=>(wEx Δ a).1 ρ S λx S1=>(wEx Δ b).1 ρ S1 λy S2=>D.nx ((ρ.set i (some x)).set j (some y)) S2
 | .put o i e=>λD ρ S=>(wEx Δ e).1 ρ S λv S1=>(wEx Δ o).1 ρ S1 λx S2=>(wEx Δ i).1 ρ S2 λy S3=>Eh x y v S3 λS4=>D.nx ρ S4
 | .augS o i e=>λD ρ S=>(wEx Δ o).1 ρ S λx S1=>(wEx Δ i).1 ρ S1 λy S2=>∃(k:Nat) (j:Nat) (xs:List SV) (a:Int),x = .loc k/\y = .int j/\S2[k]?=some (.lst xs)/\xs[j]?=some (.int a)/\(wEx Δ e).1 ρ S2 λv S4=>∃(b:Int) (ys:List SV),v = .int b/\S4[k]?=some (.lst ys)/\j<ys.length/\D.nx ρ (S4.set k (.lst (ys.set j (.int (a+b)))))
 | .expr e=>λD ρ S=>(wEx Δ e).1 ρ S λ_ S1=>D.nx ρ S1
 | .iff t a b=>λD ρ S=>(wEx Δ t).2 ρ S λc S1=>if c=true then wSs Δ a D ρ S1 else wSs Δ b D ρ S1
 | .loop g it b=>λD ρ S=>OY Δ it ρ S λkeep xs S1=>v5 keep g (wSs Δ b) D xs ρ S1
 | .whl t b=>Ro (wEx Δ t).2 (wSs Δ b)
 | .tri b=>wSs Δ b
 | .ret e=>λD ρ S=>(wEx Δ e).1 ρ S D.rt
 | .no=>λ_ _ _=>False
noncomputable def wSs(Δ:Nat->Sn):List Stm->WS
 | []=>λD ρ S=>D.nx ρ S
 | s::ss=>λD ρ S=>wSt Δ s {D with nx:=wSs Δ ss D} ρ S
end
theorem u4{α:Type}{P:Prop}{x:α}(h:(none:Option α)=some x):P:=nomatch h
def FV(scope sc:Yd):Yd:={scope with names:=scope.names.map λ(n,k)=>if (k == .free&&sc.kind == .function&&sc.names.lookup n == some .cell) then (n,.cell) else (n,k)}
def e8:Expr->Bool
 | .Starred ..=>false
 | _=>true
theorem i6{e:Expr}{es:List Expr}{env:Env}(h:e8 e=true):Yc (e::es) env=(false,eval e env)::Yc es env:=by
 cases e<;>first | rfl | cases h
theorem Bw{env:Env}{pos:Pos}:∀{es:List Expr},es.all e8=true->(backTo pos (Yc es env)).any (·.1)=false
 | [],_=>rfl
 | e::es,h=>by
   rw[Vz,Uo]at h;rw[i6 h.1];exact Bw (es:=es) h.2
theorem E5{env:Env}{pos:Pos}:∀{es:List Expr},es.all e8=true->(backTo pos (Yc es env)).all (λx=>!x.1)=true
 | [],_=>rfl
 | e::es,h=>by
   rw[Vz,Uo]at h;rw[i6 h.1];exact E5 (es:=es) h.2
def glo(sc:Yd)(x:Str):Bool:=sc.names.lookup x == some .globalImplicit&&!(x == ("__name__":Str))&&!(x == ("__debug__":Str))
def vis(sc:Yd)(x:Str):Bool:=sc.names.lookup x == some .local||sc.names.lookup x == some .cell||sc.names.lookup x == some .free
def loc(sc:Yd)(x:Str):Bool:=sc.names.lookup x == some .local||sc.names.lookup x == some .cell
def Rp:SV->Const->Bool
 | .non,.none=>true
 | .bl a,.bool b=>a == b
 | .int i,.int j=>decide (i=j)
 | .str x,.str y=>decide (x=y)
 | _,_=>false
def AN:Expr->Bool
 | .Slice ..=>false
 | _=>true
def u7:Expr->Bool
 | .Set ..=>false
 | _=>true
def MB:Expr->Bool
 | .UnaryOp .Not _ _=>false
 | .BoolOp ..=>false
 | .IfExp ..=>false
 | .Compare ..=>false
 | _=>true
def BT:Expr->Bool
 | .Call (.Name _ _) [] [] _=>false
 | _=>true
def Bx:Expr->Option Str
 | .Name x _=>some x
 | _=>none
def Gy:Expr->Option Const
 | .Constant k _ _=>some k
 | _=>none
def U2:Expr->Option (Expr×Z4×Expr)
 | .BinOp a o b _=>some (a,o,b)
 | _=>none
def vUn:Expr->Option (UnaryOp×Expr)
 | .UnaryOp o a _=>some (o,a)
 | _=>none
def Ji:Expr->Option (Expr×List CmpOp×List Expr)
 | .Compare a os bs _=>some (a,os,bs)
 | _=>none
def MC:Expr->Option (BoolOp×List Expr×Pos)
 | .BoolOp o vs p=>some (o,vs,p)
 | _=>none
def U3:Expr->Option (Expr×Expr×Expr)
 | .IfExp t a b _=>some (t,a,b)
 | _=>none
def Ei:Expr->Option (List Expr)
 | .Tuple es _ _=>some es
 | _=>none
def U4:Expr->Option (List Expr)
 | .List es _=>some es
 | _=>none
def Jj:Expr->Option (Expr×Expr)
 | .Subscript a b _=>some (a,b)
 | _=>none
def Rq:Expr->Option (Option Expr×Option Expr×Option Expr)
 | .Slice l h s _=>some (l,h,s)
 | _=>none
def D9:Expr->Option (Expr×List Expr×List Keyword)
 | .Call f as ks _=>some (f,as,ks)
 | _=>none
def Gz:Expr->Nat
 | .Call _ _ _ p=>p.line
 | _=>0
def MD:Expr->Option (Expr×Str×Nat)
 | .Attribute o n p=>some (o,n,p.endLine)
 | _=>none
def ME:Expr->Option (Expr×List Comprehension×Yd)
 | .ListComp e gs s _=>some (e,gs,s)
 | _=>none
def QD:Expr->Option (List (Option Expr)×List Expr)
 | .Dict ks vs _=>some (ks,vs)
 | _=>none
theorem MF{r:Expr}{x:List (Option Expr)×List Expr}(h:QD r=some x):∃ p,r = .Dict x.1 x.2 p:=by cases r<;>first | (cases h;exact⟨_,rfl⟩) | exact u4 h
theorem BD{r:Expr}{x:Str}(h:Bx r=some x):∃ p,r = .Name x p:=by cases r<;>first | (cases h;exact⟨_,rfl⟩) | exact u4 h
theorem E6{r:Expr}{x:Const}(h:Gy r=some x):∃ j p,r = .Constant x j p:=by cases r<;>first | (cases h;exact⟨_,_,rfl⟩) | exact u4 h
theorem OZ{r:Expr}{x:Expr×Z4×Expr}(h:U2 r=some x):∃ p,r = .BinOp x.1 x.2.1 x.2.2 p:=by cases r<;>first | (cases h;exact⟨_,rfl⟩) | exact u4 h
theorem HA{r:Expr}{x:UnaryOp×Expr}(h:vUn r=some x):∃ p,r = .UnaryOp x.1 x.2 p:=by cases r<;>first | (cases h;exact⟨_,rfl⟩) | exact u4 h
theorem By{r:Expr}{x:Expr×List CmpOp×List Expr}(h:Ji r=some x):∃ p,r = .Compare x.1 x.2.1 x.2.2 p:=by cases r<;>first | (cases h;exact⟨_,rfl⟩) | exact u4 h
theorem FW{r:Expr}{x:BoolOp×List Expr×Pos}(h:MC r=some x):r = .BoolOp x.1 x.2.1 x.2.2:=by cases r<;>first | (cases h;exact rfl) | exact u4 h
theorem Oa{r:Expr}{x:Expr×Expr×Expr}(h:U3 r=some x):∃ p,r = .IfExp x.1 x.2.1 x.2.2 p:=by cases r<;>first | (cases h;exact⟨_,rfl⟩) | exact u4 h
theorem BU{r:Expr}{x:List Expr}(h:Ei r=some x):∃ j p,r = .Tuple x j p:=by cases r<;>first | (cases h;exact⟨_,_,rfl⟩) | exact u4 h
theorem Ob{r:Expr}{x:List Expr}(h:U4 r=some x):∃ p,r = .List x p:=by cases r<;>first | (cases h;exact⟨_,rfl⟩) | exact u4 h
theorem Bz{r:Expr}{x:Expr×Expr}(h:Jj r=some x):∃ p,r = .Subscript x.1 x.2 p:=by cases r<;>first | (cases h;exact⟨_,rfl⟩) | exact u4 h
theorem IQ{r:Expr}{x:Option Expr×Option Expr×Option Expr}(h:Rq r=some x):∃ p,r = .Slice x.1 x.2.1 x.2.2 p:=by cases r<;>first | (cases h;exact⟨_,rfl⟩) | exact u4 h
theorem DA{r:Expr}{x:Expr×List Expr×List Keyword}(h:D9 r=some x):∃ p,r = .Call x.1 x.2.1 x.2.2 p/\Gz r=p.line:=by cases r<;>first | (cases h;exact⟨_,rfl,rfl⟩) | exact u4 h
theorem MG{r:Expr}{x:Expr×Str×Nat}(h:MD r=some x):∃ p,r = .Attribute x.1 x.2.1 p/\x.2.2=p.endLine:=by cases r<;>first | (cases h;exact⟨_,rfl,rfl⟩) | exact u4 h
theorem FX{r:Expr}{x:Expr×List Comprehension×Yd}(h:ME r=some x):∃ p,r = .ListComp x.1 x.2.1 x.2.2 p:=by cases r<;>first | (cases h;exact⟨_,rfl⟩) | exact u4 h
theorem a6{α:Type}{o:Option α}{p:α->Bool}(h:o.any p=true):∃ x,o=some x/\p x=true:=by
 cases o with
 | none=>cases h
 | some x=>exact⟨x,rfl,h⟩
theorem AY{α:Type}{l:List α}{x:α}(h:l.head?=some x):l=x::l.tail:=by
 cases l with
 | nil=>cases h
 | cons y r=>cases h;rfl
def l1{α:Type}:List α->Option α
 | [x]=>some x
 | _=>none
def l2{α:Type}:List α->Option (α×α)
 | [x,y]=>some (x,y)
 | _=>none
theorem AD{α:Type}{l:List α}{x:α}(h:l1 l=some x):l=[x]:=by
 match l,h with
 | [y],h=>cases h;rfl
theorem FY{α:Type}{l:List α}{x:α×α}(h:l2 l=some x):l=[x.1,x.2]:=by
 match l,h with
 | [y,z],h=>cases h;rfl
def l3{α:Type}:List α->Option (α×α×α)
 | [x,y,z]=>some (x,y,z)
 | _=>none
def Oc(r:Expr):Option (Str×List Expr×Keyword):=(D9 r).bind λc=>match c.2.2 with
 | [kw]=>(Bx c.1).map λx=>(x,c.2.1,kw)
 | _=>none
theorem IR{r:Expr}{x:Str×List Expr×Keyword}(h:Oc r=some x):∃ p q,r = .Call (.Name x.1 p) x.2.1 [x.2.2] q:=by
 unfold Oc at h;cases hc:D9 r with
 | none=>rw[hc]at h;cases h
 | some c=>
   rw[hc]at h;obtain⟨q,e,_⟩:=DA hc;obtain⟨f,as,ks⟩:=c
   match ks,h with
   | [kw],h=>
     replace h:(Bx f).map (λx=>(x,as,kw))=some x:=h;cases hn:Bx f with
     | none=>rw[hn]at h;cases h
     | some nm=>
       rw[hn]at h;cases h;obtain⟨p,e2⟩:=BD hn;exact⟨p,q,by rw[e,e2]⟩
   | [],h=>cases h
   | _::_::_,h=>cases h
def vFn(r:Expr):Option (Str×List Expr):=(D9 r).bind λc=>if c.2.2.isEmpty then (Bx c.1).map λx=>(x,c.2.1) else none
theorem DB{r:Expr}{x:Str×List Expr}(h:vFn r=some x):∃ p q,r = .Call (.Name x.1 p) x.2 [] q:=by
 unfold vFn at h;cases hc:D9 r with
 | none=>rw[hc]at h;cases h
 | some c=>
   rw[hc]at h;obtain⟨q,e,_⟩:=DA hc;simp only[XI]at h;by_cases hk:c.2.2.isEmpty=true
   ·rw[iP hk]at h;cases hn:Bx c.1 with
    | none=>rw[hn]at h;cases h
    | some y=>
      rw[hn]at h;cases h;obtain⟨p,ep⟩:=BD hn;rw[e,ep,Ve.mp hk];exact⟨p,q,rfl⟩
   ·rw[iG hk]at h;cases h
def vMt(r:Expr):Option (Expr×Str×List Expr):=(D9 r).bind λc=>if c.2.2.isEmpty then (MD c.1).bind λa=>if a.2.2 == Gz r then some (a.1,a.2.1,c.2.1) else none else none
theorem MH{r:Expr}{x:Expr×Str×List Expr}(h:vMt r=some x):∃ ap cp,r = .Call (.Attribute x.1 x.2.1 ap) x.2.2 [] cp/\(ap.endLine == cp.line)=true:=by
 unfold vMt at h;cases hc:D9 r with
 | none=>rw[hc]at h;cases h
 | some c=>
   rw[hc]at h;obtain⟨q,e,el⟩:=DA hc;simp only[XI]at h;by_cases hk:c.2.2.isEmpty=true
   ·rw[iP hk]at h;cases hn:MD c.1 with
    | none=>rw[hn]at h;cases h
    | some y=>
      rw[hn]at h;simp only[XI]at h;obtain⟨p,ep,el2⟩:=MG hn;by_cases hl:(y.2.2 == Gz r)=true
      ·rw[iP hl]at h;cases h;refine⟨p,q,?_,?_⟩
       ·rw[e,ep,Ve.mp hk]
       ·rw[<-el2,<-el];exact hl
      ·rw[iG hl]at h;cases h
   ·rw[iG hk]at h;cases h
mutual
noncomputable def BE(k:Nat)(N:List Str)(sc:Yd):Tg->Expr->Bool
 | .nm i,r=>(Bx r).any λx=>decide (i<k)&&decide (N[i]?=some x)&&loc sc x
 | .tup ts,r=>(Ei r).any λes=>AO k N sc ts es
noncomputable def AO(k:Nat)(N:List Str)(sc:Yd):Tgs->List Expr->Bool
 | .nil,r=>r.isEmpty
 | .cons t ts,r=>(r.head?).any λe=>BE k N sc t e&&e8 e&&AO k N sc ts r.tail
end
def nmB(N:List Str)(sc:Yd)(i:Nat)(x:Str):Bool:=decide (N[i]?=some x)&&vis sc x&&!(x == ("__debug__":Str))&&!(x == ("__classdict__":Str))
mutual
noncomputable def i7(T:List Str)(N:List Str)(sc:Yd):Ex->Expr->Bool
 | .var i,r=>(Bx r).any λx=>nmB N sc i x
 | .c x,r=>(Gy r).any λk=>Rp x k
 | .op o a b,r=>(U2 r).any λv=>decide (o=v.2.1)&&i7 T N sc a v.1&&i7 T N sc b v.2.2
 | .neg a,r=>(vUn r).any λv=>decide (v.1 = .USub)&&i7 T N sc a v.2
 | .cmp o a b,r=>(Ji r).any λv=>(l1 v.2.2).any λrb=>decide (v.2.1=[o])&&i7 T N sc a v.1&&i7 T N sc b rb&&u7 rb
 | .chn o p a b c,r=>(Ji r).any λv=>(l2 v.2.2).any λrs=>decide (v.2.1=[o,p])&&i7 T N sc a v.1&&i7 T N sc b rs.1&&i7 T N sc c rs.2&&u7 rs.2
 | .and a b,r=>(MC r).any λv=>decide (v.1 = .And)&&(v.2.1.head?).any λx=>i7 T N sc a x&&(match l1 v.2.1.tail with | some y=>i7 T N sc b y | none=>decide (2<=v.2.1.tail.length)&&i7 T N sc b (.BoolOp .And v.2.1.tail v.2.2))
 | .or a b,r=>(MC r).any λv=>decide (v.1 = .Or)&&(v.2.1.head?).any λx=>i7 T N sc a x&&(match l1 v.2.1.tail with | some y=>i7 T N sc b y | none=>decide (2<=v.2.1.tail.length)&&i7 T N sc b (.BoolOp .Or v.2.1.tail v.2.2))
 | .not a,r=>(vUn r).any λv=>decide (v.1 = .Not)&&i7 T N sc a v.2
 | .ife t a b,r=>(U3 r).any λv=>i7 T N sc t v.1&&i7 T N sc a v.2.1&&i7 T N sc b v.2.2
 | .tup es,r=>(Ei r).any λrs=>Ap T N sc es rs
 | .lst es,r=>(U4 r).any λrs=>Ap T N sc es rs
 | .ix a b,r=>(Jj r).any λv=>i7 T N sc a v.1&&i7 T N sc b v.2&&AN v.2
 | .slc a lo hi,r=>(Jj r).any λv=>(Rq v.2).any λs=>i7 T N sc a v.1&&MI T N sc lo s.1&&MI T N sc hi s.2.1&&s.2.2.isNone
 | .call f es,r=>(vFn r).any λv=>decide (T[f]?=some v.1)&&glo sc v.1&&Ap T N sc es v.2&&!v.2.isEmpty
 | .bi b es,r=>(vFn r).any λv=>decide (b.name=v.1)&&glo sc v.1&&Ap T N sc es v.2&&!v.2.isEmpty
 | .mt m a es,r=>(vMt r).any λv=>decide (v.2.1=m.name)&&BT v.1&&decide (v.2.2.length<29)&&i7 T N sc a v.1&&Ap T N sc es v.2.2
 | .comp own cn js g it t e,r=>(ME r).any λv=>(l1 v.2.1).any λc=>decide (c.is_async=0)&&y6 sc v.2.2 own cn N js&&BE own.length (own++cn) (FV v.2.2 sc) g c.target&&Od T N sc it c.target c.iter&&u7 c.iter&&FZ T (own++cn) (FV v.2.2 sc) t c.ifs&&i7 T (own++cn) (FV v.2.2 sc) e v.1
 | .tyc t,r=>(Bx r).any λx=>decide (x=Str.ofString t.nm)&&glo sc x&&decide (t ≠ .none)
 | .rev a,r=>(Jj r).any λv=>(Rq v.2).any λs=>s.1.isNone&&s.2.1.isNone&&s.2.2.any λst=>(vUn st).any λu=>decide (u.1 = .USub)&&(Gy u.2).any λc=>decide (c = .int 1)&&i7 T N sc a v.1
 | .max1 a,r=>(vFn r).any λv=>(l1 v.2).any λra=>decide (v.1=("max":Str))&&glo sc v.1&&i7 T N sc a ra&&e8 ra
 | .eqd n a b,r=>(Ji r).any λv=>(l1 v.2.2).any λrb=>decide (v.2.1=[if n then CmpOp.NotEq else CmpOp.Eq])&&i7 T N sc a v.1&&i7 T N sc b rb&&u7 rb
 | .mind a d,r=>(Oc r).any λv=>(l1 v.2.1).any λra=>decide (v.1=("min":Str))&&glo sc v.1&&i7 T N sc a ra&&i7 T N sc d v.2.2.value&&e8 ra&&decide (v.2.2.arg=some ("default":Str))
 | .setd d e v,r=>(vMt r).any λu=>(l2 u.2.2).any λra=>decide (u.2.1=("setdefault":Str))&&BT u.1&&i7 T N sc d u.1&&i7 T N sc e ra.1&&e8 ra.1&&i7 T N sc v ra.2&&e8 ra.2
 | .dnewp,r=>(QD r).any λv=>v.1.isEmpty&&v.2.isEmpty
 | .maxd a d,r=>(Oc r).any λv=>(l1 v.2.1).any λra=>decide (v.1=("max":Str))&&glo sc v.1&&i7 T N sc a ra&&i7 T N sc d v.2.2.value&&e8 ra&&decide (v.2.2.arg=some ("default":Str))
 | .eqt0 a b,r=>(Ji r).any λv=>(l1 v.2.2).any λrb=>decide (v.2.1=[.Eq])&&i7 T N sc a v.1&&i7 T N sc b rb&&u7 rb
 | .eqtl a b,r=>(Ji r).any λv=>(l1 v.2.2).any λrb=>decide (v.2.1=[.Eq])&&i7 T N sc a v.1&&i7 T N sc b rb&&u7 rb
 | .no,_=>true
noncomputable def Ap(T:List Str)(N:List Str)(sc:Yd):Exs->List Expr->Bool
 | .nil,r=>r.isEmpty
 | .cons e es,r=>(r.head?).any λx=>i7 T N sc e x&&e8 x&&Ap T N sc es r.tail
noncomputable def MI(T:List Str)(N:List Str)(sc:Yd):Eo->Option Expr->Bool
 | .no,r=>r.isNone
 | .yes e,r=>r.any λx=>i7 T N sc e x
noncomputable def FZ(T:List Str)(N:List Str)(sc:Yd):Eo->List Expr->Bool
 | .no,r=>r.isEmpty
 | .yes e,r=>(l1 r).any λx=>i7 T N sc e x
noncomputable def Od(T:List Str)(N:List Str)(sc:Yd):Itb->Expr->Expr->Bool
 | .seq e,_,r=>i7 T N sc e r
 | .rng1 a,_,r=>(vFn r).any λv=>(l1 v.2).any λra=>decide (v.1=("range":Str))&&glo sc v.1&&i7 T N sc a ra&&e8 ra
 | .enum e,tg,r=>(Ei tg).isSome&&(vFn r).any λv=>(l1 v.2).any λa=>decide (v.1=("enumerate":Str))&&glo sc v.1&&i7 T N sc e a&&e8 a
end
noncomputable def spS(K:Um)(w:Sn):Sp:=λvs H Q _=>∃ as S xs,Ok K as H S/\RlAll K as H vs xs/\w xs S (Post K as H Q)
structure Cal(P:YT)(w:YX)(K:Um)(mg:Str->Option YK)(base:Heap)(k:Nat)(x:Str)(ps:List Str)(sp:Sp):Prop where
 ex:∃ f fd,FnOk P w K mg base CX0 k f fd ps sp/\mg x=some (.ref f)/\PySem.W.keepIn K (.ref f)=true/\Binds K fd ps []
structure Cok(T:List Str)(Δ:Nat->Sn)(X:Cx)(k:Nat)(N:List Str)(sc:Yd):Prop where
 hN:X.N=N
 hs:X.env.scope=sc
 nd:N.Nodup
 calm:X.calm=true
 fn:∀ i x,i<k->N[i]?=some x->sc.names.lookup x=some .cell->X.fn x=true
 un:X.A.units+102<cLine
 bl:∀ b:BI,X.mg b.name=none
 rng:X.mg "range"=none
 enm:X.mg "enumerate"=none
 rvs:X.mg "reversed"=none
 zip:X.mg "zip"=none
 sm0:X.mg "sum"=none
 st0:X.mg "set"=none
 dc0:X.mg "dict"=none
 ty:∀ t:TyN,t ≠ .none->X.mg (Str.ofString t.nm)=none
 gd:X.A.guards=some []
 call:∀ f x,T[f]?=some x->∃ k ps,Cal X.prog X.w X.K X.mg X.base k x ps (spS X.K (Δ f))/\Room k X.A
 mono:∀ f,MonoN (Δ f)
structure Good(X:Cx)(r:Expr)(w:WE×WT):Prop where
 pe:PE X r (lift X.K w.1)
 pt:PT X r (liftT X.K w.2)
 m:Mono w.1
 mt:MonoT w.2
 pw:∀ op vs p,r = .BoolOp op vs p->PW X r (liftT X.K w.2)
section
variable{X:Cx}{r:Expr}{w:WE}
theorem MonoT.tru(m:Mono w):MonoT (Rk w):=λρ S P P' i h=>m _ _ _ _ (λx S' ⟨b,e,q⟩=>⟨b,e,i _ _ q⟩) h
theorem MonoT.bl(m:Mono w):MonoT (wBl w):=λρ S P P' i h=>m _ _ _ _ (λx S' ⟨b,e,q⟩=>⟨b,e,i _ _ q⟩) h
theorem Rr{K:Um}{as:List YN}{H:Hp}{S:Sto}{x:SV}{v:V}{b:Bool}(ok:Ok K as H S)(r:Rl K as H v x)(e:Lm x S=some b):Ni K v H b:=by
 cases x with
 | bl c=>cases e;rw[rl_bl.mp r];exact rfl
 | tup xs=>
   cases e;obtain⟨p,vs,rfl,hp,rp⟩:=rl_tup.mp r;refine .inr (.inl ⟨vs,SqT.of hp,?_⟩);have:=rp.length;cases vs<;>cases xs<;>first | rfl | (simp at this)
 | loc k=>
   unfold Lm at e;cases hs:S[k]? with
   | none=>simp only[hs]at e;cases e
   | some o=>
     cases o with
     | lst xs=>
       simp only[hs]at e;cases e;obtain⟨a,vs,rfl,_,ha,rr⟩:=j0 ok r hs;refine .inl ⟨vs,SqL.of ha,?_⟩;have:=rr.length;cases vs<;>cases xs<;>first | rfl | (simp at this)
     | iset _=>simp only[hs]at e;cases e
     | dtl _=>simp only[hs]at e;cases e
     | dtf _ _ _=>simp only[hs]at e;cases e
     | dtp _=>simp only[hs]at e;cases e
     | dct _=>simp only[hs]at e;cases e
     | dcf _ _ _=>simp only[hs]at e;cases e
 | _=>cases e
theorem Dj{env:Env}(h:MB r=true):∀ whole,isTrue r env whole=(do let v <- whole;standAt r.pos;holding [v] (truthy v)):=by
 intro whole;cases r<;>first | rfl | (cases h;done) | (rename_i o _ _;cases o<;>first | rfl | cases h)
theorem Oe{K:Um}(m:Mono w):∀ σ H Q,liftT K (Rk w) σ H Q->lift K w σ H λx H'=>∃ k,Ni K x H' k/\Q k H':=by
 rintro σ H Q ⟨as,ρ,S,ok,en,h⟩;exact⟨as,ρ,S,ok,en,m _ _ _ _ (λx S' ⟨b,e,q⟩ as' H' v g ok' r=>⟨b,Rr ok' r e,q as' H' g ok'⟩) h⟩
theorem DC{K:Um}(m:Mono w):∀ σ H Q,liftT K (wBl w) σ H Q->lift K w σ H λx H'=>∃ k,x = .bl k/\Q k H':=by
 rintro σ H Q ⟨as,ρ,S,ok,en,h⟩;exact⟨as,ρ,S,ok,en,m _ _ _ _ (λx S' ⟨b,e,q⟩ as' H' v g ok' r=>⟨b,by subst e;exact rl_bl.mp r,q as' H' g ok'⟩) h⟩
theorem Good.one(hp:PE X r (lift X.K w))(m:Mono w)(h:MB r=true):Good X r (tt1 w) where
 pe:=hp
 pt:=Bj _ (Kk hp (Dj h)) (Oe m)
 m:=m
 mt := .tru m
 pw:=λop vs p e=>by rw[e]at h;cases h
theorem MJ{X:Cx}{r:Expr}:PE X r (lift X.K λ_ _ _=>False):=λ_ _ _ _ _ _ h=>let ⟨_,_,_,_,_,z⟩:=h;z.elim
theorem Fa{X:Cx}{r:Expr}:PT X r (liftT X.K λ_ _ _=>False):=λ_ _ _ _ _ _ h=>let ⟨_,_,_,_,_,z⟩:=h;z.elim
theorem MK{X:Cx}{r:Expr}:PW X r (liftT X.K λ_ _ _=>False):=λ_ _ _ _ _ _ _ h=>let ⟨_,_,_,_,_,z⟩:=h;z.elim
theorem Good.never:Good X r (λ_ _ _=>False,λ_ _ _=>False):=⟨MJ,Fa,λ_ _ _ _ _ h=>h,λ_ _ _ _ _ h=>h,λ_ _ _ _=>MK⟩
end
theorem IS{o:Z4}:Mono2 (sOp o):=by
 unfold sOp;split<;>first | exact .add | exact .int0 | exact .mul | exact .int | exact λ_ _ _ _ _ _ h=>h
theorem AE{o:CmpOp}:Mono2 (Ao o):=by
 unfold Ao;split<;>first | exact .eq | exact .ne | exact .int0 | exact .in' | exact .isN
section
variable{X:Cx}
theorem ML{o:Z4}{ra rb:Expr}{p:Pos}{wa wb:WE}(ha:PE X ra (lift X.K wa))(hb:PE X rb (lift X.K wb))(ma:Mono wa)(mb:Mono wb):PE X (.BinOp ra o rb p) (lift X.K (w2 (sOp o) wa wb)):=by
 have go:∀{s:S2} {rr:R2},Mono2 s->OpR X (Ys o) rr->B0 X.K s rr->PE X (.BinOp ra o rb p) (lift X.K (w2 s wa wb)):=λms ho sim=>g9 _ (T6 ho ha hb) (A7 sim ms ma mb);have no:PE X (.BinOp ra o rb p) (lift X.K (w2 (λ_ _ _ _=>False) wa wb)):=go (λ_ _ _ _ _ _ h=>h) (rr:=λ_ _ _ _=>False) (λ_ _ _ _ _ _ _ _ _ _ _ _ h=>h.elim) (λ_ _ _ _ _ _ _ _ _ _ _ h=>h);cases o with
 | Add=>exact go .add OI OJ
 | Sub=>exact go .int0 Qx (BB λ_ _ _ _=>rl_int.mpr rfl)
 | Mult=>exact go .mul (op_mul.or RC) OK
 | FloorDiv=>exact go .int Nh (EZ λ_ _ _ _=>rl_int.mpr rfl)
 | Mod=>exact go .int Qy (EZ λ_ _ _ _=>rl_int.mpr rfl)
 | Pow=>exact go .int Qz (EZ λ_ _ _ _=>rl_int.mpr rfl)
 | _=>exact no
theorem DD(o:CmpOp)(hu:X.A.units<cLine):∃ rr:R2,OpR X (Yb o) rr/\B0 X.K (Ao o) rr:=by
 cases o with
 | Eq=>exact⟨_,op_eq.or ((RG hu).or (OG hu)),Ra⟩
 | NotEq=>exact⟨_,op_ne.or (RH hu),Rb⟩
 | Lt=>exact⟨_,TB,BB λ_ _ _ _=>rl_bl.mpr rfl⟩
 | LtE=>exact⟨_,TC,BB λ_ _ _ _=>rl_bl.mpr rfl⟩
 | Gt=>exact⟨_,TD,BB λ_ _ _ _=>rl_bl.mpr rfl⟩
 | GtE=>exact⟨_,TF,BB λ_ _ _ _=>rl_bl.mpr rfl⟩
 | Is=>exact⟨_,R1,OM⟩
 | IsNot=>exact⟨_,op_notN.or JV,Lf⟩
 | In=>exact⟨_,Re,Ld⟩
 | NotIn=>exact⟨_,Ja,Ld⟩
theorem w5{o:CmpOp}{r:Expr}(h:u7 r=true):Zo o r=false:=by
 cases r<;>first | rfl | cases h
theorem Jk{o:CmpOp}{ra rb:Expr}{p:Pos}{wa wb:WE}(hu:X.A.units<cLine)(ha:PE X ra (lift X.K wa))(hb:PE X rb (lift X.K wb))(ma:Mono wa)(mb:Mono wb)(hn:u7 rb=true):Good X (.Compare ra [o] [rb] p) (tt2 (w2 (Ao o) wa wb)):=by
 obtain⟨rr,ho,sim⟩:=DD (X:=X) o hu;have m:Mono (w2 (Ao o) wa wb) := .two AE ma mb
 exact{pe:=g9 _ (Ce ho ha hb (w5 hn)) (A7 sim AE ma mb)
       pt:=Bj _ (Cf ho ha hb (w5 hn)) λσ H Q h=>A7 sim AE ma mb σ H _ (DC m σ H Q h)
       m:=m
       mt := .bl m
       pw:=λ_ _ _ e=>by cases e}
theorem Fb{o p:CmpOp}{a b c:WE}(ma:Mono a)(mb:Mono b)(mc:Mono c):Mono (Lo (Ao o) (Ao p) a b c):=λρ S P P' i h=>ma _ _ _ _ (λx S1 h=>mb _ _ _ _ (λy S2 h=>AE _ _ _ _ _ (λz S3 ⟨k,e,q⟩=>⟨k,e,by
 cases k with
 | true=>rw[iP rfl]at q ⊢;exact mc _ _ _ _ (λu S4 h=>AE _ _ _ _ _ i h) q
 | false=>rw[iG V0]at q ⊢;exact i _ _ q⟩) h) h) h
theorem IT{K:Um}{o p:CmpOp}{r r':R2}{a b c:WE}(s1:B0 K (Ao o) r)(s2:B0 K (Ao p) r')(ma:Mono a)(mb:Mono b)(mc:Mono c):∀ σ H Q,lift K (Lo (Ao o) (Ao p) a b c) σ H Q->GQ r r' (lift K a) (lift K b) (lift K c) σ H Q:=by
 rintro σ H Q ⟨as,ρ,S,ok,en,h⟩;refine⟨as,ρ,S,ok,en,ma _ _ _ _ (λx S1 h as1 H1 v g1 ok1 rv=>?_) h⟩;refine⟨as1,ρ,S1,ok1,en.mono g1.pre (g1.ku ok),mb _ _ _ _ (λy S2 h as2 H2 u g2 ok2 ru=>?_) h⟩;refine s1 as2 H2 S2 x y v u _ ok2 (Rl.mono g2.pre (g2.ku ok1) x v rv) ru (AE _ _ _ _ _ (λz S3 ⟨k,e,q⟩ as3 H3 t g3 ok3 rt=>?_) h);subst e;refine⟨k,rl_bl.mp rt,?_⟩;cases k with
 | true=>
   rw[iP rfl]at q ⊢;refine⟨as3,ρ,S3,ok3,(en.mono g1.pre (g1.ku ok)).mono (g2.trans g3).pre ((g2.trans g3).ku ok1),mc _ _ _ _ (λn S4 h as4 H4 m g4 ok4 rm=>?_) q⟩;exact s2 as4 H4 S4 y n u m Q ok4 (Rl.mono (g3.trans g4).pre ((g3.trans g4).ku ok2) y u ru) rm (AE _ _ _ _ _ (λf S5 hf=>hf.mono (((g1.trans g2).trans g3).trans g4)) h)
 | false=>
   rw[iG V0]at q ⊢;exact q as3 H3 _ ((g1.trans g2).trans g3) ok3 (rl_bl.mpr rfl)
theorem Jl{o q:CmpOp}{ra rb rc:Expr}{p:Pos}{wa wb wc:WE}(hu:X.A.units<cLine)(ha:PE X ra (lift X.K wa))(hb:PE X rb (lift X.K wb))(hc:PE X rc (lift X.K wc))(ma:Mono wa)(mb:Mono wb)(mc:Mono wc)(hn:u7 rc=true):Good X (.Compare ra [o,q] [rb,rc] p) (tt2 (Lo (Ao o) (Ao q) wa wb wc)):=by
 obtain⟨r1,ho,sim⟩:=DD (X:=X) o hu;obtain⟨r2,hq,sim2⟩:=DD (X:=X) q hu;have m:Mono (Lo (Ao o) (Ao q) wa wb wc):=Fb ma mb mc;have hm:A0k [o,q] [rb,rc]=false:=w5 hn
 exact{pe:=g9 _ (Ki ho hq ha hb hc hm) (IT sim sim2 ma mb mc)
       pt:=Bj _ (Kj ho hq ha hb hc hm) λσ H Q h=>IT sim sim2 ma mb mc σ H _ (DC m σ H Q h)
       m:=m
       mt := .bl m
       pw:=λ_ _ _ e=>by cases e}
end
section
variable{K:Um}
theorem l0{c:Bool}{A B A' B':Prop}(ha:A->A')(hb:B->B')(h:if c=true then A else B):if c=true then A' else B':=by
 cases c with
 | true=>rw[iP rfl]at h ⊢;exact ha h
 | false=>rw[iG V0]at h ⊢;exact hb h
theorem Mono.and{a b:WE}(ma:Mono a)(mb:Mono b):Mono (Ln a b):=λρ S P P' i h=>ma _ _ _ _ (λx S1 ⟨c,e,q⟩=>⟨c,e,l0 (mb _ _ _ _ i) (i _ _) q⟩) h
theorem Mono.or{a b:WE}(ma:Mono a)(mb:Mono b):Mono (wOr a b):=λρ S P P' i h=>ma _ _ _ _ (λx S1 ⟨c,e,q⟩=>⟨c,e,l0 (i _ _) (mb _ _ _ _ i) q⟩) h
theorem Mono.not{a:WE}(ma:Mono a):Mono (OV a):=λρ S P P' i h=>ma _ _ _ _ (λx S1 ⟨c,e,q⟩=>⟨c,e,i _ _ q⟩) h
theorem MonoT.and{a b:WT}(ma:MonoT a)(mb:MonoT b):MonoT (D8 a b):=λρ S P P' i h=>ma _ _ _ _ (λx S1 q=>l0 (mb _ _ _ _ i) (i _ _) q) h
theorem MonoT.or{a b:WT}(ma:MonoT a)(mb:MonoT b):MonoT (Gv a b):=λρ S P P' i h=>ma _ _ _ _ (λx S1 q=>l0 (i _ _) (mb _ _ _ _ i) q) h
theorem MonoT.not{a:WT}(ma:MonoT a):MonoT (IO a):=λρ S P P' i h=>ma _ _ _ _ (λx S1 q=>i _ _ q) h
theorem Mono.ifE{t:WT}{a b:WE}(mt:MonoT t)(ma:Mono a)(mb:Mono b):Mono (OW t a b):=λρ S P P' i h=>mt _ _ _ _ (λx S1 q=>l0 (ma _ _ _ _ i) (mb _ _ _ _ i) q) h
theorem Post.at{as as1:List YN}{H H1:Hp}{Q:VK}{x:SV}{S:Sto}{v:V}(h:Post K as H Q x S)(g:Go as H as1 H1)(ok:Ok K as1 H1 S)(r:Rl K as1 H1 v x):Q v H1:=h as1 H1 v g ok r
theorem IU{a b:WE}(ma:Mono a)(mb:Mono b):∀ σ H Q,lift K (Ln a b) σ H Q->Pl (lift K a) (lift K b) σ H Q:=by
 rintro σ H Q ⟨as,ρ,S,ok,en,h⟩;refine⟨as,ρ,S,ok,en,ma _ _ _ _ (λx S1 ⟨c,e,q⟩ as1 H1 v g1 ok1 rv=>?_) h⟩;subst e;refine⟨c,rl_bl.mp rv,l0 (λq=>?_) (λq=>q.at g1 ok1 (rl_bl.mpr rfl)) q⟩;exact⟨as1,ρ,S1,ok1,en.mono g1.pre (g1.ku ok),mb _ _ _ _ (λy S2 h=>h.mono g1) q⟩
theorem MM{a b:WE}(ma:Mono a)(mb:Mono b):∀ σ H Q,lift K (wOr a b) σ H Q->Sj (lift K a) (lift K b) σ H Q:=by
 rintro σ H Q ⟨as,ρ,S,ok,en,h⟩;refine⟨as,ρ,S,ok,en,ma _ _ _ _ (λx S1 ⟨c,e,q⟩ as1 H1 v g1 ok1 rv=>?_) h⟩;subst e;refine⟨c,rl_bl.mp rv,l0 (λq=>q.at g1 ok1 (rl_bl.mpr rfl)) (λq=>?_) q⟩;exact⟨as1,ρ,S1,ok1,en.mono g1.pre (g1.ku ok),mb _ _ _ _ (λy S2 h=>h.mono g1) q⟩
theorem Of{a:WE}(ma:Mono a):∀ σ H Q,lift K (OV a) σ H Q->Pm (lift K a) σ H Q:=by
 rintro σ H Q ⟨as,ρ,S,ok,en,h⟩;refine⟨as,ρ,S,ok,en,ma _ _ _ _ (λx S1 ⟨c,e,q⟩ as1 H1 v g1 ok1 rv=>?_) h⟩;subst e;exact⟨c,rl_bl.mp rv,q.at g1 ok1 (rl_bl.mpr rfl)⟩
theorem PostT.mono{as as1:List YN}{H H1:Hp}{Q:Bool->Hp->Prop}{x:Bool}{S:Sto}(h:PostT K as H Q x S)(g:Go as H as1 H1):PostT K as1 H1 Q x S:=λas' H' g'=>h as' H' (g.trans g')
theorem Fc{a b:WT}(ma:MonoT a)(mb:MonoT b):∀ σ H Q,liftT K (D8 a b) σ H Q->Sh (liftT K a) (liftT K b) σ H Q:=by
 rintro σ H Q ⟨as,ρ,S,ok,en,h⟩;refine⟨as,ρ,S,ok,en,ma _ _ _ _ (λc S1 q as1 H1 g1 ok1=>?_) h⟩;refine l0 (λq=>?_) (λq=>q as1 H1 g1 ok1) q;exact⟨as1,ρ,S1,ok1,en.mono g1.pre (g1.ku ok),mb _ _ _ _ (λy S2 h=>h.mono g1) q⟩
theorem IV{a b:WT}(ma:MonoT a)(mb:MonoT b):∀ σ H Q,liftT K (Gv a b) σ H Q->tOr (liftT K a) (liftT K b) σ H Q:=by
 rintro σ H Q ⟨as,ρ,S,ok,en,h⟩;refine⟨as,ρ,S,ok,en,ma _ _ _ _ (λc S1 q as1 H1 g1 ok1=>?_) h⟩;refine l0 (λq=>q as1 H1 g1 ok1) (λq=>?_) q;exact⟨as1,ρ,S1,ok1,en.mono g1.pre (g1.ku ok),mb _ _ _ _ (λy S2 h=>h.mono g1) q⟩
theorem MN{a:WT}(ma:MonoT a):∀ σ H Q,liftT K (IO a) σ H Q->Si (liftT K a) σ H Q:=by
 rintro σ H Q ⟨as,ρ,S,ok,en,h⟩;exact⟨as,ρ,S,ok,en,ma _ _ _ _ (λc S1 q as1 H1 g1 ok1=>q as1 H1 g1 ok1) h⟩
theorem Og{t:WT}{a b:WE}(mt:MonoT t)(ma:Mono a)(mb:Mono b):∀ σ H Q,lift K (OW t a b) σ H Q->tIf (liftT K t) (lift K a) (lift K b) σ H Q:=by
 rintro σ H Q ⟨as,ρ,S,ok,en,h⟩;refine⟨as,ρ,S,ok,en,mt _ _ _ _ (λc S1 q as1 H1 g1 ok1=>?_) h⟩;refine l0 (λq=>?_) (λq=>?_) q
 ·exact⟨as1,ρ,S1,ok1,en.mono g1.pre (g1.ku ok),ma _ _ _ _ (λy S2 h=>h.mono g1) q⟩
 ·exact⟨as1,ρ,S1,ok1,en.mono g1.pre (g1.ku ok),mb _ _ _ _ (λy S2 h=>h.mono g1) q⟩
end
section
variable{X:Cx}
theorem Ej{e:Expr}{t:TT}(t':TT)(h:PW X e t)(imp:∀ σ H Q,t' σ H Q->t σ H Q):PW X e t':=λwh pq s σ H Q I hw=>h wh pq s σ H Q I (imp σ H Q hw)
theorem HB{x y:Expr}{p:Pos}{a b:WE×WT}(ha:Good X x a)(hb:Good X y b):Good X (.BoolOp .And [x,y] p) (Ln a.1 b.1,D8 a.2 b.2):=
 have pw:PW X (.BoolOp .And [x,y] p) (liftT X.K (D8 a.2 b.2)):=Ej _ (KR ha.pt (NZ hb.pt)) (Fc ha.mt hb.mt)
 {pe:=g9 _ (KU ha.pe (KS hb.pe)) (IU ha.m hb.m),pt:=pw.pt,m := .and ha.m hb.m,mt := .and ha.mt hb.mt,pw:=λ_ _ _ _=>pw}
theorem HC{x y z:Expr}{zs:List Expr}{p:Pos}{a b:WE×WT}(ha:Good X x a)(hb:Good X (.BoolOp .And (y::z::zs) p) b):Good X (.BoolOp .And (x::y::z::zs) p) (Ln a.1 b.1,D8 a.2 b.2):=
 have pw:PW X (.BoolOp .And (x::y::z::zs) p) (liftT X.K (D8 a.2 b.2)):=Ej _ (KR ha.pt (hb.pw _ _ _ rfl)) (Fc ha.mt hb.mt)
 {pe:=g9 _ (KU ha.pe hb.pe) (IU ha.m hb.m),pt:=pw.pt,m := .and ha.m hb.m,mt := .and ha.mt hb.mt,pw:=λ_ _ _ _=>pw}
theorem Jm{x y:Expr}{p:Pos}{a b:WE×WT}(ha:Good X x a)(hb:Good X y b):Good X (.BoolOp .Or [x,y] p) (wOr a.1 b.1,Gv a.2 b.2):=
 have pw:PW X (.BoolOp .Or [x,y] p) (liftT X.K (Gv a.2 b.2)):=Ej _ (Pk ha.pt (Ql hb.pt)) (IV ha.mt hb.mt)
 {pe:=g9 _ (Pn ha.pe (KS hb.pe)) (MM ha.m hb.m),pt:=pw.pt,m := .or ha.m hb.m,mt := .or ha.mt hb.mt,pw:=λ_ _ _ _=>pw}
theorem Jn{x y z:Expr}{zs:List Expr}{p:Pos}{a b:WE×WT}(ha:Good X x a)(hb:Good X (.BoolOp .Or (y::z::zs) p) b):Good X (.BoolOp .Or (x::y::z::zs) p) (wOr a.1 b.1,Gv a.2 b.2):=
 have pw:PW X (.BoolOp .Or (x::y::z::zs) p) (liftT X.K (Gv a.2 b.2)):=Ej _ (Pk ha.pt (hb.pw _ _ _ rfl)) (IV ha.mt hb.mt)
 {pe:=g9 _ (Pn ha.pe hb.pe) (MM ha.m hb.m),pt:=pw.pt,m := .or ha.m hb.m,mt := .or ha.mt hb.mt,pw:=λ_ _ _ _=>pw}
theorem Jo{x:Expr}{p:Pos}{a:WE×WT}(ha:Good X x a):Good X (.UnaryOp .Not x p) (OV a.1,IO a.2) where
 pe:=g9 _ (Qn ha.pe) (Of ha.m)
 pt:=Bj _ (Qm ha.pt) (MN ha.mt)
 m := .not ha.m
 mt := .not ha.mt
 pw:=λ_ _ _ e=>by cases e
theorem Jp{t x y:Expr}{p:Pos}{c a b:WE×WT}(hc:Good X t c)(ha:Good X x a)(hb:Good X y b):Good X (.IfExp t x y p) (OW c.2 a.1 b.1,λ_ _ _=>False) where
 pe:=g9 _ (KW hc.pt ha.pe hb.pe) (Og hc.mt ha.m hb.m)
 pt:=Fa
 m := .ifE hc.mt ha.m hb.m
 mt:=λ_ _ _ _ _ h=>h
 pw:=λ_ _ _ e=>by cases e
theorem Rt{i:Nat}{x:Str}{p:Pos}{N:List Str}{sc:Yd}{T:List Str}{Δ:Nat->Sn}{k:Nat}(C:Cok T Δ X k N sc)(hi:N[i]?=some x)(hv:vis sc x=true)(h1:(x == ("__debug__":Str))=false)(h2:(x == ("__classdict__":Str))=false):PE X (.Name x p) (NW i):=by
 have hv':Vis X.env.scope x:=by
  rw[C.hs];unfold vis at hv;simp only[Va,beq_iff_eq]at hv;rcases hv with(hv | hv) | hv
  ·exact .inl hv
  ·exact .inr (.inl hv)
  ·exact .inr (.inr hv)
 exact Qi (i:=i) (by rw[C.hN];exact hi) hv' h1 h2
theorem Oh{x:SV}{k:Const}{j:Nat}{p:Pos}(h:Rp x k=true):Good X (.Constant k j p) (tt1 (wC x)):=by
 refine .one ?_ .c rfl;unfold Rp at h;split at h
 ·exact g9 _ Qj (FL λ_ _=>rl_non.mpr rfl)
 ·rw[beq_iff_eq]at h;subst h;exact g9 _ Sf (FL λ_ _=>rl_bl.mpr rfl)
 ·have h:=of_decide_eq_true h;subst h;exact g9 _ KQ (FL λ_ _=>rl_int.mpr rfl)
 ·have h:=of_decide_eq_true h;subst h;exact g9 _ Qk (FL λ_ _=>rl_str.mpr rfl)
 ·cases h
theorem DE:E2 Ll:=λx S P P' i h=>by
 unfold Ll at h ⊢;split at h
 ·exact i _ _ h
 ·exact h.elim
theorem Jq{x:Expr}{p:Pos}{a:WE×WT}(ha:Good X x a):Good X (.UnaryOp .USub x p) (tt1 (w1 Ll a.1)):=by
 refine .one (g9 _ (Pp Kg ha.pe) (RU (λas H S x v Q ok r h=>?_) DE ha.m)) (.one DE ha.m) rfl;unfold Ll at h;split at h
 ·exact⟨_,rl_int.mp r,h.here ok (rl_int.mpr rfl)⟩
 ·exact h.elim
theorem HD{b:Expr}(h:AN b=true):Hx b:=λo i=>by cases b<;>first | rfl | cases h
theorem MO{x y:Expr}{p:Pos}{a b:WE×WT}(ha:Good X x a)(hb:Good X y b)(h:AN y=true):Good X (.Subscript x y p) (tt1 (w2 sIx a.1 b.1)):=
 .one (g9 _ (TN (ix_list.or R9) ha.pe hb.pe (HD h)) (A7 Rg .ix ha.m hb.m)) (.two .ix ha.m hb.m) rfl
def U5(K:Um)(as:List YN)(H:Hp)(Q:Option Int->Hp->Prop):Option Int->Sto->Prop:=λb S'=>∀ as' H',Go as H as' H'->Ok K as' H' S'->Q b H'
noncomputable def Fd(K:Um)(w:WO):St->Hp->(Option Int->Hp->Prop)->Prop:=λσ H Q=>∃ as ρ S,Ok K as H S/\EnvOk K as H σ ρ/\w ρ S (U5 K as H Q)
def MonoO(w:WO):Prop:=∀ ρ S (P P':Option Int->Sto->Prop),(∀ x S',P x S'->P' x S')->w ρ S P->w ρ S P'
theorem MonoO.no:MonoO Rm:=λ_ _ _ _ i h=>i _ _ h
theorem MonoO.yes{w:WE}(m:Mono w):MonoO (Lp w):=λ_ _ _ _ i h=>m _ _ _ _ (λx S1 ⟨k,e,q⟩=>⟨k,e,i _ _ q⟩) h
theorem U6:PO X none (Fd X.K Rm):=λpq s σ H Q I ⟨as,ρ,S,ok,en,h⟩=>Nl pq s σ H Q I (h as H (Go.refl _ _) ok)
theorem Rv{x:Expr}{a:WE×WT}(ha:Good X x a):PO X (some x) (Fd X.K (Lp a.1)):=λpq s σ H Q I ⟨as,ρ,S,ok,en,h⟩=>
 Hu ha.pe pq s σ H Q I ⟨as,ρ,S,ok,en,ha.m _ _ _ _ (λy S1 ⟨k,e,q⟩ as1 H1 v g1 ok1 rv=>⟨k,by subst e;exact rl_int.mp rv,q as1 H1 g1 ok1⟩) h⟩
theorem RlAll.cut{K:Um}{as:List YN}{H:Hp}{xs:List SV}{vs:List V}(h:RlAll K as H vs xs)(lo hi:Option Int):RlAll K as H (FB vs lo hi) (Cc xs lo hi):=by
 unfold FB Cc;rw[h.length];exact(h.drop _).take _
theorem DF{x:SV}{lo hi:Option Int}{S:Sto}{P P':QE}(i:∀ x S',P x S'->P' x S')(h:Lq x lo hi S P):Lq x lo hi S P':=by
 unfold Lq at h ⊢;split at h
 ·obtain⟨xs,a,b⟩:=h;exact⟨xs,a,i _ _ b⟩
 ·exact i _ _ h
 ·exact h.elim
theorem Oi{K:Um}{as:List YN}{H:Hp}{S:Sto}{Q:VK}{x:SV}{v:V}{l k:Option Int}(ok:Ok K as H S)(r:Rl K as H v x)(h:Lq x l k S (Post K as H Q)):TU K v l k H Q\/TM K v l k H Q\/Tl K v l k H Q:=by
 cases x with
 | loc j=>
   obtain⟨xs,h1,h2⟩:=h;obtain⟨b,vs,rfl,_,hb,rr⟩:=j0 ok r h1;exact .inl ⟨b,vs,rfl,SqL.of hb,AM ok (rr.cut l k) h2⟩
 | tup xs=>
   obtain⟨b,vs,rfl,hb,rr⟩:=rl_tup.mp r;by_cases hw:HT.sIx vs.length 0 l=0/\HT.sIx vs.length vs.length k=vs.length
   ·refine .inr (.inr ⟨b,vs,rfl,SqT.of hb,hw,?_⟩)
    have e:Cc xs l k=xs:=by
     unfold Cc;rw[<-rr.length,hw.1,hw.2,rr.length];simp
    have h':Post K as H Q (.tup (Cc xs l k)) S:=h;rw[e]at h';exact h'.here ok r
   ·exact .inr (.inl ⟨b,vs,rfl,SqT.of hb,hw,BA ok (rr.cut l k) h⟩)
 | _=>exact False.elim h
theorem Jr{x:Expr}{rl rh:Option Expr}{p p2:Pos}{a:WE×WT}{lo hi:WO}(ha:Good X x a)(hl:PO X rl (Fd X.K lo))(hh:PO X rh (Fd X.K hi))(ml:MonoO lo)(mh:MonoO hi):Good X (.Subscript x (.Slice rl rh none p2) p) (tt1 (Rn a.1 lo hi)):=by
 refine .one (g9 _ (Kp (sl_list.or (sl_tup.or O9)) ha.pe hl hh) ?_) (λρ S P P' i h=>ha.m _ _ _ _ (λx S1 h=>ml _ _ _ _ (λl S2 h=>mh _ _ _ _ (λk S3 h=>DF i h) h) h) h) rfl;rintro σ H Q ⟨as,ρ,S,ok,en,h⟩;refine⟨as,ρ,S,ok,en,ha.m _ _ _ _ (λx S1 h as1 H1 v g1 ok1 rv=>?_) h⟩;refine⟨as1,ρ,S1,ok1,en.mono g1.pre (g1.ku ok),ml _ _ _ _ (λl S2 h as2 H2 g2 ok2=>?_) h⟩;refine⟨as2,ρ,S2,ok2,(en.mono g1.pre (g1.ku ok)).mono g2.pre (g2.ku ok1),mh _ _ _ _ (λk S3 h as3 H3 g3 ok3=>?_) h⟩;have rv3:=Rl.mono (g2.trans g3).pre ((g2.trans g3).ku ok1) x v rv;have g:=(g1.trans g2).trans g3;exact Oi ok3 rv3 (DF (λ_ _ h=>h.mono g) h)
end
end Rf
namespace L2
open PySem PySem.Spec PyProof.Rows
section
variable{prog:YT}{w:YX}{A:YZ}{R:Result->YM->Prop}{I:YN}{fp wr:List YN}{G:Array A09->Array A09->Prop}{n:Nat}{P:Nat->YK->Prop}{St:Nat->YM->Prop}
noncomputable def TupsAt(prog:YT)(w:YX)(h:Heap)(n:Nat)(ta:Nat->YN)(kv:Nat->Key×YK):Prop:=∀ i,i<n->∃ key,(p7 prog w).is (kv i).1 key=true/\h.IsTuple (ta i) #[key,(kv i).2]
theorem TupsAt.keep{h h':Heap}{ta:Nat->YN}{kv:Nat->Key×YK}(t:TupsAt prog w h n ta kv)(k:∀ i o,i<n->h.get? (ta i)=some o->h'.get? (ta i)=some o):TupsAt prog w h' n ta kv:=λi hi=>by
 obtain⟨key,hk,o,ho,r⟩:=t i hi;exact⟨key,hk,o,k i o hi ho,r⟩
end
section
variable{X:Cx}
def LiI(H:Hp)(ts:List YN)(xss:List (List Int)):Prop:=ts.length=xss.length/\∀(i:Nat) t xs,ts[i]?=some t->xss[i]?=some xs->H t=some (.lst (xs.map V.int))
theorem Oj{A:YZ}{pq:List (YN×Obj)}{σ:St}{H:Hp}{s:YM}(I:Inv X pq σ H s){p q:YN}{xs:List Int}(hu:A.units<cLine)(hp:H p=some (.lst (xs.map V.int)))(hq:H q=some (.lst (xs.map V.int))):SeqAt.EqAt A s (.ref p) (.ref q) true:=by
 by_cases hne:p=q
 ·rw[hne];exact SeqAt.EqAt.same _
 ·obtain⟨i1,q1,l1,_⟩:=I.list (SqL.of hp);obtain⟨i2,q2,l2,_⟩:=I.list (SqL.of hq);have n1:=q1.length;have n2:=q2.length;have fl:(xs.map V.int).all r6=true:=by rw[XQ,VC];intro _ _;rfl
  refine SeqAt.EqAt.of_refs hne ?_;have:=SeqAt.RcAt.lists (A:=A) (s:=s) (e:=λk=>eqV ((xs.map V.int).getD k .non) ((xs.map V.int).getD k .non)) l1.isList l2.isList (by simp;omega) hu (Au q1 q2 (.inl ⟨fl,fl⟩))
  have e2:((Uy i1.toArray.size).all λk=>eqV ((xs.map V.int).getD k .non) ((xs.map V.int).getD k .non))=true:=by
   rw[VC];intro k hk;have hk':k<(xs.map V.int).length:=by have:=VG.mp hk;simp at this;omega
   have hk2:k<xs.length:=by rwa [Ur]at hk'
   have g:(xs.map V.int).getD k .non=V.int xs[k]:=by simp[Vs,hk2]
   rw[g];simp[eqV]
  rw[e2]at this;exact this
theorem IW(hu:X.A.units+1<cLine):OpR X (Yb .Eq) (λx y H Q=>∃(a b:YN) (ts us:List YN) (xss:List (List Int)),x = .ref a/\y = .ref b/\SqT X.K H a (ts.map V.ref)/\SqT X.K H b (us.map V.ref)/\LiI H ts xss/\LiI H us xss/\Q (.bl true) H):=by
 intro pq s σ H x y v u Q I rx ry h;obtain⟨a,b,ts,us,f,rfl,rfl,h1,h2,⟨l1,f1⟩,⟨l2,f2⟩,q⟩:=h;cases rx;cases ry;obtain⟨its1,r1,p1,_⟩:=I.tuple h1;obtain⟨its2,r2,p2,_⟩:=I.tuple h2;have m1:=r1.length;have m2:=r2.length;rw[Ur]at m1 m2;refine(SeqAt.RcAt.tuples (A:=X.A) (s:=s) (e:=λ_=>true) p1 p2 (by omega) (λj h1 h2=>?_)) _ _ _ _ ?_
 ·simp only[Uu]at h1 h2;have g1:(ts.map V.ref)[j]?=some (V.ref (ts[j]'(by omega))):=by simp
  have g2:(us.map V.ref)[j]?=some (V.ref (us[j]'(by omega))):=by simp
  obtain⟨u,hu1,ru⟩:=r1.get g1;obtain⟨u',hu1',ru'⟩:=r2.get g2;cases ru;cases ru';have z1:its1.toArray[j] = .ref (ts[j]'(by omega)):=by obtain⟨_,q⟩:=gM hu1;simpa using q
  have z2:its2.toArray[j] = .ref (us[j]'(by omega)):=by obtain⟨_,q⟩:=gM hu1';simpa using q
  rw[z1,z2];exact Oj I (by show X.A.units+1<cLine;exact hu) (f1 j _ (f[j]'(by omega)) (by simp) (by simp)) (f2 j _ (f[j]'(by omega)) (by simp) (by simp))
 ·refine⟨.bl _,H,I,rfl,?_⟩
  have:((Uy (min its1.toArray.size its2.toArray.size)).all (λ_=>true)&&its1.toArray.size == its2.toArray.size)=true:=by
   simp only[Uu,<-m1,<-m2,l1,l2];simp
  rw[this];exact q
end
def Kpt(hb h:Heap):Prop:=∀ b o,hb.get? b=some o->h.get? b=some o
structure Sk(hb h:Heap)(a k:YN)(ks xs:Array YK)(e:Nat):Prop where
 a0:hb.get? a=none
 k0:hb.get? k=none
 ne:k≠a
 kp:Kpt hb h
 kk:∃ n,h.get? k=some (seqObj "list" ks n)
 aa:h.get? a=some (seqObj "list" xs e)
theorem Sk.grow{hb h h':Heap}{a k:YN}{ks xs:Array YK}{e:Nat}(S:Sk hb h a k ks xs e)(K:Kpt h h'):Sk hb h' a k ks xs e:=
 ⟨S.a0,S.k0,S.ne,λb o q=>K _ _ (S.kp b o q),S.kk.elim λn q=>⟨n,K _ _ q⟩,K _ _ S.aa⟩
section
variable{prog:YT}{w:YX}{A:YZ}{E:YK->YM->Prop}{s:YM}{vs:List YK}
abbrev Two(h:Heap)(vs:List YK):Heap:=((h.push (seqObj "list" #[] 0)).update h.objs.size (Obj.mapSeq λz=>z++vs.toArray)).push (seqObj "list" vs.toArray 0)
end
theorem KV.at{κ:Type}{ks:List (κ×V)}{vs:List (κ×YK)}(r:KV ks vs):∀{i:Nat} {p:κ×V},ks[i]?=some p->∃ v,vs[i]?=some (p.1,v)/\RelV p.2 v:=by
 intro i
 induction r generalizing i with
 | nil=>exact λh=>by simp at h
 | @cons a b _ _ h _ ih=>
   intro p hp;cases i with
   | zero=>cases hp;exact⟨b.2,by rw[h.1];rfl,h.2⟩
   | succ i=>exact ih hp
open PySem.MeetsSeq PySem.MeetsSeq2 PySem.MeetsSeq3
noncomputable def EqH(K:Um)(H:Hp):Nat->V->V->Prop
 | 0,x,y=>r6 x=true/\x=y
 | k+1,x,y=>EqH K H k x y\/(∃ a b xs ys,x = .ref a/\y = .ref b/\((SqL K H a xs/\SqL K H b ys)\/(SqT K H a xs/\SqT K H b ys))/\xs.length=ys.length/\∀(i:Nat) u v,xs[i]?=some u->ys[i]?=some v->EqH K H k u v)
section
variable{X:Cx}
theorem MP{x:V}(f:r6 x=true):eqV x x=true:=by
 cases x<;>first | (cases f;done) | simp[eqV]
theorem Js{A:YZ}{s:YM}{x:V}{v u:YK}(f:r6 x=true)(a:RelV x v)(b:RelV x u):SeqAt.EqAt A s v u true:=by
 have h:[x].all r6=true:=by simp[f]
 have:=Au (A:=A) (s:=s) (xs:=[x]) (ys:=[x]) (.cons a .nil) (.cons b .nil) (.inl ⟨h,h⟩) 0 (Y0) (Y0);rw[show eqV ([x].getD 0 .non) ([x].getD 0 .non)=true from MP f]at this;exact this
theorem CJ{A:YZ}{s:YM}{pq:List (YN×Obj)}{σ:St}{H:Hp}{k:Nat}(ih:∀{x y:V} {v u:YK},EqH X.K H k x y->RelV x v->RelV y u->SeqAt.EqAt A s v u true){xs ys:List V}{i1 i2:List YK}(r1:Vals xs i1)(r2:Vals ys i2)(it:∀(i:Nat) u v,xs[i]?=some u->ys[i]?=some v->EqH X.K H k u v)(j:Nat)(h1:j<i1.toArray.size)(h2:j<i2.toArray.size):SeqAt.EqAt A s i1.toArray[j] i2.toArray[j] true:=by
 have l1:=r1.length;have l2:=r2.length;simp only[Uu]at h1 h2;have g1:xs[j]?=some (xs[j]'(by omega)):=by simp
 have g2:ys[j]?=some (ys[j]'(by omega)):=by simp
 obtain⟨u,hu,ru⟩:=r1.get g1;obtain⟨w,hw,rw'⟩:=r2.get g2;have z1:i1.toArray[j]=u:=by obtain⟨_,q⟩:=gM hu;simpa using q
 have z2:i2.toArray[j]=w:=by obtain⟨_,q⟩:=gM hw;simpa using q
 rw[z1,z2];exact ih (it j _ _ g1 g2) ru rw'
theorem Ek{pq:List (YN×Obj)}{σ:St}{H:Hp}{s:YM}(I:Inv X pq σ H s):∀(k:Nat) {A:YZ} {x y:V} {v u:YK},A.units+k<cLine->EqH X.K H k x y->RelV x v->RelV y u->SeqAt.EqAt A s v u true
 | 0,A,x,y,v,u,hu,h,rx,ry=>by
   obtain⟨f,rfl⟩:=h;exact Js f rx ry
 | k+1,A,x,y,v,u,hu,h,rx,ry=>by
   rcases h with h | ⟨a,b,xs,ys,rfl,rfl,h,hl,it⟩
   ·exact Ek I k (by omega) h rx ry
   ·cases rx;cases ry;by_cases hab:a=b
    ·subst hab;exact SeqAt.EqAt.same _
    ·refine SeqAt.EqAt.of_refs hab ?_;have hu1:A.in1.units+k<cLine:=by show A.units+1+k<cLine;omega
     rcases h with⟨h1,h2⟩ | ⟨h1,h2⟩
     ·obtain⟨i1,r1,p1,_⟩:=I.list h1;obtain⟨i2,r2,p2,_⟩:=I.list h2;have l1:=r1.length;have l2:=r2.length;have:=SeqAt.RcAt.lists (A:=A) (s:=s) (e:=λ_=>true) p1.isList p2.isList (by simp;omega) (by omega) (CJ (pq:=pq) (σ:=σ) (Ek I k hu1) r1 r2 it);rw[show((Uy i1.toArray.size).all λ_=>true)=true by simp]at this;exact this
     ·obtain⟨i1,r1,p1,_⟩:=I.tuple h1;obtain⟨i2,r2,p2,_⟩:=I.tuple h2;have l1:=r1.length;have l2:=r2.length;have:=SeqAt.RcAt.tuples (A:=A) (s:=s) (e:=λ_=>true) p1 p2 (by omega) (CJ (pq:=pq) (σ:=σ) (Ek I k hu1) r1 r2 it);rw[show((Uy (min i1.toArray.size i2.toArray.size)).all (λ_=>true)&&i1.toArray.size == i2.toArray.size)=true by simp;omega]at this;exact this
noncomputable def Rw(K:Um)(ng:Bool):V->V->Hp->VK->Prop:=λx y H Q=>∃(a b:YN) (xs ys:List V),x = .ref a/\y = .ref b/\SqL K H a xs/\SqL K H b ys/\xs.length=ys.length/\(∀(i:Nat) u v,xs[i]?=some u->ys[i]?=some v->EqH K H 2 u v)/\Q (.bl (!ng)) H
theorem Rx(ng:Bool)(hu:X.A.units+3<cLine):OpR X (Yb (if ng then CmpOp.NotEq else CmpOp.Eq)) (Rw X.K ng):=by
 intro pq s σ H x y v u Q I rx ry h;obtain⟨a,b,xs,ys,rfl,rfl,h1,h2,hl,it,q⟩:=h;cases rx;cases ry;obtain⟨i1,r1,p1,_⟩:=I.list h1;obtain⟨i2,r2,p2,_⟩:=I.list h2;have l1:=r1.length;have l2:=r2.length;have hu1:X.A.in1.units+2<cLine:=by show X.A.units+1+2<cLine;omega
 have al:=CJ (pq:=pq) (σ:=σ) (A:=X.A.in1) (s:=s) (Ek I 2 hu1) r1 r2 it;cases ng
 ·refine SeqAt.eq_listAt (e:=λ_=>true) p1.isList p2.isList (by simp;omega) (by omega) al ⟨.bl _,H,I,rfl,?_⟩;rw[show((Uy i1.toArray.size).all λ_=>true)=true by simp];exact q
 ·refine(SeqAt.RcNeAt.lists (e:=λ_=>true) p1.isList p2.isList (by simp;omega) (by omega) al) _ _ _ _ ⟨.bl _,H,I,rfl,?_⟩;rw[show((Uy i1.toArray.size).all λ_=>true)=true by simp];exact q
end
theorem KT.at{H:Hp}:∀{kvs:List (List Key×V)} {xs:List (List Key×YN×YK)},KT H kvs xs->∀{i:Nat} {p:List Key×V},kvs[i]?=some p->∃ q,xs[i]?=some q/\H q.2.1=some (.tup (p.1.map kV))
 | _,_,.nil,_,_,h=>by simp at h
 | _,_,.cons a t,0,p,h=>by simp at h;subst h;exact⟨_,rfl,a.2.1⟩
 | _,_,.cons a t,i+1,p,h=>by
   obtain⟨q,e,z⟩:=KT.at t (i:=i) (p:=p) (by simpa using h);exact⟨q,by simpa using e,z⟩
end L2
namespace PySem
def DEn(h:Heap)(d:YN)(es:Array Zl)(ep:Nat):Prop:=∃ o,h.get? d=some o/\o.ExactDict/\o.data = .dict es ep
theorem DEn.keep{h h':Heap}{d:YN}{es:Array Zl}{ep:Nat}(x:DEn h d es ep)(k:∀ o,h.get? d=some o->h'.get? d=some o):DEn h' d es ep:=let ⟨o,e,r⟩:=x;⟨o,k o e,r⟩
theorem DEn.lt{h:Heap}{d:YN}{es:Array Zl}{ep:Nat}(x:DEn h d es ep):d<h.objs.size:=let ⟨_,e,_⟩:=x;V2 e
end PySem
namespace Rf
open PySem L2
structure GoodA(X:Cx)(rs:List Expr)(w:WA):Prop where
 pa:PA X rs (liftA X.K w)
 m:MonoA w
section
variable{X:Cx}
theorem Jt:GoodA X [] E3:=⟨OA,.nil⟩
theorem HE{x:Expr}{xs:List Expr}{a:WE×WT}{b:WA}(ha:Good X x a)(hb:GoodA X xs b)(hs:e8 x=true):GoodA X (x::xs) (D4 a.1 b):=⟨LX ha.m hb.m ha.pe hb.pa (i6 hs),.cons ha.m hb.m⟩
theorem Ju{rs:List Expr}{j:Nat}{p:Pos}{w:WA}(h:GoodA X rs w):Good X (.Tuple rs j p) (tt1 (wn OC w)) := .one (g9 _ (R5 h.pa) (OE h.m)) (.n .tup h.m) rfl
theorem Jv{rs:List Expr}{p:Pos}{w:WA}(h:GoodA X rs w):Good X (.List rs p) (tt1 (wn OD w)) := .one (g9 _ (R6 h.pa) (OF h.m)) (.n .lst h.m) rfl
theorem MQ{K:Um}{s:Sn}{w:WA}(ms:MonoN s)(m:MonoA w):∀ σ H Q,lift K (wn s w) σ H Q->Ps (spS K s) [] E0 (liftA K w) σ H Q:=by
 rintro σ H Q ⟨as,ρ,S,ok,en,h⟩;refine⟨as,ρ,S,ok,en,m _ _ _ _ (λxs S1 hs as1 H1 vs g1 ok1 rv=>?_) h⟩;show spS K s (vs++[]) H1 Q E0;rw[VY];exact⟨as1,S1,xs,ok1,rv,ms _ _ _ _ (λz S3 hz=>hz.mono g1) hs⟩
theorem HF{T:List Str}{Δ:Nat->Sn}{k f:Nat}{N:List Str}{sc:Yd}{x:Str}{y:Expr}{ys:List Expr}{p q:Pos}{w:WA}(C:Cok T Δ X k N sc)(hf:T[f]?=some x)(hg:glo sc x=true)(h:GoodA X (y::ys) w)(hy:e8 y=true)(hs:ys.all e8=true):Good X (.Call (.Name x p) (y::ys) [] q) (tt1 (wn (Δ f) w)):=by
 obtain⟨d,ps,hC,hr⟩:=C.call f x hf;obtain⟨fa,fd,F,hm,hk,hb⟩:=hC.ex;unfold glo at hg;simp only[Uo,beq_iff_eq,VM]at hg;have gl:Gl X x:=by show X.env.scope.names.lookup x=_;rw[C.hs];exact hg.1.1
 exact .one (g9 _ (Nj F hr gl hm hk hb .nil TY h.pa hg.2 (i6 hy) (Bw hs)) (MQ (C.mono f) h.m)) (.n (C.mono f) h.m) rfl
theorem U7:Ya "abs"=some (.builtin "abs"):=by decide +kernel
theorem QF:Ya "min"=some (.builtin "min"):=by decide +kernel
theorem MR:Ya "max"=some (.builtin "max"):=by decide +kernel
theorem U8:Ya "len"=some (.builtin "len"):=by decide +kernel
theorem U9:Ya "all"=some (.builtin "all"):=by decide +kernel
theorem QG:Ya "int"=some (.type "int"):=by decide +kernel
theorem MS:Ya "list"=some (.type "list"):=by decide +kernel
theorem UA:Ya "isinstance"=some (.builtin "isinstance"):=by decide +kernel
theorem QH:Ya "str"=some (.type "str"):=by decide +kernel
theorem Ry:Ya "bool"=some (.type "bool"):=by decide +kernel
theorem IY:Ya "tuple"=some (.type "tuple"):=by decide +kernel
theorem Rz:Ya "repr"=some (.builtin "repr"):=by decide +kernel
theorem MU{T:List Str}{Δ:Nat->Sn}{k:Nat}{N:List Str}{sc:Yd}{b:BI}{y:Expr}{ys:List Expr}{p q:Pos}{w:WA}(C:Cok T Δ X k N sc)(hg:glo sc b.name=true)(h:GoodA X (y::ys) w)(hy:e8 y=true)(hs:ys.all e8=true):Good X (.Call (.Name b.name p) (y::ys) [] q) (tt1 (wn (sBi b) w)):=by
 unfold glo at hg;simp only[Uo,beq_iff_eq,VM]at hg;have gl:Gl X b.name:=by show X.env.scope.names.lookup b.name=_;rw[C.hs];exact hg.1.1
 have hm:=C.bl b;have e1:=i6 (es:=ys) (env:=X.env) hy;have e2:=Bw (env:=X.env) (pos:=q) hs;refine .one (g9 (t:=tCB (rBi X.K b) (liftA X.K w)) _ ?_ (Tp Ri .bi h.m)) (.n .bi h.m) rfl;cases b with
 | len=>exact u8 ER gl hm U8 h.pa (by decide) hg.2 e1 e2
 | abs=>exact u8 Kl gl hm U7 h.pa (by decide) hg.2 e1 e2
 | min=>exact u8 (JJ C.calm) gl hm QF h.pa (by decide) hg.2 e1 e2
 | max=>exact u8 (JI C.calm) gl hm MR h.pa (by decide) hg.2 e1 e2
 | int=>exact BR JK gl hm QG h.pa (by decide) hg.2 e1 e2
 | list=>exact BR ES gl hm MS h.pa (by decide) hg.2 e1 e2
 | tuple=>exact BR Da gl hm IY h.pa (by decide) hg.2 e1 e2
 | all=>exact u8 (JT C.calm) gl hm U9 h.pa (by decide) hg.2 e1 e2
 | any=>exact u8 (JW C.calm) gl hm Tm h.pa (by decide) hg.2 e1 e2
 | sorted=>exact u8 EV gl hm L8 h.pa (by decide) hg.2 e1 e2
 | isi=>exact u8 (call_isi1.or JS) gl hm UA h.pa (by decide) hg.2 e1 e2
 | repr=>exact u8 (λ_ _ _ _ _ _ _ _ _ h=>False.elim h) gl hm Rz h.pa (by decide) hg.2 e1 e2
 | str=>exact BR (λ_ _ _ _ _ _ _ _ _ h=>False.elim h) gl hm QH h.pa (by decide) hg.2 e1 e2
theorem Mono.mt{m:MT}{a:WE}{b:WA}(ma:Mono a)(mb:MonoA b):Mono (wMt m a b):=λρ S P P' i h=>ma _ _ _ _ (λx S1 ⟨e,h⟩=>⟨e,mb _ _ _ _ (λxs S2 h=>Eg _ _ _ _ i h) h⟩) h
theorem u5{ro:Expr}{nm:Str}{env:Env}{wh:Sem YK}(h:BT ro=true):ZN ro nm env wh=wh:=by
 unfold ZN;split
 ·cases h
 ·rfl
theorem MV{K:Um}{as:List YN}{H:Hp}{S:Sto}{k:Nat}{v:V}{xs:List SV}(ok:Ok K as H S)(r:Rl K as H v (.loc k))(hs:S[k]?=some (.lst xs)):tyV K "list" v H:=by
 obtain⟨a,vs,rfl,_,h1,_⟩:=j0 ok r hs;exact .inl ⟨rfl,_,SqL.of h1⟩
theorem SA{K:Um}{m:MT}{a:WE}{b:WA}(ma:Mono a)(mb:MonoA b):∀ σ H Q,lift K (wMt m a b) σ H Q->tBM K "list" (rMt m) (lift K a) (liftA K b) σ H Q:=by
 rintro σ H Q ⟨as,ρ,S,ok,en,h⟩;refine⟨as,ρ,S,ok,en,ma _ _ _ _ (λx S1 ⟨⟨j,zs,e,hz⟩,h⟩ as1 H1 v g1 ok1 rv=>?_) h⟩;subst e;refine⟨MV ok1 rv hz,as1,ρ,S1,ok1,en.mono g1.pre (g1.ku ok),mb _ _ _ _ (λxs S2 h as2 H2 vs g2 ok2 rs=>?_) h⟩;exact Lk ok2 (Rl.mono g2.pre (g2.ku ok1) _ v rv) rs (Eg _ _ _ _ (λz S3 hz=>hz.mono (g1.trans g2)) h)
theorem Ol{K:Um}{m:MT}{a:WE}(ma:Mono a):∀ σ H Q,lift K (wMt m a E3) σ H Q->RA K "list" (rMt m) (lift K a) σ H Q:=by
 rintro σ H Q ⟨as,ρ,S,ok,en,h⟩;refine⟨as,ρ,S,ok,en,ma _ _ _ _ (λx S1 ⟨⟨j,zs,e,hz⟩,h⟩ as1 H1 v g1 ok1 rv=>?_) h⟩;subst e;exact⟨MV ok1 rv hz,Lk ok1 rv .nil (Eg _ _ _ _ (λz S3 hz=>hz.mono g1) h)⟩
theorem MtR.orM{id:String}{r r':V->List V->Hp->VK->Prop}(h:MtM X id r)(h':MtM X id r'):MtR X id (λx xs H Q=>r x xs H Q\/r' x xs H Q):=λpq s σ H x xs v us Q I rx rs q=>q.elim (h pq s σ H x xs v us Q I rx rs) (h' pq s σ H x xs v us Q I rx rs)
theorem MW{m:MT}{ro y:Expr}{ys:List Expr}{ap cp:Pos}{a:WE×WT}{b:WA}(ha:Good X ro a)(hb:GoodA X (y::ys) b)(hn:BT ro=true)(hl:(ap.endLine == cp.line)=true)(hk:(y::ys).length<29)(hy:e8 y=true)(hs:ys.all e8=true):Good X (.Call (.Attribute ro m.name ap) (y::ys) [] cp) (tt1 (wMt m a.1 b)):=by
 have e1:=i6 (es:=ys) (env:=X.env) hy;have e2:=Bw (env:=X.env) (pos:=cp) hs
 have e3:((backTo cp (Yc (y::ys) X.env)).all (λx=>!x.1)&&(ZQ cp (Z8 [] X.env)).all (λx=>x.1.isSome)
  && decide ((y::ys).length+([]:List Keyword).length+(if ([]:List Keyword).isEmpty then 0 else 1)<30))=true:=by
  rw[E5 (by rw[Vz,hy,hs];rfl)];simp only[Y8,Uo,dQ];exact⟨rfl,by show(y::ys).length+0+0<30;omega⟩
 refine .one (g9 (t:=tBM X.K "list" (rMt m) (lift X.K a.1) (liftA X.K b)) _ ?_ (SA ha.m hb.m)) (.mt ha.m hb.m) rfl;cases m with
 | append=>exact FD PySem.F.plainAttrs_list PySem.F.slot_list_append PySem.F.type_list_append C9 ha.pe hb.pa (u5 hn) e3 hl e1 e2
 | extend=>exact FD PySem.F.plainAttrs_list PySem.F.slot_list_extend PySem.F.type_list_extend Dv ha.pe hb.pa (u5 hn) e3 hl e1 e2
 | pop=>exact FD PySem.F.plainAttrs_list PySem.F.slot_list_pop PySem.F.type_list_pop (MtR.orM Kw FF) ha.pe hb.pa (u5 hn) e3 hl e1 e2
 | insert=>exact FD PySem.F.plainAttrs_list PySem.F.slot_list_insert PySem.F.type_list_insert Dx ha.pe hb.pa (u5 hn) e3 hl e1 e2
 | clear=>exact FD PySem.F.plainAttrs_list PySem.F.slot_list_clear PySem.F.type_list_clear FG ha.pe hb.pa (u5 hn) e3 hl e1 e2
theorem Jw{m:MT}{ro:Expr}{ap cp:Pos}{a:WE×WT}(ha:Good X ro a)(hn:BT ro=true)(hl:(ap.endLine == cp.line)=true):Good X (.Call (.Attribute ro m.name ap) [] [] cp) (tt1 (wMt m a.1 E3)):=by
 refine .one (g9 (t:=RA X.K "list" (rMt m) (lift X.K a.1)) _ ?_ (Ol ha.m)) (.mt ha.m .nil) rfl;cases m with
 | append=>exact Cw PySem.F.plainAttrs_list PySem.F.slot_list_append PySem.F.type_list_append C9 ha.pe (u5 hn) hl
 | extend=>exact Cw PySem.F.plainAttrs_list PySem.F.slot_list_extend PySem.F.type_list_extend Dv ha.pe (u5 hn) hl
 | pop=>exact Cw PySem.F.plainAttrs_list PySem.F.slot_list_pop PySem.F.type_list_pop (MtR.orM Kw FF) ha.pe (u5 hn) hl
 | insert=>exact Cw PySem.F.plainAttrs_list PySem.F.slot_list_insert PySem.F.type_list_insert Dx ha.pe (u5 hn) hl
 | clear=>exact Cw PySem.F.plainAttrs_list PySem.F.slot_list_clear PySem.F.type_list_clear FG ha.pe (u5 hn) hl
theorem Jx{T:List Str}{Δ:Nat->Sn}{k:Nat}{N:List Str}{sc:Yd}{t:TyN}{p:Pos}(C:Cok T Δ X k N sc)(hg:glo sc (Str.ofString t.nm)=true)(ht:t ≠ .none):Good X (.Name (Str.ofString t.nm) p) (tt1 (wC (.ty t))):=by
 unfold glo at hg;simp only[Uo,beq_iff_eq,VM]at hg;have gl:Gl X (Str.ofString t.nm):=by show X.env.scope.names.lookup _=_;rw[C.hs];exact hg.1.1
 have b:Ya (Str.ofString t.nm)=some (.type t.nm):=by cases t<;>first | exact QG | exact Ry | exact QH | exact MS | exact IY | exact absurd rfl ht
 exact .one (g9 _ (NY (v := .ty t.nm) gl (C.ty t ht) b rfl (by cases t<;>first | decide | exact absurd rfl ht) hg.2) (FL λ_ _=>rl_ty.mpr rfl)) .c rfl
theorem Fe:E2 OX:=λx S P P' i h=>by
 unfold OX at h ⊢;split at h
 ·obtain⟨xs,e,h⟩:=h;exact⟨xs,e,i _ _ h⟩
 ·exact h.elim
theorem Jy{r:Expr}{j:Nat}{p p2 p3 p4:Pos}{a:WE×WT}(ha:Good X r a):Good X (.Subscript r (.Slice none none (some (.UnaryOp .USub (.Constant (.int 1) j p4) p3)) p2) p) (tt1 (w1 OX a.1)):=by
 refine .one (g9 _ (RX ha.pe (Hu (Pp Kg KQ))) ?_) (.one Fe ha.m) rfl;rintro σ H Q ⟨as,ρ,S,ok,en,h⟩;refine⟨as,ρ,S,ok,en,ha.m _ _ _ _ (λx S1 h as1 H1 v g1 ok1 rv=>?_) h⟩;refine⟨1,rfl,-1,rfl,rfl,?_⟩;cases x with
 | loc k=>
   obtain⟨xs,h1,h2⟩:=h;obtain⟨b,vs,rfl,_,hb,rr⟩:=j0 ok1 rv h1;exact⟨b,vs,rfl,SqL.of hb,AM ok1 rr.rev (h2.mono g1)⟩
 | _=>exact False.elim h
theorem E7{a:WE}(m:Mono a):Mono (Lw a):=λρ S P P' i h=>m _ _ _ _ (λx S1 ⟨k,ns,a,b,c,q⟩=>⟨k,ns,a,b,c,λm g=>i _ _ (q m g)⟩) h
theorem E8{a d:WE}(m:Mono a)(m':Mono d):Mono (MA a d):=λρ S P P' i h=>m _ _ _ _ (λx S1 h=>m' _ _ _ _ (λy S2 ⟨k,ns,z,a,b,c,q0,q⟩=>⟨k,ns,z,a,b,c,λe=>i _ _ (q0 e),λm g=>i _ _ (q m g)⟩) h) h
theorem RlD.length{K:Um}{as:List YN}{H:Hp}:∀{kvs:List (Int×SV)} {ks:List (Key×V)},RlD K as H ks kvs->ks.length=kvs.length
 | [],_,h=>by rw[show _=[] from h];rfl
 | p::r,_,⟨v,t,e,_,h⟩=>by rw[e,VU,VU,RlD.length h]
theorem RlAll.perm{K:Um}{as:List YN}{H:Hp}{ws ws':List V}(p:ws'.Perm ws):∀{xs:List SV},RlAll K as H ws xs->∃ xs',RlAll K as H ws' xs'/\xs'.Perm xs:=by
 induction p with
 | nil=>exact λ{xs} r=>⟨xs,r,.refl _⟩
 | cons v _ ih=>
   intro xs r;cases xs with
   | nil=>exact absurd (show _::_=[] from r) (XJ _ _)
   | cons x xs=>
     obtain⟨_,_,e,r1,r2⟩:=r;cases e;obtain⟨xs',r',p'⟩:=ih r2;exact⟨x::xs',⟨_,_,rfl,r1,r'⟩,.cons _ p'⟩
 | swap u v l=>
   intro xs r;cases xs with
   | nil=>exact absurd (show _::_=[] from r) (XJ _ _)
   | cons x xs=>
     obtain⟨_,_,e,r1,r2⟩:=r;cases e;cases xs with
     | nil=>exact absurd (show _::_=[] from r2) (XJ _ _)
     | cons y xs=>
       obtain⟨_,_,e,r3,r4⟩:=r2;cases e;exact⟨y::x::xs,⟨_,_,rfl,r3,_,_,rfl,r1,r4⟩,.swap ..⟩
 | trans _ _ ih1 ih2=>
   intro xs r;obtain⟨x2,r2,p2⟩:=ih2 r;obtain⟨x1,r1,p1⟩:=ih1 r2;exact⟨x1,r1,p1.trans p2⟩
theorem HG{T:List Str}{Δ:Nat->Sn}{k:Nat}{N:List Str}{sc:Yd}{r:Expr}{p q:Pos}{a:WE×WT}(C:Cok T Δ X k N sc)(hg:glo sc "max"=true)(ha:Good X r a)(hs:e8 r=true):Good X (.Call (.Name "max" p) [r] [] q) (tt1 (Lw a.1)):=by
 unfold glo at hg;simp only[Uo,beq_iff_eq,VM]at hg;have gl:Gl X "max":=by show X.env.scope.names.lookup ("max":Str)=_;rw[C.hs];exact hg.1.1
 refine .one (g9 _ (u8 (Jd C.calm) gl (C.bl .max) MR (AX ha.pe Bh (i6 hs)) (by decide) hg.2 (i6 hs) rfl) ?_) (E7 ha.m) rfl;rintro σ H Q ⟨as,ρ,S,ok,en,h⟩;refine⟨as,ρ,S,ok,en,ha.m _ _ _ _ (λx S1 ⟨k,ns,e0,h1,h2,q⟩ as1 H1 v g1 ok1 rv=>?_) h⟩;subst e0;obtain⟨a,us,rfl,ea,ha,rr⟩:=j0 ok1 rv h1;rw[Cj rr]at ha;exact⟨a,ns,rfl,ha,h2,λm g=>q m g as1 H1 _ g1 ok1 (rl_int.mpr rfl)⟩
theorem HH{T:List Str}{Δ:Nat->Sn}{k:Nat}{N:List Str}{sc:Yd}{r u:Expr}{p q kp:Pos}{a d:WE×WT}(C:Cok T Δ X k N sc)(hg:glo sc "max"=true)(ha:Good X r a)(hd:Good X u d)(hs:e8 r=true):Good X (.Call (.Name "max" p) [r] [⟨some "default",u,kp⟩] q) (tt1 (MA a.1 d.1)):=by
 unfold glo at hg;simp only[Uo,beq_iff_eq,VM]at hg;have gl:Gl X "max":=by show X.env.scope.names.lookup ("max":Str)=_;rw[C.hs];exact hg.1.1
 refine .one (g9 _ (E4 (Jc C.calm) gl (C.bl .max) MR (AX ha.pe Bh (i6 hs)) (Hs hd.pe Km) rfl (by decide) hg.2 (by rw[i6 hs];rfl) (by rw[i6 hs];rfl) rfl rfl) ?_) (E8 ha.m hd.m) rfl;rintro σ H Q ⟨as,ρ,S,ok,en,h⟩;refine⟨as,ρ,S,ok,en,ha.m _ _ _ _ (λx S1 h as1 H1 v g1 ok1 rv=>?_) h⟩;have en1:=en.mono g1.pre (g1.ku ok);refine⟨as1,ρ,S1,ok1,en1,hd.m _ _ _ _ (λy S2 ⟨k,ns,i,e0,e1,h1,q0,q⟩ as2 H2 v2 g2 ok2 rv2=>?_) h⟩;subst e0;subst e1;rw[rl_int]at rv2;obtain⟨a,us,ev,ea,ha,rr⟩:=j0 ok2 (Rl.mono g2.pre (g2.ku ok1) _ _ rv) h1;rw[Cj rr]at ha;exact⟨a,ns,i,by rw[ev],by rw[rv2],ha,λe=>q0 e as2 H2 _ (g1.trans g2) ok2 (rl_int.mpr rfl),λm g=>q m g as2 H2 _ (g1.trans g2) ok2 (rl_int.mpr rfl)⟩
end
section
variable{K:Um}{as:List YN}{H:Hp}{S:Sto}
theorem RlD.get:∀{kvs:List (Int×SV)} {ks:List (Key×V)} {i:Nat} {p:Int×SV},RlD K as H ks kvs->kvs[i]?=some p->∃ v,ks[i]?=some (.inl p.1,v)
 | q::r,_,0,p,⟨v,t,e,_,_⟩,hp=>by cases hp;subst e;exact⟨v,rfl⟩
 | q::r,_,i+1,p,⟨v,t,e,_,h⟩,hp=>by
   subst e;obtain⟨u,hu⟩:=RlD.get (i:=i) h (show r[i]?=some p from hp);exact⟨u,hu⟩
theorem RlD.val:∀{kvs:List (Int×SV)} {ks:List (Key×V)},RlD K as H ks kvs->∀ i,(∃ x v,Jh kvs i=some x/\AB ks (.inl i)=some v/\Rl K as H v x)\/(Jh kvs i=none/\AB ks (.inl i)=none)
 | [],_,h,i=>by rw[show _=[] from h];exact .inr ⟨rfl,rfl⟩
 | p::r,_,⟨v,t,e,h1,h2⟩,i=>by
   subst e;by_cases hp:p.1=i
   ·refine .inl ⟨p.2,v,?_,?_,h1⟩
    ·unfold Jh;rw[XR (by simp[hp])];rfl
    ·unfold AB;rw[XR (by simp[hp])];rfl
   ·have e1:Jh (p::r) i=Jh r i:=by unfold Jh;rw[XS (by simp[hp])]
    have e2:AB ((Sum.inl p.1,v)::t) (Sum.inl i)=AB t (Sum.inl i):=by unfold AB;rw[XS (by simp[hp])]
    rw[e1,e2];exact RlD.val h2 i
theorem RlD.any:∀{kvs:List (Int×SV)} {ks:List (Key×V)},RlD K as H ks kvs->∀ i,(ks.any λkv=>decide (kv.1=Sum.inl i))=kvs.any λp=>decide (p.1=i)
 | [],_,h,i=>by rw[show _=[] from h];rfl
 | p::r,_,⟨v,t,e,h1,h2⟩,i=>by
   subst e;rw[W2,W2,RlD.any h2 i]
   congr 1
   simp
theorem RlD.set{v:V}{x:SV}(rv:Rl K as H v x):∀{kvs:List (Int×SV)} {ks:List (Key×V)},RlD K as H ks kvs->∀ i,RlD K as H (ks.map λkv=>if kv.1=Sum.inl i then (kv.1,v) else kv) (kvs.map λp=>if p.1=i then (p.1,x) else p)
 | [],_,h,i=>by rw[show _=[] from h];rfl
 | p::r,_,⟨u,t,e,h1,h2⟩,i=>by
   subst e;rw[VP,VP];by_cases hp:p.1=i
   ·rw[iP hp,iP (by rw[hp])];exact⟨v,_,rfl,rv,RlD.set rv h2 i⟩
   ·rw[iG hp,iG (λz=>hp (Sum.inl.inj z))];exact⟨u,_,rfl,h1,RlD.set rv h2 i⟩
theorem RlD.snoc{v:V}{x:SV}(rv:Rl K as H v x)(i:Int):∀{kvs:List (Int×SV)} {ks:List (Key×V)},RlD K as H ks kvs->RlD K as H (ks++[(Sum.inl i,v)]) (kvs++[(i,x)])
 | [],_,h=>by rw[show _=[] from h];exact⟨v,[],rfl,rv,rfl⟩
 | p::r,_,⟨u,t,e,h1,h2⟩=>by subst e;exact⟨u,_,rfl,h1,RlD.snoc rv i h2⟩
theorem RlD.put{kvs:List (Int×SV)}{ks:List (Key×V)}{v:V}{x:SV}(h:RlD K as H ks kvs)(rv:Rl K as H v x)(i:Int):RlD K as H (B7 ks (Sum.inl i) v) (QC kvs i x):=by
 unfold B7 QC;rw[h.any i];by_cases z:(kvs.any λp=>decide (p.1=i))=true
 ·rw[iP z,iP z];exact h.set rv i
 ·rw[iG z,iG z];exact h.snoc rv i
theorem El:∀{ts:List Nat} {vs:List V},RlAll K as H vs (ts.map SV.loc)->∃ ta:List YN,vs=ta.map V.ref/\ta.length=ts.length/\∀(i t:Nat) (a:YN),ts[i]?=some t->ta[i]?=some a->as[t]?=some a
 | [],vs,h=>⟨[],rla_nil.mp h,rfl,λi t a e=>by cases e⟩
 | t::ts,vs,h=>by
   obtain⟨v,r,rfl,h1,h2⟩:=rla_cons.mp h;obtain⟨a,ea,rfl⟩:=rl_loc.mp h1;obtain⟨ta,rfl,hl,ht⟩:=El h2;refine⟨a::ta,rfl,by rw[VU,VU,hl],λi t' a' e1 e2=>?_⟩;cases i with
   | zero=>cases e1;cases e2;exact ea
   | succ i=>exact ht i t' a' e1 e2
theorem MX(ok:Ok K as H S){ts:List Nat}{ta:List YN}{xss:List (List Int)}(hl:ta.length=ts.length)(ht:∀(i t:Nat) (a:YN),ts[i]?=some t->ta[i]?=some a->as[t]?=some a)(h:LsI S ts xss):LiI H ta xss:=by
 refine⟨hl.trans h.1,λi a xs ea ex=>?_⟩;have hi:i<ts.length:=by rw[<-hl];exact(gM ea).1
 have et:=Uq hi;obtain⟨vs,e1,rr⟩:=ok.obj _ _ a (h.2 i _ xs et ex) (ht i _ a et ea);rw[e1,Cj rr]
theorem BV:Mono2 FS:=λx y S P P' i ⟨ts,us,xss,a,b,e,f,q⟩=>⟨ts,us,xss,a,b,e,f,i _ _ q⟩
theorem BW:Mono2 FR:=λx y S P P' i ⟨xs,a,b,q⟩=>⟨xs,a,b,i _ _ q⟩
theorem Ff:B0 K FR (λx y H Q=>∃ a b xs,x = .ref a/\y = .ref b/\SqT K H a xs/\SqT K H b []/\Q (.bl xs.isEmpty) H):=λas H S x y v u Q ok rx ry h=>by
 obtain⟨xs,rfl,rfl,q⟩:=h;obtain⟨a,vs,rfl,hv,rv⟩:=rl_tup.mp rx;obtain⟨b,ws,rfl,hw,rw'⟩:=rl_tup.mp ry;obtain rfl:=rla_nil.mp rw';have e:vs.isEmpty=xs.isEmpty:=by have:=rv.length;cases vs<;>cases xs<;>first | rfl | (simp at this)
 refine⟨a,b,vs,rfl,rfl,SqT.of hv,SqT.of hw,?_⟩;rw[e];exact q.here ok (rl_bl.mpr rfl)
theorem Fg:B0 K FS (λx y H Q=>∃(a b:YN) (ts us:List YN) (xss:List (List Int)),x = .ref a/\y = .ref b/\SqT K H a (ts.map V.ref)/\SqT K H b (us.map V.ref)/\LiI H ts xss/\LiI H us xss/\Q (.bl true) H):=λas H S x y v u Q ok rx ry h=>by
 obtain⟨ts,us,xss,rfl,rfl,h1,h2,q⟩:=h;obtain⟨a,vs,rfl,hv,rv⟩:=rl_tup.mp rx;obtain⟨b,ws,rfl,hw,rw'⟩:=rl_tup.mp ry;obtain⟨ta,rfl,l1,t1⟩:=El rv;obtain⟨tb,rfl,l2,t2⟩:=El rw';exact⟨a,b,ta,tb,xss,rfl,rfl,SqT.of hv,SqT.of hw,MX ok l1 t1 h1,MX ok l2 t2 h2,q.here ok (rl_bl.mpr rfl)⟩
end
section
variable{X:Cx}
theorem HI{ra rb:Expr}{p:Pos}{wa wb:WE}(hu:X.A.units+1<cLine)(ha:PE X ra (lift X.K wa))(hb:PE X rb (lift X.K wb))(ma:Mono wa)(mb:Mono wb)(hn:u7 rb=true):Good X (.Compare ra [.Eq] [rb] p) (tt2 (w2 FS wa wb)):=by
 have m:Mono (w2 FS wa wb) := .two BV ma mb
 exact{pe:=g9 _ (Ce (IW hu) ha hb (w5 hn)) (A7 Fg BV ma mb)
       pt:=Bj _ (Cf (IW hu) ha hb (w5 hn)) λσ H Q h=>A7 Fg BV ma mb σ H _ (DC m σ H Q h)
       m:=m
       mt := .bl m
       pw:=λ_ _ _ e=>by cases e}
theorem HJ{ra rb:Expr}{p:Pos}{wa wb:WE}(hu:X.A.units+1<cLine)(ha:PE X ra (lift X.K wa))(hb:PE X rb (lift X.K wb))(ma:Mono wa)(mb:Mono wb)(hn:u7 rb=true):Good X (.Compare ra [.Eq] [rb] p) (tt2 (w2 FR wa wb)):=by
 have m:Mono (w2 FR wa wb) := .two BW ma mb
 exact{pe:=g9 _ (Ce (IH (by omega)) ha hb (w5 hn)) (A7 Ff BW ma mb)
       pt:=Bj _ (Cf (IH (by omega)) ha hb (w5 hn)) λσ H Q h=>A7 Ff BW ma mb σ H _ (DC m σ H Q h)
       m:=m
       mt := .bl m
       pw:=λ_ _ _ e=>by cases e}
end
theorem RlD.vals{K:Um}{as:List YN}{H:Hp}:∀{kvs:List (Int×SV)} {ks:List (Key×V)},RlD K as H ks kvs->RlAll K as H (ks.map (·.2)) (kvs.map (·.2))
 | [],_,h=>by rw[show _=[] from h];rfl
 | p::r,_,⟨v,t,e,a,h⟩=>by rw[e];exact⟨v,_,rfl,a,RlD.vals h⟩
theorem RlD.at{K:Um}{as:List YN}{H:Hp}:∀{kvs:List (Int×SV)} {ks:List (Key×V)} {i:Nat} {p:Int×SV},RlD K as H ks kvs->kvs[i]?=some p->∃ v,ks[i]?=some (.inl p.1,v)/\Rl K as H v p.2
 | [],_,i,p,_,hp=>by simp at hp
 | p::r,_,0,_,⟨v,t,e,a,h⟩,hp=>by cases hp;exact⟨v,by rw[e];rfl,a⟩
 | p::r,_,i+1,_,⟨v,t,e,a,h⟩,hp=>by
   obtain⟨u,hu,ru⟩:=RlD.at (i:=i) h hp;exact⟨u,by rw[e];exact hu,ru⟩
theorem E9{a d:WE}(m:Mono a)(m':Mono d):Mono (Lx a d):=λρ S P P' i h=>m _ _ _ _ (λx S1 h=>m' _ _ _ _ (λy S2 ⟨k,ps,a,b,c,q0,q⟩=>⟨k,ps,a,b,c,λe=>i _ _ (q0 e),λp hp=>i _ _ (q p hp)⟩) h) h
theorem EA{d e v:WE}(m:Mono d)(m1:Mono e)(m2:Mono v):Mono (Ly d e v):=λρ S P P' i h=>m _ _ _ _ (λx S1 ⟨k,kv0,a,b,h⟩=>⟨k,kv0,a,b,m1 _ _ _ _ (λy S2 h=>m2 _ _ _ _ (λz S3 ⟨i1,j,m,kvs,a,b,c,d,q0,q1⟩=>⟨i1,j,m,kvs,a,b,c,d,λn e=>i _ _ (q0 n e),λe=>i _ _ (q1 e)⟩) h) h⟩) h
theorem Bk:Mono Gx:=λρ S P P' i h=>i _ _ h
theorem Fh{X:Cx}{p:Pos}:Good X (.Dict [] [] p) (tt1 Gx):=
 .one (g9 _ LQ (λσ H Q ⟨as,ρ,S,ok,en,h⟩=>λl hl=>h _ _ _ (Go.push hl) (ok.pushO hl (show RlO _ _ _ _ (.dtp []) from n6)) (rl_loc.mpr ⟨l,by rw[<-ok.len];exact VT,rfl⟩))) Bk rfl
theorem Em(k:Int×Int):∀ kvs:List ((Int×Int)×Int),AB (dtV kvs) [.inl k.1,.inl k.2]=(dpv kvs k).map V.int
 | []=>rfl
 | p::r=>by
   have ih:=Em k r;by_cases e:p.1=k
   ·rw[show dtV (p::r)=([.inl p.1.1,.inl p.1.2],V.int p.2)::dtV r from rfl,B8 (by rw[e])];unfold dpv;rw[Vd,decide_eq_true e];rfl
   ·rw[show dtV (p::r)=([.inl p.1.1,.inl p.1.2],V.int p.2)::dtV r from rfl,B9 (λz=>e (by
     have z:([.inl p.1.1,.inl p.1.2]:List Key)=[.inl k.1,.inl k.2]:=z;injection z with z1 z2;injection z2 with z2 _;injection z1 with z1;injection z2 with z2;exact Prod.ext z1 z2)),ih]
    unfold dpv;rw[Vd,decide_eq_false e]
theorem HK{X:Cx}{ro r r2:Expr}{ap cp:Pos}{d e v:WE×WT}(hu:X.A.units+1<cLine)(hd:Good X ro d)(he:Good X r e)(hv:Good X r2 v)(hn:BT ro=true)(hl:(ap.endLine == cp.line)=true)(hs:e8 r=true)(hs2:e8 r2=true):Good X (.Call (.Attribute ro "setdefault" ap) [r,r2] [] cp) (tt1 (Ly d.1 e.1 v.1)):=by
 refine .one (g9 _ (OO hu hd.pe he.pe hv.pe ⟨u5 hn,by rw[i6 hs,i6 hs2];rfl,hl,by rw[i6 hs,i6 hs2];rfl⟩) ?_) (EA hd.m he.m hv.m) rfl;rintro σ H Q ⟨as,ρ,S,ok,en,h⟩;refine⟨as,ρ,S,ok,en,hd.m _ _ _ _ (λx S1 ⟨k,kv0,e0,hk,h⟩ as1 H1 w g1 ok1 rw1=>?_) h⟩;subst e0;obtain⟨a,ea,rfl⟩:=rl_loc.mp rw1;have h1:H1 a=some (.dT (dtV kv0)):=ok1.obj k _ a hk ea;have en1:=en.mono g1.pre (g1.ku ok);refine⟨a,rfl,.inr ⟨_,.inl h1⟩,as1,ρ,S1,ok1,en1,he.m _ _ _ _ (λy S2 h as2 H2 w2 g2 ok2 rw2=>?_) h⟩;refine⟨as2,ρ,S2,ok2,en1.mono g2.pre (g2.ku ok1),hv.m _ _ _ _ (λz S3 ⟨i,j,m,kvs,e1,e2,hk3,hb,q0,q1⟩ as3 H3 w3 g3 ok3 rw3=>?_) h⟩;subst e1;subst e2;have ea3:=EW g3.pre (EW g2.pre ea);have h3:H3 a=some (.dT (dtV kvs)):=ok3.obj k _ a hk3 ea3;obtain⟨p,vs,rfl,hp,rp⟩:=rl_tup.mp (Rl.mono g3.pre (g3.ku ok2) _ _ rw2);obtain⟨u1,u2,rfl,r1,r2⟩:=Jf rp;rw[rl_int]at r1 r2 rw3;subst r1;subst r2;subst rw3;have G:=g1.trans (g2.trans g3);have len:(dtV kvs).length=kvs.length:=Ur ..;refine⟨dtV kvs,[.inl i,.inl j],p,rfl,h3,hp,by rw[len];exact VI hb (AC (Ux _)),λu hu'=>?_,λhu'=>?_⟩
 ·rw[Em (i,j)]at hu';obtain⟨n,hn',rfl⟩:=Option.map_eq_some_iff.mp hu';exact q0 n hn' as3 H3 _ G ok3 (rl_int.mpr rfl)
 ·have hu2:=hu';rw[Em (i,j)]at hu';have e:dpv kvs (i,j)=none:=XT.mp hu';rw[LN _ hu2]
  obtain⟨ok4,ku⟩:=ok3.writeO (x := .dtp (kvs++[((i,j),m)])) (u := .dT (dtV kvs++[([.inl i,.inl j],V.int m)])) hk3 ea3 (λ_=>by
   show upd _ _ _ a=some (.dT (dtV (kvs++[((i,j),m)])));rw[n6];unfold dtV;rw[VO];rfl)
  exact q1 e as3 _ _ (G.trans (Go.write (Us ea3))) ok4 (rl_int.mpr rfl)
theorem HL{X:Cx}{T:List Str}{Δ:Nat->Sn}{k:Nat}{N:List Str}{sc:Yd}{r u:Expr}{p q kp:Pos}{a d:WE×WT}(hu:X.A.units+1<cLine)(C:Cok T Δ X k N sc)(hg:glo sc "min"=true)(ha:Good X r a)(hd:Good X u d)(hs:e8 r=true):Good X (.Call (.Name "min" p) [r] [⟨some "default",u,kp⟩] q) (tt1 (Lx a.1 d.1)):=by
 unfold glo at hg;simp only[Uo,beq_iff_eq,VM]at hg;have gl:Gl X "min":=by show X.env.scope.names.lookup ("min":Str)=_;rw[C.hs];exact hg.1.1
 refine .one (g9 _ (E4 (Jb C.calm hu) gl (C.bl .min) QF (AX ha.pe Bh (i6 hs)) (Hs hd.pe Km) rfl (by decide) hg.2 (by rw[i6 hs];rfl) (by rw[i6 hs];rfl) rfl rfl) ?_) (E9 ha.m hd.m) rfl;rintro σ H Q ⟨as,ρ,S,ok,en,h⟩;refine⟨as,ρ,S,ok,en,ha.m _ _ _ _ (λx S1 h as1 H1 v g1 ok1 rv=>?_) h⟩;have en1:=en.mono g1.pre (g1.ku ok);refine⟨as1,ρ,S1,ok1,en1,hd.m _ _ _ _ (λy S2 ⟨k,ps,e0,e1,h1,q0,q⟩ as2 H2 v2 g2 ok2 rv2=>?_) h⟩;subst e0;subst e1;rw[rl_non]at rv2;obtain⟨a,us,ev,ea,ha,rr⟩:=j0 ok2 (Rl.mono g2.pre (g2.ku ok1) _ _ rv) h1;have G:=g1.trans g2;refine⟨a,us,ps,by rw[ev],by rw[rv2],ha,⟨by rw[rr.length,Ur],λi p hp=>?_⟩,λe=>q0 e as2 H2 _ G ok2 (rl_non.mpr rfl),λi p q' hp hq' _ _=>?_⟩
 ·obtain⟨v,hv,rv⟩:=rr.get (show(ps.map λp:Int×Int=>SV.tup [.int p.1,.int p.2])[i]?=some (SV.tup [.int p.1,.int p.2]) by rw[Uz,hp];rfl);obtain⟨t,vs,rfl,ht,rt⟩:=rl_tup.mp rv;obtain⟨u1,u2,rfl,r1,r2⟩:=Jf rt;rw[rl_int]at r1 r2;subst r1;subst r2;exact⟨t,hv,ht⟩
 ·obtain⟨v,hv,rv⟩:=rr.get (show(ps.map λp:Int×Int=>SV.tup [.int p.1,.int p.2])[i]?=some (SV.tup [.int p.1,.int p.2]) by rw[Uz,hp];rfl);rw[hq']at hv;cases hv;exact q p (Us hp) as2 H2 _ G ok2 rv
section
variable{K:Um}{as:List YN}{H:Hp}{S:Sto}
theorem RlT.length:∀{kvs:List (List Int×SV)} {us:List (List Key×V)},RlT K as H us kvs->us.length=kvs.length
 | [],_,h=>by rw[show _=_ from h];rfl
 | p::r,_,⟨v,t,e,_,h2⟩=>by rw[e,VU,VU,h2.length]
theorem RlT.get:∀{kvs:List (List Int×SV)} {us:List (List Key×V)} {i:Nat} {p:List Int×SV},RlT K as H us kvs->kvs[i]?=some p->∃ v,us[i]?=some (p.1.map Sum.inl,v)
 | [],_,_,_,_,h=>by simp at h
 | p::r,_,0,_,⟨v,t,e,_,h2⟩,h=>by
   simp at h;subst h;rw[e];exact⟨v,rfl⟩
 | p::r,_,i+1,_,⟨v,t,e,_,h2⟩,h=>by
   rw[e];obtain⟨v,hv⟩:=h2.get (i:=i) (by simpa using h);exact⟨v,by simpa using hv⟩
theorem Ck:∀{a b:List Int},a.map (Sum.inl:Int->Key)=b.map Sum.inl->a=b
 | [],[],_=>rfl
 | [],_::_,h=>by simp at h
 | _::_,[],h=>by simp at h
 | a::x,b::y,h=>by
   rw[VP,VP]at h;injection h with h1 h2;injection h1 with h1;rw[h1,Ck h2]
theorem RlT.val(k:List Int):∀{kvs:List (List Int×SV)} {us:List (List Key×V)},RlT K as H us kvs->(∃ x v,Jg kvs k=some x/\AB us (k.map Sum.inl)=some v/\Rl K as H v x)\/(Jg kvs k=none/\AB us (k.map Sum.inl)=none)
 | [],_,h=>by rw[show _=_ from h];exact .inr ⟨rfl,rfl⟩
 | p::r,_,⟨v,t,e,h1,h2⟩=>by
   rw[e];by_cases z:p.1=k
   ·refine .inl ⟨p.2,v,?_,B8 (by rw[z]),h1⟩;unfold Jg;rw[Vd,decide_eq_true z];rfl
   ·rw[B9 (λy=>z (Ck y)),show Jg (p::r) k=Jg r k by unfold Jg;rw[Vd,decide_eq_false z]];exact RlT.val k h2
theorem RlT.snoc{k:List Int}{v:V}{x:SV}(rv:Rl K as H v x):∀{kvs:List (List Int×SV)} {us:List (List Key×V)},RlT K as H us kvs->RlT K as H (us++[(k.map Sum.inl,v)]) (kvs++[(k,x)])
 | [],_,h=>by rw[show _=_ from h];exact⟨v,[],rfl,rv,rfl⟩
 | p::r,_,⟨w,t,e,h1,h2⟩=>by rw[e];exact⟨w,_,rfl,h1,h2.snoc rv⟩
theorem MY{x:SV}{v u:V}(f:v4 x=true)(a:Rl K as H v x)(b:Rl K as H u x):r6 v=true/\v=u:=by
 cases x<;>first | (cases f;done) | (unfold Rl at a b;subst a;subst b;exact⟨rfl,rfl⟩)
theorem En{S:Sto}(ok:Ok K as H S):∀(k:Nat) {x y:SV} {v u:V},EqS S k x y->Rl K as H v x->Rl K as H u y->EqH K H k v u
 | 0,x,y,v,u,h,rx,ry=>by
   obtain⟨f,rfl⟩:=h;exact MY f rx ry
 | k+1,x,y,v,u,h,rx,ry=>by
   rcases h with h | ⟨a,b,xs,ys,rfl,rfl,h1,h2,hl,it⟩ | ⟨xs,ys,rfl,rfl,hl,it⟩
   ·exact .inl (En ok k h rx ry)
   ·obtain⟨p,vs,rfl,_,hp,rp⟩:=j0 ok rx h1;obtain⟨q,ws,rfl,_,hq,rq⟩:=j0 ok ry h2;refine .inr ⟨p,q,vs,ws,rfl,rfl,.inl ⟨SqL.of hp,SqL.of hq⟩,by rw[rp.length,rq.length,hl],λi u v e1 e2=>?_⟩;obtain⟨x,x1,x2⟩:=rp.get' e1;obtain⟨y,y1,y2⟩:=rq.get' e2;exact En ok k (it i x y x1 y1) x2 y2
   ·obtain⟨p,vs,rfl,hp,rp⟩:=rl_tup.mp rx;obtain⟨q,ws,rfl,hq,rq⟩:=rl_tup.mp ry;refine .inr ⟨p,q,vs,ws,rfl,rfl,.inr ⟨SqT.of hp,SqT.of hq⟩,by rw[rp.length,rq.length,hl],λi u v e1 e2=>?_⟩;obtain⟨x,x1,x2⟩:=rp.get' e1;obtain⟨y,y1,y2⟩:=rq.get' e2;exact En ok k (it i x y x1 y1) x2 y2
theorem IZ{n:Bool}:B0 K (Lz n) (Rw K n):=λas H S x y v u Q ok rx ry h=>by
 obtain⟨a,b,xs,ys,rfl,rfl,h1,h2,hl,it,q⟩:=h;obtain⟨p,vs,rfl,_,hp,rp⟩:=j0 ok rx h1;obtain⟨r,ws,rfl,_,hr,rr⟩:=j0 ok ry h2;refine⟨p,r,vs,ws,rfl,rfl,SqL.of hp,SqL.of hr,by rw[rp.length,rr.length,hl],λi u v e1 e2=>?_,q.here ok (rl_bl.mpr rfl)⟩;obtain⟨x,x1,x2⟩:=rp.get' e1;obtain⟨y,y1,y2⟩:=rr.get' e2;exact En ok 2 (it i x y x1 y1) x2 y2
end
theorem C0{n:Bool}:Mono2 (Lz n):=λx y S P P' i ⟨k,l,ts,us,a,b,c,d,e,f,q⟩=>⟨k,l,ts,us,a,b,c,d,e,f,i _ _ q⟩
theorem Jz{X:Cx}{n:Bool}{ra rb:Expr}{p:Pos}{wa wb:WE}(hu:X.A.units+3<cLine)(ha:PE X ra (lift X.K wa))(hb:PE X rb (lift X.K wb))(ma:Mono wa)(mb:Mono wb)(hn:u7 rb=true):Good X (.Compare ra [if n then CmpOp.NotEq else CmpOp.Eq] [rb] p) (tt2 (w2 (Lz n) wa wb)):=by
 have m:Mono (w2 (Lz n) wa wb) := .two C0 ma mb;have ho:OpR X (Yb (if n then CmpOp.NotEq else CmpOp.Eq)) (Rw X.K n):=Rx n hu
 exact{pe:=g9 _ (Ce ho ha hb (w5 hn)) (A7 IZ C0 ma mb)
       pt:=Bj _ (Cf ho ha hb (w5 hn)) λσ H Q h=>A7 IZ C0 ma mb σ H _ (DC m σ H Q h)
       m:=m
       mt := .bl m
       pw:=λ_ _ _ e=>by cases e}
section
variable{K:Um}{as:List YN}{H:Hp}
theorem RlT.any:∀{kvs:List (List Int×SV)} {us:List (List Key×V)},RlT K as H us kvs->∀ k,(us.any λkv=>decide (kv.1=k.map Sum.inl))=kvs.any λp=>decide (p.1=k)
 | [],_,h,k=>by rw[show _=_ from h];rfl
 | p::r,_,⟨v,t,e,_,h2⟩,k=>by
   rw[e,W2,W2,RlT.any h2 k];by_cases z:p.1=k
   ·rw[decide_eq_true z,decide_eq_true (show _=_ by rw[z])]
   ·rw[decide_eq_false z,decide_eq_false (λy=>z (Ck y))]
theorem RlT.set{v:V}{x:SV}(rv:Rl K as H v x):∀{kvs:List (List Int×SV)} {us:List (List Key×V)},RlT K as H us kvs->∀ k:List Int,RlT K as H (us.map λkv=>if kv.1=k.map Sum.inl then (kv.1,v) else kv) (kvs.map λp=>if p.1=k then (p.1,x) else p)
 | [],_,h,k=>by rw[show _=_ from h];rfl
 | p::r,_,⟨w,t,e,h1,h2⟩,k=>by
   rw[e,VP,VP];by_cases z:p.1=k
   ·rw[iP z,iP (by rw[z])];exact⟨v,_,rfl,rv,RlT.set rv h2 k⟩
   ·rw[iG z,iG (λy=>z (Ck y))];exact⟨w,_,rfl,h1,RlT.set rv h2 k⟩
theorem RlT.put{kvs:List (List Int×SV)}{us:List (List Key×V)}{v:V}{x:SV}(h:RlT K as H us kvs)(rv:Rl K as H v x)(k:List Int):RlT K as H (B7 us (k.map Sum.inl) v) (QB kvs k x):=by
 unfold B7 QB;rw[h.any k];split
 ·exact h.set rv k
 ·exact h.snoc rv
theorem RlT.vals:∀{kvs:List (List Int×SV)} {us:List (List Key×V)},RlT K as H us kvs->RlAll K as H (us.map (·.2)) (kvs.map (·.2))
 | [],_,h=>by rw[show _=[] from h];rfl
 | p::r,_,⟨v,t,e,a,h⟩=>by rw[e];exact⟨v,_,rfl,a,RlT.vals h⟩
end
noncomputable def EB(K:Um)(g:Tg):TG:=λv σ H Q=>∃ as ρ S x,Ok K as H S/\EnvOk K as H σ ρ/\Rl K as H v x/\wTg g x ρ λρ'=>∀ σ',EnvOk K as H σ' ρ'->Q σ' H
noncomputable def SB(K:Um)(g:Tgs):TGs:=λvs σ H Q=>∃ as ρ S xs,Ok K as H S/\EnvOk K as H σ ρ/\RlAll K as H vs xs/\AU g xs ρ λρ'=>∀ σ',EnvOk K as H σ' ρ'->Q σ' H
mutual
theorem w6:∀(g:Tg) {x:SV} {ρ:EnvS} {P P':EnvS->Prop},(∀ r,P r->P' r)->wTg g x ρ P->wTg g x ρ P'
 | .nm i,x,ρ,P,P',h,q=>by unfold wTg at q ⊢;exact h _ q
 | .tup ts,x,ρ,P,P',h,q=>by
   cases x with
   | tup xs=>unfold wTg at q ⊢;exact Fj ts h q
   | _=>unfold wTg at q;exact q.elim
theorem Fj:∀(g:Tgs) {x:List SV} {ρ:EnvS} {P P':EnvS->Prop},(∀ r,P r->P' r)->AU g x ρ P->AU g x ρ P'
 | .nil,x,ρ,P,P',h,q=>by
   cases x with
   | nil=>unfold AU at q ⊢;exact h _ q
   | cons _ _=>unfold AU at q;exact q.elim
 | .cons t ts,x,ρ,P,P',h,q=>by
   cases x with
   | nil=>unfold AU at q;exact q.elim
   | cons y ys=>unfold AU at q ⊢;exact w6 t (λr q=>Fj ts h q) q
end
theorem BF{env:Env}:∀{es:List Expr},es.all e8=true->(Yq es env).length=es.length/\(Yq es env).findIdx? (·.1)=none/\∀ e r,es=e::r->(Yq (e::r) env).map (·.2)=assign e env::(Yq r env).map (·.2)
 | [],_=>⟨rfl,rfl,λe r h=>by cases h⟩
 | e::es,h=>by
   rw[Vz,Uo]at h;obtain⟨h1,h2,_⟩:=BF (env:=env) h.2;have:Yq (e::es) env=(false,assign e env)::Yq es env:=by cases e<;>first | rfl | (have:=h.1;cases this)
   rw[this];refine⟨by simp[h1],by rw[List.findIdx?_cons,h2];rfl,λe' r z=>?_⟩;injection z with z1 z2;subst z1 z2;rw[this];rfl
theorem CK{k:Nat}{N:List Str}{sc:Yd}:∀{g:Tgs} {es:List Expr},AO k N sc g es=true->es.all e8=true
 | .nil,es,h=>by unfold AO at h;rw[Ve]at h;subst h;rfl
 | .cons t ts,es,h=>by
   rw[AO]at h;replace h:=a6 h;obtain⟨e,he,h⟩:=h;simp only[Uo]at h;rw[AY he,Vz,h.1.2,CK h.2];rfl
section
variable{X:Cx}{T:List Str}{Δ:Nat->Sn}{k:Nat}{N:List Str}{sc:Yd}
mutual
theorem BG(C:Cok T Δ X k N sc):∀(g:Tg) (r:Expr),BE k N sc g r=true->PG X r (EB X.K g)
 | .nm i,r,h=>by
   rw[BE]at h;replace h:=a6 h;obtain⟨x,hx,h⟩:=h;obtain⟨p,rfl⟩:=BD hx
   ·simp only[Uo,dQ]at h;obtain⟨⟨h1,h2⟩,h3⟩:=h;unfold loc at h3;simp only[Va,beq_iff_eq]at h3;have hl:Loc X.env.scope x:=by rw[C.hs];exact h3
    have hf:X.fn x=true\/X.env.scope.names.lookup x=some .local:=by
     rw[C.hs];rcases h3 with h3 | h3
     ·exact .inr h3
     ·exact .inl (C.fn i x h1 h2 h3)
    have b:=Nc (X:=X) (pos:=p) (i:=i) (by rw[C.hN];exact C.nd) (by rw[C.hN];exact h2) hl hf;intro pq s σ H v u Q I rr hq;obtain⟨as,ρ,S,y,ok,en,rv,q⟩:=hq;unfold wTg at q;exact b pq s σ H v u Q I rr (q _ (en.set rv))
 | .tup ts,r,h=>by
   rw[BE]at h;replace h:=a6 h;obtain⟨es,he,h⟩:=h;obtain⟨j,p,rfl⟩:=BU he
   ·have st:=BF (env:=X.env) (CK h);have b:=Qq (X:=X) (k:=j) (pos:=p) C.calm (EC C ts es h) st.1 st.2.1;intro pq s σ H v u Q I rr hq;refine b pq s σ H v u Q I rr ?_;obtain⟨as,ρ,S,y,ok,en,rv,q⟩:=hq;cases y with
    | tup xs=>
      obtain⟨a,vs,rfl,ha,ra⟩:=rl_tup.mp rv;unfold wTg at q;refine⟨a,vs,rfl,SqT.of ha,?_,as,ρ,S,xs,ok,en,ra,q⟩;rw[ra.length];exact Ia ts es xs h q
    | _=>unfold wTg at q;exact q.elim
theorem EC(C:Cok T Δ X k N sc):∀(g:Tgs) (es:List Expr),AO k N sc g es=true->PGs X es (SB X.K g)
 | .nil,es,h=>by
   rw[AO]at h;rw[Ve]at h;subst h;intro pq s σ H vs us Q I rr hq;refine Nd pq s σ H vs us Q I rr ?_;obtain⟨as,ρ,S,xs,ok,en,rv,q⟩:=hq;cases xs with
   | nil=>unfold AU at q;exact⟨rla_nil.mp rv,q _ en⟩
   | cons _ _=>unfold AU at q;exact q.elim
 | .cons t ts,el,h=>by
   have st:=BF (env:=X.env) (CK h);rw[AO]at h;replace h:=a6 h;obtain⟨e,he,h⟩:=h;simp only[Uo]at h;rw[AY he]at st ⊢;generalize el.tail=es at h st;intro pq s σ H vs us Q I rr hq;refine Ka (BG C t e h.1.1) (EC C ts es h.2) (st.2.2 _ _ rfl) pq s σ H vs us Q I rr ?_;obtain⟨as,ρ,S,xs,ok,en,rv,q⟩:=hq;cases xs with
   | nil=>unfold AU at q;exact q.elim
   | cons y ys=>
     unfold AU at q;obtain⟨v,r,rfl,r1,r2⟩:=rla_cons.mp rv;exact⟨v,r,rfl,as,ρ,S,y,ok,en,r1,w6 t (λρ' q σ' en'=>⟨as,ρ',S,ys,ok,en',r2,q⟩) q⟩
theorem Ia:∀(g:Tgs) (es:List Expr) (xs:List SV) {ρ:EnvS} {P:EnvS->Prop},AO k N sc g es=true->AU g xs ρ P->xs.length=es.length
 | .nil,es,xs,ρ,P,h,q=>by
   rw[AO]at h;rw[Ve]at h;subst h;cases xs with
   | nil=>rfl
   | cons _ _=>unfold AU at q;exact q.elim
 | .cons t ts,el,xs,ρ,P,h,q=>by
   rw[AO]at h;replace h:=a6 h;obtain⟨e,he,h⟩:=h;simp only[Uo]at h;rw[AY he];generalize el.tail=es at h;cases xs with
   | nil=>unfold AU at q;exact q.elim
   | cons y ys=>
     unfold AU at q;obtain⟨ρ',q'⟩:=Ib t q;simp[Ia ts es ys h.2 q']
theorem Ib:∀(g:Tg) {x:SV} {ρ:EnvS} {P:EnvS->Prop},wTg g x ρ P->∃ ρ',P ρ'
 | .nm i,x,ρ,P,q=>by unfold wTg at q;exact⟨_,q⟩
 | .tup ts,x,ρ,P,q=>by
   cases x with
   | tup xs=>unfold wTg at q;exact Fk ts q
   | _=>unfold wTg at q;exact q.elim
theorem Fk:∀(g:Tgs) {xs:List SV} {ρ:EnvS} {P:EnvS->Prop},AU g xs ρ P->∃ ρ',P ρ'
 | .nil,xs,ρ,P,q=>by
   cases xs with
   | nil=>unfold AU at q;exact⟨_,q⟩
   | cons _ _=>unfold AU at q;exact q.elim
 | .cons t ts,xs,ρ,P,q=>by
   cases xs with
   | nil=>unfold AU at q;exact q.elim
   | cons y ys=>
     unfold AU at q;obtain⟨ρ',q'⟩:=Ib t q;exact Fk ts q'
end
end
structure Gu(as:List YN)(H:Hp)(as':List YN)(H':Hp):Prop where
 pre:as <+: as'
 kp:KeepU H H'
theorem Gu.ku{K:Um}{as as':List YN}{H H':Hp}{S:Sto}(g:Gu as H as' H')(_:Ok K as H S):KeepU H H':=g.kp
theorem Go.gu{K:Um}{as as':List YN}{H H':Hp}{S:Sto}(g:Go as H as' H')(ok:Ok K as H S):Gu as H as' H':=⟨g.pre,g.ku ok⟩
noncomputable def Walks(K:Um)(as0:List YN)(H0:Hp)(J:It)(keep:Sto->Prop)(xs:List SV):Prop:=∀ as H S,Gu as0 H0 as H->Ok K as H S->keep S->
 (∀(i:Nat) (x:SV),xs[i]?=some x->J.go i H/\∀ v H',J.yld i H v H'->Go as H as H'/\Ok K as H' S/\Rl K as H' v x)/\J.stop xs.length H
noncomputable def UB(K:Um)(as:List YN)(H:Hp)(R:It->Hp->Prop):(Sto->Prop)->List SV->Sto->Prop:=λkeep xs S1=>∀ as1 H1 J,Go as H as1 H1->Ok K as1 H1 S1->Walks K as1 H1 J keep xs->R J H1
noncomputable def liftI(K:Um)(w:WI):TI:=λσ H R=>∃ as ρ S,Ok K as H S/\EnvOk K as H σ ρ/\w ρ S (UB K as H R)
def MonoI(w:WI):Prop:=∀ ρ S (P P':(Sto->Prop)->List SV->Sto->Prop),(∀ k x S',P k x S'->P' k x S')->w ρ S P->w ρ S P'
structure GoodI(X:Cx)(tg r:Expr)(w:WI):Prop where
 pi:PI X tg r (liftI X.K w)
 m:MonoI w
section
variable{X:Cx}{K:Um}
theorem Fl{as0 as:List YN}{H0 H:Hp}{S1 S:Sto}{x:SV}{v:V}{xs:List SV}(ok1:Ok K as0 H0 S1)(r:Rl K as0 H0 v x)(h:seqS x S1=some xs)(g:Gu as0 H0 as H)(ok:Ok K as H S)(kp:keepS x S1 S):Rl K as H v x/\seqS x S=some xs:=by
 refine⟨Rl.mono g.pre (g.ku ok1) x v r,?_⟩;cases x with
 | loc k=>
   have kp:S[k]?=S1[k]?:=kp;unfold seqS at h ⊢;simp only[kp];exact h
 | _=>exact h
theorem K0{as0:List YN}{H0:Hp}{S1:Sto}{x:SV}{a:YN}{xs:List SV}(ok1:Ok K as0 H0 S1)(r:Rl K as0 H0 (.ref a) x)(n:x ≠ .tup xs)(h:seqS x S1=some xs):Walks K as0 H0 (Itl K a) (keepS x S1) xs:=λas H S g ok kp=>by
 obtain⟨r',h'⟩:=Fl ok1 r h g ok kp;obtain⟨b,vs,e,hq,rr⟩:=AH ok r' n h';cases e;refine⟨λi y hy=>?_,vs,hq,by rw[rr.length];exact Ux _⟩;obtain⟨v,hv,rv⟩:=rr.get hy;refine⟨⟨vs,v,hq,hv⟩,λu H' yl=>?_⟩;obtain⟨e,yl⟩:=yl;subst e;have:=yl vs hq;rw[hv]at this;cases this;exact⟨Go.refl _ _,ok,rv⟩
theorem MZ{as0:List YN}{H0:Hp}{S1:Sto}{a:YN}{xs:List SV}(ok1:Ok K as0 H0 S1)(r:Rl K as0 H0 (.ref a) (.tup xs)):Walks K as0 H0 (Itt K a) (keepS (.tup xs) S1) xs:=λas H S g ok kp=>by
 have r':=Rl.mono g.pre (g.ku ok1) _ _ r;obtain⟨b,vs,e,hb,rr⟩:=rl_tup.mp r';cases e;refine⟨λi y hy=>?_,vs,SqT.of hb,by rw[rr.length];exact Ux _⟩;obtain⟨v,hv,rv⟩:=rr.get hy;refine⟨⟨vs,v,SqT.of hb,hv⟩,λu H' yl=>?_⟩;obtain⟨e,yl⟩:=yl;subst e;have:=yl vs (SqT.of hb);rw[hv]at this;cases this;exact⟨Go.refl _ _,ok,rv⟩
theorem Ma{as0:List YN}{H0:Hp}{lo hi:Int}:Walks K as0 H0 (Itr lo (hi - lo).toNat) (λ_=>True) (CI lo hi):=λas H S g ok _=>by
 have hl:(CI lo hi).length=(hi - lo).toNat:=by unfold CI;simp
 refine⟨λi y hy=>?_,by show(hi - lo).toNat<=(CI lo hi).length;rw[hl];exact Ux _⟩;have hi':i<(hi - lo).toNat:=by rw[<-hl];exact(gM hy).1
 refine⟨hi',λu H' yl=>?_⟩;obtain⟨e,rfl⟩:=yl;subst e
 have:y = .int (lo+i):=by
  unfold CI at hy;rw[Uz,Vu hi']at hy;exact(oj hy).symm
 subst this;exact⟨Go.refl _ _,ok,rl_int.mpr rfl⟩
theorem Fm{xs:List SV}{i:Nat}{y:SV}(h:(BC xs)[i]?=some y):∃ x,xs[i]?=some x/\y = .tup [.int i,x]:=by
 unfold BC at h;rw[XY]at h;cases h1:(Uy xs.length)[i]? with
 | none=>rw[h1]at h;cases h
 | some j=>
   cases h2:xs[i]? with
   | none=>rw[h1,h2]at h;cases h
   | some x=>
     rw[h1,h2]at h;have hi:=(gM h2).1;rw[Vu hi]at h1;cases h1;cases h;exact⟨x,rfl,rfl⟩
theorem Fn{xs:List SV}:(BC xs).length=xs.length:=by unfold BC;simp
theorem HM{as0:List YN}{H0:Hp}{S1:Sto}{x:SV}{a:YN}{xs:List SV}(ok1:Ok K as0 H0 S1)(r:Rl K as0 H0 (.ref a) x)(n:x ≠ .tup xs)(h:seqS x S1=some xs):Walks K as0 H0 (RE K a) (keepS x S1) (BC xs):=λas H S g ok kp=>by
 obtain⟨r',h'⟩:=Fl ok1 r h g ok kp;obtain⟨b,vs,e,hq,rr⟩:=AH ok r' n h';cases e;refine⟨λi y hy=>?_,vs,hq,by rw[rr.length,Fn]⟩;obtain⟨z,hz,rfl⟩:=Fm hy;obtain⟨v,hv,rv⟩:=rr.get hz;refine⟨⟨vs,v,hq,hv⟩,λu H' yl=>?_⟩;obtain⟨p,w,hp,rfl,yl,rfl⟩:=yl;have:=yl vs hq;rw[hv]at this;cases this;exact⟨Go.new hp,ok.new hp,rl_tup.mpr ⟨p,_,rfl,n6,.cons (rl_int.mpr rfl) (.cons (Rl.mono (Vn _) (Am hp) z v rv) .nil)⟩⟩
theorem HN{as0:List YN}{H0:Hp}{S1:Sto}{a:YN}{xs:List SV}(ok1:Ok K as0 H0 S1)(r:Rl K as0 H0 (.ref a) (.tup xs)):Walks K as0 H0 (RF K a) (keepS (.tup xs) S1) (BC xs):=λas H S g ok kp=>by
 have r':=Rl.mono g.pre (g.ku ok1) _ _ r;obtain⟨b,vs,e,hb,rr⟩:=rl_tup.mp r';cases e;refine⟨λi y hy=>?_,vs,SqT.of hb,by rw[rr.length,Fn]⟩;obtain⟨z,hz,rfl⟩:=Fm hy;obtain⟨v,hv,rv⟩:=rr.get hz;refine⟨⟨vs,v,SqT.of hb,hv⟩,λu H' yl=>?_⟩;obtain⟨p,w,hp,rfl,yl,rfl⟩:=yl;have:=yl vs (SqT.of hb);rw[hv]at this;cases this;exact⟨Go.new hp,ok.new hp,rl_tup.mpr ⟨p,_,rfl,n6,.cons (rl_int.mpr rfl) (.cons (Rl.mono (Vn _) (Am hp) z v rv) .nil)⟩⟩
theorem HP{tg l:Expr}{w:TI}(w':TI)(h:PI X tg l w)(imp:∀ σ H R,w' σ H R->w σ H R):PI X tg l w':=λpq s σ H R I hw=>h pq s σ H R I (imp σ H R hw)
def Ul(K:Um)(tl:TE):TI:=λσ H R=>tl σ H λx H1=>∃ a,x = .ref a/\(((∃ xs,SqL K H1 a xs)/\R (Itl K a) H1)\/((∃ xs,SqT K H1 a xs)/\R (Itt K a) H1))
theorem SC{tg l:Expr}{tl:TE}(hl:PE X l tl):PI X tg l (Ul X.K tl):=by
 intro pq s σ H R I h;refine thn (hl pq s σ H _ I h) λv s1 ⟨x,H1,I1,r1,q1⟩=>?_;obtain⟨a,e,q⟩:=q1;subst e;cases r1;have I2:∀{ob:Obj},Inv X pq σ H1 {s1 with heap:=s1.heap.push ob}:=I1.kept (t':=s1.toks) λb o e=>Uw _ e
 have fp:∀ b∈[s1.heap.objs.size],FpOk X pq H1 b:=λb hb=>by
  rw[V3.mp hb];exact I1.fpOk (Ux _) (I1.hok.fresh (Ux _))
 rcases q with⟨⟨xs,hq⟩,q⟩ | ⟨⟨xs,hq⟩,q⟩
 ·obtain⟨its,rv,p,hz⟩:=I1.list hq;exact Yw p.isList ⟨s1.heap.objs.size,[s1.heap.objs.size],_,_,H1,rfl,I2,JF a _,⟨_,V8 _ rfl,rfl,rfl⟩,fp,q⟩
 ·obtain⟨its,rv,p,hz⟩:=I1.tuple hq;exact ZG (show s1.heap.IsTuple a its.toArray from p) ⟨s1.heap.objs.size,[s1.heap.objs.size],_,_,H1,rfl,I2,GO a _,⟨_,V8 _ rfl,rfl,rfl⟩,fp,q⟩
theorem K1{tg r:Expr}{a:WE×WT}(ha:Good X r a):GoodI X tg r (QA a.1) where
 m:=λρ S P P' i h=>ha.m _ _ _ _ (λx S1 ⟨xs,e,q⟩=>⟨xs,e,i _ _ _ q⟩) h
 pi:=HP _ (SC ha.pe) (by
  rintro σ H R ⟨as,ρ,S,ok,en,h⟩;refine⟨as,ρ,S,ok,en,ha.m _ _ _ _ (λx S1 ⟨xs,e,q⟩ as1 H1 v g1 ok1 rv=>?_) h⟩;by_cases ht:x = .tup xs
  ·subst ht;obtain⟨p,vs,rfl,hp,rr⟩:=rl_tup.mp rv;exact⟨p,rfl,.inr ⟨⟨vs,SqT.of hp⟩,q as1 H1 _ g1 ok1 (MZ ok1 rv)⟩⟩
  ·obtain⟨p,vs,rfl,hq,rr⟩:=AH ok1 rv ht e;exact⟨p,rfl,.inl ⟨⟨vs,hq⟩,q as1 H1 _ g1 ok1 (K0 ok1 rv ht e)⟩⟩)
theorem HQ{T:List Str}{Δ:Nat->Sn}{k:Nat}{N:List Str}{sc:Yd}{elts:List Expr}{kx:Nat}{tp p q:Pos}{r:Expr}{a:WE×WT}(C:Cok T Δ X k N sc)(hg:glo sc "enumerate"=true)(ha:Good X r a)(hs:e8 r=true):GoodI X (.Tuple elts kx tp) (.Call (.Name "enumerate" p) [r] [] q) (Lu a.1) where
 m:=λρ S P P' i h=>ha.m _ _ _ _ (λx S1 ⟨xs,e,q⟩=>⟨xs,e,i _ _ _ q⟩) h
 pi:=by
  unfold glo at hg;simp only[Uo,beq_iff_eq,VM]at hg;have gl:Gl X "enumerate":=by show X.env.scope.names.lookup ("enumerate":Str)=_;rw[C.hs];exact hg.1.1
  refine HP _ (Np gl C.enm (AX ha.pe Bh (i6 hs)) (i6 hs)) ?_;rintro σ H R ⟨as,ρ,S,ok,en,h⟩;refine⟨as,ρ,S,ok,en,ha.m _ _ _ _ (λx S1 ⟨xs,e,q⟩ as1 H1 v g1 ok1 rv=>?_) h⟩;by_cases ht:x = .tup xs
  ·subst ht;obtain⟨p,vs,rfl,hp,rr⟩:=rl_tup.mp rv;exact⟨p,rfl,.inr ⟨⟨vs,SqT.of hp⟩,q as1 H1 _ g1 ok1 (HN ok1 rv)⟩⟩
  ·obtain⟨p,vs,rfl,hq,rr⟩:=AH ok1 rv ht e;exact⟨p,rfl,.inl ⟨⟨vs,hq⟩,q as1 H1 _ g1 ok1 (HM ok1 rv ht e)⟩⟩
theorem HR{T:List Str}{Δ:Nat->Sn}{k:Nat}{N:List Str}{sc:Yd}{tg r:Expr}{p q:Pos}{a:WE×WT}(C:Cok T Δ X k N sc)(hg:glo sc "range"=true)(ha:Good X r a)(hs:e8 r=true):GoodI X tg (.Call (.Name "range" p) [r] [] q) (Ls a.1) where
 m:=λρ S P P' i h=>ha.m _ _ _ _ (λx S1 ⟨j,e,z,q⟩=>⟨j,e,z,i _ _ _ q⟩) h
 pi:=by
  unfold glo at hg;simp only[Uo,beq_iff_eq,VM]at hg;have gl:Gl X "range":=by show X.env.scope.names.lookup ("range":Str)=_;rw[C.hs];exact hg.1.1
  refine HP _ (JG gl C.rng (AX ha.pe Bh (i6 hs)) (i6 hs)) ?_;rintro σ H R ⟨as,ρ,S,ok,en,h⟩;refine⟨as,ρ,S,ok,en,ha.m _ _ _ _ (λx S1 ⟨j,e,z,q⟩ as1 H1 v g1 ok1 rv=>?_) h⟩;subst e;refine⟨j,by rw[rl_int.mp rv],z.1,z.2,?_⟩;have:=q as1 H1 (Itr 0 (j - 0).toNat) g1 ok1 Ma
  rwa [Int.sub_zero]at this
end
end Rf
namespace L2
open PySem PySem.Spec PyProof.Rows
noncomputable def SetXO(prog:YT)(w:YX)(o:Obj)(L:List Int):Prop:=
 ∃ es ep t,o.ExactSet/\o.data = .set es ep t/\ElemsOf (intKind prog w) es.toList/\es.size<scanBound/\t.fits es.size=true/\Tab w t/\(es.toList.map λe=>numOf e.2).Perm L
theorem SetXO.at{prog:YT}{w:YX}{o:Obj}{L:List Int}{h:Heap}{a:YN}(x:SetXO prog w o L)(e:h.get? a=some o):SetX prog w h a L:=let ⟨es,ep,t,r⟩:=x;⟨o,es,ep,t,e,r⟩
theorem SetX.obj{prog:YT}{w:YX}{L:List Int}{h:Heap}{a:YN}(x:SetX prog w h a L):∃ o,h.get? a=some o/\SetXO prog w o L:=let ⟨o,es,ep,t,e,r⟩:=x;⟨o,e,es,ep,t,r⟩
end L2
namespace Rf
open PySem L2
theorem K2{α:Type}{o:Option (Option α)}{x:α}(h:o.join=some x):o=some (some x):=by
 cases o with
 | none=>cases h
 | some o=>cases o with
   | none=>cases h
   | some y=>cases h;rfl
theorem EnvOk.cap{K:Um}{as:List YN}{H:Hp}{σ:St}{ρ:EnvS}(h:EnvOk K as H σ ρ)(k:Nat)(js:List Nat):EnvOk K as H (Ay k js σ) (FT k js ρ):=by
 refine⟨by unfold Ay FT;simp,λi x e=>?_⟩;unfold FT at e;unfold Ay;by_cases hi:i<k
 ·rw[V9 (by simpa using hi),W3,iP hi]at e;cases e
 ·rw[VL (by simpa using hi),WC,Uz]at e;rw[VL (by simpa using hi),WC,Uz];cases hj:js[i - k]? with
  | none=>rw[hj]at e;cases e
  | some j=>
    rw[hj]at e;have e':(ρ[j]?).join=some x:=oj e;obtain⟨v,hv,rv⟩:=h.2 j x (K2 e');exact⟨v,by simp only[WK];rw[hv];rfl,rv⟩
theorem Ok.adopt{K:Um}{as:List YN}{H:Hp}{S:Sto}{D:YN}{vs:List V}{xs:List SV}(h:Ok K as H S)(n:D∉as)(hD:H D=some (.lst vs))(r:RlAll K as H vs xs):Ok K (as++[D]) H (S++[.lst xs]):=by
 have pre:as <+: as++[D]:=Wg _ _;refine⟨by rw[Ut,Ut,h.len];rfl,?_,λk o a e ea=>?_⟩
 ·rw[Wz];refine⟨h.nd,by simp,λa ha b hb=>?_⟩;rw[V3.mp hb];intro z;subst z;exact n ha
 ·by_cases hk:k<S.length
  ·rw[V9 hk]at e;rw[V9 (by rw[h.len];exact hk)]at ea;exact(h.obj k o a e ea).mono pre (KeepU.refl _) λ_ z=>z
  ·have hk':k=S.length:=by
    have:=(gM e).1;rw[Ut,Vp]at this;omega
   subst hk';rw[VT]at e;rw[<-h.len,VT]at ea;cases e;cases ea;exact⟨vs,hD,RlAll.mono pre (KeepU.refl _) xs vs r⟩
theorem Bm{keep:Sto->Prop}{g:Tg}{t:WT}{e:WE}{ρ:EnvS}(mt:MonoT t)(me:Mono e){Q Q':List SV->Sto->Prop}(i:∀ ys S,Q ys S->Q' ys S):∀(xs ys:List SV) (S:Sto),p0 keep g t e ρ Q xs ys S->p0 keep g t e ρ Q' xs ys S
 | [],ys,S,h=>by unfold p0 at h ⊢;exact⟨h.1,i _ _ h.2⟩
 | x::xs,ys,S,h=>by
   unfold p0 at h ⊢;refine⟨h.1,w6 g (λρ2 q=>mt _ _ _ _ (λb S1 q=>l0 (λq=>me _ _ _ _ (λy S2 q=>⟨q.1,Bm mt me i xs _ _ q.2⟩) q) (λq=>Bm mt me i xs _ _ q) q) q) h.2⟩
theorem Mono.comp{k:Nat}{js:List Nat}{g:Tg}{i:WI}{t:WT}{e:WE}(mi:MonoI i)(mt:MonoT t)(me:Mono e):Mono (IP k js g i t e):=λρ S P P' im h=>mi _ _ _ _ (λkeep xs S1 h=>Bm mt me (λys S2 q=>im _ _ q) xs [] S1 h) h
theorem Fo{K:Um}{k:Nat}{js:List Nat}{g:Tg}{i:WI}{t:WT}{e:WE}(mi:MonoI i)(mt:MonoT t)(me:Mono e):∀ σ H Q,lift K (IP k js g i t e) σ H Q->L5 (liftI K i) (EB K g) (liftT K t) (lift K e) k js σ H Q:=by
 rintro σ H Q ⟨as,ρ,S,ok,en,h⟩;refine⟨as,ρ,S,ok,en,mi _ _ _ _ (λkeep xs S1 h as1 H1 J g1 ok1 W=>?_) h⟩;intro D hD;have Dn:D∉as1:=ok1.free hD
 refine⟨λi m vs H2=>m=xs.length - i/\i<=xs.length/\∃ as2 S2 ys,Go as1 H1 as2 H2/\Ok K as2 H2 S2/\D∉as2/\H2 D=some (.lst vs)/\RlAll K as2 H2 vs ys/\
  p0 keep g t e (FT k js ρ) (λys S2=>Post K as H Q (.loc S2.length) (S2++[.lst ys])) (xs.drop i) ys S2,⟨xs.length,by simp,Ww _,as1,S1,[],Go.new hD,ok1.new hD,Dn,n6,.nil,h⟩,?_⟩
 rintro i m vs H2 ⟨rfl,hi,as2,S2,ys,g2,ok2,n2,d2,rs,h⟩;by_cases hlt:i<xs.length
 ·right;rw[WR hlt]at h;unfold p0 at h;obtain⟨kp,h⟩:=h;obtain⟨w1,_⟩:=W as2 H2 S2 (g2.gu ok1) ok2 kp;obtain⟨go,yl⟩:=w1 i xs[i] (Uq hlt)
  refine⟨go,λvs' H'=>∃ as2 S2 ys,Go as1 H1 as2 H'/\Ok K as2 H' S2/\D∉as2/\H' D=some (.lst vs')/\RlAll K as2 H' vs' ys/\
   p0 keep g t e (FT k js ρ) (λys S2=>Post K as H Q (.loc S2.length) (S2++[.lst ys])) (xs.drop (i+1)) ys S2,λvs' H' z=>⟨xs.length - (i+1),by omega,rfl,hlt,z⟩,λx H3 y3=>?_⟩
  obtain⟨g3,ok3,rx⟩:=yl x H3 y3;have en3:EnvOk K as2 H3 (Ay k js σ) (FT k js ρ):=((en.mono g1.pre (g1.ku ok)).mono (g2.trans g3).pre ((g2.trans g3).ku ok1)).cap k js;have rs3:=RlAll.mono g3.pre (g3.ku ok2) ys vs rs;obtain⟨d3,n3⟩:=g3.keep D _ d2 n2;refine⟨as2,FT k js ρ,S2,_,ok3,en3,rx,w6 g (λρ2 q σ2 en2=>?_) h⟩;refine⟨as2,ρ2,S2,ok3,en2,mt _ _ _ _ (λb S4 q as4 H4 g4 ok4=>?_) q⟩;obtain⟨d4,n4⟩:=g4.keep D _ d3 n3;have rs4:=RlAll.mono g4.pre (g4.ku ok3) ys vs rs3;refine l0 (λq=>?_) (λq=>?_) q
  ·refine⟨as4,ρ2,S4,ok4,en2.mono g4.pre (g4.ku ok3),me _ _ _ _ (λy S5 q as5 H5 v g5 ok5 rv=>?_) q⟩;obtain⟨d5,n5⟩:=g5.keep D _ d4 n4;have rs5:=RlAll.mono g5.pre (g5.ku ok4) ys vs rs4;refine⟨d5,by rw[rs.length];exact Gj q.1,as5,S5,ys++[y],?_,ok5.other d5 n5,n5,n6,?_,q.2⟩
   ·refine⟨(((g2.trans g3).trans g4).trans g5).pre,λb o hb nb=>?_⟩;obtain⟨z1,z2⟩:=(((g2.trans g3).trans g4).trans g5).keep b o hb nb;exact⟨by rw[upd_ne (g7 hb hD)];exact z1,z2⟩
   ·exact RlAll.mono (Vn _) (CF d5 rfl) _ _ (rs5.append (.cons rv .nil))
  ·exact⟨as4,S4,ys,(g2.trans g3).trans g4,ok4,n4,d4,rs4,q⟩
 ·left;have hi':i=xs.length:=by omega
  subst hi';rw[Ws]at h;unfold p0 at h;obtain⟨kp,h⟩:=h;obtain⟨_,w2⟩:=W as2 H2 S2 (g2.gu ok1) ok2 kp;refine⟨w2,h (as2++[D]) H2 (.ref D) ?_ (ok2.adopt n2 d2 rs) (rl_loc.mpr ⟨D,by rw[<-ok2.len,VT],rfl⟩)⟩;refine⟨(g1.pre.trans g2.pre).trans (Wg _ _),λb o hb nb=>?_⟩;obtain⟨h1,n1⟩:=g1.keep b o hb nb;obtain⟨h2,n2'⟩:=g2.keep b o h1 n1;refine⟨h2,?_⟩;rw[VD,V3];rintro(z | z)
  ·exact n2' z
  ·exact g7 h1 hD z
theorem Fp{scope sc:Yd}{x:Str}(h:scope.names.lookup x=some .local):(FV scope sc).names.lookup x=some .local:=by
 have go:∀ l:List (Str×Yo),l.lookup x=some .local->(l.map λ(n,k)=>if (k == .free&&sc.kind == .function&&sc.names.lookup n == some .cell) then (n,.cell) else (n,k)).lookup x=some .local:=by
  intro l
  induction l with
  | nil=>intro h;cases h
  | cons a r ih=>
    obtain⟨n,k⟩:=a;intro h;rw[W4]at h;rw[VP];cases hb:x == n with
    | true=>
      rw[hb]at h;have:k = .local:=oj h;subst this;show Xa x ((n,NameKind.local)::_)=_;rw[W4,hb]
    | false=>
      rw[hb]at h
      have e:∀ k',Xa x ((n,k')::(r.map λ(n,k)=>if (k == .free&&sc.kind == .function&&sc.names.lookup n == some .cell) then (n,.cell) else (n,k)))=some .local:=λk'=>by
       rw[W4,hb];exact ih h
      show Xa x ((if (k == .free&&sc.kind == .function&&sc.names.lookup n == some .cell)=true then (n,NameKind.cell) else (n,k))::_)=_;split<;>exact e _
 exact go _ h
theorem Cok.comp{T:List Str}{Δ:Nat->Sn}{X:Cx}{k:Nat}{N:List Str}{sc scope:Yd}{own cn:List Str}{js:List Nat}(C:Cok T Δ X k N sc)(hok:y6 sc scope own cn N js=true)(s2:YM)(H2:Hp)(cs:List (Str×YN))(A:YN)(fp:List YN):Cok T Δ (i8 X scope (own++cn) s2 H2 cs A fp) own.length (own++cn) (FV scope sc) where
 hN:=rfl
 hs:=by rw[<-C.hs];rfl
 nd:=by
  unfold y6 at hok;simp only[Uo,dQ]at hok;exact hok.1.2
 calm:=C.calm
 fn:=λi x hi hx hc=>by
  unfold y6 at hok;simp only[Uo,dQ,VC,Va]at hok
  have hm:x∈own:=by
   rw[V9 hi]at hx;exact Us hx
  show(scope.names.lookup x == some .cell)=true;rcases hok.1.1.1.2 x hm with h | h
  ·rw[Fp h]at hc;cases hc
  ·rw[h];rfl
 un:=C.un
 bl:=C.bl
 rng:=C.rng
 enm:=C.enm
 rvs:=C.rvs
 zip:=C.zip
 sm0:=C.sm0
 st0:=C.st0
 dc0:=C.dc0
 ty:=C.ty
 gd:=C.gd
 call:=C.call
 mono:=C.mono
theorem Ag{r:Expr}(h:u7 r=true){env:Env}:∀ x,ZJ r env x=pure x:=λx=>by cases r<;>first | rfl | cases h
theorem BX{T N:List Str}{sc:Yd}:∀{es:Exs} {rs:List Expr},Ap T N sc es rs=true->rs.all e8=true
 | .nil,rs,h=>by unfold Ap at h;rw[Ve]at h;subst h;rfl
 | .cons e es,rs,h=>by
   unfold Ap at h;replace h:=a6 h;obtain⟨x,hx,h⟩:=h;simp only[Uo]at h;rw[AY hx,Vz,h.1.2,BX h.2];rfl
theorem SD{X:Cx}{i:Nat}{x:Str}{p:Pos}{N:List Str}{sc:Yd}{T:List Str}{Δ:Nat->Sn}{k:Nat}(C:Cok T Δ X k N sc)(h:nmB N sc i x=true):PE X (.Name x p) (NW i):=by
 unfold nmB at h;simp only[Uo,dQ,VM]at h;exact Rt C h.1.1.1 h.1.1.2 h.1.2 h.2
theorem Ic{α:Type}{l:List α}(h:(!l.isEmpty)=true):∃ y ys,l=y::ys:=by
 cases l with
 | nil=>cases h
 | cons y ys=>exact⟨y,ys,rfl⟩
theorem SE{X:Cx}{c:Expr}{a:WE×WT}(h:Good X c a):Db X [c] (liftT X.K a.2):=L3 h.pt
theorem Mb{X:Cx}:Db X [] (liftT X.K U1):=λpq s σ H Q I hw=>L0 pq s σ H Q I (let ⟨as,ρ,S,ok,en,h⟩:=hw;h as H (Go.refl _ _) ok)
theorem HS{T:List Str}{Δ:Nat->Sn}{X:Cx}{k:Nat}{N:List Str}{sc scope:Yd}{own cn:List Str}{js:List Nat}{tg ri re:Expr}{ifs:List Expr}{p:Pos}{g:Tg}{i:WI}{t:WT}{e:WE×WT}(C:Cok T Δ X k N sc)(hok:y6 sc scope own cn N js=true)(hi:GoodI X tg ri i)
 (hg:∀ s2 H2 cs A fp,PG (i8 X scope (own++cn) s2 H2 cs A fp) tg (EB X.K g)) (ht:∀ s2 H2 cs A fp,Db (i8 X scope (own++cn) s2 H2 cs A fp) ifs (liftT X.K t)) (mt:MonoT t) (he:∀ s2 H2 cs A fp,PE (i8 X scope (own++cn) s2 H2 cs A fp) re (lift X.K e.1)) (me:Mono e.1) (hn:u7 ri=true):
 Good X (.ListComp re [⟨tg,ri,ifs,0⟩] scope p) (tt1 (IP own.length js g i t e.1)):=
 .one (g9 _ (No own cn js hi.pi hg ht he C.calm (by rw[C.hs,C.hN];exact hok) (Ag hn)) (Fo hi.m mt me)) (.comp hi.m mt me) rfl
mutual
theorem c5{T:List Str}{Δ:Nat->Sn}:∀(e:Ex) (r:Expr) {X:Cx} {k:Nat} {N:List Str} {sc:Yd},Cok T Δ X k N sc->i7 T N sc e r=true->Good X r (wEx Δ e)
 | .var i,r,X,k,N,sc,C,h=>by
   replace h:=a6 h;obtain⟨x,hx,h⟩:=h;obtain⟨p,rfl⟩:=BD hx;exact .one (g9 _ (SD C h) OB) .var rfl
 | .c x,r,X,k,N,sc,C,h=>by
   replace h:=a6 h;obtain⟨x,hx,h⟩:=h;obtain⟨j,p,rfl⟩:=E6 hx;exact Oh h
 | .op o a b,r,X,k,N,sc,C,h=>by
   replace h:=a6 h;obtain⟨v,hv,h⟩:=h;obtain⟨p,rfl⟩:=OZ hv;simp only[Uo,dQ]at h;have ga:=c5 a _ C h.1.2;have gb:=c5 b _ C h.2;rw[<-h.1.1];exact .one (ML ga.pe gb.pe ga.m gb.m) (.two IS ga.m gb.m) rfl
 | .neg a,r,X,k,N,sc,C,h=>by
   replace h:=a6 h;obtain⟨v,hv,h⟩:=h;obtain⟨p,rfl⟩:=HA hv;simp only[Uo,dQ]at h;rw[h.1];exact Jq (c5 a _ C h.2)
 | .cmp o a b,r,X,k,N,sc,C,h=>by
   replace h:=a6 h;obtain⟨v,hv,h⟩:=h;replace h:=a6 h;obtain⟨rb,hb,h⟩:=h;obtain⟨p,rfl⟩:=By hv;simp only[Uo,dQ]at h;obtain⟨⟨⟨h0,h1⟩,h2⟩,h3⟩:=h;rw[h0,AD hb];have ga:=c5 a _ C h1;have gb:=c5 b _ C h2;have:=C.un;exact Jk (by omega) ga.pe gb.pe ga.m gb.m h3
 | .chn o p a b c,r,X,k,N,sc,C,h=>by
   replace h:=a6 h;obtain⟨v,hv,h⟩:=h;replace h:=a6 h;obtain⟨rs,hb,h⟩:=h;obtain⟨p,rfl⟩:=By hv;simp only[Uo,dQ]at h;obtain⟨⟨⟨⟨h0,h1⟩,h2⟩,h3⟩,h4⟩:=h;rw[h0,FY hb];have ga:=c5 a _ C h1;have gb:=c5 b _ C h2;have gc:=c5 c _ C h3;have:=C.un;exact Jl (by omega) ga.pe gb.pe gc.pe ga.m gb.m gc.m h4
 | .and a b,r,X,k,N,sc,C,h=>by
   replace h:=a6 h;obtain⟨v,hv,h⟩:=h;have e:=FW hv;subst e;rw[Uo,dQ]at h;obtain⟨h0,h⟩:=h;replace h:=a6 h;obtain⟨x,hx,h⟩:=h;rw[Uo]at h;have ga:=c5 a _ C h.1;rw[h0,AY hx];have h2:=h.2;generalize v.2.1.tail=tl at h2;cases hl:l1 tl with
   | some y=>
     rw[hl]at h2;rw[AD hl];exact HB ga (c5 b _ C h2)
   | none=>
     rw[hl]at h2;rw[Uo,dQ]at h2;have gb:=c5 b _ C h2.2
     match tl,h2,gb with
     | y::z::zs,h2,gb=>exact HC ga gb
     | [],h2,_=>exact absurd h2.1 (by simp)
     | [_],h2,_=>exact absurd h2.1 (by simp)
 | .or a b,r,X,k,N,sc,C,h=>by
   replace h:=a6 h;obtain⟨v,hv,h⟩:=h;have e:=FW hv;subst e;rw[Uo,dQ]at h;obtain⟨h0,h⟩:=h;replace h:=a6 h;obtain⟨x,hx,h⟩:=h;rw[Uo]at h;have ga:=c5 a _ C h.1;rw[h0,AY hx];have h2:=h.2;generalize v.2.1.tail=tl at h2;cases hl:l1 tl with
   | some y=>
     rw[hl]at h2;rw[AD hl];exact Jm ga (c5 b _ C h2)
   | none=>
     rw[hl]at h2;rw[Uo,dQ]at h2;have gb:=c5 b _ C h2.2
     match tl,h2,gb with
     | y::z::zs,h2,gb=>exact Jn ga gb
     | [],h2,_=>exact absurd h2.1 (by simp)
     | [_],h2,_=>exact absurd h2.1 (by simp)
 | .not a,r,X,k,N,sc,C,h=>by
   replace h:=a6 h;obtain⟨v,hv,h⟩:=h;obtain⟨p,rfl⟩:=HA hv;simp only[Uo,dQ]at h;rw[h.1];exact Jo (c5 a _ C h.2)
 | .ife t a b,r,X,k,N,sc,C,h=>by
   replace h:=a6 h;obtain⟨v,hv,h⟩:=h;obtain⟨p,rfl⟩:=Oa hv;simp only[Uo]at h;exact Jp (c5 t _ C h.1.1) (c5 a _ C h.1.2) (c5 b _ C h.2)
 | .tup es,r,X,k,N,sc,C,h=>by
   replace h:=a6 h;obtain⟨v,hv,h⟩:=h;obtain⟨j,p,rfl⟩:=BU hv;exact Ju (AK es _ C h)
 | .lst es,r,X,k,N,sc,C,h=>by
   replace h:=a6 h;obtain⟨v,hv,h⟩:=h;obtain⟨p,rfl⟩:=Ob hv;exact Jv (AK es _ C h)
 | .ix a b,r,X,k,N,sc,C,h=>by
   replace h:=a6 h;obtain⟨v,hv,h⟩:=h;obtain⟨p,rfl⟩:=Bz hv;simp only[Uo]at h;exact MO (c5 a _ C h.1.1) (c5 b _ C h.1.2) h.2
 | .slc a lo hi,r,X,k,N,sc,C,h=>by
   replace h:=a6 h;obtain⟨v,hv,h⟩:=h;replace h:=a6 h;obtain⟨w,hw,h⟩:=h;obtain⟨p,rfl⟩:=Bz hv;obtain⟨p2,ew⟩:=IQ hw;simp only[Uo]at h;have hl:=Fq lo _ C h.1.1.2;have hh:=Fq hi _ C h.1.2;rw[ew,WU.mp h.2];exact Jr (c5 a _ C h.1.1.1) hl.1 hh.1 hl.2 hh.2
 | .call f es,r,X,k,N,sc,C,h=>by
   replace h:=a6 h;obtain⟨v,hv,h⟩:=h;obtain⟨p,q,rfl⟩:=DB hv;simp only[Uo,dQ]at h;obtain⟨⟨⟨h1,h2⟩,h3⟩,h4⟩:=h;obtain⟨y,ys,e⟩:=Ic h4;have st:=BX h3;have g:=AK es _ C h3;rw[e]at st g ⊢;rw[Vz,Uo]at st;exact HF C h1 h2 g st.1 st.2
 | .bi b es,r,X,k,N,sc,C,h=>by
   replace h:=a6 h;obtain⟨v,hv,h⟩:=h;obtain⟨p,q,rfl⟩:=DB hv;simp only[Uo,dQ]at h;obtain⟨⟨⟨h1,h2⟩,h3⟩,h4⟩:=h;obtain⟨y,ys,e⟩:=Ic h4;have st:=BX h3;have g:=AK es _ C h3;rw[e]at st g ⊢;rw[Vz,Uo]at st;rw[<-h1]at h2 ⊢;exact MU C h2 g st.1 st.2
 | .mt m a es,r,X,k,N,sc,C,h=>by
   replace h:=a6 h;obtain⟨v,hv,h⟩:=h;obtain⟨ap,cp,rfl,hl⟩:=MH hv;simp only[Uo,dQ]at h;obtain⟨⟨⟨⟨h0,h1⟩,h3⟩,h4⟩,h5⟩:=h;have st:=BX h5;have ga:=c5 a _ C h4;have gs:=AK es _ C h5;rw[h0];generalize v.2.2=args at h3 h5 st gs ⊢;cases args with
   | nil=>
     cases es with
     | nil=>exact Jw ga h1 hl
     | cons _ _=>rw[Ap]at h5;cases h5
   | cons y ys=>
     rw[Vz,Uo]at st;exact MW ga gs h1 hl h3 st.1 st.2
 | .comp own cn js g it t e,r,X,k,N,sc,C,h=>by
   replace h:=a6 h;obtain⟨v,hv,h⟩:=h;replace h:=a6 h;obtain⟨c,hc,h⟩:=h;obtain⟨p,rfl⟩:=FX hv;simp only[Uo,dQ]at h;obtain⟨⟨⟨⟨⟨⟨h0,h1⟩,h2⟩,h3⟩,h4⟩,h5⟩,h6⟩:=h;have hI:=CL it _ _ C h3;have hT:=λs2 H2 cs A fp=>Fr t _ (C.comp h1 s2 H2 cs A fp) h5;have hE:=λs2 H2 cs A fp=>c5 e _ (C.comp h1 s2 H2 cs A fp) h6;rw[AD hc];obtain⟨tg,ri,ifs,az⟩:=c;have h0:az=0:=h0;subst h0;exact HS C h1 hI (λs2 H2 cs A fp=>BG (C.comp h1 s2 H2 cs A fp) g _ h2) (λs2 H2 cs A fp=>(hT s2 H2 cs A fp).1) (hT X.s₀ X.H₀ [] 0 []).2 (λs2 H2 cs A fp=>(hE s2 H2 cs A fp).pe) (hE X.s₀ X.H₀ [] 0 []).m h4
 | .tyc t,r,X,k,N,sc,C,h=>by
   replace h:=a6 h;obtain⟨x,hx,h⟩:=h;obtain⟨p,rfl⟩:=BD hx;simp only[Uo,dQ]at h;obtain⟨⟨rfl,h1⟩,h2⟩:=h;exact Jx C h1 h2
 | .rev a,r,X,k,N,sc,C,h=>by
   replace h:=a6 h;obtain⟨v,hv,h⟩:=h;replace h:=a6 h;obtain⟨w,hw,h⟩:=h;obtain⟨p,rfl⟩:=Bz hv;obtain⟨p2,ew⟩:=IQ hw;rw[Uo,Uo]at h;obtain⟨⟨n1,n2⟩,h⟩:=h;replace h:=a6 h;obtain⟨st,hst,h⟩:=h;replace h:=a6 h;obtain⟨u,hu,h⟩:=h;obtain⟨p3,rfl⟩:=HA hu;rw[Uo,dQ]at h;obtain⟨e1,h⟩:=h;replace h:=a6 h;obtain⟨c,hc,h⟩:=h;obtain⟨j,p4,ec⟩:=E6 hc;rw[Uo,dQ]at h;rw[ew,WU.mp n1,WU.mp n2,hst,e1,ec,h.1];exact Jy (c5 a _ C h.2)
 | .max1 a,r,X,k,N,sc,C,h=>by
   replace h:=a6 h;obtain⟨v,hv,h⟩:=h;replace h:=a6 h;obtain⟨ra,hra,h⟩:=h;obtain⟨p,q,rfl⟩:=DB hv;simp only[Uo,dQ]at h;obtain⟨⟨⟨e1,h1⟩,h3⟩,h4⟩:=h;rw[e1]at h1;rw[AD hra,e1];exact HG C h1 (c5 a _ C h3) h4
 | .dnewp,r,X,k,N,sc,C,h=>by
   replace h:=a6 h;obtain⟨v,hv,h⟩:=h;obtain⟨p,rfl⟩:=MF hv;simp only[Uo,Ve]at h;rw[h.1,h.2];exact Fh
 | .setd d e v,r,X,k,N,sc,C,h=>by
   replace h:=a6 h;obtain⟨u,hu,h⟩:=h;replace h:=a6 h;obtain⟨ra,hra,h⟩:=h;obtain⟨ap,cp,rfl,hl⟩:=MH hu;simp only[Uo,dQ]at h;obtain⟨⟨⟨⟨⟨⟨e1,h1⟩,h2⟩,h3⟩,h4⟩,h5⟩,h6⟩:=h;rw[FY hra,e1];exact HK (XB (X3 (by decide) _) C.un) (c5 d _ C h2) (c5 e _ C h3) (c5 v _ C h5) h1 hl h4 h6
 | .eqd n a b,r,X,k,N,sc,C,h=>by
   replace h:=a6 h;obtain⟨v,hv,h⟩:=h;replace h:=a6 h;obtain⟨rb,hb,h⟩:=h;obtain⟨p,rfl⟩:=By hv;simp only[Uo,dQ]at h;obtain⟨⟨⟨h0,h1⟩,h2⟩,h3⟩:=h;rw[h0,AD hb];have ga:=c5 a _ C h1;have gb:=c5 b _ C h2;exact Jz (XB (X3 (by decide) _) C.un) ga.pe gb.pe ga.m gb.m h3
 | .mind a d,r,X,k,N,sc,C,h=>by
   replace h:=a6 h;obtain⟨⟨x,as,kw⟩,hv,h⟩:=h;replace h:=a6 h;obtain⟨ra,hra,h⟩:=h;obtain⟨p,q,rfl⟩:=IR hv;obtain⟨ka,kv,kp⟩:=kw;simp only[Uo,dQ]at h;obtain⟨⟨⟨⟨⟨e1,h1⟩,h3⟩,h5⟩,h4⟩,e2⟩:=h;subst e1;subst e2;rw[AD hra];exact HL (XB (X3 (by decide) _) C.un) C h1 (c5 a _ C h3) (c5 d _ C h5) h4
 | .maxd a d,r,X,k,N,sc,C,h=>by
   replace h:=a6 h;obtain⟨⟨x,as,kw⟩,hv,h⟩:=h;replace h:=a6 h;obtain⟨ra,hra,h⟩:=h;obtain⟨p,q,rfl⟩:=IR hv;obtain⟨ka,kv,kp⟩:=kw;simp only[Uo,dQ]at h;obtain⟨⟨⟨⟨⟨e1,h1⟩,h3⟩,h5⟩,h4⟩,e2⟩:=h;subst e1;subst e2;rw[AD hra];exact HH C h1 (c5 a _ C h3) (c5 d _ C h5) h4
 | .eqtl a b,r,X,k,N,sc,C,h=>by
   replace h:=a6 h;obtain⟨v,hv,h⟩:=h;replace h:=a6 h;obtain⟨rb,hb,h⟩:=h;obtain⟨p,rfl⟩:=By hv;simp only[Uo,dQ]at h;obtain⟨⟨⟨h0,h1⟩,h2⟩,h3⟩:=h;rw[h0,AD hb];have ga:=c5 a _ C h1;have gb:=c5 b _ C h2;have:=C.un;exact HI (by omega) ga.pe gb.pe ga.m gb.m h3
 | .eqt0 a b,r,X,k,N,sc,C,h=>by
   replace h:=a6 h;obtain⟨v,hv,h⟩:=h;replace h:=a6 h;obtain⟨rb,hb,h⟩:=h;obtain⟨p,rfl⟩:=By hv;simp only[Uo,dQ]at h;obtain⟨⟨⟨h0,h1⟩,h2⟩,h3⟩:=h;rw[h0,AD hb];have ga:=c5 a _ C h1;have gb:=c5 b _ C h2;have:=C.un;exact HJ (by omega) ga.pe gb.pe ga.m gb.m h3
 | .no,r,X,k,N,sc,C,h => .never
theorem AK{T:List Str}{Δ:Nat->Sn}:∀(es:Exs) (rs:List Expr) {X:Cx} {k:Nat} {N:List Str} {sc:Yd},Cok T Δ X k N sc->Ap T N sc es rs=true->GoodA X rs (FU Δ es)
 | .nil,rs,X,k,N,sc,C,h=>by
   rw[Ap,Ve]at h;subst h;exact Jt
 | .cons e es,rs,X,k,N,sc,C,h=>by
   rw[Ap]at h;replace h:=a6 h;obtain⟨x,hx,h⟩:=h;simp only[Uo]at h;rw[AY hx];exact HE (c5 e _ C h.1.1) (AK es _ C h.2) h.1.2
theorem Fq{T:List Str}{Δ:Nat->Sn}:∀(o:Eo) (r:Option Expr) {X:Cx} {k:Nat} {N:List Str} {sc:Yd},Cok T Δ X k N sc->MI T N sc o r=true->PO X r (Fd X.K (wEo Δ o).1)/\MonoO (wEo Δ o).1
 | .no,r,X,k,N,sc,C,h=>by
   rw[MI]at h;rw[WU.mp h];exact⟨U6,.no⟩
 | .yes e,r,X,k,N,sc,C,h=>by
   rw[MI]at h;replace h:=a6 h;obtain⟨x,hx,h⟩:=h;subst hx;exact⟨Rv (c5 e _ C h),.yes (c5 e _ C h).m⟩
theorem Fr{T:List Str}{Δ:Nat->Sn}:∀(o:Eo) (rs:List Expr) {X:Cx} {k:Nat} {N:List Str} {sc:Yd},Cok T Δ X k N sc->FZ T N sc o rs=true->Db X rs (liftT X.K (wEo Δ o).2)/\MonoT (wEo Δ o).2
 | .no,rs,X,k,N,sc,C,h=>by
   rw[FZ,Ve]at h;subst h;exact⟨Mb,λ_ _ _ _ i q=>i _ _ q⟩
 | .yes e,rs,X,k,N,sc,C,h=>by
   rw[FZ]at h;replace h:=a6 h;obtain⟨x,hx,h⟩:=h;rw[AD hx];exact⟨SE (c5 e _ C h),(c5 e _ C h).mt⟩
theorem CL{T:List Str}{Δ:Nat->Sn}:∀(it:Itb) (tg r:Expr) {X:Cx} {k:Nat} {N:List Str} {sc:Yd},Cok T Δ X k N sc->Od T N sc it tg r=true->GoodI X tg r (OY Δ it)
 | .seq e,tg,r,X,k,N,sc,C,h=>by
   exact K1 (c5 e _ C h)
 | .rng1 a,tg,r,X,k,N,sc,C,h=>by
   replace h:=a6 h;obtain⟨v,hv,h⟩:=h;replace h:=a6 h;obtain⟨ra,hra,h⟩:=h;obtain⟨p,q,rfl⟩:=DB hv;simp only[Uo,dQ]at h;obtain⟨⟨⟨e1,h1⟩,h2⟩,h3⟩:=h;rw[e1]at h1;rw[AD hra,e1];exact HR C h1 (c5 a _ C h2) h3
 | .enum e,tg,r,X,k,N,sc,C,h=>by
   replace h:((Ei tg).isSome&&(vFn r).any λv=>(l1 v.2).any λa=>decide (v.1=("enumerate":Str))&&glo sc v.1&&i7 T N sc e a&&e8 a)=true:=h;rw[Uo]at h;obtain⟨ht,h⟩:=h;obtain⟨es,he⟩:=Wc.mp ht;obtain⟨j,tp,rfl⟩:=BU he;replace h:=a6 h;obtain⟨v,hv,h⟩:=h;replace h:=a6 h;obtain⟨ra,hra,h⟩:=h;obtain⟨p,q,rfl⟩:=DB hv;simp only[Uo,dQ]at h;obtain⟨⟨⟨e1,h1⟩,h2⟩,h3⟩:=h;rw[e1]at h1;rw[AD hra,e1];exact HQ C h1 (c5 e _ C h2) h3
end
def DG:Expr->Option Yd
 | .ListComp _ _ s _=>some s
 | .SetComp _ _ s _=>some s
 | .DictComp _ _ _ s _=>some s
 | _=>none
def ED(sc:Yd)(e:Expr)(x:Str)(px:Pos):Bool:=match DG e with
 | none=>false
 | some s=>sc.names.lookup x == some .local&&px.line == e.pos.line&&!(s.names.any λ(n,k)=>n == x&&(k == .local||k == .cell))
theorem Id{env:Env}{e:Expr}{x:Str}{px:Pos}{l:Nat}(hk:env.scope.kind = .function):Z9 e (some (.Name x px)) l env=pure (ED env.scope e x px):=by
 have hb:env.blockKind = .function:=by unfold Env.blockKind;rw[hk];rfl
 unfold Z9 ED DG
 cases e<;>first
  | rfl
  | (show(pure _:Sem Bool)=_;rw[hb];rfl)
def Mc:Expr->Bool
 | .Tuple ..=>false
 | _=>true
def Om(sc:Yd)(x y:Str)(px py:Pos):Bool:=sc.names.lookup x == some .local&&sc.names.lookup y == some .local&&px.line == py.line&&!(x == y)
def CM:Expr->Option (Str×Pos)
 | .Name x p=>some (x,p)
 | _=>none
theorem BY{r:Expr}{x:Str×Pos}(h:CM r=some x):r = .Name x.1 x.2:=by cases r<;>first | (cases h;rfl) | exact u4 h
def Oo:Stmt->Option (List Expr×Expr)
 | .Assign ts e _=>some (ts,e)
 | _=>none
def UC:Stmt->Option Expr
 | .Expr e _=>some e
 | _=>none
def UD:Stmt->Option (Expr×List Stmt×List Stmt)
 | .If t a b _=>some (t,a,b)
 | _=>none
def UE:Stmt->Option (Expr×Expr×List Stmt×List Stmt)
 | .For g i b o _=>some (g,i,b,o)
 | _=>none
def UF:Stmt->Option (List Stmt×List ZY×List Stmt×List Stmt)
 | .Try b h o f _=>some (b,h,o,f)
 | _=>none
def UG:Stmt->Option (Expr×List Stmt×List Stmt)
 | .While t b o _=>some (t,b,o)
 | _=>none
def UH:Stmt->Option (Option Expr)
 | .Return e _=>some e
 | _=>none
def UI:Stmt->Option (Expr×Z4×Expr)
 | .AugAssign t o e _=>some (t,o,e)
 | _=>none
theorem Op{r:Stmt}{x:Expr×Z4×Expr}(h:UI r=some x):∃ p,r = .AugAssign x.1 x.2.1 x.2.2 p:=by cases r<;>first | (cases h;exact⟨_,rfl⟩) | exact u4 h
def QI:Z4->Bool
 | .Add=>true
 | _=>false
theorem Md{o:Z4}(h:QI o=true):o = .Add:=by cases o<;>first | rfl | (cases h;done)
theorem Ep{r:Stmt}{x:List Expr×Expr}(h:Oo r=some x):∃ p,r = .Assign x.1 x.2 p:=by cases r<;>first | (cases h;exact⟨_,rfl⟩) | exact u4 h
theorem Oq{r:Stmt}{x:Expr}(h:UC r=some x):∃ p,r = .Expr x p:=by cases r<;>first | (cases h;exact⟨_,rfl⟩) | exact u4 h
theorem Os{r:Stmt}{x:Expr×List Stmt×List Stmt}(h:UD r=some x):∃ p,r = .If x.1 x.2.1 x.2.2 p:=by cases r<;>first | (cases h;exact⟨_,rfl⟩) | exact u4 h
theorem Ot{r:Stmt}{x:Expr×Expr×List Stmt×List Stmt}(h:UE r=some x):∃ p,r = .For x.1 x.2.1 x.2.2.1 x.2.2.2 p:=by cases r<;>first | (cases h;exact⟨_,rfl⟩) | exact u4 h
theorem Ou{r:Stmt}{x:List Stmt×List ZY×List Stmt×List Stmt}(h:UF r=some x):∃ p,r = .Try x.1 x.2.1 x.2.2.1 x.2.2.2 p:=by cases r<;>first | (cases h;exact⟨_,rfl⟩) | exact u4 h
theorem Ov{r:Stmt}{x:Expr×List Stmt×List Stmt}(h:UG r=some x):∃ p,r = .While x.1 x.2.1 x.2.2 p:=by cases r<;>first | (cases h;exact⟨_,rfl⟩) | exact u4 h
theorem Ow{r:Stmt}{x:Option Expr}(h:UH r=some x):∃ p,r = .Return x p:=by cases r<;>first | (cases h;exact⟨_,rfl⟩) | exact u4 h
def SF(e:Expr):Bool:=(ME e).any λv=>(l1 v.2.1).isSome
def UJ(e:Expr):Bool:=false
def QJ(sc:Yd)(rt:Expr):Bool:=(Ei rt).any λts=>(l2 ts).any λnn=>(CM nn.1).any λx=>!(sc.names.lookup x.1 == some .local)
def SG(sc:Yd)(rt re:Expr):Bool:=match CM rt with
 | some x=>!ED sc re x.1 x.2||SF re||UJ re
 | none=>(Ei rt).isSome&&(Mc re||QJ sc rt)
mutual
noncomputable def UK(T:List Str)(N:List Str)(sc:Yd):Stm->Stmt->Bool
 | .asg t e,r=>(Oo r).any λv=>(l1 v.1).any λrt=>BE N.length N sc t rt&&i7 T N sc e v.2&&e8 rt&&SG sc rt v.2
 | .par i j a b,r=>(Oo r).any λv=>(l1 v.1).any λrt=>(Ei rt).any λts=>(l2 ts).any λnn=>(Ei v.2).any λvs=>(l2 vs).any λab=>(CM nn.1).any λx=>(CM nn.2).any λy=>
    decide (N[i]?=some x.1)&&decide (N[j]?=some y.1)&&decide (i≠j)&&Om sc x.1 y.1 x.2 y.2&&i7 T N sc a ab.1&&i7 T N sc b ab.2&&e8 ab.1&&e8 ab.2&&!([ab.1,ab.2].all (foldedForSure 8))&&!([ab.1,ab.2].all (A0j 8))
 | .put o i e,r=>(Oo r).any λv=>(l1 v.1).any λrt=>(Jj rt).any λoi=>i7 T N sc o oi.1&&i7 T N sc i oi.2&&i7 T N sc e v.2&&AN oi.2
 | .augS o i e,r=>(UI r).any λv=>(Jj v.1).any λoi=>QI v.2.1&&i7 T N sc o oi.1&&i7 T N sc i oi.2&&i7 T N sc e v.2.2&&AN oi.2
 | .expr e,r=>(UC r).any λre=>i7 T N sc e re&&(DG re).isNone
 | .iff t a b,r=>(UD r).any λv=>i7 T N sc t v.1&&Be T N sc a v.2.1&&Be T N sc b v.2.2
 | .loop g it b,r=>(UE r).any λv=>BE N.length N sc g v.1&&Od T N sc it v.1 v.2.1&&u7 v.2.1&&Be T N sc b v.2.2.1&&v.2.2.2.isEmpty
 | .tri b,r=>(UF r).any λv=>Be T N sc b v.1&&!v.2.1.isEmpty&&v.2.2.1.isEmpty&&v.2.2.2.isEmpty
 | .whl t b,r=>(UG r).any λv=>i7 T N sc t v.1&&Be T N sc b v.2.1&&v.2.2.isEmpty
 | .ret e,r=>(UH r).any λo=>o.any λre=>i7 T N sc e re
 | .no,_=>true
noncomputable def Be(T:List Str)(N:List Str)(sc:Yd):List Stm->List Stmt->Bool
 | [],r=>r.isEmpty
 | s::ss,r=>(r.head?).any λx=>UK T N sc s x&&Be T N sc ss r.tail
end
noncomputable def Fs(K:Um)(as:List YN)(H:Hp)(D:Ends):EndsS where
 nx:=λρ' S'=>∀ as' H' σ',Go as H as' H'->Ok K as' H' S'->EnvOk K as' H' σ' ρ'->D.nx σ' H'
 rt:=Post K as H D.rt
 bk:=λρ' S'=>∀ as' H' σ',Go as H as' H'->Ok K as' H' S'->EnvOk K as' H' σ' ρ'->D.bk σ' H'
 ct:=λρ' S'=>∀ as' H' σ',Go as H as' H'->Ok K as' H' S'->EnvOk K as' H' σ' ρ'->D.ct σ' H'
noncomputable def liftS(K:Um)(w:WS):TS:=λD σ H=>∃ as ρ S,Ok K as H S/\EnvOk K as H σ ρ/\w (Fs K as H D) ρ S
structure Le(D D':EndsS):Prop where
 nx:∀ ρ S,D.nx ρ S->D'.nx ρ S
 rt:∀ x S,D.rt x S->D'.rt x S
 bk:∀ ρ S,D.bk ρ S->D'.bk ρ S
 ct:∀ ρ S,D.ct ρ S->D'.ct ρ S
def MonoS(w:WS):Prop:=∀ D D' ρ S,Le D D'->w D ρ S->w D' ρ S
theorem MonoS.go{w:WS}(m:MonoS w){D D':EndsS}{ρ:EnvS}{S:Sto}(h:w D ρ S)(l:Le D D'):w D' ρ S:=m D D' ρ S l h
theorem Le.go{K:Um}{as as':List YN}{H H':Hp}{D:Ends}(g:Go as H as' H'):Le (Fs K as H D) (Fs K as' H' D) where
 nx:=λρ S h as2 H2 σ2 g2=>h as2 H2 σ2 (g.trans g2)
 rt:=λx S h=>Post.mono h g
 bk:=λρ S h as2 H2 σ2 g2=>h as2 H2 σ2 (g.trans g2)
 ct:=λρ S h as2 H2 σ2 g2=>h as2 H2 σ2 (g.trans g2)
structure GoodS(X:Cx)(r:Stmt)(w:WS):Prop where
 ps:PS X r (liftS X.K w)
 m:MonoS w
structure GoodSs(X:Cx)(r:List Stmt)(w:WS):Prop where
 ps:PSs X r (liftS X.K w)
 m:MonoS w
theorem w9{X:Cx}{st:Stmt}{t:TS}(t':TS)(h:PS X st t)(imp:∀ D σ H,t' D σ H->t D σ H):PS X st t':=λpq s σ H D I hw=>h pq s σ H D I (imp D σ H hw)
theorem Ft{X:Cx}{st:List Stmt}{t:TS}(t':TS)(h:PSs X st t)(imp:∀ D σ H,t' D σ H->t D σ H):PSs X st t':=λpq s σ H D I hw=>h pq s σ H D I (imp D σ H hw)
section
variable{X:Cx}
theorem HU:GoodSs X [] (λD ρ S=>D.nx ρ S):=⟨Ft _ Na λD σ H ⟨as,ρ,S,ok,en,h⟩=>h as H σ (Go.refl _ _) ok en,λD D' ρ S l h=>l.nx _ _ h⟩
theorem Fu{s:Stmt}{ss:List Stmt}{w u:WS}(h1:GoodS X s w)(h2:GoodSs X ss u):GoodSs X (s::ss) (λD ρ S=>w {D with nx:=u D} ρ S) where
 ps:=Ft _ (KY h1.ps h2.ps) (by
  rintro D σ H ⟨as,ρ,S,ok,en,h⟩;refine⟨as,ρ,S,ok,en,h1.m.go h ⟨λρ' S' q as' H' σ' g ok' en'=>?_,λ_ _ h=>h,λ_ _ h=>h,λ_ _ h=>h⟩⟩;exact⟨as',ρ',S',ok',en',h2.m _ _ _ _ (Le.go g) q⟩)
 m:=λD D' ρ S l h=>h1.m.go (D:={D with nx:=u D}) h ⟨λρ' S' q=>h2.m _ _ _ _ l q,l.rt,l.bk,l.ct⟩
theorem Ox{K:Um}{g:Tg}{w:WE}(m:Mono w):∀ D σ H,liftS K (λD ρ S=>w ρ S λx S1=>wTg g x ρ λρ'=>D.nx ρ' S1) D σ H->JE (lift K w) (EB K g) D σ H:=by
 rintro D σ H ⟨as,ρ,S,ok,en,h⟩;refine⟨as,ρ,S,ok,en,m _ _ _ _ (λx S1 q as1 H1 v g1 ok1 rv=>?_) h⟩;exact⟨as1,ρ,S1,x,ok1,en.mono g1.pre (g1.ku ok),rv,w6 g (λρ' q σ' en'=>q as1 H1 σ' g1 ok1 en') q⟩
theorem Fv{K:Um}{i:Nat}{w:WE}(m:Mono w):∀ D σ H,liftS K (λD ρ S=>w ρ S λx S1=>wTg (.nm i) x ρ λρ'=>D.nx ρ' S1) D σ H->JE (lift K w) (Hm i) D σ H:=by
 rintro D σ H ⟨as,ρ,S,ok,en,h⟩;refine⟨as,ρ,S,ok,en,m _ _ _ _ (λx S1 q as1 H1 v g1 ok1 rv=>?_) h⟩;unfold wTg at q;exact q as1 H1 _ g1 ok1 ((en.mono g1.pre (g1.ku ok)).set rv)
theorem Fw{g:Tg}{w:WE}(m:Mono w):MonoS (λD ρ S=>w ρ S λx S1=>wTg g x ρ λρ'=>D.nx ρ' S1):=λD D' ρ S l h=>m _ _ _ _ (λx S1 q=>w6 g (λρ' q=>l.nx _ _ q) q) h
theorem SH{K:Um}{t:WT}{a b:WS}(mt:MonoT t)(ma:MonoS a)(mb:MonoS b):∀ D σ H,liftS K (λD ρ S=>t ρ S λc S1=>if c=true then a D ρ S1 else b D ρ S1) D σ H->Sq (liftT K t) (liftS K a) (liftS K b) D σ H:=by
 rintro D σ H ⟨as,ρ,S,ok,en,h⟩;refine⟨as,ρ,S,ok,en,mt _ _ _ _ (λc S1 q as1 H1 g1 ok1=>?_) h⟩;refine l0 (λq=>?_) (λq=>?_) q
 ·exact⟨as1,ρ,S1,ok1,en.mono g1.pre (g1.ku ok),ma _ _ _ _ (Le.go g1) q⟩
 ·exact⟨as1,ρ,S1,ok1,en.mono g1.pre (g1.ku ok),mb _ _ _ _ (Le.go g1) q⟩
theorem BZ{keep:Sto->Prop}{g:Tg}{b:WS}(mb:MonoS b):∀(xs:List SV) {D D':EndsS},Le D D'->∀ ρ S,v5 keep g b D xs ρ S->v5 keep g b D' xs ρ S
 | [],D,D',l,ρ,S,h=>by unfold v5 at h ⊢;exact⟨h.1,l.nx _ _ h.2⟩
 | x::xs,D,D',l,ρ,S,h=>by
   unfold v5 at h ⊢;exact⟨h.1,w6 g (λρ2 q=>mb.go (D:={D with nx:=v5 keep g b D xs,ct:=v5 keep g b D xs,bk:=D.nx}) q ⟨BZ mb xs l,l.rt,l.nx,BZ mb xs l⟩) h.2⟩
theorem Oy{K:Um}{g:Tg}{i:WI}{b:WS}(mi:MonoI i)(mb:MonoS b):∀ D σ H,liftS K (λD ρ S=>i ρ S λkeep xs S1=>v5 keep g b D xs ρ S1) D σ H->Sy (liftI K i) (EB K g) (liftS K b) D σ H:=by
 rintro D σ H ⟨as,ρ,S,ok,en,h⟩;refine⟨as,ρ,S,ok,en,mi _ _ _ _ (λkeep xs S1 h as1 H1 J g1 ok1 W=>?_) h⟩
 refine⟨λi m σ2 H2=>m=xs.length - i/\i<=xs.length/\∃ as2 ρ2 S2,Go as1 H1 as2 H2/\Ok K as2 H2 S2/\EnvOk K as2 H2 σ2 ρ2/\v5 keep g b (Fs K as H D) (xs.drop i) ρ2 S2,
  ⟨xs.length,by simp,Ww _,as1,ρ,S1,Go.refl _ _,ok1,en.mono g1.pre (g1.ku ok),h⟩,?_⟩
 rintro i m σ2 H2 ⟨rfl,hi,as2,ρ2,S2,g2,ok2,en2,h⟩;by_cases hlt:i<xs.length
 ·right;rw[WR hlt]at h;unfold v5 at h;obtain⟨kp,h⟩:=h;obtain⟨w1,_⟩:=W as2 H2 S2 (g2.gu ok1) ok2 kp;obtain⟨go,yl⟩:=w1 i xs[i] (Uq hlt);refine⟨go,λσ' H'=>∃ as2 ρ2 S2,Go as1 H1 as2 H'/\Ok K as2 H' S2/\EnvOk K as2 H' σ' ρ2/\v5 keep g b (Fs K as H D) (xs.drop (i+1)) ρ2 S2,λσ' H' z=>⟨xs.length - (i+1),by omega,rfl,hlt,z⟩,λx H3 y3=>?_⟩;obtain⟨g3,ok3,rx⟩:=yl x H3 y3;refine⟨as2,ρ2,S2,_,ok3,en2.mono g3.pre (g3.ku ok2),rx,w6 g (λρ3 q σ3 en3=>?_) h⟩;have g03:=(g1.trans g2).trans g3;refine⟨as2,ρ3,S2,ok3,en3,mb.go q ⟨λρ' S' q as' H' σ' g' ok' en'=>?_,λx S h=>Post.mono h g03,λρ' S' q as' H' σ' g' ok' en'=>q as' H' σ' (g03.trans g') ok' en',λρ' S' q as' H' σ' g' ok' en'=>?_⟩⟩
  ·exact⟨as',ρ',S',(g2.trans g3).trans g',ok',en',q⟩
  ·exact⟨as',ρ',S',(g2.trans g3).trans g',ok',en',q⟩
 ·left;have hi':i=xs.length:=by omega
  subst hi';rw[Ws]at h;unfold v5 at h;obtain⟨kp,h⟩:=h;obtain⟨_,w2⟩:=W as2 H2 S2 (g2.gu ok1) ok2 kp;exact⟨w2,h as2 H2 σ2 (g1.trans g2) ok2 en2⟩
theorem Fx{t:WT}{b:WS}(mt:MonoT t)(mb:MonoS b):MonoS (Ro t b):=λD D' ρ S l ⟨W,w0,h⟩=>⟨W,w0,λm ρ S w=>mt _ _ _ _ (λc S1 q=>l0 (λq=>mb.go (D:={D with nx:=λρ' S'=>∃ m',m'<m/\W m' ρ' S',ct:=λρ' S'=>∃ m',m'<m/\W m' ρ' S',bk:=D.nx}) q ⟨λ_ _ h=>h,l.rt,l.nx,λ_ _ h=>h⟩) (λq=>l.nx _ _ q) q) (h m ρ S w)⟩
theorem Oz{K:Um}{t:WT}{b:WS}(mt:MonoT t)(mb:MonoS b):∀ D σ H,liftS K (Ro t b) D σ H->Kc (liftT K t) (liftS K b) D σ H:=by
 rintro D σ H ⟨as,ρ,S,ok,en,W,⟨m0,w0⟩,h⟩;refine⟨λm σ1 H1=>∃ as1 ρ1 S1,Go as H as1 H1/\Ok K as1 H1 S1/\EnvOk K as1 H1 σ1 ρ1/\W m ρ1 S1,⟨m0,as,ρ,S,Go.refl _ _,ok,en,w0⟩,?_⟩;rintro m σ1 H1 ⟨as1,ρ1,S1,g1,ok1,en1,w1⟩;refine⟨as1,ρ1,S1,ok1,en1,mt _ _ _ _ (λc S2 q as2 H2 g2 ok2=>?_) (h m ρ1 S1 w1)⟩;refine l0 (λq=>?_) (λq=>q as2 H2 σ1 (g1.trans g2) ok2 (en1.mono g2.pre (g2.ku ok1))) q;refine⟨λσ' H'=>∃ m',m'<m/\∃ as1 ρ1 S1,Go as H as1 H'/\Ok K as1 H' S1/\EnvOk K as1 H' σ' ρ1/\W m' ρ1 S1,λσ' H' z=>z,?_⟩;refine⟨as2,ρ1,S2,ok2,en1.mono g2.pre (g2.ku ok1),mb.go q ⟨λρ' S' ⟨m',hm,w'⟩ as' H' σ' g' ok' en'=>?_,λx S h=>Post.mono h (g1.trans g2),λρ' S' q as' H' σ' g' ok' en'=>q as' H' σ' ((g1.trans g2).trans g') ok' en',λρ' S' ⟨m',hm,w'⟩ as' H' σ' g' ok' en'=>?_⟩⟩
 ·exact⟨m',hm,as',ρ',S',(g1.trans g2).trans g',ok',en',w'⟩
 ·exact⟨m',hm,as',ρ',S',(g1.trans g2).trans g',ok',en',w'⟩
theorem P3{K:Um}{i j:Nat}{a b:WE}(ma:Mono a)(mb:Mono b):∀ D σ H,liftS K (λD ρ S=>a ρ S λx S1=>b ρ S1 λy S2=>D.nx ((ρ.set i (some x)).set j (some y)) S2) D σ H->Sv i j (F9 (lift K a) (F9 (lift K b) R4)) D σ H:=by
 rintro D σ H ⟨as,ρ,S,ok,en,h⟩;refine⟨as,ρ,S,ok,en,ma _ _ _ _ (λx S1 q as1 H1 v g1 ok1 rv=>?_) h⟩;refine⟨as1,ρ,S1,ok1,en.mono g1.pre (g1.ku ok),mb _ _ _ _ (λy S2 q as2 H2 u g2 ok2 ru=>?_) q⟩;refine⟨v,u,rfl,q as2 H2 _ (g1.trans g2) ok2 ?_⟩;exact(((en.mono g1.pre (g1.ku ok)).mono g2.pre (g2.ku ok1)).set (Rl.mono g2.pre (g2.ku ok1) x v rv)).set ru
theorem DH{x y v:SV}{S:Sto}{P P':Sto->Prop}(i:∀ S,P S->P' S)(h:Eh x y v S P):Eh x y v S P':=by
 unfold Eh at h ⊢;split at h
 ·obtain⟨xs,j,a,b,c⟩:=h;exact⟨xs,j,a,b,i _ c⟩
 ·exact h.elim
theorem Ie{K:Um}{as:List YN}{H:Hp}{S:Sto}{x y z:SV}{o i v:V}{Q:Hp->Prop}(ok:Ok K as H S)(ro:Rl K as H o x)(ri:Rl K as H i y)(rv:Rl K as H v z)(h:Eh x y z S λS'=>∀ H',Go as H as H'->Ok K as H' S'->Q H'):Hy o i v H Q:=by
 cases x with
 | loc k=>
   cases y with
   | int n=>
     obtain⟨xs,j,h1,h2,h3⟩:=h;obtain⟨a,vs,rfl,ea,ha,ra⟩:=j0 ok ro h1;rw[rl_int]at ri;subst ri;refine⟨a,vs,n,j,rfl,rfl,ha,by rw[ra.length];exact h2,h3 _ (Go.write (Us ea)) (ok.write h1 ea (ra.set rv j)).1⟩
   | _=>exact False.elim h
 | _=>exact False.elim h
theorem P4{K:Um}{o i e:WE}(mo:Mono o)(mi:Mono i)(me:Mono e):∀ D σ H,liftS K (λD ρ S=>e ρ S λv S1=>o ρ S1 λx S2=>i ρ S2 λy S3=>Eh x y v S3 λS4=>D.nx ρ S4) D σ H->JE (lift K e) (Su (lift K o) (lift K i) Hy) D σ H:=by
 rintro D σ H ⟨as,ρ,S,ok,en,h⟩;refine⟨as,ρ,S,ok,en,me _ _ _ _ (λz S1 q as1 H1 v g1 ok1 rv=>?_) h⟩;have en1:=en.mono g1.pre (g1.ku ok);refine⟨as1,ρ,S1,ok1,en1,mo _ _ _ _ (λx S2 q as2 H2 u g2 ok2 ru=>?_) q⟩;have en2:=en1.mono g2.pre (g2.ku ok1);refine⟨as2,ρ,S2,ok2,en2,mi _ _ _ _ (λy S3 q as3 H3 t g3 ok3 rt=>?_) q⟩;have en3:=en2.mono g3.pre (g3.ku ok2);refine Ie ok3 (Rl.mono g3.pre (g3.ku ok2) x u ru) rt (Rl.mono (g2.trans g3).pre ((g2.trans g3).ku ok1) z v rv) (DH (λS4 q H4 g4 ok4=>?_) q);exact q as3 H4 σ (((g1.trans g2).trans g3).trans g4) ok4 (en3.mono g4.pre (g4.ku ok3))
theorem C1{n j:Nat}(h:j<n):ixN n (j:Int)=some j:=by
 unfold ixN;rw[iP (by omega),iP (by omega)];simp
def UL(K:Um):V->V->Hp->VK->Prop:=λx y H Q=>∃ p xs v,∃ i:Nat,x = .ref p/\y = .int i/\SqL K H p xs/\xs[i]?=some v/\Q v H
theorem SI{X:Cx}:Sw X (UL X.K):=by
 intro pq s σ H x y v u Q I rx ry h;obtain⟨p,xs,z,i,rfl,rfl,hq,he,q⟩:=h;cases rx;obtain⟨t,rfl⟩:=ry;obtain⟨its,r,pl,hz⟩:=I.list hq;obtain⟨w,ew,rw'⟩:=r.get he;have hl:=r.length;have hn:=Bg;have hi:=(gM he).1;exact wpAny_getItem_list pl.isList (XC _) (by omega) (by rw[W6];simpa using ew) ⟨z,H,I,rw',q⟩
theorem P5{K:Um}{o i e:WE}(mo:Mono o)(mi:Mono i)(me:Mono e):∀ D σ H,liftS K (λD ρ S=>o ρ S λx S1=>i ρ S1 λy S2=>∃(k:Nat) (j:Nat) (xs:List SV) (a:Int),x = .loc k/\y = .int j/\S2[k]?=some (.lst xs)/\xs[j]?=some (.int a)/\e ρ S2 λv S4=>∃(b:Int) (ys:List SV),v = .int b/\S4[k]?=some (.lst ys)/\j<ys.length/\D.nx ρ (S4.set k (.lst (ys.set j (.int (a+b)))))) D σ H->Po (lift K o) (lift K i) (lift K e) (UL K) (ipI λi j=>i+j) Hy D σ H:=by
 rintro D σ H ⟨as,ρ,S,ok,en,h⟩;refine⟨as,ρ,S,ok,en,mo _ _ _ _ (λx S1 q as1 H1 u g1 ok1 ru=>?_) h⟩;have en1:=en.mono g1.pre (g1.ku ok);refine⟨as1,ρ,S1,ok1,en1,mi _ _ _ _ (λy S2 q as2 H2 t g2 ok2 rt=>?_) q⟩;have en2:=en1.mono g2.pre (g2.ku ok1);have ru2:=Rl.mono g2.pre (g2.ku ok1) x u ru;obtain⟨k,j,xs,a,rfl,rfl,h1,h2,q⟩:=q;obtain⟨p,vs,rfl,ea,ha,ra⟩:=j0 ok2 ru2 h1;rw[rl_int]at rt;subst rt;obtain⟨v0,e0,r0⟩:=ra.get h2;rw[rl_int]at r0;subst r0;refine⟨p,vs,_,j,rfl,rfl,SqL.of ha,e0,as2,ρ,S2,ok2,en2,me _ _ _ _ (λd S4 ⟨b,ys,e2,h4,hj,q⟩ as4 H4 z g4 ok4 rz=>?_) q⟩;subst e2;rw[rl_int]at rz;have en4:=en2.mono g4.pre (g4.ku ok2);refine⟨a,b,rfl,rz,Ie ok4 (Rl.mono g4.pre (g4.ku ok2) (.loc k) (.ref p) ru2) (rl_int.mpr rfl) (rl_int.mpr rfl) (show Eh (.loc k) (.int j) (.int (a+b)) S4 _ from ⟨ys,j,h4,C1 hj,λH5 g5 ok5=>?_⟩)⟩;exact q as4 H5 σ (((g1.trans g2).trans g4).trans g5) ok5 (en4.mono g5.pre (g5.ku ok4))
end
theorem Me{env:Env}{es:List Expr}{k:Nat}{p:Pos}{e:Expr}{l:Nat}:ZC [.Tuple es k p] e l env=pure false:=by
 unfold ZC Z9;cases e<;>rfl
theorem SJ{env:Env}{o i:Expr}{p:Pos}{e:Expr}{l:Nat}:ZC [.Subscript o i p] e l env=pure false:=by
 unfold ZC Z9;cases e<;>rfl
theorem SK{env:Env}{es:List Expr}{k:Nat}{p:Pos}{e:Expr}(h:Mc e=true):Yj [.Tuple es k p] e env=pure none:=by
 unfold Yj;cases e<;>first | rfl | cases h
theorem P6{env:Env}{x:Str}{px p:Pos}{t2:Expr}{k:Nat}{e:Expr}(h:(env.scope.names.lookup x == some NameKind.local)=false):Yj [.Tuple [.Name x px,t2] k p] e env=pure none:=by
 have kx:(env.kindOf x == some NameKind.local)=false:=h;cases e with
 | Tuple vs k2 p2=>
   unfold Yj
   have key:∀ f:Expr->Option Str,f (.Name x px)=none->((List.filterMap f [.Name x px,t2]).length != [Expr.Name x px,t2].length)=true:=λf hf=>by
    rw[List.filterMap_cons_none hf];have:=List.length_filterMap_le f [t2];simp only[VU,WB]at this ⊢;rw[bne_iff_ne];omega
   dsimp only;split
   ·rfl
   ·split
    ·rfl
    ·rw[key _ (by show(if (env.kindOf x == some NameKind.local&&_)=true then some x else none)=none;rw[kx];rfl),YG];rfl
 | _=>rfl
theorem SL{env:Env}{o i:Expr}{p:Pos}{e:Expr}:Yj [.Subscript o i p] e env=pure none:=by
 unfold Yj;cases e<;>rfl
theorem SM{env:Env}{x y:Str}{px py pt pt2:Pos}{k k2:Nat}{a b:Expr}(hk:env.scope.kind = .function)(h:Om env.scope x y px py=true)(ha:e8 a=true)(hb:e8 b=true)(h1:([a,b].all (foldedForSure 8))=false)(h2:([a,b].all (A0j 8))=false):
 Yj [.Tuple [.Name x px,.Name y py] k pt] (.Tuple [a,b] k2 pt2) env=pure (some [x,y]):=by
 have hbk:env.blockKind = .function:=by unfold Env.blockKind;rw[hk];rfl
 unfold Om at h;simp only[Uo,beq_iff_eq,VM,beq_eq_false_iff_ne]at h;obtain⟨⟨⟨hx,hy⟩,hl⟩,hne⟩:=h;have kx:env.kindOf x=some .local:=hx;have ky:env.kindOf y=some .local:=hy
 have ed:([x,y]:List Str).eraseDups.length=2:=by
  have:(y == x)=false:=by rw[beq_eq_false_iff_ne];exact λz=>hne z.symm
  rw[List.eraseDups_cons,WM,this];rfl
 unfold Yj;simp only[VU,WB,hbk,h1,h2,List.head?_cons,WK,Xo,Expr.pos,Wu,List.filterMap_nil,kx,ky,hl];refine(iG (by decide)).trans ((iG (λz=>?_)).trans ?_)
 ·simp only[W2,YH,Y9,Va]at z;rcases z with z | z
  ·cases a<;>first | (cases z;done) | cases ha
  ·cases b<;>first | (cases z;done) | cases hb
 ·rw[show(some NameKind.local == some NameKind.local&&py.line == py.line)=true by simp];simp only[if_true];refine(iG (by rw[ed];simp)).trans ?_;refine(iG (by simp)).trans ((iG (by simp)).trans rfl)
theorem Fy{t:WT}{a b:WS}(mt:MonoT t)(ma:MonoS a)(mb:MonoS b):MonoS (λD ρ S=>t ρ S λc S1=>if c=true then a D ρ S1 else b D ρ S1):=λD D' ρ S l h=>mt _ _ _ _ (λc S1 q=>l0 (λq=>ma.go q l) (λq=>mb.go q l) q) h
section
variable{T:List Str}{Δ:Nat->Sn}{X:Cx}{N:List Str}{sc:Yd}
theorem QK{env:Env}{e:Expr}(h:e8 e=true):(Yq [e] env).map (·.2)=[assign e env]:=by cases e<;>first | rfl | cases h
theorem HV{env:Env}{o i:Expr}{p:Pos}(h:AN i=true):∀ v,assign (.Subscript o i p) env v=(do
 let ov <- holding [v] (eval o env)
 let iv <- holding [v,ov] (eval i env)
 standAt p
 holding [v,ov,iv] (setItem ov iv v)
 release [v,ov,iv] []):=λv=>by cases i<;>first | rfl | cases h
theorem P7{i:Expr}(h:AN i=true):∀ ov iv new,augStore i ov iv new=(do holding [new,ov,iv] (setItem ov iv new);release [new,ov,iv] [];pure .next):=λ_ _ _=>by cases i<;>first | rfl | cases h
theorem K3(C:Cok T Δ X N.length N sc)(hk:sc.kind = .function){t:Tg}{e:Ex}{rt re:Expr}{pos:Pos}(h1:BE N.length N sc t rt=true)(h2:i7 T N sc e re=true)(h3:e8 rt=true)(h4:SG sc rt re=true):PS X (.Assign [rt] re pos) (liftS X.K λD ρ S=>(wEx Δ e).1 ρ S λx S1=>wTg t x ρ λρ'=>D.nx ρ' S1):=by
 have ge:=c5 e re C h2;unfold SG at h4;cases hv:CM rt with
 | none=>
   rw[hv]at h4;rw[Uo]at h4;obtain⟨es,hes⟩:=Wc.mp h4.1;obtain⟨j,p,rfl⟩:=BU hes
   have hw:Yj [.Tuple es j p] re X.env=pure none:=by
    rcases(Va _ _).mp h4.2 with z | z
    ·exact SK z
    ·unfold QJ at z;replace z:=a6 z;obtain⟨ts,hts,z⟩:=z;replace z:=a6 z;obtain⟨nn,hnn,z⟩:=z;replace z:=a6 z;obtain⟨y,hy,z⟩:=z;rw[hts]at hes;cases hes;rw[FY hnn,BY hy];exact P6 (by rw[C.hs];simpa using z)
   exact w9 _ (Kb ge.pe (BG C t _ h1) Me hw (QK rfl)) (Ox ge.m)
 | some xp=>
   rw[hv]at h4;have e0:=BY hv;obtain⟨x,px⟩:=xp;subst e0;cases t with
   | tup ts=>rw[BE]at h1;cases h1
   | nm i=>
     rw[BE]at h1;have h1:(decide (i<N.length)&&decide (N[i]?=some x)&&loc sc x)=true:=h1;simp only[Uo,dQ]at h1;obtain⟨⟨hi,hx⟩,hl⟩:=h1;unfold loc at hl;simp only[Va,beq_iff_eq]at hl;have hND:X.N.Nodup:=by rw[C.hN];exact C.nd
     have hNi:X.N[i]?=some x:=by rw[C.hN];exact hx
     have hloc:Loc X.env.scope x:=by rw[C.hs];exact hl
     have hf:X.fn x=true\/X.env.scope.names.lookup x=some .local:=by
      rw[C.hs];rcases hl with hl | hl
      ·exact .inr hl
      ·exact .inl (C.fn i x hi hx hl)
     have hke:X.env.scope.kind = .function:=by rw[C.hs];exact hk
     cases hsw:ED sc re x px with
     | false=>exact w9 _ (Qs hND hNi hloc ge.pe (by rw[Id hke,C.hs,hsw]) hf) (Fv ge.m)
     | true=>
       have h4:(!ED sc re x px||SF re||UJ re)=true:=h4;rw[hsw,Bool.not_true,Y7,Va]at h4;rcases h4 with h4 | h4
       ·unfold SF at h4;obtain⟨v,hv',h4⟩:=a6 h4;obtain⟨gen,hgen⟩:=Wc.mp h4;obtain⟨p',rfl⟩:=FX hv';rw[AD hgen]at h2 ge hsw ⊢
        have hxl:X.env.scope.names.lookup x=some .local:=by
         rw[C.hs];unfold ED DG at hsw;simp only[Uo,beq_iff_eq]at hsw;exact hsw.1.1
        have hs1:Z9 (.ListComp v.1 [gen] v.2.2 p') (some (.Name x px)) pos.line X.env=pure true:=by rw[Id hke,C.hs,hsw]
        cases e with
        | comp own cn js g it t' e'=>
          obtain⟨tg,ri,ifs,az⟩:=gen;have h2:(decide (az=0)&&y6 sc v.2.2 own cn N js&&BE own.length (own++cn) (FV v.2.2 sc) g tg&&Od T N sc it tg ri&&u7 ri&&FZ T (own++cn) (FV v.2.2 sc) t' ifs&&i7 T (own++cn) (FV v.2.2 sc) e' v.1)=true:=h2;simp only[Uo,dQ]at h2;obtain⟨⟨⟨⟨⟨⟨k0,k1⟩,k2⟩,k3⟩,k4⟩,k5⟩,k6⟩:=h2;subst k0;have hI:=CL it _ _ C k3;have hT:=λs2 H2 cs A fp=>Fr t' _ (C.comp k1 s2 H2 cs A fp) k5;have hE:=λs2 H2 cs A fp=>c5 e' _ (C.comp k1 s2 H2 cs A fp) k6;have mt:=(hT X.s₀ X.H₀ [] 0 []).2;have me:=(hE X.s₀ X.H₀ [] 0 []).m;have b:=Ge (i:=i) (g:=EB X.K g) (tt:=liftT X.K (wEo Δ t').2) (te:=lift X.K (wEx Δ e').1) own cn js hND hNi hxl hI.pi (λs2 H2 cs A fp=>BG (C.comp k1 s2 H2 cs A fp) g _ k2) (λs2 H2 cs A fp=>(hT s2 H2 cs A fp).1) (λs2 H2 cs A fp=>(hE s2 H2 cs A fp).pe) C.calm (by rw[C.hs,C.hN];exact k1) hs1 (Ag k4);refine w9 _ b λD σ H h=>?_;have:=Fv ge.m D σ H h;exact Fo hI.m mt me σ H _ this
        | no=>exact λ_ _ _ _ _ _ h=>let ⟨_,_,_,_,_,z⟩:=h;z.elim
        | _=>exact absurd h2 nofun
       ·exact Xs (show false=true from h4)
mutual
theorem Mf(C:Cok T Δ X N.length N sc)(hp:A02 (YS X.prog X.w) X.A X.env X.xe)(nx:∀ e s,¬ X.xe e s)(hk:sc.kind = .function):∀(s:Stm) (r:Stmt),UK T N sc s r=true->GoodS X r (wSt Δ s)
 | .asg t e,r,h=>by
   replace h:=a6 h;obtain⟨v,hv,h⟩:=h;replace h:=a6 h;obtain⟨rt,hrt,h⟩:=h;obtain⟨pos,rfl⟩:=Ep hv;simp only[Uo]at h;obtain⟨⟨⟨h1,h2⟩,h3⟩,h4⟩:=h;rw[AD hrt];exact⟨K3 C hk h1 h2 h3 h4,Fw (c5 e _ C h2).m⟩
 | .par i j a b,r,h=>by
   replace h:=a6 h;obtain⟨v,hv,h⟩:=h;replace h:=a6 h;obtain⟨rt,hrt,h⟩:=h;replace h:=a6 h;obtain⟨ts,hts,h⟩:=h;replace h:=a6 h;obtain⟨nn,hnn,h⟩:=h;replace h:=a6 h;obtain⟨vs,hvs,h⟩:=h;replace h:=a6 h;obtain⟨ab,hab,h⟩:=h;replace h:=a6 h;obtain⟨x,hx',h⟩:=h;replace h:=a6 h;obtain⟨y,hy',h⟩:=h;obtain⟨pos,rfl⟩:=Ep hv;simp only[Uo,dQ,VM]at h;obtain⟨⟨⟨⟨⟨⟨⟨⟨⟨hx,hy⟩,hij⟩,hpar⟩,h1⟩,h2⟩,h3⟩,h4⟩,h5⟩,h6⟩:=h;obtain⟨j1,p1,e1⟩:=BU hts;obtain⟨j2,p2,e2⟩:=BU hvs;rw[AD hrt,e1,FY hnn,e2,FY hab,BY hx',BY hy'];have ga:=c5 a _ C h1;have gb:=c5 b _ C h2;have hp2:=hpar;unfold Om at hp2;simp only[Uo,beq_iff_eq]at hp2;have hke:X.env.scope.kind = .function:=by rw[C.hs];exact hk
   refine⟨w9 _ (Qt (i:=i) (j:=j) C.calm (by rw[C.hN];exact C.nd) (by rw[C.hN];exact hx) (by rw[C.hN];exact hy) hij (by rw[C.hs];exact hp2.1.1.1) (by rw[C.hs];exact hp2.1.1.2) (AX ga.pe (AX gb.pe Bh (i6 h4)) (i6 h3)) (SM hke (by rw[C.hs];exact hpar) h3 h4 h5 h6) Me) (P3 ga.m gb.m),?_⟩;exact λD D' ρ S l h=>ga.m _ _ _ _ (λx S1 q=>gb.m _ _ _ _ (λy S2 q=>l.nx _ _ q) q) h
 | .put o i e,r,h=>by
   replace h:=a6 h;obtain⟨v,hv,h⟩:=h;replace h:=a6 h;obtain⟨rt,hrt,h⟩:=h;replace h:=a6 h;obtain⟨oi,hoi,h⟩:=h;obtain⟨pos,rfl⟩:=Ep hv;obtain⟨p2,e2⟩:=Bz hoi;simp only[Uo]at h;rw[AD hrt,e2];have go:=c5 o _ C h.1.1.1;have gi:=c5 i _ C h.1.1.2;have ge:=c5 e _ C h.1.2;refine⟨w9 _ (Kb ge.pe (Qr go.pe gi.pe FC (HV h.2)) SJ SL (QK rfl)) (P4 go.m gi.m ge.m),?_⟩;exact λD D' ρ S l h=>ge.m _ _ _ _ (λv S1 q=>go.m _ _ _ _ (λx S2 q=>gi.m _ _ _ _ (λy S3 q=>DH (λS4 q=>l.nx _ _ q) q) q) q) h
 | .augS o i e,r,h=>by
   replace h:=a6 h;obtain⟨v,hv,h⟩:=h;replace h:=a6 h;obtain⟨oi,hoi,h⟩:=h;obtain⟨pos,rfl⟩:=Op hv;obtain⟨p2,e2⟩:=Bz hoi;simp only[Uo]at h;rw[Md h.1.1.1.1,e2];have go:=c5 o _ C h.1.1.1.2;have gi:=c5 i _ C h.1.1.2;have ge:=c5 e _ C h.1.2;refine⟨w9 _ (Nf go.pe gi.pe SI ge.pe Qu FC (P7 h.2)) (P5 go.m gi.m ge.m),?_⟩;exact λD D' ρ S l h=>go.m _ _ _ _ (λx S1 q=>gi.m _ _ _ _ (λy S2 ⟨k,j,xs,a,e1,e2,h1,h2,q⟩=>⟨k,j,xs,a,e1,e2,h1,h2,ge.m _ _ _ _ (λv S4 ⟨b,ys,e1,h4,h5,q⟩=>⟨b,ys,e1,h4,h5,l.nx _ _ q⟩) q⟩) q) h
 | .expr e,r,h=>by
   replace h:=a6 h;obtain⟨re,hre,h⟩:=h;obtain⟨pos,rfl⟩:=Oq hre;simp only[Uo]at h;have ge:=c5 e _ C h.1
   have hs:Z9 re none pos.line X.env=pure false:=by
    have:=h.2;unfold Z9;cases re<;>first | rfl | (unfold DG at this;cases this)
   refine⟨w9 _ (Nb ge.pe hs) ?_,λD D' ρ S l h=>ge.m _ _ _ _ (λx S1 q=>l.nx _ _ q) h⟩;rintro D σ H ⟨as,ρ,S,ok,en,h⟩;exact⟨as,ρ,S,ok,en,ge.m _ _ _ _ (λx S1 q as1 H1 v g1 ok1 rv=>q as1 H1 σ g1 ok1 (en.mono g1.pre (g1.ku ok))) h⟩
 | .iff t a b,r,h=>by
   replace h:=a6 h;obtain⟨v,hv,h⟩:=h;obtain⟨pos,rfl⟩:=Os hv;simp only[Uo]at h;have gt:=c5 t _ C h.1.1;have ga:=AQ C hp nx hk a _ h.1.2;have gb:=AQ C hp nx hk b _ h.2;exact⟨w9 _ (Sr gt.pt ga.ps gb.ps) (SH gt.mt ga.m gb.m),Fy gt.mt ga.m gb.m⟩
 | .loop g it b,r,h=>by
   replace h:=a6 h;obtain⟨v,hv,h⟩:=h;obtain⟨pos,rfl⟩:=Ot hv;simp only[Uo,Ve]at h;obtain⟨⟨⟨⟨h1,h2⟩,h3⟩,h4⟩,h5⟩:=h;rw[h5];have gi:=CL it _ _ C h2;have gb:=AQ C hp nx hk b _ h4;refine⟨w9 _ (Qv hp C.calm gi.pi (BG C g _ h1) gb.ps (Ag h3)) (Oy gi.m gb.m),?_⟩;exact λD D' ρ S l h=>gi.m _ _ _ _ (λkeep xs S1 q=>BZ gb.m xs l _ _ q) h
 | .tri b,r,h=>by
   replace h:=a6 h;obtain⟨v,hv,h⟩:=h;obtain⟨pos,rfl⟩:=Ou hv;simp only[Uo,Ve,VM]at h;obtain⟨⟨⟨h1,h2⟩,h3⟩,h4⟩:=h;have gb:=AQ C hp nx hk b _ h1;rw[h3,h4];cases hh:v.2.1 with
   | nil=>rw[hh]at h2;cases h2
   | cons h0 hs=>exact⟨OP nx gb.ps,gb.m⟩
 | .whl t b,r,h=>by
   replace h:=a6 h;obtain⟨v,hv,h⟩:=h;obtain⟨pos,rfl⟩:=Ov hv;simp only[Uo,Ve]at h;rw[h.2];have gt:=c5 t _ C h.1.1;have gb:=AQ C hp nx hk b _ h.1.2;exact⟨w9 _ (Kd hp gt.pt gb.ps) (Oz gt.mt gb.m),Fx gt.mt gb.m⟩
 | .ret e,r,h=>by
   replace h:=a6 h;obtain⟨o,ho,h⟩:=h;replace h:=a6 h;obtain⟨re,hre,h⟩:=h;obtain⟨pos,rfl⟩:=Ow ho;rw[hre];have ge:=c5 e _ C h;exact⟨w9 _ (Qo ge.pe) λD σ H ⟨as,ρ,S,ok,en,h⟩=>⟨as,ρ,S,ok,en,h⟩,λD D' ρ S l h=>ge.m _ _ _ _ l.rt h⟩
 | .no,r,h=>⟨λ_ _ _ _ _ _ h=>let ⟨_,_,_,_,_,z⟩:=h;z.elim,λ_ _ _ _ _ h=>h⟩
theorem AQ(C:Cok T Δ X N.length N sc)(hp:A02 (YS X.prog X.w) X.A X.env X.xe)(nx:∀ e s,¬ X.xe e s)(hk:sc.kind = .function):∀(s:List Stm) (r:List Stmt),Be T N sc s r=true->GoodSs X r (wSs Δ s)
 | [],r,h=>by
   rw[Be,Ve]at h;subst h;exact HU
 | s::ss,r,h=>by
   rw[Be]at h;replace h:=a6 h;obtain⟨x,hx,h⟩:=h;rw[Uo]at h;rw[AY hx];have:=Fu (Mf C hp nx hk s x h.1) (AQ C hp nx hk ss _ h.2);rw[wSs];exact this
end
end
mutual
theorem a8{Δ:Nat->Sn}(hΔ:∀ f,MonoN (Δ f)):∀(e:Ex),Mono (wEx Δ e).1/\MonoT (wEx Δ e).2
 | .var i=>⟨.var,.tru .var⟩
 | .c x=>⟨.c,.tru .c⟩
 | .op o a b=>have m:Mono _ := .two (s:=sOp o) IS (a8 hΔ a).1 (a8 hΔ b).1;⟨m,.tru m⟩
 | .neg a=>have m:Mono _ := .one DE (a8 hΔ a).1;⟨m,.tru m⟩
 | .cmp o a b=>have m:Mono _ := .two (s:=Ao o) AE (a8 hΔ a).1 (a8 hΔ b).1;⟨m,.bl m⟩
 | .chn o p a b c=>have m:=Fb (o:=o) (p:=p) (a8 hΔ a).1 (a8 hΔ b).1 (a8 hΔ c).1;⟨m,.bl m⟩
 | .and a b=>⟨.and (a8 hΔ a).1 (a8 hΔ b).1,.and (a8 hΔ a).2 (a8 hΔ b).2⟩
 | .or a b=>⟨.or (a8 hΔ a).1 (a8 hΔ b).1,.or (a8 hΔ a).2 (a8 hΔ b).2⟩
 | .not a=>⟨.not (a8 hΔ a).1,.not (a8 hΔ a).2⟩
 | .ife t a b=>⟨.ifE (a8 hΔ t).2 (a8 hΔ a).1 (a8 hΔ b).1,λ_ _ _ _ _ h=>h⟩
 | .tup es=>have m:Mono _ := .n .tup (Aq hΔ es);⟨m,.tru m⟩
 | .lst es=>have m:Mono _ := .n .lst (Aq hΔ es);⟨m,.tru m⟩
 | .ix a b=>have m:Mono _ := .two .ix (a8 hΔ a).1 (a8 hΔ b).1;⟨m,.tru m⟩
 | .slc a lo hi=>have m:Mono _:=(λρ S P P' i h=>(a8 hΔ a).1 _ _ _ _ (λx S1 h=>(i9 hΔ lo).1 _ _ _ _ (λl S2 h=>(i9 hΔ hi).1 _ _ _ _ (λk S3 h=>DF i h) h) h) h:Mono (Rn _ _ _));⟨m,.tru m⟩
 | .call f es=>have m:Mono _ := .n (hΔ f) (Aq hΔ es);⟨m,.tru m⟩
 | .bi b es=>have m:Mono _ := .n (s:=sBi b) .bi (Aq hΔ es);⟨m,.tru m⟩
 | .mt m' a es=>have m:Mono _:=Mono.mt (m:=m') (a8 hΔ a).1 (Aq hΔ es);⟨m,.tru m⟩
 | .comp own cn js g it t e=>have m:Mono _:=Mono.comp (k:=own.length) (js:=js) (g:=g) (Fz hΔ it) (i9 hΔ t).2 (a8 hΔ e).1;⟨m,.tru m⟩
 | .tyc t=>⟨.c,.tru .c⟩
 | .rev a=>have m:Mono _ := .one Fe (a8 hΔ a).1;⟨m,.tru m⟩
 | .max1 a=>have m:=E7 (a8 hΔ a).1;⟨m,.tru m⟩
 | .dnewp=>⟨Bk,.tru Bk⟩
 | .setd d e v=>have m:=EA (a8 hΔ d).1 (a8 hΔ e).1 (a8 hΔ v).1;⟨m,.tru m⟩
 | .eqd n a b=>have m:Mono _ := .two (C0 (n:=n)) (a8 hΔ a).1 (a8 hΔ b).1;⟨m,.bl m⟩
 | .mind a d=>have m:=E9 (a8 hΔ a).1 (a8 hΔ d).1;⟨m,.tru m⟩
 | .maxd a d=>have m:=E8 (a8 hΔ a).1 (a8 hΔ d).1;⟨m,.tru m⟩
 | .eqt0 a b=>have m:Mono _ := .two BW (a8 hΔ a).1 (a8 hΔ b).1;⟨m,.bl m⟩
 | .eqtl a b=>have m:Mono _ := .two BV (a8 hΔ a).1 (a8 hΔ b).1;⟨m,.bl m⟩
 | .no=>⟨λ_ _ _ _ _ h=>h,λ_ _ _ _ _ h=>h⟩
theorem Aq{Δ:Nat->Sn}(hΔ:∀ f,MonoN (Δ f)):∀(es:Exs),MonoA (FU Δ es)
 | .nil => .nil
 | .cons e es => .cons (a8 hΔ e).1 (Aq hΔ es)
theorem i9{Δ:Nat->Sn}(hΔ:∀ f,MonoN (Δ f)):∀(o:Eo),MonoO (wEo Δ o).1/\MonoT (wEo Δ o).2
 | .no=>⟨.no,λ_ _ _ _ i q=>i _ _ q⟩
 | .yes e=>⟨.yes (a8 hΔ e).1,(a8 hΔ e).2⟩
theorem Fz{Δ:Nat->Sn}(hΔ:∀ f,MonoN (Δ f)):∀(it:Itb),MonoI (OY Δ it)
 | .seq e=>λρ S P P' i h=>(a8 hΔ e).1 _ _ _ _ (λx S1 ⟨xs,e,q⟩=>⟨xs,e,i _ _ _ q⟩) h
 | .rng1 a=>λρ S P P' i h=>(a8 hΔ a).1 _ _ _ _ (λx S1 ⟨j,e,z,q⟩=>⟨j,e,z,i _ _ _ q⟩) h
 | .enum e=>λρ S P P' i h=>(a8 hΔ e).1 _ _ _ _ (λx S1 ⟨xs,e,q⟩=>⟨xs,e,i _ _ _ q⟩) h
end
mutual
theorem P8{Δ:Nat->Sn}(hΔ:∀ f,MonoN (Δ f)):∀(s:Stm),MonoS (wSt Δ s)
 | .asg t e=>by exact Fw (a8 hΔ e).1
 | .par i j a b=>by exact λD D' ρ S l h=>(a8 hΔ a).1 _ _ _ _ (λx S1 q=>(a8 hΔ b).1 _ _ _ _ (λy S2 q=>l.nx _ _ q) q) h
 | .put o i e=>by exact λD D' ρ S l h=>(a8 hΔ e).1 _ _ _ _ (λv S1 q=>(a8 hΔ o).1 _ _ _ _ (λx S2 q=>(a8 hΔ i).1 _ _ _ _ (λy S3 q=>DH (λS4 q=>l.nx _ _ q) q) q) q) h
 | .augS o i e=>by exact λD D' ρ S l h=>(a8 hΔ o).1 _ _ _ _ (λx S1 q=>(a8 hΔ i).1 _ _ _ _ (λy S2 ⟨k,j,xs,a,e1,e2,h1,h2,q⟩=>⟨k,j,xs,a,e1,e2,h1,h2,(a8 hΔ e).1 _ _ _ _ (λv S4 ⟨b,ys,e1,h4,h5,q⟩=>⟨b,ys,e1,h4,h5,l.nx _ _ q⟩) q⟩) q) h
 | .expr e=>by exact λD D' ρ S l h=>(a8 hΔ e).1 _ _ _ _ (λx S1 q=>l.nx _ _ q) h
 | .iff t a b=>by exact Fy (a8 hΔ t).2 (g6 hΔ a) (g6 hΔ b)
 | .loop g it b=>by exact λD D' ρ S l h=>Fz hΔ it _ _ _ _ (λkeep xs S1 q=>BZ (g6 hΔ b) xs l _ _ q) h
 | .tri b=>by exact g6 hΔ b
 | .whl t b=>by exact Fx (a8 hΔ t).2 (g6 hΔ b)
 | .ret e=>by exact λD D' ρ S l h=>(a8 hΔ e).1 _ _ _ _ l.rt h
 | .no=>by exact λD D' ρ S l h=>h
theorem g6{Δ:Nat->Sn}(hΔ:∀ f,MonoN (Δ f)):∀(s:List Stm),MonoS (wSs Δ s)
 | []=>by exact λD D' ρ S l h=>l.nx _ _ h
 | s::ss=>by exact λD D' ρ S l h=>(P8 hΔ s).go (D:={D with nx:=wSs Δ ss D}) h ⟨λρ' S' q=>(g6 hΔ ss) _ _ _ _ l q,l.rt,l.bk,l.ct⟩
end
theorem Mg{P:List YK->Prop}{n:Nat}(h:∀ a us,us.length=n->P (a::us)):∀ us:List YK,us.length=n+1->P us
 | a::us,e=>h a us (Nat.succ.inj e)
theorem Dk{P:List YK->Prop}(h:∀ a,P [a]):∀ us:List YK,us.length=1->P us:=Mg λa us e=>Wy.mp e▸h a
theorem BH{P:List YK->Prop}(h:∀ a b,P [a,b]):∀ us:List YK,us.length=2->P us:=Mg λa=>Dk (P:=λus=>P (a::us)) (h a)
theorem C2{P:List YK->Prop}(h:∀ a b c,P [a,b,c]):∀ us:List YK,us.length=3->P us:=Mg λa=>BH (P:=λus=>P (a::us)) (h a)
theorem HW{P:List YK->Prop}(h:∀ a b c d,P [a,b,c,d]):∀ us:List YK,us.length=4->P us:=Mg λa=>C2 (P:=λus=>P (a::us)) (h a)
theorem P9{P:List YK->Prop}(h:∀ a b c d e,P [a,b,c,d,e]):∀ us:List YK,us.length=5->P us:=Mg λa=>HW (P:=λus=>P (a::us)) (h a)
structure Df where
 name:Str
 st:Stmt
 ps:List Str
 N:List Str
 body:List Stm
def v8(Q:QE):EndsS:=⟨λ_ S'=>Q .non S',Q,λ_ _=>False,λ_ _=>False⟩
def Mj(n:Nat)(xs:List SV):EnvS:=xs.map some++Uv (n - xs.length) none
noncomputable def f6(Δ:Nat->Sn)(D:Df):Sn:=λxs S Q=>xs.length=D.ps.length/\wSs Δ D.body (v8 Q) (Mj D.N.length xs) S
noncomputable def W(prog:List Df):Nat->Nat->Sn
 | 0,_=>λ_ _ _=>False
 | d+1,f=>match prog[f]? with
   | some D=>f6 (W prog d) D
   | none=>λ_ _ _=>False
theorem Ml{Δ:Nat->Sn}(hΔ:∀ f,MonoN (Δ f))(D:Df):MonoN (f6 Δ D):=λxs S P P' i h=>⟨h.1,(g6 hΔ D.body).go h.2 ⟨λ_ _ q=>i _ _ q,i,λ_ _ q=>q,λ_ _ q=>q⟩⟩
theorem DK{prog:List Df}:∀(d f:Nat),MonoN (W prog d f)
 | 0,f=>λ_ _ _ _ _ h=>h
 | d+1,f=>by
   unfold W;split
   ·exact Ml (DK d) _
   ·exact λ_ _ _ _ _ h=>h
def fnB(N ps:List Str)(sc:Yd):Bool:=decide (sc.kind = .function)&&!sc.isCoroutine&&!sc.isGenerator&&decide N.Nodup&&decide (N.take ps.length=ps)&&ps.all (loc sc)&&sc.names.all (λy=>!decide (y.2 = .free))
theorem SN{N ps:List Str}{sc:Yd}(h:fnB N ps sc=true):FnScope N ps sc:=by
 unfold fnB at h;simp only[Uo,dQ,VM,VC,decide_eq_false_iff_not]at h;obtain⟨⟨⟨⟨⟨⟨h1,h2⟩,h3⟩,h4⟩,h5⟩,h6⟩,h7⟩:=h;refine⟨h1,h2,h3,h4,h5,λx hx=>?_,h7⟩;have:=h6 x hx;unfold loc at this;simpa using this
noncomputable def PB(T:List Str)(D:Df):Bool:=fnB D.N D.ps (defScope D.st)&&Be T D.N (defScope D.st) D.body (defBody D.st)
structure Bl(mg:Str->Option YK):Prop where
 bl:∀ b:BI,mg b.name=none
 rng:mg "range"=none
 enm:mg "enumerate"=none
 rvs:mg "reversed"=none
 zip:mg "zip"=none
 sm0:mg "sum"=none
 st0:mg "set"=none
 dc0:mg "dict"=none
 ty:∀ t:TyN,t ≠ .none->mg (Str.ofString t.nm)=none
section
variable{P:YT}{w:YX}{K:Um}{mg:Str->Option YK}{base:Heap}
theorem K4{as:List YN}{H:Hp}{N:List Str}{vs:List V}{xs:List SV}(r:RlAll K as H vs xs):EnvOk K as H (L2.start N vs) (Mj N.length xs):=by
 unfold L2.start Mj;rw[<-r.length];refine⟨by simp[r.length],λi x e=>?_⟩;by_cases hi:i<vs.length
 ·rw[V9 (by rw[Ur,<-r.length];exact hi),Uz]at e;rw[V9 (by simpa using hi),Uz];cases hx:xs[i]? with
  | none=>rw[hx]at e;cases e
  | some y=>
    rw[hx]at e;have:y=x:=by simpa using e
    subst this;obtain⟨v,hv,rv⟩:=r.get hx;exact⟨v,by rw[hv];rfl,rv⟩
 ·rw[VL (by rw[Ur,<-r.length];omega),W3]at e;split at e<;>cases e
theorem Mn{T:List Str}{Δ:Nat->Sn}{D:Df}{f:YN}{fd:Z5}{k:Nat}(F:Fun K D.name D.name D.st f fd)(hc:PB T D=true)(B:Bl mg)(hcall:∀ f x,T[f]?=some x->∃ ps,Cal P w K mg base k x ps (spS K (Δ f)))(hΔ:∀ f,MonoN (Δ f)):FnOk P w K mg base CX0 (k+1) f fd D.ps (spS K (f6 Δ D)):=by
 unfold PB at hc;rw[Uo]at hc;have S:=SN hc.1;refine F.ok S (λvs H Q E h=>?_) (λcdv A outer s H vs Q E hr h=>?_)
 ·obtain⟨as,S,xs,ok,r,hl,_⟩:=h;rw[r.length];exact hl
 ·have C:Cok T Δ (GV CX0 P w K mg base D.N D.name (defScope D.st) f cdv A outer s H E).nox D.N.length D.N (defScope D.st):={
   hN:=rfl,hs:=rfl,nd:=S.nd,calm:=rfl,fn:=λ_ _ _ _ _=>rfl
   un:=by have:=hr.un;show(A.deeper _).units+102<cLine;omega
   bl:=B.bl,rng:=B.rng,enm:=B.enm,rvs:=B.rvs,zip:=B.zip,sm0:=B.sm0,st0:=B.st0,dc0:=B.dc0,ty:=B.ty,gd:=hr.gd
   call:=λg x hx=>let ⟨ps,c⟩:=hcall g x hx;⟨k,ps,c,hr⟩
   mono:=hΔ}
  refine⟨_,(AQ C PassesOwn.never (λ_ _ h=>h) S.kind D.body _ hc.2).ps,?_⟩;obtain⟨as,S,xs,ok,r,hl,h⟩:=h;refine⟨as,_,S,ok,K4 r,(g6 hΔ D.body).go h ⟨λρ' S' q as' H' σ' g ok' en'=>q as' H' _ g ok' (rl_non.mpr rfl),λx S' q=>q,λ_ _ q=>q.elim,λ_ _ q=>q.elim⟩⟩
structure PIn(K:Um)(mg:Str->Option YK)(D:Df):Prop where
 ex:∃ f fd,Fun K D.name D.name D.st f fd/\mg D.name=some (.ref f)/\PySem.W.keepIn K (.ref f)=true/\Binds K fd D.ps []
theorem Ig{prog:List Df}(hc:prog.all (PB (prog.map (·.name)))=true)(B:Bl mg)(hin:∀ D∈prog,PIn K mg D):∀(d f:Nat) (D:Df),prog[f]?=some D->Cal P w K mg base d D.name D.ps (spS K (W prog d f))
 | 0,f,D,hf=>by
   obtain⟨fa,fd,F,hm,hk,hb⟩:=(hin D (Us hf)).ex;refine⟨fa,fd,⟨λvs H Q E h=>?_,λA outer s H args us vs Q E hr he hbn hv h=>?_⟩,hm,hk,hb⟩
   ·obtain⟨_,_,_,_,_,z⟩:=h;exact z.elim
   ·obtain⟨_,_,_,_,_,z⟩:=h;exact z.elim
 | d+1,f,D,hf=>by
   obtain⟨fa,fd,F,hm,hk,hb⟩:=(hin D (Us hf)).ex;have h1:=VC.mp hc D (Us hf)
   have:=Mn (Δ:=W prog d) (P:=P) (w:=w) (base:=base) (k:=d) F h1 B (λg x hx=>by
    rw[Uz]at hx;cases hg:prog[g]? with
    | none=>rw[hg]at hx;cases hx
    | some D'=>
      rw[hg]at hx;have:D'.name=x:=by simpa using hx
      subst this;exact⟨D'.ps,Ig hc B hin d g D' hg⟩) (DK d)
   have e:W prog (d+1) f=f6 (W prog d) D:=by rw[W,hf]
   rw[e];exact⟨fa,fd,this,hm,hk,hb⟩
theorem SQ{prog:List Df}{d f:Nat}{H:Hp}{a:YN}{ns:List Int}(main:W prog d f [.ro (ns.map SV.int)] [] λx _=>x = .bl true)(hO:Nn H)(hS:SqL K H a (ns.map V.int)):spS K (W prog d f) [.ref a] H (λv _=>v = .bl true) λ_ _ _=>False:=by
 have hz:FzL K H a (ns.map V.int):=by
  rcases hS with(h | ⟨o,h⟩) | h
  ·rcases hO a with z | ⟨o,xs,z⟩<;>rw[h]at z<;>cases z
  ·exact .inl ⟨o,h⟩
  ·exact .inr h
 refine⟨[],[],_,⟨rfl,Y5,λk o a e=>by simp at e⟩,.cons (rl_ro.mpr ⟨a,_,rfl,hz,RlAll.ints⟩) .nil,DK d f _ _ _ _ (λx S' e as' H' v g ok r=>?_) main⟩;subst e;exact rl_bl.mp r
end
theorem a7{k:Nat}{S:Sto}{xs:List SV}(h:S[k]?=some (.lst xs)):seqS (.loc k) S=some xs:=by simp only[seqS,h]
theorem G7{k:Nat}{S:Sto}{xs:List SV}(h:S[k]?=some (.lst xs)):D5 (.loc k) S=none:=by simp only[D5,h]
theorem Er{k:Nat}{S:Sto}{xs:List SV}(h:S[k]?=some (.lst xs)):Lm (.loc k) S=some (!xs.isEmpty):=by simp only[Lm,h]
theorem CN{k:Nat}{S:Sto}{xs:List SV}(h:S[k]?=some (.lst xs)):tyS (.loc k) S=some .list:=by simp only[tyS,h]
theorem ifT{b:Bool}{A B:Prop}(h:b=true)(a:A):if b=true then A else B:=by rw[iP h];exact a
theorem ifF{b:Bool}{A B:Prop}(h:b=false)(a:B):if b=true then A else B:=by rw[iG (by rw[h];decide)];exact a
theorem ifD{c A B:Prop}[Decidable c](h1:c->A)(h2:¬ c->B):if decide c=true then A else B:=by
 by_cases h:c
 ·rw[iP (decide_eq_true h)];exact h1 h
 ·rw[iG (by simpa using h)];exact h2 h
theorem ifB{b:Bool}{A B:Prop}(h1:b=true->A)(h2:b=false->B):if b=true then A else B:=by
 cases b with
 | true=>rw[iP rfl];exact h1 rfl
 | false=>rw[iG (by decide)];exact h2 rfl
theorem l6{S:Sto}{k:Nat}{o u:SO}(h:S[k]?=some o):(S.set k u)[k]?=some u:=V6 ((gM h).1)
theorem j5{S:Sto}{k j:Nat}{u:SO}(h:k≠j):(S.set k u)[j]?=S[j]?:=VR h
theorem c6{S:Sto}{o:SO}:(S++[o])[S.length]?=some o:=VT
theorem c7{S:Sto}{o u:SO}{k:Nat}(h:S[k]?=some u):(S++[o])[k]?=some u:=by
 rw[V9 ((gM h).1)];exact h
theorem AZ{S:Sto}{o:SO}{k:Nat}(h:S[k]?=some o):k<S.length:=(gM h).1
structure TapeS(S:Sto)(t:Nat):Prop where
 ex:∃ a b:Int,S[t]?=some (.lst [.int a,.int b])/\0<=a/\0<=b/\b<2147483647
structure On(t:Nat)(S S':Sto):Prop where
 len:S.length<=S'.length
 keep:∀ k o,k≠t->S[k]?=some o->S'[k]?=some o
theorem On.refl(t:Nat)(S:Sto):On t S S:=⟨Ux _,λ_ _ _ h=>h⟩
theorem On.trans{t:Nat}{S S' S'':Sto}(a:On t S S')(b:On t S' S''):On t S S'':=⟨VF a.len b.len,λk o n h=>b.keep k o n (a.keep k o n h)⟩
theorem On.push{t:Nat}{S S':Sto}{o:SO}(a:On t S S'):On t S (S'++[o]):=⟨by rw[Ut];have:=a.len;omega,λk u n h=>c7 (a.keep k u n h)⟩
theorem On.tape{t:Nat}{S S':Sto}{o:SO}(a:On t S S'):On t S (S'.set t o):=⟨by rw[VH];exact a.len,λk u n h=>by rw[j5 (Ne.symm n)];exact a.keep k u n h⟩
theorem On.new{t k:Nat}{S S':Sto}{o:SO}(a:On t S S')(h:S.length<=k):On t S (S'.set k o):=⟨by rw[VH];exact a.len,λj u n hj=>by
 rw[j5 (λz=>by have:=AZ hj;omega)];exact a.keep j u n hj⟩
theorem TapeS.push{S:Sto}{t:Nat}{o:SO}(h:TapeS S t):TapeS (S++[o]) t:=let ⟨a,b,e,z⟩:=h.ex;⟨a,b,c7 e,z⟩
theorem TapeS.other{S:Sto}{t k:Nat}{o:SO}(h:TapeS S t)(n:k≠t):TapeS (S.set k o) t:=let ⟨a,b,e,z⟩:=h.ex;⟨a,b,by rw[j5 n];exact e,z⟩
theorem TapeS.lt{S:Sto}{t:Nat}(h:TapeS S t):t<S.length:=let ⟨_,_,e,_⟩:=h.ex;AZ e
theorem m6{keep:Sto->Prop}{g:Tg}{b:WS}{D:EndsS}(mb:MonoS b)(I:Nat->EnvS->Sto->Prop){xs:List SV}{ρ:EnvS}{S:Sto}(h0:I 0 ρ S)(hk:∀ i ρ S,I i ρ S->keep S)
 (hs:∀ i x ρ S,xs[i]?=some x->I i ρ S->wTg g x ρ λρ2=>b {D with nx:=I (i+1),ct:=I (i+1),bk:=D.nx} ρ2 S) (hd:∀ ρ S,I xs.length ρ S->D.nx ρ S):v5 keep g b D xs ρ S:=by
 have go:∀(ys:List SV) (i:Nat) (ρ:EnvS) (S:Sto),xs.drop i=ys->i<=xs.length->I i ρ S->v5 keep g b D ys ρ S:=by
  intro ys
  induction ys with
  | nil=>
    intro i ρ S e hi h
    have:i=xs.length:=by
     have:=congrArg XZ e;rw[Vl,WB]at this;omega
    subst this;unfold v5;exact⟨hk _ _ _ h,hd _ _ h⟩
  | cons y ys ih=>
    intro i ρ S e hi h
    have hy:xs[i]?=some y:=by
     rw[<-Y1,e];rfl
    have hlt:=(gM hy).1;have e2:xs.drop (i+1)=ys:=by rw[<-Y6,e];rfl
    unfold v5;refine⟨hk _ _ _ h,w6 g (λρ2 q=>?_) (hs i y ρ S hy h)⟩;exact mb.go (D:={D with nx:=I (i+1),ct:=I (i+1),bk:=D.nx}) q ⟨λρ' S' z=>ih (i+1) ρ' S' e2 hlt z,λ_ _ z=>z,λ_ _ z=>z,λρ' S' z=>ih (i+1) ρ' S' e2 hlt z⟩
 exact go xs 0 ρ S rfl (Ww _) h0
theorem Aa{keep:Sto->Prop}{g:Tg}{b:WS}{D:EndsS}(mb:MonoS b)(I:Nat->EnvS->Sto->Prop){xs:List SV}{ρ:EnvS}{S:Sto}(h0:I 0 ρ S)(hk:∀ i ρ S,I i ρ S->keep S)
 (hs:∀ i x ρ S (E:EndsS),(∀ ρ S,I (i+1) ρ S->E.nx ρ S)->(∀ y S,D.rt y S->E.rt y S)->xs[i]?=some x->I i ρ S->wTg g x ρ λρ2=>b E ρ2 S) (hd:∀ ρ S,I xs.length ρ S->D.nx ρ S):v5 keep g b D xs ρ S:=
 m6 mb I h0 hk (λi x ρ S hx hI=>hs i x ρ S {D with nx:=I (i+1),ct:=I (i+1),bk:=D.nx} (λ_ _ h=>h) (λ_ _ h=>h) hx hI) hd
theorem PC{b:WS}{nx ct bk:EnvS->Sto->Prop}{rt:SV->Sto->Prop}{ρ:EnvS}{S:Sto}(h:∀ E:EndsS,(∀ ρ S,nx ρ S->E.nx ρ S)->(∀ x S,rt x S->E.rt x S)->b E ρ S):b ⟨nx,rt,bk,ct⟩ ρ S:=h _ (λ_ _ z=>z) (λ_ _ z=>z)
theorem h9{keep:Sto->Prop}{g:Tg}{t:WT}{e:WE}{ρ:EnvS}{Q:List SV->Sto->Prop}(mt:MonoT t)(me:Mono e)(I:Nat->List SV->Sto->Prop){xs:List SV}{S:Sto}(h0:I 0 [] S)(hk:∀ i ys S,I i ys S->keep S)
 (hs:∀ i x ys S,xs[i]?=some x->I i ys S->wTg g x ρ λρ2=>t ρ2 S λb S1=>if b=true then e ρ2 S1 λy S2=>ys.length<big/\I (i+1) (ys++[y]) S2 else I (i+1) ys S1) (hd:∀ ys S,I xs.length ys S->Q ys S):p0 keep g t e ρ Q xs [] S:=by
 have go:∀(zs:List SV) (i:Nat) (ys:List SV) (S:Sto),xs.drop i=zs->i<=xs.length->I i ys S->p0 keep g t e ρ Q zs ys S:=by
  intro zs
  induction zs with
  | nil=>
    intro i ys S e' hi h
    have:i=xs.length:=by
     have:=congrArg XZ e';rw[Vl,WB]at this;omega
    subst this;unfold p0;exact⟨hk _ _ _ h,hd _ _ h⟩
  | cons y zs ih=>
    intro i ys S e' hi h;have hy:xs[i]?=some y:=by rw[<-Y1,e'];rfl
    have hlt:=(gM hy).1;have e2:xs.drop (i+1)=zs:=by rw[<-Y6,e'];rfl
    unfold p0;refine⟨hk _ _ _ h,w6 g (λρ2 q=>mt _ _ _ _ (λb S1 q=>l0 (λq=>me _ _ _ _ (λv S2 q=>⟨q.1,ih (i+1) _ S2 e2 hlt q.2⟩) q) (λq=>ih (i+1) _ S1 e2 hlt q) q) q) (hs i y ys S hy h)⟩
 exact go xs 0 [] S rfl (Ww _) h0
theorem v7{lo hi:Int}{i:Nat}{x:SV}(h:(CI lo hi)[i]?=some x):x = .int (lo+i)/\lo+i<hi:=by
 unfold CI at h
 have hi':i<(hi - lo).toNat:=by
  have:=(gM h).1;simpa using this
 rw[Uz,Vu hi']at h;exact⟨(oj h).symm,by omega⟩
theorem m4{lo hi:Int}:(CI lo hi).length=(hi - lo).toNat:=by unfold CI;simp
def pairS(e:Nat×Nat):SV := .tup [.int e.1,.int e.2]
def QL:List Stm:=[(.asg (.nm 2) (.c (.int 0))),(.iff (.cmp .Lt (.var 1) (.bi .len (.cons (.var 0) .nil))) [(.asg (.nm 2) (.ix (.var 0) (.var 1)))] []),(.asg (.nm 3) (.op .Mult (.bi .abs (.cons (.var 2) .nil)) (.bi .int (.cons (.cmp .GtE (.bi .abs (.cons (.var 2) .nil)) (.op .Pow (.c (.int 10)) (.c (.int 18)))) .nil)))),(.ret (.lst (.cons (.var 3) (.cons (.op .Mod (.op .Mult (.op .Mod (.op .Add (.op .Add (.var 2) (.op .Mult (.c (.int 7919)) (.var 1))) (.c (.int 1))) (.c (.int 2147483647))) (.c (.int 48271))) (.c (.int 2147483647))) .nil))))]
noncomputable def QM:List Stm:=[(.iff (.cmp .Gt (.ix (.var 0) (.c (.int 0))) (.c (.int 0))) [(.asg (.nm 2) (.op .Mod (.ix (.var 0) (.c (.int 0))) (.var 1))),(.put (.var 0) (.c (.int 0)) (.op .FloorDiv (.ix (.var 0) (.c (.int 0))) (.var 1))),(.ret (.var 2))] []),(.put (.var 0) (.c (.int 1)) (.op .Mod (.op .Add (.op .Mult (.ix (.var 0) (.c (.int 1))) (.c (.int 48271))) (.c (.int 12345))) (.c (.int 2147483647)))),(.asg (.nm 3) (.op .Mod (.op .Mult (.ix (.var 0) (.c (.int 1))) (.op .Add (.op .Mod (.ix (.var 0) (.c (.int 1))) (.c (.int 1009))) (.c (.int 3)))) (.c (.int 2147483629)))),(.ret (.op .Mod (.op .Mod (.op .Mult (.var 3) (.op .Add (.op .Mod (.var 3) (.c (.int 997))) (.c (.int 5)))) (.c (.int 998244353))) (.var 1)))]
def BJ(s:Sn):Prop:=∀{t:Nat} {m:Int} {S:Sto} {Q:QE},TapeS S t->0<m->m<1073741824->(∀(r:Int) (S':Sto),0<=r->r<m->TapeS S' t->On t S S'->S'.length=S.length->Q (.int r) S')->s [.loc t,.int m] S Q
def Mo(s:Sn):Prop:=∀{ns:List Int} {k:Nat} {S:Sto} {Q:QE},ns.length<=63->k<=1000->(∀ a b:Int,0<=a->0<=b->b<2147483647->Q (.loc S.length) (S++[.lst [.int a,.int b]]))->s [.ro (ns.map SV.int),.int k] S Q
theorem b01(b:Bool):-(2 ^ 64)<(if b=true then (1:Int) else 0)/\(if b=true then (1:Int) else 0)<2 ^ 64:=by cases b<;>decide
theorem b00(b:Bool):0<=(if b=true then (1:Int) else 0):=by cases b<;>decide
theorem PD{Δ:Nat->Sn}{D:Df}(hb:D.body=QM)(hN:D.N.length=4)(hp:D.ps.length=2):BJ (f6 Δ D):=by
 intro t m S Q T h0 h1 q;obtain⟨a,b,hS,ha,hb0,hb1⟩:=T.ex;unfold f6;rw[hb,hN];refine⟨hp.symm,?_⟩;have go:∀ r a' b':Int,0<=r->r<m->0<=a'->0<=b'->b'<2147483647->Q (.int r) (S.set t (.lst [.int a',.int b'])):=λr a' b' r0 r1 a0 b0 b1=>q r _ r0 r1 ⟨a',b',l6 hS,a0,b0,b1⟩ (On.refl t S).tape (by rw[VH]);refine⟨_,rfl,_,_,a7 hS,rfl,_,rfl,ifD (λh=>?_) (λh=>?_)⟩
 ·refine⟨_,rfl,_,_,a7 hS,rfl,_,rfl,h0,?_⟩;refine⟨_,rfl,_,_,a7 hS,rfl,_,rfl,⟨h0,h1⟩,_,rfl,_,_,hS,rfl,_,rfl,?_⟩;exact go _ _ _ (Wv _ (by omega)) (Wh _ h0) (Int.ediv_nonneg ha (by omega)) hb0 hb1
 ·refine⟨_,rfl,_,_,a7 hS,rfl,.inr (by decide),show(0:Int)<2147483647 by decide,_,rfl,_,_,hS,rfl,?_⟩;have e0:0<=(b * 48271+12345) % 2147483647:=Wv _ (by decide);have e1:(b * 48271+12345) % 2147483647<2147483647:=Wh _ (by decide);have hS1:(S.set t (.lst [.int a,.int ((b * 48271+12345) % 2147483647)]))[t]?=some (.lst [.int a,.int ((b * 48271+12345) % 2147483647)]):=l6 hS;refine⟨_,rfl,_,_,a7 hS1,rfl,_,rfl,_,_,a7 hS1,rfl,show(0:Int)<1009 by decide,.inl ⟨by omega,by omega⟩,show(0:Int)<2147483629 by decide,?_⟩;have f0:0<=((b * 48271+12345) % 2147483647 * ((b * 48271+12345) % 2147483647 % 1009+3)) % 2147483629:=Wv _ (by decide);have f1:((b * 48271+12345) % 2147483647 * ((b * 48271+12345) % 2147483647 % 1009+3)) % 2147483629<2147483629:=Wh _ (by decide);refine⟨_,rfl,_,rfl,show(0:Int)<997 by decide,.inl ⟨by omega,by omega⟩,show(0:Int)<998244353 by decide,_,rfl,h0,?_⟩;exact go _ _ _ (Wv _ (by omega)) (Wh _ h0) ha e0 e1
theorem PF{Δ:Nat->Sn}{D:Df}(hb:D.body=QL)(hN:D.N.length=4)(hp:D.ps.length=2):Mo (f6 Δ D):=by
 intro ns k S Q hl hk q;unfold f6;rw[hb,hN];refine⟨hp.symm,?_⟩
 have fin:∀ c:Int,wSs Δ [(.asg (.nm 3) (.op .Mult (.bi .abs (.cons (.var 2) .nil)) (.bi .int (.cons (.cmp .GtE (.bi .abs (.cons (.var 2) .nil)) (.op .Pow (.c (.int 10)) (.c (.int 18)))) .nil)))),(.ret (.lst (.cons (.var 3) (.cons (.op .Mod (.op .Mult (.op .Mod (.op .Add (.op .Add (.var 2) (.op .Mult (.c (.int 7919)) (.var 1))) (.c (.int 1))) (.c (.int 2147483647))) (.c (.int 48271))) (.c (.int 2147483647))) .nil))))] (v8 Q) [some (.ro (ns.map SV.int)),some (.int k),some (.int c),none] S:=λc=>by
  refine⟨_,rfl,_,rfl,⟨by decide,by decide,by decide⟩,.inr (b01 _),?_⟩;refine⟨_,rfl,_,rfl,_,rfl,.inl ⟨by decide,by decide⟩,show(0:Int)<2147483647 by decide,.inr ⟨by decide,by decide⟩,show(0:Int)<2147483647 by decide,by show 2<=big;decide,?_⟩;refine q _ _ (Int.mul_nonneg (by split<;>omega) (b00 _)) (Wv _ (by decide)) (Wh _ (by decide))
 refine⟨_,rfl,_,rfl,_,rfl,_,rfl,ifD (λh=>?_) (λh=>fin 0)⟩
 have hk':k<ns.length:=by
  have:((ns.map SV.int).length:Int)=ns.length:=by rw[Ur]
  omega
 refine⟨_,rfl,_,rfl,_,_,rfl,e7 (v := .int ns[k]) (by rw[Uz,Uq hk'];rfl),?_⟩;exact fin _
structure Ah(t:Nat)(S0 S:Sto)(l:Nat)(es:EE):Prop where
 tape:TapeS S t
 on:On t S0 S
 at':S[l]?=some (.lst (es.map pairS))
 new:S0.length<=l
 t0:t<S0.length
theorem Ah.ne{t l:Nat}{S0 S:Sto}{es:EE}(h:Ah t S0 S l es):l≠t:=by have:=h.new;have:=h.t0;omega
theorem Ah.draw{t l:Nat}{S0 S S':Sto}{es:EE}(h:Ah t S0 S l es)(T:TapeS S' t)(O:On t S S'):Ah t S0 S' l es:=⟨T,h.on.trans O,O.keep _ _ h.ne h.at',h.new,h.t0⟩
theorem Ah.push{t l:Nat}{S0 S:Sto}{es:EE}{o:SO}(h:Ah t S0 S l es):Ah t S0 (S++[o]) l es:=⟨h.tape.push,h.on.push,c7 h.at',h.new,h.t0⟩
theorem Ah.put{t l:Nat}{S0 S:Sto}{es fs:EE}(h:Ah t S0 S l es):Ah t S0 (S.set l (.lst (fs.map pairS))) l fs:=⟨h.tape.other h.ne,h.on.new h.new,l6 h.at',h.new,h.t0⟩
def f7(n:Nat)(es:EE):SV := .tup [.int n,.tup (es.map pairS)]
theorem DL{xs:List SV}:Dd xs []=xs.isEmpty:=by cases xs<;>rfl
def HX:List Stm:=[(.ret (.and (.bi .isi (.cons (.var 0) (.cons (.tyc .int) .nil))) (.not (.bi .isi (.cons (.var 0) (.cons (.tyc .bool) .nil))))))]
def EF(k:Nat):List Stm:=[(.ret (.and (.call k (.cons (.var 1) .nil)) (.chn .LtE .Lt (.c (.int 0)) (.var 1) (.ix (.var 0) (.c (.int 0))))))]
def Ih(k:Nat):List Stm:=[(.ret (.and (.call k (.cons (.var 1) .nil)) (.chn .LtE .Lt (.c (.int 0)) (.var 1) (.bi .len (.cons (.ix (.var 0) (.c (.int 1))) .nil)))))]
def Es(k:Nat):List Stm:=[(.iff (.not (.call k (.cons (.var 0) (.cons (.var 1) .nil)))) [.no] [])]
def Ii(k:Nat):List Stm:=[(.expr (.call k (.cons (.var 0) (.cons (.var 1) .nil)))),(.ret (.comp ["tie","ends"] ["place"] [1] (.tup (.cons (.nm 0) (.cons (.nm 1) .nil))) (.enum (.ix (.var 0) (.c (.int 1)))) (.yes (.cmp .In (.var 2) (.var 1))) (.var 0)))]
def Ij(k:Nat):List Stm:=[(.expr (.call k (.cons (.var 0) (.cons (.var 1) .nil)))),(.asg (.tup (.cons (.nm 3) (.cons (.nm 4) .nil))) (.ix (.ix (.var 0) (.c (.int 1))) (.var 1))),(.iff (.cmp .Eq (.var 2) (.var 3)) [(.ret (.var 4))] []),(.iff (.cmp .Eq (.var 2) (.var 4)) [(.ret (.var 3))] []),.no]
def Cl(s:Sn):Prop:=∀{i:Int} {S:Sto} {Q:QE},Q (.bl true) S->s [.int i] S Q
def Bn(s:Sn):Prop:=∀{n p:Nat} {es:EE} {S:Sto} {Q:QE},p<n->Q (.bl true) S->s [f7 n es,.int p] S Q
def BK(s:Sn):Prop:=∀{n j:Nat} {es:EE} {S:Sto} {Q:QE},j<es.length->Q (.bl true) S->s [f7 n es,.int j] S Q
def AI(s:Sn):Prop:=∀{n p:Nat} {es:EE} {S:Sto} {Q:QE},p<n->Q .non S->s [f7 n es,.int p] S Q
def Bo(s:Sn):Prop:=∀{n j:Nat} {es:EE} {S:Sto} {Q:QE},j<es.length->Q .non S->s [f7 n es,.int j] S Q
def g8(es:EE)(p:Nat)(i:Nat):List Nat:=(Uy i).filter λj=>match es[j]? with | some e=>decide (e.1=p)||decide (e.2=p) | none=>false
def natS(xs:List Nat):List SV:=xs.map λ(i:Nat)=>SV.int i
def BL(s:Sn):Prop:=∀{n p:Nat} {es:EE} {S:Sto} {Q:QE},es.length<=5000->p<n->Q (.loc S.length) (S++[.lst (natS (g8 es p es.length))])->s [f7 n es,.int p] S Q
def farE(e:Nat×Nat)(p:Nat):Nat:=if p=e.1 then e.2 else e.1
def BM(s:Sn):Prop:=∀{n p j:Nat} {es:EE} {e:Nat×Nat} {S:Sto} {Q:QE},es[j]?=some e->(p=e.1\/p=e.2)->Q (.int (farE e p)) S->s [f7 n es,.int j,.int p] S Q
section
variable{Δ:Nat->Sn}
theorem Mp{D:Df}(hb:D.body=HX)(hN:D.N.length=1)(hp:D.ps.length=1):Cl (f6 Δ D):=by
 intro i S Q q;unfold f6;rw[hb,hN];exact⟨hp.symm,_,rfl,_,nofun,rfl,_,rfl,ifT rfl ⟨_,rfl,_,nofun,rfl,_,rfl,q⟩⟩
theorem G8{k:Nat}(h0:Cl (Δ k)){D:Df}(hb:D.body=EF k)(hN:D.N.length=2)(hp:D.ps.length=2):Bn (f6 Δ D):=by
 intro n p es S Q h q;unfold f6;rw[hb,hN];refine⟨hp.symm,_,rfl,h0 ⟨_,rfl,ifT rfl ⟨_,rfl,_,rfl,ifT (decide_eq_true (XC p)) ⟨_,rfl,_,_,rfl,rfl,?_⟩⟩⟩⟩;show Q (.bl (decide ((p:Int)<n))) S;rw[decide_eq_true (by omega)];exact q
theorem K5{k:Nat}(h0:Cl (Δ k)){D:Df}(hb:D.body=Ih k)(hN:D.N.length=2)(hp:D.ps.length=2):BK (f6 Δ D):=by
 intro n p es S Q h q;unfold f6;rw[hb,hN];refine⟨hp.symm,_,rfl,h0 ⟨_,rfl,ifT rfl ⟨_,rfl,_,rfl,ifT (decide_eq_true (XC p)) ⟨_,rfl,_,_,rfl,rfl,_,rfl,?_⟩⟩⟩⟩;show Q (.bl (decide ((p:Int)<(es.map pairS).length))) S;rw[decide_eq_true (by rw[Ur];omega)];exact q
theorem Dl{k:Nat}(h0:Bn (Δ k)){D:Df}(hb:D.body=Es k)(hN:D.N.length=2)(hp:D.ps.length=2):AI (f6 Δ D):=by
 intro n p es S Q h q;unfold f6;rw[hb,hN];exact⟨hp.symm,_,rfl,_,rfl,h0 h ⟨_,rfl,ifF rfl q⟩⟩
theorem G9{k:Nat}(h0:BK (Δ k)){D:Df}(hb:D.body=Es k)(hN:D.N.length=2)(hp:D.ps.length=2):Bo (f6 Δ D):=by
 intro n p es S Q h q;unfold f6;rw[hb,hN];exact⟨hp.symm,_,rfl,_,rfl,h0 h ⟨_,rfl,ifF rfl q⟩⟩
theorem DM{xs:List SV}{i:Nat}{x:SV}(h:(BC xs)[i]?=some x):∃ y,xs[i]?=some y/\x = .tup [.int i,y]:=by
 unfold BC at h;rw[XY]at h;cases hy:xs[i]? with
 | none=>rw[hy]at h;revert h;cases(Uy xs.length)[i]?<;>exact nofun
 | some y=>
   have hi:=(gM hy).1;rw[hy,Vu hi]at h;exact⟨y,rfl,(oj h).symm⟩
theorem Cn{xs:List SV}:(BC xs).length=xs.length:=by unfold BC;simp
theorem Ar{es:EE}{i:Nat}{x:SV}(h:(es.map pairS)[i]?=some x):∃ e,es[i]?=some e/\x=pairS e:=by
 rw[Uz]at h;cases he:es[i]? with
 | none=>rw[he]at h;cases h
 | some e=>rw[he]at h;exact⟨e,rfl,(oj h).symm⟩
theorem Ba(p:Nat)(e:Nat×Nat):inS (.int p) [.int e.1,.int e.2]=(decide (e.1=p)||decide (e.2=p)):=by
 have k:∀ a:Nat,((a:Int) == (p:Int))=decide (a=p):=λa=>by
  rw[Vj];simp[Vk]
 unfold inS;simp only[W2,YH,Y9,eqF,k]
theorem BN(es:EE)(p i:Nat){e:Nat×Nat}(h:es[i]?=some e):g8 es p (i+1)=g8 es p i++if (decide (e.1=p)||decide (e.2=p))=true then [i] else []:=by
 unfold g8;rw[Wi,WN]
 congr 1
 rw[WM,h];rfl
theorem DN(es:EE)(p i:Nat):(g8 es p i).length<=i:=by
 have:=WD (λj=>match es[j]? with | some e=>decide (e.1=p)||decide (e.2=p) | none=>false) (Uy i);rw[Vr]at this;exact this
theorem mem_tiesAt{es:EE}{p j:Nat}:j∈g8 es p es.length↔∃ e,es[j]?=some e/\(e.1=p\/e.2=p):=by
 unfold g8;rw[Vi,VG];constructor
 ·rintro⟨h,h2⟩;rw[Uq h]at h2;exact⟨_,Uq h,by simpa using h2⟩
 ·rintro⟨e,h,h2⟩;refine⟨(gM h).1,?_⟩;rw[h];simpa using h2
theorem K6{k:Nat}(hΔ:∀ f,MonoN (Δ f))(h0:AI (Δ k)){D:Df}(hb:D.body=Ii k)(hN:D.N.length=2)(hp:D.ps.length=2):BL (f6 Δ D):=by
 intro n p es S Q hl h q;unfold f6;rw[hb,hN];refine⟨hp.symm,_,rfl,_,rfl,h0 h ⟨_,rfl,_,_,rfl,rfl,_,rfl,?_⟩⟩;refine h9 (i9 hΔ _).2 (a8 hΔ _).1 (λi ys S'=>S'=S/\ys=natS (g8 es p i)) ⟨rfl,rfl⟩ (λ_ _ _ _=>trivial) ?_ ?_
 ·rintro i x ys S' hx ⟨rfl,rfl⟩;obtain⟨y,hy,rfl⟩:=DM hx;obtain⟨e,he,rfl⟩:=Ar hy;have hi:=(gM he).1;have ht:=DN es p i;refine⟨_,rfl,_,rfl,rfl,_,rfl,rfl,_,rfl,?_⟩;show if inS (.int p) [.int e.1,.int e.2]=true then _ else _
  rw[Ba];refine ifB (λh=>?_) (λh=>?_)
  ·refine⟨_,rfl,by show(natS _).length<100000;unfold natS;rw[Ur];omega,rfl,?_⟩;rw[BN es p i he,iP h];unfold natS;rw[VO];rfl
  ·refine⟨rfl,?_⟩;rw[BN es p i he,iG (by rw[h];decide),VY]
 ·rintro ys S' ⟨rfl,rfl⟩;rw[Cn,Ur];exact q
theorem K7{k:Nat}(h0:Bo (Δ k)){D:Df}(hb:D.body=Ij k)(hN:D.N.length=5)(hp:D.ps.length=3):BM (f6 Δ D):=by
 intro n p j es e S Q he h q;unfold f6;rw[hb,hN];refine⟨hp.symm,_,rfl,_,rfl,h0 (gM he).1 ⟨_,rfl,_,_,rfl,rfl,_,rfl,_,pairS e,rfl,e7 (by rw[Uz,he];rfl),?_⟩⟩;refine⟨_,rfl,_,rfl,_,rfl,?_⟩;refine ifD (λh1=>⟨_,rfl,?_⟩) (λh1=>⟨_,rfl,_,rfl,_,rfl,ifD (λh2=>⟨_,rfl,?_⟩) (λh2=>?_)⟩)
 ·have h1:p=e.1:=Vk.mp h1;unfold farE at q;rw[iP h1]at q;exact q
 ·have h1:¬ p=e.1:=λz=>h1 (congrArg _ z);unfold farE at q;rw[iG h1]at q;exact q
 ·rcases h with h | h
  ·exact absurd (congrArg Nat.cast h) h1
  ·exact absurd (congrArg Nat.cast h) h2
end
theorem f8{xs:List Nat}:(natS xs).length=xs.length:=by unfold natS;rw[Ur]
theorem C3{xs:List Nat}{i x:Nat}(h:xs[i]?=some x):(natS xs)[i]?=some (.int x):=by unfold natS;rw[Uz,h];rfl
theorem m7{xs ys:List Nat}:natS (xs++ys)=natS xs++natS ys:=by unfold natS;rw[VO]
section
variable{Δ:Nat->Sn}{k:Nat}{D:Df}
theorem Mq(n:Nat):blS (Uv n (.bl true))=some (Uv n true):=by
 induction n with
 | zero=>rfl
 | succ n ih=>rw[VQ,VQ];simp[blS,ih]
end
def UM:Option Nat->SV
 | some j => .int j
 | none => .non
def optsS(xs:List (Option Nat)):List SV:=xs.map UM
theorem AR{xs:List (Option Nat)}{i:Nat}{x:Option Nat}(h:xs[i]?=some x):(optsS xs)[i]?=some (UM x):=by unfold optsS;rw[Uz,h];rfl
structure Gw(S S':Sto):Prop where
 len:S.length<=S'.length
 keep:∀(k:Nat) (o:SO),S[k]?=some o->S'[k]?=some o
theorem Gw.refl(S:Sto):Gw S S:=⟨Ux _,λ_ _ h=>h⟩
theorem Gw.push{S S':Sto}{o:SO}(h:Gw S S'):Gw S (S'++[o]):=⟨by rw[Ut];have:=h.len;omega,λk u z=>c7 (h.keep k u z)⟩
theorem Gw.put{S S':Sto}{o:SO}{k:Nat}(h:Gw S S')(hk:S.length<=k):Gw S (S'.set k o):=⟨by rw[VH];exact h.len,λj u z=>by
 rw[j5 (λe=>by have:=AZ z;omega)];exact h.keep j u z⟩
theorem Gw.trans{S S' S'':Sto}(a:Gw S S')(b:Gw S' S''):Gw S S'':=⟨VF a.len b.len,λk o h=>b.keep k o (a.keep k o h)⟩
theorem Mr{xs:List Nat}{x:Nat}:(natS (xs++[x])).dropLast=natS xs:=by rw[m7];exact List.dropLast_concat
theorem K8{xs:List Nat}{x:Nat}:(natS (xs++[x]))[(natS (xs++[x])).length - 1]?=some (.int x):=by
 rw[m7,Ut];exact VT
theorem GA(xs:List Nat):xs=[]\/∃ ys y,xs=ys++[y]:=by
 rcases List.eq_nil_or_concat xs with h | ⟨ys,y,h⟩
 ·exact .inl h
 ·exact .inr ⟨ys,y,by rw[h,List.concat_eq_append]⟩
def IsSet(sd:List (Option Nat))(p:Nat):Prop:=∃ v,sd[p]?=some (some v)
def upd(f:Nat->Nat)(p x:Nat):Nat->Nat:=λq=>if q=p then x else f q
theorem BO{f:Nat->Nat}{p x:Nat}:upd f p x p=x:=iP rfl
theorem upd_ne{f:Nat->Nat}{p x q:Nat}(h:q≠p):upd f p x q=f q:=iG h
theorem GB{e:Nat×Nat}{p:Nat}(hp:p=e.1\/p=e.2):farE e p=e.1\/farE e p=e.2:=by
 unfold farE;by_cases h:p=e.1
 ·rw[iP h];exact .inr rfl
 ·rw[iG h];exact .inl rfl
theorem Ms{e:Nat×Nat}{p:Nat}(he:e.1≠e.2)(hp:p=e.1\/p=e.2):farE e (farE e p)=p:=by
 unfold farE;by_cases h:p=e.1
 ·rw[iP h,iG (Ne.symm he),h]
 ·rw[iG h,iP rfl];rcases hp with hp | hp
  ·exact absurd hp h
  ·exact hp.symm
theorem y8{sd:List (Option Nat)}{f q x:Nat}(hf:f<sd.length)(h:IsSet sd q):IsSet (sd.set f (some x)) q:=by
 by_cases hq:q=f
 ·subst hq;exact⟨x,V6 hf⟩
 ·obtain⟨v,hv⟩:=h;exact⟨v,by rw[VR (Ne.symm hq)];exact hv⟩
theorem Bb{sd:List (Option Nat)}{f x:Nat}(h:sd[f]?=some none):(sd.set f (some x)).countP WL=sd.countP WL+1:=by
 obtain⟨hf,hx⟩:=gM h;rw[List.countP_set hf,hx];simp
def z1:Stm:=(.put (.var 2) (.var 1) (.c (.int 0)))
def z2:Stm:=(.asg (.nm 4) (.lst (.cons (.var 1) .nil)))
def zin(kf:Nat):List Stm:=[(.asg (.nm 7) (.call kf (.cons (.var 0) (.cons (.var 6) (.cons (.var 5) .nil))))),(.iff (.cmp .Is (.ix (.var 2) (.var 7)) (.c .non)) [(.put (.var 2) (.var 7) (.op .Sub (.c (.int 1)) (.ix (.var 2) (.var 5)))),(.put (.var 3) (.var 7) (.var 6)),(.expr (.mt .append (.var 4) (.cons (.var 7) .nil)))] [])]
def z3(kt kf:Nat):Stm:=(.whl (.var 4) [(.asg (.nm 5) (.mt .pop (.var 4) .nil)),(.loop (.nm 6) (.seq (.call kt (.cons (.var 0) (.cons (.var 5) .nil)))) (zin kf))])
def QN(kt kf:Nat):List Stm:=[z1,z2,z3 kt kf]
structure Gm(a b w:Nat)(S0 S:Sto)(sd bk:List (Option Nat))(wt:List Nat):Prop where
 ha:S[a]?=some (.lst (optsS sd))
 hb:S[b]?=some (.lst (optsS bk))
 hw:S[w]?=some (.lst (natS wt))
 len:S0.length<=S.length
 keep:∀(k:Nat) (o:SO),k≠a->k≠b->S0[k]?=some o->S[k]?=some o
 ab:a≠b
 a0:a<S0.length
 b0:b<S0.length
 w0:S0.length<=w
section
variable{a b w:Nat}{S0 S:Sto}{sd bk sd' bk':List (Option Nat)}{wt wt':List Nat}
theorem Gm.push{o:SO}(G:Gm a b w S0 S sd bk wt):Gm a b w S0 (S++[o]) sd bk wt:=⟨c7 G.ha,c7 G.hb,c7 G.hw,by rw[Ut];have:=G.len;omega,λk u h1 h2 h=>c7 (G.keep k u h1 h2 h),G.ab,G.a0,G.b0,G.w0⟩
theorem Gm.seta(G:Gm a b w S0 S sd bk wt):Gm a b w S0 (S.set a (.lst (optsS sd'))) sd' bk wt:=
 ⟨l6 G.ha,by rw[j5 G.ab];exact G.hb,by rw[j5 (by have:=G.a0;have:=G.w0;omega)];exact G.hw,by rw[VH];exact G.len,λk u h1 h2 h=>by rw[j5 (Ne.symm h1)];exact G.keep k u h1 h2 h,G.ab,G.a0,G.b0,G.w0⟩
theorem Gm.setb(G:Gm a b w S0 S sd bk wt):Gm a b w S0 (S.set b (.lst (optsS bk'))) sd bk' wt:=
 ⟨by rw[j5 (Ne.symm G.ab)];exact G.ha,l6 G.hb,by rw[j5 (by have:=G.b0;have:=G.w0;omega)];exact G.hw,by rw[VH];exact G.len,λk u h1 h2 h=>by rw[j5 (Ne.symm h2)];exact G.keep k u h1 h2 h,G.ab,G.a0,G.b0,G.w0⟩
theorem Gm.setw(G:Gm a b w S0 S sd bk wt):Gm a b w S0 (S.set w (.lst (natS wt'))) sd bk wt':=
 ⟨by rw[j5 (by have:=G.a0;have:=G.w0;omega)];exact G.ha,by rw[j5 (by have:=G.b0;have:=G.w0;omega)];exact G.hb,l6 G.hw,by rw[VH];exact G.len,λk u h1 h2 h=>by rw[j5 (by have:=AZ h;have:=G.w0;omega)];exact G.keep k u h1 h2 h,G.ab,G.a0,G.b0,G.w0⟩
end
theorem HY{n j:Nat}(h:j<n):ixN n (j:Int)=some j:=by
 unfold ixN;rw[iP (by omega),iP (by omega)];simp
theorem CO{xs:List (Option Nat)}:(optsS xs).length=xs.length:=by unfold optsS;rw[Ur]
theorem CP{xs:List (Option Nat)}{j v:Nat}:(optsS xs).set j (.int v)=optsS (xs.set j (some v)):=by unfold optsS;rw[X7];rfl
def t1':Stm:=(.asg (.nm 1) (.op .Mult (.lst (.cons (.c .non) .nil)) (.ix (.var 0) (.c (.int 0)))))
def t2':Stm:=(.asg (.nm 2) (.op .Mult (.lst (.cons (.c .non) .nil)) (.ix (.var 0) (.c (.int 0)))))
def t3'(kg:Nat):Stm:=(.loop (.nm 3) (.rng1 (.ix (.var 0) (.c (.int 0)))) [(.iff (.cmp .Is (.ix (.var 1) (.var 3)) (.c .non)) [(.expr (.call kg (.cons (.var 0) (.cons (.var 3) (.cons (.var 1) (.cons (.var 2) .nil))))))] [])])
def t4'(kr:Nat):Stm:=(.loop (.tup (.cons (.nm 4) (.cons (.tup (.cons (.nm 5) (.cons (.nm 6) .nil))) .nil))) (.enum (.ix (.var 0) (.c (.int 1)))) [(.iff (.cmp .Eq (.ix (.var 1) (.var 5)) (.ix (.var 1) (.var 6))) [(.ret (.tup (.cons (.c (.str "ring")) (.cons (.call kr (.cons (.var 0) (.cons (.var 4) (.cons (.var 2) .nil)))) .nil))))] [])])
def t5':Stm:=(.ret (.tup (.cons (.c (.str "sides")) (.cons (.var 1) .nil))))
def UN(kg kr:Nat):List Stm:=[t1',t2',t3' kg,t4' kr,t5']
theorem Il(n:Nat):(Uv ((n:Int)).toNat [SV.non]).flatten=optsS (Uv n none):=by
 rw[W6]
 induction n with
 | zero=>rfl
 | succ n ih=>rw[VQ,Vv,ih];rfl
theorem CQ(xs:List Nat):(natS xs).all v4=true:=by
 unfold natS;rw[XQ,VC];exact λ_ _=>rfl
theorem PH(a b:Nat):(if (b:Int)<a then (b:Int) else a)=((min a b:Nat):Int):=by split<;>omega
theorem PJ(a b:Nat):(if (b:Int)>a then (b:Int) else a)=((max a b:Nat):Int):=by split<;>omega
end Rf
namespace L2
open PySem PySem.Spec PyProof.Rows
structure Sz(k b:Nat)(d:PyData):Prop where
 dp:d.depth<=k
 bk:d.bulk<=b
 sh:d.showable=true
 lf:d.leavesShort 100=true
end L2
namespace Rf
open PySem L2
def AV(es:EE)(t:Nat):Nat×Nat:=es.getD t (0,0)
theorem Co{es:EE}{t:Nat}(h:t<es.length):es[t]?=some (AV es t):=by
 unfold AV;rw[V1,Uq h];rfl
section
variable{Δ:Nat->Sn}
theorem c8{D:EndsS}{ρ:EnvS}{S:Sto}(h:D.nx ρ S):wSs Δ [] D ρ S:=h
def GC(k:Nat):List Stm:=[(.asg (.tup (.cons (.nm 1) (.cons (.nm 2) .nil))) (.call k (.cons (.var 0) .nil))),(.iff (.cmp .Eq (.var 1) (.c (.str "ring"))) [.no] []),(.ret (.var 2))]
end
end Rf
namespace Hue
end Hue
namespace Rf
open PySem L2
theorem y0{xs:List Nat}{i:Nat}{x:SV}(h:(natS xs)[i]?=some x):∃ j,xs[i]?=some j/\x = .int j:=by
 unfold natS at h;rw[Uz]at h;cases hx:xs[i]? with
 | none=>rw[hx]at h;cases h
 | some j=>rw[hx]at h;exact⟨j,rfl,(oj h).symm⟩
theorem SR(p:Nat)(xs:List Nat):inS (.int p) (natS xs)=decide (p∈xs):=by
 rw[Vj,dQ];unfold inS natS;rw[Xk,We];constructor
 ·rintro⟨a,ha,h⟩;have h:((a:Int) == (p:Int))=true:=h;rw[beq_iff_eq]at h;have:=Vk.mp h;rw[<-this];exact ha
 ·intro h;exact⟨p,h,by show((p:Int) == (p:Int))=true;simp⟩
end Rf
namespace Hue
end Hue
namespace Rf
open PySem L2
theorem GD(P:Nat->Bool)(i:Nat):(Uy (i+1)).filter P=(Uy i).filter P++if P i=true then [i] else []:=by
 rw[Wi,WN,WM];cases P i<;>rfl
theorem C4(P:Nat->Bool)(i:Nat):((Uy i).filter P).length<=i:=by
 have:=WD P (Uy i)
 rwa [Vr]at this
theorem QO{α:Type}{xs:List α}{a b:α}{j:Nat}(h:(xs++[a])[j]?=some b):(j=xs.length/\b=a)\/xs[j]?=some b:=by
 rcases W8 j xs.length with z | z
 ·rw[V9 z]at h;exact .inr h
 ·have e:j=xs.length:=by
   have:=(gM h).1;rw[Ut,Vp]at this;omega
  subst e;rw[VL (Ux _),YF]at h;cases h;exact .inl ⟨rfl,rfl⟩
structure Sdd(n:Nat)(es:EE)(sd:Nat->Nat):Prop where
 en:∀ e∈es,e.1<e.2/\e.2<n
 two:∀ p,sd p<2
 ne:∀ e∈es,sd e.1≠sd e.2
section
variable{n:Nat}{es:EE}{sd:Nat->Nat}{P:List (Option Nat)}
theorem Sdd.far(H:Sdd n es sd){t p:Nat}{e:Nat×Nat}(he:es[t]?=some e)(hp:p=e.1\/p=e.2):farE e p<n/\sd (farE e p)=1 - sd p/\farE e (farE e p)=p/\(farE e p=e.1\/farE e p=e.2)/\p<n:=by
 have hm:=Us he;have h1:=H.en e hm;have h2:=H.ne e hm;have a:=H.two e.1;have b:=H.two e.2;have hne:e.1≠e.2:=by omega
 refine⟨?_,?_,Ms hne hp,GB hp,?_⟩
 ·rcases GB hp with z | z<;>omega
 ·unfold farE;rcases hp with z | z
  ·subst z;rw[iP rfl];omega
  ·subst z;rw[iG (Ne.symm hne)];omega
 ·rcases hp with z | z<;>omega
end
section
variable{n:Nat}{es:EE}{sd:Nat->Nat}{P0:List (Option Nat)}{starts:List Nat}{cm:Cm}
def m8(es:EE)(p:Nat):Nat:=(g8 es p es.length).length
end
theorem Im:∀(xs:List Nat),Gr (natS xs)=some (xs.map λ(i:Nat)=>(i:Int))
 | []=>rfl
 | x::xs=>by
   show(Gr (natS xs)).map (((x:Nat):Int)::·)=_;rw[Im xs];rfl
def AS(p:Nat)(e:Nat×Nat):Bool:=decide (e.1=p)||decide (e.2=p)
theorem endB_iff{p:Nat}{e:Nat×Nat}:AS p e=true↔(p=e.1\/p=e.2):=by
 unfold AS;simp only[Va,dQ];exact⟨λh=>h.imp Eq.symm Eq.symm,λh=>h.imp Eq.symm Eq.symm⟩
theorem GE(es:EE)(p:Nat):∀ i,i<=es.length->(g8 es p i).length=(es.take i).countP (AS p)
 | 0,_=>by simp[g8]
 | i+1,h=>by
   have he:es[i]?=some es[i]:=Uq (by omega);rw[BN es p i he,Ut,GE es p i (by omega),VZ,he,XD];show _+_=_+Xw (AS p) [es[i]];rw[XM,XU];unfold AS;by_cases z:(decide (es[i].1=p)||decide (es[i].2=p))=true
   ·rw[iP z,iP z];rfl
   ·rw[iG z,iG z];rfl
theorem Mt(es:EE)(p:Nat):m8 es p=es.countP (AS p):=by
 unfold m8;rw[GE es p _ (Ux _),VW]
section
variable{Δ:Nat->Sn}
structure Web2(n:Nat)(es:EE):Prop where
 en:∀ e∈es,e.1<e.2/\e.2<n
 len:es.length<=1000
 few:n<=60
 two:∃ c:Nat->Nat,(∀ p,c p<2)/\∀ e∈es,c e.1≠c e.2
end
theorem K9(fs:EE)(k:Nat)(e:Nat×Nat):(fs.map pairS).take k++pairS e::(fs.map pairS).drop k=(fs.take k++e::fs.drop k).map pairS:=by
 rw[VO,VP,Xe,YA]
theorem PL{fs:EE}{k:Nat}{e:Nat×Nat}{P:Nat×Nat->Prop}(h:∀ f∈fs,P f)(he:P e):∀ f∈fs.take k++e::fs.drop k,P f:=λf hf=>by
 rcases VD.mp hf with hf | hf
 ·exact h f (W5 hf)
 ·rcases VA.mp hf with hf | hf
  ·rw[hf];exact he
  ·exact h f (Wo hf)
theorem PM(fs:EE)(k:Nat)(e:Nat×Nat):(fs.take k++e::fs.drop k).length=fs.length+1:=by
 rw[Ut,VU,VN,Vl];omega
def t2(kd:Nat):Stm:=(.asg (.nm 2) (.ix (.lst (.cons (.call kd (.cons (.var 0) (.cons (.c (.int 8)) .nil))) (.cons (.op .Add (.c (.int 8)) (.call kd (.cons (.var 0) (.cons (.c (.int 23)) .nil)))) .nil))) (.bi .int (.cons (.var 1) .nil))))
def t3(kd:Nat):Stm:=(.asg (.nm 3) (.comp ["_law_k"] ["_law_tape_here"] [0] (.nm 0) (.rng1 (.var 2)) .no (.call kd (.cons (.var 1) (.cons (.c (.int 2)) .nil)))))
def t4:Stm:=(.asg (.nm 4) (.comp ["_law_k"] ["_law_sides"] [3] (.nm 0) (.rng1 (.var 2)) (.yes (.cmp .Eq (.ix (.var 1) (.var 0)) (.c (.int 0)))) (.var 0)))
def t5:Stm:=(.asg (.nm 5) (.comp ["_law_k"] ["_law_sides"] [3] (.nm 0) (.rng1 (.var 2)) (.yes (.cmp .Eq (.ix (.var 1) (.var 0)) (.c (.int 1)))) (.var 0)))
def t6(kd:Nat):Stm:=(.asg (.nm 6) (.call kd (.cons (.var 0) (.cons (.c (.int 6)) .nil))))
def t7:Stm:=(.asg (.nm 7) (.lst .nil))
def t8a:Stm:=(.iff (.cmp .Eq (.var 6) (.c (.int 0))) [(.loop (.nm 8) (.seq (.var 4)) [(.expr (.mt .extend (.var 7) (.cons (.comp ["_law_other"] ["_law_one"] [8] (.nm 0) (.seq (.var 5)) .no (.tup (.cons (.var 1) (.cons (.var 0) .nil)))) .nil)))])] [])
def t8b:Stm:=(.iff (.cmp .Eq (.var 6) (.c (.int 1))) [(.asg (.nm 7) (.comp ["_law_other"] ["_law_left"] [4] (.nm 0) (.seq (.var 5)) .no (.tup (.cons (.ix (.var 1) (.c (.int 0))) (.cons (.var 0) .nil)))))] [])
def t8c(kd:Nat):Stm:=(.iff (.cmp .Gt (.var 6) (.c (.int 1))) [(.loop (.nm 9) (.rng1 (.call kd (.cons (.var 0) (.cons (.ix (.lst (.cons (.op .Add (.var 2) (.c (.int 2))) (.cons (.op .Mult (.c (.int 3)) (.var 2)) .nil))) (.op .Mod (.var 6) (.c (.int 2)))) .nil)))) [(.expr (.mt .append (.var 7) (.cons (.tup (.cons (.ix (.var 4) (.call kd (.cons (.var 0) (.cons (.bi .len (.cons (.var 4) .nil)) .nil)))) (.cons (.ix (.var 5) (.call kd (.cons (.var 0) (.cons (.bi .len (.cons (.var 5) .nil)) .nil)))) .nil))) .nil)))])] [])
def t8(kd:Nat):Stm:=(.iff (.and (.cmp .NotEq (.var 4) (.lst .nil)) (.cmp .NotEq (.var 5) (.lst .nil))) [t8a,t8b,t8c kd] [])
def t9(kd:Nat):Stm:=(.iff (.and (.cmp .NotEq (.var 7) (.lst .nil)) (.cmp .Eq (.call kd (.cons (.var 0) (.cons (.c (.int 3)) .nil))) (.c (.int 0)))) [(.asg (.nm 7) (.op .Add (.var 7) (.comp ["_law_turn"] ["_law_found","_law_tape_here"] [7,0] (.nm 0) (.rng1 (.op .Add (.c (.int 1)) (.call kd (.cons (.var 0) (.cons (.c (.int 6)) .nil))))) .no (.ix (.var 1) (.call kd (.cons (.var 2) (.cons (.bi .len (.cons (.var 1) .nil)) .nil)))))))] [])
def t10:Stm:=(.asg (.nm 10) (.lst .nil))
def t11(kd:Nat):Stm:=(.loop (.tup (.cons (.nm 8) (.cons (.nm 11) .nil))) (.seq (.slc (.var 7) .no (.yes (.c (.int 90))))) [(.expr (.mt .insert (.var 10) (.cons (.call kd (.cons (.var 0) (.cons (.op .Add (.bi .len (.cons (.var 10) .nil)) (.c (.int 1))) .nil))) (.cons (.tup (.cons (.bi .min (.cons (.var 8) (.cons (.var 11) .nil))) (.cons (.bi .max (.cons (.var 8) (.cons (.var 11) .nil))) .nil))) .nil))))])
def t12:Stm:=(.ret (.tup (.cons (.var 2) (.cons (.bi .tuple (.cons (.var 10) .nil)) .nil))))
def GF(kd:Nat):List Stm:=[t2 kd,t3 kd,t4,t5,t6 kd,t7,t8 kd,t9 kd,t10,t11 kd,t12]
def Un(n:Nat)(c:Nat->Nat)(fs:EE):Prop:=∀ f∈fs,f.1<n/\f.2<n/\c f.1≠c f.2
theorem Un.app{n:Nat}{c:Nat->Nat}{fs gs:EE}(a:Un n c fs)(b:Un n c gs):Un n c (fs++gs):=λf hf=>(VD.mp hf).elim (a f) (b f)
section
variable{Δ:Nat->Sn}{kd:Nat}
theorem Et(hΔ:∀ f,MonoN (Δ f))(hd:BJ (Δ kd)){t l n:Nat}{c:Nat->Nat}{S0 S:Sto}{fs:EE}{Q:QE}{o1 o3 o4 o5 o6 o8 o9:Option SV}(A:Ah t S0 S l fs)(hf:Un n c fs)(fl:fs.length<=990)
 (q:∀(es:EE) (S':Sto),(∀ e∈es,e.1<e.2/\e.2<n/\c e.1≠c e.2)->es.length<=90->TapeS S' t->On t S0 S'->Q (f7 n es) S'):
 wSs Δ [t10,t11 kd,t12] (v8 Q) [some (.loc t),o1,some (.int n),o3,o4,o5,o6,some (.loc l),o8,o9,none,none] S:=by
 refine⟨by show 0<=big;decide,?_⟩;have A1:=A.push (o:=SO.lst []);have B1:Ah t S0 (S++[SO.lst []]) S.length []:=⟨A.tape.push,A.on.push,c6,A.on.len,A.t0⟩
 have nl:l≠S.length:=V4 (AZ A.at');generalize S.length=lk' at *;generalize S++[SO.lst []]=S1 at *;refine⟨_,rfl,_,rfl,_,A1.at',_,a7 c6,?_⟩
 have ec:Cc (fs.map pairS) none (some 90)=((fs.drop (HT.sIx (fs.map pairS).length 0 none)).take (HT.sIx (fs.map pairS).length (fs.map pairS).length (some 90) - HT.sIx (fs.map pairS).length 0 none)).map pairS:=by
  unfold Cc;rw[Xe,YA]
 have gm:∀ f∈(fs.drop (HT.sIx (fs.map pairS).length 0 none)).take (HT.sIx (fs.map pairS).length (fs.map pairS).length (some 90) - HT.sIx (fs.map pairS).length 0 none),f∈fs:=λf h=>Wo (W5 h)
 have gl:((fs.drop (HT.sIx (fs.map pairS).length 0 none)).take (HT.sIx (fs.map pairS).length (fs.map pairS).length (some 90) - HT.sIx (fs.map pairS).length 0 none)).length<=90:=by
  have:=HT.sIx_nat (fs.map pairS).length (fs.map pairS).length 90;have e:HT.sIx (fs.map pairS).length (fs.map pairS).length (some 90)=min 90 (fs.map pairS).length:=this;rw[VN,Vl,e];omega
 rw[ec];generalize (fs.drop (HT.sIx (fs.map pairS).length 0 none)).take (HT.sIx (fs.map pairS).length (fs.map pairS).length (some 90) - HT.sIx (fs.map pairS).length 0 none)=gs at *;have hg:(S1++[SO.lst (gs.map pairS)])[S1.length]?=some (.lst (gs.map pairS)):=c6;have B2:=B1.push (o:=SO.lst (gs.map pairS));have ng:S1.length≠t:=by have:=A1.tape.lt;omega
 have ng2:S1.length≠lk':=by have:=AZ B1.at';omega
 generalize S1.length=lg at *;generalize S1++[SO.lst (gs.map pairS)]=S2 at *;refine m6 (g6 hΔ _) (λi ρ S3=>∃(es:EE) (o8 o11:Option SV),ρ=[some (.loc t),o1,some (.int n),o3,o4,o5,o6,some (.loc l),o8,o9,some (.loc lk'),o11]/\Ah t S0 S3 lk' es/\S3[lg]?=some (.lst (gs.map pairS))/\(∀ e∈es,e.1<e.2/\e.2<n/\c e.1≠c e.2)/\es.length=i) ⟨[],o8,none,rfl,B2,hg,(λ_ h=>nomatch h),rfl⟩ (λ_ _ S3 ⟨_,_,_,_,_,h,_⟩=>h.trans hg.symm) ?_ ?_
 ·rintro i x ρ S3 hx ⟨es,p8,p11,rfl,A3,h3,he,el⟩;obtain⟨f,hfi,rfl⟩:=Ar hx;have hil:=(gM hfi).1;obtain⟨u1,u2,u3⟩:=hf f (gm f (Us hfi));have une:f.1≠f.2:=λz=>u3 (by rw[z]);refine⟨_,rfl,⟨_,_,rfl,A3.at'⟩,_,rfl,_,rfl,_,a7 A3.at',hd A3.tape (by omega) (by rw[Ur];omega) λr S4 r0 r1 T4 O4 _=>?_⟩;have A4:=A3.draw T4 O4;rw[Ur]at r1;refine⟨_,rfl,_,rfl,_,rfl,_,rfl,by show 2<=big;decide,?_⟩;refine⟨_,A4.at',⟨r0,by rw[Ur];omega⟩,by rw[Ur];show _<100000;omega,?_⟩
  have key:∀ z1 z2:Int,z1=((min f.1 f.2:Nat):Int)->z2=((max f.1 f.2:Nat):Int)->∃(es':EE) (o8 o11:Option SV),([some (.loc t),o1,some (.int n),o3,o4,o5,o6,some (.loc l),some (.int f.1),o9,some (.loc lk'),some (.int f.2)]:EnvS)=[some (.loc t),o1,some (.int n),o3,o4,o5,o6,some (.loc l),o8,o9,some (.loc lk'),o11]/\Ah t S0 (S4.set lk' (.lst ((es.map pairS).take r.toNat ++ .tup [.int z1,.int z2]::(es.map pairS).drop r.toNat))) lk' es'/\(S4.set lk' (.lst ((es.map pairS).take r.toNat ++ .tup [.int z1,.int z2]::(es.map pairS).drop r.toNat)))[lg]?=some (.lst (gs.map pairS))/\(∀ e∈es',e.1<e.2/\e.2<n/\c e.1≠c e.2)/\es'.length=i+1:=by
   rintro _ _ rfl rfl;have ip:(es.map pairS).take r.toNat++SV.tup [.int ((min f.1 f.2:Nat):Int),.int ((max f.1 f.2:Nat):Int)]::(es.map pairS).drop r.toNat=(es.take r.toNat++(min f.1 f.2,max f.1 f.2)::es.drop r.toNat).map pairS:=K9 es r.toNat (min f.1 f.2,max f.1 f.2);rw[ip];refine⟨_,_,_,rfl,A4.put,by rw[j5 (Ne.symm ng2)];exact O4.keep _ _ ng h3,PL he ⟨by show min f.1 f.2<max f.1 f.2;omega,by show max f.1 f.2<n;omega,?_⟩,by rw[PM,el]⟩;show c (min f.1 f.2)≠c (max f.1 f.2);rcases YI f.1 f.2 with z | z
   ·rw[Y2 z,Nat.max_eq_right z];exact u3
   ·rw[Xt z,Nat.max_eq_left z];exact Ne.symm u3
  exact key _ _ (PH _ _) (PJ _ _)
 ·rintro ρ S3 ⟨es,p8,p11,rfl,A3,h3,he,el⟩;rw[Ur]at el;exact⟨_,rfl,_,rfl,_,a7 A3.at',by show 2<=big;decide,q es S3 he (by omega) A3.tape A3.on⟩
theorem Eu(hΔ:∀ f,MonoN (Δ f))(hd:BJ (Δ kd)){t l n:Nat}{c:Nat->Nat}{S0 S:Sto}{fs:EE}{Q:QE}{o1 o3 o4 o5 o6 o8 o9:Option SV}(A:Ah t S0 S l fs)(hf:Un n c fs)(fl:fs.length<=980)
 (q:∀(es:EE) (S':Sto),(∀ e∈es,e.1<e.2/\e.2<n/\c e.1≠c e.2)->es.length<=90->TapeS S' t->On t S0 S'->Q (f7 n es) S'):
 wSs Δ [t9 kd,t10,t11 kd,t12] (v8 Q) [some (.loc t),o1,some (.int n),o3,o4,o5,o6,some (.loc l),o8,o9,none,none] S:=by
 refine⟨_,rfl,by show 0<=big;decide,?_⟩;have A1:=A.push (o:=SO.lst []);refine⟨_,_,A1.at',c6,.inr (.inr rfl),_,rfl,?_⟩;rw[DL];refine ifB (λh1=>?_) (λh1=>ifF rfl (c8 (Et hΔ hd A1 hf (by omega) q)))
 have hpos:0<fs.length:=by
  cases fs with
  | nil=>cases h1
  | cons _ _=>simp
 refine⟨_,rfl,hd A1.tape (by decide) (by decide) λr S2 r0 r1 T2 O2 _=>⟨_,rfl,?_⟩⟩;have A2:=A1.draw T2 O2;refine ifD (λ_=>?_) (λ_=>c8 (Et hΔ hd A2 hf (by omega) q));refine⟨_,rfl,_,rfl,hd A2.tape (by decide) (by decide) λr3 S3 a0 a1 T3 O3 _=>⟨_,rfl,⟨by omega,by omega⟩,?_⟩⟩;have A3:=A2.draw T3 O3;refine h9 (i9 hΔ _).2 (a8 hΔ _).1 (λi ys S4=>Ah t S0 S4 l fs/\∃ gs:EE,ys=gs.map pairS/\(∀ e∈gs,e∈fs)/\gs.length=i) ⟨A3,[],rfl,(λ_ h=>nomatch h),rfl⟩ (λ_ _ _ _=>trivial) ?_ ?_
 ·rintro i x ys S4 hx ⟨A4,gs,rfl,hg,gl⟩;obtain⟨rfl,hi⟩:=v7 hx;refine⟨_,rfl,_,rfl,_,rfl,_,a7 A4.at',hd A4.tape (by rw[Ur];omega) (by rw[Ur];omega) λr5 S5 b0 b1 T5 O5 _=>?_⟩;have A5:=A4.draw T5 O5;rw[Ur]at b1;have hr:r5.toNat<fs.length:=by omega
  refine⟨_,pairS fs[r5.toNat],a7 A5.at',?_,by rw[Ur];show _<100000;omega,A5,gs++[fs[r5.toNat]],?_,λe h=>?_,by simp[gl]⟩
  ·have:=e7 (xs:=fs.map pairS) (j:=r5.toNat) (v:=pairS fs[r5.toNat]) (by rw[Uz,Uq hr];rfl)
   rwa [X4 b0]at this
  ·rw[VO];rfl
  ·rcases VD.mp h with h | h
   ·exact hg e h
   ·rw[V3.mp h];exact Vm hr
 ·rintro ys S4 ⟨A4,gs,rfl,hg,gl⟩;rw[m4]at gl;have A5:=A4.push (o := .lst (gs.map pairS));refine⟨_,_,A5.at',c6,by simp;show _<=100000;omega,?_⟩;rw[<-VO];refine Et hΔ hd (fs:=fs++gs) ⟨A5.tape.push,A5.on.push,c6,A5.on.len,A.t0⟩ (hf.app λe he=>hf e (hg e he)) (by rw[Ut];omega) q
structure Lr(n:Nat)(c:Nat->Nat)(ls rs:List Nat):Prop where
 l:∀ a∈ls,a<n/\c a=0
 r:∀ b∈rs,b<n/\c b=1
 ll:ls.length<=31
 rl:rs.length<=31
theorem UO(hΔ:∀ f,MonoN (Δ f)){t l l4 l5 n:Nat}{w:Int}{c:Nat->Nat}{ls rs:List Nat}{S0 S:Sto}{D:EndsS}{rest:List Stm}{o1 o2 o3 o8 o9:Option SV}(A:Ah t S0 S l [])(L:Lr n c ls rs)(h4:S0[l4]?=some (.lst (natS ls)))(h5:S0[l5]?=some (.lst (natS rs)))(n4:l4≠t)(n5:l5≠t)
 (q:∀(fs:EE) (o8:Option SV) (S':Sto),Ah t S0 S' l fs->Un n c fs->fs.length<=961->wSs Δ rest D [some (.loc t),o1,o2,o3,some (.loc l4),some (.loc l5),some (.int w),some (.loc l),o8,o9,none,none] S'):
 wSs Δ (t8a::rest) D [some (.loc t),o1,o2,o3,some (.loc l4),some (.loc l5),some (.int w),some (.loc l),o8,o9,none,none] S:=by
 refine⟨_,rfl,_,rfl,ifD (λh=>?_) (λh=>c8 (q [] _ S A (λ_ h=>nomatch h) (by simp)))⟩;have e4:=A.on.keep _ _ n4 h4;refine⟨_,rfl,_,a7 e4,?_⟩;refine m6 (g6 hΔ _) (λi ρ S'=>∃(fs:EE) (o8:Option SV),ρ=[some (.loc t),o1,o2,o3,some (.loc l4),some (.loc l5),some (.int w),some (.loc l),o8,o9,none,none]/\Ah t S0 S' l fs/\Un n c fs/\fs.length<=31 * i) ⟨[],o8,rfl,A,(λ_ h=>nomatch h),by simp⟩ (λ_ _ S' ⟨_,_,_,A',_⟩=>(A'.on.keep _ _ n4 h4).trans e4.symm) ?_ ?_
 ·rintro i x ρ S2 hx ⟨fs,p8,rfl,A2,hf,fl⟩;obtain⟨a,ha,rfl⟩:=y0 hx;have hil:=(gM ha).1;obtain⟨a1,a2⟩:=L.l a (Us ha);have ll:=L.ll;have rl:=L.rl;have e5:=A2.on.keep _ _ n5 h5;refine⟨_,rfl,⟨_,_,rfl,A2.at'⟩,_,rfl,_,a7 e5,?_⟩;refine h9 (i9 hΔ _).2 (a8 hΔ _).1 (λj ys S3=>S3=S2/\ys=((rs.take j).map λb=>(a,b)).map pairS) ⟨rfl,rfl⟩ (λ_ _ _ h=>by rw[h.1];exact rfl) ?_ ?_
  ·rintro j y ys S3 hy ⟨rfl,rfl⟩;obtain⟨b,hb,rfl⟩:=y0 hy;have hjl:=(gM hb).1;refine⟨_,rfl,_,rfl,by show 2<=big;decide,by rw[Ur,Ur,VN];show _<100000;omega,rfl,?_⟩;rw[VZ,hb,VO,VO];rfl
  ·rintro ys S3 ⟨rfl,rfl⟩;rw[f8,VW];have A3:=A2.push (o:=SO.lst ((rs.map λb=>(a,b)).map pairS));refine⟨_,_,A3.at',c6,by rw[Ur,Ur,Ur];show _<=100000;omega,?_⟩;rw[<-VO];refine⟨_,_,rfl,A3.put,hf.app λf hf'=>?_,by rw[Ut,Ur];omega⟩;obtain⟨b,hb,rfl⟩:=VV.mp hf';obtain⟨b1,b2⟩:=L.r b hb;exact⟨a1,b1,by show c a≠c b;omega⟩
 ·rintro ρ S2 ⟨fs,p8,rfl,A2,hf,fl⟩;rw[f8]at fl;have ll:=L.ll;exact q fs _ S2 A2 hf (by omega)
theorem UP(hΔ:∀ f,MonoN (Δ f)){t l l4 l5 n:Nat}{w:Int}{c:Nat->Nat}{ls rs:List Nat}{S0 S:Sto}{D:EndsS}{rest:List Stm}{fs:EE}{o1 o2 o3 o8 o9:Option SV}(A:Ah t S0 S l fs)(hf:Un n c fs)(fl:fs.length<=961)(L:Lr n c ls rs)(h4:S0[l4]?=some (.lst (natS ls)))(h5:S0[l5]?=some (.lst (natS rs)))(n4:l4≠t)(n5:l5≠t)(hp:0<ls.length)
 (q:∀(l:Nat) (fs:EE) (S':Sto),Ah t S0 S' l fs->Un n c fs->fs.length<=961->wSs Δ rest D [some (.loc t),o1,o2,o3,some (.loc l4),some (.loc l5),some (.int w),some (.loc l),o8,o9,none,none] S'):
 wSs Δ (t8b::rest) D [some (.loc t),o1,o2,o3,some (.loc l4),some (.loc l5),some (.int w),some (.loc l),o8,o9,none,none] S:=by
 refine⟨_,rfl,_,rfl,ifD (λh=>?_) (λh=>c8 (q l fs S A hf fl))⟩;have e4:=A.on.keep _ _ n4 h4;have e5:=A.on.keep _ _ n5 h5;have rl:=L.rl;have g0:=Uq hp;obtain⟨a1,a2⟩:=L.l _ (Us g0);generalize ls[0]=a at *;refine⟨_,rfl,_,a7 e5,?_⟩;refine h9 (i9 hΔ _).2 (a8 hΔ _).1 (λj ys S3=>S3=S/\ys=((rs.take j).map λb=>(a,b)).map pairS) ⟨rfl,rfl⟩ (λ_ _ _ h=>by rw[h.1];exact rfl) ?_ ?_
 ·rintro j y ys S3 hy ⟨rfl,rfl⟩;obtain⟨b,hb,rfl⟩:=y0 hy;have hjl:=(gM hb).1;refine⟨_,rfl,_,_,a7 e4,e7 (j:=0) (C3 g0),_,rfl,by show 2<=big;decide,by rw[Ur,Ur,VN];show _<100000;omega,rfl,?_⟩;rw[VZ,hb,VO,VO];rfl
 ·rintro ys S3 ⟨rfl,rfl⟩;rw[f8,VW];refine q _ (rs.map λb=>(a,b)) _ ⟨A.tape.push,A.on.push,c6,A.on.len,A.t0⟩ (λf hf'=>?_) (by rw[Ur];omega);obtain⟨b,hb,rfl⟩:=VV.mp hf';obtain⟨b1,b2⟩:=L.r b hb;exact⟨a1,b1,by show c a≠c b;omega⟩
theorem Mu{xs:List Nat}{r:Int}(r0:0<=r)(h:r.toNat<xs.length):atI (natS xs) r=some (.int (xs[r.toNat]:Nat)):=by
 have:=e7 (xs:=natS xs) (j:=r.toNat) (v := .int (xs[r.toNat]:Nat)) (C3 (Uq h))
 rwa [X4 r0]at this
theorem QP(hΔ:∀ f,MonoN (Δ f))(hd:BJ (Δ kd)){t l l4 l5 n:Nat}{w:Int}{c:Nat->Nat}{ls rs:List Nat}{S0 S:Sto}{D:EndsS}{fs:EE}{o1 o3 o8 o9:Option SV}(A:Ah t S0 S l fs)(hf:Un n c fs)(fl:fs.length<=961)(he:1<w->fs=[])(L:Lr n c ls rs)(h4:S0[l4]?=some (.lst (natS ls)))(h5:S0[l5]?=some (.lst (natS rs)))(n4:l4≠t)(n5:l5≠t)(hp:0<ls.length)(hp2:0<rs.length)(hn:n<=31)
 (q:∀(o9:Option SV) (fs:EE) (S':Sto),Ah t S0 S' l fs->Un n c fs->fs.length<=961->D.nx [some (.loc t),o1,some (.int n),o3,some (.loc l4),some (.loc l5),some (.int w),some (.loc l),o8,o9,none,none] S'):
 wSs Δ [t8c kd] D [some (.loc t),o1,some (.int n),o3,some (.loc l4),some (.loc l5),some (.int w),some (.loc l),o8,o9,none,none] S:=by
 refine⟨_,rfl,_,rfl,ifD (λh=>?_) (λh=>c8 (q _ fs S A hf fl))⟩;have h:1<w:=h;obtain rfl:=he h;have n0:0<n:=by obtain⟨a1,_⟩:=L.l _ (Vm hp);omega
 refine⟨_,rfl,_,rfl,_,rfl,.inl ⟨by decide,by decide⟩,by show 2<=big;decide,_,rfl,show(0:Int)<2 by decide,?_⟩;have A1:=A.push (o:=SO.lst [SV.int ((n:Int)+2),SV.int (3 * (n:Int))])
 have hm:∃ m:Int,atI [SV.int ((n:Int)+2),SV.int (3 * (n:Int))] (w % 2)=some (.int m)/\0<m/\m<=93:=by
  have:w % 2=0\/w % 2=1:=by omega
  rcases this with z | z
  ·rw[z];exact⟨(n:Int)+2,rfl,by omega,by omega⟩
  ·rw[z];exact⟨3 * (n:Int),rfl,by omega,by omega⟩
 obtain⟨m,em,m0,m1⟩:=hm;refine⟨_,SV.int m,a7 c6,em,?_⟩;generalize S++[SO.lst [SV.int ((n:Int)+2),SV.int (3 * (n:Int))]]=S1 at *;refine hd A1.tape m0 (by omega) λr S2 r0 r1 T2 O2 _=>⟨_,rfl,⟨by omega,by omega⟩,?_⟩
 refine m6 (g6 hΔ _) (λi ρ S'=>∃(fs:EE) (o9:Option SV),ρ=[some (.loc t),o1,some (.int n),o3,some (.loc l4),some (.loc l5),some (.int w),some (.loc l),o8,o9,none,none]/\Ah t S0 S' l fs/\Un n c fs/\fs.length=i) ⟨[],o9,rfl,A1.draw T2 O2,(λ_ h=>nomatch h),rfl⟩ (λ_ _ _ _=>trivial) ?_ ?_
 ·rintro i x ρ S3 hx ⟨fs,p9,rfl,A3,hf3,fl3⟩;obtain⟨rfl,hi⟩:=v7 hx;have ll:=L.ll;have rl:=L.rl;have e4:=A3.on.keep _ _ n4 h4;refine⟨_,rfl,⟨_,_,rfl,A3.at'⟩,_,rfl,_,rfl,_,rfl,_,a7 e4,hd A3.tape (by rw[f8];omega) (by rw[f8];omega) λa S4 a0 a1 T4 O4 _=>?_⟩;have A4:=A3.draw T4 O4;rw[f8]at a1;have ha:a.toNat<ls.length:=by omega
  refine⟨_,SV.int (ls[a.toNat]:Nat),a7 (A4.on.keep _ _ n4 h4),Mu a0 ha,_,rfl,_,rfl,_,rfl,_,a7 (A4.on.keep _ _ n5 h5),hd A4.tape (by rw[f8];omega) (by rw[f8];omega) λb S5 b0 b1 T5 O5 _=>?_⟩;have A5:=A4.draw T5 O5;rw[f8]at b1;have hb:b.toNat<rs.length:=by omega
  refine⟨_,SV.int (rs[b.toNat]:Nat),a7 (A5.on.keep _ _ n5 h5),Mu b0 hb,by show 2<=big;decide,_,A5.at',by rw[Ur];show _<100000;omega,?_⟩;obtain⟨u1,u2⟩:=L.l _ (Vm ha);obtain⟨v1,v2⟩:=L.r _ (Vm hb);have e1:fs.map pairS++[SV.tup [.int (ls[a.toNat]:Nat),.int (rs[b.toNat]:Nat)]]=(fs++[(ls[a.toNat],rs[b.toNat])]).map pairS:=by rw[VO];rfl
  rw[e1];refine⟨_,_,rfl,A5.put,hf3.app λf hf'=>?_,by rw[Ut,fl3];rfl⟩;rw[V3.mp hf'];exact⟨u1,v1,by show c ls[a.toNat]≠c rs[b.toNat];omega⟩
 ·rintro ρ S3 ⟨fs,p9,rfl,A3,hf3,fl3⟩;rw[m4]at fl3;exact q _ fs S3 A3 hf3 (by omega)
theorem PN(hΔ:∀ f,MonoN (Δ f))(hd:BJ (Δ kd)){t l4 l5 n:Nat}{c:Nat->Nat}{ls rs:List Nat}{S0:Sto}{Q:QE}{o1 o3:Option SV}(T:TapeS S0 t)(L:Lr n c ls rs)(h4:S0[l4]?=some (.lst (natS ls)))(h5:S0[l5]?=some (.lst (natS rs)))(n4:l4≠t)(n5:l5≠t)(hn:n<=31)
 (q:∀(es:EE) (S':Sto),(∀ e∈es,e.1<e.2/\e.2<n/\c e.1≠c e.2)->es.length<=90->TapeS S' t->On t S0 S'->Q (f7 n es) S'):
 wSs Δ [t6 kd,t7,t8 kd,t9 kd,t10,t11 kd,t12] (v8 Q) [some (.loc t),o1,some (.int n),o3,some (.loc l4),some (.loc l5),none,none,none,none,none,none] S0:=by
 refine⟨_,rfl,hd T (by decide) (by decide) λw S1 w0 w1 T1 O1 _=>?_⟩;refine⟨by show 0<=big;decide,?_⟩;have A1:Ah t S0 (S1++[SO.lst []]) S1.length []:=⟨T1.push,O1.push,c6,O1.len,T.lt⟩
 generalize S1.length=l at *;generalize S1++[SO.lst []]=S2 at *;have stay:∀ S,Ah t S0 S l []->wSs Δ [t9 kd,t10,t11 kd,t12] (v8 Q) [some (.loc t),o1,some (.int n),o3,some (.loc l4),some (.loc l5),some (.int w),some (.loc l),none,none,none,none] S:=λS A=>Eu hΔ hd A (λ_ h=>nomatch h) (by simp) q;refine⟨_,rfl,by show 0<=big;decide,?_⟩;have A2:=A1.push (o:=SO.lst []);refine⟨_,_,A2.on.keep _ _ n4 h4,c6,.inr (.inr rfl),_,rfl,?_⟩;rw[DL];refine ifB (λh1=>?_) (λh1=>ifF rfl (c8 (stay _ A2)))
 have hp:0<ls.length:=by
  cases ls with
  | nil=>cases h1
  | cons _ _=>simp
 refine⟨_,rfl,by show 0<=big;decide,?_⟩;have A3:=A2.push (o:=SO.lst []);refine⟨_,_,A3.on.keep _ _ n5 h5,c6,.inr (.inr rfl),_,rfl,?_⟩;rw[DL];refine ifB (λh2=>?_) (λh2=>c8 (stay _ A3))
 have hp2:0<rs.length:=by
  cases rs with
  | nil=>cases h2
  | cons _ _=>simp
 by_cases hw:1<w
 ·
  refine⟨_,rfl,_,rfl,ifF (decide_eq_false (by omega)) (c8 ?_)⟩;refine⟨_,rfl,_,rfl,ifF (decide_eq_false (by omega)) (c8 ?_)⟩;exact QP hΔ hd A3 (λ_ h=>nomatch h) (by simp) (λ_=>rfl) L h4 h5 n4 n5 hp hp2 hn λo9 fs S' A' hf fl=>Eu hΔ hd A' hf (by omega) q
 ·refine UO (rest:=[t8b,t8c kd]) hΔ A3 L h4 h5 n4 n5 λfs o8 S' A' hf fl=>?_;refine UP (rest:=[t8c kd]) hΔ A' hf fl L h4 h5 n4 n5 hp λl' fs' S'' A'' hf' fl'=>?_;exact QP hΔ hd A'' hf' fl' (λz=>absurd z hw) L h4 h5 n4 n5 hp hp2 hn λo9 fs S' A' hf fl=>Eu hΔ hd A' hf (by omega) q
def As(s:Sn):Prop:=∀{t:Nat} {g:Bool} {S:Sto} {Q:QE},TapeS S t->(∀(n:Nat) (es:EE) (S':Sto),Web2 n es->n<=31->es.length<=90->TapeS S' t->On t S S'->Q (f7 n es) S')->s [.loc t,.bl g] S Q
theorem KA(f:Nat->Bool)(i:Nat):(Uy (i+1)).filter f=(Uy i).filter f++if f i=true then [i] else []:=by
 rw[Wi,WN]
 congr 1
 rw[WM];rfl
theorem DO(f:Nat->Bool)(i:Nat):((Uy i).filter f).length<=i:=by
 have:=WD f (Uy i)
 rwa [Vr]at this
theorem EG(hΔ:∀ f,MonoN (Δ f)){l3 n:Nat}{v:Nat}{cs:List Nat}{S:Sto}{ρ:EnvS}{Q:List SV->Sto->Prop}(h3:S[l3]?=some (.lst (natS cs)))(hl:cs.length=n)(hn:n<=31)(hρ:ρ=[none,some (.loc l3)])
 (q:Q (natS ((Uy n).filter λk=>decide (cs.getD k 0=v))) S):p0 (λ_=>True) (.nm 0) (wEo Δ (.yes (.cmp .Eq (.ix (.var 1) (.var 0)) (.c (.int v))))).2 (wEx Δ (.var 0)).1 ρ Q (CI 0 (n:Int)) [] S:=by
 subst hρ;refine h9 (i9 hΔ _).2 (a8 hΔ _).1 (λi ys S2=>S2=S/\ys=natS ((Uy i).filter λk=>decide (cs.getD k 0=v))) ⟨rfl,rfl⟩ (λ_ _ _ _=>trivial) ?_ ?_
 ·rintro i x ys S2 hx ⟨rfl,rfl⟩;obtain⟨rfl,hi⟩:=v7 hx;rw[Wa]at hi ⊢;have hil:i<cs.length:=by omega
  have hs:=KA (λk=>decide (cs.getD k 0=v)) i;have hlen:=DO (λk=>decide (cs.getD k 0=v)) i;have hg:cs.getD i 0=cs[i]:=by rw[V1,Uq hil];rfl
  refine⟨_,rfl,_,rfl,_,SV.int (cs[i]:Nat),a7 h3,e7 (C3 (Uq hil)),_,rfl,?_⟩;refine ifD (λh=>?_) (λh=>?_)
  ·have h:cs[i]=v:=by have:((cs[i]:Nat):Int)=(v:Int):=h;omega
   rw[iP (decide_eq_true (hg.trans h))]at hs;exact⟨_,rfl,by rw[f8];show _<100000;omega,rfl,by rw[hs,m7];rfl⟩
  ·have h:¬ cs[i]=v:=λz=>h (by show((cs[i]:Nat):Int)=(v:Int);omega);rw[iG (by simp only[hg];simpa using h),VY]at hs;exact⟨rfl,by rw[hs]⟩
 ·rintro ys S2 ⟨rfl,rfl⟩;rw[m4,show((n:Int) - 0).toNat=n by omega];exact q
theorem Mv(hΔ:∀ f,MonoN (Δ f))(hd:BJ (Δ kd)){t n:Nat}{S0 S:Sto}{Q:QE}{o1:Option SV}(T:TapeS S t)(O:On t S0 S)(hn:n<=31)
 (q:∀(es:EE) (S':Sto),Web2 n es->es.length<=90->TapeS S' t->On t S0 S'->Q (f7 n es) S'):
 wSs Δ [t3 kd,t4,t5,t6 kd,t7,t8 kd,t9 kd,t10,t11 kd,t12] (v8 Q) [some (.loc t),o1,some (.int n),none,none,none,none,none,none,none,none,none] S:=by
 refine⟨_,rfl,_,rfl,⟨by omega,by omega⟩,?_⟩;refine h9 (i9 hΔ _).2 (a8 hΔ _).1 (λi ys S2=>TapeS S2 t/\On t S0 S2/\∃ cs:List Nat,ys=natS cs/\cs.length=i/\∀ v∈cs,v<2) ⟨T,O,[],rfl,rfl,(λ_ h=>nomatch h)⟩ (λ_ _ _ _=>trivial) ?_ ?_
 ·rintro i x ys S2 hx ⟨T2,O2,cs,rfl,cl,c2⟩;obtain⟨rfl,hi⟩:=v7 hx;refine⟨_,rfl,hd T2 (by decide) (by decide) λr S3 r0 r1 T3 O3 _=>⟨by rw[f8];show _<100000;omega,T3,O2.trans O3,cs++[r.toNat],?_,by rw[Ut,cl];rfl,λv hv=>?_⟩⟩
  ·rw[m7];have:(r.toNat:Int)=r:=X4 r0;show _=natS cs++[SV.int (r.toNat:Int)];rw[this]
  ·rcases VD.mp hv with hv | hv
   ·exact c2 v hv
   ·rw[V3.mp hv];omega
 ·rintro ys S2 ⟨T2,O2,cs,rfl,cl,c2⟩;rw[m4,show((n:Int) - 0).toNat=n by omega]at cl
  have c2':∀ p,cs.getD p 0<2:=λp=>by
   rw[V1];cases hp:cs[p]? with
   | none=>show 0<2;omega
   | some v=>exact c2 v (Us hp)
  have T3:=T2.push (o:=SO.lst (natS cs));have O3:=O2.push (o:=SO.lst (natS cs));have h3:(S2++[SO.lst (natS cs)])[S2.length]?=some (.lst (natS cs)):=c6;have n3:S2.length≠t:=by have:=T2.lt;omega
  generalize S2.length=l3 at *;generalize S2++[SO.lst (natS cs)]=S3 at *;refine⟨_,rfl,_,rfl,⟨by omega,by omega⟩,?_⟩;refine EG (v:=0) hΔ h3 cl hn rfl ?_;have T4:=T3.push (o:=SO.lst (natS ((Uy n).filter λk=>decide (cs.getD k 0=0))));have O4:=O3.push (o:=SO.lst (natS ((Uy n).filter λk=>decide (cs.getD k 0=0))));have h4:(S3++[SO.lst (natS ((Uy n).filter λk=>decide (cs.getD k 0=0)))])[S3.length]?=some (.lst (natS ((Uy n).filter λk=>decide (cs.getD k 0=0)))):=c6;have h34:=c7 (o:=SO.lst (natS ((Uy n).filter λk=>decide (cs.getD k 0=0)))) h3;have n4:S3.length≠t:=by have:=T3.lt;omega
  generalize S3.length=l4 at *;generalize S3++[SO.lst (natS ((Uy n).filter λk=>decide (cs.getD k 0=0)))]=S4 at *;refine⟨_,rfl,_,rfl,⟨by omega,by omega⟩,?_⟩;refine EG (v:=1) hΔ h34 cl hn rfl ?_;have T5:=T4.push (o:=SO.lst (natS ((Uy n).filter λk=>decide (cs.getD k 0=1))));have O5:=O4.push (o:=SO.lst (natS ((Uy n).filter λk=>decide (cs.getD k 0=1))));have h5:(S4++[SO.lst (natS ((Uy n).filter λk=>decide (cs.getD k 0=1)))])[S4.length]?=some (.lst (natS ((Uy n).filter λk=>decide (cs.getD k 0=1)))):=c6;have h45:=c7 (o:=SO.lst (natS ((Uy n).filter λk=>decide (cs.getD k 0=1)))) h4;have n5:S4.length≠t:=by have:=T4.lt;omega
  generalize S4.length=l5 at *;generalize S4++[SO.lst (natS ((Uy n).filter λk=>decide (cs.getD k 0=1)))]=S5 at *
  have L:Lr n (λk=>cs.getD k 0) ((Uy n).filter λk=>decide (cs.getD k 0=0)) ((Uy n).filter λk=>decide (cs.getD k 0=1)):=by
   refine⟨λa ha=>?_,λb hb=>?_,VF (DO _ _) hn,VF (DO _ _) hn⟩
   ·have:=Vi.mp ha;exact⟨VG.mp this.1,of_decide_eq_true this.2⟩
   ·have:=Vi.mp hb;exact⟨VG.mp this.1,of_decide_eq_true this.2⟩
  exact PN hΔ hd T5 L h45 h5 n4 n5 hn λes S' he hl T' O'=>q es S' ⟨λe h=>⟨(he e h).1,(he e h).2.1⟩,by omega,by omega,⟨λk=>cs.getD k 0,c2',λe h=>(he e h).2.2⟩⟩ hl T' (O5.trans O')
theorem HZ(hΔ:∀ f,MonoN (Δ f))(hd:BJ (Δ kd)){D:Df}(hb:D.body=GF kd)(hN:D.N.length=12)(hp:D.ps.length=2):As (f6 Δ D):=by
 intro t g S Q T q;unfold f6;rw[hb,hN];refine⟨hp.symm,?_⟩;refine⟨_,rfl,hd T (by decide) (by decide) λr1 S2 a0 a1 T2 O2 _=>⟨_,rfl,hd T2 (by decide) (by decide) λr2 S3 b0 b1 T3 O3 _=>⟨by show 2<=big;decide,_,rfl,_,(if g=true then .int (8+r2) else .int r1),a7 c6,?_⟩⟩⟩;have O:=(O2.trans O3).push (o := .lst [.int r1,.int (8+r2)])
 have key:∀(z:Int) (n:Nat),z=n->n<=31->wSs Δ [t3 kd,t4,t5,t6 kd,t7,t8 kd,t9 kd,t10,t11 kd,t12] (v8 Q) [some (.loc t),some (.bl g),some (.int z),none,none,none,none,none,none,none,none,none] (S3++[SO.lst [.int r1,.int (8+r2)]]):=by
  rintro _ n rfl hn;exact Mv hΔ hd T3.push O hn λes S' W hl T' O'=>q n es S' W hn hl T' O'
 cases g with
 | false=>exact⟨rfl,key r1 r1.toNat (by omega) (by omega)⟩
 | true=>exact⟨rfl,key (8+r2) (8+r2).toNat (by omega) (by omega)⟩
def EH(k:Nat):List Stm:=[(.asg (.nm 2) (.call k (.cons (.var 0) (.cons (.var 1) .nil)))),(.loop (.nm 3) (.rng1 (.c (.int 3))) [(.iff (.eqt0 (.ix (.var 2) (.c (.int 1))) (.tup .nil)) [(.asg (.nm 2) (.call k (.cons (.var 0) (.cons (.var 1) .nil))))] [])]),(.ret (.var 2))]
theorem GG(hΔ:∀ f,MonoN (Δ f)){k:Nat}(h1:As (Δ k)){D:Df}(hb:D.body=EH k)(hN:D.N.length=4)(hp:D.ps.length=2):As (f6 Δ D):=by
 intro t g S Q T q;unfold f6;rw[hb,hN];refine⟨hp.symm,_,rfl,_,rfl,h1 T λn es S1 W hn hl T1 O1=>?_⟩;refine⟨_,rfl,⟨by decide,by decide⟩,?_⟩;refine m6 (g6 hΔ _) (λi ρ S'=>∃(n:Nat) (es:EE) (o3:Option SV),ρ=[some (.loc t),some (.bl g),some (f7 n es),o3]/\Web2 n es/\n<=31/\es.length<=90/\TapeS S' t/\On t S S') ⟨n,es,none,rfl,W,hn,hl,T1,O1⟩ (λ_ _ _ _=>trivial) ?_ ?_
 ·rintro i x ρ S2 hx ⟨n,es,o3,rfl,W,hn,hl,T2,O2⟩;refine⟨_,rfl,_,_,rfl,rfl,by show 0<=big;decide,_,rfl,rfl,_,rfl,ifB (λh=>?_) (λh=>c8 ⟨n,es,_,rfl,W,hn,hl,T2,O2⟩)⟩;exact⟨_,rfl,_,rfl,h1 T2 λn' es' S3 W' hn' hl' T3 O3=>⟨n',es',_,rfl,W',hn',hl',T3,O2.trans O3⟩⟩
 ·rintro ρ S2 ⟨n,es,o3,rfl,W,hn,hl,T2,O2⟩;exact⟨_,rfl,q n es S2 W hn hl T2 O2⟩
end
theorem Mw(xs:List Nat):Dd (natS xs) (natS xs)=true:=by
 unfold Dd natS;simp only[beq_self_eq_true,Y8];rw[VC];intro p hp;rw[List.zip_map']at hp;obtain⟨i,_,rfl⟩:=VV.mp hp;simp[eqF]
structure Sl(n:Nat)(es:EE)(c:Nat->Nat)(sd:List (Option Nat))(f:Nat->Nat)(op:Nat->Nat->Prop):Prop where
 ls:sd.length=n
 val:∀ p v,sd[p]?=some (some v)->v=(c p+f p) % 2
 cl:∀(t:Nat) (e:Nat×Nat) (p:Nat),es[t]?=some e->(p=e.1\/p=e.2)->IsSet sd p->¬ op p t->IsSet sd (farE e p)/\f (farE e p)=f p
section
variable{n:Nat}{es:EE}{c f:Nat->Nat}{sd:List (Option Nat)}{op op':Nat->Nat->Prop}
theorem Sl.more(G:Sl n es c sd f op)(h:∀ q i,op q i->∀ e,es[i]?=some e->(q=e.1\/q=e.2)->op' q i):Sl n es c sd f op':=⟨G.ls,G.val,λt e p he hp hs ho=>G.cl t e p he hp hs λz=>ho (h p t z e he hp)⟩
theorem Sl.close(G:Sl n es c sd f op){t p:Nat}{e:Nat×Nat}(he:es[t]?=some e)(hf:IsSet sd (farE e p))(hfe:f (farE e p)=f p)(ho:∀ q i,op q i->op' q i\/(q=p/\i=t)):Sl n es c sd f op':=⟨G.ls,G.val,λt' e' p' he' hp' hs' ho'=>by
 by_cases z:op p' t'
 ·rcases ho p' t' z with y | ⟨y,x⟩
  ·exact absurd y ho'
  ·subst y;subst x;rw[he]at he';cases he';exact⟨hf,hfe⟩
 ·exact G.cl t' e' p' he' hp' hs' z⟩
theorem Sl.give(G:Sl n es c sd f op)(H:Sdd n es c){t p v:Nat}{e:Nat×Nat}(he:es[t]?=some e)(hp:p=e.1\/p=e.2)(hv:sd[p]?=some (some v))(hn:sd[farE e p]?=some none)(ho:∀ q i,op q i->op' q i\/(q=p/\i=t))(hw:∀ i,op' (farE e p) i):Sl n es c (sd.set (farE e p) (some (1 - v))) (upd f (farE e p) (f p)) op':=by
 have hl:=(gM hn).1;have ns:∀ q,IsSet sd q->q≠farE e p:=λq ⟨u,hu⟩ z=>by rw[z,hn]at hu;cases hu
 refine⟨by rw[VH];exact G.ls,λq u hu=>?_,λt' e' q he' hq hs ho'=>?_⟩
 ·by_cases z:q=farE e p
  ·subst z;rw[V6 hl]at hu;cases hu;rw[BO,G.val p v hv];have h1:=(H.far he hp).2.1;have h2:=H.two p;omega
  ·rw[VR (Ne.symm z)]at hu;rw[upd_ne z];exact G.val q u hu
 ·have hqf:q≠farE e p:=λz=>by rw[z]at ho';exact ho' (hw t')
  have hsq:IsSet sd q:=by obtain⟨u,hu⟩:=hs;rw[VR (Ne.symm hqf)]at hu;exact⟨u,hu⟩
  rw[upd_ne hqf];by_cases z:op q t'
  ·rcases ho q t' z with y | ⟨y,x⟩
   ·exact absurd y ho'
   ·subst y;subst x;rw[he]at he';cases he';rw[BO];exact⟨⟨_,V6 hl⟩,rfl⟩
  ·obtain⟨a,b⟩:=G.cl t' e' q he' hq hsq z;rw[upd_ne (ns _ a)];exact⟨y8 hl a,b⟩
theorem Sl.begin(G:Sl n es c sd f λ_ _=>False){s:Nat}(hn:sd[s]?=some none)(h2:c s<2)(hw:∀ i,op' s i):Sl n es c (sd.set s (some 0)) (upd f s (c s)) op':=by
 have hl:=(gM hn).1;have ns:∀ q,IsSet sd q->q≠s:=λq ⟨u,hu⟩ z=>by rw[z,hn]at hu;cases hu
 refine⟨by rw[VH];exact G.ls,λq u hu=>?_,λt' e' q he' hq hs ho'=>?_⟩
 ·by_cases z:q=s
  ·subst z;rw[V6 hl]at hu;cases hu;rw[BO];omega
  ·rw[VR (Ne.symm z)]at hu;rw[upd_ne z];exact G.val q u hu
 ·have hqf:q≠s:=λz=>by rw[z]at ho';exact ho' (hw t')
  have hsq:IsSet sd q:=by obtain⟨u,hu⟩:=hs;rw[VR (Ne.symm hqf)]at hu;exact⟨u,hu⟩
  obtain⟨a,b⟩:=G.cl t' e' q he' hq hsq id;rw[upd_ne hqf,upd_ne (ns _ a)];exact⟨y8 hl a,b⟩
end
section
variable{Δ:Nat->Sn}{kt kf:Nat}
def GI2(n:Nat)(es:EE)(c:Nat->Nat)(f0 a b w p m:Nat)(S0:Sto)(sd0:List (Option Nat))(l:Nat)(o:SO)(ts:List Nat)(S:Sto):Prop:=
 S[l]?=some o/\∃ sd bk f wt,Sl n es c sd f (λq i=>q∈wt\/(q=p/\i∈ts))/\Gm a b w S0 S sd bk wt/\bk.length=n/\(∀ q∈wt,IsSet sd q/\f q=f0)/\IsSet sd p/\f p=f0/\2 * (n - sd.countP WL)+wt.length<=m/\wt.length<=sd.countP WL/\∀ q,IsSet sd0 q->IsSet sd q
theorem Ha(hf:BM (Δ kf)){n f0 s a b w p m j l:Nat}{o:SO}(la:l≠a)(lb:l≠b)(lw:l≠w){es:EE}{c:Nat->Nat}{e:Nat×Nat}{S0 S:Sto}{sd0:List (Option Nat)}{ts:List Nat}{D:EndsS}{o7:Option SV}(H:Sdd n es c)(hn:n<=1000)(he:es[j]?=some e)(hpe:p=e.1\/p=e.2)
 (I:GI2 n es c f0 a b w p m S0 sd0 l o (j::ts) S) (q:∀(o7:Option SV) (S':Sto),GI2 n es c f0 a b w p m S0 sd0 l o ts S'->D.nx [some (f7 n es),some (.int s),some (.loc a),some (.loc b),some (.loc w),some (.int p),some (.int j),o7] S'):
 wSs Δ (zin kf) D [some (f7 n es),some (.int s),some (.loc a),some (.loc b),some (.loc w),some (.int p),some (.int j),o7] S:=by
 obtain⟨hlo,sd,bk,f,wt,G,M,hbl,hwt,hp,hr,hc,hw,h0⟩:=I;obtain⟨hfl,hcf,hff,hfe,hpn⟩:=H.far he hpe;have hcn:=X1 (p:=WL) (l:=sd);rw[G.ls]at hcn
 have ho:∀(wt':List Nat),(∀ x∈wt,x∈wt')->∀ q i,(q∈wt\/(q=p/\i∈j::ts))->(q∈wt'\/(q=p/\i∈ts))\/(q=p/\i=j):=by
  rintro wt' hs q i (h | ⟨h,h2⟩)
  ·exact .inl (.inl (hs _ h))
  ·rcases VA.mp h2 with h2 | h2
   ·exact .inr ⟨h,h2⟩
   ·exact .inl (.inr ⟨h,h2⟩)
 refine⟨_,rfl,_,rfl,_,rfl,hf he hpe ?_⟩;have hsl:farE e p<sd.length:=by rw[G.ls];exact hfl
 cases hx:sd[farE e p]'hsl with
 | some v=>
   have h:sd[farE e p]?=some (some v):=by rw[Uq hsl,hx]
   refine⟨_,rfl,_,rfl,_,_,a7 M.ha,e7 (AR h),.inl ⟨rfl,_,rfl,ifF rfl ?_⟩⟩;refine q _ _ ⟨hlo,sd,bk,f,wt,G.close he ⟨v,h⟩ ?_ (ho wt λ_ h=>h),M,hbl,hwt,hp,hr,hc,hw,h0⟩;by_cases z:farE e p∈wt
   ·rw[(hwt _ z).2,hr]
   ·have hne:farE e p≠p:=λy=>by rw[y]at hcf;have:=H.two p;omega
    have:=(G.cl j e (farE e p) he hfe ⟨v,h⟩ (λy=>y.elim z λy=>hne y.1)).2;rw[hff]at this;exact this.symm
 | none=>
   have h:sd[farE e p]?=some none:=by rw[Uq hsl,hx]
   obtain⟨v,hv⟩:=hp;have hv2:v<2:=by rw[G.val p v hv];omega
   refine⟨_,rfl,_,rfl,_,_,a7 M.ha,e7 (AR h),.inl ⟨rfl,_,rfl,ifT rfl ?_⟩⟩;refine⟨_,rfl,_,rfl,_,_,a7 M.ha,e7 (AR hv),_,rfl,_,rfl,_,_,M.ha,HY (by rw[CO];exact hsl),?_⟩
   have e2:(optsS sd).set (farE e p) ((λ(i j:Int)=>SV.int (i - j)) 1 v)=optsS (sd.set (farE e p) (some (1 - v))):=by
    show(optsS sd).set _ (.int ((1:Int) - (v:Int)))=_;rw[show(1:Int) - (v:Int)=((1 - v:Nat):Int) by omega,CP]
   rw[e2];have M1:=M.seta (sd':=sd.set (farE e p) (some (1 - v)));refine⟨_,rfl,_,rfl,_,rfl,_,_,M1.hb,HY (by rw[CO,hbl];exact hfl),?_⟩;rw[CP];have M2:=M1.setb (bk':=bk.set (farE e p) (some j));refine⟨_,rfl,⟨_,_,rfl,M2.hw⟩,_,rfl,_,M2.hw,by rw[f8];show _<100000;omega,?_⟩;have M3:=M2.setw (wt':=wt++[farE e p]);rw[m7]at M3;have hns:∀ q,IsSet sd q->q≠farE e p:=λq ⟨v,hv⟩ z=>by rw[z,h]at hv;cases hv
   have hlt:sd.countP WL<n:=by
    have h1:=X1 (p:=WL) (l:=sd.set (farE e p) (some 0));rw[Bb h,VH,G.ls]at h1;exact h1
   refine q _ _ ⟨by rw[j5 (Ne.symm lw),j5 (Ne.symm lb),j5 (Ne.symm la)];exact hlo,_,_,_,wt++[farE e p],G.give H he hpe hv h (ho _ λ_ h=>Vf _ h) (λ_ => .inl (by simp)),M3,by rw[VH];exact hbl,λy hy=>?_,y8 hsl ⟨v,hv⟩,?_,?_,?_,λy hy=>y8 hsl (h0 y hy)⟩
   ·rcases VD.mp hy with hy | hy
    ·rw[upd_ne (hns _ (hwt y hy).1)];exact⟨y8 hsl (hwt y hy).1,(hwt y hy).2⟩
    ·rw[V3.mp hy,BO];exact⟨⟨_,V6 hsl⟩,hr⟩
   ·rw[upd_ne (hns _ ⟨v,hv⟩)];exact hr
   ·rw[Bb h,Ut];simp;omega
   ·rw[Bb h,Ut];simp;omega
noncomputable def Ev(s:Sn):Prop:=∀{n st a b:Nat} {es:EE} {c f:Nat->Nat} {sd bk:List (Option Nat)} {S:Sto} {Q:QE},Sdd n es c->es.length<=5000->n<=1000->Sl n es c sd f (λ_ _=>False)->bk.length=n->sd[st]?=some none->a≠b->S[a]?=some (.lst (optsS sd))->S[b]?=some (.lst (optsS bk))->
 (∀(sd' bk':List (Option Nat)) (f':Nat->Nat) (S':Sto),Sl n es c sd' f' (λ_ _=>False)->bk'.length=n->(∀ q,IsSet sd q->IsSet sd' q)->IsSet sd' st->S'[a]?=some (.lst (optsS sd'))->S'[b]?=some (.lst (optsS bk'))->S.length<=S'.length->(∀(k:Nat) (o:SO),k≠a->k≠b->S[k]?=some o->S'[k]?=some o)->Q .non S')->s [f7 n es,.int st,.loc a,.loc b] S Q
theorem Mx(hΔ:∀ f,MonoN (Δ f))(ht:BL (Δ kt))(hf:BM (Δ kf)){D:Df}(hb':D.body=QN kt kf)(hN:D.N.length=8)(hps:D.ps.length=4):Ev (f6 Δ D):=by
 intro n st a b es c f sd bk S Q H hel hn G0 hbl hst ab hSa hSb q;have hsl:st<sd.length:=(gM hst).1;unfold f6;rw[hb',hN];refine⟨hps.symm,_,rfl,_,rfl,_,_,hSa,HY (by rw[CO];exact hsl),?_⟩;have e0:(optsS sd).set st (.int 0)=optsS (sd.set st (some 0)):=CP (v:=0);rw[e0];refine⟨_,rfl,by show 1<=big;decide,?_⟩;generalize hw0:(S.set a (.lst (optsS (sd.set st (some 0))))).length=w;have hw1:S.length=w:=by rw[<-hw0,VH]
 have M0:Gm a b w S (S.set a (.lst (optsS (sd.set st (some 0))))++[.lst (natS [st])]) (sd.set st (some 0)) bk [st]:=
  ⟨c7 (l6 hSa),c7 (by rw[j5 ab];exact hSb),by rw[<-hw0];exact c6,by simp,λk o h1 h2 h=>c7 (by rw[j5 (Ne.symm h1)];exact h),ab,AZ hSa,AZ hSb,by omega⟩
 refine⟨λm ρ S'=>∃ sd' bk' f' wt o5 o6 o7,ρ=[some (f7 n es),some (.int st),some (.loc a),some (.loc b),some (.loc w),o5,o6,o7]/\Sl n es c sd' f' (λq _=>q∈wt)/\Gm a b w S S' sd' bk' wt/\bk'.length=n/\(∀ q∈wt,IsSet sd' q/\f' q=c st)/\2 * (n - sd'.countP WL)+wt.length<=m/\wt.length<=sd'.countP WL/\∀ q,IsSet (sd.set st (some 0)) q->IsSet sd' q,
  ⟨_,_,_,_,[st],none,none,none,rfl,G0.begin hst (H.two st) (λ_=>by simp),M0,hbl,λq hq=>?_,Ux _,by rw[Bb hst];simp,λ_ h=>h⟩,?_⟩
 ·rw[V3.mp hq,BO];exact⟨⟨_,V6 hsl⟩,rfl⟩
 rintro m ρ S1 ⟨sd1,bk1,f1,wt,o5,o6,o7,rfl,G,M,hbl1,hwt,hm,hwc,hk⟩;refine⟨_,rfl,_,Er M.hw,?_⟩;rcases GA wt with rfl | ⟨wt',p,rfl⟩
 ·refine ifF rfl ?_;exact q sd1 bk1 f1 S1 (G.more λ_ _ h=>by simp at h) hbl1 (λy hy=>hk y (y8 hsl hy)) (hk st ⟨_,V6 hsl⟩) M.ha M.hb M.len M.keep
 refine ifT (by rw[m7];simp[natS]) (PC λEw hw _=>?_);refine⟨_,rfl,⟨_,_,rfl,M.hw⟩,_,_,M.hw,K8,?_⟩;rw[Mr];have M1:=M.setw (wt':=wt');obtain⟨⟨v,hv⟩,hpr⟩:=hwt p (by simp);have hpn:p<n:=by rw[<-G.ls];exact(gM hv).1
 rw[Ut]at hm hwc;simp only[VU,WB]at hm hwc;refine⟨_,rfl,_,rfl,ht hel hpn ⟨_,a7 c6,?_⟩⟩;have M2:=M1.push (o:=SO.lst (natS (g8 es p es.length)));have hnew:=c6 (S:=S1.set w (.lst (natS wt'))) (o:=SO.lst (natS (g8 es p es.length)));have l1:=AZ M1.ha;have l2:=AZ M1.hb;have l3:=AZ M1.hw;generalize (S1.set w (.lst (natS wt'))).length=l at *;generalize (S1.set w (.lst (natS wt')))++[SO.lst (natS (g8 es p es.length))]=S3 at *
 refine Aa (g6 hΔ _) (λi ρ S2=>∃ o6 o7,ρ=[some (f7 n es),some (.int st),some (.loc a),some (.loc b),some (.loc w),some (.int p),o6,o7]/\GI2 n es c (c st) a b w p (m - 1) S (sd.set st (some 0)) l (.lst (natS (g8 es p es.length))) ((g8 es p es.length).drop i) S2)
  ⟨o6,o7,rfl,hnew,sd1,bk1,f1,wt',G.more (λy i h e he hye=>?_),M2,hbl1,λy hy=>hwt y (by simp[hy]),⟨v,hv⟩,hpr,by omega,by omega,hk⟩ ?_ ?_ ?_
 ·rcases VD.mp h with h | h
  ·exact .inl h
  ·have:=V3.mp h;exact .inr ⟨this,mem_tiesAt.mpr ⟨e,he,by rw[<-this];exact hye.imp Eq.symm Eq.symm⟩⟩
 ·rintro i ρ S2 ⟨_,_,_,h,_⟩;show S2[l]?=_;rw[h,hnew]
 ·rintro i x ρ S2 E hE _ hx ⟨o6,o7,rfl,I⟩;have hi:i<(g8 es p es.length).length:=by have:=(gM hx).1;rwa [f8]at this
  have hx2:=C3 (Uq hi);rw[hx2]at hx;have hx:=oj hx;subst hx;obtain⟨e,he,hpe⟩:=mem_tiesAt.mp (Vm hi);rw[WR hi]at I;exact Ha hf (by omega) (by omega) (by omega) H hn he (hpe.imp Eq.symm Eq.symm) I λo7 S' I'=>hE _ _ ⟨_,_,rfl,I'⟩
 ·rintro ρ S2 ⟨o6,o7,rfl,_,sd2,bk2,f2,wt2,G2,N2,b2,h1,h2,h3,h4,h5,h6⟩;rw[f8,Ws]at G2;exact hw _ _ ⟨m - 1,by omega,sd2,bk2,f2,wt2,_,_,_,rfl,G2.more (λ_ _ h _ _ _=>h.elim id λh=>by simp at h),N2,b2,h1,h4,h5,h6⟩
def Hb(s:Sn):Prop:=∀{n:Nat} {es:EE} {c:Nat->Nat} {S:Sto} {Q:QE},Sdd n es c->es.length<=5000->n<=1000->(∀(a:Nat) (S':Sto),Gw S S'->Q (.tup [.str "sides",.loc a]) S')->s [f7 n es] S Q
theorem PP{kg kr:Nat}(hΔ:∀ f,MonoN (Δ f))(hg:Ev (Δ kg)){D:Df}(hb:D.body=UN kg kr)(hN:D.N.length=7)(hp:D.ps.length=1):Hb (f6 Δ D):=by
 intro n es c S Q H hel hn q1;unfold f6;rw[hb,hN];refine⟨hp.symm,by show 1<=big;decide,_,rfl,_,_,rfl,rfl,_,c6,⟨by omega,by omega⟩,by simp;show _<=100000;omega,?_⟩;rw[Il];refine⟨by show 1<=big;decide,_,rfl,_,_,rfl,rfl,_,c6,⟨by omega,by omega⟩,by simp;show _<=100000;omega,?_⟩;rw[Il];generalize ha:(S++[SO.lst [SV.non]]).length=a;have ha1:S.length<a:=by rw[<-ha];simp
 have hSa:(S++[SO.lst [SV.non]]++[SO.lst (optsS (Uv n none))])[a]?=some (.lst (optsS (Uv n none))):=by rw[<-ha];exact c6
 have G0:Gw S (S++[SO.lst [SV.non]]++[SO.lst (optsS (Uv n none))]):=(Gw.refl S).push.push;generalize S++[SO.lst [SV.non]]++[SO.lst (optsS (Uv n none))]=S1 at *;generalize hb2:(S1++[SO.lst [SV.non]]).length=b;have hb1:S1.length<b:=by rw[<-hb2];simp
 have hSb:(S1++[SO.lst [SV.non]]++[SO.lst (optsS (Uv n none))])[b]?=some (.lst (optsS (Uv n none))):=by rw[<-hb2];exact c6
 have hS2:=c7 (o:=SO.lst (optsS (Uv n none))) (c7 (o:=SO.lst [SV.non]) hSa);have G2:=(G0.push (o:=SO.lst [SV.non])).push (o:=SO.lst (optsS (Uv n none)));have hab:=AZ hSa;generalize S1++[SO.lst [SV.non]]++[SO.lst (optsS (Uv n none))]=S2 at *
 have st0:Sl n es c (Uv n none) (λ_=>0) λ_ _=>False:=by
  have h:∀ p v,(Uv n (none:Option Nat))[p]?=some (some v)->False:=λp v hv=>by
   have:=Us hv;rw[List.mem_replicate]at this;cases this.2
  exact⟨by simp,λp v hv=>(h p v hv).elim,λ_ _ p _ _ hq=>by obtain⟨v,hv⟩:=hq;exact(h p v hv).elim⟩
 refine⟨_,rfl,_,_,rfl,rfl,_,rfl,⟨by omega,by omega⟩,?_⟩
 refine Aa (g6 hΔ _) (λi ρ S'=>∃ sd bk f o3,ρ=[some (f7 n es),some (.loc a),some (.loc b),o3,none,none,none]/\Sl n es c sd f (λ_ _=>False)/\bk.length=n/\(∀ p,p<i->IsSet sd p)/\S'[a]?=some (.lst (optsS sd))/\S'[b]?=some (.lst (optsS bk))/\Gw S S')
  ⟨_,_,_,none,rfl,st0,by simp,λ_ h=>by omega,hS2,hSb,G2⟩ (λ_ _ _ _=>trivial) ?_ ?_
 ·rintro i x ρ S' E hnx _ hx ⟨sd,bk,f,o3,rfl,G,hbl,hs,ha',hb',Gw'⟩;obtain⟨rfl,hi⟩:=v7 hx;rw[Wa]at hi ⊢;have hil:i<sd.length:=by rw[G.ls];omega
  cases hx:sd[i] with
  | some v=>
    have h:sd[i]?=some (some v):=by rw[Uq hil,hx]
    refine⟨_,rfl,_,rfl,_,_,a7 ha',e7 (AR h),.inl ⟨rfl,_,rfl,ifF rfl ?_⟩⟩;refine hnx _ _ ⟨sd,bk,f,_,rfl,G,hbl,λp hp=>?_,ha',hb',Gw'⟩;by_cases hpi:p=i
    ·rw[hpi];exact⟨v,h⟩
    ·exact hs p (by omega)
  | none=>
    have h:sd[i]?=some none:=by rw[Uq hil,hx]
    refine⟨_,rfl,_,rfl,_,_,a7 ha',e7 (AR h),.inl ⟨rfl,_,rfl,ifT rfl ?_⟩⟩;refine⟨_,rfl,_,rfl,_,rfl,_,rfl,hg H hel hn G hbl h (by omega) ha' hb' λsd' bk' f' S'' G' b' k1 k2 h1 h2 h3 h4=>?_⟩;refine hnx _ _ ⟨sd',bk',f',_,rfl,G',b',λp hp=>?_,h1,h2,⟨VF Gw'.len h3,λk o hk=>h4 k o (by have:=AZ hk;omega) (by have:=AZ hk;omega) (Gw'.keep k o hk)⟩⟩;by_cases hpi:p=i
    ·rw[hpi];exact k2
    ·exact k1 p (hs p (by omega))
 ·rintro ρ S' ⟨sd,bk,f,o3,rfl,G,hbl,hs,ha',hb',Gw'⟩;rw[m4]at hs;refine⟨_,rfl,_,_,rfl,rfl,_,rfl,?_⟩;refine Aa (g6 hΔ _) (λi ρ S2=>∃ o4 o5 o6,ρ=[some (f7 n es),some (.loc a),some (.loc b),o3,o4,o5,o6]/\S2=S') ⟨_,_,_,rfl,rfl⟩ (λ_ _ _ _=>trivial) ?_ ?_
  ·rintro i x ρ _ E hnx _ hx ⟨p4,p5,p6,rfl,rfl⟩;obtain⟨y,hy,rfl⟩:=DM hx;obtain⟨e,he,rfl⟩:=Ar hy;have hee:=H.en e (Us he);obtain⟨u,hu⟩:=hs e.1 (by omega);obtain⟨v,hv⟩:=hs e.2 (by omega);refine⟨_,rfl,_,rfl,_,_,a7 ha',e7 (AR hu),_,rfl,_,rfl,_,_,a7 ha',e7 (AR hv),_,rfl,?_⟩;refine ifD (λh=>False.elim ?_) (λh=>hnx _ _ ⟨_,_,_,rfl,rfl⟩);have h:u=v:=Vk.mp h;have h1:=G.val _ _ hu;have h2:=G.val _ _ hv;have h3:=(G.cl i e e.1 he (.inl rfl) ⟨u,hu⟩ id).2;rw[show farE e e.1=e.2 by unfold farE;rw[iP rfl]]at h3;rw[h3]at h2;have h4:=H.ne e (Us he);have h5:=H.two e.1;have h6:=H.two e.2;omega
  ·rintro ρ _ ⟨p4,p5,p6,rfl,rfl⟩;exact⟨_,rfl,by show 2<=big;decide,q1 _ _ Gw'⟩
def DP(s:Sn):Prop:=∀{n:Nat} {es:EE} {c:Nat->Nat} {S:Sto} {Q:QE},Sdd n es c->es.length<=5000->n<=249->(∀(a:Nat) (S':Sto),Gw S S'->Q (.loc a) S')->s [f7 n es] S Q
theorem KB{k:Nat}(h2:Hb (Δ k)){D:Df}(hb:D.body=GC k)(hN:D.N.length=3)(hp:D.ps.length=1):DP (f6 Δ D):=by
 intro n es c S Q H hel hn q;unfold f6;rw[hb,hN];refine⟨hp.symm,_,rfl,h2 H hel (by omega) λa S' G=>?_⟩;exact⟨_,rfl,_,rfl,ifF (decide_eq_false (by decide)) ⟨_,rfl,q a S' G⟩⟩
end
def j3(es:EE):Nat->Nat
 | 0=>0
 | n+1=>max (j3 es n) (m8 es n)
theorem BP(es:EE):∀{n p:Nat},p<n->m8 es p<=j3 es n
 | 0,_,h=>absurd h (Wj _)
 | n+1,p,h=>by
   show _<=max (j3 es n) (m8 es n);by_cases e:p=n
   ·subst e;omega
   ·have:=BP es (n:=n) (p:=p) (by omega);omega
theorem DQ(es:EE):∀ n:Nat,j3 es n=0\/∃ p,p<n/\j3 es n=m8 es p
 | 0 => .inl rfl
 | n+1=>by
   show max (j3 es n) (m8 es n)=0\/∃ p,p<n+1/\max (j3 es n) (m8 es n)=m8 es p;by_cases h:j3 es n<=m8 es n
   ·right;exact⟨n,by omega,by omega⟩
   ·rcases DQ es n with z | ⟨p,hp,e⟩
    ·left;omega
    ·right;exact⟨p,by omega,by omega⟩
theorem EI{es:EE}{n:Nat}{m:Int}(h1:∀ p,p<n->((m8 es p:Nat):Int)<=m)(h2:m=0\/∃ p,p<n/\m=(m8 es p:Nat))(h0:0<=m):m=(j3 es n:Nat):=by
 have a:m<=(j3 es n:Nat):=by
  rcases h2 with z | ⟨p,hp,z⟩
  ·omega
  ·have:=BP es hp;omega
 have b:((j3 es n:Nat):Int)<=m:=by
  rcases DQ es n with z | ⟨p,hp,z⟩
  ·omega
  ·have:=h1 p hp;omega
 omega
def cS(n:Nat)(f:Nat->Nat):List SV:=(Uy n).map λp=>SV.int (f p:Nat)
theorem DR{n p:Nat}{f:Nat->Nat}(h:p<n):(cS n f)[p]?=some (.int (f p:Nat)):=by unfold cS;rw[Uz,Vu h];rfl
theorem BQ{n:Nat}{f:Nat->Nat}:(cS n f).length=n:=by unfold cS;rw[Ur,Vr]
theorem Io(n:Nat)(f:Nat->Nat):cS n f=((Uy n).map λp=>((f p:Nat):Int)).map SV.int:=by unfold cS;rw[Xl];rfl
theorem QQ{n p:Nat}{f:Nat->Nat}(h:p<n):(cS n f).set p (.int ((f p:Nat)+1))=cS n λq=>f q+if q=p then 1 else 0:=by
 apply Wm;intro i;by_cases hi:i<n
 ·rw[DR hi];by_cases e:i=p
  ·subst e;rw[V6 (by rw[BQ];exact hi),iP rfl];rfl
  ·rw[VR (Ne.symm e),DR hi,iG e];rfl
 ·rw[Vy (by rw[VH,BQ];omega),Vy (by rw[BQ];omega)]
theorem My:∀ n:Nat,(Uv n [SV.int 0]).flatten=cS n λ_=>0:=by
 intro n
 have e:(Uv n [SV.int 0]).flatten=Uv n (SV.int 0):=by
  induction n with
  | zero=>rfl
  | succ n ih=>rw[VQ,Vv,ih];rfl
 rw[e];apply Wm;intro i;rw[W3];by_cases hi:i<n
 ·rw[iP hi,DR hi];rfl
 ·rw[iG hi,Vy (by rw[BQ];omega)]
def QR:List Stm:=[(.asg (.nm 1) (.op .Mult (.lst (.cons (.c (.int 0)) .nil)) (.ix (.var 0) (.c (.int 0))))),(.loop (.tup (.cons (.nm 2) (.cons (.nm 3) .nil))) (.seq (.ix (.var 0) (.c (.int 1)))) [(.augS (.var 1) (.var 2) (.c (.int 1))),(.augS (.var 1) (.var 3) (.c (.int 1)))]),(.ret (.maxd (.var 1) (.c (.int 0))))]
def Hc(s:Sn):Prop:=∀{n:Nat} {es:EE} {S:Sto} {Q:QE},(∀ e∈es,e.1<e.2/\e.2<n)->n<=1000->(∀ S',Gw S S'->Q (.int (j3 es n:Nat)) S')->s [f7 n es] S Q
theorem Mz{n:Nat}{es:EE}{m:Int}(h:Grt ((Uy n).map λp=>((m8 es p:Nat):Int)) m):m=(j3 es n:Nat):=by
 obtain⟨h1,h2⟩:=h;obtain⟨p,hp,e⟩:=VV.mp h1;rw[VG]at hp;exact EI (λq hq=>h2 _ (VV.mpr ⟨q,VG.mpr hq,rfl⟩)) (.inr ⟨p,hp,e.symm⟩) (by rw[<-e];omega)
section
variable{Δ:Nat->Sn}
theorem PQ(hΔ:∀ f,MonoN (Δ f)){D:Df}(hb:D.body=QR)(hN:D.N.length=4)(hp:D.ps.length=1):Hc (f6 Δ D):=by
 intro n es S Q hen hn q;unfold f6;rw[hb,hN];refine⟨hp.symm,by show 1<=big;decide,_,rfl,_,_,rfl,rfl,_,c6,⟨by omega,by omega⟩,by show 1 * _<=100000;omega,?_⟩;have er:(Uv ((n:Int)).toNat [SV.int 0]).flatten=cS n λ_=>0:=by rw[W6,My]
 rw[er];have p1:((S++[SO.lst [SV.int 0]])++[SO.lst (cS n λ_=>0)])[(S++[SO.lst [SV.int 0]]).length]?=some (.lst (cS n λ_=>0)):=c6;have G1:Gw S ((S++[SO.lst [SV.int 0]])++[SO.lst (cS n λ_=>0)]):=(Gw.refl S).push.push;have kl:S.length<=(S++[SO.lst [SV.int 0]]).length:=by rw[Ut];omega
 generalize (S++[SO.lst [SV.int 0]]).length=k at *;generalize (S++[SO.lst [SV.int 0]])++[SO.lst (cS n λ_=>0)]=S1 at *;refine⟨_,rfl,_,_,rfl,rfl,_,rfl,?_⟩;refine Aa (g6 hΔ _) (λi ρ S2=>∃ o2 o3,ρ=[some (f7 n es),some (.loc k),o2,o3]/\Gw S S2/\S2[k]?=some (.lst (cS n λp=>(es.take i).countP (AS p)))) ⟨none,none,rfl,G1,by rw[p1];simp⟩ (λ_ _ _ _=>trivial) ?_ ?_
 ·rintro i x ρ S2 E hn _ hx ⟨o2,o3,rfl,G2,h2⟩;obtain⟨e,he,rfl⟩:=Ar hx;have hee:=hen e (Us he);refine⟨_,rfl,_,rfl,k,e.1,_,_,rfl,rfl,h2,DR (by omega),_,_,rfl,h2,by rw[BQ];omega,?_⟩;rw[QQ (by omega)];have h3:(S2.set k (.lst (cS n λq=>(es.take i).countP (AS q)+if q=e.1 then 1 else 0)))[k]?=some (.lst (cS n λq=>(es.take i).countP (AS q)+if q=e.1 then 1 else 0)):=l6 h2;have G3:Gw S (S2.set k (.lst (cS n λq=>(es.take i).countP (AS q)+if q=e.1 then 1 else 0))):=G2.put kl;generalize S2.set k (.lst (cS n λq=>(es.take i).countP (AS q)+if q=e.1 then 1 else 0))=S3 at *;refine⟨_,rfl,_,rfl,k,e.2,_,_,rfl,rfl,h3,DR (by omega),_,_,rfl,h3,by rw[BQ];omega,?_⟩;rw[QQ (by omega)];refine hn _ _ ⟨_,_,rfl,G3.put kl,?_⟩;rw[l6 h3]
  congr 3
  funext p
  rw[VZ,he,XD];show _=_+Xw (AS p) [e];rw[XM,XU];by_cases z:AS p e=true
  ·rw[iP z];rcases endB_iff.mp z with y | y
   ·rw[iP y,iG (by omega)]
   ·rw[iP y,iG (by omega)]
  ·have z':¬ (p=e.1\/p=e.2):=λy=>z (endB_iff.mpr y);rw[iG z,iG (λy=>z' (.inl y)),iG (λy=>z' (.inr y))]
 ·rintro ρ S2 ⟨o2,o3,rfl,G2,h2⟩;rw[Ur,VW]at h2;have ec:(cS n λp=>es.countP (AS p))=cS n (m8 es):=by congr 1;funext p;exact(Mt es p).symm
  rw[ec,Io]at h2;refine⟨_,rfl,k,_,_,rfl,rfl,h2,λz=>?_,λm g=>?_⟩
  ·have hn0:n=0:=by cases n with
    | zero=>rfl
    | succ n=>simp[Wi]at z
   have:=q S2 G2;rw[hn0]at this;exact this
  ·rw[Mz g];exact q S2 G2
def Ip:List Stm:=[(.ret (.bi .len (.cons (.comp ["_law_pair"] ["_law_place"] [1] (.nm 0) (.seq (.ix (.var 0) (.c (.int 1)))) (.yes (.cmp .In (.var 1) (.var 0))) (.var 0)) .nil)))]
def DS(s:Sn):Prop:=∀{n p:Nat} {es:EE} {S:Sto} {Q:QE},es.length<=5000->(∀ S',Gw S S'->Q (.int (m8 es p:Nat)) S')->s [f7 n es,.int p] S Q
theorem KC(hΔ:∀ f,MonoN (Δ f)){D:Df}(hb:D.body=Ip)(hN:D.N.length=2)(hp:D.ps.length=2):DS (f6 Δ D):=by
 intro n p es S Q hel q;unfold f6;rw[hb,hN];refine⟨hp.symm,_,rfl,_,_,rfl,rfl,_,rfl,?_⟩;refine h9 (i9 hΔ _).2 (a8 hΔ _).1 (λi ys S'=>S'=S/\ys.length=(es.take i).countP (AS p)) ⟨rfl,by simp⟩ (λ_ _ _ _=>trivial) ?_ ?_
 ·rintro i x ys S' hx ⟨rfl,hy⟩;obtain⟨e,he,rfl⟩:=Ar hx;have hi:=(gM he).1;have hcl:(es.take i).countP (AS p)<=i:=VF (X1 ..) (by rw[VN];omega)
  have hs:(es.take (i+1)).countP (AS p)=(es.take i).countP (AS p)+if AS p e=true then 1 else 0:=by
   rw[VZ,he,XD];show _+Xw (AS p) [e]=_;rw[XM,XU,W9]
  refine⟨_,rfl,_,rfl,rfl,_,rfl,rfl,_,rfl,?_⟩;show if inS (.int p) [.int e.1,.int e.2]=true then _ else _
  rw[Ba];refine ifB (λh=>?_) (λh=>?_)
  ·refine⟨_,rfl,by rw[hy];show _<100000;omega,rfl,?_⟩;rw[Ut,hy,hs,iP (show AS p e=true from h)];rfl
  ·refine⟨rfl,?_⟩;rw[hy,hs,iG (show ¬ AS p e=true by unfold AS;rw[h];decide)];rfl
 ·rintro ys S' ⟨rfl,hy⟩;rw[Ur,VW,<-Mt]at hy;refine⟨_,a7 c6,?_⟩;rw[hy];exact q _ (Gw.refl _).push
def N0(kc:Nat):List Stm:=[(.ret (.max1 (.op .Add (.lst (.cons (.c (.int 0)) .nil)) (.comp ["_law_place"] ["_law_web"] [0] (.nm 0) (.rng1 (.ix (.var 0) (.c (.int 0)))) .no (.call kc (.cons (.var 1) (.cons (.var 0) .nil)))))))]
theorem KD{n:Nat}{es:EE}{m:Int}(h:Grt (0::(Uy n).map λp=>((m8 es p:Nat):Int)) m):m=(j3 es n:Nat):=by
 obtain⟨h1,h2⟩:=h;have h0:=h2 0 (VJ ..);refine EI (λq hq=>h2 _ (VB _ (VV.mpr ⟨q,VG.mpr hq,rfl⟩))) ?_ h0;rcases VA.mp h1 with z | z
 ·exact .inl z
 ·obtain⟨p,hp,e⟩:=VV.mp z;exact .inr ⟨p,VG.mp hp,e.symm⟩
def Ey(s:Sn):Prop:=∀{n:Nat} {es:EE} {S:Sto} {Q:QE},es.length<=5000->n<=1000->(∀ S',Gw S S'->Q (.int (j3 es n:Nat)) S')->s [f7 n es] S Q
theorem N1(hΔ:∀ f,MonoN (Δ f)){kc:Nat}(hc:DS (Δ kc)){D:Df}(hb:D.body=N0 kc)(hN:D.N.length=1)(hp:D.ps.length=1):Ey (f6 Δ D):=by
 intro n es S Q hel hn q;unfold f6;rw[hb,hN];refine⟨hp.symm,by show 1<=big;decide,_,rfl,_,_,rfl,rfl,_,rfl,⟨by omega,by omega⟩,?_⟩;have h0:(S++[SO.lst [SV.int 0]])[S.length]?=some (.lst [SV.int 0]):=c6;have G0:Gw S (S++[SO.lst [SV.int 0]]):=(Gw.refl S).push;generalize hk:S.length=k at *;generalize S++[SO.lst [SV.int 0]]=S1 at *;refine h9 (i9 hΔ _).2 (a8 hΔ _).1 (λi ys S2=>Gw S1 S2/\ys=cS i (m8 es)) ⟨Gw.refl S1,rfl⟩ (λ_ _ _ _=>trivial) ?_ ?_
 ·rintro i x ys S2 hx ⟨G2,rfl⟩;obtain⟨rfl,hi⟩:=v7 hx;rw[Wa]at hi ⊢;refine⟨_,rfl,_,rfl,hc hel λS3 G3=>⟨by rw[BQ];show _<100000;omega,G2.trans G3,?_⟩⟩;unfold cS;rw[Wi,VO];rfl
 ·rintro ys S2 ⟨G2,rfl⟩;rw[m4,show((n:Int) - 0).toNat=n by omega];refine⟨_,_,c7 (G2.keep _ _ h0),c6,by rw[BQ];show 1+n<=100000;omega,S2.length+1,(0::(Uy n).map λp=>((m8 es p:Nat):Int)),?_,?_,Nat.succ_pos _,λm g=>?_⟩
  ·rw[Ut];rfl
  ·rw[Io,show S2.length+1=(S2++[SO.lst (((Uy n).map λp=>((m8 es p:Nat):Int)).map SV.int)]).length by rw[Ut];rfl,c6];rfl
  ·rw[KD g];exact q _ (G0.trans G2).push.push
theorem SS{t:Nat}{S S':Sto}(G:Gw S S'):On t S S':=⟨G.len,λk o _ h=>G.keep k o h⟩
end
def hu(cs:List Nat)(t:Nat):Nat:=cs.getD t 0
def AtP(es:EE)(t y:Nat):Prop:=∃ e,es[t]?=some e/\(e.1=y\/e.2=y)
theorem AtP.lt{es:EE}{t y:Nat}(h:AtP es t y):t<es.length:=let ⟨_,e,_⟩:=h;(gM e).1
structure Prp(es:EE)(cs:List Nat):Prop where
 len:cs.length=es.length
 one:∀ t u y,AtP es t y->AtP es u y->hu cs t=hu cs u->t=u
structure RwI(es:EE)(cs:List Nat)(a b p:Nat)(r:List Nat)(x one other:Nat):Prop where
 nd:r.Nodup
 lt:∀ t∈r,t<es.length
 alt:∀ i t:Nat,r[i]?=some t->hu cs t=if i % 2=0 then a else b
 d1:one=if r.length % 2=0 then a else b
 d2:other=if r.length % 2=0 then b else a
 fin:∀ t∈r,∀ y,AtP es t y->y≠x->∀ u,AtP es u y->(hu cs u=a\/hu cs u=b)->u∈r
 oth:∀ u,AtP es u x->hu cs u=other->u∈r
 non:∀ u∈r,AtP es u x->hu cs u≠one
 lst:∀ t,r.getLast?=some t->AtP es t x
 beg:r=[]->x=p
 fst:∀ t,r[0]?=some t->AtP es t p
 all:∀ T:Nat->Prop,(∀ t u y,T t->AtP es t y->AtP es u y->(hu cs u=a\/hu cs u=b)->T u)->(∀ t,r[0]?=some t->T t)->∀ t∈r,T t
def Clo(es:EE)(cs:List Nat)(a b:Nat)(r:List Nat):Prop:=∀ t∈r,∀ y,AtP es t y->∀ u,AtP es u y->(hu cs u=a\/hu cs u=b)->u∈r
section
variable{es:EE}{cs:List Nat}{a b p x one other:Nat}{r:List Nat}
theorem RwI.nil(h:∀ u,AtP es u p->hu cs u≠b):RwI es cs a b p [] p a b:=
 ⟨.nil,(λ_ h=>nomatch h),λi t h=>by simp at h,rfl,rfl,(λ_ h=>nomatch h),λu h1 h2=>absurd h2 (h u h1),(λ_ h=>nomatch h),λt h=>by simp at h,λ_=>rfl,λt h=>by simp at h,λ_ _ _ _ h=>nomatch h⟩
theorem RwI.two(R:RwI es cs a b p r x one other){h:Nat}(z:h=a\/h=b):h=one\/h=other:=by
 rw[R.d1,R.d2];by_cases e:r.length % 2=0
 ·rw[iP e,iP e];exact z
 ·rw[iG e,iG e];exact z.symm
theorem RwI.ab(R:RwI es cs a b p r x one other):(one=a\/one=b)/\(other=a\/other=b):=by
 rw[R.d1,R.d2];by_cases e:r.length % 2=0
 ·rw[iP e,iP e];exact⟨.inl rfl,.inr rfl⟩
 ·rw[iG e,iG e];exact⟨.inr rfl,.inl rfl⟩
theorem RwI.ne(R:RwI es cs a b p r x one other)(ab:a≠b):one≠other:=by
 rw[R.d1,R.d2];by_cases e:r.length % 2=0
 ·rw[iP e,iP e];exact ab
 ·rw[iG e,iG e];exact ab.symm
theorem RwI.step(P:Prp es cs)(ab:a≠b)(R:RwI es cs a b p r x one other){t:Nat}{e:Nat×Nat}(he:es[t]?=some e)(hx:e.1=x\/e.2=x)(ne:e.1≠e.2)(ht:hu cs t=one):RwI es cs a b p (r++[t]) (farE e x) other one:=by
 have ax:AtP es t x:=⟨e,he,hx⟩
 have fx:farE e x≠x:=by unfold farE;split<;>rcases hx with z | z<;>omega
 have af:AtP es t (farE e x):=⟨e,he,by unfold farE;split<;>simp⟩
 have ends:∀ y,AtP es t y->y=x\/y=farE e x:=by
  rintro y ⟨e',he',hy⟩;rw[he]at he';cases he';unfold farE;rcases hx with hx | hx<;>rcases hy with hy | hy<;>split<;>omega
 have tn:t∉r:=λz=>R.non t z ax ht;have oo:=R.ne ab
 have fin1:∀ u,AtP es u x->(hu cs u=a\/hu cs u=b)->u∈r++[t]:=λu hu' hc=>by
  rcases R.two hc with z | z
  ·rw[P.one u t x hu' ax (z.trans ht.symm)];simp
  ·exact Vf _ (R.oth u hu' z)
 have ll:(r++[t]).length=r.length+1:=by simp
 refine⟨?_,λu hu'=>?_,λi u hi=>?_,?_,?_,λs hs y hy nx u hu' hc=>?_,λu hu' hc=>?_,λu hu' hy hc=>?_,λu hu'=>?_,λz=>?_,λu hu'=>?_,λT c0 c1 u hu'=>?_⟩
 ·rw[Wz];exact⟨R.nd,by simp,λc hc d hd=>by rw[V3.mp hd];exact λz=>tn (z▸hc)⟩
 ·rcases VD.mp hu' with z | z
  ·exact R.lt u z
  ·rw[V3.mp z];exact ax.lt
 ·rcases QO hi with⟨e1,e2⟩ | hi
  ·rw[e2,ht,e1];exact R.d1
  ·exact R.alt i u hi
 ·rw[ll,R.d2];by_cases e:r.length % 2=0
  ·rw[iP e,iG (by omega)]
  ·rw[iG e,iP (by omega)]
 ·rw[ll,R.d1];by_cases e:r.length % 2=0
  ·rw[iP e,iG (by omega)]
  ·rw[iG e,iP (by omega)]
 ·rcases VD.mp hs with z | z
  ·by_cases yx:y=x
   ·rw[yx]at hu';exact fin1 u hu' hc
   ·exact Vf _ (R.fin s z y hy yx u hu' hc)
  ·rw[V3.mp z]at hy;rcases ends y hy with q | q
   ·rw[q]at hu';exact fin1 u hu' hc
   ·exact absurd q nx
 ·rw[P.one u t _ hu' af (hc.trans ht.symm)];simp
 ·rcases VD.mp hu' with z | z
  ·exact tn (R.fin u z _ hy fx t af (by rw[ht];exact R.ab.1))
  ·rw[V3.mp z,ht]at hc;exact oo hc
 ·rw[List.getLast?_concat]at hu';cases hu';exact af
 ·simp at z
 ·cases hr:r with
  | nil=>
    rw[hr]at hu';have:t=u:=by simpa using hu'
    rw[<-this,<-R.beg hr];exact ax
  | cons s rs=>
    rw[hr]at hu';exact R.fst u (by rw[hr];simpa using hu')
 ·rcases VD.mp hu' with z | z
  ·refine R.all T c0 (λs hs=>c1 s ?_) u z;cases hr:r with
   | nil=>rw[hr]at hs;simp at hs
   | cons s' rs=>rw[hr]at hs;simpa using hs
  ·rw[V3.mp z];cases hr:r with
   | nil=>exact c1 t (by rw[hr];rfl)
   | cons s' rs=>
     have hl:r.getLast?=some (r.getLast (by rw[hr];simp)):=Wf (by rw[hr];simp);have sm:=Xu (l:=r) (by rw[hr];simp);refine c0 _ t x (R.all T c0 (λs hs=>c1 s ?_) _ sm) (R.lst _ hl) ax (by rw[ht];exact R.ab.1);rw[hr]at hs ⊢;simpa using hs
theorem RwI.len(R:RwI es cs a b p r x one other):r.length<=es.length:=by
 have:=List.Nodup.length_le_of_subset R.nd (l₂:=Uy es.length) λt ht=>VG.mpr (R.lt t ht)
 rwa [Vr]at this
theorem RwI.clo(R:RwI es cs a b p r x one other)(no:∀ u,AtP es u x->hu cs u≠one):Clo es cs a b r:=by
 intro t ht y hy u hu' hc;by_cases yx:y=x
 ·rw[yx]at hu';rcases R.two hc with z | z
  ·exact absurd z (no u hu')
  ·exact R.oth u hu' z
 ·exact R.fin t ht y hy yx u hu' hc
end
def m9(es:EE)(cs:List Nat)(x h:Nat):Option Nat:=(g8 es x es.length).find? λt=>decide (hu cs t=h)
theorem n9{es:EE}{cs:List Nat}{x h t:Nat}(z:m9 es cs x h=some t):AtP es t x/\hu cs t=h:=by
 unfold m9 at z;exact⟨mem_tiesAt.mp (List.mem_of_find?_eq_some z),by simpa using List.find?_some z⟩
theorem AL{es:EE}{cs:List Nat}{x h:Nat}(z:m9 es cs x h=none):∀ u,AtP es u x->hu cs u≠h:=by
 unfold m9 at z;rw[XE]at z;exact λu hu'=>by simpa using z u (mem_tiesAt.mpr hu')
def rwF(es:EE)(cs:List Nat):Nat->Nat->Nat->Nat->List Nat
 | 0,_,_,_=>[]
 | k+1,x,one,other=>match m9 es cs x one with
   | none=>[]
   | some t=>t::rwF es cs k (farE (es.getD t (0,0)) x) other one
theorem N3{es:EE}{cs:List Nat}{a b p:Nat}(P:Prp es cs)(ab:a≠b)(hne:∀ e∈es,e.1≠e.2):∀(k:Nat) (r:List Nat) (x one other:Nat),RwI es cs a b p r x one other->es.length+1<=r.length+k->∃ x' one' other',RwI es cs a b p (r++rwF es cs k x one other) x' one' other'/\∀ u,AtP es u x'->hu cs u≠one'
 | 0,r,x,one,other,R,h=>by have:=R.len;omega
 | k+1,r,x,one,other,R,h=>by
   unfold rwF;cases ht:m9 es cs x one with
   | none=>exact⟨x,one,other,by simpa using R,AL ht⟩
   | some t=>
     obtain⟨⟨e,he,hx⟩,hc⟩:=n9 ht;have ge:es.getD t (0,0)=e:=by rw[V1,he];rfl
     dsimp only;rw[ge];have R':=R.step P ab he hx (hne e (Us he)) hc;obtain⟨x',o1,o2,R2,no⟩:=N3 P ab hne k _ _ _ _ R' (by rw[Ut];simp;omega);exact⟨x',o1,o2,by simpa using R2,no⟩
def exL(cs r:List Nat)(a b:Nat):List Nat:=(Uy cs.length).map λt=>if t∈r then (if hu cs t=a then b else a) else hu cs t
theorem A9(cs r:List Nat)(a b:Nat):(exL cs r a b).length=cs.length:=by unfold exL;rw[Ur,Vr]
theorem Bp{cs r:List Nat}{a b t:Nat}(h:t<cs.length):hu (exL cs r a b) t=if t∈r then (if hu cs t=a then b else a) else hu cs t:=by
 unfold exL;show Vs _ t 0=_;rw[V1,Uz,Vu h];rfl
theorem ST{es:EE}{cs r:List Nat}{a b:Nat}(P:Prp es cs)(C:Clo es cs a b r)(hr:∀ t∈r,hu cs t=a\/hu cs t=b):Prp es (exL cs r a b):=by
 refine⟨(A9 ..).trans P.len,λt u y ht hu' h=>?_⟩;have tl:=ht.lt;have ul:=hu'.lt;rw[<-P.len]at tl ul;rw[Bp tl,Bp ul]at h;by_cases z1:t∈r
 ·by_cases z2:u∈r
  ·rw[iP z1,iP z2]at h;refine P.one t u y ht hu' ?_;rcases hr t z1 with q1 | q1<;>rcases hr u z2 with q2 | q2
   ·rw[q1,q2]
   ·rw[iP q1]at h;by_cases q3:hu cs u=a
    ·rw[q1,q3]
    ·rw[iG q3]at h;rw[q1,q2,h]
   ·rw[iP q2]at h;by_cases q3:hu cs t=a
    ·rw[q2,q3]
    ·rw[iG q3]at h;rw[q1,q2,h]
   ·rw[q1,q2]
  ·rw[iP z1,iG z2]at h;exact absurd (C t z1 y ht u hu' (by split at h;exact .inr h.symm;exact .inl h.symm)) z2
 ·by_cases z2:u∈r
  ·rw[iG z1,iP z2]at h;exact absurd (C u z2 y hu' t ht (by split at h;exact .inr h;exact .inl h)) z1
  ·rw[iG z1,iG z2]at h;exact P.one t u y ht hu' h
theorem SU(cs:List Nat):(Uy cs.length).map (hu cs)=cs:=by
 apply Wm;intro i;rw[Uz];by_cases h:i<cs.length
 ·rw[Vu h,Uq h];show some (cs.getD i 0)=_;rw[V1,Uq h];rfl
 ·rw[Vy (by rw[Vr];omega),Vy (by omega)];rfl
inductive Gd(V:Nat->List SV->Prop):Nat->Nat->SV->Prop where
 | non {k b:Nat}:Gd V k b .non
 | bl {k b:Nat} (c:Bool):Gd V k b (.bl c)
 | int {k b:Nat} {i:Int} (h:-1000000000000000000000<=i/\i<=1000000000000000000000):Gd V k b (.int i)
 | str {k b:Nat} {x:Str} (h:Sz 0 10 (.str x)) (hb:10<=b):Gd V k b (.str x)
 | tup {k b c:Nat} {xs:List SV} (h:∀ y∈xs,Gd V k b y) (hl:xs.length<=63) (hc:xs.length * (b+1)<=c):Gd V (k+1) c (.tup xs)
 | lst {k b c l:Nat} {xs:List SV} (hv:V l xs) (h:∀ y∈xs,Gd V k b y) (hl:xs.length<=63) (hc:xs.length * (b+1)<=c):Gd V (k+1) c (.loc l)
theorem Gd.see{V V':Nat->List SV->Prop}(i:∀ l xs,V l xs->V' l xs){k b:Nat}{x:SV}(h:Gd V k b x):Gd V' k b x:=by
 induction h with
 | non=>exact .non
 | bl c=>exact .bl c
 | int h=>exact .int h
 | str h hb=>exact .str h hb
 | tup _ hl hc ih=>exact .tup ih hl hc
 | lst hv _ hl hc ih=>exact .lst (i _ _ hv) ih hl hc
def VS(S:Sto)(l:Nat)(xs:List SV):Prop:=S[l]?=some (.lst xs)
def isI:SV->Bool
 | .int _=>true
 | _=>false
section
variable{Δ:Nat->Sn}
def SW(s:Sn):Prop:=∀{x:SV} {S:Sto} {k b:Nat} {Q:QE},Gd (VS S) k b x->Q (.bl (isI x)) S->s [x] S Q
theorem PR{D:Df}(hb:D.body=HX)(hN:D.N.length=1)(hp:D.ps.length=1):SW (f6 Δ D):=by
 intro x S k b Q h q;unfold f6;rw[hb,hN];cases h with
 | non=>exact⟨hp.symm,_,rfl,_,nofun,rfl,_,rfl,ifF rfl q⟩
 | bl c=>exact⟨hp.symm,_,rfl,_,nofun,rfl,_,rfl,ifT rfl ⟨_,rfl,_,nofun,rfl,_,rfl,q⟩⟩
 | int h=>exact⟨hp.symm,_,rfl,_,nofun,rfl,_,rfl,ifT rfl ⟨_,rfl,_,nofun,rfl,_,rfl,q⟩⟩
 | str h hb'=>exact⟨hp.symm,_,rfl,_,nofun,rfl,_,rfl,ifF rfl q⟩
 | tup h hl hc=>exact⟨hp.symm,_,rfl,_,nofun,rfl,_,rfl,ifF rfl q⟩
 | lst hv h hl hc=>exact⟨hp.symm,_,rfl,_,nofun,CN hv,_,rfl,ifF rfl q⟩
theorem PU(f:Nat->Bool):∀ n:Nat,blS ((Uy n).map λi => .bl (f i))=some ((Uy n).map f):=by
 have go:∀ l:List Nat,blS (l.map λi => .bl (f i))=some (l.map f):=λl=>by
  induction l with
  | nil=>rfl
  | cons a l ih=>rw[VP,VP];simp[blS,ih]
 exact λn=>go _
theorem all_mapF{f:Nat->Bool}{n:Nat}:((Uy n).map f).all id=true↔∀ i,i<n->f i=true:=by
 rw[VC];constructor
 ·exact λh i hi=>h _ (VV.mpr ⟨i,VG.mpr hi,rfl⟩)
 ·rintro h x hx;obtain⟨i,hi,rfl⟩:=VV.mp hx;exact h i (VG.mp hi)
theorem N4(hΔ:∀ f,MonoN (Δ f)){e:Ex}{keep:Sto->Prop}{g:Tg}{ρ:EnvS}{Q:List SV->Sto->Prop}(f:Nat->Bool){xs:List SV}{S:Sto}(hl:xs.length<=1000)(hk:∀ S',Gw S S'->keep S')
 (hs:∀(i:Nat) (x:SV) (S':Sto),xs[i]?=some x->Gw S S'->wTg g x ρ λρ2=>(wEx Δ e).1 ρ2 S' λy S2=>y = .bl (f i)/\Gw S S2)
 (q:∀ S',Gw S S'->Q ((Uy xs.length).map λi => .bl (f i)) S'):p0 keep g (wEo Δ .no).2 (wEx Δ e).1 ρ Q xs [] S:=by
 refine h9 (i9 hΔ _).2 (a8 hΔ _).1 (λi ys S'=>Gw S S'/\ys=(Uy i).map λi => .bl (f i)) ⟨Gw.refl S,rfl⟩ (λ_ _ _ h=>hk _ h.1) ?_ ?_
 ·rintro i x ys S' hx ⟨G,rfl⟩;have hi:=(gM hx).1;refine w6 g (λρ2 h=>?_) (hs i x S' hx G);refine(a8 hΔ e).1 _ _ _ _ (λy S2 h=>⟨by rw[Ur,Vr];show _<100000;omega,h.2,?_⟩) h;rw[h.1,Wi,VO];rfl
 ·rintro ys S' ⟨G,rfl⟩;exact q S' G
theorem Gd.grow{S S':Sto}{k b:Nat}{x:SV}(h:Gd (VS S) k b x)(G:Gw S S'):Gd (VS S') k b x:=h.see λl xs e=>G.keep l _ e
def UQ:List Stm:=[(.ret (.bi .isi (.cons (.var 0) (.cons (.tup (.cons (.tyc .list) (.cons (.tyc .tuple) .nil))) .nil))))]
def isL:SV->Bool
 | .tup _=>true
 | .loc _=>true
 | _=>false
def SX(s:Sn):Prop:=∀{x:SV} {S:Sto} {k b:Nat} {Q:QE},Gd (VS S) k b x->Q (.bl (isL x)) S->s [x] S Q
theorem PV{D:Df}(hb:D.body=UQ)(hN:D.N.length=1)(hp:D.ps.length=1):SX (f6 Δ D):=by
 intro x S k b Q h q;unfold f6;rw[hb,hN];have b2:2<=big:=by decide
 cases h with
 | non=>exact⟨hp.symm,_,rfl,b2,_,[.list,.tuple],by decide,rfl,rfl,q⟩
 | bl c=>exact⟨hp.symm,_,rfl,b2,_,[.list,.tuple],by decide,rfl,rfl,q⟩
 | int h=>exact⟨hp.symm,_,rfl,b2,_,[.list,.tuple],by decide,rfl,rfl,q⟩
 | str h hb'=>exact⟨hp.symm,_,rfl,b2,_,[.list,.tuple],by decide,rfl,rfl,q⟩
 | tup h hl hc=>exact⟨hp.symm,_,rfl,b2,_,[.list,.tuple],by decide,rfl,rfl,q⟩
 | lst hv h hl hc=>exact⟨hp.symm,_,rfl,b2,_,[.list,.tuple],by decide,CN hv,rfl,q⟩
end
structure SeqV(S:Sto)(x:SV)(xs:List SV):Prop where
 seq:∀ S',Gw S S'->seqS x S'=some xs
 keep:∀ S1 S',Gw S S1->Gw S S'->keepS x S1 S'
 len:xs.length<=63
 gd:∃ k b,∀ y∈xs,Gd (VS S) k b y
 ls:isL x=true
theorem Gd.split{S:Sto}{k b:Nat}{x:SV}(h:Gd (VS S) k b x):(isL x=false/\∀ xs,seqS x S≠some xs)\/∃ xs,SeqV S x xs:=by
 cases h with
 | non=>exact .inl ⟨rfl,nofun⟩
 | bl c=>exact .inl ⟨rfl,nofun⟩
 | int h=>exact .inl ⟨rfl,nofun⟩
 | str h hb'=>exact .inl ⟨rfl,nofun⟩
 | tup h hl hc=>exact .inr ⟨_,λ_ _=>rfl,λ_ _ _ _=>trivial,hl,⟨_,_,h⟩,rfl⟩
 | lst hv h hl hc=>exact .inr ⟨_,λS' G=>a7 (G.keep _ _ hv),λS1 S' G1 G=>by
    show S'[_]?=S1[_]?;rw[G.keep _ _ hv,G1.keep _ _ hv],hl,⟨_,_,h⟩,rfl⟩
section
variable{Δ:Nat->Sn}
def QS:List Stm:=[(.ret (.or (.cmp .In (.ix (.ix (.ix (.var 0) (.c (.int 1))) (.var 1)) (.c (.int 0))) (.ix (.ix (.var 0) (.c (.int 1))) (.var 2))) (.cmp .In (.ix (.ix (.ix (.var 0) (.c (.int 1))) (.var 1)) (.c (.int 1))) (.ix (.ix (.var 0) (.c (.int 1))) (.var 2)))))]
def Shr(es:EE)(t u:Nat):Prop:=∃ p,(p=(AV es t).1\/p=(AV es t).2)/\(p=(AV es u).1\/p=(AV es u).2)
def Iq(s:Sn):Prop:=∀{n t u:Nat} {es:EE} {S:Sto} {Q:QE},t<es.length->u<es.length->(∀ v:Bool,(v=true↔Shr es t u)->Q (.bl v) S)->s [f7 n es,.int t,.int u] S Q
theorem N5{D:Df}(hb:D.body=QS)(hN:D.N.length=3)(hp:D.ps.length=3):Iq (f6 Δ D):=by
 intro n t u es S Q ht hu q;unfold f6;rw[hb,hN];have h1:atI (es.map pairS) (t:Int)=some (pairS (AV es t)):=e7 (by rw[Uz,Co ht];rfl);have h2:atI (es.map pairS) (u:Int)=some (pairS (AV es u)):=e7 (by rw[Uz,Co hu];rfl);refine⟨hp.symm,_,rfl,_,_,rfl,rfl,_,rfl,_,_,rfl,h1,_,.int ((AV es t).1:Nat),rfl,rfl,_,rfl,_,_,rfl,rfl,_,rfl,_,_,rfl,h2,rfl,_,rfl,rfl,_,rfl,?_⟩;show if inS (.int (AV es t).1) [.int (AV es u).1,.int (AV es u).2]=true then _ else _
 rw[Ba];refine ifB (λz=>q true ⟨λ_=>?_,λ_=>rfl⟩) (λz=>?_)
 ·refine⟨(AV es t).1,.inl rfl,?_⟩;simp only[Va,dQ]at z;exact z.imp Eq.symm Eq.symm
 ·refine⟨_,rfl,_,_,rfl,rfl,_,rfl,_,_,rfl,h1,_,.int ((AV es t).2:Nat),rfl,rfl,_,rfl,_,_,rfl,rfl,_,rfl,_,_,rfl,h2,rfl,_,rfl,rfl,?_⟩;show Q (.bl (inS (.int (AV es t).2) [.int (AV es u).1,.int (AV es u).2])) S;rw[Ba];refine q _ ⟨λz=>⟨(AV es t).2,.inr rfl,?_⟩,?_⟩
  ·simp only[Va,dQ]at z;exact z.imp Eq.symm Eq.symm
  ·rintro⟨p,rfl | rfl,h⟩
   ·simp only[Bool.or_eq_false_iff,decide_eq_false_iff_not]at z;exact absurd (h.imp Eq.symm Eq.symm) (not_or.mpr z)
   ·simp only[Va,dQ];exact h.imp Eq.symm Eq.symm
end
theorem KF{xs:List SV}{i:Nat}:Cc xs none (some (i:Int))=xs.take i:=by
 unfold Cc;rw[HT.sIx_nat,HT.sIx_none,Wp,X6];rcases YI i xs.length with z | z
 ·rw[Y2 z]
 ·rw[Xt z,VW,Vt z]
def PX:SV->Bool
 | .int i=>decide (0<=i)
 | _=>false
def PropS(es:EE)(xs:List SV)(m:Nat):Prop:=∀(i j:Nat) (h:Int),i<j->j<m->xs[i]?=some (.int h)->xs[j]?=some (.int h)->¬ Shr es i j
def endE(es:EE)(t p:Nat):Prop:=p=(AV es t).1\/p=(AV es t).2
theorem shr_end{es:EE}{a b:Nat}:Shr es a b↔∃ p,endE es a p/\endE es b p:=Iff.rfl
structure DictI(es:EE)(xs:List SV)(i:Nat)(kvs:List ((Int×Int)×Int)):Prop where
 sound:∀(p:Nat) (h n:Int),dpv kvs (((p:Nat):Int),h)=some n->∃ t:Nat,n=(t:Nat)/\t<i/\xs[t]?=some (.int h)/\endE es t p
 full:∀(t p:Nat) (h:Int),t<i->xs[t]?=some (.int h)->endE es t p->∃ n,dpv kvs (((p:Nat):Int),h)=some n
theorem Ir{kvs:List ((Int×Int)×Int)}{k k':Int×Int}{m:Int}(h:dpv kvs k=none):dpv (kvs++[(k,m)]) k'=if k'=k then some m else dpv kvs k':=by
 unfold dpv at h ⊢;rw[List.find?_append];by_cases e:k'=k
 ·subst e;rw[iP rfl];have h':=XT.mp h;rw[h',Option.none_or,Vd,decide_eq_true rfl];rfl
 ·rw[iG e,Vd,decide_eq_false (λz=>e z.symm),List.find?_nil,Option.or_none]
structure DJ(es:EE)(xs:List SV)(i:Nat)(h:Int)(P:Nat->Prop)(kvs:List ((Int×Int)×Int))(ps:List (Int×Int)):Prop where
 sound:∀(p:Nat) (g n:Int),dpv kvs (((p:Nat):Int),g)=some n->∃ t:Nat,n=(t:Nat)/\(t<i\/(t=i/\P p))/\xs[t]?=some (.int g)/\endE es t p
 full:∀(t p:Nat) (g:Int),(t<i\/(t=i/\P p))->xs[t]?=some (.int g)->endE es t p->∃ n,dpv kvs (((p:Nat):Int),g)=some n
 cl:ps=[]↔PropS es xs i/\∀ t p:Nat,t<i->xs[t]?=some (.int h)->P p->¬ endE es t p
theorem DJ.first{es:EE}{xs:List SV}{i:Nat}{h:Int}{kvs:List ((Int×Int)×Int)}{ps:List (Int×Int)}(D:DictI es xs i kvs)(c:ps=[]↔PropS es xs i):DJ es xs i h (λ_=>False) kvs ps:=
 ⟨λp g n e=>let ⟨t,a,b,c⟩:=D.sound p g n e;⟨t,a,.inl b,c⟩,λt p g ht hx he=>D.full t p g (ht.elim id λz=>z.2.elim) hx he,c.trans ⟨λa=>⟨a,λ_ _ _ _ z=>z.elim⟩,λa=>a.1⟩⟩
theorem DJ.found{es:EE}{xs:List SV}{i p:Nat}{h c:Int}{P:Nat->Prop}{kvs:List ((Int×Int)×Int)}{ps:List (Int×Int)}(J:DJ es xs i h P kvs ps)(hxi:xs[i]?=some (.int h))(nP:¬ P p)(hc:dpv kvs (((p:Nat):Int),h)=some c):c≠(i:Nat)/\DJ es xs i h (λq=>P q\/q=p) kvs (ps++[(c,((i:Nat):Int))]):=by
 obtain⟨t,rfl,ht,hx,he⟩:=J.sound p h c hc;have ht:t<i:=ht.elim id λz=>absurd z.2 nP;refine⟨λz=>by omega,λq g n e=>?_,λu q g hu hx' he'=>?_,⟨λz=>absurd z (by simp),λz=>absurd he (z.2 t p ht hx (.inr rfl))⟩⟩
 ·obtain⟨u,a,b,d⟩:=J.sound q g n e;exact⟨u,a,b.imp id λz=>⟨z.1,.inl z.2⟩,d⟩
 ·rcases hu with hu | ⟨rfl,hu | rfl⟩
  ·exact J.full u q g (.inl hu) hx' he'
  ·exact J.full u q g (.inr ⟨rfl,hu⟩) hx' he'
  ·rw[hxi]at hx';cases hx';exact⟨_,hc⟩
theorem DJ.new{es:EE}{xs:List SV}{i p:Nat}{h:Int}{P:Nat->Prop}{kvs:List ((Int×Int)×Int)}{ps:List (Int×Int)}(J:DJ es xs i h P kvs ps)(hxi:xs[i]?=some (.int h))(hp:endE es i p)(hc:dpv kvs (((p:Nat):Int),h)=none):DJ es xs i h (λq=>P q\/q=p) (kvs++[((((p:Nat):Int),h),((i:Nat):Int))]) ps:=by
 refine⟨λq g n e=>?_,λu q g hu hx' he'=>?_,J.cl.trans ⟨λz=>⟨z.1,λt q ht hx hq he=>?_⟩,λz=>⟨z.1,λt q ht hx hq he=>z.2 t q ht hx (.inl hq) he⟩⟩⟩
 ·rw[Ir hc]at e;by_cases z:(((q:Nat):Int),g)=(((p:Nat):Int),h)
  ·rw[iP z]at e;injection z with z1 z2;cases e;rw[Vk.mp z1,z2];exact⟨i,rfl,.inr ⟨rfl,.inr rfl⟩,hxi,hp⟩
  ·rw[iG z]at e;obtain⟨u,a,b,d⟩:=J.sound q g n e;exact⟨u,a,b.imp id λz=>⟨z.1,.inl z.2⟩,d⟩
 ·rw[Ir hc];by_cases z:(((q:Nat):Int),g)=(((p:Nat):Int),h)
  ·rw[iP z];exact⟨_,rfl⟩
  ·rw[iG z];rcases hu with hu | ⟨rfl,hu | rfl⟩
   ·exact J.full u q g (.inl hu) hx' he'
   ·exact J.full u q g (.inr ⟨rfl,hu⟩) hx' he'
   ·rw[hxi]at hx';cases hx';exact absurd rfl z
 ·rcases hq with hq | rfl
  ·exact z.2 t q ht hx hq he
  ·obtain⟨n,e⟩:=J.full t q h (.inl ht) hx he;rw[hc]at e;cases e
theorem DJ.last{es:EE}{xs:List SV}{i:Nat}{h:Int}{P:Nat->Prop}{kvs:List ((Int×Int)×Int)}{ps:List (Int×Int)}(J:DJ es xs i h P kvs ps)(hxi:xs[i]?=some (.int h))(hP:∀ p,endE es i p↔P p):DictI es xs (i+1) kvs/\(ps=[]↔PropS es xs (i+1)):=by
 refine⟨⟨λp g n e=>?_,λt p g ht hx he=>J.full t p g ?_ hx he⟩,J.cl.trans ⟨λz a b g hab hb ha hb' sh=>?_,λz=>⟨λa b g hab hb=>z a b g hab (by omega),λt p ht hx hp he=>z t i h ht (Wr _) hx hxi ⟨p,he,(hP p).mpr hp⟩⟩⟩⟩
 ·obtain⟨t,a,b,d⟩:=J.sound p g n e;exact⟨t,a,by omega,d⟩
 ·rcases W8 t i with z | z
  ·exact .inl z
  ·have:t=i:=by omega
   subst this;exact .inr ⟨rfl,(hP p).mp he⟩
 ·rcases W8 b i with y | y
  ·exact z.1 a b g hab y ha hb' sh
  ·have:b=i:=by omega
   subst this;rw[hxi]at hb';cases hb';obtain⟨p,e1,e2⟩:=sh;exact z.2 a p hab ha ((hP p).mp e2) e1
theorem DictI.skip{es:EE}{xs:List SV}{i:Nat}{kvs:List ((Int×Int)×Int)}{ps:List (Int×Int)}(D:DictI es xs i kvs)(c:ps=[]↔PropS es xs i)(hxi:xs[i]?=some .non):DictI es xs (i+1) kvs/\(ps=[]↔PropS es xs (i+1)):=by
 have lt:∀(t:Nat) (g:Int),t<i+1->xs[t]?=some (.int g)->t<i:=λt g ht hx=>by
  rcases W8 t i with z | z
  ·exact z
  ·have:t=i:=by omega
   subst this;rw[hxi]at hx;cases hx
 exact⟨⟨λp g n e=>let ⟨t,a,b,d⟩:=D.sound p g n e;⟨t,a,by omega,d⟩,λt p g ht hx he=>D.full t p g (lt t g ht hx) hx he⟩,c.trans ⟨λz a b g hab hb ha hb'=>z a b g hab (lt b g hb hb') ha hb',λz a b g hab hb=>z a b g hab (by omega)⟩⟩
section
variable{Δ:Nat->Sn}
def kq3:Stm:=(.loop (.nm 7) (.seq (.var 5)) [(.asg (.nm 8) (.setd (.var 2) (.tup (.cons (.var 7) (.cons (.var 6) .nil))) (.var 4))),(.iff (.cmp .NotEq (.var 8) (.var 4)) [(.expr (.mt .append (.var 3) (.cons (.tup (.cons (.var 8) (.cons (.var 4) .nil))) .nil)))] [])])
def kq2:Stm:=(.loop (.tup (.cons (.nm 4) (.cons (.nm 5) .nil))) (.enum (.ix (.var 0) (.c (.int 1)))) [(.asg (.nm 6) (.ix (.var 1) (.var 4))),(.iff (.cmp .IsNot (.var 6) (.c .non)) [kq3] [])])
def N6:List Stm:=[(.asg (.nm 2) .dnewp),(.asg (.nm 3) (.lst .nil)),kq2,(.ret (.mind (.var 3) (.c .non)))]
def psS(ps:List (Int×Int)):List SV:=ps.map λp:Int×Int=>SV.tup [.int p.1,.int p.2]
theorem EJ{n m l i p:Nat}{h:Int}{es:EE}{x:SV}{kvs:List ((Int×Int)×Int)}{ps:List (Int×Int)}{S:Sto}{D:EndsS}{o5 o8:Option SV}(hm:S[m]?=some (.dtp kvs))(hl:S[l]?=some (.lst (psS ps)))(hk:kvs.length<1000)(hp:ps.length<1000)
 (q0:∀ c:Int,dpv kvs (((p:Nat):Int),h)=some c->c=(i:Nat)->D.nx [some (f7 n es),some x,some (.loc m),some (.loc l),some (.int (i:Nat)),o5,some (.int h),some (.int (p:Nat)),some (.int c)] S)
 (q1:∀ c:Int,dpv kvs (((p:Nat):Int),h)=some c->c≠(i:Nat)->D.nx [some (f7 n es),some x,some (.loc m),some (.loc l),some (.int (i:Nat)),o5,some (.int h),some (.int (p:Nat)),some (.int c)] (S.set l (.lst (psS (ps++[(c,((i:Nat):Int))])))))
 (q2:dpv kvs (((p:Nat):Int),h)=none->D.nx [some (f7 n es),some x,some (.loc m),some (.loc l),some (.int (i:Nat)),o5,some (.int h),some (.int (p:Nat)),some (.int (i:Nat))] (S.set m (.dtp (kvs++[((((p:Nat):Int),h),((i:Nat):Int))])))):
 wSs Δ [(.asg (.nm 8) (.setd (.var 2) (.tup (.cons (.var 7) (.cons (.var 6) .nil))) (.var 4))),(.iff (.cmp .NotEq (.var 8) (.var 4)) [(.expr (.mt .append (.var 3) (.cons (.tup (.cons (.var 8) (.cons (.var 4) .nil))) .nil)))] [])] D [some (f7 n es),some x,some (.loc m),some (.loc l),some (.int (i:Nat)),o5,some (.int h),some (.int (p:Nat)),o8] S:=by
 refine⟨_,rfl,m,kvs,rfl,hm,_,rfl,_,rfl,by show 2<=100000;decide,_,rfl,_,_,_,kvs,rfl,rfl,hm,by show _<100000;omega,λc hc=>?_,λhc=>?_⟩
 ·refine⟨_,rfl,_,rfl,_,rfl,?_⟩;show if (!decide (c=((i:Nat):Int)))=true then _ else _
  by_cases z:c=(i:Nat)
  ·exact ifF (by rw[decide_eq_true z];rfl) (c8 (q0 c hc z))
  ·refine ifT (by rw[decide_eq_false z];rfl) ?_;have hl':(psS ps).length<100000:=by unfold psS;rw[Ur];omega
   refine⟨_,rfl,⟨l,_,rfl,hl⟩,_,rfl,_,rfl,by show 2<=100000;decide,_,hl,hl',?_⟩;have q:=q1 c hc z;unfold psS at q ⊢;rw[VO]at q;exact c8 (Δ:=Δ) q
 ·refine⟨_,rfl,_,rfl,_,rfl,?_⟩;show if (!decide (((i:Nat):Int)=((i:Nat):Int)))=true then _ else _
  exact ifF (by rw[decide_eq_true rfl];rfl) (c8 (q2 hc))
def Hd(s:Sn):Prop:=∀{n:Nat} {es:EE} {x:SV} {xs:List SV} {S:Sto} {Q:QE},(∀ e∈es,e.1<e.2/\e.2<n)->es.length<=60->SeqV S x xs->xs.length=es.length->(∀ y∈xs,y = .non\/∃ h:Int,y = .int h)->(∀(v:SV) (S':Sto),Gw S S'->(Ax v=true↔PropS es xs es.length)->Q v S')->s [f7 n es,x] S Q
theorem KG(hΔ:∀ f,MonoN (Δ f)){D:Df}(hb:D.body=N6)(hN:D.N.length=9)(hp:D.ps.length=2):Hd (f6 Δ D):=by
 intro n es x xs S Q W hel V hlen hit q;unfold f6;rw[hb,hN];refine⟨hp.symm,by show 0<=100000;decide,_,rfl,_,_,rfl,rfl,_,rfl,?_⟩;have hm0:((S++[SO.dtp []])++[SO.lst []])[S.length]?=some (.dtp []):=c7 c6;have hl0:((S++[SO.dtp []])++[SO.lst []])[(S++[SO.dtp []]).length]?=some (.lst []):=c6;have ll:(S++[SO.dtp []]).length=S.length+1:=by simp
 rw[ll]at hl0;have lw:((S++[SO.dtp []])++[SO.lst []]).length=S.length+2:=by simp
 have G0:Gw S ((S++[SO.dtp []])++[SO.lst []]):=(Gw.refl S).push.push;show v5 _ _ _ _ _ [some (f7 n es),some x,some (.loc S.length),some (.loc (S++[SO.dtp []]).length),none,none,none,none,none] _;rw[ll]
 refine Aa (g6 hΔ _) (λi ρ S2=>∃(o4 o5 o6 o7 o8:Option SV) (kvs:List ((Int×Int)×Int)) (ps:List (Int×Int)),ρ=[some (f7 n es),some x,some (.loc S.length),some (.loc (S.length+1)),o4,o5,o6,o7,o8]/\Gw S S2/\S2[S.length]?=some (.dtp kvs)/\S2[S.length+1]?=some (.lst (psS ps))/\DictI es xs i kvs/\(ps=[]↔PropS es xs i)/\kvs.length<=2 * i/\ps.length<=2 * i)
  ⟨_,_,_,_,_,[],[],rfl,G0,hm0,hl0,⟨λp h n e=>(by cases e),λt p h ht=>absurd ht (Wj _)⟩,⟨λ_ i j h _ hj=>absurd hj (Wj _),λ_=>rfl⟩,Ux _,Ux _⟩ (λ_ _ _ _=>trivial) ?_ ?_
 ·rintro i z ρ S2 E hE hrt hz ⟨o4,o5,o6,o7,o8,kvs,ps,rfl,G2,hm,hl,DI,PI,hk,hps⟩;obtain⟨y,hy,rfl⟩:=DM hz;obtain⟨e,he,rfl⟩:=Ar hy;have hi:=(gM he).1;have hv:=Uq (show i<xs.length by omega);have mv:=Vm (show i<xs.length by omega);generalize xs[i]=v at *;have lw2:S.length+2<=S2.length:=by have:=(gM hl).1;omega
  refine⟨_,rfl,_,rfl,_,_,V.seq S2 G2,e7 hv,?_⟩
  have te:AV es i=e:=by
   have:=Co hi;rw[he]at this;exact(oj this).symm
  have en:∀ p,endE es i p↔(False\/p=e.1)\/p=e.2:=λp=>by unfold endE;rw[te,false_or]
  have ne:e.1≠e.2:=V4 (W e (Us he)).1;rcases hit v mv with rfl | ⟨h,rfl⟩
  ·obtain⟨D2,P2⟩:=DI.skip PI hv;exact⟨_,rfl,.inl ⟨rfl,_,rfl,ifF rfl (c8 (hE _ _ ⟨_,_,_,_,_,kvs,ps,rfl,G2,hm,hl,D2,P2,by omega,by omega⟩))⟩⟩
  refine⟨_,rfl,.inl ⟨rfl,_,rfl,ifT rfl ⟨_,rfl,_,rfl,trivial,?_⟩⟩⟩;have J0:=DJ.first (h:=h) DI PI
  have key:∀(kv1:List ((Int×Int)×Int)) (ps1:List (Int×Int)) (S3:Sto) (o8:Option SV),Gw S S3->S3[S.length]?=some (.dtp kv1)->S3[S.length+1]?=some (.lst (psS ps1))->kv1.length<=2 * i+1->ps1.length<=2 * i+1->DJ es xs i h (λq=>False\/q=e.1) kv1 ps1->
   v5 (keepS (pairS e) S2) (.nm 7) (wSs Δ [(.asg (.nm 8) (.setd (.var 2) (.tup (.cons (.var 7) (.cons (.var 6) .nil))) (.var 4))),(.iff (.cmp .NotEq (.var 8) (.var 4)) [(.expr (.mt .append (.var 3) (.cons (.tup (.cons (.var 8) (.cons (.var 4) .nil))) .nil)))] [])]) {nx:=wSs Δ [] E,rt:=E.rt,bk:=E.bk,ct:=E.ct} [.int (e.2:Nat)] [some (f7 n es),some x,some (.loc S.length),some (.loc (S.length+1)),some (.int (i:Nat)),some (pairS e),some (.int h),some (.int (e.1:Nat)),o8] S3:=by
   intro kv1 ps1 S3 o8 G3 m3 l3 k3 p3 J;refine⟨trivial,?_⟩;refine EJ m3 l3 (by omega) (by omega) (λc hc z=>absurd z (J.found hv (by rintro(z | z);exact z;exact ne z.symm) hc).1) (λc hc z=>?_) (λhc=>?_)
   ·obtain⟨D2,P2⟩:=(J.found hv (by rintro(z | z);exact z;exact ne z.symm) hc).2.last hv en;exact⟨trivial,c8 (Δ:=Δ) (hE _ _ ⟨_,_,_,_,_,kv1,_,rfl,G3.put (by omega),by rw[j5 (by omega)];exact m3,V6 (by have:=(gM l3).1;omega),D2,P2,by omega,by rw[Ut,Vp];omega⟩)⟩
   ·obtain⟨D2,P2⟩:=(J.new hv ((en e.2).mpr (.inr rfl)) hc).last hv en;exact⟨trivial,c8 (Δ:=Δ) (hE _ _ ⟨_,_,_,_,_,_,ps1,rfl,G3.put (by omega),V6 (by have:=(gM m3).1;omega),by rw[j5 (by omega)];exact l3,D2,P2,by rw[Ut,Vp];omega,by omega⟩)⟩
  refine EJ hm hl (by omega) (by omega) (λc hc z=>absurd z (J0.found hv id hc).1) (λc hc z=>?_) (λhc=>?_)
  ·exact key kvs _ _ _ (G2.put (by omega)) (by rw[j5 (by omega)];exact hm) (V6 (by omega)) (by omega) (by rw[Ut,Vp];omega) (J0.found hv id hc).2
  ·exact key _ ps _ _ (G2.put (by omega)) (V6 (by omega)) (by rw[j5 (by omega)];exact hl) (by rw[Ut,Vp];omega) (by omega) (J0.new hv ((en e.1).mpr (.inl (.inr rfl))) hc)
 ·rintro ρ S2 ⟨o4,o5,o6,o7,o8,kvs,ps,rfl,G2,hm,hl,DI,PI,hk,hps⟩;rw[Cn,Ur]at PI;refine⟨_,rfl,S.length+1,ps,rfl,rfl,hl,λe=>q .non S2 G2 ⟨λ_=>PI.mp e,λ_=>rfl⟩,λp hp=>q _ S2 G2 ⟨nofun,λh=>?_⟩⟩;rw[PI.mpr h]at hp;cases hp
end
def okH(y:SV):Bool:=Ax y||PX y
theorem N7{y:SV}(h:okH y=true):y = .non\/∃ g:Int,y = .int g/\0<=g:=by
 cases y with
 | non=>exact .inl rfl
 | int i=>exact .inr ⟨i,rfl,of_decide_eq_true h⟩
 | _=>cases h
theorem QT{y:SV}(h:y = .non\/∃ g:Int,y = .int g/\0<=g):okH y=true:=by
 rcases h with rfl | ⟨g,rfl,h⟩
 ·rfl
 ·exact decide_eq_true h
def HuP(es:EE)(xs:List SV):Prop:=xs.length=es.length/\(∀ y∈xs,okH y=true)/\PropS es xs es.length
theorem all_at{f:SV->Bool}{xs:List SV}:(∀ i,i<xs.length->f (xs.getD i .non)=true)↔∀ y∈xs,f y=true:=by
 constructor
 ·intro h y hy;obtain⟨i,hi,rfl⟩:=Xd hy;have:=h i hi
  rwa [V1,Uq hi]at this
 ·intro h i hi;rw[V1,Uq hi];exact h _ (Vm hi)
section
variable{Δ:Nat->Sn}
def QU(kn:Nat):List Stm:=[(.ret (.and (.call kn (.cons (.var 0) .nil)) (.cmp .GtE (.var 0) (.c (.int 0)))))]
def N8(s:Sn):Prop:=∀{x:SV} {S:Sto} {k b:Nat} {Q:QE},Gd (VS S) k b x->Q (.bl (PX x)) S->s [x] S Q
theorem PY{kn:Nat}(hn:SW (Δ kn)){D:Df}(hb:D.body=QU kn)(hN:D.N.length=1)(hp:D.ps.length=1):N8 (f6 Δ D):=by
 intro x S k b Q h q;unfold f6;rw[hb,hN];refine⟨hp.symm,_,rfl,hn h ⟨_,rfl,?_⟩⟩;cases x with
 | int i=>exact ifT rfl ⟨_,rfl,q⟩
 | _=>exact ifF rfl q
def hg1(kl:Nat):Stm:=(.iff (.or (.not (.call kl (.cons (.var 1) .nil))) (.cmp .NotEq (.bi .len (.cons (.var 1) .nil)) (.bi .len (.cons (.ix (.var 0) (.c (.int 1))) .nil)))) [(.ret (.c (.bl false)))] [])
def hg2(kh:Nat):Stm:=(.iff (.not (.bi .all (.cons (.comp ["item"] [] [] (.nm 0) (.seq (.var 1)) .no (.or (.cmp .Is (.var 0) (.c .non)) (.call kh (.cons (.var 0) .nil)))) .nil))) [(.ret (.c (.bl false)))] [])
def hg3(kc:Nat):Stm:=(.ret (.cmp .Is (.call kc (.cons (.var 0) (.cons (.var 1) .nil))) (.c .non)))
def Iu(kl kh kc:Nat):List Stm:=[hg1 kl,hg2 kh,hg3 kc]
def Ab(s:Sn):Prop:=∀{n k b:Nat} {es:EE} {x:SV} {S:Sto} {Q:QE},(∀ e∈es,e.1<e.2/\e.2<n)->es.length<=60->Gd (VS S) k b x->(∀(r:Bool) (S':Sto),Gw S S'->(r=true↔∃ xs,seqS x S=some xs/\HuP es xs)->Q (.bl r) S')->s [f7 n es,x] S Q
theorem He(hΔ:∀ f,MonoN (Δ f)){kl kh kc:Nat}(hl:SX (Δ kl))(hh:N8 (Δ kh))(hc:Hd (Δ kc)){D:Df}(hb:D.body=Iu kl kh kc)(hN:D.N.length=2)(hp:D.ps.length=2):Ab (f6 Δ D):=by
 intro n k b es x S Q W hel hx q;unfold f6;rw[hb,hN];refine⟨hp.symm,_,rfl,hl hx ?_⟩;rcases hx.split with⟨e,no⟩ | ⟨xs,V⟩
 ·rw[e];exact⟨_,rfl,ifT rfl (q false S (Gw.refl S) ⟨nofun,λ⟨xs,z,_⟩=>absurd z (no _)⟩)⟩
 rw[V.ls];have s0:=V.seq S (Gw.refl S);have hxl:=V.len;obtain⟨k',b',hg⟩:=V.gd;have no:∀ S',Gw S S'->¬ HuP es xs->Q (.bl false) S':=λS' G h=>q false S' G ⟨nofun,λ⟨ys,e,z⟩=>by rw[s0]at e;cases e;exact absurd z h⟩;refine⟨_,rfl,ifF rfl ⟨_,rfl,_,s0,_,rfl,_,_,rfl,rfl,_,rfl,_,rfl,?_⟩⟩;show if (!decide ((xs.length:Int)=((es.map pairS).length:Nat)))=true then _ else _
 rw[Ur];by_cases zl:xs.length=es.length
 case neg=>exact ifT (by rw[decide_eq_false (λy=>zl (Vk.mp y))];rfl) (no S (Gw.refl S) λh=>zl h.1)
 refine ifF (by rw[decide_eq_true (show((xs.length:Nat):Int)=(es.length:Nat) by rw[zl])];rfl) (c8 ?_);refine⟨_,rfl,_,s0,?_⟩;refine N4 hΔ (λi=>okH (xs.getD i .non)) (by omega) (λS' G=>V.keep S S' (Gw.refl S) G) ?_ ?_
 ·intro i y S' hy G;have ey:xs.getD i .non=y:=by rw[V1,hy];rfl
  rw[ey];refine⟨_,rfl,.inl ⟨rfl,_,rfl,?_⟩⟩;cases y with
  | non=>exact ifT rfl ⟨rfl,G⟩
  | _=>exact ifF rfl ⟨_,rfl,hh ((hg _ (Us hy)).grow G) ⟨rfl,G⟩⟩
 intro S2 G2;have G3:=G2.push (o:=SO.lst ((Uy xs.length).map λi => .bl (okH (xs.getD i .non))));refine⟨_,_,nofun,a7 c6,PU _ _,_,rfl,?_⟩;generalize S2++[SO.lst ((Uy xs.length).map λi => .bl (okH (xs.getD i .non)))]=S3 at *;by_cases hA:((Uy xs.length).map λi=>okH (xs.getD i .non)).all id=true
 case neg=>
  rw[Xm.mpr hA];exact ifT rfl (no S3 G3 λh=>hA (all_mapF.mpr (all_at.mpr h.2.1)))
 rw[hA];have ok:=all_at.mp (all_mapF.mp hA);refine ifF rfl (c8 ?_);refine⟨_,rfl,_,rfl,hc W hel ⟨λS' G=>V.seq S' (G3.trans G),λS1 S' G1 G=>V.keep S1 S' (G3.trans G1) (G3.trans G),hxl,⟨k',b',λy hy=>(hg y hy).grow G3⟩,V.ls⟩ zl (λy hy=>(N7 (ok y hy)).imp id λ⟨g,e,_⟩=>⟨g,e⟩) λv S' G ev => .inl ⟨rfl,q _ S' (G3.trans G) ?_⟩⟩;show Ax v=true↔_;rw[ev];exact⟨λh=>⟨xs,s0,zl,ok,h⟩,λ⟨ys,e,h⟩=>by rw[s0]at e;cases e;exact h.2.2⟩
end
def SY:Option Nat->SV
 | none => .non
 | some t => .int (t:Nat)
theorem Iv{P:Nat->Bool}:∀{ts:List Nat} {j t:Nat},ts[j]?=some t->P t=true->(∀ u∈ts.take j,P u=false)->ts.find? P=some t
 | [],_,_,h,_,_=>by simp at h
 | s::ts,0,t,h,hp,_=>by simp at h;subst h;rw[Vd,hp]
 | s::ts,j+1,t,h,hp,hn=>by
   rw[Vd,hn s (by simp)];exact Iv (by simpa using h) hp λu hu'=>hn u (by simp[hu'])
theorem AT{cs:List Nat}{t:Nat}(h:t<cs.length):cs[t]?=some (hu cs t):=by
 rw[Uq h];show _=some (cs.getD t 0);rw[V1,Uq h];rfl
section
variable{Δ:Nat->Sn}
def QV(kt:Nat):List Stm:=[(.loop (.nm 4) (.seq (.call kt (.cons (.var 0) (.cons (.var 2) .nil)))) [(.iff (.cmp .Eq (.ix (.var 1) (.var 4)) (.var 3)) [(.ret (.var 4))] [])]),(.ret (.c .non))]
def Iw:List Stm:=[(.iff (.cmp .Eq (.var 0) (.var 1)) [.no] [])]
def C5(s:Sn):Prop:=∀{a b:Nat} {S:Sto} {Q:QE},a≠b->Q .non S->s [.int (a:Nat),.int (b:Nat)] S Q
theorem KH{D:Df}(hb:D.body=Iw)(hN:D.N.length=2)(hp:D.ps.length=2):C5 (f6 Δ D):=by
 intro a b S Q ab q;unfold f6;rw[hb,hN];refine⟨hp.symm,_,rfl,_,rfl,_,rfl,?_⟩;exact ifF (decide_eq_false λz=>ab (Vk.mp z)) q
def rf4(kf kh:Nat):Stm:=(.whl (.cmp .IsNot (.var 6) (.c .non)) [(.expr (.mt .append (.var 5) (.cons (.var 6) .nil))),(.asg (.nm 2) (.call kf (.cons (.var 0) (.cons (.var 6) (.cons (.var 2) .nil))))),(.par 3 4 (.var 4) (.var 3)),(.asg (.nm 6) (.call kh (.cons (.var 0) (.cons (.var 1) (.cons (.var 2) (.cons (.var 3) .nil))))))])
def rf1(kc ku kh:Nat):List Stm:=[(.expr (.call kc (.cons (.var 0) (.cons (.var 2) .nil)))),(.expr (.call ku (.cons (.var 3) (.cons (.var 4) .nil)))),(.iff (.cmp .IsNot (.call kh (.cons (.var 0) (.cons (.var 1) (.cons (.var 2) (.cons (.var 4) .nil))))) (.c .non)) [.no] []),(.asg (.nm 5) (.lst .nil)),(.asg (.nm 6) (.call kh (.cons (.var 0) (.cons (.var 1) (.cons (.var 2) (.cons (.var 3) .nil))))))]
def QW(kc ku kh kf:Nat):List Stm:=rf1 kc ku kh++[rf4 kf kh,(.ret (.var 5))]
theorem Ix{es:EE}{cs:List Nat}{x h:Nat}(z:∀ u,AtP es u x->hu cs u≠h):m9 es cs x h=none:=by
 unfold m9;rw[XE];intro u hu' y;exact z u (mem_tiesAt.mp hu') (of_decide_eq_true y)
def ec2(kt:Nat):Stm:=(.loop (.nm 6) (.seq (.var 2)) [(.iff (.or (.not (.call kt (.cons (.var 0) (.cons (.var 6) .nil)))) (.cmp .NotIn (.ix (.var 1) (.var 6)) (.tup (.cons (.var 3) (.cons (.var 4) .nil))))) [.no] []),(.put (.var 5) (.var 6) (.ife (.cmp .Eq (.ix (.var 1) (.var 6)) (.var 3)) (.var 4) (.var 3)))])
def QX(ku kt ki:Nat):List Stm:=[(.expr (.call ku (.cons (.var 3) (.cons (.var 4) .nil)))),(.asg (.nm 5) (.bi .list (.cons (.var 1) .nil))),ec2 kt,(.iff (.not (.call ki (.cons (.var 0) (.cons (.var 5) .nil)))) [.no] []),(.ret (.var 5))]
theorem Iy(cs:List Nat)(a b:Nat):exL cs [] a b=cs:=by
 conv=>rhs;rw[<-SU cs]
 unfold exL;exact X5 λt _=>by simp
theorem GH{cs r:List Nat}{a b t:Nat}(ht:t<cs.length):exL cs (r++[t]) a b=(exL cs r a b).set t (if hu cs t=a then b else a):=by
 apply Wm;intro i;by_cases hi:i<cs.length
 ·have g1:(exL cs (r++[t]) a b)[i]?=some (hu (exL cs (r++[t]) a b) i):=AT (by rw[A9];exact hi);rw[g1,Bp hi];by_cases e:i=t
  ·subst e;rw[V6 (by rw[A9];exact hi),iP (by simp)]
  ·rw[VR (Ne.symm e),AT (by rw[A9];exact hi),Bp hi]
   congr 1
   have:i∈r++[t]↔i∈r:=by simp[e]
   by_cases z:i∈r
   ·rw[iP z,iP (this.mpr z)]
   ·rw[iG z,iG (λy=>z (this.mp y))]
 ·rw[Vy (by rw[A9];omega),Vy (by rw[VH,A9];omega)]
def ar1(kh:Nat):Stm:=(.iff (.or (.not (.call kh (.cons (.var 3) .nil))) (.not (.call kh (.cons (.var 4) .nil)))) [(.ret (.c .non))] [])
def QY(kh kr kx:Nat):List Stm:=[ar1 kh,(.tri [(.ret (.call kx (.cons (.var 0) (.cons (.var 1) (.cons (.call kr (.cons (.var 0) (.cons (.var 1) (.cons (.var 2) (.cons (.var 3) (.cons (.var 4) .nil)))))) (.cons (.var 3) (.cons (.var 4) .nil)))))))])]
def as1:Stm:=(.iff (.or (.not (.bi .isi (.cons (.var 2) (.cons (.tyc .tuple) .nil)))) (.not (.var 2))) [(.ret (.c .non))] [])
def as2:Stm:=(.asg (.nm 3) (.ix (.var 2) (.c (.int 0))))
def as3(w:Str)(n:Int)(e:Ex):Stm:=(.iff (.and (.cmp .Eq (.var 3) (.c (.str w))) (.cmp .Eq (.bi .len (.cons (.var 2) .nil)) (.c (.int n)))) [(.ret e)] [])
noncomputable def N9(kh kd km kr:Nat):List Stm:=[as1,as2,as3 "hue" 3 (.call kh (.cons (.var 0) (.cons (.var 1) (.cons (.ix (.var 2) (.c (.int 1))) (.cons (.ix (.var 2) (.c (.int 2))) .nil))))),as3 "drop" 2 (.call kd (.cons (.var 0) (.cons (.var 1) (.cons (.ix (.var 2) (.c (.int 1))) .nil)))),as3 "move" 3 (.call km (.cons (.var 0) (.cons (.var 1) (.cons (.ix (.var 2) (.c (.int 1))) (.cons (.ix (.var 2) (.c (.int 2))) .nil))))),as3 "row" 4 (.call kr (.cons (.var 0) (.cons (.var 1) (.cons (.ix (.var 2) (.c (.int 1))) (.cons (.ix (.var 2) (.c (.int 2))) (.cons (.ix (.var 2) (.c (.int 3))) .nil)))))),(.ret (.c .non))]
end
theorem PZ{ns:List Int}{x:Int}:x∈srt ns↔x∈ns:=by unfold srt;exact List.mem_mergeSort
theorem SZ(x:Int)(ns:List Int):inS (.int x) (ns.map SV.int)=decide (x∈ns):=by
 rw[Vj,dQ];unfold inS;rw[Xk,We];constructor
 ·rintro⟨a,ha,h⟩;have h:(a == x)=true:=h;rw[beq_iff_eq]at h;rw[<-h];exact ha
 ·intro h;exact⟨x,h,by show(x == x)=true;simp⟩
theorem NA(ns:List Int):(ns.map SV.int).all v4=true:=by
 rw[XQ,VC];intro _ _;rfl
section
variable{Δ:Nat->Sn}
def Iz(kt:Nat):List Stm:=[(.ret (.bi .sorted (.cons (.comp ["tie"] ["hueing"] [1] (.nm 0) (.seq (.call kt (.cons (.var 0) (.cons (.var 2) .nil)))) (.yes (.cmp .IsNot (.ix (.var 1) (.var 0)) (.c .non))) (.ix (.var 1) (.var 0))) .nil)))]
def lh1:Stm:=(.iff (.or (.not (.bi .isi (.cons (.var 1) (.cons (.tup (.cons (.tyc .list) (.cons (.tyc .tuple) .nil))) .nil)))) (.cmp .NotEq (.bi .len (.cons (.var 1) .nil)) (.bi .len (.cons (.ix (.var 0) (.c (.int 1))) .nil)))) [(.ret (.c (.bl false)))] [])
def lh2:Stm:=(.iff (.and (.cmp .IsNot (.var 3) (.c .non)) (.or (.not (.bi .isi (.cons (.var 3) (.cons (.tyc .int) .nil)))) (.or (.bi .isi (.cons (.var 3) (.cons (.tyc .bool) .nil))) (.cmp .Lt (.var 3) (.c (.int 0)))))) [(.ret (.c (.bl false)))] [])
def lh3(km:Nat):Stm:=(.loop (.nm 4) (.rng1 (.var 2)) [(.iff (.and (.cmp .IsNot (.var 3) (.c .non)) (.and (.cmp .Eq (.ix (.var 1) (.var 4)) (.var 3)) (.call km (.cons (.var 0) (.cons (.var 4) (.cons (.var 2) .nil)))))) [(.ret (.c (.bl false)))] [])])
def GI(km:Nat):List Stm:=[lh1,(.loop (.tup (.cons (.nm 2) (.cons (.nm 3) .nil))) (.enum (.var 1)) [lh2,lh3 km]),(.ret (.c (.bl true)))]
theorem Gd.isLs{S:Sto}{k b:Nat}{x:SV}(h:Gd (VS S) k b x):∃ t,tyS x S=some t/\[TyN.list,.tuple].any (FQ t)=isL x:=by
 cases h with
 | lst hv _ _ _=>exact⟨_,CN hv,rfl⟩
 | _=>exact⟨_,rfl,rfl⟩
theorem Sa{n i:Nat}{es:EE}{x y:SV}{S:Sto}{k b:Nat}{D:EndsS}{o4:Option SV}(hy:Gd (VS S) k b y)(q1:okH y=true->D.nx [some (f7 n es),some x,some (.int (i:Nat)),some y,o4] S)(q0:okH y=false->D.rt (.bl false) S):
 wSt Δ lh2 D [some (f7 n es),some x,some (.int (i:Nat)),some y,o4] S:=by
 refine⟨_,rfl,.inl ⟨rfl,_,rfl,?_⟩⟩;cases hy with
 | non=>exact ifF rfl (ifF rfl (c8 (Δ:=Δ) (q1 rfl)))
 | bl c=>exact ifT rfl ⟨_,rfl,_,nofun,rfl,_,rfl,ifF rfl ⟨_,rfl,_,nofun,rfl,_,rfl,ifT rfl (q0 rfl)⟩⟩
 | @int _ _ g h=>
   refine ifT rfl ⟨_,rfl,_,nofun,rfl,_,rfl,ifF rfl ⟨_,rfl,_,nofun,rfl,_,rfl,ifF rfl ⟨_,rfl,_,rfl,?_⟩⟩⟩;refine ifD (λz=>q0 (decide_eq_false (show ¬ (0:Int)<=g from by have z:g<0:=z;omega))) (λz=>c8 (Δ:=Δ) (q1 (decide_eq_true (show(0:Int)<=g from by have z:¬ g<0:=z;omega))))
 | str h hb'=>exact ifT rfl ⟨_,rfl,_,nofun,rfl,_,rfl,ifT rfl (q0 rfl)⟩
 | tup h hl hc=>exact ifT rfl ⟨_,rfl,_,nofun,rfl,_,rfl,ifT rfl (q0 rfl)⟩
 | lst hv h hl hc=>exact ifT rfl ⟨_,rfl,_,nofun,CN hv,_,rfl,ifT rfl (q0 rfl)⟩
theorem Sc(hΔ:∀ f,MonoN (Δ f)){km:Nat}(hm:Iq (Δ km)){n i:Nat}{es:EE}{x y:SV}{xs:List SV}{S:Sto}{D:EndsS}{o4:Option SV}(s0:seqS x S=some xs)(hi:i<es.length)(hl:xs.length=es.length)(hel:es.length<=60)(hy:xs[i]?=some y)(oy:okH y=true)(ok:∀(j:Nat) (z:SV),j<i->xs[j]?=some z->okH z=true)
 (q1:∀ o4:Option SV,(∀(j:Nat) (g:Int),j<i->xs[j]?=some (.int g)->y = .int g->¬ Shr es j i)->D.nx [some (f7 n es),some x,some (.int (i:Nat)),some y,o4] S) (q0:∀(j:Nat) (g:Int),j<i->xs[j]?=some (.int g)->y = .int g->Shr es j i->D.rt (.bl false) S):
 wSt Δ (lh3 km) D [some (f7 n es),some x,some (.int (i:Nat)),some y,o4] S:=by
 refine⟨_,rfl,((i:Nat):Int),rfl,⟨by omega,by omega⟩,?_⟩;refine Aa (g6 hΔ _) (λk ρ S2=>∃ o4:Option SV,ρ=[some (f7 n es),some x,some (.int (i:Nat)),some y,o4]/\S2=S/\∀(j:Nat) (g:Int),j<k->xs[j]?=some (.int g)->y = .int g->¬ Shr es j i) ⟨_,rfl,rfl,λj g hj=>absurd hj (Wj _)⟩ (λ_ _ _ _=>trivial) ?_ ?_
 ·rintro k z ρ S2 E hE hrt hz ⟨o4,rfl,rfl,al⟩;have hk:k<i:=by have:=(gM hz).1;rw[m4]at this;omega
  obtain⟨rfl,_⟩:=v7 hz;rw[Wa];have hv:=Uq (show k<xs.length by omega);have ov:=ok k _ hk hv;generalize xs[k]=v at *
  have next:(∀ g:Int,v = .int g->y = .int g->¬ Shr es k i)->∀(j:Nat) (g:Int),j<k+1->xs[j]?=some (.int g)->y = .int g->¬ Shr es j i:=λf j g hj hx e=>by
   rcases W8 j k with w | w
   ·exact al j g w hx e
   ·have:j=k:=by omega
    subst this;rw[hv]at hx;cases hx;exact f g rfl e
  refine⟨_,rfl,.inl ⟨rfl,_,rfl,?_⟩⟩;rcases N7 oy with rfl | ⟨g,rfl,_⟩
  ·exact ifF rfl (ifF rfl (c8 (Δ:=Δ) (hE _ _ ⟨_,rfl,rfl,next λg _ e=>by cases e⟩)))
  refine ifT rfl ⟨_,rfl,_,rfl,_,_,s0,e7 hv,_,rfl,?_⟩;rcases N7 ov with rfl | ⟨g',rfl,_⟩
  ·exact⟨_,rfl,ifF rfl (ifF rfl (c8 (Δ:=Δ) (hE _ _ ⟨_,rfl,rfl,next λg e _=>by cases e⟩)))⟩
  refine⟨_,rfl,?_⟩;show if decide (g'=g)=true then _ else _
  refine ifD (λe=>?_) (λe=>ifF rfl (c8 (Δ:=Δ) (hE _ _ ⟨_,rfl,rfl,next λg1 e1 e2=>by injection e1 with e1;injection e2 with e2;exact absurd (e1.trans e2.symm) e⟩)));have e:g'=g:=e;subst e;refine⟨_,rfl,_,rfl,_,rfl,hm (by omega) hi λv ev=>⟨_,rfl,?_⟩⟩;cases v with
  | true=>exact ifT rfl (hrt _ _ (q0 k g' hk hv rfl (ev.mp rfl)))
  | false=>exact ifF rfl (c8 (Δ:=Δ) (hE _ _ ⟨_,rfl,rfl,next λg1 _ _ sh=>Xs (ev.mpr sh)⟩))
 ·rintro ρ S2 ⟨o4,rfl,rfl,al⟩;have e:(CI 0 ((i:Nat):Int)).length=i:=by rw[m4];omega
  rw[e]at al;exact q1 o4 al
theorem Hf(hΔ:∀ f,MonoN (Δ f)){km:Nat}(hm:Iq (Δ km)){D:Df}(hb:D.body=GI km)(hN:D.N.length=5)(hp:D.ps.length=2):Ab (f6 Δ D):=by
 intro n k b es x S Q W hel hx q;unfold f6;rw[hb,hN];obtain⟨ty,e1,e2⟩:=hx.isLs;refine⟨hp.symm,_,rfl,by show 2<=100000;decide,_,[.list,.tuple],by decide,e1,rfl,_,rfl,?_⟩;rw[e2];rcases hx.split with⟨e,no⟩ | ⟨xs,V⟩
 ·rw[e];exact ifT rfl (q false S (Gw.refl S) ⟨nofun,λ⟨xs,z,_⟩=>absurd z (no _)⟩)
 rw[V.ls];have s0:=V.seq S (Gw.refl S);have hxl:=V.len;obtain⟨k',b',hg⟩:=V.gd;have no:¬ HuP es xs->Q (.bl false) S:=λh=>q false S (Gw.refl S) ⟨nofun,λ⟨ys,e,z⟩=>by rw[s0]at e;cases e;exact absurd z h⟩;refine ifF rfl ⟨_,rfl,_,s0,_,rfl,_,_,rfl,rfl,_,rfl,_,rfl,?_⟩;show if (!decide ((xs.length:Int)=((es.map pairS).length:Nat)))=true then _ else _
 rw[Ur];by_cases zl:xs.length=es.length
 case neg=>exact ifT (by rw[decide_eq_false (λy=>zl (Vk.mp y))];rfl) (no λh=>zl h.1)
 refine ifF (by rw[decide_eq_true (show((xs.length:Nat):Int)=(es.length:Nat) by rw[zl])];rfl) (c8 ?_);refine⟨_,rfl,_,s0,?_⟩;refine Aa (g6 hΔ _) (λi ρ S2=>∃ o2 o3 o4:Option SV,ρ=[some (f7 n es),some x,o2,o3,o4]/\S2=S/\(∀(j:Nat) (z:SV),j<i->xs[j]?=some z->okH z=true)/\PropS es xs i) ⟨_,_,_,rfl,rfl,λj z hj=>absurd hj (Wj _),λa b g _ hb=>absurd hb (Wj _)⟩ (λ_ _ S2 z=>by obtain⟨_,_,_,_,rfl,_⟩:=z;exact V.keep S2 S2 (Gw.refl _) (Gw.refl _)) ?_ ?_
 ·rintro i z ρ S2 E hE hrt hz ⟨o2,o3,o4,rfl,rfl,ok,pr⟩;obtain⟨y,hy,rfl⟩:=DM hz;have hi:i<es.length:=by rw[<-zl];exact(gM hy).1
  refine Sa (hg y (Us hy)) (λoy=>?_) (λoy=>hrt _ _ (no λh=>by rw[h.2.1 y (Us hy)]at oy;cases oy));refine Sc hΔ hm s0 hi zl hel hy oy ok (λo4 al=>c8 (Δ:=Δ) (hE _ _ ⟨_,_,_,rfl,rfl,λj z hj hz2=>?_,λa b g hab hb ha hb'=>?_⟩)) (λj g hj hx e sh=>hrt _ _ (no λh=>h.2.2 j i g hj hi hx (by rw[hy,e]) sh))
  ·rcases W8 j i with w | w
   ·exact ok j z w hz2
   ·have:j=i:=by omega
    subst this;rw[hy]at hz2;cases hz2;exact oy
  ·rcases W8 b i with w | w
   ·exact pr a b g hab w ha hb'
   ·have:b=i:=by omega
    subst this;rw[hy]at hb';exact al a g hab ha (oj hb')
 ·rintro ρ S2 ⟨o2,o3,o4,rfl,rfl,ok,pr⟩;rw[Cn]at ok pr;refine q true S2 (Gw.refl _) ⟨λ_=>⟨xs,s0,zl,λy hy=>?_,by rw[<-zl];exact pr⟩,λ_=>rfl⟩;obtain⟨j,hj,rfl⟩:=Xd hy;exact ok j _ hj (Uq hj)
end
theorem NB{m:Nat}{g:Nat->Nat}{t:Nat}(h:t<m):hu ((Uy m).map g) t=g t:=by
 show((Uy m).map g).getD t 0=g t;rw[V1,Uz,Vu h];rfl
section
variable{Δ:Nat->Sn}
theorem NC{α:Type}(x:α)(m:Nat):(Uv m [x]).flatten=(Uy m).map λ_=>x:=by
 refine Wm λk=>?_
 induction m generalizing k with
 | zero=>rfl
 | succ m ih=>
   rw[VQ,Vv,List.range_succ_eq_map,VP,Xl];cases k with
   | zero=>rfl
   | succ k=>exact ih k
theorem ND{f:Nat->Bool}{m t:Nat}(ht:t<m)(hf:f t=true)(un:∀ u,u<m->f u=true->u=t):(Uy m).filter f=[t]:=by
 have nd:((Uy m).filter f).Nodup:=Xv.filter _
 have mem:∀ u,u∈(Uy m).filter f↔u=t:=λu=>by
  rw[Vi,VG];exact⟨λz=>un u z.1 z.2,λz=>by subst z;exact⟨ht,hf⟩⟩
 match h:(Uy m).filter f with
 | []=>rw[h]at mem;exact absurd ((mem t).mpr rfl) (by simp)
 | [a]=>rw[h]at mem;rw[(mem a).mp (by simp)]
 | a::b::l=>
   rw[h]at mem nd;have e1:=(mem a).mp (by simp);have e2:=(mem b).mp (by simp);subst e1;subst e2;simp at nd
theorem J1(n:Nat):blS (Uv n (.bl false))=some (Uv n false):=by
 induction n with
 | zero=>rfl
 | succ n ih=>rw[VQ,VQ];simp[blS,ih]
def J2(ka:Nat):List Stm:=[(.asg (.nm 3) (.lst .nil)),(.asg (.nm 4) (.var 1)),(.loop (.tup (.cons (.nm 5) (.cons (.nm 6) .nil))) (.enum (.var 2)) [(.asg (.nm 4) (.call ka (.cons (.var 0) (.cons (.var 4) (.cons (.var 6) .nil))))),(.iff (.cmp .Is (.var 4) (.c .non)) [.no] []),(.expr (.mt .append (.var 3) (.cons (.var 4) .nil)))]),(.ret (.var 3))]
end
def pS(c:Nat):SV:=if c<1000 then .int (c:Nat) else .non
def e6(cs:List Nat):List SV:=cs.map pS
theorem y4{c:Nat}(h:c<1000):pS c = .int (c:Nat):=iP h
theorem Av{c:Nat}(h:¬ c<1000):pS c = .non:=iG h
theorem n8{cs:List Nat}:(e6 cs).length=cs.length:=by unfold e6;rw[Ur]
theorem AA{cs:List Nat}{i c:Nat}(h:cs[i]?=some c):(e6 cs)[i]?=some (pS c):=by unfold e6;rw[Uz,h];rfl
theorem J3{cs:List Nat}{i:Nat}{x:SV}(h:(e6 cs)[i]?=some x):∃ c,cs[i]?=some c/\x=pS c:=by
 unfold e6 at h;rw[Uz]at h;cases he:cs[i]? with
 | none=>rw[he]at h;cases h
 | some e=>rw[he]at h;exact⟨e,rfl,(oj h).symm⟩
theorem QZ{c h:Nat}(hh:h<1000){S:Sto}{Q:QE}(q:Q (.bl (decide (c=h))) S):Ao .Eq (pS c) (.int (h:Nat)) S Q:=by
 by_cases z:c<1000
 ·rw[y4 z];show Q (.bl (decide ((c:Int)=(h:Int)))) S;rw[show decide ((c:Int)=(h:Int))=decide (c=h) by rw[Vj];simp[Vk]];exact q
 ·rw[Av z];show Q (.bl false) S;rw[show decide (c=h)=false from decide_eq_false (by omega)]at q;exact q
theorem Cp{es:EE}{cs:List Nat}(P:Prp es cs):HuP es (e6 cs):=by
 refine⟨by rw[n8];exact P.len,λy hy=>?_,λi j h hij hj h1 h2 sh=>?_⟩
 ·unfold e6 at hy;obtain⟨c,_,rfl⟩:=VV.mp hy;by_cases z:c<1000
  ·rw[y4 z];exact QT (.inr ⟨_,rfl,by omega⟩)
  ·rw[Av z];exact QT (.inl rfl)
 ·obtain⟨c1,z1,e1⟩:=J3 h1;obtain⟨c2,z2,e2⟩:=J3 h2
  have val:∀{c:Nat} {h:Int},SV.int h=pS c->h=(c:Nat):=λ{c h} e=>by
   by_cases z:c<1000
   ·rw[y4 z]at e;injection e
   ·rw[Av z]at e;cases e
  have e2:c1=c2:=Vk.mp ((val e1).symm.trans (val e2));obtain⟨p,a1,a2⟩:=shr_end.mp sh
  have at':∀ t,t<es.length->endE es t p->AtP es t p:=λt ht z=>by
   refine⟨AV es t,Co ht,?_⟩;exact z.imp Eq.symm Eq.symm
  have hu1:hu cs i=c1:=by show cs.getD i 0=_;rw[V1,z1];rfl
  have hu2:hu cs j=c2:=by show cs.getD j 0=_;rw[V1,z2];rfl
  have:=P.one i j p (at' i (by omega) a1) (at' j hj a2) (by rw[hu1,hu2,e2]);omega
theorem Ez{S:Sto}{l:Nat}{cs:List Nat}(h:S[l]?=some (.lst (e6 cs)))(hl:cs.length<=60):Gd (VS S) 1 1000 (.loc l):=by
 refine .lst (k:=0) (b:=10) h (λy hy=>?_) (by rw[n8];omega) (by rw[n8];omega);unfold e6 at hy;obtain⟨c,hc,rfl⟩:=VV.mp hy;by_cases z:c<1000
 ·rw[y4 z];exact .int ⟨by omega,by omega⟩
 ·rw[Av z];exact .non
section
variable{Δ:Nat->Sn}
def F0(s:Sn):Prop:=∀{n k p h:Nat} {es:EE} {cs:List Nat} {S:Sto} {Q:QE},S[k]?=some (.lst (e6 cs))->cs.length=es.length->es.length<=1000->p<n->h<1000->(∀ S',Gw S S'->Q (SY (m9 es cs p h)) S')->s [f7 n es,.loc k,.int (p:Nat),.int (h:Nat)] S Q
theorem NE(hΔ:∀ f,MonoN (Δ f)){kt:Nat}(ht:BL (Δ kt)){D:Df}(hb:D.body=QV kt)(hN:D.N.length=5)(hp:D.ps.length=4):F0 (f6 Δ D):=by
 intro n k p h es cs S Q hk hl hel hpn hh q;unfold f6;rw[hb,hN];refine⟨hp.symm,_,rfl,_,rfl,ht (by omega) hpn ⟨_,a7 c6,?_⟩⟩;have hk1:=c7 (o:=SO.lst (natS (g8 es p es.length))) hk;have G1:Gw S (S++[SO.lst (natS (g8 es p es.length))]):=(Gw.refl S).push;generalize S++[SO.lst (natS (g8 es p es.length))]=S1 at *;refine Aa (g6 hΔ _) (λj ρ S2=>S2=S1/\∃ o4:Option SV,ρ=[some (f7 n es),some (.loc k),some (.int (p:Nat)),some (.int (h:Nat)),o4]/\∀ u∈(g8 es p es.length).take j,decide (hu cs u=h)=false) ⟨rfl,none,rfl,λu hu'=>by simp at hu'⟩ (λ_ _ _ z=>by rw[z.1];exact rfl) ?_ ?_
 ·rintro j x ρ S2 E hE hR hx ⟨rfl,o4,rfl,no⟩;obtain⟨t,htj,rfl⟩:=y0 hx;have tl:=(mem_tiesAt.mp (Us htj))
  have tl:t<es.length:=let ⟨e,he,_⟩:=tl;(gM he).1
  have hc:=AT (cs:=cs) (t:=t) (by omega);refine⟨_,rfl,_,rfl,_,_,a7 hk1,e7 (AA hc),_,rfl,QZ hh ⟨_,rfl,ifD (λz=>?_) (λz=>?_)⟩⟩
  ·have e:m9 es cs p h=some t:=Iv htj (decide_eq_true z) no;refine⟨_,rfl,hR _ _ ?_⟩;have:=q S2 G1;rw[e]at this;exact this
  ·refine hE _ _ ⟨rfl,_,rfl,λu hu'=>?_⟩;rw[VZ,htj]at hu';rcases VD.mp hu' with y | y
   ·exact no u y
   ·have:u=t:=by simpa using y
    rw[this];exact decide_eq_false z
 ·rintro ρ S2 ⟨rfl,o4,rfl,no⟩;rw[f8,VW]at no
  have e:m9 es cs p h=none:=by
   unfold m9;rw[XE];intro u hu' z;rw[no u hu']at z;cases z
  have:=q S2 G1;rw[e]at this;exact this
def CS(s:Sn):Prop:=∀{n k p a b:Nat} {es:EE} {cs:List Nat} {S:Sto} {Q:QE},S[k]?=some (.lst (e6 cs))->a<1000->b<1000->Prp es cs->(∀ e∈es,e.1<e.2/\e.2<n)->es.length<=1000->p<n->a≠b->(∀ u,AtP es u p->hu cs u≠b)->
 (∀(l:Nat) (S':Sto),Gw S S'->S.length<=l->S'[l]?=some (.lst (natS (rwF es cs (es.length+1) p a b)))->Q (.loc l) S')->s [f7 n es,.loc k,.int (p:Nat),.int (a:Nat),.int (b:Nat)] S Q
theorem Pa(hΔ:∀ f,MonoN (Δ f)){kc ku kh kf:Nat}(hc:AI (Δ kc))(hu':C5 (Δ ku))(hh:F0 (Δ kh))(hf:BM (Δ kf)){D:Df}(hb:D.body=QW kc ku kh kf)(hN:D.N.length=7)(hp:D.ps.length=5):CS (f6 Δ D):=by
 intro n k p a b es cs S Q hk a9 b9 P hen hel hpn ab hno q;have hne:∀ e∈es,e.1≠e.2:=λe he=>V4 (hen e he).1;have hl:=P.len;unfold f6;rw[hb,hN];refine⟨hp.symm,_,rfl,_,rfl,hc hpn ⟨_,rfl,_,rfl,hu' ab ⟨_,rfl,_,rfl,_,rfl,_,rfl,hh hk hl hel hpn b9 λS1 G1=>?_⟩⟩⟩;rw[Ix hno];refine .inl ⟨rfl,_,rfl,ifF rfl (c8 ?_)⟩;refine⟨by show 0<=100000;decide,?_⟩;have hk1:=G1.keep _ _ hk;refine⟨_,rfl,_,rfl,_,rfl,_,rfl,hh (c7 hk1) hl hel hpn a9 λS2 G2=>?_⟩;have h2:S2[S1.length]?=some (.lst []):=G2.keep _ _ c6;have hk2:=G2.keep _ _ (c7 (o:=SO.lst []) hk1);have GS:Gw S S2:=G1.trans ((Gw.refl S1).push.trans G2);have kl:=(gM hk1).1;have s1:=G1.len;generalize S1.length=l at *;show wSs Δ [rf4 kf kh,(.ret (.var 5))] (v8 Q) [some (f7 n es),some (.loc k),some (.int (p:Nat)),some (.int (a:Nat)),some (.int (b:Nat)),some (.loc l),some (SY (m9 es cs p a))] S2;refine⟨λm ρ S'=>∃(r:List Nat) (x one other:Nat),ρ=[some (f7 n es),some (.loc k),some (.int (x:Nat)),some (.int (one:Nat)),some (.int (other:Nat)),some (.loc l),some (SY (m9 es cs x one))]/\RwI es cs a b p r x one other/\x<n/\r++rwF es cs (es.length+1 - r.length) x one other=rwF es cs (es.length+1) p a b/\m+r.length=es.length+1/\On l S2 S'/\S'[l]?=some (.lst (natS r)),⟨es.length+1,[],p,a,b,rfl,RwI.nil hno,hpn,rfl,rfl,On.refl _ _,h2⟩,?_⟩;rintro m ρ S' ⟨r,x,one,other,rfl,R,xn,er,em,O,hr⟩;have rl:=R.len;have hk':=O.keep _ _ (by omega) hk2;cases hz:m9 es cs x one with
 | none=>
   refine⟨_,rfl,.inl ⟨rfl,_,rfl,ifF rfl ?_⟩⟩
   have e0:rwF es cs (es.length+1 - r.length) x one other=[]:=by
    rw[show es.length+1 - r.length=(es.length - r.length)+1 by omega];unfold rwF;rw[hz]
   rw[e0,VY]at er;refine⟨_,rfl,q l S' ⟨VF GS.len O.len,λj o h=>O.keep j o (λz=>?_) (GS.keep j o h)⟩ s1 (by rw[hr,er])⟩;have:=(gM h).1;omega
 | some t=>
   obtain⟨⟨e,he,hx⟩,hcx⟩:=n9 hz;have hee:=hen e (Us he);have ge:es.getD t (0,0)=e:=by rw[V1,he];rfl
   have R':=R.step P ab he hx (hne e (Us he)) hcx;have fn:farE e x<n:=by unfold farE;split<;>omega
   have e1:rwF es cs (es.length+1 - r.length) x one other=t::rwF es cs (es.length+1 - (r++[t]).length) (farE e x) other one:=by
    rw[show es.length+1 - r.length=(es.length - r.length)+1 by omega,show es.length+1 - (r++[t]).length=es.length - r.length by rw[Ut];simp]
    conv=>lhs;unfold rwF
    rw[hz];dsimp only;rw[ge]
   refine⟨_,rfl,.inl ⟨rfl,_,rfl,ifT rfl ?_⟩⟩;refine⟨_,rfl,⟨_,_,rfl,hr⟩,_,rfl,_,hr,by rw[f8];show _<100000;omega,?_⟩;have h3:(S'.set l (.lst (natS r++[.int (t:Nat)])))[l]?=some (.lst (natS (r++[t]))):=by rw[l6 hr,m7];rfl
   have O3:On l S2 (S'.set l (.lst (natS r++[.int (t:Nat)]))):=O.tape;have hk3:(S'.set l (.lst (natS r++[.int (t:Nat)])))[k]?=some (.lst (e6 cs)):=by rw[j5 (by omega)];exact hk'
   show wSs Δ [(.asg (.nm 2) (.call kf (.cons (.var 0) (.cons (.var 6) (.cons (.var 2) .nil))))),(.par 3 4 (.var 4) (.var 3)),(.asg (.nm 6) (.call kh (.cons (.var 0) (.cons (.var 1) (.cons (.var 2) (.cons (.var 3) .nil))))))] _ [some (f7 n es),some (.loc k),some (.int (x:Nat)),some (.int (one:Nat)),some (.int (other:Nat)),some (.loc l),some (.int (t:Nat))] (S'.set l (.lst (natS r++[.int (t:Nat)])));generalize S'.set l (.lst (natS r++[.int (t:Nat)]))=S3 at *;refine⟨_,rfl,_,rfl,_,rfl,hf he (hx.imp Eq.symm Eq.symm) ?_⟩;refine⟨_,rfl,_,rfl,?_⟩;refine⟨_,rfl,_,rfl,_,rfl,_,rfl,hh hk3 hl hel fn (by rcases R.ab.2 with z | z<;>rw[z]<;>assumption) λS4 G4=>?_⟩;refine⟨es.length+1 - (r++[t]).length,by rw[Ut];simp;omega,r++[t],farE e x,other,one,rfl,R',fn,?_,?_,O3.trans (SS G4),G4.keep _ _ h3⟩
   ·rw[<-er,e1];simp
   ·have:=R'.len;omega
def F1(s:Sn):Prop:=∀{n k l a b:Nat} {es:EE} {cs r:List Nat} {S:Sto} {Q:QE},S[k]?=some (.lst (e6 cs))->a<1000->b<1000->S[l]?=some (.lst (natS r))->cs.length=es.length->(∀ e∈es,e.1<e.2/\e.2<n)->es.length<=60->a≠b->(∀ t∈r,t<es.length)->(∀ t∈r,hu cs t=a\/hu cs t=b)->r.length<=1000->Prp es (exL cs r a b)->
 (∀(l':Nat) (S':Sto),Gw S S'->S.length<=l'->S'[l']?=some (.lst (e6 (exL cs r a b)))->Q (.loc l') S')->s [f7 n es,.loc k,.loc l,.int (a:Nat),.int (b:Nat)] S Q
theorem NF(hΔ:∀ f,MonoN (Δ f)){ku kt ki:Nat}(hu':C5 (Δ ku))(ht:BK (Δ kt))(hi:Ab (Δ ki)){D:Df}(hb:D.body=QX ku kt ki)(hN:D.N.length=7)(hp:D.ps.length=5):F1 (f6 Δ D):=by
 intro n k l a b es cs r S Q hk a9 b9 hl hcl hen hel ab rlt rab rlen P q;unfold f6;rw[hb,hN];refine⟨hp.symm,_,rfl,_,rfl,hu' ab ⟨_,rfl,_,a7 hk,?_⟩⟩;show wSs Δ [ec2 kt,(.iff (.not (.call ki (.cons (.var 0) (.cons (.var 5) .nil)))) [.no] []),(.ret (.var 5))] (v8 Q) [some (f7 n es),some (.loc k),some (.loc l),some (.int (a:Nat)),some (.int (b:Nat)),some (.loc S.length),none] (S++[.lst (e6 cs)]);have kl:=(gM hk).1;have ll:=(gM hl).1;refine⟨_,rfl,_,a7 (c7 hl),?_⟩;refine m6 (g6 hΔ _) (λi ρ S'=>∃ o6:Option SV,ρ=[some (f7 n es),some (.loc k),some (.loc l),some (.int (a:Nat)),some (.int (b:Nat)),some (.loc S.length),o6]/\On S.length (S++[.lst (e6 cs)]) S'/\S'[S.length]?=some (.lst (e6 (exL cs (r.take i) a b)))) ⟨none,rfl,On.refl _ _,by rw[XA,Iy];exact c6⟩ (λi ρ S' h=>?_) ?_ ?_
 ·obtain⟨_,_,O,_⟩:=h;show S'[l]?=(S++[SO.lst (e6 cs)])[l]?;rw[c7 hl];exact O.keep _ _ (by omega) (c7 hl)
 ·rintro i x ρ S' hx ⟨o6,rfl,O,h5⟩;obtain⟨t,hti,rfl⟩:=y0 hx;have tr:=Us hti;have tl:=rlt t tr;have hk':=O.keep _ _ (by omega) (c7 (o:=SO.lst (e6 cs)) hk);have hc:=AT (cs:=cs) (t:=t) (by omega);have hc9:hu cs t<1000:=by rcases rab t tr with z | z<;>rw[z]<;>assumption
  have hcp:(e6 cs)[t]?=some (.int (hu cs t:Nat)):=by rw[AA hc,y4 hc9]
  have e:r.take (i+1)=r.take i++[t]:=by rw[VZ,hti];rfl
  refine⟨_,rfl,_,rfl,ht tl ⟨_,rfl,ifF rfl ⟨_,rfl,_,rfl,_,_,a7 hk',e7 hcp,_,rfl,_,rfl,by show 2<=100000;decide,rfl,_,rfl,rfl,_,rfl,?_⟩⟩⟩
  have inn:(!inS (.int (hu cs t:Nat)) [.int (a:Nat),.int (b:Nat)])=false:=by
   rcases rab t tr with z | z<;>rw[z]<;>simp[inS,eqF]
  refine ifF inn (c8 ?_)
  have fin:∀ z:Int,z=((if hu cs t=a then b else a:Nat):Int)->Eh (.loc S.length) (.int (t:Nat)) (.int z) S' λS4=>∃ o6:Option SV,[some (f7 n es),some (.loc k),some (.loc l),some (.int (a:Nat)),some (.int (b:Nat)),some (.loc S.length),some (.int (t:Nat))]=[some (f7 n es),some (.loc k),some (.loc l),some (.int (a:Nat)),some (.int (b:Nat)),some (.loc S.length),o6]/\On S.length (S++[.lst (e6 cs)]) S4/\S4[S.length]?=some (.lst (e6 (exL cs (r.take (i+1)) a b))):=by
   rintro _ rfl;refine⟨_,t,h5,C1 (by rw[n8,A9];omega),_,rfl,O.tape,?_⟩;rw[l6 h5,e,GH (by omega)];unfold e6;rw[X7,y4 (by split<;>assumption)]
  refine⟨_,rfl,_,rfl,_,_,a7 hk',e7 hcp,_,rfl,_,rfl,ifD (λz=>⟨_,rfl,_,rfl,_,rfl,fin _ ?_⟩) (λz=>⟨_,rfl,_,rfl,_,rfl,fin _ ?_⟩)⟩
  ·have z:hu cs t=a:=Vk.mp z;rw[iP z]
  ·have z:¬ hu cs t=a:=λy=>z (congrArg _ y);rw[iG z]
 ·rintro ρ S' ⟨o6,rfl,O,h5⟩;rw[f8,VW]at h5;refine⟨_,rfl,_,rfl,hi hen hel (Ez h5 (by rw[A9];omega)) λrr S2 G2 e2=>?_⟩;have:rr=true:=e2.mpr ⟨_,a7 h5,Cp P⟩;subst this;refine⟨_,rfl,ifF rfl (c8 ⟨_,rfl,q S.length S2 ?_ (Ux _) (G2.keep _ _ h5)⟩)⟩;refine⟨VF (VF (by rw[Ut];omega) O.len) G2.len,λj o h=>G2.keep _ _ (O.keep j o ?_ (c7 h))⟩;exact V4 (gM h).1
end
inductive Stp where
 | hue (t h:Nat)
 | row (p a b:Nat)
def stN(es:EE)(cs:List Nat):Stp->List Nat
 | .hue t h=>cs.set t h
 | .row p a b=>exL cs (rwF es cs (es.length+1) p a b) a b
def CW(n H:Nat)(es:EE)(cs:List Nat):Stp->Prop
 | .hue t h=>t<es.length/\¬ hu cs t<1000/\h<H/\∀ y,AtP es t y->∀ u,AtP es u y->hu cs u≠h
 | .row p a b=>a<H/\b<H/\a≠b/\p<n/\∀ u,AtP es u p->hu cs u≠b
theorem F2{cs:List Nat}{t h u:Nat}(ht:t<cs.length):hu (cs.set t h) u=if u=t then h else hu cs u:=by
 show(cs.set t h).getD u 0=_;rw[V1];by_cases e:u=t
 ·subst e;rw[V6 ht,iP rfl];rfl
 ·rw[VR (Ne.symm e),iG e];show _=cs.getD u 0;rw[V1]
section
variable{n H:Nat}{es:EE}{cs:List Nat}
theorem C6(P:Prp es cs)(hen:∀ e∈es,e.1<e.2/\e.2<n){p a b:Nat}(ab:a≠b)(no:∀ u,AtP es u p->hu cs u≠b):∃ x o1 o2,RwI es cs a b p (rwF es cs (es.length+1) p a b) x o1 o2/\∀ u,AtP es u x->hu cs u≠o1:=by
 have:=N3 P ab (λe he=>V4 (hen e he).1) (es.length+1) [] p a b (RwI.nil no) (by simp);simpa using this
theorem C7{a b p x o1 o2:Nat}{r:List Nat}(R:RwI es cs a b p r x o1 o2):∀ t∈r,hu cs t=a\/hu cs t=b:=λt ht=>by
 obtain⟨i,hi⟩:=Vg ht;rw[R.alt i t hi];split<;>simp
theorem Bc(P:Prp es cs)(hen:∀ e∈es,e.1<e.2/\e.2<n){s:Stp}(h:CW n H es cs s):Prp es (stN es cs s):=by
 cases s with
 | hue t h'=>
   obtain⟨tl,h0,h1,h2⟩:=h;refine⟨(VH ..).trans P.len,λv u y hv hu' e'=>?_⟩;rw[<-P.len]at tl;have e:hu (cs.set t h') v=hu (cs.set t h') u:=e';clear e';rw[F2 tl,F2 tl]at e;by_cases e1:v=t
   ·by_cases e2:u=t
    ·rw[e1,e2]
    ·rw[iP e1,iG e2]at e;subst e1;exact absurd e.symm (h2 y hv u hu')
   ·by_cases e2:u=t
    ·rw[iG e1,iP e2]at e;subst e2;exact absurd e (h2 y hu' v hv)
    ·rw[iG e1,iG e2]at e;exact P.one v u y hv hu' e
 | row p a b=>
   obtain⟨a1,b1,ab,pn,no⟩:=h;obtain⟨x,o1,o2,R,last⟩:=C6 P hen ab no;exact ST P (R.clo last) (C7 R)
theorem NG(P:Prp es cs)(hen:∀ e∈es,e.1<e.2/\e.2<n)(hH:H<=1000){s:Stp}(h:CW n H es cs s){u:Nat}(ul:u<es.length):(hu cs u<H->hu (stN es cs s) u<H)/\(hu cs u<1000->hu (stN es cs s) u<1000)/\((∀ h,s ≠ .hue u h)->¬ hu cs u<1000->hu (stN es cs s) u=hu cs u):=by
 cases s with
 | hue t h'=>
   obtain⟨tl,h0,h1,h2⟩:=h;rw[<-P.len]at tl;have e:hu (stN es cs (.hue t h')) u=_:=F2 tl;rw[e];by_cases z:u=t
   ·rw[iP z];exact⟨λ_=>h1,λ_=>by omega,λk=>absurd rfl (z▸k h')⟩
   ·rw[iG z];exact⟨λz=>z,λz=>z,λ_ _=>rfl⟩
 | row p a b=>
   obtain⟨a1,b1,ab,pn,no⟩:=h;obtain⟨x,o1,o2,R,last⟩:=C6 P hen ab no;have e:hu (stN es cs (.row p a b)) u=_:=Bp (by rw[P.len];exact ul);rw[e];by_cases z:u∈rwF es cs (es.length+1) p a b
   ·rw[iP z];have:=C7 R u z;refine⟨λ_=>by split<;>omega,λ_=>by split<;>omega,λ_ k=>absurd ?_ k⟩;rcases this with y | y<;>rw[y]<;>omega
   ·rw[iG z];exact⟨λz=>z,λz=>z,λ_ _=>rfl⟩
end
def AJ(es:EE)(cs:List Nat)(sts:List Stp):List Nat:=sts.foldl (λc s=>stN es c s) cs
def OkR(n H:Nat)(es:EE):List Nat->List Stp->Prop
 | _,[]=>True
 | cs,s::ss=>CW n H es cs s/\OkR n H es (stN es cs s) ss
theorem NH(es:EE)(cs:List Nat)(a b:List Stp):AJ es cs (a++b)=AJ es (AJ es cs a) b:=by unfold AJ;rw[List.foldl_append]
theorem OkR.app{n H:Nat}{es:EE}:∀{a:List Stp} {cs:List Nat} {b:List Stp},OkR n H es cs a->OkR n H es (AJ es cs a) b->OkR n H es cs (a++b)
 | [],_,_,_,h=>h
 | s::a,cs,b,h,h2=>⟨h.1,OkR.app (a:=a) h.2 h2⟩
theorem OkR.prp{n H:Nat}{es:EE}(hen:∀ e∈es,e.1<e.2/\e.2<n):∀{a:List Stp} {cs:List Nat},Prp es cs->OkR n H es cs a->Prp es (AJ es cs a)
 | [],_,P,_=>P
 | s::a,cs,P,h=>OkR.prp hen (a:=a) (Bc P hen h.1) h.2
theorem OkR.at{n H:Nat}{es:EE}:∀{a:List Stp} {cs:List Nat} {i:Nat} {s:Stp},OkR n H es cs a->a[i]?=some s->CW n H es (AJ es cs (a.take i)) s
 | [],_,_,_,_,h=>by simp at h
 | s::a,cs,0,s',h,e=>by simp at e;subst e;exact h.1
 | s::a,cs,i+1,s',h,e=>OkR.at (a:=a) h.2 (by simpa using e)
theorem EK{es:EE}{cs:List Nat}{sts:List Stp}{i:Nat}{s:Stp}(h:sts[i]?=some s):AJ es cs (sts.take (i+1))=stN es (AJ es cs (sts.take i)) s:=by
 unfold AJ;rw[VZ,h];simp
theorem OkR.prpAt{n H:Nat}{es:EE}(hen:∀ e∈es,e.1<e.2/\e.2<n):∀{a:List Stp} {cs:List Nat} (i:Nat),Prp es cs->OkR n H es cs a->Prp es (AJ es cs (a.take i))
 | [],_,_,P,_=>by rw[List.take_nil];exact P
 | s::a,cs,0,P,h=>P
 | s::a,cs,i+1,P,h=>OkR.prpAt hen (a:=a) i (Bc P hen h.1) h.2
def frL(es:EE)(cs:List Nat)(p H:Nat):List Nat:=(Uy H).filter λh=>(m9 es cs p h).isNone
theorem mem_frL{es:EE}{cs:List Nat}{p H h:Nat}:h∈frL es cs p H↔h<H/\∀ u,AtP es u p->hu cs u≠h:=by
 unfold frL;rw[Vi,VG];constructor
 ·rintro⟨a,b⟩;refine⟨a,AL ?_⟩;simpa using b
 ·rintro⟨a,b⟩;refine⟨a,?_⟩;rw[Ix b];rfl
theorem Cq{es:EE}{cs:List Nat}{p H t:Nat}(hH:H<=1000)(at':AtP es t p)(h0:¬ hu cs t<1000)(hc:m8 es p<=H):frL es cs p H≠[]:=by
 intro e
 have all:∀ h,h<H->∃ u,m9 es cs p h=some u:=λh hh=>by
  cases z:m9 es cs p h with
  | some u=>exact⟨u,rfl⟩
  | none=>
    have:h∈frL es cs p H:=mem_frL.mpr ⟨hh,AL z⟩;rw[e]at this;cases this
 have f:∀ h,h<H->AtP es ((m9 es cs p h).getD 0) p/\hu cs ((m9 es cs p h).getD 0)=h:=λh hh=>by
  obtain⟨u,z⟩:=all h hh;rw[z];exact n9 z
 have nd:(t::(Uy H).map λh=>(m9 es cs p h).getD 0).Nodup:=by
  rw[WV];refine⟨λz=>?_,?_⟩
  ·obtain⟨h,hh,e⟩:=VV.mp z;have hl:=VG.mp hh;have:=(f h hl).2;rw[e]at this;omega
  ·rw[List.Nodup,List.pairwise_map];refine List.Pairwise.imp_of_mem (λ{a b} ha hb ne e=>ne ?_) Xv;rw[<-(f a (VG.mp ha)).2,<-(f b (VG.mp hb)).2,e]
 have sub:=List.Nodup.length_le_of_subset nd (l₂:=g8 es p es.length) λu hu'=>by
  rcases VA.mp hu' with z | z
  ·rw[z];exact mem_tiesAt.mpr at'
  ·obtain⟨h,hh,rfl⟩:=VV.mp z;exact mem_tiesAt.mpr (f h (VG.mp hh)).1
 rw[VU,Ur,Vr]at sub;have:m8 es p=(g8 es p es.length).length:=rfl;omega
structure SdI(sd:Nat->Nat)(es:EE)(cs:List Nat)(a b p:Nat)(r:List Nat)(x:Nat):Prop where
 sx:sd x=sd p↔r.length % 2=0
 bk:∀ t∈r,hu cs t=b->∀ y,AtP es t y->sd y≠sd p->∃ u∈r,hu cs u=a/\AtP es u y
section
variable{n H:Nat}{es:EE}{cs:List Nat}{sd:Nat->Nat}{a b p:Nat}
theorem SdI.step(W:Sdd n es sd)(ab:a≠b){r:List Nat}{x one other t:Nat}{e:Nat×Nat}(R:RwI es cs a b p r x one other)(I:SdI sd es cs a b p r x)(he:es[t]?=some e)(hx:e.1=x\/e.2=x)(ht:hu cs t=one):SdI sd es cs a b p (r++[t]) (farE e x):=by
 have ne:=W.ne e (Us he);have t1:=W.two e.1;have t2:=W.two e.2;have tp:=W.two p;have sx:=I.sx
 have sf:sd (farE e x)=sd p↔(r.length+1) % 2=0:=by
  unfold farE;rcases hx with rfl | rfl
  ·rw[iP rfl];omega
  ·by_cases z:e.2=e.1
   ·rw[z]at ne;exact absurd rfl ne
   ·rw[iG z];omega
 refine⟨by rw[Ut];exact sf,λu hu' hb y hy ny=>?_⟩;rcases VD.mp hu' with z | z
 ·obtain⟨v,v1,v2⟩:=I.bk u z hb y hy ny;exact⟨v,Vf _ v1,v2⟩
 ·have ut:=V3.mp z;subst ut
  have od:r.length % 2≠0:=λz=>by
   have:=R.d1;rw[iP z]at this;exact ab (this.symm.trans (ht.symm.trans hb))
  have yx:y=x:=by
   obtain⟨e',he',hy⟩:=hy;rw[he]at he';cases he'
   have f:y=x\/y=farE e x:=by
    unfold farE;rcases hx with hx | hx<;>rcases hy with hy | hy<;>split<;>omega
   rcases f with f | f
   ·exact f
   ·rw[f]at ny;exact absurd (sf.mpr (by omega)) ny
  subst yx;have rn:r≠[]:=λz=>by rw[z]at od;exact od rfl
  have hl:r.getLast?=some (r.getLast rn):=Wf rn;refine⟨r.getLast rn,Vf _ (Xu rn),?_,R.lst _ hl⟩;have gi:r[r.length - 1]?=some (r.getLast rn):=by rw[<-XF];exact hl
  rw[R.alt _ _ gi,iP (by omega)]
theorem NI(W:Sdd n es sd)(P:Prp es cs)(ab:a≠b):∀(k:Nat) (r:List Nat) (x one other:Nat),RwI es cs a b p r x one other->SdI sd es cs a b p r x->∃ x',SdI sd es cs a b p (r++rwF es cs k x one other) x'
 | 0,r,x,one,other,R,I=>⟨x,by unfold rwF;rw[VY];exact I⟩
 | k+1,r,x,one,other,R,I=>by
   unfold rwF;cases ht:m9 es cs x one with
   | none=>exact⟨x,by simpa using I⟩
   | some t=>
     obtain⟨⟨e,he,hx⟩,hc⟩:=n9 ht;have ge:es.getD t (0,0)=e:=by rw[V1,he];rfl
     dsimp only;rw[ge];have R':=R.step P ab he hx (V4 (W.en e (Us he)).1) hc;obtain⟨x',I'⟩:=NI W P ab k _ _ _ _ R' (I.step W ab R he hx hc);exact⟨x',by simpa using I'⟩
theorem KI(W:Sdd n es sd)(P:Prp es cs)(ab:a≠b){q:Nat}(hsd:sd q≠sd p)(aq:∀ u,AtP es u q->hu cs u≠a)(bp:∀ u,AtP es u p->hu cs u≠b):(∀ u,AtP es u p->hu (stN es cs (.row p a b)) u≠a)/\∀ u,AtP es u q->hu (stN es cs (.row p a b)) u≠a:=by
 obtain⟨x,o1,o2,R,last⟩:=C6 P W.en ab bp;obtain⟨x',I⟩:=NI W P ab (es.length+1) [] p a b (RwI.nil bp) ⟨by simp,(λ_ h=>nomatch h)⟩;rw[Xz]at I;have two:=C7 R;have e:∀ u,u<es.length->hu (stN es cs (.row p a b)) u=_:=λu ul=>Bp (by rw[P.len];exact ul);refine⟨λu hu' z=>?_,λu hu' z=>?_⟩
 ·rw[e u hu'.lt]at z;by_cases m:u∈rwF es cs (es.length+1) p a b
  ·rw[iP m]at z;rcases two u m with y | y
   ·rw[iP y]at z;exact ab z.symm
   ·exact bp u hu' y
  ·rw[iG m]at z;cases ht:m9 es cs p a with
   | none=>exact AL ht u hu' z
   | some t0=>
     obtain⟨at0,hc⟩:=n9 ht;have:=P.one u t0 p hu' at0 (z.trans hc.symm);subst this;apply m;unfold rwF;rw[ht];exact VJ ..
 ·rw[e u hu'.lt]at z;by_cases m:u∈rwF es cs (es.length+1) p a b
  ·rcases two u m with y | y
   ·exact aq u hu' y
   ·obtain⟨v,v1,v2,v3⟩:=I.bk u m y q hu' hsd;exact aq v v3 v2
  ·rw[iG m]at z;exact aq u hu' z
end
def j9(es:EE)(cs:List Nat)(t H:Nat):List Stp:=
 match (frL es cs (es.getD t (0,0)).1 H).filter (λh=>decide (h∈frL es cs (es.getD t (0,0)).2 H)) with
 | h::_=>[.hue t h]
 | []=>[.row (es.getD t (0,0)).2 ((frL es cs (es.getD t (0,0)).1 H).headD 0) ((frL es cs (es.getD t (0,0)).2 H).headD 0),.hue t ((frL es cs (es.getD t (0,0)).1 H).headD 0)]
theorem GJ{l:List Nat}(h:l≠[]):l.headD 0∈l:=by
 cases l with
 | nil=>exact absurd rfl h
 | cons a l=>exact VJ ..
theorem EL{n H t:Nat}{es:EE}{cs:List Nat}{sd:Nat->Nat}(W:Sdd n es sd)(P:Prp es cs)(hH:H<=1000)(ht:t<es.length)(h0:¬ hu cs t<1000)(hc:∀ p,p<n->m8 es p<=H):OkR n H es cs (j9 es cs t H)/\hu (AJ es cs (j9 es cs t H)) t<H/\∀ u,u≠t->u<es.length->(hu cs u<H->hu (AJ es cs (j9 es cs t H)) u<H)/\(¬ hu cs u<1000->hu (AJ es cs (j9 es cs t H)) u=hu cs u):=by
 obtain⟨e,he⟩:∃ e,es[t]?=some e:=⟨_,Uq ht⟩
 have ge:es.getD t (0,0)=e:=by rw[V1,he];rfl
 have en:=W.en e (Us he);have a1:AtP es t e.1:=⟨e,he,.inl rfl⟩
 have a2:AtP es t e.2:=⟨e,he,.inr rfl⟩
 have ends:∀ y,AtP es t y->y=e.1\/y=e.2:=by
  rintro y ⟨e',he',hy⟩;rw[he]at he';cases he';exact hy.imp Eq.symm Eq.symm
 have n1:=Cq hH a1 h0 (hc e.1 (by omega));have n2:=Cq hH a2 h0 (hc e.2 (by omega));have one:∀{ds:List Nat} {h:Nat},Prp es ds->h<H->¬ hu ds t<1000->(∀ u,AtP es u e.1->hu ds u≠h)->(∀ u,AtP es u e.2->hu ds u≠h)->CW n H es ds (.hue t h):=λ{ds h} Pd hh d0 f1 f2=>⟨ht,d0,hh,λy hy=>by rcases ends y hy with z | z<;>rw[z]<;>assumption⟩
 have fin:∀{ds:List Nat} {h:Nat},Prp es ds->h<H->hu (stN es ds (.hue t h)) t<H/\∀ u,u≠t->hu (stN es ds (.hue t h)) u=hu ds u:=λ{ds h} Pd hh=>by
  have e:∀ u,hu (stN es ds (.hue t h)) u=_:=λu=>F2 (by rw[Pd.len];exact ht);refine⟨by rw[e t,iP rfl];exact hh,λu z=>by rw[e u,iG z]⟩
 unfold j9;rw[ge];cases hf:(frL es cs e.1 H).filter (λh=>decide (h∈frL es cs e.2 H)) with
 | cons h l=>
   have hm:h∈(frL es cs e.1 H).filter (λh=>decide (h∈frL es cs e.2 H)):=by rw[hf];exact VJ ..
   rw[Vi,dQ]at hm;obtain⟨hh,f1⟩:=mem_frL.mp hm.1;obtain⟨_,f2⟩:=mem_frL.mp hm.2;obtain⟨q1,q2⟩:=fin P hh;exact⟨⟨one P hh h0 f1 f2,trivial⟩,q1,λu ne ul=>⟨λz=>by show hu (stN es cs (.hue t h)) u<H;rw[q2 u ne];exact z,λ_=>q2 u ne⟩⟩
 | nil=>
   have ma:=GJ n1;have mb:=GJ n2;generalize (frL es cs e.1 H).headD 0=a at *;generalize (frL es cs e.2 H).headD 0=b at *;obtain⟨aH,fa⟩:=mem_frL.mp ma;obtain⟨bH,fb⟩:=mem_frL.mp mb
   have ab:a≠b:=λz=>by
    have:a∈(frL es cs e.1 H).filter (λh=>decide (h∈frL es cs e.2 H)):=Vi.mpr ⟨ma,decide_eq_true (z▸mb)⟩;rw[hf]at this;cases this
   have o1:CW n H es cs (.row e.2 a b):=⟨aH,bH,ab,en.2,fb⟩
   have P1:=Bc P W.en o1;obtain⟨g2,g1⟩:=KI W P ab (W.ne e (Us he)) fa fb;have k:=λu ul=>NG (u:=u) P W.en hH o1 ul;have t0:¬ hu (stN es cs (.row e.2 a b)) t<1000:=by rw[(k t ht).2.2 (λh z=>by cases z) h0];exact h0
   obtain⟨q1,q2⟩:=fin P1 aH;refine⟨⟨o1,one P1 aH t0 g1 g2,trivial⟩,q1,λu ne ul=>⟨λz=>?_,λz=>?_⟩⟩
   ·show hu (stN es (stN es cs (.row e.2 a b)) (.hue t a)) u<H;rw[q2 u ne];exact(k u ul).1 z
   ·show hu (stN es (stN es cs (.row e.2 a b)) (.hue t a)) u=_;rw[q2 u ne];exact(k u ul).2.2 (λh z=>by cases z) z
def cs0(m:Nat):List Nat:=(Uy m).map λt=>1000+t
theorem Hg{m t:Nat}(h:t<m):hu (cs0 m) t=1000+t:=NB h
theorem J4(es:EE):Prp es (cs0 es.length):=by
 refine⟨by unfold cs0;rw[Ur,Vr],λt u y ht hu' e=>?_⟩;rw[Hg ht.lt,Hg hu'.lt]at e;omega
def byF(es:EE)(H:Nat):Nat->List Nat×List Stp
 | 0=>(cs0 es.length,[])
 | i+1=>(AJ es (byF es H i).1 (j9 es (byF es H i).1 i H),(byF es H i).2++j9 es (byF es H i).1 i H)
theorem F3{n H:Nat}{es:EE}{sd:Nat->Nat}(W:Sdd n es sd)(hH:H<=1000)(hc:∀ p,p<n->m8 es p<=H):∀ i,i<=es.length->OkR n H es (cs0 es.length) (byF es H i).2/\(byF es H i).1=AJ es (cs0 es.length) (byF es H i).2/\Prp es (byF es H i).1/\(∀ u,u<i->hu (byF es H i).1 u<H)/\∀ u,i<=u->u<es.length->¬ hu (byF es H i).1 u<1000
 | 0,_=>⟨trivial,rfl,J4 es,λu h=>by omega,λu _ h=>by show ¬ hu (cs0 es.length) u<1000;rw[Hg h];omega⟩
 | i+1,hi=>by
   obtain⟨k1,k2,k3,k4,k5⟩:=F3 W hH hc i (by omega);obtain⟨s1,s2,s3⟩:=EL W k3 hH (show i<es.length by omega) (k5 i (Ux _) (by omega)) hc;refine⟨k1.app (by rw[<-k2];exact s1),?_,s1.prp W.en k3,λu hu'=>?_,λu hu' ul=>?_⟩
   ·show AJ es (byF es H i).1 (j9 es (byF es H i).1 i H)=AJ es (cs0 es.length) ((byF es H i).2++j9 es (byF es H i).1 i H);rw[NH,<-k2]
   ·by_cases e:u=i
    ·rw[e];exact s2
    ·exact(s3 u e (by omega)).1 (k4 u (by omega))
   ·have:=k5 u (by omega) ul;show ¬ hu (AJ es (byF es H i).1 (j9 es (byF es H i).1 i H)) u<1000;rw[(s3 u (by omega) ul).2 this];exact this
def v6:Stp->SV
 | .hue t h => .tup [.str "hue",.int (t:Nat),.int (h:Nat)]
 | .row p a b => .tup [.str "row",.int (p:Nat),.int (a:Nat),.int (b:Nat)]
section
variable{Δ:Nat->Sn}
def AG(s:Sn)(ok:Stp->Prop)(args:Stp->List SV):Prop:=∀{n H k:Nat} {es:EE} {cs:List Nat} {st:Stp} {S:Sto} {Q:QE},ok st->Prp es cs->(∀ e∈es,e.1<e.2/\e.2<n)->es.length<=60->H<=1000->CW n H es cs st->S[k]?=some (.lst (e6 cs))->(∀(l:Nat) (S':Sto),Gw S S'->S.length<=l->S'[l]?=some (.lst (e6 (stN es cs st)))->Q (.loc l) S')->s (f7 n es :: .loc k::args st) S Q
def NJ:Stp->Prop
 | .hue _ _=>False
 | .row _ _ _=>True
def Hh:Stp->Prop
 | .hue _ _=>True
 | .row _ _ _=>False
def EM:Stp->List SV
 | .hue t h=>[.int (t:Nat),.int (h:Nat)]
 | .row p a b=>[.int (p:Nat),.int (a:Nat),.int (b:Nat)]
theorem NK{kh kr kx:Nat}(hh:N8 (Δ kh))(hr:CS (Δ kr))(hx:F1 (Δ kx)){D:Df}(hb:D.body=QY kh kr kx)(hN:D.N.length=5)(hp:D.ps.length=5):AG (f6 Δ D) NJ EM:=by
 intro n H k es cs st S Q is P hen el hH ok hk q;cases st with
 | hue t h=>exact is.elim
 | row p a b=>
   have ok':=ok;obtain⟨a1,b1,ab,pn,no⟩:=ok;obtain⟨x,o1,o2,R,last⟩:=C6 P hen ab no;have rl:=R.len;unfold f6;rw[hb,hN];have g:∀ c:Nat,c<H->Gd (VS S) 0 10 (.int (c:Nat)):=λc hc => .int ⟨by omega,by omega⟩;have i0:∀ c:Nat,PX (.int (c:Nat))=true:=λc=>(show decide ((0:Int)<=((c:Nat):Int))=true from decide_eq_true (by omega))
   refine⟨hp.symm,_,rfl,hh (g _ a1) ⟨_,rfl,?_⟩⟩;rw[i0];refine ifF rfl ⟨_,rfl,hh (g _ b1) ⟨_,rfl,?_⟩⟩;rw[i0];refine ifF rfl (c8 ?_);refine⟨_,rfl,_,rfl,_,rfl,_,rfl,_,rfl,_,rfl,_,rfl,hr hk (by omega) (by omega) P hen (by omega) pn ab no λl S1 G1 l1 h1=>⟨_,rfl,_,rfl,?_⟩⟩;exact hx (G1.keep _ _ hk) (by omega) (by omega) h1 P.len hen el ab R.lt (C7 R) (by omega) (Bc P hen ok') λl' S2 G2 l2 h2=>q l' S2 (G1.trans G2) (VF G1.len l2) h2
def NL(kt:Nat):List Stm:=[(.ret (.and (.call kt (.cons (.var 0) (.cons (.var 2) .nil))) (.cmp .Is (.ix (.var 1) (.var 2)) (.c .non))))]
def F4(s:Sn):Prop:=∀{n k t:Nat} {es:EE} {cs:List Nat} {S:Sto} {Q:QE},cs.length=es.length->t<es.length->¬ hu cs t<1000->S[k]?=some (.lst (e6 cs))->Q (.bl true) S->s [f7 n es,.loc k,.int (t:Nat)] S Q
theorem NM{kt:Nat}(ht:BK (Δ kt)){D:Df}(hb:D.body=NL kt)(hN:D.N.length=3)(hp:D.ps.length=3):F4 (f6 Δ D):=by
 intro n k t es cs S Q cl tl h0 hk q;unfold f6;rw[hb,hN];have hc:=AT (cs:=cs) (t:=t) (by omega);have hcp:(e6 cs)[t]?=some .non:=by rw[AA hc,Av h0]
 exact⟨hp.symm,_,rfl,_,rfl,ht tl ⟨_,rfl,ifT rfl ⟨_,rfl,_,rfl,_,_,a7 hk,e7 hcp,.inl ⟨rfl,q⟩⟩⟩⟩
def Qa(ki:Nat):List Stm:=[(.asg (.nm 3) (.bi .list (.cons (.var 1) .nil))),(.loop (.tup (.cons (.nm 4) (.cons (.nm 5) .nil))) (.seq (.var 2)) [(.put (.var 3) (.var 4) (.var 5))]),(.ret (.ife (.call ki (.cons (.var 0) (.cons (.var 3) .nil))) (.var 3) (.c .non)))]
def Hi(s:Sn):Prop:=∀{n k l t h:Nat} {es:EE} {cs:List Nat} {S:Sto} {Q:QE},(∀ e∈es,e.1<e.2/\e.2<n)->es.length<=60->t<es.length->h<1000->Prp es (cs.set t h)->S[k]?=some (.lst (e6 cs))->S[l]?=some (.lst [.tup [.int (t:Nat),.int (h:Nat)]])->(∀(l:Nat) (S':Sto),Gw S S'->S.length<=l->S'[l]?=some (.lst (e6 (cs.set t h)))->Q (.loc l) S')->s [f7 n es,.loc k,.loc l] S Q
theorem Pb(hΔ:∀ f,MonoN (Δ f)){ki:Nat}(hi:Ab (Δ ki)){D:Df}(hb:D.body=Qa ki)(hN:D.N.length=6)(hp:D.ps.length=3):Hi (f6 Δ D):=by
 intro n k l t h es cs S Q hen el tl h1 P hk hl q;have cl:cs.length=es.length:=by have:=P.len;rwa [VH]at this
 have kl:=(gM hk).1;have ll:=(gM hl).1;unfold f6;rw[hb,hN];refine⟨hp.symm,_,rfl,_,a7 hk,_,rfl,_,a7 (c7 hl),?_⟩;refine m6 (g6 hΔ _) (λi ρ S'=>∃(ds:List Nat) (o4 o5:Option SV),ρ=[some (f7 n es),some (.loc k),some (.loc l),some (.loc S.length),o4,o5]/\On S.length (S++[.lst (e6 cs)]) S'/\S'[S.length]?=some (.lst (e6 (if i=0 then cs else cs.set t h)))) ⟨[],none,none,rfl,On.refl _ _,c6⟩ (λi ρ S' z=>?_) ?_ ?_
 ·obtain⟨_,_,_,_,O,_⟩:=z;show S'[l]?=(S++[SO.lst (e6 cs)])[l]?;rw[c7 hl];exact O.keep _ _ (by omega) (c7 hl)
 ·rintro i x ρ S' hx ⟨ds,o4,o5,rfl,O,h5⟩;have i0:i<1:=(gM hx).1;have i0:i=0:=by omega
  subst i0;cases hx;rw[iP rfl]at h5;refine⟨_,rfl,_,rfl,_,rfl,_,t,h5,C1 (by rw[n8];omega),[],_,_,rfl,O.tape,?_⟩;rw[l6 h5,iG (by omega)];unfold e6;rw[X7,y4 h1]
 ·rintro ρ S' ⟨ds,o4,o5,rfl,O,h5⟩;rw[iG (by show ¬ (1=0);decide)]at h5;refine⟨_,rfl,_,rfl,hi hen el (Ez h5 (by rw[VH];omega)) λr S2 G2 e2=>?_⟩;have:r=true:=e2.mpr ⟨_,a7 h5,Cp P⟩;subst this;refine⟨_,rfl,ifT rfl ⟨_,rfl,q S.length S2 ?_ (Ux _) (G2.keep _ _ h5)⟩⟩;refine⟨VF (VF (by rw[Ut];omega) O.len) G2.len,λj o h=>G2.keep _ _ (O.keep j o ?_ (c7 h))⟩;exact V4 (gM h).1
def Qb(kl kh kw:Nat):List Stm:=[(.iff (.or (.not (.call kl (.cons (.var 0) (.cons (.var 1) (.cons (.var 2) .nil))))) (.not (.call kh (.cons (.var 3) .nil)))) [(.ret (.c .non))] []),(.ret (.call kw (.cons (.var 0) (.cons (.var 1) (.cons (.lst (.cons (.tup (.cons (.var 2) (.cons (.var 3) .nil))) .nil)) .nil)))))]
theorem Pc{kl kh kw:Nat}(hl:F4 (Δ kl))(hh:N8 (Δ kh))(hw:Hi (Δ kw)){D:Df}(hb:D.body=Qb kl kh kw)(hN:D.N.length=4)(hp:D.ps.length=4):AG (f6 Δ D) Hh EM:=by
 intro n H k es cs st S Q is P hen el hH ok hk q;cases st with
 | row p a b=>exact is.elim
 | hue t h=>
   have ok':=ok;obtain⟨tl,h0,h1,h2⟩:=ok;unfold f6;rw[hb,hN];have g:Gd (VS S) 0 10 (.int (h:Nat)) := .int ⟨by omega,by omega⟩;have i0:PX (.int (h:Nat))=true:=(show decide ((0:Int)<=((h:Nat):Int))=true from decide_eq_true (by omega))
   refine⟨hp.symm,_,rfl,_,rfl,_,rfl,hl P.len tl h0 hk ⟨_,rfl,ifF rfl ⟨_,rfl,hh g ⟨_,rfl,?_⟩⟩⟩⟩;rw[i0];refine ifF rfl (c8 ?_);refine⟨_,rfl,_,rfl,_,rfl,_,rfl,by show 2<=100000;decide,by show 1<=100000;decide,?_⟩;have G1:Gw S (S++[SO.lst [.tup [.int (t:Nat),.int (h:Nat)]]]):=(Gw.refl S).push;exact hw hen el tl (by omega) (Bc P hen ok') (c7 hk) c6 λl S' G' l' h'=>q l S' (G1.trans G') (VF G1.len l') h'
theorem KJ{kh kd km kr:Nat}(hh:AG (Δ kh) Hh EM)(hr:AG (Δ kr) NJ EM){D:Df}(hb:D.body=N9 kh kd km kr)(hN:D.N.length=4)(hp:D.ps.length=3):AG (f6 Δ D) (λ_=>True) λs=>[v6 s]:=by
 intro n H k es cs st S Q _ P hen el hH ok hk q;unfold f6;rw[hb,hN];cases st with
 | hue t h=>
   refine⟨hp.symm,_,rfl,_,nofun,rfl,_,rfl,ifF rfl ⟨_,rfl,true,rfl,ifF rfl (c8 ?_)⟩⟩;refine⟨_,rfl,_,_,rfl,rfl,?_⟩;refine⟨_,rfl,_,rfl,ifT (decide_eq_true rfl) ⟨_,rfl,_,rfl,_,rfl,ifT rfl ?_⟩⟩;exact⟨_,rfl,_,rfl,_,rfl,_,_,rfl,rfl,_,rfl,_,_,rfl,rfl,hh (st := .hue t h) trivial P hen el hH ok hk q⟩
 | row p a b=>
   have no:∀ w:Str,w≠"row"->decide (("row":Str)=w)=false:=λw h=>decide_eq_false λz=>h z.symm;refine⟨hp.symm,_,rfl,_,nofun,rfl,_,rfl,ifF rfl ⟨_,rfl,true,rfl,ifF rfl (c8 ?_)⟩⟩;refine⟨_,rfl,_,_,rfl,rfl,?_⟩;refine⟨_,rfl,_,rfl,ifF (no "hue" (by decide)) (ifF rfl (c8 ?_))⟩;refine⟨_,rfl,_,rfl,ifF (no "drop" (by decide)) (ifF rfl (c8 ?_))⟩;refine⟨_,rfl,_,rfl,ifF (no "move" (by decide)) (ifF rfl (c8 ?_))⟩;refine⟨_,rfl,_,rfl,ifT (decide_eq_true rfl) ⟨_,rfl,_,rfl,_,rfl,ifT rfl ?_⟩⟩;exact⟨_,rfl,_,rfl,_,rfl,_,_,rfl,rfl,_,rfl,_,_,rfl,rfl,_,rfl,_,_,rfl,rfl,hr (st := .row p a b) trivial P hen el hH ok hk q⟩
def CT(s:Sn):Prop:=∀{n H k k2:Nat} {es:EE} {cs:List Nat} {sts:List Stp} {S:Sto} {Q:QE},S[k]?=some (.lst (e6 cs))->S[k2]?=some (.lst (sts.map v6))->sts.length<=2000->Prp es cs->(∀ e∈es,e.1<e.2/\e.2<n)->es.length<=60->H<=1000->OkR n H es cs sts->(∀(l:Nat) (ls:List Nat) (S':Sto),Gw S S'->S'[l]?=some (.lst (ls.map SV.loc))->ls.length=sts.length->(∀ i k:Nat,ls[i]?=some k->S.length<=k/\S'[k]?=some (.lst (e6 (AJ es cs (sts.take (i+1))))))->Q (.loc l) S')->s [f7 n es,.loc k,.loc k2] S Q
theorem GK{sts:List Stp}{i:Nat}{x:SV}(h:(sts.map v6)[i]?=some x):∃ s,sts[i]?=some s/\x=v6 s:=by
 rw[Uz]at h;cases he:sts[i]? with
 | none=>rw[he]at h;cases h
 | some e=>rw[he]at h;exact⟨e,rfl,(oj h).symm⟩
theorem Hj(hΔ:∀ f,MonoN (Δ f)){ka:Nat}(ha:AG (Δ ka) (λ_=>True) λs=>[v6 s]){D:Df}(hb:D.body=J2 ka)(hN:D.N.length=7)(hp:D.ps.length=3):CT (f6 Δ D):=by
 intro n H k k2 es cs sts S Q hk h2 hs P hen el hH ok q;have kl:=(gM hk).1;have k2l:=(gM h2).1;unfold f6;rw[hb,hN];refine⟨hp.symm,by show 0<=100000;decide,_,rfl,_,rfl,_,a7 (c7 h2),?_⟩;have hl:(S++[SO.lst []])[S.length]?=some (SO.lst []):=c6;have hk1:=c7 (o:=SO.lst []) hk;have h21:=c7 (o:=SO.lst []) h2;have G1:Gw S (S++[SO.lst []]):=(Gw.refl S).push;have l1:(S++[SO.lst []]).length=S.length+1:=by simp
 generalize S++[SO.lst []]=S1 at *;refine m6 (g6 hΔ _) (λj ρ S2=>On S.length S1 S2/\∃(c:Nat) (ls:List Nat) (o5 o6:Option SV),ρ=[some (f7 n es),some (.loc k),some (.loc k2),some (.loc S.length),some (.loc c),o5,o6]/\S2[c]?=some (.lst (e6 (AJ es cs (sts.take j))))/\S2[S.length]?=some (.lst (ls.map SV.loc))/\ls.length=j/\∀ i k:Nat,ls[i]?=some k->S.length<k/\S2[k]?=some (.lst (e6 (AJ es cs (sts.take (i+1)))))) ⟨On.refl _ _,k,[],none,none,rfl,hk1,hl,rfl,λi k h=>by simp at h⟩ (λ_ _ S2 z=>?_) ?_ ?_
 ·show S2[k2]?=S1[k2]?;rw[z.1.keep _ _ (by omega) h21,h21]
 ·rintro j x ρ S2 hx ⟨O,c,ls,o5,o6,rfl,hc,hls,ll,rows⟩;obtain⟨y,hy,rfl⟩:=DM hx;obtain⟨s,hsj,rfl⟩:=GK hy;have jl:=(gM hsj).1;refine⟨_,rfl,_,rfl,_,rfl,ha trivial (ok.prpAt hen j P) hen el hH (ok.at hsj) hc λc2 S3 G3 c2l hc2=>?_⟩;rw[<-EK hsj]at hc2;have sl:=(gM hls).1;refine⟨_,rfl,.inl ⟨rfl,_,rfl,ifF rfl (c8 ?_)⟩⟩;have hl3:=G3.keep _ _ hls;refine⟨_,rfl,⟨_,_,rfl,hl3⟩,_,rfl,_,hl3,by rw[Ur];show _<100000;omega,?_⟩;refine⟨(O.trans (SS G3)).tape,c2,ls++[c2],_,_,rfl,by rw[j5 (by omega)];exact hc2,by rw[l6 hl3,VO];rfl,by rw[Ut,ll];rfl,λi k e=>?_⟩;rcases QO e with⟨e1,e2⟩ | e
  ·rw[e2,e1,ll];exact⟨by omega,by rw[j5 (by omega)];exact hc2⟩
  ·obtain⟨r1,r2⟩:=rows i k e;exact⟨r1,by rw[j5 (by omega)];exact G3.keep _ _ r2⟩
 ·rintro ρ S2 ⟨O,c,ls,o5,o6,rfl,hc,hls,ll,rows⟩;rw[Cn,Ur]at ll;refine⟨_,rfl,q _ ls S2 ⟨VF G1.len O.len,λj o h=>O.keep j o (λz=>?_) (G1.keep j o h)⟩ hls ll λi k e=>⟨by have:=(rows i k e).1;omega,(rows i k e).2⟩⟩;have:=(gM h).1;omega
theorem Hk(c:Nat):Ax (pS c)=!decide (c<1000):=by
 by_cases z:c<1000
 ·rw[y4 z,decide_eq_true z];rfl
 ·rw[Av z,decide_eq_false z];rfl
def CU(s:Sn):Prop:=∀{n k p:Nat} {es:EE} {cs:List Nat} {S:Sto} {Q:QE},S[k]?=some (.lst (e6 cs))->cs.length=es.length->es.length<=60->p<n->(∀(l:Nat) (ns:List Int) (S':Sto),Gw S S'->S'[l]?=some (.lst (ns.map SV.int))->(∀ h:Nat,h<1000->((h:Int)∈ns↔∃ u,AtP es u p/\hu cs u=h))->Q (.loc l) S')->s [f7 n es,.loc k,.int (p:Nat)] S Q
theorem Hl(hΔ:∀ f,MonoN (Δ f)){kt:Nat}(ht:BL (Δ kt)){D:Df}(hb:D.body=Iz kt)(hN:D.N.length=3)(hp:D.ps.length=3):CU (f6 Δ D):=by
 intro n k p es cs S Q hk hl hel hpn q;unfold f6;rw[hb,hN];refine⟨hp.symm,_,rfl,_,rfl,ht (by omega) hpn ⟨_,a7 c6,?_⟩⟩;have hk1:=c7 (o:=SO.lst (natS (g8 es p es.length))) hk;have G1:Gw S (S++[SO.lst (natS (g8 es p es.length))]):=(Gw.refl S).push;generalize S++[SO.lst (natS (g8 es p es.length))]=S1 at *;have tl:(g8 es p es.length).length<=es.length:=C4 _ _
 have fl:∀ j,((((g8 es p es.length).take j).map (hu cs)).filter λc=>decide (c<1000)).length<=es.length:=λj=>by
  have:=WD (λc=>decide (c<1000)) (((g8 es p es.length).take j).map (hu cs));rw[Ur,VN]at this;omega
 refine h9 (i9 hΔ _).2 (a8 hΔ _).1 (λj ys S2=>S2=S1/\ys=natS ((((g8 es p es.length).take j).map (hu cs)).filter λc=>decide (c<1000))) ⟨rfl,rfl⟩ (λ_ _ _ z=>by rw[z.1];exact rfl) ?_ ?_
 ·rintro j x ys S2 hx ⟨rfl,rfl⟩;obtain⟨t,htj,rfl⟩:=y0 hx;obtain⟨e,he,_⟩:=mem_tiesAt.mp (Us htj);have hc:=AT (cs:=cs) (t:=t) (by have:=(gM he).1;omega);have hjl:=(gM htj).1
  have es':(((g8 es p es.length).take (j+1)).map (hu cs)).filter (λc=>decide (c<1000))=(((g8 es p es.length).take j).map (hu cs)).filter (λc=>decide (c<1000))++if decide (hu cs t<1000)=true then [hu cs t] else []:=by
   rw[VZ,htj,VO,WN]
   congr 1
   show Xx (λc=>decide (c<1000)) [hu cs t]=_;rw[WM];rfl
  refine⟨_,rfl,_,rfl,_,_,a7 hk1,e7 (AA hc),.inl ⟨rfl,_,rfl,?_⟩⟩;show if (if true=true then !Ax (pS (hu cs t)) else Ax (pS (hu cs t)))=true then _ else _
  rw[iP rfl,Hk,YJ];refine ifD (λz=>?_) (λz=>⟨rfl,?_⟩)
  ·rw[iP (decide_eq_true z)]at es';refine⟨_,rfl,_,rfl,_,_,a7 hk1,e7 (AA hc),by rw[f8];have:=fl j;show _<100000;omega,rfl,?_⟩;rw[es',m7,y4 z];rfl
  ·rw[iG (by simpa using z),VY]at es';rw[es']
 ·rintro ys S2 ⟨rfl,rfl⟩;rw[f8,VW];have fl':=fl (g8 es p es.length).length;rw[VW]at fl';refine⟨_,_,nofun,a7 c6,Im _,by rw[Ur];omega,?_⟩;refine q _ _ _ G1.push.push c6 λh hh=>?_;rw[PZ];constructor
  ·intro z;obtain⟨c,hc,e⟩:=VV.mp z;obtain⟨u,hu',rfl⟩:=VV.mp (Vi.mp hc).1;exact⟨u,mem_tiesAt.mp hu',Vk.mp e⟩
  ·rintro⟨u,hu',rfl⟩;exact VV.mpr ⟨_,Vi.mpr ⟨VV.mpr ⟨u,mem_tiesAt.mpr hu',rfl⟩,decide_eq_true hh⟩,rfl⟩
def NN(ka:Nat):List Stm:=[(.asg (.nm 4) (.call ka (.cons (.var 0) (.cons (.var 1) (.cons (.var 2) .nil))))),(.ret (.comp ["hue"] ["taken"] [4] (.nm 0) (.rng1 (.var 3)) (.yes (.cmp .NotIn (.var 0) (.var 1))) (.var 0)))]
def F5(s:Sn):Prop:=∀{n H k p:Nat} {es:EE} {cs:List Nat} {S:Sto} {Q:QE},S[k]?=some (.lst (e6 cs))->cs.length=es.length->es.length<=60->p<n->H<=1000->(∀(l:Nat) (S':Sto),Gw S S'->S'[l]?=some (.lst (natS (frL es cs p H)))->Q (.loc l) S')->s [f7 n es,.loc k,.int (p:Nat),.int (H:Nat)] S Q
theorem NO(hΔ:∀ f,MonoN (Δ f)){ka:Nat}(ha:CU (Δ ka)){D:Df}(hb:D.body=NN ka)(hN:D.N.length=5)(hp:D.ps.length=4):F5 (f6 Δ D):=by
 intro n H k p es cs S Q hk hl hel hpn hH q;unfold f6;rw[hb,hN];refine⟨hp.symm,_,rfl,_,rfl,_,rfl,ha hk hl hel hpn λl ns S1 G1 h1 mem=>⟨_,rfl,_,rfl,⟨by omega,by omega⟩,?_⟩⟩;refine h9 (i9 hΔ _).2 (a8 hΔ _).1 (λj ys S2=>S2=S1/\ys=natS ((Uy j).filter λh=>(m9 es cs p h).isNone)) ⟨rfl,rfl⟩ (λ_ _ _ _=>trivial) ?_ ?_
 ·rintro j x ys S2 hx ⟨rfl,rfl⟩;have jl:j<H:=by have:=(gM hx).1;rw[m4]at this;omega
  obtain⟨rfl,hj⟩:=v7 hx;rw[Wa]at hj ⊢;have fs:=GD (λh=>(m9 es cs p h).isNone) j;have fl:=C4 (λh=>(m9 es cs p h).isNone) j;refine⟨_,rfl,_,rfl,?_⟩;show match D5 (.loc l) S2 with | some ms=>_ | none=>_
  rw[G7 h1];refine⟨rfl,_,a7 h1,NA _,_,rfl,?_⟩;show if (!inS (.int (j:Nat)) (ns.map SV.int))=true then _ else _
  rw[SZ]
  have e:(!decide ((j:Int)∈ns))=(m9 es cs p j).isNone:=by
   cases ht:m9 es cs p j with
   | none=>
     have:¬ (j:Int)∈ns:=λz=>by
      obtain⟨u,u1,u2⟩:=(mem j (by omega)).mp z;exact AL ht u u1 u2
     rw[decide_eq_false this];rfl
   | some t=>
     have:(j:Int)∈ns:=(mem j (by omega)).mpr ⟨t,(n9 ht).1,(n9 ht).2⟩;rw[decide_eq_true this];rfl
  rw[e];refine ifB (λz=>?_) (λz=>⟨rfl,?_⟩)
  ·rw[iP z]at fs;exact⟨_,rfl,by rw[f8];show _<100000;omega,rfl,by rw[fs,m7];rfl⟩
  ·rw[iG (by rw[z];decide),VY]at fs;rw[fs]
 ·rintro ys S2 ⟨rfl,rfl⟩;rw[m4,show((H:Int) - 0).toNat=H by omega];exact q _ _ G1.push c6
def sb4:Stm:=(.asg (.nm 8) (.comp ["hue"] ["there"] [7] (.nm 0) (.seq (.var 6)) (.yes (.cmp .In (.var 0) (.var 1))) (.var 0)))
def sb5:Stm:=(.iff (.var 8) [(.ret (.lst (.cons (.tup (.cons (.c (.str "hue")) (.cons (.var 2) (.cons (.ix (.var 8) (.c (.int 0))) .nil)))) .nil)))] [])
def sb6:Stm:=(.ret (.lst (.cons (.tup (.cons (.c (.str "row")) (.cons (.var 5) (.cons (.ix (.var 6) (.c (.int 0))) (.cons (.ix (.var 7) (.c (.int 0))) .nil))))) (.cons (.tup (.cons (.c (.str "hue")) (.cons (.var 2) (.cons (.ix (.var 6) (.c (.int 0))) .nil)))) .nil))))
def J5(kf:Nat):List Stm:=[(.asg (.tup (.cons (.nm 4) (.cons (.nm 5) .nil))) (.ix (.ix (.var 0) (.c (.int 1))) (.var 2))),(.asg (.nm 6) (.call kf (.cons (.var 0) (.cons (.var 1) (.cons (.var 4) (.cons (.var 3) .nil)))))),(.asg (.nm 7) (.call kf (.cons (.var 0) (.cons (.var 1) (.cons (.var 5) (.cons (.var 3) .nil)))))),sb4,sb5,sb6]
def DT(s:Sn):Prop:=∀{n H k t:Nat} {es:EE} {cs:List Nat} {S:Sto} {Q:QE},S[k]?=some (.lst (e6 cs))->cs.length=es.length->(∀ e∈es,e.1<e.2/\e.2<n)->es.length<=60->t<es.length->H<=1000->frL es cs (es.getD t (0,0)).1 H≠[]->frL es cs (es.getD t (0,0)).2 H≠[]->(∀(l:Nat) (S':Sto),Gw S S'->S.length<=l->S'[l]?=some (.lst ((j9 es cs t H).map v6))->Q (.loc l) S')->s [f7 n es,.loc k,.int (t:Nat),.int (H:Nat)] S Q
theorem CY{es:EE}{cs l:List Nat}{t H h:Nat}(hf:(frL es cs (es.getD t (0,0)).1 H).filter (λh=>decide (h∈frL es cs (es.getD t (0,0)).2 H))=h::l):j9 es cs t H=[.hue t h]:=by unfold j9;rw[hf]
theorem DU{es:EE}{cs:List Nat}{t H:Nat}(hf:(frL es cs (es.getD t (0,0)).1 H).filter (λh=>decide (h∈frL es cs (es.getD t (0,0)).2 H))=[]):j9 es cs t H=[.row (es.getD t (0,0)).2 ((frL es cs (es.getD t (0,0)).1 H).headD 0) ((frL es cs (es.getD t (0,0)).2 H).headD 0),.hue t ((frL es cs (es.getD t (0,0)).1 H).headD 0)]:=by unfold j9;rw[hf]
theorem Cr{l:List Nat}(h:l≠[]):(natS l)[0]?=some (.int (l.headD 0:Nat)):=by
 cases l with
 | nil=>exact absurd rfl h
 | cons a l=>rfl
theorem KK(hΔ:∀ f,MonoN (Δ f)){kf:Nat}(hf:F5 (Δ kf)){D:Df}(hb:D.body=J5 kf)(hN:D.N.length=9)(hp:D.ps.length=4):DT (f6 Δ D):=by
 intro n H k t es cs S Q hk cl hen el ht hH n1 n2 q;obtain⟨e,he⟩:∃ e,es[t]?=some e:=⟨_,Uq ht⟩
 have ge:es.getD t (0,0)=e:=by rw[V1,he];rfl
 have en:=hen e (Us he);have ge2:(es.map pairS)[t]?=some (pairS e):=by rw[Uz,he];rfl
 rw[ge]at n1 n2;unfold f6;rw[hb,hN];refine⟨hp.symm,_,rfl,_,_,rfl,rfl,_,rfl,_,_,rfl,e7 ge2,?_⟩;refine⟨_,rfl,_,rfl,_,rfl,_,rfl,hf hk cl el (by omega) hH λl1 S1 G1 h1=>?_⟩;refine⟨_,rfl,_,rfl,_,rfl,_,rfl,hf (G1.keep _ _ hk) cl el en.2 hH λl2 S2 G2 h2=>?_⟩;have h1':=G2.keep _ _ h1;have fl:∀ p,(frL es cs p H).length<=H:=λp=>C4 _ _;have f1:=fl e.1;show wSs Δ [sb4,sb5,sb6] (v8 Q) [some (f7 n es),some (.loc k),some (.int (t:Nat)),some (.int (H:Nat)),some (.int (e.1:Nat)),some (.int (e.2:Nat)),some (.loc l1),some (.loc l2),none] S2;refine⟨_,rfl,_,a7 h1',?_⟩;refine h9 (i9 hΔ _).2 (a8 hΔ _).1 (λj ys S3=>S3=S2/\ys=natS (((frL es cs e.1 H).take j).filter λh=>decide (h∈frL es cs e.2 H))) ⟨rfl,rfl⟩ (λ_ _ _ z=>by rw[z.1];exact rfl) ?_ ?_
 ·rintro j x ys S3 hx ⟨rfl,rfl⟩;obtain⟨h,hj,rfl⟩:=y0 hx;have jl:=(gM hj).1
  have es':((frL es cs e.1 H).take (j+1)).filter (λh=>decide (h∈frL es cs e.2 H))=((frL es cs e.1 H).take j).filter (λh=>decide (h∈frL es cs e.2 H))++if decide (h∈frL es cs e.2 H)=true then [h] else []:=by
   rw[VZ,hj,WN]
   congr 1
   show Xx _ [h]=_;rw[WM];rfl
  have ll:(((frL es cs e.1 H).take j).filter λh=>decide (h∈frL es cs e.2 H)).length<=H:=by
   have:=WD (λh=>decide (h∈frL es cs e.2 H)) ((frL es cs e.1 H).take j);rw[VN]at this;omega
  refine⟨_,rfl,_,rfl,?_⟩;show match D5 (.loc l2) S3 with | some ms=>_ | none=>_
  rw[G7 h2];refine⟨rfl,_,a7 h2,CQ _,_,rfl,?_⟩;show if inS (.int (h:Nat)) (natS (frL es cs e.2 H))=true then _ else _
  rw[SR];refine ifD (λz=>?_) (λz=>⟨rfl,?_⟩)
  ·rw[iP (decide_eq_true z)]at es';exact⟨_,rfl,by rw[f8];show _<100000;omega,rfl,by rw[es',m7];rfl⟩
  ·rw[iG (by simpa using z),VY]at es';rw[es']
 ·rintro ys S3 ⟨rfl,rfl⟩;rw[f8,VW];have G3:Gw S (S3++[SO.lst (natS ((frL es cs e.1 H).filter λh=>decide (h∈frL es cs e.2 H)))]):=(G1.trans G2).push;have h8:(S3++[SO.lst (natS ((frL es cs e.1 H).filter λh=>decide (h∈frL es cs e.2 H)))])[S3.length]?=_:=c6;have h18:=c7 (o:=SO.lst (natS ((frL es cs e.1 H).filter λh=>decide (h∈frL es cs e.2 H)))) h1';have h28:=c7 (o:=SO.lst (natS ((frL es cs e.1 H).filter λh=>decide (h∈frL es cs e.2 H)))) h2;generalize S3++[SO.lst (natS ((frL es cs e.1 H).filter λh=>decide (h∈frL es cs e.2 H)))]=S4 at *;cases hf':(frL es cs e.1 H).filter (λh=>decide (h∈frL es cs e.2 H)) with
  | cons h l=>
    have sr:=CY (t:=t) (by rw[ge];exact hf');rw[hf']at h8;refine⟨_,rfl,_,Er h8,ifT rfl ?_⟩;refine⟨_,rfl,_,rfl,_,_,a7 h8,e7 (Cr (l:=h::l) (by simp)),by show 3<=100000;decide,by show 1<=100000;decide,?_⟩;refine q _ _ G3.push G3.len ?_;rw[sr];exact c6
  | nil=>
    have sr:=DU (t:=t) (by rw[ge];exact hf');rw[ge]at sr;rw[hf']at h8;refine⟨_,rfl,_,Er h8,ifF rfl (c8 ?_)⟩;refine⟨_,rfl,_,rfl,_,_,a7 h18,e7 (Cr n1),_,rfl,_,_,a7 h28,e7 (Cr n2),by show 4<=100000;decide,_,rfl,_,rfl,_,_,a7 h18,e7 (Cr n1),by show 3<=100000;decide,by show 2<=100000;decide,?_⟩;refine q _ _ G3.push G3.len ?_;rw[sr];exact c6
end
theorem GL(m:Nat):(Uv m [SV.non]).flatten=e6 (cs0 m):=by
 rw[NC];unfold e6 cs0;rw[Xl];refine X5 λt _=>?_;show SV.non=pS (1000+t);rw[Av (by omega)]
theorem Bq{n:Nat}{es:EE}(h:es.length<=60):j3 es n<=60:=by
 rcases DQ es n with z | ⟨p,_,z⟩
 ·omega
 ·have:m8 es p=(g8 es p es.length).length:=rfl;have:=DN es p es.length;omega
theorem DV(es:EE)(cs:List Nat)(t H:Nat):1<=(j9 es cs t H).length/\(j9 es cs t H).length<=2:=by
 cases hf:(frL es cs (es.getD t (0,0)).1 H).filter (λh=>decide (h∈frL es cs (es.getD t (0,0)).2 H)) with
 | nil=>rw[DU hf];exact⟨by show 1<=2;decide,by show 2<=2;decide⟩
 | cons h l=>rw[CY hf];exact⟨by show 1<=1;decide,by show 1<=2;decide⟩
theorem J6(es:EE)(H:Nat):∀ i,(byF es H i).2.length<=2 * i
 | 0=>Ux _
 | i+1=>by
   have:=J6 es H i;have:=(DV es (byF es H i).1 i H).2;show((byF es H i).2++j9 es (byF es H i).1 i H).length<=_;rw[Ut];omega
theorem KL{xs:List SV}{x:SV}(h:xs[xs.length - 1]?=some x):atI xs (-1)=some x:=by
 have ne:xs≠[]:=λz=>by rw[z]at h;cases h
 have e:xs=xs.dropLast++[x]:=by
  have l:=Wf ne;rw[XF,h]at l;rw[oj l];exact(List.dropLast_concat_getLast ne).symm
 rw[e];exact Kr _ _
section
variable{Δ:Nat->Sn}
def by1(ks:Nat):Stm:=(.expr (.call ks (.cons (.var 0) .nil)))
def by2(km:Nat):Stm:=(.asg (.nm 1) (.call km (.cons (.var 0) .nil)))
def by3:Stm:=(.asg (.nm 2) (.op .Mult (.lst (.cons (.c .non) .nil)) (.bi .len (.cons (.ix (.var 0) (.c (.int 1))) .nil))))
def byL(kr kp:Nat):List Stm:=[(.asg (.nm 5) (.call kr (.cons (.var 0) (.cons (.var 2) (.cons (.var 4) (.cons (.var 1) .nil)))))),(.asg (.nm 2) (.ix (.call kp (.cons (.var 0) (.cons (.var 2) (.cons (.var 5) .nil)))) (.neg (.c (.int 1))))),(.expr (.mt .extend (.var 3) (.cons (.var 5) .nil)))]
def UT(ks km kr kp:Nat):List Stm:=[by1 ks,by2 km,by3,(.asg (.nm 3) (.lst .nil)),(.loop (.nm 4) (.rng1 (.bi .len (.cons (.ix (.var 0) (.c (.int 1))) .nil))) (byL kr kp)),(.ret (.tup (.cons (.var 2) (.cons (.var 3) .nil))))]
def Qc(s:Sn):Prop:=∀{n:Nat} {es:EE} {sd:Nat->Nat} {S:Sto} {Q:QE},Sdd n es sd->es.length<=60->n<=60->(∀(k1 k2:Nat) (S':Sto),Gw S S'->S.length<=k1->S.length<=k2->k1≠k2->S'[k1]?=some (.lst (e6 (byF es (j3 es n) es.length).1))->S'[k2]?=some (.lst ((byF es (j3 es n) es.length).2.map v6))->Q (.tup [.loc k1,.loc k2]) S')->s [f7 n es] S Q
theorem Sd(hΔ:∀ f,MonoN (Δ f)){ks km kr kp:Nat}(hs:DP (Δ ks))(hm:Hc (Δ km))(hr:DT (Δ kr))(hpl:CT (Δ kp)){D:Df}(hb:D.body=UT ks km kr kp)(hN:D.N.length=6)(hp:D.ps.length=1):Qc (f6 Δ D):=by
 intro n es sd S Q W el nn q;unfold f6;rw[hb,hN];refine⟨hp.symm,_,rfl,hs W (by omega) (by omega) λa S1 G1=>?_⟩;refine⟨_,rfl,hm W.en (by omega) λS2 G2=>?_⟩;have mH:=Bq (n:=n) el;have hc:∀ p,p<n->m8 es p<=j3 es n:=λp hp=>BP es hp;generalize j3 es n=H at *;have ok:=F3 W (show H<=1000 by omega) hc;refine⟨by show 1<=100000;decide,_,rfl,_,_,rfl,rfl,_,rfl,_,c6,⟨by rw[Ur];omega,by rw[Ur];omega⟩,by rw[Ur];show 1 * _<=100000;omega,by show 0<=100000;decide,?_⟩;rw[show(Uv (((es.map pairS).length:Nat):Int).toNat [SV.non]).flatten=e6 (cs0 es.length) by rw[Ur,W6];exact GL _];have G3:Gw S (S2++[SO.lst [SV.non]]++[SO.lst (e6 (cs0 es.length))]++[SO.lst []]):=((G1.trans G2).push.push).push;have c1:(S2++[SO.lst [SV.non]]++[SO.lst (e6 (cs0 es.length))]++[SO.lst []])[(S2++[SO.lst [SV.non]]).length]?=some (SO.lst (e6 (cs0 es.length))):=c7 c6;have c2:(S2++[SO.lst [SV.non]]++[SO.lst (e6 (cs0 es.length))]++[SO.lst []])[(S2++[SO.lst [SV.non]]++[SO.lst (e6 (cs0 es.length))]).length]?=some (SO.lst []):=c6;have e1:(S2++[SO.lst [SV.non]]).length=S2.length+1:=by simp
 have e2:(S2++[SO.lst [SV.non]]++[SO.lst (e6 (cs0 es.length))]).length=S2.length+2:=by simp
 rw[e1]at c1;rw[e2]at c2;have sl:=(G1.trans G2).len;show wSs Δ [(.loop (.nm 4) (.rng1 (.bi .len (.cons (.ix (.var 0) (.c (.int 1))) .nil))) (byL kr kp)),(.ret (.tup (.cons (.var 2) (.cons (.var 3) .nil))))] (v8 Q) [some (f7 n es),some (.int (H:Nat)),some (.loc (S2++[SO.lst [SV.non]]).length),some (.loc (S2++[SO.lst [SV.non]]++[SO.lst (e6 (cs0 es.length))]).length),none,none] (S2++[SO.lst [SV.non]]++[SO.lst (e6 (cs0 es.length))]++[SO.lst []]);rw[e1,e2];generalize S2++[SO.lst [SV.non]]++[SO.lst (e6 (cs0 es.length))]++[SO.lst []]=S3 at *;generalize S2.length=m at *;refine⟨_,rfl,_,_,rfl,rfl,_,rfl,_,rfl,⟨by rw[Ur];omega,by rw[Ur];omega⟩,?_⟩;refine m6 (g6 hΔ _) (λi ρ S'=>∃(c:Nat) (o4 o5:Option SV),ρ=[some (f7 n es),some (.int (H:Nat)),some (.loc c),some (.loc (m+2)),o4,o5]/\On (m+2) S3 S'/\c≠m+2/\m<=c/\S'[c]?=some (.lst (e6 (byF es H i).1))/\S'[m+2]?=some (.lst ((byF es H i).2.map v6))) ⟨m+1,none,none,rfl,On.refl _ _,by omega,by omega,c1,c2⟩ (λ_ _ _ _=>trivial) ?_ ?_
 ·rintro i x ρ S' hx ⟨c,o4,o5,rfl,O,cn,cm,hc',hs'⟩;have il:i<es.length:=by have:=(gM hx).1;rw[m4,Ur]at this;omega
  obtain⟨rfl,hi⟩:=v7 hx;rw[Wa]at hi ⊢;obtain⟨k1,k2,k3,k4,k5⟩:=ok i (by omega);obtain⟨e,he⟩:∃ e,es[i]?=some e:=⟨_,Uq il⟩
  have ge:es.getD i (0,0)=e:=by rw[V1,he];rfl
  have en:=W.en e (Us he);have n0:=k5 i (Ux _) il;have n1:=Cq (p:=e.1) (show H<=1000 by omega) ⟨e,he,.inl rfl⟩ n0 (hc e.1 (by omega));have n2:=Cq (p:=e.2) (show H<=1000 by omega) ⟨e,he,.inr rfl⟩ n0 (hc e.2 (by omega));obtain⟨s1,s2,s3⟩:=EL W k3 (show H<=1000 by omega) il n0 hc;obtain⟨l1,l2⟩:=DV es (byF es H i).1 i H;have bl:=J6 es H i;refine⟨_,rfl,_,rfl,_,rfl,_,rfl,hr hc' k3.len W.en el il (by omega) (by rw[ge];exact n1) (by rw[ge];exact n2) λl S4 G4 ll h4=>?_⟩;refine⟨_,rfl,_,rfl,_,rfl,hpl (G4.keep _ _ hc') h4 (by omega) k3 W.en el (show H<=1000 by omega) s1 λlp ls S5 G5 h5 lsl rows=>?_⟩;obtain⟨c3,hc3⟩:∃ c3,ls[(j9 es (byF es H i).1 i H).length - 1]?=some c3:=⟨_,Uq (by omega)⟩
  obtain⟨r1,r2⟩:=rows _ c3 hc3;rw[show(j9 es (byF es H i).1 i H).length - 1+1=(j9 es (byF es H i).1 i H).length by omega,VW]at r2;have la:atI (ls.map SV.loc) (-1)=some (.loc c3):=KL (by rw[Ur,lsl,Uz,hc3];rfl);refine⟨_,_,a7 h5,la,?_⟩;have s4:=(gM hs').1;have g4:=G4.len;have hs5:=G5.keep _ _ (G4.keep _ _ hs');have h45:=G5.keep _ _ h4;refine⟨_,rfl,⟨_,_,rfl,hs5⟩,_,rfl,_,_,hs5,h45,by rw[Ur,Ur];show _<=100000;omega,?_⟩;refine⟨c3,_,_,rfl,(O.trans (SS (G4.trans G5))).tape,by omega,by omega,by rw[j5 (by omega)];exact r2,?_⟩;rw[l6 hs5];show _=some (SO.lst (((byF es H i).2++j9 es (byF es H i).1 i H).map v6));rw[VO]
 ·rintro ρ S' ⟨c,o4,o5,rfl,O,cn,cm,hc',hs'⟩;rw[m4,Ur,show((es.length:Int) - 0).toNat=es.length by omega]at hc' hs';refine⟨_,rfl,_,rfl,by show 2<=100000;decide,?_⟩;refine q c (m+2) S' ⟨VF G3.len O.len,λj o h=>O.keep j o ?_ (G3.keep j o h)⟩ (by omega) (by omega) cn hc' hs';have:=(gM h).1;omega
end
def l7(cs:List Nat)(m h:Nat):List Nat:=(Uy m).filter λt=>decide (hu cs t=h)
def Cd(es:EE)(x t:Nat):Bool:=match es[t]? with | some e=>(decide (e.1=x)||decide (e.2=x)) | none=>false
theorem NP{es:EE}{x t:Nat}:Cd es x t=true↔AtP es t x:=by
 unfold Cd AtP;cases es[t]? with
 | none=>simp
 | some e=>simp
theorem NQ{es:EE}{cs:List Nat}{x one:Nat}(P:Prp es cs):(l7 cs es.length one).filter (Cd es x)=(m9 es cs x one).toList:=by
 unfold l7;rw[List.filter_filter]
 have mem:∀ t,(Cd es x t&&decide (hu cs t=one))=true↔AtP es t x/\hu cs t=one:=λt=>by
  rw[Uo,NP,dQ]
 cases hz:m9 es cs x one with
 | none=>
   rw[Option.toList_none,List.filter_eq_nil_iff];intro u hu' z;obtain⟨z1,z2⟩:=(mem u).mp z;exact AL hz u z1 z2
 | some t=>
   obtain⟨at',hc⟩:=n9 hz;refine ND at'.lt ((mem t).mpr ⟨at',hc⟩) λu ul hu'=>?_;obtain⟨u1,u2⟩:=(mem u).mp hu';exact P.one u t x u1 at' (u2.trans hc.symm)
section
variable{Δ:Nat->Sn}
theorem J7(hΔ:∀ f,MonoN (Δ f)){R:List SV->Sto->Prop}{k h m:Nat}{cs:List Nat}{S:Sto}(hk:S[k]?=some (.lst (e6 cs)))(cl:cs.length=m)(hm:m<=1000)(hh:h<1000)(q:R (natS (l7 cs m h)) S):p0 (λ_=>True) (.nm 0) (wEo Δ (.yes (.cmp .Eq (.ix (.var 1) (.var 0)) (.var 2)))).2 (wEx Δ (.var 0)).1 [none,some (.loc k),some (.int (h:Nat))] R (CI 0 (m:Nat)) [] S:=by
 refine h9 (i9 hΔ _).2 (a8 hΔ _).1 (λj ys S2=>S2=S/\ys=natS (l7 cs j h)) ⟨rfl,rfl⟩ (λ_ _ _ _=>trivial) ?_ ?_
 ·rintro j x ys S2 hx ⟨rfl,rfl⟩;have jl:j<m:=by have:=(gM hx).1;rw[m4]at this;omega
  obtain⟨rfl,hj⟩:=v7 hx;rw[Wa]at hj ⊢;have fs:=GD (λt=>decide (hu cs t=h)) j;have fl:=C4 (λt=>decide (hu cs t=h)) j;have hc:=AT (cs:=cs) (t:=j) (by omega);refine⟨_,rfl,_,rfl,_,_,a7 hk,e7 (AA hc),_,rfl,QZ hh ⟨_,rfl,ifD (λz=>?_) (λz=>⟨rfl,?_⟩)⟩⟩
  ·rw[iP (decide_eq_true z)]at fs;exact⟨_,rfl,by unfold l7;rw[f8];show _<100000;omega,rfl,by unfold l7;rw[fs,m7];rfl⟩
  ·rw[iG (by simpa using z),VY]at fs;unfold l7;rw[fs]
 ·rintro ys S2 ⟨rfl,rfl⟩;rw[m4,show((m:Int) - 0).toNat=m by omega];exact q
def lx1(j:Nat):Stm:=(.asg (.nm 5) (.comp ["_law_tie"] ["_law_hueing",if j=4 then "_law_other" else "_law_hue"] [1,j] (.nm 0) (.rng1 (.bi .len (.cons (.ix (.var 0) (.c (.int 1))) .nil))) (.yes (.cmp .Eq (.ix (.var 1) (.var 0)) (.var 2))) (.var 0)))
def lx2:Stm:=(.iff (.or (.cmp .Eq (.var 3) (.var 4)) (.bi .any (.cons (.comp ["_law_tie"] ["_law_place","_law_web"] [2,0] (.nm 0) (.seq (.var 5)) .no (.cmp .In (.var 1) (.ix (.ix (.var 2) (.c (.int 1))) (.var 0)))) .nil))) [(.ret (.c .non))] [])
def lx6:Stm:=(.asg (.nm 10) (.comp ["_law_tie"] ["_law_here","_law_web"] [7,0] (.nm 0) (.seq (.var 5)) (.yes (.cmp .In (.var 1) (.ix (.ix (.var 2) (.c (.int 1))) (.var 0)))) (.var 0)))
def lx7:Stm:=(.iff (.cmp .NotEq (.var 10) (.lst .nil)) [(.expr (.mt .append (.var 6) (.cons (.ix (.var 10) (.c (.int 0))) .nil))),(.asg (.nm 7) (.op .Sub (.op .Add (.ix (.ix (.ix (.var 0) (.c (.int 1))) (.ix (.var 10) (.c (.int 0)))) (.c (.int 0))) (.ix (.ix (.ix (.var 0) (.c (.int 1))) (.ix (.var 10) (.c (.int 0)))) (.c (.int 1)))) (.var 7))),(.asg (.nm 8) (.op .Sub (.op .Add (.var 3) (.var 4)) (.var 8)))] [(.ret (.var 6))])
def NR:List Stm:=[lx1 4,lx2,(.asg (.nm 6) (.lst .nil)),(.asg (.tup (.cons (.nm 7) (.cons (.nm 8) .nil))) (.tup (.cons (.var 2) (.cons (.var 3) .nil)))),(.loop (.nm 9) (.rng1 (.bi .len (.cons (.ix (.var 0) (.c (.int 1))) .nil))) [lx1 8,lx6,lx7]),(.ret (.var 6))]
theorem NS(hΔ:∀ f,MonoN (Δ f)){D:Df}(hb:D.body=NR)(hN:D.N.length=11)(hp:D.ps.length=5):CS (f6 Δ D):=by
 intro n k p a b es cs S Q hk a9 b9 P hen hel hpn ab hno q;have hne:∀ e∈es,e.1≠e.2:=λe he=>V4 (hen e he).1;have hl:=P.len;have ml:(es.map pairS).length=es.length:=Ur ..;have hlen:∀ h,(l7 cs es.length h).length<=es.length:=λh=>C4 _ _;have tieAt:∀(h t:Nat),t∈l7 cs es.length h->∃ e,es[t]?=some e:=λh t ht=>⟨_,Uq (VG.mp (Vi.mp ht).1)⟩
 unfold f6;rw[hb,hN];refine⟨hp.symm,_,rfl,_,_,rfl,rfl,_,rfl,_,rfl,⟨by rw[ml];omega,by rw[ml];omega⟩,?_⟩;rw[ml];refine J7 hΔ hk hl hel b9 ?_;have hk1:=c7 (o:=SO.lst (natS (l7 cs es.length b))) hk;have G1:Gw S (S++[SO.lst (natS (l7 cs es.length b))]):=(Gw.refl S).push;have h5:(S++[SO.lst (natS (l7 cs es.length b))])[S.length]?=_:=c6;show wSs Δ [lx2,(.asg (.nm 6) (.lst .nil)),(.asg (.tup (.cons (.nm 7) (.cons (.nm 8) .nil))) (.tup (.cons (.var 2) (.cons (.var 3) .nil)))),(.loop (.nm 9) (.rng1 (.bi .len (.cons (.ix (.var 0) (.c (.int 1))) .nil))) [lx1 8,lx6,lx7]),(.ret (.var 6))] (v8 Q) [some (f7 n es),some (.loc k),some (.int (p:Nat)),some (.int (a:Nat)),some (.int (b:Nat)),some (.loc S.length),none,none,none,none,none] (S++[SO.lst (natS (l7 cs es.length b))]);generalize S++[SO.lst (natS (l7 cs es.length b))]=S1 at *;generalize hl5:S.length=l5 at *;refine⟨_,rfl,_,rfl,_,rfl,ifF (decide_eq_false λz=>ab (Vk.mp z)) ⟨_,rfl,_,a7 h5,?_⟩⟩;refine h9 (i9 hΔ _).2 (a8 hΔ _).1 (λj ys S2=>S2=S1/\ys=Uv j (.bl false)) ⟨rfl,rfl⟩ (λ_ _ _ z=>by rw[z.1];exact rfl) ?_ ?_
 ·rintro i z ys S2 hz ⟨rfl,rfl⟩;obtain⟨t,hti,rfl⟩:=y0 hz;have tm:=Us hti;obtain⟨e,he⟩:=tieAt b t tm;have il:=(gM hti).1;have:=hlen b;have ge2:(es.map pairS)[t]?=some (pairS e):=by rw[Uz,he];rfl
  refine⟨_,rfl,_,rfl,_,_,rfl,rfl,_,rfl,_,_,rfl,e7 ge2,rfl,_,rfl,rfl,by rw[WC];show _<100000;omega,rfl,?_⟩;show Uv i (SV.bl false)++[SV.bl (inS (.int p) [.int e.1,.int e.2])]=_;rw[Ba,Wq];have hb':hu cs t=b:=of_decide_eq_true (Vi.mp tm).2
  have:(decide (e.1=p)||decide (e.2=p))=false:=by
   rw[Xm];intro z;exact hno t ⟨e,he,by simpa using z⟩ hb'
  rw[this]
 rintro ys S2 ⟨rfl,rfl⟩;refine⟨_,_,nofun,a7 c6,J1 _,_,rfl,?_⟩;rw[show ∀ n,(Uv n false).any id=false from λn=>by simp];refine ifF rfl (c8 ?_);have hk2:=c7 (o:=SO.lst (Uv (natS (l7 cs es.length b)).length (SV.bl false))) hk1;have G2:=G1.push (o:=SO.lst (Uv (natS (l7 cs es.length b)).length (SV.bl false)));generalize S2++[SO.lst (Uv (natS (l7 cs es.length b)).length (SV.bl false))]=S3 at *;refine⟨by show 0<=100000;decide,_,rfl,_,rfl,by show 2<=100000;decide,?_⟩;have h6:(S3++[SO.lst []])[S3.length]?=some (SO.lst []):=c6;have hk3:=c7 (o:=SO.lst []) hk2;have GS:=G2.push (o:=SO.lst []);have s1:=G2.len;rw[hl5]at s1;have kl:=(gM hk2).1;show wSs Δ [(.loop (.nm 9) (.rng1 (.bi .len (.cons (.ix (.var 0) (.c (.int 1))) .nil))) [lx1 8,lx6,lx7]),(.ret (.var 6))] (v8 Q) [some (f7 n es),some (.loc k),some (.int (p:Nat)),some (.int (a:Nat)),some (.int (b:Nat)),some (.loc l5),some (.loc S3.length),some (.int (p:Nat)),some (.int (a:Nat)),none,none] (S3++[SO.lst []]);generalize S3++[SO.lst []]=S4 at *;generalize S3.length=l at *;refine⟨_,rfl,_,_,rfl,rfl,_,rfl,_,rfl,⟨by rw[ml];omega,by rw[ml];omega⟩,?_⟩;rw[ml]
 have done:∀(r:List Nat) (x one other:Nat) (S5:Sto),RwI es cs a b p r x one other->r++rwF es cs (es.length+1 - r.length) x one other=rwF es cs (es.length+1) p a b->m9 es cs x one=none->On l S4 S5->S5[l]?=some (.lst (natS r))->Q (.loc l) S5:=by
  intro r x one other S5 R er hz O hr;have rl:=R.len
  have e0:rwF es cs (es.length+1 - r.length) x one other=[]:=by
   rw[show es.length+1 - r.length=(es.length - r.length)+1 by omega];unfold rwF;rw[hz]
  rw[e0,VY]at er;refine q l S5 ⟨VF GS.len O.len,λj o h=>O.keep j o (λz=>?_) (GS.keep j o h)⟩ s1 (by rw[hr,er]);have:=(gM h).1;omega
 refine m6 (g6 hΔ _) (λj ρ S5=>∃(r:List Nat) (x one other:Nat) (o5 o9 o10:Option SV),ρ=[some (f7 n es),some (.loc k),some (.int (p:Nat)),some (.int (a:Nat)),some (.int (b:Nat)),o5,some (.loc l),some (.int (x:Nat)),some (.int (one:Nat)),o9,o10]/\RwI es cs a b p r x one other/\x<n/\r++rwF es cs (es.length+1 - r.length) x one other=rwF es cs (es.length+1) p a b/\r.length=j/\On l S4 S5/\S5[l]?=some (.lst (natS r))) ⟨[],p,a,b,_,none,none,rfl,RwI.nil hno,hpn,rfl,rfl,On.refl _ _,h6⟩ (λ_ _ _ _=>trivial) ?_ ?_
 ·rintro j z ρ S5 hz ⟨r,x,one,other,o5,o9,o10,rfl,R,xn,er,rj,O,hr⟩;have rl:=R.len;have hk':=O.keep _ _ (by omega) hk3;have o9':one<1000:=by rcases R.ab.1 with z | z<;>rw[z]<;>assumption
  refine⟨_,rfl,_,_,rfl,rfl,_,rfl,_,rfl,⟨by rw[ml];omega,by rw[ml];omega⟩,?_⟩;rw[ml];refine J7 hΔ hk' hl hel o9' ?_;have ll:=(gM hr).1;have hr1:=c7 (o:=SO.lst (natS (l7 cs es.length one))) hr;have O1:On l S4 (S5++[SO.lst (natS (l7 cs es.length one))]):=O.push;have h51:(S5++[SO.lst (natS (l7 cs es.length one))])[S5.length]?=_:=c6;have s61:S5.length<(S5++[SO.lst (natS (l7 cs es.length one))]).length:=by simp
  show wSs Δ [lx6,lx7] _ [some (f7 n es),some (.loc k),some (.int (p:Nat)),some (.int (a:Nat)),some (.int (b:Nat)),some (.loc S5.length),some (.loc l),some (.int (x:Nat)),some (.int (one:Nat)),some z,o10] (S5++[SO.lst (natS (l7 cs es.length one))]);generalize S5++[SO.lst (natS (l7 cs es.length one))]=S6 at *;generalize S5.length=l9 at *;refine⟨_,rfl,_,a7 h51,?_⟩;refine h9 (i9 hΔ _).2 (a8 hΔ _).1 (λj ys S7=>S7=S6/\ys=natS (((l7 cs es.length one).take j).filter (Cd es x))) ⟨rfl,rfl⟩ (λ_ _ _ z=>by rw[z.1];exact rfl) ?_ ?_
  ·rintro i z ys S7 hz ⟨rfl,rfl⟩;obtain⟨t,hti,rfl⟩:=y0 hz;have tm:=Us hti;obtain⟨e,he⟩:=tieAt one t tm;have il:=(gM hti).1;have:=hlen one;have ge2:(es.map pairS)[t]?=some (pairS e):=by rw[Uz,he];rfl
   have es':((l7 cs es.length one).take (i+1)).filter (Cd es x)=((l7 cs es.length one).take i).filter (Cd es x)++if Cd es x t=true then [t] else []:=by
    rw[VZ,hti,WN]
    congr 1
    show Xx _ [t]=_;rw[WM];rfl
   have ll:(((l7 cs es.length one).take i).filter (Cd es x)).length<=es.length:=by
    have:=WD (Cd es x) ((l7 cs es.length one).take i);rw[VN]at this;omega
   have hE:Cd es x t=(decide (e.1=x)||decide (e.2=x)):=by unfold Cd;rw[he]
   refine⟨_,rfl,_,rfl,_,_,rfl,rfl,_,rfl,_,_,rfl,e7 ge2,rfl,_,rfl,rfl,_,rfl,?_⟩;show if inS (.int x) [.int e.1,.int e.2]=true then _ else _
   rw[Ba,<-hE];refine ifB (λz=>?_) (λz=>⟨rfl,?_⟩)
   ·rw[iP z]at es';exact⟨_,rfl,by rw[f8];show _<100000;omega,rfl,by rw[es',m7];rfl⟩
   ·rw[iG (by rw[z];decide),VY]at es';rw[es']
  rintro ys S7 ⟨rfl,rfl⟩;rw[f8,VW,NQ P];have hr2:=c7 (o:=SO.lst (natS (m9 es cs x one).toList)) hr1;have O2:On l S4 (S7++[SO.lst (natS (m9 es cs x one).toList)]):=O1.push;have h8:(S7++[SO.lst (natS (m9 es cs x one).toList)])[S7.length]?=_:=c6;have s7:l<S7.length:=by omega
  show wSs Δ [lx7] _ [some (f7 n es),some (.loc k),some (.int (p:Nat)),some (.int (a:Nat)),some (.int (b:Nat)),some (.loc l9),some (.loc l),some (.int (x:Nat)),some (.int (one:Nat)),some z,some (.loc S7.length)] (S7++[SO.lst (natS (m9 es cs x one).toList)]);generalize S7++[SO.lst (natS (m9 es cs x one).toList)]=S8 at *;generalize S7.length=l8 at *;cases hz:m9 es cs x one with
  | none=>
    rw[hz]at h8;refine⟨_,rfl,by show 0<=100000;decide,_,_,c7 h8,c6,.inr (.inr rfl),_,rfl,ifF rfl ?_⟩;exact⟨_,rfl,done r x one other _ R er hz O2.push (c7 hr2)⟩
  | some t=>
    rw[hz]at h8;obtain⟨⟨e,he,hx⟩,hcx⟩:=n9 hz;have hee:=hen e (Us he);have ge:es.getD t (0,0)=e:=by rw[V1,he];rfl
    have R':=R.step P ab he hx (hne e (Us he)) hcx;have fn:farE e x<n:=by unfold farE;split<;>omega
    have e1:rwF es cs (es.length+1 - r.length) x one other=t::rwF es cs (es.length+1 - (r++[t]).length) (farE e x) other one:=by
     rw[show es.length+1 - r.length=(es.length - r.length)+1 by omega,show es.length+1 - (r++[t]).length=es.length - r.length by rw[Ut];simp]
     conv=>lhs;unfold rwF
     rw[hz];dsimp only;rw[ge]
    refine⟨_,rfl,by show 0<=100000;decide,_,_,c7 h8,c6,.inr (.inr rfl),_,rfl,ifT rfl ?_⟩;have hr3:=c7 (o:=SO.lst []) hr2;have h83:=c7 (o:=SO.lst []) h8;have O3:On l S4 (S8++[SO.lst []]):=O2.push;generalize S8++[SO.lst []]=S9 at *;refine⟨_,rfl,⟨_,_,rfl,hr3⟩,_,rfl,_,_,a7 h83,rfl,_,hr3,by rw[f8];show _<100000;omega,?_⟩;have h3:(S9.set l (.lst (natS r++[.int (t:Nat)])))[l]?=some (.lst (natS (r++[t]))):=by rw[l6 hr3,m7];rfl
    have O4:On l S4 (S9.set l (.lst (natS r++[.int (t:Nat)]))):=O3.tape;have h84:(S9.set l (.lst (natS r++[.int (t:Nat)])))[l8]?=some (.lst [.int (t:Nat)]):=by rw[j5 (by omega)];exact h83
    generalize S9.set l (.lst (natS r++[.int (t:Nat)]))=S10 at *;have ge2:(es.map pairS)[t]?=some (pairS e):=by rw[Uz,he];rfl
    refine⟨_,rfl,_,_,rfl,rfl,_,rfl,_,_,a7 h84,rfl,_,_,rfl,e7 ge2,_,_,rfl,rfl,_,rfl,_,_,rfl,rfl,_,rfl,_,_,a7 h84,rfl,_,_,rfl,e7 ge2,_,_,rfl,rfl,_,rfl,_,rfl,_,rfl,_,rfl,?_⟩
    have fin:∀ z1 z2:Int,z1=((farE e x:Nat):Int)->z2=((other:Nat):Int)->∃(r:List Nat) (x one other:Nat) (o5 o9 o10:Option SV),[some (f7 n es),some (.loc k),some (.int (p:Nat)),some (.int (a:Nat)),some (.int (b:Nat)),some (.loc l9),some (.loc l),some (.int z1),some (.int z2),some z,some (.loc l8)]=[some (f7 n es),some (.loc k),some (.int (p:Nat)),some (.int (a:Nat)),some (.int (b:Nat)),o5,some (.loc l),some (.int (x:Nat)),some (.int (one:Nat)),o9,o10]/\RwI es cs a b p r x one other/\x<n/\r++rwF es cs (es.length+1 - r.length) x one other=rwF es cs (es.length+1) p a b/\r.length=j+1/\On l S4 S10/\S10[l]?=some (.lst (natS r)):=by
     rintro _ _ rfl rfl;exact⟨r++[t],farE e x,other,one,_,_,_,rfl,R',fn,by rw[<-er,e1];simp,by rw[Ut,rj];rfl,O4,h3⟩
    refine fin _ _ ?_ ?_
    ·unfold farE;split<;>omega
    ·have:=R.d1;have:=R.d2;by_cases c:r.length % 2=0
     ·rw[iP c]at *;omega
     ·rw[iG c]at *;omega
 ·rintro ρ S5 ⟨r,x,one,other,o5,o9,o10,rfl,R,xn,er,rj,O,hr⟩;rw[m4,show((es.length:Int) - 0).toNat=es.length by omega]at rj
  have hz:m9 es cs x one=none:=by
   cases hz:m9 es cs x one with
   | none=>rfl
   | some t=>
     obtain⟨⟨e,he,hx⟩,hcx⟩:=n9 hz;have:=(R.step P ab he hx (hne e (Us he)) hcx).len;rw[Ut]at this;simp at this;omega
  exact⟨_,rfl,done r x one other _ R er hz O hr⟩
def bx1:Stm:=(.iff (.or (.not (.bi .isi (.cons (.var 2) (.cons (.tyc .tuple) .nil)))) (.cmp .NotIn (.bi .len (.cons (.var 2) .nil)) (.tup (.cons (.c (.int 3)) (.cons (.c (.int 4)) .nil))))) [(.ret (.c .non))] [])
def bxH:List Stm:=[(.iff (.or (.not (.chn .LtE .Lt (.c (.int 0)) (.ix (.var 2) (.c (.int 1))) (.bi .len (.cons (.var 3) .nil)))) (.cmp .IsNot (.ix (.var 3) (.ix (.var 2) (.c (.int 1)))) (.c .non))) [(.ret (.c .non))] []),(.put (.var 3) (.ix (.var 2) (.c (.int 1))) (.ix (.var 2) (.c (.int 2))))]
def bxL:Stm:=(.loop (.nm 5) (.seq (.var 4)) [(.put (.var 3) (.var 5) (.op .Sub (.op .Add (.ix (.var 2) (.c (.int 2))) (.ix (.var 2) (.c (.int 3)))) (.ix (.var 3) (.var 5))))])
def bxR(kr:Nat):List Stm:=[(.asg (.nm 4) (.call kr (.cons (.var 0) (.cons (.var 1) (.cons (.ix (.var 2) (.c (.int 1))) (.cons (.ix (.var 2) (.c (.int 2))) (.cons (.ix (.var 2) (.c (.int 3))) .nil))))))),(.iff (.cmp .Is (.var 4) (.c .non)) [(.ret (.c .non))] []),bxL]
def bx3(kr:Nat):Stm:=(.iff (.and (.cmp .Eq (.ix (.var 2) (.c (.int 0))) (.c (.str "hue"))) (.cmp .Eq (.bi .len (.cons (.var 2) .nil)) (.c (.int 3)))) bxH [(.iff (.and (.cmp .Eq (.ix (.var 2) (.c (.int 0))) (.c (.str "row"))) (.and (.cmp .Eq (.bi .len (.cons (.var 2) .nil)) (.c (.int 4))) (.chn .LtE .Lt (.c (.int 0)) (.ix (.var 2) (.c (.int 1))) (.ix (.var 0) (.c (.int 0)))))) (bxR kr) [(.ret (.c .non))])])
def J8(kr:Nat):List Stm:=[(.asg (.nm 3) (.bi .list (.cons (.var 1) .nil))),bx1,bx3 kr,(.ret (.var 3))]
theorem KM(hΔ:∀ f,MonoN (Δ f)){kr:Nat}(hr:CS (Δ kr)){D:Df}(hb:D.body=J8 kr)(hN:D.N.length=6)(hp:D.ps.length=3):AG (f6 Δ D) (λ_=>True) λs=>[v6 s]:=by
 intro n H k es cs st S Q _ P hen el hH ok hk q;have kl:=(gM hk).1;have cl:=P.len;unfold f6;rw[hb,hN];have lo:∀ c:Nat,decide ((0:Int)<=(c:Nat))=true:=λc=>decide_eq_true (by omega);have hi:∀ c d:Nat,c<d->decide (((c:Nat):Int)<(d:Nat))=true:=λc d h=>decide_eq_true (by omega);cases st with
 | hue t h=>
   obtain⟨tl,h0,h1,h2⟩:=ok;have hc:=AT (cs:=cs) (t:=t) (by omega);have hcp:(e6 cs)[t]?=some .non:=by rw[AA hc,Av h0]
   refine⟨hp.symm,_,rfl,_,a7 hk,?_⟩;refine⟨_,rfl,_,nofun,rfl,_,rfl,ifF rfl ⟨_,rfl,_,rfl,by show 2<=100000;decide,rfl,_,rfl,rfl,_,rfl,ifF rfl (c8 ?_)⟩⟩;refine⟨_,rfl,_,_,rfl,rfl,_,rfl,ifT (decide_eq_true rfl) ⟨_,rfl,_,rfl,_,rfl,ifT rfl ?_⟩⟩;refine⟨_,rfl,_,_,rfl,rfl,_,rfl,ifT (lo t) ⟨_,rfl,_,a7 c6,_,rfl,ifF ?_ ?_⟩⟩
   ·rw[n8,hi t cs.length (by omega)];rfl
   refine⟨_,rfl,_,rfl,_,_,rfl,rfl,_,_,a7 c6,e7 hcp,.inl ⟨rfl,_,rfl,ifF rfl (c8 ?_)⟩⟩;refine⟨_,rfl,_,_,rfl,rfl,_,rfl,_,rfl,_,_,rfl,rfl,_,t,c6,C1 (by rw[n8];omega),_,rfl,?_⟩;refine q S.length _ ((Gw.refl S).push.put (Ux _)) (Ux _) ?_;rw[l6 c6];show _=some (SO.lst (e6 (cs.set t h)));unfold e6;rw[X7,y4 (by omega)]
 | row p a b=>
   have ok':=ok;obtain⟨a1,b1,ab,pn,no⟩:=ok;obtain⟨x,o1,o2,R,last⟩:=C6 P hen ab no;have two:=C7 R;refine⟨hp.symm,_,rfl,_,a7 hk,?_⟩;refine⟨_,rfl,_,nofun,rfl,_,rfl,ifF rfl ⟨_,rfl,_,rfl,by show 2<=100000;decide,rfl,_,rfl,rfl,_,rfl,ifF rfl (c8 ?_)⟩⟩;refine⟨_,rfl,_,_,rfl,rfl,_,rfl,ifF (decide_eq_false (by decide)) (ifF rfl ?_)⟩;refine⟨_,rfl,_,_,rfl,rfl,_,rfl,ifT (decide_eq_true rfl) ⟨_,rfl,_,rfl,_,rfl,ifT rfl ⟨_,rfl,_,_,rfl,rfl,_,rfl,ifT (lo p) ⟨_,rfl,_,_,rfl,rfl,_,rfl,ifT (hi p n pn) ?_⟩⟩⟩⟩;refine⟨_,rfl,_,rfl,_,rfl,_,_,rfl,rfl,_,rfl,_,_,rfl,rfl,_,rfl,_,_,rfl,rfl,hr (c7 hk) (by omega) (by omega) P hen (by omega) pn ab no λl S1 G1 l1 h1=>?_⟩;refine⟨_,rfl,.inl ⟨rfl,_,rfl,ifF rfl (c8 ?_)⟩⟩;generalize hrr:rwF es cs (es.length+1) p a b=r at *;have f0:S1[S.length]?=some (SO.lst (e6 cs)):=G1.keep _ _ c6;have l1:S.length+1<=l:=by rw[Ut]at l1;exact l1
   refine⟨_,rfl,_,a7 h1,?_⟩;refine m6 (g6 hΔ _) (λi ρ S'=>∃ o5:Option SV,ρ=[some (f7 n es),some (.loc k),some (v6 (.row p a b)),some (.loc S.length),some (.loc l),o5]/\On S.length S1 S'/\S'[S.length]?=some (.lst (e6 (exL cs (r.take i) a b)))) ⟨none,rfl,On.refl _ _,by rw[XA,Iy];exact f0⟩ (λi ρ S' z=>?_) ?_ ?_
   ·obtain⟨_,_,O,_⟩:=z;show S'[l]?=S1[l]?;rw[h1];exact O.keep _ _ (by omega) h1
   ·rintro i y ρ S' hy ⟨o5,rfl,O,h5⟩;obtain⟨t,hti,rfl⟩:=y0 hy;have tr:=Us hti;have tl:=R.lt t tr;have e:r.take (i+1)=r.take i++[t]:=by rw[VZ,hti];rfl
    have tn:t∉r.take i:=λz=>by
     obtain⟨j,hj⟩:=Vg z;have jl:=(gM hj).1;rw[VN]at jl;rw[XH (by omega)]at hj;obtain⟨g1,g2⟩:=gM hj;obtain⟨g3,g4⟩:=gM hti;exact(Wt.mp R.nd j i g1 g3 (by omega)) (g2.trans g4.symm)
    have hcu:hu (exL cs (r.take i) a b) t=hu cs t:=by rw[Bp (by omega),iG tn]
    have hc9:hu cs t<1000:=by rcases two t tr with z | z<;>rw[z]<;>omega
    have hcp:(e6 (exL cs (r.take i) a b))[t]?=some (.int (hu cs t:Nat)):=by rw[AA (AT (by rw[A9];omega)),hcu,y4 hc9]
    have fin:∀ z:Int,z=((if hu cs t=a then b else a:Nat):Int)->Eh (.loc S.length) (.int (t:Nat)) (.int z) S' λS4=>∃ o5:Option SV,[some (f7 n es),some (.loc k),some (v6 (.row p a b)),some (.loc S.length),some (.loc l),some (.int (t:Nat))]=[some (f7 n es),some (.loc k),some (v6 (.row p a b)),some (.loc S.length),some (.loc l),o5]/\On S.length S1 S4/\S4[S.length]?=some (.lst (e6 (exL cs (r.take (i+1)) a b))):=by
     rintro _ rfl;refine⟨_,t,h5,C1 (by rw[n8,A9];omega),_,rfl,O.tape,?_⟩;rw[l6 h5,e,GH (by omega)];unfold e6;rw[X7,y4 (by split<;>omega)]
    refine⟨_,rfl,_,_,rfl,rfl,_,rfl,_,_,rfl,rfl,_,rfl,_,rfl,_,_,a7 h5,e7 hcp,_,rfl,_,rfl,fin _ ?_⟩;rcases two t tr with z | z
    ·rw[iP z];omega
    ·rw[iG (by omega)];omega
   ·rintro ρ S' ⟨o5,rfl,O,h5⟩;rw[f8,VW]at h5;refine⟨_,rfl,q S.length S' ?_ (Ux _) (by rw[h5];show _=some (SO.lst (e6 (exL cs (rwF es cs (es.length+1) p a b) a b)));rw[hrr])⟩;refine⟨VF (VF (by rw[Ut];omega) G1.len) O.len,λj o h=>O.keep j o ?_ (G1.keep _ _ (c7 h))⟩;exact V4 (gM h).1
end
theorem OkR.kept{n H:Nat}{es:EE}{cs:List Nat}(hen:∀ e∈es,e.1<e.2/\e.2<n)(hH:H<=1000)(P:Prp es cs){s:Stp}(h:CW n H es cs s):∀ u,u<es.length->hu cs u<1000->hu (stN es cs s) u<1000:=λu ul=>(NG P hen hH h ul).2.1
theorem NT{cs:List Nat}(h:∀ c∈cs,c<1000):e6 cs=natS cs:=by
 unfold e6 natS;exact X5 λc hc=>y4 (h c hc)
section
variable{Δ:Nat->Sn}
def wk2:Stm:=(.iff (.bi .any (.cons (.comp ["_law_tie"] ["_law_hueing","_law_found"] [2,4] (.nm 0) (.rng1 (.bi .len (.cons (.var 4) .nil))) .no (.and (.cmp .IsNot (.ix (.var 1) (.var 0)) (.c .non)) (.cmp .Is (.ix (.var 2) (.var 0)) (.c .non)))) .nil)) [(.ret (.c .non))] [])
def wkL(kb kh:Nat):List Stm:=[(.asg (.nm 4) (.call kb (.cons (.var 0) (.cons (.var 2) (.cons (.var 3) .nil))))),(.iff (.or (.cmp .Is (.var 4) (.c .non)) (.not (.call kh (.cons (.var 0) (.cons (.var 4) .nil))))) [(.ret (.c .non))] []),wk2,(.asg (.nm 2) (.var 4))]
def J9(kb kh:Nat):List Stm:=[(.asg (.nm 2) (.op .Mult (.lst (.cons (.c .non) .nil)) (.bi .len (.cons (.ix (.var 0) (.c (.int 1))) .nil)))),(.loop (.nm 3) (.seq (.var 1)) (wkL kb kh)),(.ret (.var 2))]
theorem Se(hΔ:∀ f,MonoN (Δ f)){E:EndsS}{c c2:Nat}{cs ds:List Nat}{S:Sto}{o0 o1 o3:Option SV}{st:List Stm}(hc:S[c]?=some (.lst (e6 cs)))(hc2:S[c2]?=some (.lst (e6 ds)))(ll:cs.length=ds.length)(dl:ds.length<=60)(kp:∀ u,u<ds.length->hu cs u<1000->hu ds u<1000)(q:∀ S',Gw S S'->wSs Δ st E [o0,o1,some (.loc c),o3,some (.loc c2)] S'):wSs Δ (wk2::st) E [o0,o1,some (.loc c),o3,some (.loc c2)] S:=by
 refine⟨_,rfl,_,a7 hc2,_,rfl,⟨by rw[n8];omega,by rw[n8];omega⟩,?_⟩;refine h9 (i9 hΔ _).2 (a8 hΔ _).1 (λj ys S2=>S2=S/\ys=Uv j (.bl false)) ⟨rfl,rfl⟩ (λ_ _ _ _=>trivial) ?_ ?_
 ·rintro j x ys S2 hx ⟨rfl,rfl⟩;have jl:j<ds.length:=by have:=(gM hx).1;rw[m4,n8]at this;omega
  obtain⟨rfl,hj⟩:=v7 hx;rw[Wa]at hj ⊢;have g1:=AA (AT (cs:=cs) (t:=j) (by omega));have g2:=AA (AT (cs:=ds) (t:=j) (by omega));have ln:(Uv j (SV.bl false)).length<big:=by rw[WC];show _<100000;omega
  refine⟨_,rfl,_,rfl,_,_,a7 hc,e7 g1,.inl ⟨rfl,_,rfl,?_⟩⟩;show if (if true=true then !Ax (pS (hu cs j)) else Ax (pS (hu cs j)))=true then _ else _
  rw[iP rfl,Hk,YJ];refine ifD (λz=>?_) (λz=>⟨ln,rfl,by rw[Wq]⟩);refine⟨_,rfl,_,rfl,_,_,a7 hc2,e7 g2,.inl ⟨rfl,ln,rfl,?_⟩⟩;show Uv j (SV.bl false)++[SV.bl (Ax (pS (hu ds j)))]=_;rw[Hk,decide_eq_true (kp j jl z),Wq];rfl
 ·rintro ys S2 ⟨rfl,rfl⟩;refine⟨_,_,nofun,a7 c6,J1 _,_,rfl,?_⟩;rw[show ∀ n,(Uv n false).any id=false from λn=>by simp];exact ifF rfl (c8 (q _ (Gw.refl _).push))
def DW(s:Sn):Prop:=∀{n H k2:Nat} {es:EE} {sts:List Stp} {S:Sto} {Q:QE},S[k2]?=some (.lst (sts.map v6))->(∀ e∈es,e.1<e.2/\e.2<n)->es.length<=60->H<=1000->OkR n H es (cs0 es.length) sts->(∀(l:Nat) (S':Sto),Gw S S'->S'[l]?=some (.lst (e6 (AJ es (cs0 es.length) sts)))->Q (.loc l) S')->s [f7 n es,.loc k2] S Q
theorem KN(hΔ:∀ f,MonoN (Δ f)){kb kh:Nat}(hb':AG (Δ kb) (λ_=>True) λs=>[v6 s])(hh:Ab (Δ kh)){D:Df}(hb:D.body=J9 kb kh)(hN:D.N.length=5)(hp:D.ps.length=2):DW (f6 Δ D):=by
 intro n H k2 es sts S Q h2 hen el hH ok q;have P0:=J4 es;have k2l:=(gM h2).1;unfold f6;rw[hb,hN];refine⟨hp.symm,by show 1<=100000;decide,_,rfl,_,_,rfl,rfl,_,rfl,_,c6,⟨by rw[Ur];omega,by rw[Ur];omega⟩,by rw[Ur];show 1 * _<=100000;omega,?_⟩;rw[show(Uv (((es.map pairS).length:Nat):Int).toNat [SV.non]).flatten=e6 (cs0 es.length) by rw[Ur,W6];exact GL _];have G3:Gw S (S++[SO.lst [SV.non]]++[SO.lst (e6 (cs0 es.length))]):=(Gw.refl S).push.push;have c1:(S++[SO.lst [SV.non]]++[SO.lst (e6 (cs0 es.length))])[(S++[SO.lst [SV.non]]).length]?=some (SO.lst (e6 (cs0 es.length))):=c6;generalize (S++[SO.lst [SV.non]]).length=m at c1 ⊢;generalize S++[SO.lst [SV.non]]++[SO.lst (e6 (cs0 es.length))]=S3 at *;refine⟨_,rfl,_,a7 (G3.keep _ _ h2),?_⟩;refine m6 (g6 hΔ _) (λi ρ S'=>∃(c:Nat) (o3 o4:Option SV),ρ=[some (f7 n es),some (.loc k2),some (.loc c),o3,o4]/\Gw S3 S'/\S'[c]?=some (.lst (e6 (AJ es (cs0 es.length) (sts.take i))))) ⟨m,none,none,rfl,Gw.refl _,c1⟩ (λ_ _ S' z=>?_) ?_ ?_
 ·obtain⟨_,_,_,_,G,_⟩:=z;show S'[k2]?=S3[k2]?;rw[G.keep _ _ (G3.keep _ _ h2),G3.keep _ _ h2]
 ·rintro i x ρ S' hx ⟨c,o3,o4,rfl,G,hc⟩;obtain⟨s,hsi,rfl⟩:=GK hx;have Pi:=ok.prpAt hen i P0;have oi:=ok.at hsi;have P1:=Bc Pi hen oi;refine⟨_,rfl,_,rfl,_,rfl,hb' trivial Pi hen el hH oi hc λc2 S4 G4 c2l hc2=>?_⟩;refine⟨_,rfl,.inl ⟨rfl,_,rfl,ifF rfl ⟨_,rfl,_,rfl,hh hen el (Ez hc2 (by rw[P1.len];omega)) λr S5 G5 e5=>?_⟩⟩⟩;have:r=true:=e5.mpr ⟨_,a7 hc2,Cp P1⟩;subst this;refine⟨_,rfl,ifF rfl (c8 ?_)⟩;refine Se hΔ (G5.keep _ _ (G4.keep _ _ hc)) (G5.keep _ _ hc2) (by rw[Pi.len,P1.len]) (by rw[P1.len];omega) (λu ul=>OkR.kept hen hH Pi oi u (by rw[P1.len]at ul;exact ul)) λS6 G6=>?_;refine⟨_,rfl,c2,_,_,rfl,G.trans (G4.trans (G5.trans G6)),?_⟩;rw[EK hsi];exact G6.keep _ _ (G5.keep _ _ hc2)
 ·rintro ρ S' ⟨c,o3,o4,rfl,G,hc⟩;rw[Ur,VW]at hc;exact⟨_,rfl,q c S' (G3.trans G) hc⟩
def rr1:Stm:=(.iff (.or (.not (.bi .isi (.cons (.var 1) (.cons (.tyc .tuple) .nil)))) (.or (.cmp .NotEq (.bi .len (.cons (.var 1) .nil)) (.c (.int 2))) (.not (.bi .all (.cons (.comp ["_law_row_here"] [] [] (.nm 0) (.seq (.var 1)) .no (.bi .isi (.cons (.var 0) (.cons (.tyc .list) .nil)))) .nil))))) [(.ret (.c (.bl false)))] [])
def rr2(kh kw:Nat):Stm:=(.iff (.or (.not (.call kh (.cons (.var 0) (.cons (.ix (.var 1) (.c (.int 0))) .nil)))) (.cmp .NotEq (.call kw (.cons (.var 0) (.cons (.ix (.var 1) (.c (.int 1))) .nil))) (.ix (.var 1) (.c (.int 0))))) [(.ret (.c (.bl false)))] [])
def rr4:Stm:=(.ret (.bi .all (.cons (.comp ["_law_hue"] ["_law_most_here"] [2] (.nm 0) (.seq (.ix (.var 1) (.c (.int 0)))) .no (.and (.cmp .IsNot (.var 0) (.c .non)) (.cmp .Lt (.var 0) (.var 1)))) .nil)))
def JA(kh kw km:Nat):List Stm:=[rr1,rr2 kh kw,(.asg (.nm 2) (.call km (.cons (.var 0) .nil))),rr4]
def GM(s:Sn):Prop:=∀{n k1 k2:Nat} {es:EE} {sd:Nat->Nat} {S:Sto} {Q:QE},Sdd n es sd->es.length<=60->n<=60->S[k1]?=some (.lst (e6 (byF es (j3 es n) es.length).1))->S[k2]?=some (.lst ((byF es (j3 es n) es.length).2.map v6))->(∀ S',Gw S S'->Q (.bl true) S')->s [f7 n es,.tup [.loc k1,.loc k2]] S Q
theorem KO(hΔ:∀ f,MonoN (Δ f)){kh kw km:Nat}(hh:Ab (Δ kh))(hw:DW (Δ kw))(hm:Ey (Δ km)){D:Df}(hb:D.body=JA kh kw km)(hN:D.N.length=3)(hp:D.ps.length=2):GM (f6 Δ D):=by
 intro n k1 k2 es sd S Q W el nn h1 h2 q;unfold f6;rw[hb,hN];have mH:=Bq (n:=n) el;have hc:∀ p,p<n->m8 es p<=j3 es n:=λp hp=>BP es hp;obtain⟨k1',k2',P,lt,_⟩:=F3 W (show j3 es n<=1000 by omega) hc es.length (Ux _);refine⟨hp.symm,?_⟩;refine⟨_,rfl,_,nofun,rfl,_,rfl,ifF rfl ⟨_,rfl,_,rfl,_,rfl,ifF rfl ⟨_,rfl,[.loc k1,.loc k2],rfl,?_⟩⟩⟩;refine h9 (i9 hΔ _).2 (a8 hΔ _).1 (λj ys S'=>S'=S/\ys=Uv j (.bl true)) ⟨rfl,rfl⟩ (λ_ _ _ _=>trivial) ?_ ?_
 ·rintro i z ys S' hz ⟨rfl,rfl⟩;have hi:i<2:=(gM hz).1;have:i=0\/i=1:=by omega
  rcases this with rfl | rfl
  ·cases hz;exact⟨_,rfl,_,nofun,CN h1,by show 0<100000;decide,rfl,rfl⟩
  ·cases hz;exact⟨_,rfl,_,nofun,CN h2,by show 1<100000;decide,rfl,rfl⟩
 rintro ys S' ⟨rfl,rfl⟩;refine⟨_,_,nofun,a7 c6,Mq _,_,rfl,ifF rfl (c8 ?_)⟩;have G3:Gw S' (S'++[SO.lst (Uv 2 (SV.bl true))]):=(Gw.refl S').push;replace h1:=G3.keep _ _ h1;replace h2:=G3.keep _ _ h2;show wSs Δ [rr2 kh kw,(.asg (.nm 2) (.call km (.cons (.var 0) .nil))),rr4] (v8 Q) [some (f7 n es),some (.tup [.loc k1,.loc k2]),none] (S'++[SO.lst (Uv 2 (SV.bl true))]);generalize S'++[SO.lst (Uv 2 (SV.bl true))]=S3 at *;refine⟨_,rfl,_,rfl,_,_,rfl,rfl,hh W.en el (Ez h1 (by rw[P.len];omega)) λr S4 G4 e4=>?_⟩;have:r=true:=e4.mpr ⟨_,a7 h1,Cp P⟩;subst this;refine⟨_,rfl,ifF rfl ⟨_,rfl,_,rfl,_,_,rfl,rfl,hw (G4.keep _ _ h2) W.en el (show j3 es n<=1000 by omega) k1' λl S5 G5 h5=>?_⟩⟩;rw[<-k2']at h5;have h15:=G5.keep _ _ (G4.keep _ _ h1)
 have small:∀ c∈(byF es (j3 es n) es.length).1,c<j3 es n:=λc hc=>by
  obtain⟨i,hi⟩:=Vg hc;have il:=(gM hi).1;rw[P.len]at il;have:=lt i il;have e:hu (byF es (j3 es n) es.length).1 i=c:=by show Vs _ i 0=c;rw[V1,hi];rfl
  rwa [e]at this
 have pn:=NT (cs:=(byF es (j3 es n) es.length).1) λc hc=>by have:=small c hc;omega
 rw[pn]at h5 h15;have cl:=P.len;generalize (byF es (j3 es n) es.length).1=cs at *;refine⟨_,rfl,_,_,rfl,rfl,_,_,h5,h15,.inl ⟨CQ _,CQ _⟩,_,rfl,ifF (by rw[Mw];rfl) (c8 ?_)⟩;refine⟨_,rfl,hm (by omega) (by omega) λS6 G6=>?_⟩;generalize j3 es n=H at *;have h16:=G6.keep _ _ h15;refine⟨_,rfl,_,_,rfl,rfl,_,a7 h16,?_⟩;refine h9 (i9 hΔ _).2 (a8 hΔ _).1 (λj ys S7=>S7=S6/\ys=Uv j (.bl true)) ⟨rfl,rfl⟩ (λ_ _ _ z=>by rw[z.1];exact rfl) ?_ ?_
 ·rintro j x ys S7 hx ⟨rfl,rfl⟩;obtain⟨c,hcj,rfl⟩:=y0 hx;have jl:=(gM hcj).1;have:=small c (Us hcj);refine⟨_,rfl,.inl ⟨rfl,_,rfl,ifT rfl ⟨_,rfl,_,rfl,by rw[WC];show _<100000;omega,rfl,?_⟩⟩⟩;show Uv j (SV.bl true)++[SV.bl (decide (((c:Nat):Int)<(H:Nat)))]=_;rw[Wq,decide_eq_true (show((c:Nat):Int)<(H:Nat) by omega)]
 ·rintro ys S7 ⟨rfl,rfl⟩;refine⟨_,_,nofun,a7 c6,Mq _,?_⟩;rw[show ∀ n,(Uv n true).all id=true from λn=>by simp];exact q _ (G3.trans (G4.trans (G5.trans G6))).push
end
end Rf
namespace Hue
open PySem L2 Rf
def top(i:Nat):Stmt:=PySem.Challenge.pw_huedties_k30_hued_by_rows.main.body.getD i (.Pass ⟨0,0,0,0⟩)
def b0:List Stm:=HX
def d0:Df:=⟨"is_number",top 8,["thing"],["thing"],b0⟩
def b1:List Stm:=UQ
def d1:Df:=⟨"is_listed",top 9,["thing"],["thing"],b1⟩
def b2:List Stm:=EF 0
def d2:Df:=⟨"has_place",top 11,["web","place"],["web","place"],b2⟩
def b3:List Stm:=Ih 0
def d3:Df:=⟨"has_tie",top 12,["web","tie"],["web","tie"],b3⟩
def b4:List Stm:=Es 2
def d4:Df:=⟨"check_place",top 13,["web","place"],["web","place"],b4⟩
def b5:List Stm:=Es 3
def d5:Df:=⟨"check_tie",top 14,["web","tie"],["web","tie"],b5⟩
def b6:List Stm:=Ii 4
def d6:Df:=⟨"ties_at",top 15,["web","place"],["web","place"],b6⟩
def b7:List Stm:=QR
def d7:Df:=⟨"most_at",top 16,["web"],["web","counts","one","other"],b7⟩
def b8:List Stm:=Ij 5
def d8:Df:=⟨"far_end",top 17,["web","tie","place"],["web","tie","place","one","other"],b8⟩
def b9:List Stm:=[(.ret (.and (.cmp .NotEq (.var 1) (.var 2)) (.bi .any (.cons (.comp ["place"] ["web","other"] [0,2] (.nm 0) (.seq (.ix (.ix (.var 0) (.c (.int 1))) (.var 1))) .no (.cmp .In (.var 0) (.ix (.ix (.var 1) (.c (.int 1))) (.var 2)))) .nil))))]
def d9:Df:=⟨"meets",top 18,["web","one","other"],["web","one","other"],b9⟩
def b10:List Stm:=QN 6 8
def d10:Df:=⟨"give_sides",top 20,["web","start","sides","back"],["web","start","sides","back","waiting","place","tie","far"],b10⟩
def b11:List Stm:=[(.asg (.nm 3) (.lst .nil)),(.whl (.cmp .IsNot (.ix (.var 2) (.var 1)) (.c .non)) [(.expr (.mt .append (.var 3) (.cons (.ix (.var 2) (.var 1)) .nil))),(.asg (.nm 1) (.call 8 (.cons (.var 0) (.cons (.ix (.var 2) (.var 1)) (.cons (.var 1) .nil)))))]),(.ret (.var 3))]
def d11:Df:=⟨"way_back",top 21,["web","place","back"],["web","place","back","way"],b11⟩
def b12:List Stm:=[(.asg (.tup (.cons (.nm 3) (.cons (.nm 4) .nil))) (.ix (.ix (.var 0) (.c (.int 1))) (.var 1))),(.asg (.nm 5) (.call 11 (.cons (.var 0) (.cons (.var 3) (.cons (.var 2) .nil))))),(.asg (.nm 6) (.call 11 (.cons (.var 0) (.cons (.var 4) (.cons (.var 2) .nil))))),(.whl (.and (.var 5) (.and (.var 6) (.cmp .Eq (.ix (.var 5) (.neg (.c (.int 1)))) (.ix (.var 6) (.neg (.c (.int 1))))))) [(.expr (.mt .pop (.var 5) .nil)),(.expr (.mt .pop (.var 6) .nil))]),(.ret (.op .Add (.op .Add (.var 5) (.rev (.var 6))) (.lst (.cons (.var 1) .nil))))]
def d12:Df:=⟨"ring_through",top 22,["web","tie","back"],["web","tie","back","one","other","up","down"],b12⟩
def b13:List Stm:=UN 10 12
def d13:Df:=⟨"two_sides",top 23,["web"],["web","sides","back","place","tie","one","other"],b13⟩
def b14:List Stm:=GC 13
def d14:Df:=⟨"sides_of",top 24,["web"],["web","word","row"],b14⟩
def b15:List Stm:=QU 0
def d15:Df:=⟨"is_hue",top 26,["thing"],["thing"],b15⟩
def b16:List Stm:=Iu 1 15 17
def d16:Df:=⟨"is_hueing",top 27,["web","thing"],["web","thing"],b16⟩
def b17:List Stm:=N6
def d17:Df:=⟨"clash_of",top 28,["web","row"],["web","row","first","clashes","tie","ends","hue","place","earlier"],b17⟩
def b18:List Stm:=Iz 6
def d18:Df:=⟨"hues_at",top 29,["web","hueing","place"],["web","hueing","place"],b18⟩
def b19:List Stm:=NN 18
def d19:Df:=⟨"free_at",top 30,["web","hueing","place","hues"],["web","hueing","place","hues","taken"],b19⟩
def b20:List Stm:=QV 6
def d20:Df:=⟨"tie_of_hue",top 32,["web","hueing","place","hue"],["web","hueing","place","hue","tie"],b20⟩
def b21:List Stm:=Iw
def d21:Df:=⟨"check_unlike",top 33,["one","other"],["one","other"],b21⟩
def b22:List Stm:=QW 4 21 20 8
def d22:Df:=⟨"row_from",top 34,["web","hueing","place","one","other"],["web","hueing","place","one","other","row","tie"],b22⟩
def b23:List Stm:=QX 21 3 16
def d23:Df:=⟨"exchanged",top 35,["web","hueing","ties","one","other"],["web","hueing","ties","one","other","changed","tie"],b23⟩
def b24:List Stm:=[(.ret (.and (.call 3 (.cons (.var 0) (.cons (.var 2) .nil))) (.cmp .IsNot (.ix (.var 1) (.var 2)) (.c .non))))]
def d24:Df:=⟨"tie_has_hue",top 37,["web","hueing","tie"],["web","hueing","tie"],b24⟩
def b25:List Stm:=NL 3
def d25:Df:=⟨"tie_lacks_hue",top 38,["web","hueing","tie"],["web","hueing","tie"],b25⟩
def b26:List Stm:=Qa 16
def d26:Df:=⟨"with_hues",top 39,["web","hueing","given"],["web","hueing","given","changed","tie","hue"],b26⟩
def b27:List Stm:=Qb 25 15 26
def d27:Df:=⟨"after_hue",top 40,["web","hueing","tie","hue"],["web","hueing","tie","hue"],b27⟩
def b28:List Stm:=[(.iff (.not (.call 24 (.cons (.var 0) (.cons (.var 1) (.cons (.var 2) .nil))))) [(.ret (.c .non))] []),(.ret (.call 26 (.cons (.var 0) (.cons (.var 1) (.cons (.lst (.cons (.tup (.cons (.var 2) (.cons (.c .non) .nil))) .nil)) .nil)))))]
def d28:Df:=⟨"after_drop",top 41,["web","hueing","tie"],["web","hueing","tie"],b28⟩
def b29:List Stm:=[(.iff (.or (.not (.call 24 (.cons (.var 0) (.cons (.var 1) (.cons (.var 2) .nil))))) (.not (.call 25 (.cons (.var 0) (.cons (.var 1) (.cons (.var 3) .nil)))))) [(.ret (.c .non))] []),(.iff (.not (.call 9 (.cons (.var 0) (.cons (.var 2) (.cons (.var 3) .nil))))) [(.ret (.c .non))] []),(.ret (.call 26 (.cons (.var 0) (.cons (.var 1) (.cons (.lst (.cons (.tup (.cons (.var 2) (.cons (.c .non) .nil))) (.cons (.tup (.cons (.var 3) (.cons (.ix (.var 1) (.var 2)) .nil))) .nil))) .nil)))))]
def d29:Df:=⟨"after_move",top 42,["web","hueing","tie","other"],["web","hueing","tie","other"],b29⟩
def b30:List Stm:=QY 15 22 23
def d30:Df:=⟨"after_row",top 43,["web","hueing","place","one","other"],["web","hueing","place","one","other"],b30⟩
noncomputable def b31:List Stm:=N9 27 28 29 30
noncomputable def d31:Df:=⟨"after_step",top 44,["web","hueing","step"],["web","hueing","step","word"],b31⟩
def b32:List Stm:=J2 31
def d32:Df:=⟨"played",top 45,["web","hueing","steps"],["web","hueing","steps","told","now","at","step"],b32⟩
def b33:List Stm:=J5 19
def d33:Df:=⟨"steps_by_row",top 47,["web","hueing","tie","hues"],["web","hueing","tie","hues","one","other","here","there","both"],b33⟩
def b34:List Stm:=UT 14 7 33 32
def d34:Df:=⟨"by_rows",top 48,["web"],["web","hues","hueing","steps","tie","added"],b34⟩
def b35:List Stm:=QL
def d35:Df:=⟨"_law_tape",top 50,["_law_script","_law_k"],["_law_script","_law_k","_law_cell","_law_digits"],b35⟩
noncomputable def b36:List Stm:=QM
noncomputable def d36:Df:=⟨"_law_draw",top 51,["_law_tape_here","_law_many"],["_law_tape_here","_law_many","_law_found","_law_once"],b36⟩
def b37:List Stm:=GF 36
def d37:Df:=⟨"_law_two_once",top 52,["_law_tape_here","_law_great"],["_law_tape_here","_law_great","_law_many","_law_sides","_law_left","_law_right_here","_law_way","_law_found","_law_one","_law_turn","_law_ties","_law_other"],b37⟩
def b38:List Stm:=EH 37
def d38:Df:=⟨"_law_two_sided",top 53,["_law_tape_here","_law_great"],["_law_tape_here","_law_great","_law_web","_law_turn"],b38⟩
def b39:List Stm:=QS
def d39:Df:=⟨"_law_meet",top 54,["_law_web","_law_one","_law_other"],["_law_web","_law_one","_law_other"],b39⟩
def b40:List Stm:=GI 39
def d40:Df:=⟨"_law_is_hueing",top 55,["_law_web","_law_row_here"],["_law_web","_law_row_here","_law_tie","_law_hue","_law_k"],b40⟩
def b41:List Stm:=Ip
def d41:Df:=⟨"_law_count",top 56,["_law_web","_law_place"],["_law_web","_law_place"],b41⟩
def b42:List Stm:=N0 41
def d42:Df:=⟨"_law_most",top 57,["_law_web"],["_law_web"],b42⟩
def b43:List Stm:=NR
def d43:Df:=⟨"_law_row",top 58,["_law_web","_law_hueing","_law_place","_law_one","_law_other"],["_law_web","_law_hueing","_law_place","_law_one","_law_other","_law_held","_law_found","_law_here","_law_hue","_law_turn","_law_some"],b43⟩
def b44:List Stm:=J8 43
def d44:Df:=⟨"_law_behind",top 59,["_law_web","_law_hueing","_law_step"],["_law_web","_law_hueing","_law_step","_law_found","_law_row_here","_law_tie"],b44⟩
def b45:List Stm:=J9 44 40
def d45:Df:=⟨"_law_walked",top 60,["_law_web","_law_steps"],["_law_web","_law_steps","_law_hueing","_law_step","_law_found"],b45⟩
def b46:List Stm:=JA 40 45 42
def d46:Df:=⟨"_law_right",top 61,["_law_web","_law_found"],["_law_web","_law_found","_law_most_here"],b46⟩
noncomputable def b47:List Stm:=[(.loop (.nm 1) (.rng1 (.op .Add (.c (.int 1)) (.bi .min (.cons (.c (.int 6)) (.cons (.bi .len (.cons (.var 0) .nil)) .nil))))) [(.asg (.nm 2) (.call 35 (.cons (.var 0) (.cons (.var 1) .nil)))),(.asg (.nm 3) (.call 38 (.cons (.var 2) (.cons (.and (.cmp .Eq (.var 1) (.c (.int 0))) (.cmp .Eq (.call 36 (.cons (.var 2) (.cons (.c (.int 8)) .nil))) (.c (.int 0)))) .nil)))),(.asg (.nm 3) (.tup (.cons (.ix (.var 3) (.c (.int 0))) (.cons (.slc (.ix (.var 3) (.c (.int 1))) .no (.yes (.c (.int 40)))) .nil)))),(.asg (.nm 4) (.call 34 (.cons (.var 3) .nil))),(.iff (.not (.call 46 (.cons (.var 3) (.cons (.var 4) .nil)))) [(.ret (.c (.bl false)))] []),(.asg (.nm 5) (.lst (.cons (.bi .list (.cons (.ix (.var 4) (.c (.int 0))) .nil)) (.cons (.bi .list (.cons (.ix (.var 4) (.c (.int 1))) .nil)) .nil)))),(.expr (.mt .append (.ix (.var 4) (.c (.int 0))) (.cons (.c (.int 0)) .nil))),(.expr (.mt .clear (.ix (.var 4) (.c (.int 1))) .nil)),(.iff (.eqd true (.bi .list (.cons (.call 34 (.cons (.var 3) .nil)) .nil)) (.var 5)) [(.ret (.c (.bl false)))] [])]),(.asg (.nm 6) (.tup (.cons (.c (.int 2)) (.cons (.tup (.cons (.tup (.cons (.c (.int 0)) (.cons (.c (.int 1)) .nil))) .nil)) .nil)))),(.ret (.and (.eqtl (.call 34 (.cons (.tup (.cons (.c (.int 0)) (.cons (.tup .nil) .nil))) .nil)) (.tup (.cons (.lst .nil) (.cons (.lst .nil) .nil)))) (.call 46 (.cons (.var 6) (.cons (.call 34 (.cons (.var 6) .nil)) .nil)))))]
noncomputable def d47:Df:=⟨"law",top 62,["_law_script"],["_law_script","_law_k","_law_tape_here","_law_web","_law_found","_law_kept","_law_alone"],b47⟩
noncomputable def prog:List Df:=[d0,d1,d2,d3,d4,d5,d6,d7,d8,d9,d10,d11,d12,d13,d14,d15,d16,d17,d18,d19,d20,d21,d22,d23,d24,d25,d26,d27,d28,d29,d30,d31,d32,d33,d34,d35,d36,d37,d38,d39,d40,d41,d42,d43,d44,d45,d46,d47]
theorem GN:prog.all (PB (prog.map (·.name)))=true:=by decide +kernel
theorem hW(d:Nat):∀ f,MonoN (W prog d f):=DK d
theorem s0(d:Nat):Cl (W prog (d+1) 0):=Mp (Δ:=W prog d) (D:=d0) rfl rfl rfl
theorem g0(d:Nat):SW (W prog (d+1) 0):=PR (Δ:=W prog d) (D:=d0) rfl rfl rfl
theorem s1(d:Nat):SX (W prog (d+1) 1):=PV (Δ:=W prog d) (D:=d1) rfl rfl rfl
theorem s2(d:Nat):Bn (W prog (d+2) 2):=G8 (Δ:=W prog (d+1)) (D:=d2) (s0 d) rfl rfl rfl
theorem s3(d:Nat):BK (W prog (d+2) 3):=K5 (Δ:=W prog (d+1)) (D:=d3) (s0 d) rfl rfl rfl
theorem s4(d:Nat):AI (W prog (d+3) 4):=Dl (Δ:=W prog (d+2)) (D:=d4) (s2 d) rfl rfl rfl
theorem s5(d:Nat):Bo (W prog (d+3) 5):=G9 (Δ:=W prog (d+2)) (D:=d5) (s3 d) rfl rfl rfl
theorem s6(d:Nat):BL (W prog (d+4) 6):=K6 (Δ:=W prog (d+3)) (D:=d6) (hW _) (s4 d) rfl rfl rfl
theorem s7(d:Nat):Hc (W prog (d+1) 7):=PQ (Δ:=W prog d) (D:=d7) (hW _) rfl rfl rfl
theorem s8(d:Nat):BM (W prog (d+4) 8):=K7 (Δ:=W prog (d+3)) (D:=d8) (s5 d) rfl rfl rfl
theorem s10(d:Nat):Ev (W prog (d+5) 10):=Mx (Δ:=W prog (d+4)) (D:=d10) (hW _) (s6 d) (s8 d) rfl rfl rfl
theorem s13(d:Nat):Hb (W prog (d+6) 13):=PP (Δ:=W prog (d+5)) (D:=d13) (hW _) (s10 d) rfl rfl rfl
theorem s14(d:Nat):DP (W prog (d+7) 14):=KB (Δ:=W prog (d+6)) (D:=d14) (s13 d) rfl rfl rfl
theorem s15(d:Nat):N8 (W prog (d+2) 15):=PY (Δ:=W prog (d+1)) (D:=d15) (g0 d) rfl rfl rfl
theorem s17(d:Nat):Hd (W prog (d+1) 17):=KG (Δ:=W prog d) (D:=d17) (hW _) rfl rfl rfl
theorem s16(d:Nat):Ab (W prog (d+3) 16):=He (Δ:=W prog (d+2)) (D:=d16) (hW _) (s1 (d+1)) (s15 d) (s17 (d+1)) rfl rfl rfl
theorem s18(d:Nat):CU (W prog (d+5) 18):=Hl (Δ:=W prog (d+4)) (D:=d18) (hW _) (s6 d) rfl rfl rfl
theorem s19(d:Nat):F5 (W prog (d+6) 19):=NO (Δ:=W prog (d+5)) (D:=d19) (hW _) (s18 d) rfl rfl rfl
theorem s20(d:Nat):F0 (W prog (d+5) 20):=NE (Δ:=W prog (d+4)) (D:=d20) (hW _) (s6 d) rfl rfl rfl
theorem s21(d:Nat):C5 (W prog (d+1) 21):=KH (Δ:=W prog d) (D:=d21) rfl rfl rfl
theorem s22(d:Nat):CS (W prog (d+6) 22):=Pa (Δ:=W prog (d+5)) (D:=d22) (hW _) (s4 (d+2)) (s21 (d+4)) (s20 d) (s8 (d+1)) rfl rfl rfl
theorem s23(d:Nat):F1 (W prog (d+4) 23):=NF (Δ:=W prog (d+3)) (D:=d23) (hW _) (s21 (d+2)) (s3 (d+1)) (s16 d) rfl rfl rfl
theorem s25(d:Nat):F4 (W prog (d+3) 25):=NM (Δ:=W prog (d+2)) (D:=d25) (s3 d) rfl rfl rfl
theorem s26(d:Nat):Hi (W prog (d+4) 26):=Pb (Δ:=W prog (d+3)) (D:=d26) (hW _) (s16 d) rfl rfl rfl
theorem s27(d:Nat):AG (W prog (d+5) 27) Hh EM:=Pc (Δ:=W prog (d+4)) (D:=d27) (s25 (d+1)) (s15 (d+2)) (s26 d) rfl rfl rfl
theorem s30(d:Nat):AG (W prog (d+7) 30) NJ EM:=NK (Δ:=W prog (d+6)) (D:=d30) (s15 (d+4)) (s22 d) (s23 (d+2)) rfl rfl rfl
theorem s31(d:Nat):AG (W prog (d+8) 31) (λ_=>True) λs=>[v6 s]:=KJ (Δ:=W prog (d+7)) (D:=d31) (s27 (d+2)) (s30 d) rfl rfl rfl
theorem s32(d:Nat):CT (W prog (d+9) 32):=Hj (Δ:=W prog (d+8)) (D:=d32) (hW _) (s31 d) rfl rfl rfl
theorem s33(d:Nat):DT (W prog (d+7) 33):=KK (Δ:=W prog (d+6)) (D:=d33) (hW _) (s19 d) rfl rfl rfl
theorem s34(d:Nat):Qc (W prog (d+10) 34):=Sd (Δ:=W prog (d+9)) (D:=d34) (hW _) (s14 (d+2)) (s7 (d+8)) (s33 (d+2)) (s32 d) rfl rfl rfl
theorem s35(d:Nat):Mo (W prog (d+1) 35):=PF (Δ:=W prog d) (D:=d35) rfl rfl rfl
theorem s36(d:Nat):BJ (W prog (d+1) 36):=PD (Δ:=W prog d) (D:=d36) rfl rfl rfl
theorem s37(d:Nat):As (W prog (d+2) 37):=HZ (Δ:=W prog (d+1)) (D:=d37) (hW _) (s36 d) rfl rfl rfl
theorem s38(d:Nat):As (W prog (d+3) 38):=GG (Δ:=W prog (d+2)) (D:=d38) (hW _) (s37 d) rfl rfl rfl
theorem s39(d:Nat):Iq (W prog (d+1) 39):=N5 (Δ:=W prog d) (D:=d39) rfl rfl rfl
theorem s40(d:Nat):Ab (W prog (d+2) 40):=Hf (Δ:=W prog (d+1)) (D:=d40) (hW _) (s39 d) rfl rfl rfl
theorem s41(d:Nat):DS (W prog (d+1) 41):=KC (Δ:=W prog d) (D:=d41) (hW _) rfl rfl rfl
theorem s42(d:Nat):Ey (W prog (d+2) 42):=N1 (Δ:=W prog (d+1)) (D:=d42) (hW _) (s41 d) rfl rfl rfl
theorem s43(d:Nat):CS (W prog (d+1) 43):=NS (Δ:=W prog d) (D:=d43) (hW _) rfl rfl rfl
theorem s44(d:Nat):AG (W prog (d+2) 44) (λ_=>True) λs=>[v6 s]:=KM (Δ:=W prog (d+1)) (D:=d44) (hW _) (s43 d) rfl rfl rfl
theorem s45(d:Nat):DW (W prog (d+3) 45):=KN (Δ:=W prog (d+2)) (D:=d45) (hW _) (s44 d) (s40 d) rfl rfl rfl
theorem s46(d:Nat):GM (W prog (d+4) 46):=KO (Δ:=W prog (d+3)) (D:=d46) (hW _) (s40 (d+1)) (s45 d) (s42 (d+1)) rfl rfl rfl
def M4:Stm:=(.asg (.nm 4) (.call 34 (.cons (.var 3) .nil)))
def M5:Stm:=(.iff (.not (.call 46 (.cons (.var 3) (.cons (.var 4) .nil)))) [(.ret (.c (.bl false)))] [])
def M6:Stm:=(.asg (.nm 5) (.lst (.cons (.bi .list (.cons (.ix (.var 4) (.c (.int 0))) .nil)) (.cons (.bi .list (.cons (.ix (.var 4) (.c (.int 1))) .nil)) .nil))))
def M7:Stm:=(.expr (.mt .append (.ix (.var 4) (.c (.int 0))) (.cons (.c (.int 0)) .nil)))
def M8:Stm:=(.expr (.mt .clear (.ix (.var 4) (.c (.int 1))) .nil))
def M9:Stm:=(.iff (.eqd true (.bi .list (.cons (.call 34 (.cons (.var 3) .nil)) .nil)) (.var 5)) [(.ret (.c (.bl false)))] [])
theorem Pe(c:Nat):v4 (pS c)=true:=by
 by_cases z:c<1000
 ·rw[y4 z];rfl
 ·rw[Av z];rfl
theorem Pf{S:Sto}{a b:Nat}{ds:List Nat}(ha:S[a]?=some (.lst (e6 ds)))(hb:S[b]?=some (.lst (e6 ds))):EqS S 2 (.loc a) (.loc b):=by
 refine .inl (.inr (.inl ⟨a,b,_,_,rfl,rfl,ha,hb,rfl,λi u v e1 e2=>?_⟩));rw[e1]at e2;cases e2;obtain⟨x,_,rfl⟩:=VV.mp (Us e1);exact⟨Pe x,rfl⟩
theorem Pg{S:Sto}{a b:Nat}{sts:List Stp}(ha:S[a]?=some (.lst (sts.map v6)))(hb:S[b]?=some (.lst (sts.map v6))):EqS S 2 (.loc a) (.loc b):=by
 refine .inr (.inl ⟨a,b,_,_,rfl,rfl,ha,hb,rfl,λi u v e1 e2=>?_⟩);rw[e1]at e2;cases e2;obtain⟨x,_,rfl⟩:=VV.mp (Us e1);cases x with
 | hue t h=>
   refine .inr (.inr ⟨_,_,rfl,rfl,rfl,λi u v e1 e2=>?_⟩);rw[e1]at e2;cases e2;have i4:i<3:=(gM e1).1;have:i=0\/i=1\/i=2:=by omega
   rcases this with rfl | rfl | rfl<;>cases e1<;>exact⟨rfl,rfl⟩
 | row p a b=>
   refine .inr (.inr ⟨_,_,rfl,rfl,rfl,λi u v e1 e2=>?_⟩);rw[e1]at e2;cases e2;have i4:i<4:=(gM e1).1;have:i=0\/i=1\/i=2\/i=3:=by omega
   rcases this with rfl | rfl | rfl | rfl<;>cases e1<;>exact⟨rfl,rfl⟩
theorem Ph{D:EndsS}{n:Nat}{es:EE}{sd:Nat->Nat}{S:Sto}{o0 o1 o2 o4 o5 o6:Option SV}(Wd:Sdd n es sd)(el:es.length<=60)(nn:n<=60)(q:∀(o4 o5:Option SV) (S':Sto),D.nx [o0,o1,o2,some (f7 n es),o4,o5,o6] S'):wSs (W prog 10) [M4,M5,M6,M7,M8,M9] D [o0,o1,o2,some (f7 n es),o4,o5,o6] S:=by
 refine⟨_,rfl,s34 0 Wd el nn λk1 k2 S1 G1 l1 l2 ne h1 h2=>?_⟩;have mH:=Bq (n:=n) el;have cl:(byF es (j3 es n) es.length).1.length=es.length:=(F3 Wd (show j3 es n<=1000 by omega) (λp hp=>BP es hp) es.length (Ux _)).2.2.1.len;refine⟨_,rfl,_,rfl,s46 6 Wd el nn h1 h2 λS2 G2=>⟨_,rfl,ifF rfl (c8 ?_)⟩⟩;replace h1:=G2.keep _ _ h1;replace h2:=G2.keep _ _ h2;have k1l:=(gM h1).1;have k2l:=(gM h2).1;generalize hcs:(byF es (j3 es n) es.length).1=cs at *;generalize hst:(byF es (j3 es n) es.length).2=sts at *;refine⟨_,rfl,_,_,rfl,rfl,_,a7 h1,_,rfl,_,_,rfl,rfl,_,a7 (c7 h2),by show 2<=100000;decide,?_⟩;have e1:(S2++[SO.lst (e6 cs)]).length=S2.length+1:=by simp
 have e2:(S2++[SO.lst (e6 cs)]++[SO.lst (sts.map v6)]).length=S2.length+2:=by simp
 have w1:(S2++[SO.lst (e6 cs)]++[SO.lst (sts.map v6)]++[SO.lst [.loc S2.length,.loc (S2.length+1)]])[S2.length]?=some (SO.lst (e6 cs)):=c7 (c7 c6);have w2:(S2++[SO.lst (e6 cs)]++[SO.lst (sts.map v6)]++[SO.lst [.loc S2.length,.loc (S2.length+1)]])[S2.length+1]?=some (SO.lst (sts.map v6)):=by rw[<-e1];exact c7 c6
 have w3:(S2++[SO.lst (e6 cs)]++[SO.lst (sts.map v6)]++[SO.lst [.loc S2.length,.loc (S2.length+1)]])[S2.length+2]?=some (SO.lst [.loc S2.length,.loc (S2.length+1)]):=by rw[<-e2];exact c6
 have a1:(S2++[SO.lst (e6 cs)]++[SO.lst (sts.map v6)]++[SO.lst [.loc S2.length,.loc (S2.length+1)]])[k1]?=some (SO.lst (e6 cs)):=c7 (c7 (c7 h1));have a2:(S2++[SO.lst (e6 cs)]++[SO.lst (sts.map v6)]++[SO.lst [.loc S2.length,.loc (S2.length+1)]])[k2]?=some (SO.lst (sts.map v6)):=c7 (c7 (c7 h2));show wSs (W prog 10) [M7,M8,M9] D [o0,o1,o2,some (f7 n es),some (.tup [.loc k1,.loc k2]),some (.loc (S2++[SO.lst (e6 cs)]++[SO.lst (sts.map v6)]).length),o6] (S2++[SO.lst (e6 cs)]++[SO.lst (sts.map v6)]++[SO.lst [.loc S2.length,.loc (S2++[SO.lst (e6 cs)]).length]]);rw[e2,e1];generalize S2++[SO.lst (e6 cs)]++[SO.lst (sts.map v6)]++[SO.lst [.loc S2.length,.loc (S2.length+1)]]=S3 at *;generalize S2.length=m at *;refine⟨_,rfl,_,_,rfl,rfl,⟨_,_,rfl,a1⟩,_,a1,by rw[n8];show _<100000;omega,?_⟩;have a2':(S3.set k1 (SO.lst (e6 cs++[SV.int 0])))[k2]?=some (SO.lst (sts.map v6)):=by rw[j5 ne];exact a2
 refine⟨_,rfl,_,_,rfl,rfl,⟨_,_,rfl,a2'⟩,_,a2',?_⟩
 have kp:∀(j:Nat) (o:SO),m<=j->S3[j]?=some o->((S3.set k1 (SO.lst (e6 cs++[SV.int 0]))).set k2 (SO.lst []))[j]?=some o:=λj o hj e=>by
  rw[j5 (by omega),j5 (by omega)];exact e
 have w1':=kp _ _ (by omega) w1;have w2':=kp _ _ (by omega) w2;have w3':=kp _ _ (by omega) w3;show wSs (W prog 10) [M9] D [o0,o1,o2,some (f7 n es),some (.tup [.loc k1,.loc k2]),some (.loc (m+2)),o6] ((S3.set k1 (SO.lst (e6 cs++[SV.int 0]))).set k2 (SO.lst []));generalize (S3.set k1 (SO.lst (e6 cs++[SV.int 0]))).set k2 (SO.lst [])=S4 at *;refine⟨_,rfl,s34 0 Wd el nn λk3 k4 S5 G5 l3 l4 ne2 h3 h4=>?_⟩;rw[hcs]at h3;rw[hst]at h4;refine⟨[.loc k3,.loc k4],rfl,_,rfl,_,_,_,_,rfl,rfl,c6,c7 (G5.keep _ _ w3'),rfl,λi u v e1 e2=>?_,_,rfl,ifF rfl (c8 (q _ _ _))⟩;have i2:i<2:=(gM e1).1;have:i=0\/i=1:=by omega
 rcases this with rfl | rfl
 ·cases e1;cases e2;exact Pf (c7 h3) (c7 (G5.keep _ _ w1'))
 ·cases e1;cases e2;exact Pg (c7 h4) (c7 (G5.keep _ _ w2'))
theorem NU{Q:QE}{S:Sto}{o0 o1 o2 o3 o4 o5:Option SV}(q:∀ S',Q (.bl true) S'):(wEx (W prog 10) (.call 46 (.cons (.var 6) (.cons (.call 34 (.cons (.var 6) .nil)) .nil)))).1 [o0,o1,o2,o3,o4,o5,some (f7 2 [(0,1)])] S Q:=by
 have W1:Sdd 2 [(0,1)] (λp=>p % 2):=⟨λe he=>by have:=V3.mp he;subst this;decide,λp=>by omega,λe he=>by have:=V3.mp he;subst this;decide⟩
 have w2:2<=60:=by decide
 have w1:[(0,1)].length<=60:=by decide
 generalize [(0,1)]=es at *;generalize 2=n at *;refine⟨_,rfl,_,rfl,s34 0 W1 w1 w2 λk3 k4 S3 G3 l3 l4 ne3 h3 h4=>?_⟩;exact s46 6 W1 w1 w2 h3 h4 λS' G'=>q S'
theorem law_main(ns:List Int)(h:ns.length<=63):W prog 11 47 [.ro (ns.map SV.int)] [] λx _=>x = .bl true:=by
 show f6 (W prog 10) d47 _ _ _
 have hj:∃ m:Nat,1+(if ((ns.map SV.int).length:Int)<(6:Int) then ((ns.map SV.int).length:Int) else 6)=(m:Int)/\m<=9:=by
  rw[Ur];generalize ns.length=k;refine⟨1+min k 6,?_,by omega⟩;split<;>omega
 obtain⟨m,hm,hm4⟩:=hj;refine⟨rfl,_,rfl,_,rfl,m,congrArg SV.int hm,⟨by omega,by omega⟩,?_⟩;refine m6 (g6 (hW _) _) (λi ρ S'=>∃ o1 o2 o3 o4 o5 o6,ρ=[some (.ro (ns.map SV.int)),o1,o2,o3,o4,o5,o6]) ⟨none,none,none,none,none,none,rfl⟩ (λ_ _ _ _=>trivial) ?_ ?_
 ·rintro i x ρ S hx ⟨o1,o2,o3,o4,o5,o6,rfl⟩;obtain⟨rfl,hi⟩:=v7 hx;rw[Wa]at hi ⊢;refine⟨_,rfl,_,rfl,s35 9 h (by omega) λa b ha hb hb2=>?_⟩;have T1:TapeS (S++[SO.lst [.int a,.int b]]) S.length:=⟨a,b,c6,ha,hb,hb2⟩
  have t0:S.length=S.length:=rfl
  have go:∀(D:EndsS) (g:Bool) (S2:Sto),(∀(o1 o2 o3 o4 o5 o6:Option SV) (S':Sto),D.nx [some (.ro (ns.map SV.int)),o1,o2,o3,o4,o5,o6] S')->TapeS S2 S.length->W prog 10 38 [.loc S.length,.bl g] S2 λx S3=>wSs (W prog 10) [(.asg (.nm 3) (.tup (.cons (.ix (.var 3) (.c (.int 0))) (.cons (.slc (.ix (.var 3) (.c (.int 1))) .no (.yes (.c (.int 40)))) .nil)))),M4,M5,M6,M7,M8,M9] D [some (.ro (ns.map SV.int)),some (.int (i:Nat)),some (.loc S.length),some x,o4,o5,o6] S3:=by
   intro D g S2 q T2;refine s38 7 T2 λn es S3 Wb hn hel T3 O3=>?_;obtain⟨c,c1,c2⟩:=Wb.two;refine⟨_,rfl,_,_,rfl,rfl,_,rfl,_,_,rfl,rfl,_,rfl,by show 2<=100000;decide,?_⟩;rw[show Cc (es.map pairS) none (some (40:Int))=(es.take 40).map pairS by rw[show(40:Int)=((40:Nat):Int) from rfl,KF,Xe]];have Wd:Sdd n (es.take 40) c:=⟨λe he=>Wb.en e (W5 he),c1,λe he=>c2 e (W5 he)⟩
   exact Ph Wd (by rw[VN];omega) (by omega) λo4 o5 S'=>q _ _ _ _ _ _ _
  refine⟨_,rfl,_,rfl,_,rfl,ifD (λz=>?_) (λz=>?_)⟩
  ·refine⟨_,rfl,s36 9 T1 (by decide) (by decide) λr S2 r0 r1 T2 O2 _=>?_⟩;exact go _ _ S2 (λo1 o2 o3 o4 o5 o6 S'=>⟨_,_,_,_,_,_,rfl⟩) T2
  ·exact go _ _ _ (λo1 o2 o3 o4 o5 o6 S'=>⟨_,_,_,_,_,_,rfl⟩) T1
 ·rintro ρ S ⟨o1,o2,o3,o4,o5,o6,rfl⟩;have W0:Sdd 0 [] (λ_=>0):=⟨(λ_ h=>nomatch h),λ_=>by decide,(λ_ h=>nomatch h)⟩
  refine⟨by show 2<=100000;decide,by show 1<=100000;decide,by show 2<=100000;decide,?_⟩;refine⟨by show 0<=100000;decide,by show 2<=100000;decide,?_⟩;refine s34 0 W0 (by decide) (by decide) λk1 k2 S1 G1 l1 l2 ne h1 h2=>?_;refine⟨by show 0<=100000;decide,by show 0<=100000;decide,by show 2<=100000;decide,?_⟩;refine⟨[k1,k2],[S1.length,(S1++[SO.lst []]).length],[[],[]],rfl,rfl,⟨rfl,λi t xs e1 e2=>?_⟩,⟨rfl,λi t xs e1 e2=>?_⟩,_,rfl,ifT rfl ?_⟩
  ·have i2:i<2:=(gM e1).1;have:i=0\/i=1:=by omega
   rcases this with rfl | rfl
   ·cases e1;cases e2;exact c7 (c7 h1)
   ·cases e1;cases e2;exact c7 (c7 h2)
  ·have i2:i<2:=(gM e1).1;have:i=0\/i=1:=by omega
   rcases this with rfl | rfl
   ·cases e1;cases e2;exact c7 c6
   ·cases e1;cases e2;exact c6
  ·exact NU λS'=>rfl
end Hue
namespace PySem.W.Fast
theorem tw9083755508397831801:True:=⟨⟩
theorem tw15588989310836046656:True:=⟨⟩
theorem tw4874874551325571663:True:=⟨⟩
theorem tw2934811691414421733:True:=⟨⟩
theorem tw990523785716658041:True:=⟨⟩
theorem tw16889798118034778053:True:=⟨⟩
theorem tw8909528163542847249:True:=⟨⟩
theorem tw12816657973082095831:True:=⟨⟩
theorem tw3936434939388674389:True:=⟨⟩
theorem tw12625995256143378140:True:=⟨⟩
theorem tw5655495518847213350:True:=⟨⟩
theorem tw7830059529709578738:True:=⟨⟩
theorem tw13640546566062318576:True:=⟨⟩
theorem tw9103844908651121282:True:=⟨⟩
theorem tw18352324209495141326:True:=⟨⟩
theorem tw7645267775939819658:True:=⟨⟩
theorem tw7923553352016919120:True:=⟨⟩
theorem tw7959716106628668218:True:=⟨⟩
theorem tw7299453305844065165:True:=⟨⟩
theorem tw15371145810018759096:True:=⟨⟩
theorem tw15649386973171469682:True:=⟨⟩
theorem tw7977248419739591596:True:=⟨⟩
theorem tw14052733844016466116:True:=⟨⟩
theorem tw254479624429417080:True:=⟨⟩
theorem tw1842204168866232614:True:=⟨⟩
theorem tw8237121629366493262:True:=⟨⟩
theorem tw13890051214573204600:True:=⟨⟩
theorem tw9502168523005906576:True:=⟨⟩
theorem tw713919176975276227:True:=⟨⟩
theorem tw8446321991433171856:True:=⟨⟩
theorem tw2140094170894101867:True:=⟨⟩
theorem tw9602772992021381804:True:=⟨⟩
theorem tw17940390780686591698:True:=⟨⟩
theorem tw11847004772813168179:True:=⟨⟩
theorem tw16349952327014728344:True:=⟨⟩
theorem tw4510796534559648489:True:=⟨⟩
theorem tw5795621521295691621:True:=⟨⟩
theorem tw10209580472473103783:True:=⟨⟩
theorem tw18430548096130375733:True:=⟨⟩
theorem tw12545303227407403787:True:=⟨⟩
theorem tw15500593013870035674:True:=⟨⟩
theorem tw4770720142714786567:True:=⟨⟩
theorem tw4643244937423521009:True:=⟨⟩
theorem tw9234029593763210507:True:=⟨⟩
theorem tw18368395587726230071:True:=⟨⟩
theorem tw7993420290831175781:True:=⟨⟩
theorem tw3511831175511346645:True:=⟨⟩
theorem tw12420380083331582351:True:=⟨⟩
theorem tw244226560600910680:True:=⟨⟩
theorem tw8952273903666122524:True:=⟨⟩
theorem tw796281534587293578:True:=⟨⟩
theorem tw6559147842108979262:True:=⟨⟩
theorem tw35201737912582626:True:=⟨⟩
theorem tw6894229284934414313:True:=⟨⟩
theorem tw3510331099918312711:True:=⟨⟩
theorem tw13905034165973617046:True:=⟨⟩
theorem tw4425431924056691724:True:=⟨⟩
theorem tw9914279920031579909:True:=⟨⟩
theorem tw7767285288537247348:True:=⟨⟩
theorem tw17008991252799587621:True:=⟨⟩
theorem tw16547586156738958039:True:=⟨⟩
theorem tw3271156067059990988:True:=⟨⟩
theorem tw10915559526103641077:True:=⟨⟩
theorem tw16750899001274285228:True:=⟨⟩
theorem tw2564055376450915159:True:=⟨⟩
theorem tw16577629213723441605:True:=⟨⟩
theorem tw17411546825266092597:True:=⟨⟩
theorem tw18045909016331607716:True:=⟨⟩
theorem tw1646447583218324727:True:=⟨⟩
theorem tw9334562462739573457:True:=⟨⟩
theorem tw7729133717693819664:True:=⟨⟩
theorem tw7740182970820791017:True:=⟨⟩
theorem tw989819888502472397:True:=⟨⟩
theorem tw9511604757458302679:True:=⟨⟩
theorem tw14476576150541924791:True:=⟨⟩
theorem tw1648523351387845635:True:=⟨⟩
theorem tw922776678466786557:True:=⟨⟩
theorem tw3814183254525420315:True:=⟨⟩
theorem tw13832698307208926791:True:=⟨⟩
theorem tw460268605469172808:True:=⟨⟩
theorem tw11544012885053460596:True:=⟨⟩
theorem tw9995772280286840262:True:=⟨⟩
theorem tw10038774294948151395:True:=⟨⟩
theorem tw2220851452417886038:True:=⟨⟩
theorem tw6146014594814502442:True:=⟨⟩
theorem tw13379856160782714957:True:=⟨⟩
theorem tw14456800008512977379:True:=⟨⟩
theorem tw13251941709013900607:True:=⟨⟩
theorem tw9305642021400487996:True:=⟨⟩
theorem tw17229402331180959639:True:=⟨⟩
theorem tw3920153783118932068:True:=⟨⟩
theorem tw10168918001789726171:True:=⟨⟩
theorem tw581499061007326123:True:=⟨⟩
theorem tw13557913327221267857:True:=⟨⟩
theorem tw4752434746361872099:True:=⟨⟩
theorem tw9479724345010763364:True:=⟨⟩
theorem tw5789782968428627032:True:=⟨⟩
theorem tw17724926043166454369:True:=⟨⟩
theorem tw5350559529333738869:True:=⟨⟩
theorem tw16148284112388514323:True:=⟨⟩
theorem tw9413622203277420245:True:=⟨⟩
theorem tw14764347440917912998:True:=⟨⟩
theorem tw13301905107461680126:True:=⟨⟩
theorem tw443326235426392100:True:=⟨⟩
theorem tw6558243171420909427:True:=⟨⟩
theorem tw5985951827539751768:True:=⟨⟩
theorem tw4171350393149645975:True:=⟨⟩
theorem tw4933248527991257843:True:=⟨⟩
theorem tw17476800962009533872:True:=⟨⟩
theorem tw8295309483857589268:True:=⟨⟩
theorem tw11741604204826271589:True:=⟨⟩
theorem tw9389289321868053421:True:=⟨⟩
theorem tw15710920060498331217:True:=⟨⟩
theorem tw18413182982980451725:True:=⟨⟩
theorem tw6813808933912880437:True:=⟨⟩
theorem tw2389471398968881376:True:=⟨⟩
theorem tw10149114336642494317:True:=⟨⟩
theorem tw9978148138451740905:True:=⟨⟩
theorem tw12420576243074777242:True:=⟨⟩
theorem tw8532581394866411074:True:=⟨⟩
theorem tw7652514774629761836:True:=⟨⟩
theorem tw3505149044765674163:True:=⟨⟩
theorem tw12480000572393765739:True:=⟨⟩
theorem tw8829772686234261709:True:=⟨⟩
theorem tw12961069681593398481:True:=⟨⟩
theorem tw9932237195281038853:True:=⟨⟩
theorem tw16486813112792475460:True:=⟨⟩
theorem tw1995772666652641355:True:=⟨⟩
theorem tw17239398388673755578:True:=⟨⟩
theorem tw12093548852148671274:True:=⟨⟩
theorem tw17053570827859654417:True:=⟨⟩
theorem tw11442086818283894393:True:=⟨⟩
theorem tw8708287765035621306:True:=⟨⟩
theorem tw14668666879496593109:True:=⟨⟩
theorem tw13983264862925134655:True:=⟨⟩
theorem tw15734212954660996585:True:=⟨⟩
theorem tw15647067627347564212:True:=⟨⟩
theorem tw7136893917785321:True:=⟨⟩
theorem tw11245683474679655635:True:=⟨⟩
theorem tw10756191702136960900:True:=⟨⟩
theorem tw15425980393466612082:True:=⟨⟩
theorem tw2758320150863791157:True:=⟨⟩
theorem tw2722198493827058553:True:=⟨⟩
theorem tw16071044369942315024:True:=⟨⟩
theorem tw14269044253241344380:True:=⟨⟩
theorem tw13267863062104415346:True:=⟨⟩
theorem tw11330725828189808961:True:=⟨⟩
theorem tw5765717902963967766:True:=⟨⟩
theorem tw13896510427366470252:True:=⟨⟩
theorem tw2636534763786939156:True:=⟨⟩
theorem tw15907602624253578104:True:=⟨⟩
theorem tw8688675735930660285:True:=⟨⟩
theorem tw4692243715456267581:True:=⟨⟩
theorem tw7841024205398358568:True:=⟨⟩
theorem tw9488676750386130672:True:=⟨⟩
theorem tw3027807606463186550:True:=⟨⟩
theorem tw60952802521853287:True:=⟨⟩
theorem tw2814399655625901856:True:=⟨⟩
theorem tw2123769882715210489:True:=⟨⟩
theorem tw10238658230678735328:True:=⟨⟩
theorem tw2502248191485150051:True:=⟨⟩
theorem tw6014741824325884604:True:=⟨⟩
theorem tw6833769876642406691:True:=⟨⟩
theorem tw13144617659334718846:True:=⟨⟩
theorem tw7062266436557316198:True:=⟨⟩
theorem tw15123316383142391774:True:=⟨⟩
theorem tw955286430529074913:True:=⟨⟩
theorem tw6634154775462088723:True:=⟨⟩
theorem tw2800550595561860645:True:=⟨⟩
theorem tw13932094219015294152:True:=⟨⟩
theorem tw5166129586009296546:True:=⟨⟩
theorem tw14687044900157454708:True:=⟨⟩
theorem tw13721526578013919646:True:=⟨⟩
theorem tw12124297163323816562:True:=⟨⟩
theorem tw16914148113203837360:True:=⟨⟩
theorem tw1364888126023342336:True:=⟨⟩
theorem tw11118105774397930919:True:=⟨⟩
theorem tw1588183058352057511:True:=⟨⟩
theorem tw209359489992601092:True:=⟨⟩
theorem tw9335733627940855432:True:=⟨⟩
theorem tw15915902401653926349:True:=⟨⟩
theorem tw15541405668262359004:True:=⟨⟩
theorem tw6044090275140135140:True:=⟨⟩
theorem tw3392193969080093216:True:=⟨⟩
theorem tw7705355437908005164:True:=⟨⟩
theorem tw6552721770989063957:True:=⟨⟩
theorem tw10106852977963523760:True:=⟨⟩
theorem tw1206526824895733527:True:=⟨⟩
theorem tw7069437586280134642:True:=⟨⟩
theorem tw12610692101525938312:True:=⟨⟩
theorem tw1826592442838020259:True:=⟨⟩
theorem tw14808096770259405786:True:=⟨⟩
theorem tw7773102732933076836:True:=⟨⟩
theorem tw6466788061732575261:True:=⟨⟩
theorem tw621941907118626296:True:=⟨⟩
theorem tw4790807218928369551:True:=⟨⟩
theorem tw4299280821973219486:True:=⟨⟩
theorem tw4293679982465178101:True:=⟨⟩
theorem tw3730626852843006179:True:=⟨⟩
theorem tw2452053375384484792:True:=⟨⟩
theorem tw2137787497304573662:True:=⟨⟩
theorem tw18114473818734386379:True:=⟨⟩
theorem tw18105866084560838347:True:=⟨⟩
theorem tw18048029192830678249:True:=⟨⟩
theorem tw17386154076409091138:True:=⟨⟩
theorem tw1695076578329026750:True:=⟨⟩
theorem tw16008445163553606748:True:=⟨⟩
theorem tw15636010971486951938:True:=⟨⟩
theorem tw15514853921135461378:True:=⟨⟩
theorem tw14810755231899985229:True:=⟨⟩
theorem tw103113624186000820:True:=⟨⟩
theorem tw179386551189461781:True:=⟨⟩
theorem tw9996587740981796873:True:=⟨⟩
theorem tw9124913135952349955:True:=⟨⟩
theorem tw3796781669943235705:True:=⟨⟩
theorem tw2703704156174421544:True:=⟨⟩
theorem tw17517441224492961724:True:=⟨⟩
theorem tw17147306441236508830:True:=⟨⟩
theorem tw10259870301674702906:True:=⟨⟩
theorem tw2900104879214058931:True:=⟨⟩
theorem tw7033368665505907567:True:=⟨⟩
theorem tw4505631924451033147:True:=⟨⟩
theorem tw7101850974445713580:True:=⟨⟩
theorem tw5080405716271115113:True:=⟨⟩
theorem tw15828096717389013800:True:=⟨⟩
theorem tw12376338846855946368:True:=⟨⟩
theorem tw10798136787353778211:True:=⟨⟩
theorem tw17484732164231800521:True:=⟨⟩
theorem tw14746573198172813926:True:=⟨⟩
theorem tw13268723165688562574:True:=⟨⟩
theorem tw10977023248592247516:True:=⟨⟩
theorem tw2666271830802097242:True:=⟨⟩
theorem tw1460095638783824256:True:=⟨⟩
theorem tw12913650371415247827:True:=⟨⟩
end PySem.W.Fast
namespace Hue
open PySem L2 Rf
noncomputable def j4(K:Um)(nm:Str)(i:Nat):Prop:=∃(f:YN) (od an:Option YN) (sl:Array (Option YK)) (oc kV dc pm cd ct:YK),PySem.W.nsIn K YW nm=some (some (.ref f))/\K.lookup f=some ⟨oc,od,.func (PySem.W.fnOf nm nm (defArgs (top i)) (defBody (top i)) (defScope (top i)) .none kV dc pm an cd ct),sl⟩/\PySem.W.codeIn K cd nm=true/\PySem.W.keepIn K (.ref f)=true
theorem lnkK_mk{K:Um}{nm:Str}{i:Nat}{f:YN}{od an:Option YN}{sl:Array (Option YK)}{oc kV dc pm cd ct:YK}(a:PySem.W.nsIn K YW nm=some (some (.ref f)))(l:K.lookup f=some ⟨oc,od,.func (PySem.W.fnOf nm nm (defArgs (top i)) (defBody (top i)) (defScope (top i)) .none kV dc pm an cd ct),sl⟩)(c:PySem.W.codeIn K cd nm=true)(k:PySem.W.keepIn K (.ref f)=true):j4 K nm i:=⟨f,od,an,sl,oc,kV,dc,pm,cd,ct,a,l,c,k⟩
theorem c9{K:Um}{h:Heap}{mg:Str->Option YK}(X:K.In h)(G:h.Ns YW mg)(D:Df){i:Nat}(x:j4 K D.name i)(e:D.st=top i)(b:∀(kV doc pm:YK) (an:Option YN) (cdv ct:YK) (us:List YK),us.length=D.ps.length->bindArgs (PySem.W.fnOf D.name D.name (defArgs (top i)) (defBody (top i)) (defScope (top i)) .none kV doc pm an cdv ct) ⟨us,[]⟩=pure (D.ps.zip us)):PIn K mg D:=by
 obtain⟨_,_,_,_,_,_,_,_,_,_,a,l,c,k⟩:=x;exact⟨_,_,e▸Gb (st:=top i) l c k,PySem.W.mg_of X G a,k,(Gb (st:=top i) l c k).binds (ps:=D.ps) b⟩
theorem f9{P:Df->Prop}{D:Df}{l:List Df}(a:P D)(b:∀ x∈l,P x):∀ x∈D::l,P x:=List.forall_mem_cons.mpr ⟨a,b⟩
theorem all_mk{l:PySem.W.OpenLaw}{w:YX}{K:Um}{h:Heap}{mg:Str->Option YK}{fa:YN}(X:K.In h)(G:h.Ns YW mg)(hfa:mg "law"=some (.ref fa))
 (x0:j4 K "is_number" 8)
 (x1:j4 K "is_listed" 9)
 (x2:j4 K "has_place" 11)
 (x3:j4 K "has_tie" 12)
 (x4:j4 K "check_place" 13)
 (x5:j4 K "check_tie" 14)
 (x6:j4 K "ties_at" 15)
 (x7:j4 K "most_at" 16)
 (x8:j4 K "far_end" 17)
 (x9:j4 K "meets" 18)
 (x10:j4 K "give_sides" 20)
 (x11:j4 K "way_back" 21)
 (x12:j4 K "ring_through" 22)
 (x13:j4 K "two_sides" 23)
 (x14:j4 K "sides_of" 24)
 (x15:j4 K "is_hue" 26)
 (x16:j4 K "is_hueing" 27)
 (x17:j4 K "clash_of" 28)
 (x18:j4 K "hues_at" 29)
 (x19:j4 K "free_at" 30)
 (x20:j4 K "tie_of_hue" 32)
 (x21:j4 K "check_unlike" 33)
 (x22:j4 K "row_from" 34)
 (x23:j4 K "exchanged" 35)
 (x24:j4 K "tie_has_hue" 37)
 (x25:j4 K "tie_lacks_hue" 38)
 (x26:j4 K "with_hues" 39)
 (x27:j4 K "after_hue" 40)
 (x28:j4 K "after_drop" 41)
 (x29:j4 K "after_move" 42)
 (x30:j4 K "after_row" 43)
 (x31:j4 K "after_step" 44)
 (x32:j4 K "played" 45)
 (x33:j4 K "steps_by_row" 47)
 (x34:j4 K "by_rows" 48)
 (x35:j4 K "_law_tape" 50)
 (x36:j4 K "_law_draw" 51)
 (x37:j4 K "_law_two_once" 52)
 (x38:j4 K "_law_two_sided" 53)
 (x39:j4 K "_law_meet" 54)
 (x40:j4 K "_law_is_hueing" 55)
 (x41:j4 K "_law_count" 56)
 (x42:j4 K "_law_most" 57)
 (x43:j4 K "_law_row" 58)
 (x44:j4 K "_law_behind" 59)
 (x45:j4 K "_law_walked" 60)
 (x46:j4 K "_law_right" 61)
 (x47:j4 K "law" 62)
 (z0:PySem.W.nsIn K YW "len"=some none)
 (z1:PySem.W.nsIn K YW "abs"=some none)
 (z2:PySem.W.nsIn K YW "min"=some none)
 (z3:PySem.W.nsIn K YW "max"=some none)
 (z4:PySem.W.nsIn K YW "int"=some none)
 (z5:PySem.W.nsIn K YW "list"=some none)
 (z6:PySem.W.nsIn K YW "tuple"=some none)
 (z7:PySem.W.nsIn K YW "all"=some none)
 (z8:PySem.W.nsIn K YW "any"=some none)
 (z9:PySem.W.nsIn K YW "sorted"=some none)
 (z10:PySem.W.nsIn K YW "isinstance"=some none)
 (z11:PySem.W.nsIn K YW "str"=some none)
 (z12:PySem.W.nsIn K YW "range"=some none)
 (z13:PySem.W.nsIn K YW "enumerate"=some none)
 (z14:PySem.W.nsIn K YW "zip"=some none)
 (z15:PySem.W.nsIn K YW "set"=some none)
 (z16:PySem.W.nsIn K YW "bool"=some none)
 (z17:PySem.W.nsIn K YW "dict"=some none)
 (z18:PySem.W.nsIn K YW "reversed"=some none)
 (z19:PySem.W.nsIn K YW "repr"=some none)
 (z20:PySem.W.nsIn K YW "sum"=some none)
 : ∃ fd:Z5,(∀(s:YM) (v:YK),BindsTo s fd ⟨[v],[]⟩ [("_law_script",v)])/\∀ base:Heap,K.In base->base.Ns YW mg->FnOk l.prog w K mg base CX0 11 fa fd ["_law_script"] (spS K (W prog 11 47)):=by
 have y:=x47;obtain⟨f47,od47,an47,sl47,oc47,kV47,dc47,pm47,cd47,ct47,a47,l47,c47,k47⟩:=x47;have e:=hfa.symm.trans (PySem.W.mg_of X G a47);cases e
 have B:Bl mg:=by
  refine⟨λb=>?_,V7 X G z12,V7 X G z13,V7 X G z18,V7 X G z14,V7 X G z20,V7 X G z15,V7 X G z17,λt ht=>?_⟩
  ·cases b with
   | len=>exact V7 X G z0
   | abs=>exact V7 X G z1
   | min=>exact V7 X G z2
   | max=>exact V7 X G z3
   | int=>exact V7 X G z4
   | list=>exact V7 X G z5
   | tuple=>exact V7 X G z6
   | all=>exact V7 X G z7
   | any=>exact V7 X G z8
   | sorted=>exact V7 X G z9
   | isi=>exact V7 X G z10
   | str=>exact V7 X G z11
   | repr=>exact V7 X G z19
  ·cases t with
   | int=>exact V7 X G z4
   | bool=>exact V7 X G z16
   | str=>exact V7 X G z11
   | list=>exact V7 X G z5
   | tuple=>exact V7 X G z6
   | none=>exact absurd rfl ht
 have hin:∀ D∈prog,PIn K mg D:=f9 (c9 X G d0 x0 rfl λ_ _ _ _ _ _=>Dk λ_=>rfl) (f9 (c9 X G d1 x1 rfl λ_ _ _ _ _ _=>Dk λ_=>rfl) (f9 (c9 X G d2 x2 rfl λ_ _ _ _ _ _=>BH λ_ _=>rfl) (f9 (c9 X G d3 x3 rfl λ_ _ _ _ _ _=>BH λ_ _=>rfl) (f9 (c9 X G d4 x4 rfl λ_ _ _ _ _ _=>BH λ_ _=>rfl) (f9 (c9 X G d5 x5 rfl λ_ _ _ _ _ _=>BH λ_ _=>rfl) (f9 (c9 X G d6 x6 rfl λ_ _ _ _ _ _=>BH λ_ _=>rfl) (f9 (c9 X G d7 x7 rfl λ_ _ _ _ _ _=>Dk λ_=>rfl) (f9 (c9 X G d8 x8 rfl λ_ _ _ _ _ _=>C2 λ_ _ _=>rfl) (f9 (c9 X G d9 x9 rfl λ_ _ _ _ _ _=>C2 λ_ _ _=>rfl) (f9 (c9 X G d10 x10 rfl λ_ _ _ _ _ _=>HW λ_ _ _ _=>rfl) (f9 (c9 X G d11 x11 rfl λ_ _ _ _ _ _=>C2 λ_ _ _=>rfl) (f9 (c9 X G d12 x12 rfl λ_ _ _ _ _ _=>C2 λ_ _ _=>rfl) (f9 (c9 X G d13 x13 rfl λ_ _ _ _ _ _=>Dk λ_=>rfl) (f9 (c9 X G d14 x14 rfl λ_ _ _ _ _ _=>Dk λ_=>rfl) (f9 (c9 X G d15 x15 rfl λ_ _ _ _ _ _=>Dk λ_=>rfl) (f9 (c9 X G d16 x16 rfl λ_ _ _ _ _ _=>BH λ_ _=>rfl) (f9 (c9 X G d17 x17 rfl λ_ _ _ _ _ _=>BH λ_ _=>rfl) (f9 (c9 X G d18 x18 rfl λ_ _ _ _ _ _=>C2 λ_ _ _=>rfl) (f9 (c9 X G d19 x19 rfl λ_ _ _ _ _ _=>HW λ_ _ _ _=>rfl) (f9 (c9 X G d20 x20 rfl λ_ _ _ _ _ _=>HW λ_ _ _ _=>rfl) (f9 (c9 X G d21 x21 rfl λ_ _ _ _ _ _=>BH λ_ _=>rfl) (f9 (c9 X G d22 x22 rfl λ_ _ _ _ _ _=>P9 λ_ _ _ _ _=>rfl) (f9 (c9 X G d23 x23 rfl λ_ _ _ _ _ _=>P9 λ_ _ _ _ _=>rfl) (f9 (c9 X G d24 x24 rfl λ_ _ _ _ _ _=>C2 λ_ _ _=>rfl) (f9 (c9 X G d25 x25 rfl λ_ _ _ _ _ _=>C2 λ_ _ _=>rfl) (f9 (c9 X G d26 x26 rfl λ_ _ _ _ _ _=>C2 λ_ _ _=>rfl) (f9 (c9 X G d27 x27 rfl λ_ _ _ _ _ _=>HW λ_ _ _ _=>rfl) (f9 (c9 X G d28 x28 rfl λ_ _ _ _ _ _=>C2 λ_ _ _=>rfl) (f9 (c9 X G d29 x29 rfl λ_ _ _ _ _ _=>HW λ_ _ _ _=>rfl) (f9 (c9 X G d30 x30 rfl λ_ _ _ _ _ _=>P9 λ_ _ _ _ _=>rfl) (f9 (c9 X G d31 x31 rfl λ_ _ _ _ _ _=>C2 λ_ _ _=>rfl) (f9 (c9 X G d32 x32 rfl λ_ _ _ _ _ _=>C2 λ_ _ _=>rfl) (f9 (c9 X G d33 x33 rfl λ_ _ _ _ _ _=>HW λ_ _ _ _=>rfl) (f9 (c9 X G d34 x34 rfl λ_ _ _ _ _ _=>Dk λ_=>rfl) (f9 (c9 X G d35 x35 rfl λ_ _ _ _ _ _=>BH λ_ _=>rfl) (f9 (c9 X G d36 x36 rfl λ_ _ _ _ _ _=>BH λ_ _=>rfl) (f9 (c9 X G d37 x37 rfl λ_ _ _ _ _ _=>BH λ_ _=>rfl) (f9 (c9 X G d38 x38 rfl λ_ _ _ _ _ _=>BH λ_ _=>rfl) (f9 (c9 X G d39 x39 rfl λ_ _ _ _ _ _=>C2 λ_ _ _=>rfl) (f9 (c9 X G d40 x40 rfl λ_ _ _ _ _ _=>BH λ_ _=>rfl) (f9 (c9 X G d41 x41 rfl λ_ _ _ _ _ _=>BH λ_ _=>rfl) (f9 (c9 X G d42 x42 rfl λ_ _ _ _ _ _=>Dk λ_=>rfl) (f9 (c9 X G d43 x43 rfl λ_ _ _ _ _ _=>P9 λ_ _ _ _ _=>rfl) (f9 (c9 X G d44 x44 rfl λ_ _ _ _ _ _=>C2 λ_ _ _=>rfl) (f9 (c9 X G d45 x45 rfl λ_ _ _ _ _ _=>BH λ_ _=>rfl) (f9 (c9 X G d46 x46 rfl λ_ _ _ _ _ _=>BH λ_ _=>rfl) (f9 (c9 X G d47 y rfl λ_ _ _ _ _ _=>Dk λ_=>rfl) (λ_ h=>nomatch h))))))))))))))))))))))))))))))))))))))))))))))));refine⟨PySem.W.fnOf "law" "law" (defArgs (top 62)) (defBody (top 62)) (defScope (top 62)) .none kV47 dc47 pm47 an47 cd47 ct47,λs v => .of_eq rfl,λbase _ _=>?_⟩
 exact Mn (P:=l.prog) (w:=w) (base:=base) (k:=10) (Δ:=W prog 10) (D:=d47) (Gb (st:=top 62) l47 c47 k47) (VC.mp GN d47 (Us (show prog[47]?=some d47 from rfl))) B (λg x hx=>by
  rw[Uz]at hx;cases hg:prog[g]? with
  | none=>rw[hg]at hx;cases hx
  | some D'=>
    rw[hg]at hx;have:D'.name=x:=by simpa using hx
    subst this;exact⟨D'.ps,Ig GN B hin 10 g D' hg⟩) (DK 10)
theorem walkL{l:PySem.W.OpenLaw}{q:YT}{loose:List Str}{XP:(Str->Option YK)->Heap->Prop}{YP:YX->Heap->Prop}{d:DefRec}{K:Params->Um}(hn:l.most=some 63)(hdf:d.params.defaults=[])
 (hY:∀(w:YX) (h:Heap),YP w h->(K w.params).In h)
 (F:∀(w:YX) (mg:Str->Option YK) (fa:YN) (h:Heap),(K w.params).In h->h.Ns YW mg->mg d.name=some (.ref fa)->
   ∃ fd:Z5,(∀(s:YM) (u:YK),BindsTo s fd ⟨[u],[]⟩ [("_law_script",u)])/\∀ base:Heap,(K w.params).In base->base.Ns YW mg->FnOk l.prog w (K w.params) mg base CX0 11 fa fd ["_law_script"] (spS (K w.params) (W prog 11 47))):
 PySem.W.WalkO q loose XP YP l.row.toRowW d [] (λf vs=>PySem.call f vs):=
 L2.walk_of (n:=63) (k:=11) (x:="_law_script") (CX:=λ_=>CX0) (sp:=λw=>spS (K w.params) (W prog 11 47)) hn (by decide) hdf ⟨rfl,by decide,by decide,rfl⟩ hY F (λ_ _ a ns hl hO hS=>SQ (law_main ns hl) hO hS) λ_ _ _ _ _ z=>z
end Hue
open PySem PySem.W PyProof.Rows
set_option maxRecDepth 100000 in
set_option maxHeartbeats 0 in
theorem PySem.Challenge.cw_huedties_k30_hued_by_rows_holds : PySem.Challenge.rw_huedties_k30_hued_by_rows.Holds := by
 w_on;o_law;k_head;(case hw=>w_witness2)
 k_fill
 refine Hue.walkL (l:=PySem.Challenge.rw_huedties_k30_hued_by_rows) rfl rfl (λw h Y=>PySem.W.kIn_of Y) ?F
 case F=>
  intro w mg fa h KX G hmg;refine' Hue.all_mk KX G hmg ?_ ?_ ?_ ?_ ?_ ?_ ?_ ?_ ?_ ?_ ?_ ?_ ?_ ?_ ?_ ?_ ?_ ?_ ?_ ?_ ?_ ?_ ?_ ?_ ?_ ?_ ?_ ?_ ?_ ?_ ?_ ?_ ?_ ?_ ?_ ?_ ?_ ?_ ?_ ?_ ?_ ?_ ?_ ?_ ?_ ?_ ?_ ?_ ?_ ?_ ?_ ?_ ?_ ?_ ?_ ?_ ?_ ?_ ?_ ?_ ?_ ?_ ?_ ?_ ?_ ?_ ?_ ?_ ?_
  all_goals first | exact Hue.lnkK_mk (by k_is) (by k_is) (by k_is) (by k_is) | k_is
