import PyProof.Rows.All
import Wide.All
import OpenK.AllK
import PySem.Challenge.RW_huedties_k69_blocks
set_option Elab.async false
set_option linter.all false
set_option maxRecDepth 100000
open PySem.W renaming Frag->Rz,mg_none_of->SR
open List renaming length_map->S7,length_append->SA,mem_of_getElem?->SB,getElem?_eq_getElem->SC,range->SE,size_toArray->SF,mem_cons_of_mem->SG,mem_cons_self->SI,replicate->SJ,getElem?_map->SL,map_append->SM,getD_eq_getElem?_getD->SQ,mem_cons->SU,mem_range->SX,getElem?_append_left->SY,all_eq_true->SZ,prefix_refl->Sb,mem_singleton->Sd,getElem?_concat_length->Sf,mem_append->Sg,mem_append_right->Si,map_cons->Sk,filter_cons->Sl,mem_filter->Sm,getElem?_append_right->So,length_set->Sq,length_singleton->Sr,replicate_succ->Ss,append_nil->Su,length_take->Sv,length_drop->Sw,length_filter_le->Sy,length_cons->T7,isEmpty_iff->T8,length_range->T9,getElem?_of_mem->TB,find?_cons->TF,take_length->TH,nodup_cons->TK,range_succ->TL,all_cons->TN,lookup_cons->TQ,length_eq_zero_iff->TR,any_cons->TU,getElem?_set_self->TV,take_succ->TX,getD->TY,getElem?_range->TZ,prefix_append->Tc,mem_map->Te,getElem?_replicate->Th,flatten_cons->Ti,any_eq_true->Tn,drop_eq_getElem_cons->Tp,of_mem_zip->Tq,length_nil->Tr,getElem?_set_ne->Tt,flatMap_cons->Tv,filter_append->U0,filter_eq_nil_iff->U1,length_replicate->U2,mem_iff_getElem->U6,getElem_mem->U7,filterMap_cons->U8,map_congr_left->U9,pairwise_cons->UA,length->UC,nodup_append->UD,getElem?_inj->UE,pairwise_lt_range->UG,drop_length->UH,nodup_range->UI,nil_append->UK,head?_drop->UL,map_map->UO,tail_drop->UQ,set->UR,foldl_append->UT,filter_congr->UU,cons_ne_nil->UX,foldl->UY,find?_cons_of_pos->UZ,find?_cons_of_neg->Ua,getElem?_zipWith->Uc,mem_append_left->Ud,lookup->Ue,map->Ug,mem_of_mem_take->Uh,mem_of_mem_drop->Ui,pairwise_append->Uj,flatMap_append->Uk,map_drop->Um,mem_filterMap->Uo,take_sublist->Uu,reverse_cons->Uv,mapM_toArray->Uz,all_map->V0,any_map->V1,any_nil->V3,ext_getElem->V6,flatMap_def->V8,length_zip->VA,nodup_nil->VB,tail_cons->VD,map_take->VG,drop_one->VH,map_nil->VM
open Bool renaming and_eq_true->S8,false_ne_true->SH,not_eq_true'->Sh,or_eq_true->Sz,eq_iff_iff->TC,false_eq_true->To,or_false->Ul,false_or->VE,true_and->VF
open PySem.Heap renaming get?_push_of_some->SD,lt_size->SN,get?_push_size->SW,SameBut->TM,get?_update_other->Tx,get?_update_self->U3,size_push->U5,ExtBut->VQ
open Nat renaming le_refl->SK,ne_of_lt->SS,lt_of_lt_of_le->Se,le_trans->Sj,zero_le->Tf,lt_irrefl->Tj,lt_trans->Tz,lt_of_le_of_lt->UB,le_succ->UJ,add_le_add_left->UN,le_of_lt->Ut,mul_comm->Uw,lt_succ_of_lt->Ux,lt_or_ge->Uy,le_succ_of_le->V2,lt_succ_self->V5,min_eq_right->V7,min_eq_left->V9,mul_le_mul->VC,ne_of_gt->VJ,succ_mul->VL,zero_add->VN,sub_zero->VO,le_total->VP
open Option renaming map_eq_some_iff->Sx,map_some->Ta,isSome_iff_exists->Td,isNone_iff_eq_none->US,getD_some->UV,bind_some->UW,isSome_some->Uq,getD_none->V4
open Int renaming natCast_inj->T6,emod_lt_of_pos->TJ,emod_nonneg->Tb,zero_add->Tu,toNat_of_nonneg->Tw,toNat_natCast->U4,emod_eq_of_lt->UF,natCast_add->Ub,sub_emod_right->Ur,natCast_nonneg->Us
open Array renaming length_toList->UM,getElem?_zip_eq_some->UP,toList->VI
open PySem renaming wpAny_bind->VR,Value->VS,Shared->VT,Addr->VU,wpAny_pure->VV,sizeLine->VW,wpAny->VX,model->VY,Program->VZ,mainGlobals->Va,bootBuiltins->Vb,World->Vc,compareOp->Vd,Scope->Ve,Around->Vf,starEach->Vg,wpAny_newObj_type->Vh,wpAny_truthy_bool->Vj,foldedSetIterable->Vk,wpAny_holding->Vl,wpAny_mono->Vm,wpAny_callSpecial?_slot->Vn,sysModules->Vo,wpAny_call_entry->Vp,binaryOp->Vq,NameKind->Vr,wpAny_typeNameOfWhole_keyiter->Vs,cellsFrom->Vt,assignEach->Vu,swapsWith->Vv,wpAny_passesOwn->Vw,wpAny_standAt->Vx,swappedStores->Vy,call_meets->Vz,wpAny_comprehension_free->W0,wpAny_typeNameOf_keyiter->W1,FuncData->W4,wpAny_typeOf->W5,swapsWithSole->W6,letOwnedTupleGo->W7,wpAny_rule->W8,wpAny_pyIter_tuple->W9,wpAny_field->WB,sliceBounds->WC,newFunctionEnv->WD,wpAny_pyIter_enum->WG,wpAny_pyIter_list->WH,wpAny_dictEntries->WJ,wpAny_notOrdered_dict->WK,typeIs_int->WL,attributeBase->WN,wpAny_Call_Name_kw->WU,wpAny_setField->WV,firstArgMember->WW,wpAny_letOwnedTupleGo_enum->WX,tupleKind_room_in1->WY,wpAny_binaryOp_repeat_ref->WZ,wpAny_assign_Name->Wa,tupleKind->Wc,Operator->Wd,noFill_tuple_add->We,compEnvC->Wf,wpAny_pyNext_enum_itemD->Wg,SetTable->Wh,codeAny_compStart_list->Wj,wpAny_pyNext_enum_endD->Wk,wpAny_execs_nil->Wl,pushCells_keeps->Wm,size_of_entries->Wn,codeAny_builtin->Wo,wpAny_dictEpoch->Wp,exec_Assign_Name_used->Wq,wpAny_isOneOf_keyiter->Wr,sizeLine_eq->Ws,subscripted->Wt,wpAny_seqItems->Wu,dictSetDefault->Wv,DictEntry->Ww,assignInOrder->Wy,behindInMarks->Wz,seq_tuple_add->X0,plainId_quiet->X5,wpAny_attempt->X7,builtinsNs->X8,getattributeRaised->XA,codeAny_mono->XC,concat_meets->XD,wpAny_sequenceKey->XE,seqIndex_neg->XF,PassesOwn->XJ,pushCells->XM,merged_length_le->XO,richCompare->XQ,seqIndex_of->XR,keywordEach->XS,entryOfKey->XU,GenState->XW,wpAny_Name->XX,bindName->XY,wpAny_bindName->XZ,recursionLimit->Xa,typeLookup->Xc,fitsIndex_both->Xe,compPost->Xf,wpAny_fieldsOf->Xg,constantsAlone->Xh,lastMarks->Xi
open PyProof.Rows renaming wpS_bind->W3,setPending->WM,wpS_pure->WQ,assignInOrder_cons->WR,subscriptTail_builtinR->Wi,entry_tuple_getitem->Wx,subscriptTail->X4,listUpdate_at->X6,args_tuple_getitem->X9,assignInOrder_nil->XB,wpS_forRange->XG,SortKind->XH,oneType'->XI,pendingOf->XN,seqEpoch_at->XT,slicePart_none->Xb,Subscript_->Xd
abbrev EE:=List (Nat×Nat)
theorem gM{α:Type}{l:List α}{i:Nat}{a:α}(h:l[i]?=some a):∃h:i<l.length,l[i]=a:=List.getElem?_eq_some_iff.mp h
theorem oj{α:Type}{a b:α}(h:some a=some b):a=b:=Option.some.inj h
theorem dQ{p:Prop}[Decidable p]:(decide p=true)=p:=decide_eq_true_eq
theorem iG{c:Prop}{h:Decidable c}(k:¬c){α:Sort u}{t e:α}:ite c t e=e:=if_neg k
theorem iP{c:Prop}{h:Decidable c}(k:c){α:Sort u}{t e:α}:ite c t e=t:=if_pos k
namespace L2
open PySem PySem.Spec PyProof.Rows
noncomputable abbrev Key:=Sum Int Str
noncomputable def D8:Key->VS->Bool
 | .inl k,v=>Value.isInt k v
 | .inr x,v=>Value.isStrOf x v
noncomputable def RX(w:Vc):Key->Int
 | .inl k=>hashInt k
 | .inr x=>hashStr w x
theorem i8:∀{k:Key} {v:VS},D8 k v=true->(∃ i t,k=Sum.inl i/\v=Value.int i t)\/(∃ x t,k=Sum.inr x/\v=Value.str x t)
 | .inl i,v,h=>by
   obtain⟨t,e⟩:=Value.isInt_shape (k:=i) (v:=v) h;exact .inl ⟨i,t,rfl,e⟩
 | .inr x,v,h=>by
   obtain⟨t,e⟩:=Value.isStrOf_shape (x:=x) (v:=v) h;exact .inr ⟨x,t,rfl,e⟩
theorem IH(i:Int)(t:Tok):D8 (.inl i) (.int i t)=true:=by simp[D8,Value.isInt]
theorem II(x:Str)(t:Tok):D8 (.inr x) (.str x t)=true:=by simp[D8,Value.isStrOf]
theorem OO(a b:Int):decide ((Sum.inl a:Key)=Sum.inl b)=(a == b):=by
 by_cases e:a=b
 ·subst e;simp
 ·have h:¬ (Sum.inl a:Key)=Sum.inl b:=λq=>e (Sum.inl.inj q);rw[decide_eq_false h];exact(beq_eq_false_iff_ne.mpr e).symm
theorem OP(a b:Str):decide ((Sum.inr a:Key)=Sum.inr b)=decide (a=b):=by
 by_cases e:a=b
 ·subst e;simp
 ·have h:¬ (Sum.inr a:Key)=Sum.inr b:=λq=>e (Sum.inr.inj q);rw[decide_eq_false h,decide_eq_false e]
theorem OQ(a:Int)(b:Str):decide ((Sum.inl a:Key)=Sum.inr b)=false:=decide_eq_false (λq=>nomatch q)
theorem OR(a:Str)(b:Int):decide ((Sum.inr a:Key)=Sum.inl b)=false:=decide_eq_false (λq=>nomatch q)
noncomputable def g6(prog:VZ)(w:Vc):PySem.KeyKind prog w Key where
 is:=D8
 hash:=RX w
 inj:=λv a b ha hb=>by
  rcases i8 ha with⟨i,t,rfl,rfl⟩ | ⟨x,t,rfl,rfl⟩
  ·rcases i8 hb with⟨j,u,rfl,e⟩ | ⟨y,u,rfl,e⟩
   ·injection e with e1 _;rw[e1]
   ·exact nomatch e
  ·rcases i8 hb with⟨j,u,rfl,e⟩ | ⟨y,u,rfl,e⟩
   ·exact nomatch e
   ·injection e with e1 _;rw[e1]
 byValue:=λk v h=>by
   rcases i8 h with⟨i,t,rfl,rfl⟩ | ⟨x,t,rfl,rfl⟩<;>rfl
 pyHash:=λhv h=>by
  rcases i8 hv with⟨i,t,rfl,rfl⟩ | ⟨x,t,rfl,rfl⟩
  ·exact wpAny_pyHash_int h
  ·exact wpAny_pyHash_str h
 eqBool:=λhu hv h=>by
  rcases i8 hu with⟨i,t,rfl,rfl⟩ | ⟨x,t,rfl,rfl⟩
  ·rcases i8 hv with⟨j,u,rfl,rfl⟩ | ⟨y,u,rfl,rfl⟩
   ·rw[OO]at h;exact wpAny_eqBool_int h
   ·rw[OQ]at h;exact SeqAt.EqAt.int_str i t y u _ _ _ _ h
  ·rcases i8 hv with⟨j,u,rfl,rfl⟩ | ⟨y,u,rfl,rfl⟩
   ·rw[OR]at h;exact SeqAt.EqAt.str_int x t j u _ _ _ _ h
   ·rw[OP]at h;exact wpAny_eqBool_str h
 «strs»:=λk x t v h=>by
  rcases i8 h with⟨i,u,rfl,e⟩ | ⟨y,u,rfl,e⟩
  ·exact nomatch e
  ·injection e with e1 _;subst e1;cases v<;>rfl
theorem Bz(prog:VZ)(w:Vc)(i:Int)(t:Tok):(g6 prog w).is (.inl i) (.int i t)=true:=IH i t
theorem EG(prog:VZ)(w:Vc)(x:Str)(t:Tok):(g6 prog w).is (.inr x) (.str x t)=true:=II x t
inductive V where
 | non | bl (b:Bool) | int (i:Int) | str (x:Str) | byt (b:Array UInt8) | flt (b:UInt64) | ref (a:VU) | ty (n:String)
 deriving DecidableEq
noncomputable def RelV:V->VS->Prop
 | .non,u=>u=Value.none
 | .bl b,u=>u=Value.bool b
 | .int i,u=>∃ t,u=Value.int i t
 | .str x,u=>∃ t,u=Value.str x t
 | .byt b,u=>∃ t,u=Value.bytes b t
 | .flt b,u=>∃ t,u=Value.float b t
 | .ref a,u=>u=Value.ref a
 | .ty n,u=>u=Value.type n
noncomputable abbrev Vals:List V->List VS->Prop:=Paired RelV
theorem Vals.length{xs:List V}{us:List VS}(r:Vals xs us):xs.length=us.length:=Paired.length r
theorem Vals.get:∀{xs:List V} {us:List VS} {i:Nat} {x:V},Vals xs us->xs[i]?=some x->∃ u,us[i]?=some u/\RelV x u
 | _,_,_,_,.nil,e=>by simp at e
 | _,_,0,_,.cons r _,e=>by simp at e;subst e;exact⟨_,rfl,r⟩
 | _,_,i+1,x,.cons _ t,e=>by
   obtain⟨u,h1,h2⟩:=Vals.get (i:=i) (x:=x) t (by simpa using e);exact⟨u,by simpa using h1,h2⟩
theorem Vals.set{x:V}{u:VS}(r:RelV x u):∀{xs:List V} {us:List VS} (i:Nat),Vals xs us->Vals (xs.set i x) (us.set i u)
 | _,_,_,.nil => .nil
 | _,_,0,.cons _ t => .cons r t
 | _,_,i+1,.cons q t => .cons q (Vals.set r i t)
theorem Vals.append:∀{xs ys:List V} {us ws:List VS},Vals xs us->Vals ys ws->Vals (xs++ys) (us++ws)
 | _,_,_,_,.nil,s=>s
 | _,_,_,_,.cons r t,s => .cons r (Vals.append t s)
theorem Vals.take:∀{xs:List V} {us:List VS} (n:Nat),Vals xs us->Vals (xs.take n) (us.take n)
 | _,_,0,_ => .nil
 | _,_,_+1,.nil => .nil
 | _,_,n+1,.cons r t => .cons r (Vals.take n t)
theorem Vals.drop:∀{xs:List V} {us:List VS} (n:Nat),Vals xs us->Vals (xs.drop n) (us.drop n)
 | _,_,0,r=>r
 | _,_,_+1,.nil => .nil
 | _,_,n+1,.cons _ t=>Vals.drop n t
noncomputable def RelO:Option V->Option VS->Prop
 | some v,some u=>RelV v u
 | none,none=>True
 | _,_=>False
noncomputable def KV{κ:Type}:List (κ×V)->List (κ×VS)->Prop:=Paired λ(p:κ×V) (q:κ×VS)=>p.1=q.1/\RelV p.2 q.2
noncomputable def kV:Key->V
 | .inl i => .int i
 | .inr x => .str x
inductive HO where
 | lst (xs:List V)
 | tup (xs:List V)
 | dK (kvs:List (Key×V)) | dT (kvs:List (List Key×V))
 | set (S:Int->Bool) (n:Nat)
 | ins (C dx:VU) (fs:List (Str×V))
 | own (x:VU)
 | xd (fs:List (Str×V))
 | met (f x:VU)
 | rng (lo hi:Int)
 | frz (o:Obj) (u:HO)
 | tbl (ps:Array VS)
 | ext (φ:Heap->Prop)
noncomputable abbrev Hp:=VU->Option HO
noncomputable def upd(H:Hp)(a:VU)(o:HO):Hp:=λb=>if b=a then some o else H b
theorem c7{H:Hp}{a:VU}{o:HO}:upd H a o a=some o:=by unfold upd;rw[iP rfl]
theorem a8{H:Hp}{a b:VU}{o:HO}(h:b≠a):upd H a o b=H b:=by unfold upd;rw[iG h]
theorem Gn{H:Hp}{a b:VU}{o u:HO}(h:H a=some o)(h':H b=some u)(d:o≠u):a≠b:=by
 intro e;subst e;rw[h]at h';exact d (oj h')
theorem c6{H:Hp}{a b:VU}{o:HO}(h:H a=some o)(h':H b=none):a≠b:=by
 intro e;subst e;rw[h]at h';cases h'
section
variable(P:VZ)(w:Vc)
noncomputable def ObjOk(H:Hp)(h:Heap)(a:VU):HO->Prop
 | .lst xs=>xs.length<=VW/\∃(its:List VS) (n:Nat),Vals xs its/\h.get? a=some {cls := .type "list",data := .seq its.toArray n}
 | .tup xs=>xs.length<=VW/\∃ its:List VS,Vals xs its/\IsTup h a its.toArray
 | .dK kvs=>kvs.length<=VW/\(a == Vo)=false/\∃ vs,KV kvs vs/\h.DictOf (g6 P w) a vs
 | .dT kvs=>kvs.length<=VW/\(a == Vo)=false/\∃ xs:List (List Key×VU×VS),
    Paired (λ(p:List Key×V) (q:List Key×VU×VS)=>p.1=q.1/\H q.2.1=some (.tup (p.1.map kV))/\RelV p.2 q.2.2) kvs xs/\
    ∃ o es ep,h.get? a=some o/\o.ExactDict/\o.data = .dict es ep/\es.toList=xs.map (XU (Wc (g6 P w)))/\(xs.map (·.1)).Nodup
 | .set S n=>h.SetOf (intKind P w) a S n
 | .ins C dx fs=>H dx=some (.own a)/\fs.length<=1000/\dx≠a/\h.get? a=some (PySem.W.instObj C dx)/\
    ∃ mA,h.Ns1 dx mA/\(∀ f,RelO (fs.lookup f) (mA f))/\PySem.Within mA (fs.map (·.1))
 | .own _=>∃ o,h.get? a=some o
 | .xd fs=>∃ mA,h.Ns1 a mA/\∀ f,RelO (fs.lookup f) (mA f)
 | .rng lo hi=>∃ t u v,h.get? a=some {cls := .type "range",data := .fields #[.int lo t,.int hi u,.int 1 v]}
 | .frz o u=>h.get? a=some o/\ObjOk H h a u
 | .tbl ps=>h.get? a=some {cls := .none,data := .fields ps}
 | .met f x=>h.get? a=some (PySem.W.methodObj (.ref f) (.ref x))
 | .ext φ=>φ h/\(∃ o,h.get? a=some o)/\∀ h1 h2:Heap,φ h1->(∀ o,h1.get? a=some o->h2.get? a=some o)->φ h2
noncomputable def HOk(H:Hp)(h:Heap):Prop:=∀ a o,H a=some o->ObjOk P w H h a o
end
section
variable{P:VZ}{w:Vc}{H H':Hp}{h h':Heap}{a:VU}{o:HO}
theorem ObjOk.lt(x:ObjOk P w H h a o):a<h.objs.size:=by
 cases o with
 | lst xs=>obtain⟨_,_,_,_,e⟩:=x;exact SN e
 | tup xs=>obtain⟨_,_,_,p⟩:=x;exact p.lt
 | dK kvs=>obtain⟨_,_,_,_,o,_,_,e,_⟩:=x;exact SN e
 | dT kvs=>obtain⟨_,_,_,_,o,_,_,e,_⟩:=x;exact SN e
 | set S n=>obtain⟨o,_,_,_,e,_⟩:=x;exact SN e
 | ins C dx fs=>obtain⟨_,_,_,e,_⟩:=x;exact SN e
 | own y=>obtain⟨_,e⟩:=x;exact SN e
 | xd fs=>obtain⟨_,⟨_,_,_,e,_⟩,_⟩:=x;exact SN e
 | rng lo hi=>obtain⟨_,_,_,e⟩:=x;exact SN e
 | frz ob u=>obtain⟨e,_⟩:=x;exact SN e
 | tbl ps=>exact SN (show h.get? a=some _ from x)
 | met f y=>exact SN (show h.get? a=some _ from x)
 | ext φ=>obtain⟨_,⟨_,e⟩,_⟩:=x;exact SN e
theorem Paired.mapP{α β:Type}{F G:α->β->Prop}:∀{l₁:List α} {l₂:List β},Paired F l₁ l₂->(∀ a b,F a b->G a b)->Paired G l₁ l₂
 | _,_,.nil,_ => .nil
 | _,_,.cons r t,f => .cons (f _ _ r) (Paired.mapP t f)
theorem ObjOk.stay(x:ObjOk P w H h a o)(k:∀ b u,(b=a\/H b=some (.own a))->h.get? b=some u->h'.get? b=some u)
 (ho:∀ b,H b=some (.own a)->H' b=some (.own a)) (ht:∀ b xs,H b=some (.tup xs)->H' b=some (.tup xs)):ObjOk P w H' h' a o:=by
 induction o with
 | lst xs=>obtain⟨z,its,n,r,e⟩:=x;exact⟨z,its,n,r,k _ _ (.inl rfl) e⟩
 | tup xs=>obtain⟨z,its,r,ob,e,c⟩:=x;exact⟨z,its,r,ob,k _ _ (.inl rfl) e,c⟩
 | dK kvs=>obtain⟨z,y,vs,r,ob,es,ep,e,c⟩:=x;exact⟨z,y,vs,r,ob,es,ep,k _ _ (.inl rfl) e,c⟩
 | dT kvs=>
   obtain⟨z,y,xs,r,ob,es,ep,e,c⟩:=x;exact⟨z,y,xs,Paired.mapP r λp q z=>⟨z.1,ht _ _ z.2.1,z.2.2⟩,ob,es,ep,k _ _ (.inl rfl) e,c⟩
 | set S n=>obtain⟨ob,es,ep,t,e,c⟩:=x;exact⟨ob,es,ep,t,k _ _ (.inl rfl) e,c⟩
 | ins C dx fs=>
   obtain⟨d,z,ne,e,mA,⟨od,es,ep,e2,c⟩,r⟩:=x;exact⟨ho _ d,z,ne,k _ _ (.inl rfl) e,mA,⟨od,es,ep,k _ _ (.inr d) e2,c⟩,r⟩
 | own y=>obtain⟨ob,e⟩:=x;exact⟨ob,k _ _ (.inl rfl) e⟩
 | xd fs=>obtain⟨mA,⟨od,es,ep,e,c⟩,r⟩:=x;exact⟨mA,⟨od,es,ep,k _ _ (.inl rfl) e,c⟩,r⟩
 | rng lo hi=>obtain⟨t,u,v,e⟩:=x;exact⟨t,u,v,k _ _ (.inl rfl) e⟩
 | frz ob u ih=>obtain⟨e,q⟩:=x;exact⟨k _ _ (.inl rfl) e,ih q⟩
 | tbl ps=>
   have e:h.get? a=some {cls := .none,data := .fields ps}:=x;show h'.get? a=some {cls := .none,data := .fields ps};exact k a _ (.inl rfl) e
 | met f y=>
   have e:h.get? a=some (PySem.W.methodObj (.ref f) (.ref y)):=x;show h'.get? a=some (PySem.W.methodObj (.ref f) (.ref y));exact k a _ (.inl rfl) e
 | ext φ=>obtain⟨p,⟨o,e⟩,st⟩:=x;exact⟨st _ _ p λo q=>k _ _ (.inl rfl) q,⟨o,k _ _ (.inl rfl) e⟩,st⟩
theorem HOk.lt(x:HOk P w H h)(e:H a=some o):a<h.objs.size:=(x a o e).lt
theorem HOk.fresh(x:HOk P w H h)(e:h.objs.size<=a):H a=none:=by
 cases q:H a with
 | none=>rfl
 | some u=>exact absurd (Se (x.lt q) e) (Tj _)
theorem HOk.kept(x:HOk P w H h)(k:∀ b u,h.get? b=some u->h'.get? b=some u):HOk P w H h':=λa o e=>
 (x a o e).stay (λb u _ q=>k b u q) (λ_ q=>q) λ_ _ q=>q
theorem HOk.laid(x:HOk P w H h)(k:∀ b u,h.get? b=some u->h'.get? b=some u)(hp:h.objs.size<=a)(new:ObjOk P w (upd H a o) h' a o):HOk P w (upd H a o) h':=λb u e=>by
 have hn:=x.fresh hp;by_cases hb:b=a
 ·subst hb;rw[c7]at e;cases e;exact new
 ·rw[a8 hb]at e;exact(x b u e).stay (λc v _ q=>k c v q) (λc q=>by rw[a8 (c6 q hn)];exact q) λc xs q=>by rw[a8 (c6 q hn)];exact q
end
noncomputable def Rd(H:Hp)(a:VU)(u:HO):Prop:=H a=some u\/∃ o,H a=some (.frz o u)
theorem Rd.ok{P:VZ}{w:Vc}{H:Hp}{h:Heap}{a:VU}{u:HO}(r:Rd H a u)(x:HOk P w H h):ObjOk P w H h a u:=by
 rcases r with r | ⟨o,r⟩
 ·exact x a u r
 ·obtain⟨_,q⟩:=x a _ r;exact q
noncomputable def Mut:Option HO->Prop
 | some (.lst _)=>True
 | some (.dK _)=>True
 | some (.dT _)=>True
 | some (.set _ _)=>True
 | some (.ins _ _ _)=>True
 | some (.ext _)=>True
 | _=>False
section
variable{P:VZ}{w:Vc}{H:Hp}{h h':Heap}{x e:VU}{o':HO}
theorem HOk.write(ok:HOk P w H h)(mu:Mut (H x))(he:e=x\/H e=some (.own x))(k:∀ b u,b≠e->h.get? b=some u->h'.get? b=some u)(heo:∃ u,h'.get? e=some u)
 (new:ObjOk P w (upd H x o') h' x o'):HOk P w (upd H x o') h':=λb u q=>by
 have nown:∀ c y,H c=some (.own y)->c≠x:=λc y r z=>by subst z;rw[r]at mu;exact mu
 have ntup:∀ c xs,H c=some (.tup xs)->c≠x:=λc xs r z=>by subst z;rw[r]at mu;exact mu
 by_cases hb:b=x
 ·subst hb;rw[c7]at q;cases q;exact new
 ·rw[a8 hb]at q;by_cases hbe:b=e
  ·have q':H b=some (.own x):=by
    rcases he with z | z
    ·exact absurd (hbe.trans z) hb
    ·rw[hbe];exact z
   rw[q]at q';cases q';obtain⟨v,hv⟩:=heo;exact⟨v,by rw[hbe];exact hv⟩
  ·refine(ok b u q).stay (λc v hc r=>k c v ?_ r) (λc r=>by rw[a8 (nown c b r)];exact r) λc xs r=>by rw[a8 (ntup c xs r)];exact r
   rcases hc with rfl | hc
   ·exact hbe
   ·rintro rfl;rcases he with z | z
    ·exact nown c b hc z
    ·rw[hc]at z;cases z;exact hb rfl
end
structure Un(fs ex:List VU)(H H':Hp)(h h':Heap):Prop where
 keep:∀ b o,h.get? b=some o->H b=none->b∉fs->b∉ex->h'.get? b=some o
 slot:∀ b o,h.get? b=some o->H b=none->b∈fs->b∉ex->∃ sl,h'.get? b=some {o with slots:=sl}
 free:∀ b o,h.get? b=some o->H b=none->b∉ex->H' b=none
 there:∀ b o,h.get? b=some o->b∉ex->∃ o',h'.get? b=some o'
 tups:∀ b xs,H b=some (.tup xs)->H' b=some (.tup xs)
 frzs:∀ b o u,H b=some (.frz o (.lst u))->H' b=some (.frz o (.lst u))
 tbls:∀ b ps,H b=some (.tbl ps)->∃ more,H' b=some (.tbl (ps++more))
section
variable{fs fs' ex ex':List VU}{H H1 H2:Hp}{h h1 h2 h':Heap}{a x e:VU}{o:HO}
theorem Un.any(u:Un fs ex H H1 h h1){b:VU}{ob:Obj}(q:h.get? b=some ob)(n:H b=none)(hx:b∉ex):∃ sl,h1.get? b=some {ob with slots:=sl}:=by
 by_cases hb:b∈fs
 ·exact u.slot b ob q n hb hx
 ·exact⟨ob.slots,u.keep b ob q n hb hx⟩
theorem Un.kept(k:∀ b u,h.get? b=some u->h'.get? b=some u):Un fs ex H H h h':=
 ⟨λb ob q _ _ _=>k b ob q,λb ob q _ _ _=>⟨ob.slots,k b ob q⟩,λ_ _ _ n _=>n,λb ob q _=>⟨ob,k b ob q⟩,λ_ _ q=>q,λ_ _ _ q=>q,λ_ ps q=>⟨#[],by rw[q];simp⟩⟩
theorem Un.refl:Un fs ex H H h h:=Un.kept λ_ _ q=>q
theorem Un.laid(k:∀ b u,h.get? b=some u->h'.get? b=some u)(hp:h.objs.size<=a)(hn:H a=none):Un fs ex H (upd H a o) h h' where
 keep:=λb u q _ _ _=>k b u q
 slot:=λb u q _ _ _=>⟨u.slots,k b u q⟩
 free:=λb u q n _=>by rw[a8 (SS (Se (SN q) hp))];exact n
 there:=λb u q _=>⟨u,k b u q⟩
 tups:=λb xs q=>by rw[a8 (c6 q hn)];exact q
 frzs:=λb u xs q=>by rw[a8 (c6 q hn)];exact q
 tbls:=λb ps q=>⟨#[],by rw[a8 (c6 q hn),q];simp⟩
theorem Un.write(mu:Mut (H x))(he:e=x\/H e=some (.own x))(k:∀ b u,b≠e->h.get? b=some u->h'.get? b=some u)(heo:∃ u,h'.get? e=some u):Un fs ex H (upd H x o) h h':=by
 have hx:∀ b,H b=none->b≠x:=λb n z=>by subst z;rw[n]at mu;exact mu
 have hb:∀ b,H b=none->b≠e:=λb n z=>by
  subst z;rcases he with r | r
  ·exact hx b n r
  ·rw[n]at r;cases r
 have hm:∀ b u,H b=some u->¬ Mut (some u)->b≠x:=λb u q nm z=>by subst z;rw[q]at mu;exact nm mu
 refine⟨λb u q n _ _=>k b u (hb b n) q,λb u q n _ _=>⟨u.slots,k b u (hb b n) q⟩,λb u q n _=>by rw[a8 (hx b n)];exact n,λb u q _=>?_,
  λb xs q=>by rw[a8 (hm b _ q λz=>z)];exact q,λb u xs q=>by rw[a8 (hm b _ q λz=>z)];exact q,λb ps q=>⟨#[],by rw[a8 (hm b _ q λz=>z),q];simp⟩⟩
 by_cases hbe:b=e
 ·subst hbe;exact heo
 ·exact⟨u,k b u hbe q⟩
end
noncomputable def trk(h:Heap)(H:Hp):List VU:=(SE h.objs.size).filter λa=>(H a).isSome
noncomputable def Db(h:Heap)(H:Hp):Heap:=PySem.W.hideAll h (trk h H)
theorem IJ(h:Heap)(H:Hp):(Db h H).objs.size=h.objs.size:=PySem.W.hideAll_size _ _
theorem JU{h:Heap}{H:Hp}{b:VU}{o:Obj}(e:h.get? b=some o)(n:H b=none):(Db h H).get? b=some o:=
 PySem.W.hideAll_get _ e λhm=>by
  have q:(H b).isSome=true:=(Sm.mp hm).2;rw[n]at q;simp at q
theorem M6{h:Heap}{H:Hp}{b:VU}{o:Obj}(e:(Db h H).get? b=some o):h.get? b=some o/\H b=none:=by
 have e':h.get? b=some o:=PySem.W.of_hideAll (trk h H) e;refine⟨e',?_⟩;cases q:H b with
 | none=>rfl
 | some x=>
   have hm:b∈trk h H:=Sm.mpr ⟨SX.mpr (SN e'),by simp[q]⟩;have z:(Db h H).get? b=none:=PySem.W.hideAll_none (trk h H) hm;rw[z]at e;cases e
structure Mod(K:Rz)(mg:Str->Option VS)(base:Heap):Prop where
 kin:K.In base
 glob:base.Ns Va mg
 blt:∃ mb,base.Ns X8 mb/\∀ x:Str,x≠"__name__"->mb x=Vb x
 nolimit:base.NoLimit
structure Cx where
 prog:VZ
 w:Vc
 K:Rz
 mg:Str->Option VS
 base:Heap
 A:Vf
 N:List Str
 s₀:VT
 H₀:Hp
 env:Env
 outer:List Env
 stack:List Env
 ex:List VU
 fn:Str->Bool
 calm:Bool
 pn:List (VU×Obj)
 xe:VS->VT->Prop
noncomputable def frs(l:List Env):List VU:=l.filterMap (·.frame)
noncomputable abbrev Cx.fs(X:Cx):List VU:=frs X.outer
noncomputable def Vis(sc:Ve)(x:Str):Prop:=sc.names.lookup x=some .local\/sc.names.lookup x=some .cell\/sc.names.lookup x=some .free
noncomputable def Loc(sc:Ve)(x:Str):Prop:=sc.names.lookup x=some .local\/sc.names.lookup x=some .cell
noncomputable def Look(env:Env)(h:Heap)(m:Str->Option VS)(x:Str)(u:VS):Prop:=
 (env.kindOf x=some .local/\m x=some u)\/((env.kindOf x=some .cell\/env.kindOf x=some .free)/\∃ c,env.cells.lookup x=some c/\h.IsCell c (some u))
structure Cx.Ok(X:Cx):Prop where
 mod:Mod X.K X.mg X.base
 kind:X.env.scope.kind = .function
 glob:X.env.globals=Va
 blt:X.env.builtins=X8
 above:X.s₀.heap.objs.size<=X.env.locals
 inj:∀ x y c,X.env.cells.lookup x=some c->X.env.cells.lookup y=some c->x=y
 has:∀ x,(X.env.kindOf x=some .cell\/X.env.kindOf x=some .free)->∃ c,X.env.cells.lookup x=some c
 cab:∀ x c,X.fn x=true->X.env.cells.lookup x=some c->X.s₀.heap.objs.size<=c
 hd:X.calm=true->X.A.handled=none
 frames:X.A.frames=some X.stack
 stk:X.stack=X.outer\/(X.stack=X.env::X.outer/\X.env.frame=some X.env.locals)
 exf:∀ b∈X.ex,b≠X.env.locals/\∀ x c,X.env.cells.lookup x=some c->c≠b
 bs:∀ b o,X.base.get? b=some o->X.s₀.heap.get? b=some o/\X.H₀ b=none
 bsz:X.base.objs.size<=X.s₀.heap.objs.size
 noex:∀ b o,X.base.get? b=some o->b∉X.ex
 exfs:∀ b∈X.ex,b∉X.fs
 funs:X.s₀.heap.FunFrames X.base X.outer
 frf:∀ b∈X.fs,X.H₀ b=none
structure Inv(X:Cx)(pq:List (VU×Obj))(σ:List (Option V))(H:Hp)(s:VT):Prop where
 ok:X.Ok
 os:s.os=X.s₀.os
 bare:AllBare s.gens
 base:Un X.fs X.ex X.H₀ H X.s₀.heap s.heap
 loc:∃ m,s.heap.Ns X.env.locals m/\∀(i:Nat) (x:Str) (v:V),X.N[i]?=some x->σ[i]?=some (some v)->Vis X.env.scope x->∃ u,RelV v u/\Look X.env s.heap m x u
 cell:∀ x c,X.env.cells.lookup x=some c->∃ v,s.heap.IsCell c v
 free:H X.env.locals=none
 freeC:∀ x c,X.env.cells.lookup x=some c->H c=none
 pin:∀ p∈X.pn++pq,s.heap.get? p.1=some p.2/\H p.1=none/\p.1≠X.env.locals/\p.1∉X.fs/\∀ v,p.2.data ≠ .cell v
 hok:HOk X.prog X.w H s.heap
 len:σ.length=X.N.length
section
variable{X:Cx}{pq:List (VU×Obj)}{σ:List (Option V)}{H H':Hp}{s:VT}{h':Heap}
theorem Cx.Ok.nofr(ok:X.Ok){b:VU}{o:Obj}(e:X.base.get? b=some o):b∉X.fs:=λhb=>by
 have:=(ok.funs.mem hb).1;rw[e]at this;cases this
theorem Inv.bs(I:Inv X pq σ H s):∀ b o,X.base.get? b=some o->s.heap.get? b=some o/\H b=none:=λb o e=>
 ⟨I.base.keep b o (I.ok.bs b o e).1 (I.ok.bs b o e).2 (I.ok.nofr e) (I.ok.noex b o e),I.base.free b o (I.ok.bs b o e).1 (I.ok.bs b o e).2 (I.ok.noex b o e)⟩
theorem Inv.bk(I:Inv X pq σ H s):∀ b o,X.base.get? b=some o->s.heap.get? b=some o:=λb o e=>(I.bs b o e).1
theorem Inv.mod(I:Inv X pq σ H s):Mod X.K X.mg X.base:=I.ok.mod
theorem Inv.kIn(I:Inv X pq σ H s):X.K.In s.heap:=I.ok.mod.kin.keeps I.bk
theorem Inv.lt(I:Inv X pq σ H s):X.env.locals<s.heap.objs.size:=let ⟨_,hn,_⟩:=I.loc;hn.lt
theorem Inv.sz(I:Inv X pq σ H s):X.s₀.heap.objs.size<=s.heap.objs.size:=Sj I.ok.above (Ut I.lt)
theorem Inv.nofs(I:Inv X pq σ H s){a:VU}(h:s.heap.objs.size<=a):a∉X.fs:=λhb=>by
 obtain⟨_,o,ho,_⟩:=I.ok.funs.mem hb;exact absurd (Se (SN ho) (Sj I.sz h)) (Tj _)
theorem Inv.cne(I:Inv X pq σ H s):∀ x c,X.env.cells.lookup x=some c->c≠X.env.locals:=λx c e z=>by
 obtain⟨v,o,ho,hd⟩:=I.cell x c e;obtain⟨m,⟨o',es,ep,ho',hd',_⟩,_⟩:=I.loc;rw[z,ho']at ho;cases ho;rw[hd']at hd;cases hd
theorem Inv.funs(I:Inv X pq σ H s):s.heap.FunFrames X.base X.outer:=by
 have all:∀(l:List Env),(∀ b∈frs l,b∈X.fs)->X.s₀.heap.FunFrames X.base l->s.heap.FunFrames X.base l:=by
  intro l
  induction l with
  | nil=>intro _ _;trivial
  | cons env r ih=>
    intro hs hl;obtain⟨hk,⟨L,o,hf,hn,ho,hd⟩,hr⟩:=hl;have hL:L∈X.fs:=hs L (by unfold frs;rw[U8,hf];exact SI);obtain⟨sl,e⟩:=I.base.slot L o ho (I.ok.frf L hL) hL λz=>I.ok.exfs L z hL;exact⟨hk,⟨L,_,hf,hn,e,hd⟩,ih (λb hb=>hs b (by unfold frs;rw[U8,hf];exact SG _ hb)) hr⟩
 exact all X.outer (λ_ hb=>hb) I.ok.funs
theorem Inv.stack(I:Inv X pq σ H s):s.heap.FunFrames X.base X.stack:=by
 rcases I.ok.stk with e | ⟨e,hf⟩
 ·rw[e];exact I.funs
 ·rw[e];obtain⟨m,hn,_⟩:=I.loc;refine .cons (by rw[I.ok.kind];decide) hf hn ?_ I.funs;exact Heap.get?_none_of_le (Sj I.ok.bsz I.ok.above)
theorem Inv.stkSub(I:Inv X pq σ H s):∀ b∈frs X.stack,b∈X.env.locals::X.fs:=λb hb=>by
 rcases I.ok.stk with e | ⟨e,hf⟩
 ·rw[e]at hb;exact SG _ hb
 ·rw[e]at hb;unfold frs at hb;rw[U8,hf]at hb;exact hb
theorem Inv.stkFree(I:Inv X pq σ H s):∀ b∈frs X.stack,H b=none:=λb hb=>by
 rcases SU.mp (I.stkSub b hb) with e | hb
 ·rw[e];exact I.free
 ·obtain⟨_,o,ho,_⟩:=I.ok.funs.mem hb;exact I.base.free b o ho (I.ok.frf b hb) λz=>I.ok.exfs b z hb
theorem Inv.step{g':Array XW}{t':Nat}{d':Drawn}{ch:List VU}(I:Inv X pq σ H s)
 (hch:∀ b∈ch,(b∈X.ex\/X.s₀.heap.objs.size<=b)/\b≠X.env.locals/\(∀ x c,X.env.cells.lookup x=some c->c≠b)/\∀ p∈X.pn++pq,p.1≠b)
 (keep:∀ b o,b≠X.env.locals->b∉X.fs->b∉ch->s.heap.get? b=some o->H b=none->h'.get? b=some o)
 (slot:∀ b o,b≠X.env.locals->b∈X.fs->b∉ch->s.heap.get? b=some o->H b=none->∃ sl,h'.get? b=some {o with slots:=sl}) (free:∀ b o,b∉ch->s.heap.get? b=some o->H b=none->H' b=none)
 (there:∀ b o,b∉ch->s.heap.get? b=some o->∃ o',h'.get? b=some o')
 (tups:∀ b xs,H b=some (.tup xs)->H' b=some (.tup xs)) (frzs:∀ b o u,H b=some (.frz o (.lst u))->H' b=some (.frz o (.lst u))) (tbls:∀ b ps,H b=some (.tbl ps)->∃ more,H' b=some (.tbl (ps++more)))
 (ns:∀ m,s.heap.Ns X.env.locals m->h'.Ns X.env.locals m) (hok:HOk X.prog X.w H' h') (hg:AllBare g'):
 Inv X pq σ H' {s with heap:=h',gens:=g',drawn:=d',toks:=t'}:=by
 have neL:∀ b o,X.s₀.heap.get? b=some o->b≠X.env.locals:=λb o e=>SS (Se (SN e) I.ok.above)
 have neC:∀ b o,X.s₀.heap.get? b=some o->b∉X.ex->b∉ch:=λb o e hx hb=>by
  rcases(hch b hb).1 with z | z
  ·exact hx z
  ·exact absurd (Se (SN e) z) (Tj _)
 have cellK:∀ x c,X.env.cells.lookup x=some c->∀ v,s.heap.IsCell c v->h'.IsCell c v:=λx c e v ⟨o,ho,hd⟩=>by
  have nch:c∉ch:=λz=>(hch c z).2.2.1 x c e rfl;by_cases hc:c∈X.fs
  ·obtain⟨sl,q⟩:=slot c o (I.cne x c e) hc nch ho (I.freeC x c e);exact⟨_,q,hd⟩
  ·exact⟨o,keep c o (I.cne x c e) hc nch ho (I.freeC x c e),hd⟩
 refine⟨I.ok,I.os,hg,⟨λb o e n hb hx=>?_,λb o e n hb hx=>?_,λb o e n hx=>?_,λb o e hx=>?_,λb xs e=>tups b xs (I.base.tups b xs e),λb o xs e=>frzs b o xs (I.base.frzs b o xs e),λb ps e=>?_⟩,?_,λx c e=>?_,?_,λx c e=>?_,λp hp=>?_,hok,I.len⟩
 ·exact keep b o (neL b o e) hb (neC b o e hx) (I.base.keep b o e n hb hx) (I.base.free b o e n hx)
 ·obtain⟨sl,e1⟩:=I.base.slot b o e n hb hx;obtain⟨sl',e2⟩:=slot b _ (neL b o e) hb (neC b o e hx) e1 (I.base.free b o e n hx);exact⟨sl',e2⟩
 ·obtain⟨o',e1⟩:=I.base.there b o e hx;exact free b o' (neC b o e hx) e1 (I.base.free b o e n hx)
 ·obtain⟨o',e1⟩:=I.base.there b o e hx;exact there b o' (neC b o e hx) e1
 ·obtain⟨m1,e1⟩:=I.base.tbls b ps e;obtain⟨m2,e2⟩:=tbls b _ e1;exact⟨m1++m2,by rw[e2,Array.append_assoc]⟩
 ·obtain⟨m,hn,hl⟩:=I.loc;refine⟨m,ns m hn,λi x v e1 e2 e3=>?_⟩;obtain⟨u,r,l⟩:=hl i x v e1 e2 e3;refine⟨u,r,?_⟩;rcases l with l | ⟨k,c,e,z⟩
  ·exact .inl l
  ·exact .inr ⟨k,c,e,cellK x c e _ z⟩
 ·obtain⟨v,z⟩:=I.cell x c e;exact⟨v,cellK x c e v z⟩
 ·obtain⟨m,⟨o,_,_,ho,_⟩,_⟩:=I.loc;exact free _ o (λz=>(hch _ z).2.1 rfl) ho I.free
 ·obtain⟨v,o,ho,hd⟩:=I.cell x c e;exact free c o (λz=>(hch c z).2.2.1 x c e rfl) ho (I.freeC x c e)
 ·obtain⟨e,n,ne,nf,d⟩:=I.pin p hp;have nch:p.1∉ch:=λz=>(hch p.1 z).2.2.2 p hp rfl;exact⟨keep p.1 p.2 ne nf nch e n,free p.1 p.2 nch e n,ne,nf,d⟩
theorem Inv.un{t':Nat}(I:Inv X pq σ H s)(u:Un X.fs [] H H' s.heap h')(hok:HOk X.prog X.w H' h'):Inv X pq σ H' {s with heap:=h',toks:=t'}:=by
 obtain⟨m,⟨o,es,ep,ho,r⟩,_⟩:=id I.loc;obtain⟨sl,hL⟩:=u.any ho I.free (by simp)
 exact I.step (g':=s.gens) (d':=s.drawn) (ch:=[]) (λ_ z=>nomatch z) (λb o _ hb _ e n=>u.keep b o e n hb (by simp)) (λb o _ hb _ e n=>u.slot b o e n hb (by simp)) (λb o _ e n=>u.free b o e n (by simp)) (λb o _ e=>u.there b o e (by simp)) u.tups u.frzs u.tbls (λm' hm=>by
  obtain⟨o',es',ep',ho',r'⟩:=hm;rw[ho]at ho';cases ho';exact⟨_,es',ep',hL,r'⟩) hok I.bare
theorem Inv.call{g':Array XW}{t':Nat}{d':Drawn}{ch:List VU}(I:Inv X pq σ H s)(u:Un (frs X.stack) ch H H' s.heap h')(hok:HOk X.prog X.w H' h')(hg:AllBare g')
 (hch:∀ b∈ch,(b∈X.ex\/X.s₀.heap.objs.size<=b)/\b≠X.env.locals/\(∀ x c,X.env.cells.lookup x=some c->c≠b)/\∀ p∈X.pn++pq,p.1≠b):
 Inv X pq σ H' {s with heap:=h',gens:=g',drawn:=d',toks:=t'}:=by
 obtain⟨m,⟨o,es,ep,ho,r⟩,_⟩:=id I.loc;obtain⟨sl,hL⟩:=u.any ho I.free λz=>(hch _ z).2.1 rfl
 exact I.step (ch:=ch) hch (λb o hL hb hc e n=>u.keep b o e n (λz=>(SU.mp (I.stkSub b z)).elim hL hb) hc) (λb o _ _ hc e n=>u.any e n hc) (λb o hc e n=>u.free b o e n hc) (λb o hc e=>u.there b o e hc) u.tups u.frzs u.tbls (λm' hm=>by
  obtain⟨o',es',ep',ho',r'⟩:=hm;rw[ho]at ho';cases ho';exact⟨_,es',ep',hL,r'⟩) hok hg
theorem Inv.turned{t':Nat}{it:VU}(I:Inv X pq σ H s)(k:∀ b o,b≠it->s.heap.get? b=some o->h'.get? b=some o)(hn:H it=none)(hL:it≠X.env.locals)
 (h1:it∈X.ex\/X.s₀.heap.objs.size<=it) (h2:∀ x c,X.env.cells.lookup x=some c->c≠it) (h3:∀ p∈X.pn++pq,p.1≠it):Inv X pq σ H {s with heap:=h',toks:=t'}:=by
 have nit:∀ b u,H b=some u->b≠it:=λb u e z=>by rw[z,hn]at e;cases e
 refine I.step (g':=s.gens) (d':=s.drawn) (ch:=[it]) (λb hb=>?_) (λb o _ _ hc e _=>k b o (λz=>hc (by simp[z])) e) (λb o _ _ hc e _=>⟨o.slots,k b o (λz=>hc (by simp[z])) e⟩) (λ_ _ _ _ n=>n)
  (λb o hc e=>⟨o,k b o (λz=>hc (by simp[z])) e⟩) (λ_ _ e=>e) (λ_ _ _ e=>e) (λb ps e=>⟨#[],by rw[e];simp⟩) (λm hm=>?_) (λb u e=>?_) I.bare
 ·have e:b=it:=by simpa using hb
  subst e;exact⟨h1,hL,h2,h3⟩
 ·obtain⟨o,es,ep,ho,r⟩:=hm;exact⟨o,es,ep,k _ o (Ne.symm hL) ho,r⟩
 ·refine(I.hok b u e).stay (λc v hc q=>k c v ?_ q) (λ_ q=>q) λ_ _ q=>q;rcases hc with z | z
  ·rw[z];exact nit b u e
  ·exact nit c _ z
theorem Inv.tok(I:Inv X pq σ H s)(t:Nat):Inv X pq σ H {s with toks:=t}:=I.un (h':=s.heap) (t':=t) Un.refl I.hok
theorem Inv.kept{t':Nat}(I:Inv X pq σ H s)(k:∀ b u,s.heap.get? b=some u->h'.get? b=some u):Inv X pq σ H {s with heap:=h',toks:=t'}:=I.un (Un.kept k) (I.hok.kept k)
theorem Inv.laid{a:VU}{o:HO}{t':Nat}(I:Inv X pq σ H s)(k:∀ b u,s.heap.get? b=some u->h'.get? b=some u)(hp:s.heap.objs.size<=a)(new:ObjOk X.prog X.w (upd H a o) h' a o):
 Inv X pq σ (upd H a o) {s with heap:=h',toks:=t'}:=I.un (Un.laid k hp (I.hok.fresh hp)) (I.hok.laid k hp new)
theorem Inv.write{x e:VU}{o:HO}{t':Nat}(I:Inv X pq σ H s)(mu:Mut (H x))(he:e=x\/H e=some (.own x))(k:∀ b u,b≠e->s.heap.get? b=some u->h'.get? b=some u)(heo:∃ u,h'.get? e=some u)
 (new:ObjOk X.prog X.w (upd H x o) h' x o):Inv X pq σ (upd H x o) {s with heap:=h',toks:=t'}:=I.un (Un.write mu he k heo) (I.hok.write mu he k heo new)
theorem Inv.weak{σ':List (Option V)}(I:Inv X pq σ H s)(hl:σ'.length=σ.length)(w:∀(i:Nat) v,σ'[i]?=some (some v)->σ[i]?=some (some v)):Inv X pq σ' H s:=
 ⟨I.ok,I.os,I.bare,I.base,let ⟨m,hn,hl'⟩:=I.loc;⟨m,hn,λi x v e1 e2 e3=>hl' i x v e1 (w i v e2) e3⟩,I.cell,I.free,I.freeC,I.pin,I.hok,hl.trans I.len⟩
theorem Inv.pins_of{pq':List (VU×Obj)}(I:Inv X pq σ H s)(h:∀ p∈pq',s.heap.get? p.1=some p.2/\H p.1=none/\p.1≠X.env.locals/\p.1∉X.fs/\∀ v,p.2.data ≠ .cell v):Inv X pq' σ H s:=
 ⟨I.ok,I.os,I.bare,I.base,I.loc,I.cell,I.free,I.freeC,λp hp=>(Sg.mp hp).elim (λz=>I.pin p (Ud _ z)) (h p),I.hok,I.len⟩
theorem EH{N:List Str}(hN:N.Nodup){i j:Nat}{x:Str}(a:N[i]?=some x)(b:N[j]?=some x):i=j:=by
 obtain⟨h1,e1⟩:=gM a;obtain⟨h2,e2⟩:=gM b;exact(List.getElem_inj hN).mp (e1.trans e2.symm)
theorem Bg{M:Model}{A:Vf}{E:VS->VT->Prop}{i:Nat}{x:Str}{v:V}{u:VS}{Q:Unit->VT->Prop}(I:Inv X pq σ H s)(hN:X.N.Nodup)(hi:X.N[i]?=some x)(hx:Loc X.env.scope x)(r:RelV v u)
 (h:∀ s',Inv X pq (σ.set i (some v)) H s'->(∃ a,TM a s.heap s'.heap/\(a=X.env.locals\/X.env.cells.lookup x=some a))->Q () s') (hf:X.fn x=true\/X.env.scope.names.lookup x=some .local:=by first | exact .inl rfl | exact .inr rfl | assumption):VX M A (storeName X.env x u) Q E s:=by
 obtain⟨m,hn,hl⟩:=id I.loc;have hcls:(X.env.scope.kind == .class||(X.env.scope.kind == .module&&X.env.locals != X.env.globals))=false:=by rw[I.ok.kind];rfl
 have hiσ:i<σ.length:=by rw[I.len];exact(gM hi).1
 have cne:=I.cne
 have tracked:∀{a:VU} {h':Heap},(∃ o,s.heap.get? a=some o/\H a=none)->TM a s.heap h'->HOk X.prog X.w H h':=λ{a h'} ha hs b ob e=>by
  obtain⟨_,_,hfree⟩:=ha;refine(I.hok b ob e).stay (λc w' hc q=>(hs.2 c ?_).trans q) (λ_ q=>q) λ_ _ q=>q;rintro rfl;rcases hc with rfl | hc
  ·rw[hfree]at e;cases e
  ·rw[hfree]at hc;cases hc
 rcases hx with hk | hk
 ·refine wpAny_storeName_local hk hn (λh' hn' hs=>?_) hcls;obtain⟨oL,_,_,hoL,_⟩:=id hn;refine h _ ⟨I.ok,I.os,I.bare,⟨λb o e n hb hx=>?_,λb o e n hb hx=>?_,I.base.free,λb o e hx=>?_,I.base.tups,I.base.frzs,I.base.tbls⟩,⟨_,hn',λj y v' e1 e2 e3=>?_⟩,λy c e=>?_,I.free,I.freeC,λp hp=>?_,tracked ⟨oL,hoL,I.free⟩ hs,by simpa using I.len⟩ ⟨_,hs,.inl rfl⟩
  ·exact(hs.2 b (SS (Se (SN e) I.ok.above))).trans (I.base.keep b o e n hb hx)
  ·obtain⟨sl,e1⟩:=I.base.slot b o e n hb hx;exact⟨sl,(hs.2 b (SS (Se (SN e) I.ok.above))).trans e1⟩
  ·obtain⟨o',e1⟩:=I.base.there b o e hx;exact⟨o',(hs.2 b (SS (Se (SN e) I.ok.above))).trans e1⟩
  ·by_cases hj:j=i
   ·subst hj;rw[hi]at e1;cases e1;rw[TV hiσ]at e2;cases e2;exact⟨u,r,.inl ⟨hk,by simp⟩⟩
   ·rw[Tt (Ne.symm hj)]at e2;obtain⟨u',r',q⟩:=hl j y v' e1 e2 e3;refine⟨u',r',?_⟩;rcases q with⟨k,e⟩ | ⟨k,c,e,z⟩
    ·refine .inl ⟨k,?_⟩;have:y≠x:=λe=>hj (EH hN e1 (e▸hi));simp[this,e]
    ·exact .inr ⟨k,c,e,z.sameBut hs (cne y c e)⟩
  ·obtain⟨w',z⟩:=I.cell y c e;exact⟨w',z.sameBut hs (cne y c e)⟩
  ·obtain⟨e,n,ne,nf,d⟩:=I.pin p hp;exact⟨(hs.2 p.1 ne).trans e,n,ne,nf,d⟩
 ·have hfn:X.fn x=true:=by
   rcases hf with z | z
   ·exact z
   ·rw[z]at hk;cases hk
  obtain⟨c,hc⟩:=I.ok.has x (.inl hk);obtain⟨w',z⟩:=I.cell x c hc;refine wpAny_storeName_cell I.ok.kind hk hc z (λh' hc' hs=>?_);obtain⟨oc,hoc,hocd⟩:=id z;refine h {s with heap:=h'} ⟨I.ok,I.os,I.bare,⟨λb o e n hb hx=>?_,λb o e n hb hx=>?_,I.base.free,λb o e hx=>?_,I.base.tups,I.base.frzs,I.base.tbls⟩,⟨m,hn.sameBut hs (Ne.symm (cne x c hc)),λj y v' e1 e2 e3=>?_⟩,λy c' e=>?_,I.free,I.freeC,λp hp=>?_,tracked ⟨oc,hoc,I.freeC x c hc⟩ hs,by simpa using I.len⟩ ⟨c,hs,.inr hc⟩
  ·exact(hs.2 b (SS (Se (SN e) (I.ok.cab x c hfn hc)))).trans (I.base.keep b o e n hb hx)
  ·obtain⟨sl,e1⟩:=I.base.slot b o e n hb hx;exact⟨sl,(hs.2 b (SS (Se (SN e) (I.ok.cab x c hfn hc)))).trans e1⟩
  ·obtain⟨o',e1⟩:=I.base.there b o e hx;exact⟨o',(hs.2 b (SS (Se (SN e) (I.ok.cab x c hfn hc)))).trans e1⟩
  ·by_cases hj:j=i
   ·subst hj;rw[hi]at e1;cases e1;rw[TV hiσ]at e2;cases e2;exact⟨u,r,.inr ⟨.inl hk,c,hc,hc'⟩⟩
   ·rw[Tt (Ne.symm hj)]at e2;obtain⟨u',r',q⟩:=hl j y v' e1 e2 e3;refine⟨u',r',?_⟩;rcases q with q | ⟨k,c',e,z'⟩
    ·exact .inl q
    ·refine .inr ⟨k,c',e,z'.sameBut hs ?_⟩;rintro rfl;exact hj (EH hN e1 (I.ok.inj _ _ _ e hc▸hi))
  ·by_cases hcc:c'=c
   ·subst hcc;exact⟨_,hc'⟩
   ·obtain⟨w2,z2⟩:=I.cell y c' e;exact⟨w2,z2.sameBut hs hcc⟩
  ·obtain⟨e,n,ne,nf,d⟩:=I.pin p hp;refine⟨(hs.2 p.1 ?_).trans e,n,ne,nf,d⟩;intro q;rw[q,hoc]at e;have q':oc=p.2:=oj e;exact d w' (by rw[<-q'];exact hocd)
theorem BO{M:Model}{A:Vf}{E:VS->VT->Prop}{i:Nat}{x:Str}{v:V}{u:VS}{Q:Unit->VT->Prop}(I:Inv X pq σ H s)(hN:X.N.Nodup)(hi:X.N[i]?=some x)(hx:Loc X.env.scope x)(r:RelV v u)
 (h:∀ s',Inv X pq (σ.set i (some v)) H s'->Q () s') (hf:X.fn x=true\/X.env.scope.names.lookup x=some .local:=by first | exact .inl rfl | exact .inr rfl | assumption):VX M A (storeName X.env x u) Q E s:=
 Bg I hN hi hx r (λs' I' _=>h s' I') hf
theorem Inv.call'{s':VT}{ch:List VU}(I:Inv X pq σ H s)(ho:s'.os=s.os)(u:Un (frs X.stack) ch H H' s.heap s'.heap)(hok:HOk X.prog X.w H' s'.heap)(hg:AllBare s'.gens)
 (hch:∀ b∈ch,(b∈X.ex\/X.s₀.heap.objs.size<=b)/\b≠X.env.locals/\(∀ x c,X.env.cells.lookup x=some c->c≠b)/\∀ p∈X.pn++pq,p.1≠b):Inv X pq σ H' s':=by
 obtain⟨h',g',d',t',o'⟩:=s';have e:o'=s.os:=ho;subst e;exact I.call (g':=g') (t':=t') (d':=d') u hok hg hch
end
noncomputable abbrev XK:=VS->Option VU->Hp->Prop
noncomputable abbrev St:=List (Option V)
noncomputable abbrev VK:=V->Hp->Prop
noncomputable abbrev TE:=St->Hp->VK->Prop
noncomputable abbrev TT:=St->Hp->(Bool->Hp->Prop)->Prop
noncomputable abbrev TA:=St->Hp->(List V->Hp->Prop)->Prop
structure Ends where
 nx:St->Hp->Prop
 rt:VK
 bk:St->Hp->Prop:=λ_ _=>False
 ct:St->Hp->Prop:=λ_ _=>False
noncomputable abbrev TS:=Ends->St->Hp->Prop
noncomputable def EP(X:Cx)(pq:List (VU×Obj))(σ:St)(Q:VK)(u:VS)(s':VT):Prop:=∃ v H',Inv X pq σ H' s'/\RelV v u/\Q v H'
noncomputable def TP(X:Cx)(pq:List (VU×Obj))(σ:St)(Q:Bool->Hp->Prop)(b:Bool)(s':VT):Prop:=∃ H',Inv X pq σ H' s'/\Q b H'
noncomputable def AP(X:Cx)(pq:List (VU×Obj))(σ:St)(Q:List V->Hp->Prop)(us:List VS)(s':VT):Prop:=∃ vs H',Inv X pq σ H' s'/\Vals vs us/\Q vs H'
noncomputable def SP(X:Cx)(pq:List (VU×Obj))(D:Ends)(f:Flow)(s':VT):Prop:=
 match f with
 | .next=>∃ σ' H',Inv X pq σ' H' s'/\D.nx σ' H'
 | .brk=>∃ σ' H',Inv X pq σ' H' s'/\D.bk σ' H'
 | .cont=>∃ σ' H',Inv X pq σ' H' s'/\D.ct σ' H'
 | .ret u=>∃ v σ' H',Inv X pq σ' H' s'/\RelV v u/\D.rt v H'
noncomputable def PE(X:Cx)(e:Expr)(t:TE):Prop:=
 ∀(pq:List (VU×Obj)) (s:VT) (σ:St) (H:Hp) (Q:VK),Inv X pq σ H s->t σ H Q->VX (VY X.prog X.w) X.A (eval e X.env) (EP X pq σ Q) X.xe s
noncomputable def PT(X:Cx)(e:Expr)(t:TT):Prop:=
 ∀(pq:List (VU×Obj)) (s:VT) (σ:St) (H:Hp) (Q:Bool->Hp->Prop),Inv X pq σ H s->t σ H Q->VX (VY X.prog X.w) X.A (isTrue e X.env (eval e X.env)) (TP X pq σ Q) X.xe s
noncomputable def PW(X:Cx)(e:Expr)(t:TT):Prop:=
 ∀(whole:Sem VS) (pq:List (VU×Obj)) (s:VT) (σ:St) (H:Hp) (Q:Bool->Hp->Prop),Inv X pq σ H s->t σ H Q->VX (VY X.prog X.w) X.A (isTrue e X.env whole) (TP X pq σ Q) X.xe s
theorem PW.pt{X:Cx}{e:Expr}{t:TT}(h:PW X e t):PT X e t:=h _
noncomputable def PA(X:Cx)(es:List Expr)(t:TA):Prop:=
 ∀(pos:Pos) (pq:List (VU×Obj)) (s:VT) (σ:St) (H:Hp) (Q:List V->Hp->Prop),Inv X pq σ H s->t σ H Q->VX (VY X.prog X.w) X.A (spliced (backTo pos (Vg es X.env))) (AP X pq σ Q) X.xe s
noncomputable def PS(X:Cx)(st:Stmt)(t:TS):Prop:=
 ∀(pq:List (VU×Obj)) (s:VT) (σ:St) (H:Hp) (D:Ends),Inv X pq σ H s->t D σ H->VX (VY X.prog X.w) X.A (exec st X.env) (SP X pq D) X.xe s
noncomputable def PSs(X:Cx)(st:List Stmt)(t:TS):Prop:=
 ∀(pq:List (VU×Obj)) (s:VT) (σ:St) (H:Hp) (D:Ends),Inv X pq σ H s->t D σ H->VX (VY X.prog X.w) X.A (execs st X.env) (SP X pq D) X.xe s
theorem thn{α:Type}{t:Sem α}{Q Q':α->VT->Prop}{M:Model}{A:Vf}{E:VS->VT->Prop}{s:VT}(h:VX M A t Q E s)(hQ:∀ a s,Q a s->Q' a s):VX M A t Q' E s:=Vm h hQ λ_ _ x=>x
section
variable{X:Cx}
noncomputable def M7(i:Nat):TE:=λσ H Q=>∃ v,σ[i]?=some (some v)/\Q v H
noncomputable def tC(v:V):TE:=λ_ H Q=>Q v H
theorem OS{i:Nat}{x:Str}{pos:Pos}(hN:X.N[i]?=some x)(hv:Vis X.env.scope x)(hd:(x == ("__debug__":Str))=false:=by decide)(hcd:(x == ("__classdict__":Str))=false:=by decide):PE X (.Name x pos) (M7 i):=by
 intro pq s σ H Q I h;obtain⟨v,e,h⟩:=h;obtain⟨m,hn,hl⟩:=I.loc;obtain⟨u,r,l⟩:=hl i x v hN e hv;have fin:EP X pq σ Q u s:=⟨v,H,I,r,h⟩
 rcases l with⟨hk,hm⟩ | ⟨hk,c,hc,hcell⟩
 ·exact XX (wpAny_loadName_local I.ok.kind hk hn hm fin) hd
 ·rcases hk with hk | hk
  ·exact XX (wpAny_loadName_cell I.ok.kind hk hc hcell fin) hd
  ·exact XX (wpAny_loadName_free I.ok.kind hk hc hcell fin hcd) hd
theorem OT{i j pos}:PE X (.Constant (.int i) j pos) (tC (.int i)):=λ_ _ _ H _ I h=>wpAny_Constant_int ⟨.int i,H,I.tok _,⟨_,rfl⟩,h⟩
theorem Q6{b j pos}:PE X (.Constant (.bool b) j pos) (tC (.bl b)):=λ_ _ _ H _ I h=>Constant_bool ⟨.bl b,H,I,rfl,h⟩
theorem OU{j pos}:PE X (.Constant .none j pos) (tC .non):=λ_ _ _ H _ I h=>Constant_none ⟨.non,H,I,rfl,h⟩
theorem OV{x j pos}:PE X (.Constant (.str x) j pos) (tC (.str x)):=λ_ _ _ H _ I h=>Calls.Constant_str ⟨.str x,H,I.tok _,⟨_,rfl⟩,h⟩
noncomputable def Gl(X:Cx)(x:Str):Prop:=X.env.kindOf x=some .globalImplicit
theorem M8{E:VS->VT->Prop}{pq:List (VU×Obj)}{s:VT}{σ:St}{H:Hp}{x:Str}{u:VS}{pos:Pos}{Q:VS->VT->Prop}(I:Inv X pq σ H s)(hg:Gl X x)(hm:X.mg x=some u)(h:Q u s)
 (hd:(x == ("__debug__":Str))=false:=by decide):VX (VY X.prog X.w) X.A (eval (.Name x pos) X.env) Q E s:=
 Calls.Name_function_global I.ok.kind hg (Calls.loadGlobal_global (by rw[I.ok.glob];exact I.mod.glob.keeps I.bk) hm h) hd
theorem Bh{E:VS->VT->Prop}{pq:List (VU×Obj)}{s:VT}{σ:St}{H:Hp}{x:Str}{u:VS}{pos:Pos}{Q:VS->VT->Prop}(I:Inv X pq σ H s)(hg:Gl X x)(hm:X.mg x=none)(hv:Vb x=some u)(h:Q u s)
 (hn:x≠"__name__":=by decide) (hd:(x == ("__debug__":Str))=false:=by decide):VX (VY X.prog X.w) X.A (eval (.Name x pos) X.env) Q E s:=by
 obtain⟨mb,h1,h2⟩:=I.mod.blt;exact Calls.Name_function_global I.ok.kind hg (Calls.loadGlobal_builtin (by rw[I.ok.glob];exact I.mod.glob.keeps I.bk) hm (by rw[I.ok.blt];exact h1.keeps I.bk) ((h2 x hn).trans hv) h) hd
theorem M9{x:Str}{v:V}{u:VS}{pos:Pos}(hg:Gl X x)(hm:X.mg x=none)(hv:Vb x=some u)(r:RelV v u)(hn:x≠"__name__":=by decide)(hd:(x == ("__debug__":Str))=false:=by decide):PE X (.Name x pos) (tC v):=
 λ_ _ _ H _ I h=>Bh I hg hm hv ⟨v,H,I,r,h⟩ hn hd
variable{a b:Expr}{ta tb:TE}{pos:Pos}
variable{tA tB':TT}{rest:List Expr}
noncomputable def Q7(t u:TT):TT:=λσ H Q=>t σ H λc H1=>if c=true then u σ H1 Q else Q false H1
noncomputable def tOr(t u:TT):TT:=λσ H Q=>t σ H λc H1=>if c=true then Q true H1 else u σ H1 Q
noncomputable def Q8(t:TT):TT:=λσ H Q=>t σ H λc H1=>Q (!c) H1
theorem MA(ha:PT X a tA):PW X (.BoolOp .And [a] pos) tA:=by
 intro wh pq s σ H Q I h;refine isTrue_and (thn (ha pq s σ H Q I h) λc s1 e=>?_);cases c with
 | true=>exact isTrue_and_nil e
 | false=>exact e
theorem OW(ha:PT X a tA):PW X (.BoolOp .Or [a] pos) tA:=by
 intro wh pq s σ H Q I h;refine isTrue_or (thn (ha pq s σ H Q I h) λc s1 e=>?_);cases c with
 | false=>exact isTrue_or_nil e
 | true=>exact e
theorem JV(ha:PT X a tA)(hb:PW X (.BoolOp .And (b::rest) pos) tB'):PW X (.BoolOp .And (a::b::rest) pos) (Q7 tA tB'):=by
 intro wh pq s σ H Q I h;refine isTrue_and (thn (ha pq s σ H _ I h) λc s1 ⟨H1,I1,q1⟩=>?_);cases c with
 | true=>exact hb wh pq s1 σ H1 Q I1 q1
 | false=>exact⟨H1,I1,q1⟩
theorem No(ha:PT X a tA)(hb:PW X (.BoolOp .Or (b::rest) pos) tB'):PW X (.BoolOp .Or (a::b::rest) pos) (tOr tA tB'):=by
 intro wh pq s σ H Q I h;refine isTrue_or (thn (ha pq s σ H _ I h) λc s1 ⟨H1,I1,q1⟩=>?_);cases c with
 | true=>exact⟨H1,I1,q1⟩
 | false=>exact hb wh pq s1 σ H1 Q I1 q1
theorem OX(ha:PT X a tA):PT X (.UnaryOp .Not a pos) (Q8 tA):=by
 intro pq s σ H Q I h;exact isTrue_not (ha pq s σ H (λc H1=>Q (!c) H1) I h)
noncomputable def Np(ta tb:TE):TE:=λσ H Q=>ta σ H λx H1=>∃ c,x = .bl c/\if c=true then tb σ H1 Q else Q (.bl false) H1
noncomputable def Q9(ta tb:TE):TE:=λσ H Q=>ta σ H λx H1=>∃ c,x = .bl c/\if c=true then Q (.bl true) H1 else tb σ H1 Q
noncomputable def Nq(ta:TE):TE:=λσ H Q=>ta σ H λx H1=>∃ c,x = .bl c/\Q (.bl (!c)) H1
theorem JW{op}{t:TE}(h:PE X a t):PE X (.BoolOp op [a] pos) t:=λpq s σ H Q I hw=>BoolOp_one (h pq s σ H Q I hw)
theorem JX(ha:PE X a ta)(hb:PE X (.BoolOp .And (b::rest) pos) tb):PE X (.BoolOp .And (a::b::rest) pos) (Np ta tb):=by
 intro pq s σ H Q I h;refine BoolOp_and (thn (ha pq s σ H _ I h) λv s1 ⟨x,H1,I1,r1,q1⟩=>?_);obtain⟨c,rfl,q1⟩:=q1;cases r1;refine Vj ?_;cases c with
 | true=>exact hb pq s1 σ H1 Q I1 q1
 | false=>exact⟨.bl false,H1,I1,rfl,q1⟩
theorem Nr(ha:PE X a ta)(hb:PE X (.BoolOp .Or (b::rest) pos) tb):PE X (.BoolOp .Or (a::b::rest) pos) (Q9 ta tb):=by
 intro pq s σ H Q I h;refine BoolOp_or (thn (ha pq s σ H _ I h) λv s1 ⟨x,H1,I1,r1,q1⟩=>?_);obtain⟨c,rfl,q1⟩:=q1;cases r1;refine Vj ?_;cases c with
 | false=>exact hb pq s1 σ H1 Q I1 q1
 | true=>exact⟨.bl true,H1,I1,rfl,q1⟩
theorem OY(ha:PE X a ta):PE X (.UnaryOp .Not a pos) (Nq ta):=by
 intro pq s σ H Q I h;refine UnaryOp_ (thn (ha pq s σ H _ I h) λv s1 ⟨x,H1,I1,r1,q1⟩=>?_);obtain⟨c,rfl,q1⟩:=q1;cases r1;exact not_of (Vj ⟨.bl (!c),H1,I1,rfl,q1⟩)
noncomputable def tIf(t:TT)(ta tb:TE):TE:=λσ H Q=>t σ H λc H1=>if c=true then ta σ H1 Q else tb σ H1 Q
theorem JY{c:Expr}(hc:PT X c tA)(ha:PE X a ta)(hb:PE X b tb):PE X (.IfExp c a b pos) (tIf tA ta tb):=by
 intro pq s σ H Q I h;refine wpAny_IfExp (thn (hc pq s σ H _ I h) λd s1 ⟨H1,I1,q1⟩=>?_);cases d with
 | true=>exact ha pq s1 σ H1 Q I1 q1
 | false=>exact hb pq s1 σ H1 Q I1 q1
end
noncomputable def SqL(K:Rz)(H:Hp)(a:VU)(xs:List V):Prop:=
 Rd H a (.lst xs)\/
  ∃(o:Obj) (its:Array VS) (n:Nat),K.lookup a=some o/\o.cls = .type "list"/\o.dict=none/\o.data = .seq its n/\its.size<=VW/\Vals xs its.toList
noncomputable def SqT(K:Rz)(H:Hp)(a:VU)(xs:List V):Prop:=
 Rd H a (.tup xs)\/
  ∃(o:Obj) (its:Array VS) (n:Nat),K.lookup a=some o/\o.cls = .type "tuple"/\o.data = .seq its n/\its.size<=VW/\Vals xs its.toList
noncomputable def RY:VS->Option V
 | .none=>some .non
 | .bool b=>some (.bl b)
 | .int i _=>some (.int i)
 | .str x _=>some (.str x)
 | .bytes b _=>some (.byt b)
 | .float b _=>some (.flt b)
 | .ref a=>some (.ref a)
 | .type n=>some (.ty n)
 | _=>none
theorem RelV.abs{x:V}{u:VS}(r:RelV x u):RY u=some x:=by
 cases x with
 | non=>cases r;rfl
 | bl _=>cases r;rfl
 | int _=>obtain⟨t,rfl⟩:=r;rfl
 | str _=>obtain⟨t,rfl⟩:=r;rfl
 | byt _=>obtain⟨t,rfl⟩:=r;rfl
 | flt _=>obtain⟨t,rfl⟩:=r;rfl
 | ref _=>cases r;rfl
 | ty _=>cases r;rfl
theorem RelV.inj{x y:V}{u:VS}(r:RelV x u)(q:RelV y u):x=y:=oj (r.abs.symm.trans q.abs)
theorem Vals.inj:∀{xs ys:List V} {us:List VS},Vals xs us->Vals ys us->xs=ys
 | _,_,_,.nil,.nil=>rfl
 | _,_,_,.cons r t,.cons r' t'=>by rw[r.inj r',Vals.inj t t']
section
variable{X:Cx}{pq:List (VU×Obj)}{σ:St}{H:Hp}{s:VT}{a:VU}{xs ys:List V}
theorem SqL.of{K:Rz}(h:H a=some (.lst xs)):SqL K H a xs := .inl (.inl h)
theorem SqT.of{K:Rz}(h:H a=some (.tup xs)):SqT K H a xs := .inl (.inl h)
theorem Inv.list(I:Inv X pq σ H s)(h:SqL X.K H a xs):∃ its:List VS,Vals xs its/\PlainL s.heap a its.toArray/\xs.length<=VW:=by
 rcases h with h | ⟨o,its,n,hk,hc,hd,hs,hz,r⟩
 ·obtain⟨z,its,n,r,e⟩:=h.ok I.hok;exact⟨its,r,⟨_,n,e,rfl,rfl,rfl⟩,z⟩
 ·refine⟨its.toList,r,⟨o,n,I.kIn a o hk,hc,hd,by simpa using hs⟩,?_⟩;have e:=r.length;simp only[UM]at e;omega
theorem Inv.tuple(I:Inv X pq σ H s)(h:SqT X.K H a xs):∃ its:List VS,Vals xs its/\IsTup s.heap a its.toArray/\xs.length<=VW:=by
 rcases h with h | ⟨o,its,n,hk,hc,hs,hz,r⟩
 ·obtain⟨z,its,r,p⟩:=h.ok I.hok;exact⟨its,r,p,z⟩
 ·refine⟨its.toList,r,⟨o,I.kIn a o hk,hc,n,by simpa using hs⟩,?_⟩;have e:=r.length;simp only[UM]at e;omega
theorem Inv.list_inj(I:Inv X pq σ H s)(h:SqL X.K H a xs)(h':SqL X.K H a ys):xs=ys:=by
 obtain⟨its,r,⟨o,n,e,_,_,d⟩,_⟩:=I.list h;obtain⟨its',r',⟨o',n',e',_,_,d'⟩,_⟩:=I.list h';rw[e]at e';cases e';rw[d]at d';injection d' with d1 _;have:its=its':=by simpa using congrArg VI d1
 subst this;exact r.inj r'
theorem Inv.tuple_inj(I:Inv X pq σ H s)(h:SqT X.K H a xs)(h':SqT X.K H a ys):xs=ys:=by
 obtain⟨its,r,⟨o,e,_,n,d⟩,_⟩:=I.tuple h;obtain⟨its',r',⟨o',e',_,n',d'⟩,_⟩:=I.tuple h';rw[e]at e';cases e';rw[d]at d';injection d' with d1 _;have:its=its':=by simpa using congrArg VI d1
 subst this;exact r.inj r'
end
noncomputable abbrev Cx.wish(X:Cx)(E:VS->VT->Prop):Cx:={X with xe:=E}
noncomputable abbrev Cx.nox(X:Cx):Cx:=X.wish λ_ _=>False
theorem Cx.Ok.wish{X:Cx}(ok:X.Ok)(E:VS->VT->Prop):(X.wish E).Ok:=
 ⟨ok.mod,ok.kind,ok.glob,ok.blt,ok.above,ok.inj,ok.has,ok.cab,ok.hd,ok.frames,ok.stk,ok.exf,ok.bs,ok.bsz,ok.noex,ok.exfs,ok.funs,ok.frf⟩
theorem Cx.Ok.unwish{X:Cx}{E:VS->VT->Prop}(ok:(X.wish E).Ok):X.Ok:=
 ⟨ok.mod,ok.kind,ok.glob,ok.blt,ok.above,ok.inj,ok.has,ok.cab,ok.hd,ok.frames,ok.stk,ok.exf,ok.bs,ok.bsz,ok.noex,ok.exfs,ok.funs,ok.frf⟩
section
variable{X:Cx}{pq:List (VU×Obj)}{σ:St}{H:Hp}{s:VT}{E:VS->VT->Prop}
theorem Inv.wish(I:Inv X pq σ H s)(E:VS->VT->Prop):Inv (X.wish E) pq σ H s:=⟨I.ok.wish E,I.os,I.bare,I.base,I.loc,I.cell,I.free,I.freeC,I.pin,I.hok,I.len⟩
theorem Inv.unwish(I:Inv (X.wish E) pq σ H s):Inv X pq σ H s:=⟨I.ok.unwish,I.os,I.bare,I.base,I.loc,I.cell,I.free,I.freeC,I.pin,I.hok,I.len⟩
theorem SP.unwish{D:Ends}{f:Flow}{s':VT}(h:SP (X.wish E) pq D f s'):SP X pq D f s':=by
 cases f with
 | next=>obtain⟨σ',H',I,q⟩:=h;exact⟨σ',H',I.unwish,q⟩
 | brk=>obtain⟨σ',H',I,q⟩:=h;exact⟨σ',H',I.unwish,q⟩
 | cont=>obtain⟨σ',H',I,q⟩:=h;exact⟨σ',H',I.unwish,q⟩
 | ret u=>obtain⟨v,σ',H',I,r,q⟩:=h;exact⟨v,σ',H',I.unwish,r,q⟩
theorem PSs.nox{st:List Stmt}{t:TS}(h:PSs X.nox st t):PSs X st t:=λpq s σ H D I hw=>
 Vm (h pq s σ H D (I.wish _) hw) (λ_ _ q=>q.unwish) λ_ _ z=>False.elim z
end
section
variable{X:Cx}{st:Stmt}{rest:List Stmt}{t u:TS}{e:Expr}{te:TE}{pos:Pos}
noncomputable def QA:TS:=λD σ H=>D.nx σ H
noncomputable def RZ(t u:TS):TS:=λD σ H=>t {D with nx:=u D} σ H
theorem MB:PSs X [] QA:=λ_ _ σ H _ I h=>Wl ⟨σ,H,I,h⟩
theorem JZ(h1:PS X st t)(h2:PSs X rest u):PSs X (st::rest) (RZ t u):=by
 intro pq s σ H D I h;refine wpAny_execs_cons (thn (h1 pq s σ H {D with nx:=u D} I h) λf s1 q=>?_);cases f with
 | next=>
   obtain⟨σ',H',I',q⟩:=q;exact h2 pq s1 σ' H' D I' q
 | ret v=>exact q
 | brk=>exact q
 | cont=>exact q
theorem Inv.quiet{pq:List (VU×Obj)}{σ:St}{H:Hp}{s:VT}(I:Inv X pq σ H s):interactive X.env=false:=by simp[interactive,I.ok.kind]
noncomputable def QB(te:TE):TS:=λD σ H=>te σ H λ_ H1=>D.nx σ H1
theorem MC(he:PE X e te)(hs:Vv e none pos.line X.env=pure false:=by rfl):PS X (.Expr e pos) (QB te):=by
 intro pq s σ H D I h;exact wpAny_Expr_any (thn (he pq s σ H _ I h) λv s1 ⟨x,H1,I1,r1,q1⟩=>⟨σ,H1,I1,q1⟩) I.quiet hs
noncomputable def Ra(te:TE):TS:=λD σ H=>te σ H D.rt
theorem OZ(he:PE X e te):PS X (.Return (some e) pos) (Ra te):=by
 intro pq s σ H D I h;exact wpAny_Return_some (thn (he pq s σ H _ I h) λv s1 ⟨x,H1,I1,r1,q1⟩=>⟨x,σ,H1,I1,r1,q1⟩)
noncomputable def QC(c:TT)(t u:TS):TS:=λD σ H=>c σ H λb H1=>if b=true then t D σ H1 else u D σ H1
theorem QD{c:Expr}{a b:List Stmt}{tc:TT}(hc:PT X c tc)(ha:PSs X a t)(hb:PSs X b u):PS X (.If c a b pos) (QC tc t u):=by
 intro pq s σ H D I h;refine wpAny_If (thn (hc pq s σ H _ I h) λd s1 ⟨H1,I1,q1⟩=>?_);cases d with
 | true=>exact ha pq s1 σ H1 D I1 q1
 | false=>exact hb pq s1 σ H1 D I1 q1
end
noncomputable abbrev TG:=V->St->Hp->(St->Hp->Prop)->Prop
noncomputable abbrev TGs:=List V->St->Hp->(St->Hp->Prop)->Prop
noncomputable def PG(X:Cx)(target:Expr)(t:TG):Prop:=
 ∀(pq:List (VU×Obj)) (s:VT) (σ:St) (H:Hp) (v:V) (u:VS) (Q:St->Hp->Prop),Inv X pq σ H s->RelV v u->t v σ H Q->
  VX (VY X.prog X.w) X.A (assign target X.env u) (λ_ s'=>∃ σ' H',Inv X pq σ' H' s'/\Q σ' H') X.xe s
noncomputable def PGs(X:Cx)(ts:List Expr)(t:TGs):Prop:=
 ∀(pq:List (VU×Obj)) (s:VT) (σ:St) (H:Hp) (vs:List V) (us:List VS) (Q:St->Hp->Prop),Inv X pq σ H s->Vals vs us->t vs σ H Q->
  VX (VY X.prog X.w) X.A (Wy ((Vu ts X.env).map (·.2)) us) (λ_ s'=>∃ σ' H',Inv X pq σ' H' s'/\Q σ' H') X.xe s
noncomputable abbrev Oa:=V->V->V->Hp->(Hp->Prop)->Prop
noncomputable def QF(X:Cx)(t:Oa):Prop:=
 ∀(pq:List (VU×Obj)) (s:VT) (σ:St) (H:Hp) (o i v:V) (ov iv u:VS) (Q:Hp->Prop),Inv X pq σ H s->RelV o ov->RelV i iv->RelV v u->t o i v H Q->
  VX (VY X.prog X.w) X.A (setItem ov iv u) (λ_ s'=>∃ H',Inv X pq σ H' s'/\Q H') X.xe s
section
variable{X:Cx}{pos:Pos}
noncomputable def EI(i:Nat):TG:=λv σ H Q=>Q (σ.set i (some v)) H
theorem MD{i:Nat}{x:Str}(hN:X.N.Nodup)(hi:X.N[i]?=some x)(hx:Loc X.env.scope x)(hf:X.fn x=true\/X.env.scope.names.lookup x=some .local:=by first | exact .inl rfl | exact .inr rfl | assumption):PG X (.Name x pos) (EI i):=by
 intro pq s σ H v u Q I r h;exact Wa (BO I hN hi hx r (λs' I'=>⟨_,H,I',h⟩) hf)
noncomputable def Rb:TGs:=λvs σ H Q=>vs=[]/\Q σ H
noncomputable def QG(t:TG)(u:TGs):TGs:=λvs σ H Q=>∃ v r,vs=v::r/\t v σ H λσ' H'=>u r σ' H' Q
theorem ME:PGs X [] Rb:=by
 intro pq s σ H vs us Q I r h;obtain⟨e,h⟩:=h;subst e;cases r;exact XB ⟨σ,H,I,h⟩
theorem Ja{e:Expr}{es:List Expr}{t:TG}{u:TGs}(h1:PG X e t)(h2:PGs X es u)
 (hs:(Vu (e::es) X.env).map (·.2)=assign e X.env::(Vu es X.env).map (·.2):=by rfl):PGs X (e::es) (QG t u):=by
 intro pq s σ H vs us Q I r h;obtain⟨v,vr,e1,h⟩:=h;subst e1;cases r with
 | cons r rr=>
   rw[hs];refine WR (thn (h1 pq s σ H _ _ _ I r h) λ_ s1 ⟨σ1,H1,I1,q1⟩=>?_);exact h2 pq s1 σ1 H1 _ _ Q I1 rr q1
noncomputable def Rc(K:Rz)(n:Nat)(t:TGs):TG:=λv σ H Q=>∃ a xs,v = .ref a/\SqT K H a xs/\xs.length=n/\t xs σ H Q
theorem Ob{es:List Expr}{k:Nat}{t:TGs}{n:Nat}(hc:X.calm=true)(h:PGs X es t)
 (hn:(Vu es X.env).length=n:=by rfl) (hst:(Vu es X.env).findIdx? (·.1)=none:=by rfl):PG X (.Tuple es k pos) (Rc X.K n t):=by
 intro pq s σ H v u Q I r hw;obtain⟨a,xs,e1,hq,hl,hw⟩:=hw;subst e1;cases r;obtain⟨its,rv,ht,hz⟩:=I.tuple hq;refine assign_Tuple_tuple (I.ok.hd hc) ht (by simp[hn,<-hl,rv.length]) hst λh' hx=>?_;have I1:Inv X pq σ H {s with heap:=h'}:=I.kept (t':=s.toks) λb o e=>hx b o (SS (SN e)) e;exact h pq _ σ H xs _ Q I1 (by simpa using rv) hw
noncomputable def QH(to ti:TE)(t:Oa):TG:=λv σ H Q=>to σ H λo H1=>ti σ H1 λi H2=>t o i v H2 λH3=>Q σ H3
theorem Oc{o i:Expr}{to ti:TE}{t:Oa}(ho:PE X o to)(hi:PE X i ti)(hs:QF X t)
 (ha:∀ v,assign (.Subscript o i pos) X.env v=(do
   let ov <- holding [v] (eval o X.env)
   let iv <- holding [v,ov] (eval i X.env)
   standAt pos
   holding [v,ov,iv] (setItem ov iv v)
   release [v,ov,iv] []):=by intro _;rfl):PG X (.Subscript o i pos) (QH to ti t):=by
 intro pq s σ H v u Q I r h;rw[ha];refine VR (Vl (thn (ho pq s σ H _ I h) λov s1 ⟨x,H1,I1,r1,q1⟩=>?_));refine VR (Vl (thn (hi pq s1 σ H1 _ I1 q1) λiv s2 ⟨y,H2,I2,r2,q2⟩=>?_));refine VR (Vx (VR (Vl (thn (hs pq s2 σ H2 x y v ov iv u _ I2 r1 r2 r q2) λ_ s3 ⟨H3,I3,q3⟩=>?_))));exact wpAny_release ⟨σ,H3,I3,q3⟩
noncomputable def Fb(te:TE)(g:TG):TS:=λD σ H=>te σ H λx H1=>g x σ H1 D.nx
theorem Jb{tg e:Expr}{te:TE}{g:TG}(he:PE X e te)(hg:PG X tg g)(hs:W6 [tg] e pos.line X.env=pure false:=by rfl)(hw:Vy [tg] e X.env=pure none:=by rfl)
 (h1:(Vu [tg] X.env).map (·.2)=[assign tg X.env]:=by rfl):PS X (.Assign [tg] e pos) (Fb te g):=by
 intro pq s σ H D I h;refine wpAny_Assign_stores (thn (he pq s σ H _ I h) λv s1 ⟨x,H1,I1,r1,q1⟩=>?_) hs hw;rw[h1];exact thn (hg pq s1 σ H1 x v _ I1 r1 q1) λ_ s2 q=>q
theorem Od{i:Nat}{x:Str}{e:Expr}{te:TE}{pos':Pos}(hN:X.N.Nodup)(hi:X.N[i]?=some x)(hx:Loc X.env.scope x)(he:PE X e te)(hs:Vv e (some (.Name x pos')) pos.line X.env=pure false:=by rfl)(hf:X.fn x=true\/X.env.scope.names.lookup x=some .local:=by first | exact .inl rfl | exact .inr rfl | assumption):
 PS X (.Assign [.Name x pos'] e pos) (Fb te (EI i)):=by
 intro pq s σ H D I h;refine wpAny_Assign_Name (thn (he pq s σ H _ I h) λv s1 ⟨y,H1,I1,r1,q1⟩=>?_) hs;exact BO I1 hN hi hx r1 (λs2 I2=>⟨_,H1,I2,q1⟩) hf
noncomputable def QI(i j:Nat)(ta:TA):TS:=λD σ H=>ta σ H λvs H1=>∃ v w,vs=[v,w]/\D.nx ((σ.set i (some v)).set j (some w)) H1
theorem Oe{i j:Nat}{x y:Str}{a b:Expr}{ta:TA}{px py pt:Pos}{kt k2 pt2}(hc:X.calm=true)(hN:X.N.Nodup)(hi:X.N[i]?=some x)(hj:X.N[j]?=some y)(hij:i≠j)
 (hx:X.env.scope.names.lookup x=some .local) (hy:X.env.scope.names.lookup y=some .local) (ha:PA X [a,b] ta)
 (hw:Vy [.Tuple [.Name x px,.Name y py] kt pt] (.Tuple [a,b] k2 pt2) X.env=pure (some [x,y]))
 (hs:W6 [.Tuple [.Name x px,.Name y py] kt pt] (.Tuple [a,b] k2 pt2) pos.line X.env=pure false:=by rfl):
 PS X (.Assign [.Tuple [.Name x px,.Name y py] kt pt] (.Tuple [a,b] k2 pt2) pos) (QI i j ta):=by
 intro pq s σ H D I h;rw[exec_Assign_arm];refine VR (Vx ?_);rw[hs];refine VR (VV ?_);rw[iG (by decide)];refine VR (Tuple_ (thn (ha _ pq s σ H _ I h) λus s1 ⟨vs,H1,I1,r1,q1⟩=>?_));obtain⟨v,w,e1,q1⟩:=q1;subst e1
 obtain⟨u1,u2,rfl,rv,rw'⟩:∃ u1 u2,us=[u1,u2]/\RelV v u1/\RelV w u2:=by
  cases r1 with
  | cons p q=>
    cases q with
    | cons p' q'=>
      cases q';exact⟨_,_,rfl,p,p'⟩
 refine Vh ?_ (by show 2<=VW;decide);have I2:Inv X pq σ H1 {s1 with heap:=s1.heap.push {cls := .type "tuple",data := .seq [u1,u2].toArray}}:=I1.kept (t':=s1.toks) λb o e=>SD _ e;rw[hw];refine VR (VV ?_);show VX (VY X.prog X.w) X.A (do rule "assign.swapped-stores";let items <- unpackItems (.ref s1.heap.objs.size) 2 none;Wy [λv=>XY X.env y v,λv=>XY X.env x v] items.reverse;pure Flow.next) _ _ _;refine VR (W8 (VR (unpackItems_tuple (items:=#[u1,u2]) (I.ok.hd hc) (IsTup.new s1.heap _) λh' hx'=>?_)));have I3:=I2.kept (h':=h') (t':=s1.toks) λb o e=>hx' b o (SS (SN e)) e;show VX _ _ (Wy [λv=>XY X.env y v,λv=>XY X.env x v] [u2,u1] >>= λ_=>pure Flow.next) _ _ _;refine VR (WR (XZ (BO I3 hN hj (.inl hy) rw' (λs2 I4=>?_) (.inr hy))));refine WR (XZ (BO I4 hN hi (.inl hx) rv (λs3 I5=>XB (VV ?_)) (.inr hx)));rw[List.set_comm _ _ (Ne.symm hij)]at I5;exact⟨_,H1,I5,q1⟩
noncomputable def Jc(c:TT)(tb:TS):TS:=λD σ H=>∃ W:Nat->St->Hp->Prop,(∃ m,W m σ H)/\∀ m σ H,W m σ H->
 c σ H λb H1=>if b=true then ∃ N:St->Hp->Prop,(∀ σ' H',N σ' H'->∃ m',m'<m/\W m' σ' H')/\tb {D with nx:=N,ct:=N,bk:=D.nx} σ H1 else D.nx σ H1
theorem Jd{c:Expr}{body:List Stmt}{tc:TT}{tb:TS}(hp:XJ (VY X.prog X.w) X.A X.env X.xe)(hc:PT X c tc)(hb:PSs X body tb):PS X (.While c body [] pos) (Jc tc tb):=by
 intro pq s σ H D I h;obtain⟨W,⟨m0,w0⟩,turn⟩:=h;refine wpAny_While (codeAny_whileLoop (λn s'=>∃ σ' H',Inv X pq σ' H' s'/\W n σ' H') ?_ m0 ⟨σ,H,I,w0⟩);rintro n s1 ⟨σ1,H1,I1,w1⟩;refine Vw hp (thn (hc pq s1 σ1 H1 _ I1 (turn n σ1 H1 w1)) λb s2 ⟨H2,I2,q2⟩=>?_);cases b with
 | true=>
   obtain⟨N,hN,q2⟩:=q2;rw[iP rfl];refine Vw hp (thn (hb pq s2 σ1 H2 _ I2 q2) λf s3 q3=>?_);cases f with
   | next=>
     obtain⟨σ3,H3,I3,n3⟩:=q3;obtain⟨m',hm,w3⟩:=hN σ3 H3 n3;exact⟨m',hm,σ3,H3,I3,w3⟩
   | cont=>
     obtain⟨σ3,H3,I3,n3⟩:=q3;obtain⟨m',hm,w3⟩:=hN σ3 H3 n3;exact⟨m',hm,σ3,H3,I3,w3⟩
   | brk=>exact q3
   | ret v=>exact q3
 | false=>
   rw[iG SH];exact Wl ⟨σ1,H2,I2,q2⟩
end
structure It where
 go:Nat->Hp->Prop
 yld:Nat->Hp->V->Hp->Prop
 stop:Nat->Hp->Prop
noncomputable def FpOk(X:Cx)(pq:List (VU×Obj))(H:Hp)(b:VU):Prop:=
 H b=none/\b≠X.env.locals/\b∉X.fs/\(b∈X.ex\/X.s₀.heap.objs.size<=b)/\(∀ x c,X.env.cells.lookup x=some c->c≠b)/\∀ p∈X.pn++pq,p.1≠b
theorem Inv.fpOk{X:Cx}{pq:List (VU×Obj)}{σ:St}{H H':Hp}{s:VT}{b:VU}(I:Inv X pq σ H s)(hb:s.heap.objs.size<=b)(hn:H' b=none):FpOk X pq H' b:=by
 refine⟨hn,VJ (Se I.lt hb),I.nofs hb,.inr (Sj I.sz hb),λx c e z=>?_,λp hp z=>?_⟩
 ·obtain⟨v,q⟩:=I.cell x c e;exact absurd (Se q.lt (by rw[z];exact hb)) (Tj _)
 ·exact absurd (Se (SN (I.pin p hp).1) (by rw[z];exact hb)) (Tj _)
structure Turn(P:VZ)(w:Vc)(K:Rz)(tg:Expr)(J:It)(fp:List VU)(it:VU)(tn:Nat->Heap->Prop):Prop where
 mem:it∈fp
 obj:∀ i h,tn i h->∀ b∈fp,∃ o,h.get? b=some o/\∀ v,o.data ≠ .cell v
 keep:∀ i h h',tn i h->(∀ b∈fp,∀ o,h.get? b=some o->h'.get? b=some o)->tn i h'
 item:∀(X:Cx),X.prog=P->X.w=w->X.K=K->X.calm=true->∀(i:Nat) (pq:List (VU×Obj)) (s:VT) (σ:St) (H:Hp) (E:VS->VT->Prop),Inv X pq σ H s->(∀ b∈fp,FpOk X pq H b)->tn i s.heap->J.go i H->
  VX (VY P w) X.A (pyNext (.ref it)) (λr s1=>∃ u,r=some u/\
   VX (VY P w) X.A (W7 tg (.ref it) u) (λ_ s2=>∃ x H',Inv X pq σ H' s2/\RelV x u/\J.yld i H x H'/\tn (i+1) s2.heap/\∀ b∈fp,H' b=none) E s1) E s
 done:∀(X:Cx),X.prog=P->X.w=w->X.K=K->X.calm=true->∀(i:Nat) (pq:List (VU×Obj)) (s:VT) (σ:St) (H:Hp) (E:VS->VT->Prop),Inv X pq σ H s->(∀ b∈fp,FpOk X pq H b)->tn i s.heap->J.stop i H->
   VX (VY P w) X.A (pyNext (.ref it)) (λr s1=>r=none/\Inv X pq σ H s1) E s
 self:∀(A:Vf) (i:Nat) (s:VT) (Q:VS->VT->Prop) (E:VS->VT->Prop),tn i s.heap->Q (.ref it) s->VX (VY P w) A (pyIter (.ref it)) Q E s
noncomputable abbrev TI:=St->Hp->(It->Hp->Prop)->Prop
noncomputable def PIE(X:Cx)(pq:List (VU×Obj))(σ:St)(tg:Expr)(R:It->Hp->Prop)(itv:VS)(s2:VT):Prop:=
 ∃(it:VU) (fp:List VU) (tn:Nat->Heap->Prop) (J:It) (H':Hp),itv = .ref it/\Inv X pq σ H' s2/\Turn X.prog X.w X.K tg J fp it tn/\tn 0 s2.heap/\(∀ b∈fp,FpOk X pq H' b)/\R J H'
noncomputable def PI(X:Cx)(tg iter:Expr)(wi:TI):Prop:=
 ∀(pq:List (VU×Obj)) (s:VT) (σ:St) (H:Hp) (R:It->Hp->Prop),Inv X pq σ H s->wi σ H R->
  VX (VY X.prog X.w) X.A (eval iter X.env) (λv s1=>VX (VY X.prog X.w) X.A (pyIter v) (PIE X pq σ tg R) X.xe s1) X.xe s
theorem Gp{M:Model}{A:Vf}{E:VS->VT->Prop}{s:VT}{tg:Expr}{it:VU}{u:VS}{o:Obj}{n:String}{vs:Array VS}{Q:Unit->VT->Prop}(ho:s.heap.get? it=some o)(hc:o.cls = .type n)(hd:o.data = .fields vs)
 (hn:["enumerate","zip","dict_itemiterator","dict_reverseitemiterator","odict_iterator","itertools.zip_longest","itertools.pairwise"].contains n=false) (hQ:Q () s):VX M A (W7 tg (.ref it) u) Q E s:=by
 unfold W7
 cases tg<;>first
  | exact VV hQ
  | (cases u<;>first
      | exact VV hQ
      | (refine VR (wpAny_load ho ?_)
         rw[hc,hd];show VX M A (if (["enumerate","zip","dict_itemiterator","dict_reverseitemiterator","odict_iterator","itertools.zip_longest","itertools.pairwise"].contains n&&vs[0]? == some (rawInt _))=true then _ else _) Q E s;rw[iG (by intro h;rw[hn,Bool.false_and]at h;cases h)];exact VV hQ))
noncomputable def Itl(K:Rz)(a:VU):It:=
 ⟨λi H=>∃ xs x,SqL K H a xs/\xs[i]?=some x,λi H x H'=>H'=H/\∀ xs,SqL K H a xs->xs[i]?=some x,λi H=>∃ xs,SqL K H a xs/\xs.length<=i⟩
noncomputable def Itt(K:Rz)(a:VU):It:=
 ⟨λi H=>∃ xs x,SqT K H a xs/\xs[i]?=some x,λi H x H'=>H'=H/\∀ xs,SqT K H a xs->xs[i]?=some x,λi H=>∃ xs,SqT K H a xs/\xs.length<=i⟩
noncomputable def Itr(lo:Int)(n:Nat):It:=⟨λi _=>i<n,λi H x H'=>H'=H/\x = .int (lo+i),λi _=>n<=i⟩
theorem IK{P:VZ}{w:Vc}{K:Rz}{tg:Expr}(a it:VU):Turn P w K tg (Itl K a) [it] it (λi h=>h.IsListIter it a i) where
 mem:=by simp
 obj:=λi h st b hb=>by
  have e:b=it:=by simpa using hb
  subst e;obtain⟨o,e,c,d⟩:=st;exact⟨o,e,λv z=>by rw[d]at z;cases z⟩
 keep:=λi h h' st k=>st.at λo e=>k it (by simp) o e
 item:=by
  intro X hP hw hK hc i pq s σ H E I hf st hg;subst hP hw hK;obtain⟨xs,x,hq,hx⟩:=hg;obtain⟨its,rv,p,hz⟩:=I.list hq;obtain⟨u,hu,ru⟩:=rv.get hx;obtain⟨f0,f1,f2,f3,f4,f5⟩:=hf it (by simp);refine wpAny_pyNext_list_item st p.isList (x:=u) (by simpa using hu) λh' st' sb=>?_;have I1:Inv X pq σ H {s with heap:=h'}:=I.turned (t':=s.toks) (λb o hb e=>(sb.2 b hb).trans e) f0 f1 f3 f4 f5;obtain⟨o,e,c,d⟩:=id st';exact⟨u,rfl,Gp (s:={s with heap:=h'}) e c d (by decide) ⟨x,H,I1,ru,⟨rfl,λys hy=>by rw[I.list_inj hy hq];exact hx⟩,st',λb hb=>(hf b hb).1⟩⟩
 done:=by
   intro X hP hw hK hc i pq s σ H E I hf st hg;subst hP hw hK;obtain⟨xs,hq,hx⟩:=hg;obtain⟨its,rv,p,hz⟩:=I.list hq;obtain⟨f0,f1,f2,f3,f4,f5⟩:=hf it (by simp);have hl:=rv.length;exact wpAny_pyNext_list_end (I.ok.hd hc) st p.isList (by simp;omega) λh' eb=>⟨rfl,I.turned (t':=s.toks) (λb o hb e=>eb b o hb e) f0 f1 f3 f4 f5⟩
 self:=λ_ _ _ _ _ st h=>wpAny_pyIter_listiter st h
theorem Fc{P:VZ}{w:Vc}{K:Rz}{tg:Expr}(a it:VU):Turn P w K tg (Itt K a) [it] it (λi h=>h.IsTupleIter it a i) where
 mem:=by simp
 obj:=λi h st b hb=>by
  have e:b=it:=by simpa using hb
  subst e;obtain⟨o,e,c,d⟩:=st;exact⟨o,e,λv z=>by rw[d]at z;cases z⟩
 keep:=λi h h' st k=>st.at λo e=>k it (by simp) o e
 item:=by
  intro X hP hw hK hc i pq s σ H E I hf st hg;subst hP hw hK;obtain⟨xs,x,hq,hx⟩:=hg;obtain⟨its,rv,p,hz⟩:=I.tuple hq;obtain⟨u,hu,ru⟩:=rv.get hx;obtain⟨f0,f1,f2,f3,f4,f5⟩:=hf it (by simp);refine wpAny_pyNext_tuple_item st (show s.heap.IsTuple a its.toArray from p) (x:=u) (by simpa using hu) λh' st' sb=>?_;have I1:Inv X pq σ H {s with heap:=h'}:=I.turned (t':=s.toks) (λb o hb e=>(sb.2 b hb).trans e) f0 f1 f3 f4 f5;obtain⟨o,e,c,d⟩:=id st';exact⟨u,rfl,Gp (s:={s with heap:=h'}) e c d (by decide) ⟨x,H,I1,ru,⟨rfl,λys hy=>by rw[I.tuple_inj hy hq];exact hx⟩,st',λb hb=>(hf b hb).1⟩⟩
 done:=by
   intro X hP hw hK hc i pq s σ H E I hf st hg;subst hP hw hK;obtain⟨xs,hq,hx⟩:=hg;obtain⟨its,rv,p,hz⟩:=I.tuple hq;obtain⟨f0,f1,f2,f3,f4,f5⟩:=hf it (by simp);have hl:=rv.length;exact wpAny_pyNext_tuple_end (I.ok.hd hc) st (show s.heap.IsTuple a its.toArray from p) (by simp;omega) λh' eb=>⟨rfl,I.turned (t':=s.toks) (λb o hb e=>eb b o hb e) f0 f1 f3 f4 f5⟩
 self:=λ_ _ _ _ _ st h=>wpAny_pyIter_tupleiter st h
theorem Fd{P:VZ}{w:Vc}{K:Rz}{tg:Expr}(it:VU)(lo:Int)(n:Nat):Turn P w K tg (Itr lo n) [it] it (λi h=>IsRangeIter h it (lo+(i:Nat) * 1) ((n:Int) - (i:Nat)) 1) where
 mem:=by simp
 obj:=λi h st b hb=>by
  have e:b=it:=by simpa using hb
  subst e
  exact⟨_,st,λv z=>by
   have z':Data.fields _=Data.cell v:=z;cases z'⟩
 keep:=λi h h' st k=>k it (by simp) _ st
 item:=by
  intro X hP hw hK hc i pq s σ H E I hf st hg;subst hP hw hK;obtain⟨f0,f1,f2,f3,f4,f5⟩:=hf it (by simp);have W:=Walks.range (prog:=X.prog) (w:=X.w) (I.ok.hd hc) it lo 1 n;refine W.item i s _ _ hg st λv h' tk hv st' kk=>?_;obtain⟨t,rfl⟩:=hv;have I1:Inv X pq σ H {s with heap:=h',toks:=tk}:=I.turned (λb o hb e=>kk b o (by simpa using hb) e) f0 f1 f3 f4 f5;refine⟨_,rfl,Gp (s:={s with heap:=h',toks:=tk}) (n:="range_iterator") st' rfl rfl (by decide) ⟨.int (lo+i),H,I1,⟨t,?_⟩,⟨rfl,rfl⟩,st',λb hb=>(hf b hb).1⟩⟩;rw[Int.mul_one]
 done:=by
   intro X hP hw hK hc i pq s σ H E I hf st hg;subst hP hw hK;obtain⟨f0,f1,f2,f3,f4,f5⟩:=hf it (by simp);exact wpAny_pyNext_range_end (I.ok.hd hc) st (by have:n<=i:=hg;omega) λh' eb=>⟨rfl,I.turned (t':=s.toks) (λb o hb e=>eb b o hb e) f0 f1 f3 f4 f5⟩
 self:=λ_ _ _ _ _ st h=>wpAny_pyIter_rangeiter st h
section
variable{X:Cx}{tg:Expr}
theorem EJ{pq:List (VU×Obj)}{σ:St}{H:Hp}{s:VT}{R:It->Hp->Prop}{E:VS->VT->Prop}{lo hi:Int}{t u v:Tok}{tk:Nat}(I:Inv X pq σ H s)(h1:-(2 ^ 62)<=lo)(h2:lo<2 ^ 62)(h3:-(2 ^ 62)<=hi)(h4:hi<2 ^ 62)
 (q:R (Itr lo (hi - lo).toNat) H):VX (VY X.prog X.w) X.A (pyIter (.ref s.heap.objs.size)) (PIE X pq σ tg R) E {s with heap:=s.heap.push {cls := .type "range",data := .fields #[.int lo t,.int hi u,.int 1 v]},toks:=tk}:=by
 refine wpAny_pyIter_range (IsRange.new ..) (small_one h1 h2 h3 h4) ?_;have I1:Inv X pq σ H {s with heap:=s.heap.push {cls := .type "range",data := .fields #[.int lo t,.int hi u,.int 1 v]},toks:=tk}:=I.kept λb o e=>SD _ e
 refine⟨(s.heap.push {cls := .type "range",data := .fields #[.int lo t,.int hi u,.int 1 v]}).objs.size,[(s.heap.push {cls := .type "range",data := .fields #[.int lo t,.int hi u,.int 1 v]}).objs.size],_,_,H,rfl,
  I1.kept (t':=tk) λb o e=>SD _ e,Fd _ lo (hi - lo).toNat,?_,λb hb=>?_,q⟩
 ·have e1:lo+((0:Nat):Int) * 1=lo:=by simp
  have e2:(((hi - lo).toNat:Nat):Int) - ((0:Nat):Int)=Builtin.Range.rangeSize lo hi 1:=by rw[rangeSize_one];split<;>omega
  show IsRangeIter _ _ (lo+((0:Nat):Int) * 1) ((((hi - lo).toNat:Nat):Int) - ((0:Nat):Int)) 1;rw[e1,e2];exact SW _ rfl
 ·have e:b=(s.heap.push {cls := .type "range",data := .fields #[.int lo t,.int hi u,.int 1 v]}).objs.size:=by simpa using hb
  subst e;exact I1.fpOk (SK _) (I1.hok.fresh (SK _))
noncomputable def QJ(ta:TA):TI:=λσ H R=>ta σ H λvs H1=>∃ j:Int,vs=[.int j] /\ -(2 ^ 62)<=j/\j<2 ^ 62/\R (Itr 0 j.toNat) H1
noncomputable def QK(ta:TA):TI:=λσ H R=>ta σ H λvs H1=>∃ i j:Int,vs=[.int i,.int j]/\(-(2 ^ 62)<=i/\i<2 ^ 62 /\ -(2 ^ 62)<=j/\j<2 ^ 62)/\R (Itr i (j - i).toNat) H1
theorem IL{a:Expr}{ta:TA}{p pos:Pos}(hg:Gl X "range")(hm:X.mg "range"=none)(ha:PA X [a] ta)(hs:Vg [a] X.env=[(false,eval a X.env)]:=by rfl):PI X tg (.Call (.Name "range" p) [a] [] pos) (QJ ta):=by
 intro pq s σ H R I h;refine Call_ (Bh I hg hm boot_range (PyProof.Rows.callWith_type1 (thn (ha pos pq s σ H _ I h) λus s1 ⟨vs,H1,I1,r1,q1⟩=>?_) hs rfl));obtain⟨j,e,q1,q2,q⟩:=q1;subst e;cases r1 with
 | cons r rr=>
   cases rr;obtain⟨t,rfl⟩:=r;exact call_range_1 (EJ I1 (by omega) (by omega) q1 q2 (by simpa using q))
theorem IM{a b:Expr}{ta:TA}{p pos:Pos}(hg:Gl X "range")(hm:X.mg "range"=none)(ha:PA X [a,b] ta)(hs:Vg [a,b] X.env=[(false,eval a X.env),(false,eval b X.env)]:=by rfl)(hs2:Vg [b] X.env=[(false,eval b X.env)]:=by rfl):
 PI X tg (.Call (.Name "range" p) [a,b] [] pos) (QK ta):=by
 intro pq s σ H R I h;refine Call_ (Bh I hg hm boot_range (PyProof.Rows.callWith_type1 (thn (ha pos pq s σ H _ I h) λus s1 ⟨vs,H1,I1,r1,q1⟩=>?_) (by rw[hs,hs2]) (by rw[hs2];rfl)));obtain⟨i,j,e,⟨q1,q2,q3,q4⟩,q⟩:=q1;subst e;cases r1 with
 | cons r rr=>
   cases rr with
   | cons r' rr=>
     cases rr;obtain⟨t,rfl⟩:=r;obtain⟨t',rfl⟩:=r';exact call_range_2 (EJ I1 q1 q2 q3 q4 q)
noncomputable def QL(wi:TI)(g:TG)(tb:TS):TS:=λD σ H=>wi σ H λJ H1=>∃ W:Nat->Nat->St->Hp->Prop,(∃ m,W 0 m σ H1)/\∀ i m σ H,W i m σ H->
 (J.stop i H/\D.nx σ H)\/(J.go i H/\∃ N:St->Hp->Prop,(∀ σ' H',N σ' H'->∃ m',m'<m/\W (i+1) m' σ' H')/\∀ x H',J.yld i H x H'->g x σ H' λσ2 H2=>tb {D with nx:=N,ct:=N,bk:=D.nx} σ2 H2)
noncomputable def Af(fp:List VU)(h:Heap):List (VU×Obj):=fp.filterMap λb=>(h.get? b).map λo=>(b,o)
theorem t5{fp:List VU}{h:Heap}{b:VU}{o:Obj}(hb:b∈fp)(e:h.get? b=some o):(b,o)∈Af fp h:=Uo.mpr ⟨b,hb,by rw[e];rfl⟩
theorem IN{fp:List VU}{h:Heap}{p:VU×Obj}(hp:p∈Af fp h):p.1∈fp/\h.get? p.1=some p.2:=by
 obtain⟨b,hb,e⟩:=Uo.mp hp;cases q:h.get? b with
 | none=>rw[q]at e;cases e
 | some o=>
   rw[q]at e;have e':(b,o)=p:=oj e;subst e';exact⟨hb,q⟩
theorem Inv.pinned{pq:List (VU×Obj)}{σ:St}{H:Hp}{s:VT}{fp:List VU}(I:Inv X pq σ H s)(hf:∀ b∈fp,FpOk X pq H b)(ho:∀ b∈fp,∃ o,s.heap.get? b=some o/\∀ v,o.data ≠ .cell v):Inv X (pq++Af fp s.heap) σ H s:=
 I.pins_of λp hp=>(Sg.mp hp).elim (λz=>I.pin p (Si _ z)) λz=>by
  obtain⟨hb,e⟩:=IN z;obtain⟨f0,f1,f2,_⟩:=hf p.1 hb;obtain⟨o,e',d⟩:=ho p.1 hb;rw[e]at e';cases e';exact⟨e,f0,f1,f2,d⟩
theorem Inv.unpinned{pq pl:List (VU×Obj)}{σ:St}{H:Hp}{s:VT}(I:Inv X (pq++pl) σ H s):Inv X pq σ H s:=I.pins_of λp hp=>I.pin p (Si _ (Ud _ hp))
theorem Of{iter:Expr}{body:List Stmt}{wi:TI}{g:TG}{tb:TS}{pos:Pos}(hp:XJ (VY X.prog X.w) X.A X.env X.xe)(hc:X.calm=true)(hi:PI X tg iter wi)(hg:PG X tg g)(hb:PSs X body tb)
 (hs:∀ x,Vk iter X.env x=pure x:=by intro _;rfl):PS X (.For tg iter body [] pos) (QL wi g tb):=by
 intro pq s σ H D I h;refine wpAny_For (thn (hi pq s σ H _ I h) λv s1 h1=>thn h1 λitv s2 h2=>?_) hs;obtain⟨it,fp,tn,J,H2,e,I2,T,st2,f2,W,⟨m0,w0⟩,turn⟩:=h2;subst e;have stat:∀{H':Hp},(∀ b∈fp,H' b=none)->∀ b∈fp,FpOk X pq H' b:=λhn b hb=>⟨hn b hb,(f2 b hb).2⟩
 refine codeAny_forLoop_any (λn s'=>∃ i σ' H',Inv X pq σ' H' s'/\tn i s'.heap/\(∀ b∈fp,H' b=none)/\W i n σ' H') ?_ m0 ⟨0,σ,H2,I2,st2,λb hb=>(f2 b hb).1,w0⟩;rintro n s3 ⟨i,σ3,H3,I3,st3,fr3,w3⟩;rcases turn i n σ3 H3 w3 with⟨stop,qn⟩ | ⟨go,N,hN,step⟩
 ·refine Vw hp (thn (T.done X rfl rfl rfl hc i pq s3 σ3 H3 X.xe I3 (stat fr3) st3 stop) λr s4 ⟨hr,I4⟩=>?_);subst hr;exact Wl ⟨σ3,H3,I4,qn⟩
 ·refine Vw hp (thn (T.item X rfl rfl rfl hc i pq s3 σ3 H3 X.xe I3 (stat fr3) st3 go) λr s4 ⟨u,hr,h4⟩=>?_);subst hr;refine Vw hp (thn h4 λ_ s5 ⟨x,H5,I5,r5,y5,st5,fr5⟩=>?_);have I5':=I5.pinned (stat fr5) (T.obj _ _ st5);refine Vw hp (thn (hg _ s5 σ3 H5 x u _ I5' r5 (step x H5 y5)) λ_ s6 ⟨σ6,H6,I6,q6⟩=>?_);refine Vw hp (thn (hb _ s6 σ6 H6 _ I6 q6) λf s7 q7=>?_)
  have again:∀{σ7:St} {H7:Hp},Inv X (pq++Af fp s5.heap) σ7 H7 s7->N σ7 H7->∃ m,m<n/\∃ i σ' H',Inv X pq σ' H' s7/\tn i s7.heap/\(∀ b∈fp,H' b=none)/\W i m σ' H':=λ{σ7 H7} I7 n7=>by
   obtain⟨m',hm,w7⟩:=hN σ7 H7 n7;refine⟨m',hm,i+1,σ7,H7,I7.unpinned,T.keep _ _ _ st5 λb hb o e=>(I7.pin (b,o) (Si _ (Si _ (t5 hb e)))).1,λb hb=>?_,w7⟩;obtain⟨o,e,d⟩:=T.obj _ _ st5 b hb;exact(I7.pin (b,o) (Si _ (Si _ (t5 hb e)))).2.1
  cases f with
  | next=>obtain⟨σ7,H7,I7,n7⟩:=q7;exact again I7 n7
  | cont=>obtain⟨σ7,H7,I7,n7⟩:=q7;exact again I7 n7
  | brk=>obtain⟨σ7,H7,I7,q7⟩:=q7;exact⟨σ7,H7,I7.unpinned,q7⟩
  | ret v=>obtain⟨x7,σ7,H7,I7,r7,q7⟩:=q7;exact⟨x7,σ7,H7,I7.unpinned,r7,q7⟩
end
noncomputable abbrev R2:=V->V->Hp->VK->Prop
noncomputable def OpR(X:Cx)(f:VS->VS->Sem VS)(r:R2):Prop:=
 ∀(pq:List (VU×Obj)) (s:VT) (σ:St) (H:Hp) (x y:V) (v u:VS) (Q:VK),Inv X pq σ H s->RelV x v->RelV y u->r x y H Q->
  VX (VY X.prog X.w) X.A (f v u) (EP X pq σ Q) X.xe s
noncomputable def UnR(X:Cx)(f:VS->Sem VS)(r:V->Hp->VK->Prop):Prop:=
 ∀(pq:List (VU×Obj)) (s:VT) (σ:St) (H:Hp) (x:V) (v:VS) (Q:VK),Inv X pq σ H s->RelV x v->r x H Q->
  VX (VY X.prog X.w) X.A (f v) (EP X pq σ Q) X.xe s
noncomputable def CallR(X:Cx)(f:VS)(r:List V->Hp->VK->Prop):Prop:=
 ∀(pq:List (VU×Obj)) (s:VT) (σ:St) (H:Hp) (xs:List V) (us:List VS) (Q:VK),Inv X pq σ H s->Vals xs us->r xs H Q->
  VX (VY X.prog X.w) X.A (call f us) (EP X pq σ Q) X.xe s
noncomputable def Re(X:Cx)(r:V->Hp->(Bool->Hp->Prop)->Prop):Prop:=
 ∀(pq:List (VU×Obj)) (s:VT) (σ:St) (H:Hp) (x:V) (v:VS) (Q:Bool->Hp->Prop),Inv X pq σ H s->RelV x v->r x H Q->
  VX (VY X.prog X.w) X.A (truthy v) (TP X pq σ Q) X.xe s
noncomputable def tOp(r:R2)(ta tb:TE):TE:=λσ H Q=>ta σ H λx H1=>tb σ H1 λy H2=>r x y H2 Q
noncomputable def tUn(r:V->Hp->VK->Prop)(ta:TE):TE:=λσ H Q=>ta σ H λx H1=>r x H1 Q
noncomputable def rI(C:Int->Int->Prop)(g:Int->Int->V):R2:=λx y H Q=>∃ i j,x = .int i/\y = .int j/\C i j/\Q (g i j) H
noncomputable def rI0(g:Int->Int->V):R2:=λx y H Q=>∃ i j,x = .int i/\y = .int j/\Q (g i j) H
noncomputable def rU(g:Int->V):V->Hp->VK->Prop:=λx H Q=>∃ i,x = .int i/\Q (g i) H
section
variable{X:Cx}{a b c:Expr}{ta tb tc:TE}{pos:Pos}
theorem Og(ha:PE X a ta)(hb:PE X b tb){pq:List (VU×Obj)}{s:VT}{σ:St}{H:Hp}{R:V->V->Hp->Prop}(I:Inv X pq σ H s)
 (h:ta σ H λx H1=>tb σ H1 λy H2=>R x y H2) {Q:VS->VT->Prop} {f:VS->VS->Sem VS}
 (hf:∀ v u s2 x y H2,Inv X pq σ H2 s2->RelV x v->RelV y u->R x y H2->VX (VY X.prog X.w) X.A (f v u) Q X.xe s2):
 VX (VY X.prog X.w) X.A (eval a X.env) (λv s₁=>VX (VY X.prog X.w) X.A (eval b X.env) (λu s₂=>VX (VY X.prog X.w) X.A (f v u) Q X.xe s₂) X.xe s₁) X.xe s:=by
 refine thn (ha pq s σ H _ I h) λv s1 ⟨x,H1,I1,r1,q1⟩=>?_;refine thn (hb pq s1 σ H1 _ I1 q1) λu s2 ⟨y,H2,I2,r2,q2⟩=>?_;exact hf v u s2 x y H2 I2 r1 r2 q2
theorem QM{op:Wd}{r:R2}(ho:OpR X (Vq op) r)(ha:PE X a ta)(hb:PE X b tb):PE X (.BinOp a op b pos) (tOp r ta tb):=by
 intro pq s σ H Q I h;exact wpAny_BinOp (Og ha hb I h λv u s2 x y H2 I2 rx ry q=>ho pq s2 σ H2 x y v u Q I2 rx ry q)
theorem QN{op:UnaryOp}{r:V->Hp->VK->Prop}(ho:UnR X (unaryOp op) r)(ha:PE X a ta):PE X (.UnaryOp op a pos) (tUn r ta):=by
 intro pq s σ H Q I h;exact UnaryOp_ (thn (ha pq s σ H _ I h) λv s1 ⟨x,H1,I1,r1,q1⟩=>ho pq s1 σ H1 x v Q I1 r1 q1)
theorem opI{f:VS->VS->Sem VS}{C:Int->Int->Prop}{g:Int->Int->Int}
 (rule:∀(i j:Int) (t u:Tok) (s:VT) (Q:VS->VT->Prop) (E:VS->VT->Prop),C i j->Q (.int (g i j) s.toks) {s with toks:=s.toks+1}->VX (VY X.prog X.w) X.A (f (.int i t) (.int j u)) Q E s):
 OpR X f (rI C λi j => .int (g i j)):=by
 intro pq s σ H x y v u Q I rx ry h;obtain⟨i,j,rfl,rfl,hc,q⟩:=h;obtain⟨t,rfl⟩:=rx;obtain⟨t',rfl⟩:=ry;exact rule i j t t' s _ _ hc ⟨.int (g i j),H,I.tok _,⟨_,rfl⟩,q⟩
theorem QO{f:VS->VS->Sem VS}{g:Int->Int->Int}
 (rule:∀(i j:Int) (t u:Tok) (s:VT) (Q:VS->VT->Prop) (E:VS->VT->Prop),Q (.int (g i j) s.toks) {s with toks:=s.toks+1}->VX (VY X.prog X.w) X.A (f (.int i t) (.int j u)) Q E s):
 OpR X f (rI0 λi j => .int (g i j)):=by
 intro pq s σ H x y v u Q I rx ry h;obtain⟨i,j,rfl,rfl,q⟩:=h;obtain⟨t,rfl⟩:=rx;obtain⟨t',rfl⟩:=ry;exact rule i j t t' s _ _ ⟨.int (g i j),H,I.tok _,⟨_,rfl⟩,q⟩
theorem MF{f:VS->VS->Sem VS}{g:Int->Int->Bool}
 (rule:∀(i j:Int) (t u:Tok) (s:VT) (Q:VS->VT->Prop) (E:VS->VT->Prop),Q (.bool (g i j)) s->VX (VY X.prog X.w) X.A (f (.int i t) (.int j u)) Q E s):
 OpR X f (rI0 λi j => .bl (g i j)):=by
 intro pq s σ H x y v u Q I rx ry h;obtain⟨i,j,rfl,rfl,q⟩:=h;obtain⟨t,rfl⟩:=rx;obtain⟨t',rfl⟩:=ry;exact rule i j t t' s _ _ ⟨.bl (g i j),H,I,rfl,q⟩
noncomputable def QP(i j:Int):Prop:=0<j/\j<1073741824
noncomputable def QQ(i j:Int):Prop:=0<=j/\j<=1000000/\i.natAbs<2 ^ 64
noncomputable def CMul(i j:Int):Prop:=(-(2 ^ 64)<i/\i<2 ^ 64)\/(-(2 ^ 64)<j/\j<2 ^ 64)
theorem CMul.ok{i j:Int}(h:CMul i j):IntMulOk i j:=by
 rcases h with⟨h1,h2⟩ | ⟨h1,h2⟩
 ·exact .of_left (intBits_le_64 h1 h2)
 ·exact .of_right (intBits_le_64 h1 h2)
theorem op_add:OpR X (Vq .Add) (rI0 λi j => .int (i+j)):=QO λ_ _ _ _ _ _ _ q=>add_int q
theorem Oh:OpR X (Vq .Sub) (rI0 λi j => .int (i - j)):=QO λ_ _ _ _ _ _ _ q=>sub_int q
theorem op_mul:OpR X (Vq .Mult) (rI CMul λi j => .int (i * j)):=opI λ_ _ _ _ _ _ _ hc q=>mul_int q hc.ok
theorem MG:OpR X (Vq .FloorDiv) (rI QP λi j => .int (i / j)):=opI λi j _ _ _ _ _ hc q=>by
 have h1:(0:Int)<j:=hc.1;have h2:j<1073741824:=hc.2;exact floordiv_int (by omega) (by rw[Int.fdiv_eq_ediv_of_nonneg i (by omega)];exact q) (.inl (PyProof.noPylong_small (by omega)))
theorem Oi:OpR X (Vq .Mod) (rI (λ_ j=>0<j) λi j => .int (i % j)):=opI λi j _ _ _ _ _ hc q=>by
 have h1:(0:Int)<j:=hc;exact mod_int' (by omega) (by rw[Int.fmod_eq_emod_of_nonneg i (by omega)];exact q)
theorem Oj:OpR X (Vq .Pow) (rI QQ λi j => .int (i ^ j.toNat)):=opI λ_ _ _ _ _ _ _ hc q=>pow_int_small hc.1 hc.2.1 hc.2.2 q
theorem unI{f:VS->Sem VS}{g:Int->Int}
 (rule:∀(i:Int) (t:Tok) (s:VT) (Q:VS->VT->Prop) (E:VS->VT->Prop),Q (.int (g i) s.toks) {s with toks:=s.toks+1}->VX (VY X.prog X.w) X.A (f (.int i t)) Q E s):
 UnR X f (rU λi => .int (g i)):=by
 intro pq s σ H x v Q I rx h;obtain⟨i,rfl,q⟩:=h;obtain⟨t,rfl⟩:=rx;exact rule i t s _ _ ⟨.int (g i),H,I.tok _,⟨_,rfl⟩,q⟩
theorem Ol:UnR X (unaryOp .USub) (rU λi => .int (-i)):=unI λ_ _ _ _ _ q=>neg_int q
end
noncomputable def Om:V->V->Bool
 | .non,.non=>true | .non,.int _=>true | .int _,.non=>true | .non,.bl _=>true | .bl _,.non=>true | .non,.str _=>true | .str _,.non=>true
 | .int _,.int _=>true | .bl _,.bl _=>true | .str _,.str _=>true | .byt _,.byt _=>true
 | .int _,.str _=>true | .str _,.int _=>true | .bl _,.str _=>true | .str _,.bl _=>true
 | _,_=>false
noncomputable def rEq:R2:=λx y H Q=>Om x y=true/\Q (.bl (decide (x=y))) H
noncomputable def rNe:R2:=λx y H Q=>Om x y=true/\Q (.bl (!decide (x=y))) H
theorem Gq{i j:Int}:decide (V.int i=V.int j)=(i == j):=by
 rw[TC];simp
theorem Je{i j:Bool}:decide (V.bl i=V.bl j)=(i == j):=by
 rw[TC];simp
theorem Gr{i j:Str}:decide (V.str i=V.str j)=(i == j):=by
 rw[TC];simp
theorem Gs{i j:Array UInt8}:decide (V.byt i=V.byt j)=(i.toList == j.toList):=by
 rw[TC];cases i;cases j;simp
section
variable{X:Cx}{a b c:Expr}{ta tb tc:TE}{pos:Pos}
theorem f8{pq:List (VU×Obj)}{σ:St}{H:Hp}{s:VT}{Q:VK}{k k':Bool}(I:Inv X pq σ H s)(q:Q (.bl k) H)(e:k=k'):EP X pq σ Q (.bool k') s:=by
 subst e;exact⟨.bl k,H,I,rfl,q⟩
theorem op_eq:OpR X (Vd .Eq) rEq:=by
 intro pq s σ H x y v u Q I rx ry h;obtain⟨hs,q⟩:=h;cases x with
 | non=>
   cases rx;cases y with
   | non=>cases ry;exact PySem.EqNone.eq_none_none (f8 I q (by simp))
   | bl j=>cases ry;exact PySem.EqNone.eq_none_bool (f8 I q (by simp))
   | int j=>obtain⟨t',rfl⟩:=ry;exact PySem.EqNone.eq_none_int (f8 I q (by simp))
   | str j=>obtain⟨t',rfl⟩:=ry;exact PySem.EqNone.eq_none_str (f8 I q (by simp))
   | _=>exact absurd (show false=true from hs) SH
 | bl i=>
   cases rx;cases y with
   | non=>cases ry;exact PySem.EqNone.eq_bool_none (f8 I q (by simp))
   | bl j=>cases ry;exact eq_bool (f8 I q Je)
   | str j=>obtain⟨t',rfl⟩:=ry;exact PySem.EqMixed.eq_bool_str (f8 I q (by simp))
   | _=>exact absurd (show false=true from hs) SH
 | int i=>
   obtain⟨t,rfl⟩:=rx;cases y with
   | non=>cases ry;exact PySem.EqNone.eq_int_none (f8 I q (by simp))
   | int j=>obtain⟨t',rfl⟩:=ry;exact eq_int (f8 I q Gq)
   | str j=>obtain⟨t',rfl⟩:=ry;exact PySem.EqMixed.eq_int_str (f8 I q (by simp))
   | _=>exact absurd (show false=true from hs) SH
 | str i=>
   obtain⟨t,rfl⟩:=rx;cases y with
   | non=>cases ry;exact PySem.EqNone.eq_str_none (f8 I q (by simp))
   | bl j=>cases ry;exact PySem.EqMixed.eq_str_bool (f8 I q (by simp))
   | int j=>obtain⟨t',rfl⟩:=ry;exact PySem.EqMixed.eq_str_int (f8 I q (by simp))
   | str j=>obtain⟨t',rfl⟩:=ry;exact eq_str (f8 I q Gr)
   | _=>exact absurd (show false=true from hs) SH
 | byt i=>
   obtain⟨t,rfl⟩:=rx;cases y with
   | byt j=>obtain⟨t',rfl⟩:=ry;exact PySem.W.eq_bytes (f8 I q Gs)
   | _=>exact absurd (show false=true from hs) SH
 | _=>cases y<;>exact absurd (show false=true from hs) SH
theorem op_ne:OpR X (Vd .NotEq) rNe:=by
 intro pq s σ H x y v u Q I rx ry h;obtain⟨hs,q⟩:=h;cases x with
 | non=>
   cases rx;cases y with
   | non=>cases ry;exact PySem.EqNone.ne_none_none (f8 I q (by simp))
   | bl j=>cases ry;exact PySem.EqNone.ne_none_bool (f8 I q (by simp))
   | int j=>obtain⟨t',rfl⟩:=ry;exact PySem.EqNone.ne_none_int (f8 I q (by simp))
   | str j=>obtain⟨t',rfl⟩:=ry;exact PySem.EqNone.ne_none_str (f8 I q (by simp))
   | _=>exact absurd (show false=true from hs) SH
 | bl i=>
   cases rx;cases y with
   | non=>cases ry;exact PySem.EqNone.ne_bool_none (f8 I q (by simp))
   | bl j=>cases ry;exact ne_bool (f8 I q (congrArg not Je))
   | str j=>obtain⟨t',rfl⟩:=ry;exact PySem.EqMixed.ne_bool_str (f8 I q (by simp))
   | _=>exact absurd (show false=true from hs) SH
 | int i=>
   obtain⟨t,rfl⟩:=rx;cases y with
   | non=>cases ry;exact PySem.EqNone.ne_int_none (f8 I q (by simp))
   | int j=>obtain⟨t',rfl⟩:=ry;exact ne_int (f8 I q (congrArg not Gq))
   | str j=>obtain⟨t',rfl⟩:=ry;exact PySem.EqMixed.ne_int_str (f8 I q (by simp))
   | _=>exact absurd (show false=true from hs) SH
 | str i=>
   obtain⟨t,rfl⟩:=rx;cases y with
   | non=>cases ry;exact PySem.EqNone.ne_str_none (f8 I q (by simp))
   | bl j=>cases ry;exact PySem.EqMixed.ne_str_bool (f8 I q (by simp))
   | int j=>obtain⟨t',rfl⟩:=ry;exact PySem.EqMixed.ne_str_int (f8 I q (by simp))
   | str j=>obtain⟨t',rfl⟩:=ry;exact ne_str (f8 I q (congrArg not Gr))
   | _=>exact absurd (show false=true from hs) SH
 | byt i=>
   obtain⟨t,rfl⟩:=rx;cases y with
   | byt j=>obtain⟨t',rfl⟩:=ry;exact PySem.W.ne_bytes (f8 I q (congrArg not Gs))
   | _=>exact absurd (show false=true from hs) SH
 | _=>cases y<;>exact absurd (show false=true from hs) SH
theorem QR:OpR X (Vd .Lt) (rI0 λi j => .bl (decide (i<j))):=MF λ_ _ _ _ _ _ _ q=>lt_int q
theorem QS:OpR X (Vd .LtE) (rI0 λi j => .bl (decide (i<=j))):=MF λ_ _ _ _ _ _ _ q=>le_int q
theorem QT:OpR X (Vd .Gt) (rI0 λi j => .bl (decide (j<i))):=MF λ_ _ _ _ _ _ _ q=>gt_int q
theorem QU:OpR X (Vd .GtE) (rI0 λi j => .bl (decide (j<=i))):=MF λ_ _ _ _ _ _ _ q=>ge_int q
theorem Oo:OpR X (Vd .Is) (λx y H Q=>y = .non/\Q (.bl (decide (x = .non))) H):=by
 intro pq s σ H x y v u Q I rx ry h;obtain⟨rfl,q⟩:=h;cases ry;refine is_none_gen (f8 I q ?_)
 cases x<;>first
  | (cases rx;rfl)
  | (obtain⟨t,rfl⟩:=rx;rfl)
theorem op_notN:OpR X (Vd .IsNot) (λx y H Q=>y = .non/\Q (.bl (!decide (x = .non))) H):=by
 intro pq s σ H x y v u Q I rx ry h;obtain⟨rfl,q⟩:=h;cases ry;refine isnot_none_gen (f8 I q ?_)
 cases x<;>first
  | (cases rx;rfl)
  | (obtain⟨t,rfl⟩:=rx;rfl)
theorem OpR.or{f:VS->VS->Sem VS}{r r':R2}(h:OpR X f r)(h':OpR X f r'):OpR X f (λx y H Q=>r x y H Q\/r' x y H Q):=by
 intro pq s σ H x y v u Q I rx ry q;rcases q with q | q
 ·exact h pq s σ H x y v u Q I rx ry q
 ·exact h' pq s σ H x y v u Q I rx ry q
theorem Gv{op:CmpOp}{r:R2}(ho:OpR X (Vd op) r)(ha:PE X a ta)(hb:PE X b tb)(hm:Wz op b=false):PE X (.Compare a [op] [b] pos) (tOp r ta tb):=by
 intro pq s σ H Q I h;exact wpAny_Compare1 (Og ha hb I h λv u s2 x y H2 I2 rx ry q=>ho pq s2 σ H2 x y v u Q I2 rx ry q) hm
noncomputable def Nt(t:TE):TT:=λσ H Q=>t σ H λx H'=>∃ k,x = .bl k/\Q k H'
theorem Gx{op:CmpOp}{r:R2}(ho:OpR X (Vd op) r)(ha:PE X a ta)(hb:PE X b tb)(hm:Wz op b=false):PT X (.Compare a [op] [b] pos) (Nt (tOp r ta tb)):=by
 intro pq s σ H Q I h
 refine wpAny_isTrue_Compare1 (thn (ha pq s σ H _ I h) λv s1 ⟨x,H1,I1,r1,q1⟩=>thn (hb pq s1 σ H1 _ I1 q1) λu s2 ⟨y,H2,I2,r2,q2⟩=>
  thn (ho pq s2 σ H2 x y v u _ I2 r1 r2 q2) λc s3 ⟨z,H3,I3,r3,k,e,q3⟩=>?_) hm
 subst e;cases r3;exact Vj ⟨H3,I3,q3⟩
noncomputable def Fe(r r':R2)(ta tb tc:TE):TE:=λσ H Q=>ta σ H λx H1=>tb σ H1 λy H2=>r x y H2 λz H3=>∃ k,z = .bl k/\
 (if k=true then tc σ H3 λw' H4=>r' y w' H4 Q else Q (.bl false) H3)
theorem Jf{op op':CmpOp}{r r':R2}(ho:OpR X (Vd op) r)(ho':OpR X (Vd op') r')(ha:PE X a ta)(hb:PE X b tb)(hc:PE X c tc)
 (hm:Xi [op,op'] [b,c]=false:=by with_unfolding_all rfl):PE X (.Compare a [op,op'] [b,c] pos) (Fe r r' ta tb tc):=by
 intro pq s σ H Q I h
 refine Compare_chain (thn (ha pq s σ H _ I h) λv s1 ⟨x,H1,I1,r1,q1⟩=>chain_link (thn (hb pq s1 σ H1 _ I1 q1) λu s2 ⟨y,H2,I2,r2,q2⟩=>
  thn (ho pq s2 σ H2 x y v u _ I2 r1 r2 q2) λd s3 ⟨z,H3,I3,r3,k,e,q3⟩=>?_)) hm
 subst e;cases r3;refine Vj ?_;cases k with
 | false=>exact ite_ff ⟨.bl false,H3,I3,rfl,q3⟩
 | true=>exact ite_tt (chain_last (thn (hc pq s3 σ H3 _ I3 q3) λw' s4 ⟨z',H4,I4,r4,q4⟩=>ho' pq s4 σ H4 y z' u w' Q I4 r2 r4 q4))
theorem Jg{op op':CmpOp}{r r':R2}(ho:OpR X (Vd op) r)(ho':OpR X (Vd op') r')(ha:PE X a ta)(hb:PE X b tb)(hc:PE X c tc)
 (hm:Xi [op,op'] [b,c]=false:=by with_unfolding_all rfl):PT X (.Compare a [op,op'] [b,c] pos) (Nt (Fe r r' ta tb tc)):=by
 intro pq s σ H Q I h
 refine isTrue_chain (thn (ha pq s σ H _ I h) λv s1 ⟨x,H1,I1,r1,q1⟩=>test_link (thn (hb pq s1 σ H1 _ I1 q1) λu s2 ⟨y,H2,I2,r2,q2⟩=>
  thn (ho pq s2 σ H2 x y v u _ I2 r1 r2 q2) λd s3 ⟨z,H3,I3,r3,k,e,q3⟩=>?_)) hm
 subst e;cases r3;refine Vj ?_;cases k with
 | false=>
   obtain⟨k',e',q'⟩:=q3;cases e';exact ite_ff ⟨H3,I3,q'⟩
 | true=>
   refine ite_tt (test_last (thn (hc pq s3 σ H3 _ I3 q3) λw' s4 ⟨z',H4,I4,r4,q4⟩=>thn (ho' pq s4 σ H4 y z' u w' _ I4 r2 r4 q4) λd' s5 ⟨z2,H5,I5,r5,k2,e2,q5⟩=>?_));subst e2;cases r5;exact Vj ⟨H5,I5,q5⟩
noncomputable def MH(K:Rz)(x:V)(H:Hp)(k:Bool):Prop:=
 match x with
 | .non=>k=false
 | .bl b=>k=b
 | .int i=>k=(i != 0)
 | .str y=>y.length<=VW/\k=((y.length:Int) != 0)
 | .byt y=>y.size<=VW/\k=((y.size:Int) != 0)
 | .ref p=>(∃ xs,SqL K H p xs/\k=!xs.isEmpty)\/(∃ xs,SqT K H p xs/\k=!xs.isEmpty)\/∃ kvs,H p=some (.dK kvs)/\k=!kvs.isEmpty
 | _=>False
theorem Ff{κ:Type}{kvs:List (κ×V)}{vs:List (κ×VS)}(r:KV kvs vs):(!vs.isEmpty)=!kvs.isEmpty:=by
 cases r<;>rfl
theorem CH{xs:List V}{its:List VS}(r:Vals xs its):(!its.toArray.isEmpty)=!xs.isEmpty:=by
 cases r<;>simp
theorem Bi:(VW:Nat)<2 ^ 63:=by rw[Ws];decide
theorem Op:Re X (λx H Q=>∃ k,MH X.K x H k/\Q k H):=by
 intro pq s σ H x v Q I rx h;obtain⟨k,e,q⟩:=h;have hl:=Bi;have hs:VW=16777216:=Ws;cases x with
 | non=>
   cases rx;have e':k=false:=e;subst e';exact truthy_none ⟨H,I,q⟩
 | bl b=>
   cases rx;have e':k=b:=e;subst e';exact Vj ⟨H,I,q⟩
 | int i=>
   obtain⟨t,rfl⟩:=rx;have e':k=(i != 0):=e;subst e';exact PySem.P.truthy_int ⟨H,I,q⟩
 | str y=>
   obtain⟨t,rfl⟩:=rx;obtain⟨hy,e'⟩:y.length<=VW/\k=((y.length:Int) != 0):=e;subst e';exact PySem.P.truthy_str (by omega) ⟨H,I.tok _,q⟩
 | byt y=>
   obtain⟨t,rfl⟩:=rx;obtain⟨hy,e'⟩:y.size<=VW/\k=((y.size:Int) != 0):=e;subst e';exact PySem.W.truthy_bytes (by omega) ⟨H,I.tok _,q⟩
 | ref p=>
   cases rx;have e':(∃ xs,SqL X.K H p xs/\k=!xs.isEmpty)\/(∃ xs,SqT X.K H p xs/\k=!xs.isEmpty)\/∃ kvs,H p=some (.dK kvs)/\k=!kvs.isEmpty:=e;rcases e' with⟨xs,hx,e'⟩ | ⟨xs,hx,e'⟩ | ⟨kvs,hx,e'⟩
   ·subst e';obtain⟨its,r,pl,hz⟩:=I.list hx;have hlen:=r.length;exact wpAny_truthy_list pl.isList (by simp only[SF];omega) ⟨H,I.tok _,by rw[CH r];exact q⟩
   ·subst e';obtain⟨its,r,pl,hz⟩:=I.tuple hx;have hlen:=r.length;exact truthy_tuple pl (by simp only[SF];omega) ⟨H,I.tok _,by rw[CH r];exact q⟩
   ·subst e';obtain⟨hz,hS,vs,r,m⟩:kvs.length<=VW/\(p == Vo)=false/\∃ vs,KV kvs vs/\s.heap.DictOf (g6 X.prog X.w) p vs:=I.hok p _ hx;have hlen:kvs.length=vs.length:=Paired.length r;exact wpAny_truthy_dict hS m (by omega) ⟨H,I.tok _,by rw[Ff r];exact q⟩
 | _=>exact(show False from e).elim
theorem Jh(ha:PE X a ta)(he:∀ whole,isTrue a X.env whole=(do let v <- whole;standAt a.pos;holding [v] (truthy v))):
 PT X a (λσ H Q=>ta σ H λx H'=>∃ k,MH X.K x H' k/\Q k H'):=by
 intro pq s σ H Q I h;exact isTrue_plain (thn (ha pq s σ H _ I h) λv s1 ⟨x,H1,I1,r1,q1⟩=>Op pq s1 σ H1 x v Q I1 r1 q1) (he _)
theorem Fg:OpR X (Vq .Add) (λx y H Q=>∃ i j,x = .str i/\y = .str j/\i.length+j.length<=VW/\Q (.str (i++j)) H):=by
 intro pq s σ H x y v u Q I rx ry h;obtain⟨i,j,rfl,rfl,hz,q⟩:=h;obtain⟨t,rfl⟩:=rx;obtain⟨t',rfl⟩:=ry;exact add_str (λt' tk=>⟨.str (i++j),H,I.tok _,⟨_,rfl⟩,q⟩) hz
theorem AZ{x:V}{us:List VS}(r:Vals [x] us):∃ u,us=[u]/\RelV x u:=by
 cases r with
 | cons r1 r2=>cases r2;exact⟨_,rfl,r1⟩
theorem Ji{x y:V}{us:List VS}(r:Vals [x,y] us):∃ u w',us=[u,w']/\RelV x u/\RelV y w':=by
 cases r with
 | cons r1 r2=>
   cases r2 with
   | cons r3 r4=>cases r4;exact⟨_,_,rfl,r1,r3⟩
theorem Jj:CallR X (.builtin "abs") (λxs H Q=>∃ i,xs=[.int i]/\Q (.int (if i<0 then -i else i)) H):=by
 intro pq s σ H xs us Q I r h;obtain⟨i,rfl,q⟩:=h;obtain⟨u,rfl,t,rfl⟩:=AZ r;exact call_abs_int λu tk=>⟨.int (if i<0 then -i else i),H,I.tok _,⟨_,rfl⟩,q⟩
theorem IO(hc:X.calm=true):CallR X (.builtin "max") (λxs H Q=>∃ i j,xs=[.int i,.int j]/\Q (.int (if j>i then j else i)) H):=by
 intro pq s σ H xs us Q I r h;obtain⟨i,j,rfl,q⟩:=h;obtain⟨u,w',rfl,⟨t,rfl⟩,⟨t',rfl⟩⟩:=Ji r;refine max_two_ints (I.ok.hd hc) λh' tk k=>⟨_,H,I.kept k,?_,q⟩
 by_cases hj:j>i
 ·rw[iP hj,iP hj];exact⟨_,rfl⟩
 ·rw[iG hj,iG hj];exact⟨_,rfl⟩
theorem IP(hc:X.calm=true):CallR X (.builtin "min") (λxs H Q=>∃ i j,xs=[.int i,.int j]/\Q (.int (if j<i then j else i)) H):=by
 intro pq s σ H xs us Q I r h;obtain⟨i,j,rfl,q⟩:=h;obtain⟨u,w',rfl,⟨t,rfl⟩,⟨t',rfl⟩⟩:=Ji r;refine min_two_ints (I.ok.hd hc) λh' tk k=>⟨_,H,I.kept k,?_,q⟩
 by_cases hj:j<i
 ·rw[iP hj,iP hj];exact⟨_,rfl⟩
 ·rw[iG hj,iG hj];exact⟨_,rfl⟩
theorem IQ:CallR X (.type "int") (λxs H Q=>(∃ i,xs=[.int i]/\Q (.int i) H)\/∃ k,xs=[.bl k]/\Q (.int (if k then 1 else 0)) H):=by
 intro pq s σ H xs us Q I r h;rcases h with⟨i,rfl,q⟩ | ⟨k,rfl,q⟩
 ·obtain⟨u,rfl,t,rfl⟩:=AZ r;exact call_int_int ⟨.int i,H,I,⟨_,rfl⟩,q⟩
 ·obtain⟨u,rfl,r1⟩:=AZ r;cases r1;exact call_int_bool ⟨.int (if k then 1 else 0),H,I.tok _,⟨_,rfl⟩,q⟩
end
structure ObjM(h:Heap)(x dx C:VU)(mA:Str->Option VS):Prop where
 obj:h.get? x=some (PySem.W.instObj C dx)
 ns:h.Ns1 dx mA
 ne:dx≠x
theorem IR{h:Heap}{dx:VU}{mA:Str->Option VS}(n:h.Ns1 dx mA):∃ od,h.get? dx=some od/\∀ name,PySem.W.lookIn name od=some (mA name):=by
 obtain⟨o,es,ep,ho,hd,hk,_,hm⟩:=n;refine⟨o,ho,λname=>?_⟩;have e:=hm name;unfold nsFind findBy at e;rw[<-Array.find?_toList]at e;unfold PySem.W.lookIn;rw[hd];dsimp only;split
 ·rename_i y q;rw[q]at e;exact congrArg some e
 ·rename_i q;rw[q]at e
  have a:es.toList.any (·.refKey)=false:=by
   rw[List.any_eq_false];intro y hy;obtain⟨z,t,hkey⟩:=hk y (Array.mem_toList_iff.mp hy);simp[DictEntry.refKey,hkey]
  have a':¬ es.toList.any (·.refKey)=true:=by rw[a];exact SH
  rw[iG a'];exact congrArg some e
theorem ObjM.look{h:Heap}{x dx C:VU}{mA:Str->Option VS}(I:ObjM h x dx C mA):∃ od,PySem.W.InstAt h x (PySem.W.instObj C dx) C (some od)/\∀ name,PySem.W.lookIn name od=some (mA name):=
 let ⟨od,ho,hl⟩:=IR I.ns
 ⟨od,⟨I.obj,rfl,rfl,ho⟩,hl⟩
theorem RelO.some_of{v:V}{o:Option VS}(r:RelO (some v) o):∃ u,o=some u/\RelV v u:=by
 cases o with
 | none=>exact(show False from r).elim
 | some u=>exact⟨u,rfl,r⟩
section
variable{P:VZ}{w:Vc}{H H':Hp}{h h':Heap}{a C dx:VU}{fs fs':List (Str×V)}
theorem Gy(hok:HOk P w H h)(e:H a=some (.ins C dx fs)):∃ mA,ObjM h a dx C mA/\(∀ f,RelO (fs.lookup f) (mA f))/\PySem.Within mA (fs.map (·.1))/\fs.length<=1000/\H dx=some (.own a):=by
 obtain⟨d,z,ne,ob,mA,n,r,q⟩:=(show ObjOk P w H h a (.ins C dx fs) from hok a _ e)
 exact⟨mA,⟨ob,n,ne⟩,r,q,z,d⟩
end
structure Cls(K:Rz)(C:VU):Prop where
 pg:PySem.W.plainGet K C Str.empty=true
 hd:PySem.W.hasDictIn K C=true
 po:PySem.W.plainOver K C=true
 sa:PySem.W.findIn K (.ref C) "__setattr__"=some (some (.builtin "object.__setattr__"))
theorem Cls.get{K:Rz}{C:VU}(c:Cls K C)(f:Str):PySem.W.plainGet K C f=true:=c.pg
section
variable{X:Cx}{pq:List (VU×Obj)}{σ:St}{H:Hp}{s:VT}{A:Vf}{E:VS->VT->Prop}{Q:VS->VT->Prop}{c:VS}{b:Bool}
inductive TyOf(K:Rz)(H:Hp):V->VS->Prop where
 | non:TyOf K H .non (.type "NoneType")
 | bl (x:Bool):TyOf K H (.bl x) (.type "bool")
 | int (i:Int):TyOf K H (.int i) (.type "int")
 | str (x:Str):TyOf K H (.str x) (.type "str")
 | flt (x:UInt64):TyOf K H (.flt x) (.type "float")
 | lst {a:VU} {xs:List V} (e:H a=some (.lst xs)):TyOf K H (.ref a) (.type "list")
 | frz {a:VU} {o:Obj} {xs:List V} (e:H a=some (.frz o (.lst xs))):TyOf K H (.ref a) (.type "list")
 | tup {a:VU} {xs:List V} (e:H a=some (.tup xs)):TyOf K H (.ref a) (.type "tuple")
 | dK {a:VU} {kvs:List (Key×V)} (e:H a=some (.dK kvs)):TyOf K H (.ref a) (.type "dict")
 | dT {a:VU} {kvs:List (List Key×V)} (e:H a=some (.dT kvs)):TyOf K H (.ref a) (.type "dict")
 | ins {a C dx:VU} {fs:List (Str×V)} (e:H a=some (.ins C dx fs)) (cl:Cls K C) (ha:PySem.W.findIn K (.ref C) "__class__"=some (some (.builtin "object.__class__")))
    (hn:PySem.W.specialIn K (.builtin "object.__class__") "__get__"=some (some (.builtin "getset_descriptor.__get__"))) (htk:PySem.W.takesIn K (.builtin "object.__class__")=some true)
    (hm:PySem.W.mroIn K C (.type "object")=some true):TyOf K H (.ref a) (.ref C)
theorem IS{x:V}{u t:VS}(I:Inv X pq σ H s)(rx:RelV x u)(ty:TyOf X.K H x t)(e:PySem.W.kitOne X.K t c=some b)(h:∀ tk,Q (.bool b) {s with toks:=tk}):
 VX (VY X.prog X.w) A (call (.builtin "isinstance") [u,c]) Q E s:=by
 cases ty with
 | non=>cases(show u=Value.none from rx);exact PySem.W.kia_one PySem.W.kitx_none I.kIn True.intro e (λz=>nomatch z) h
 | bl y=>cases(show u=Value.bool y from rx);exact PySem.W.kia_one PySem.W.kitx_bool I.kIn True.intro e (λz=>nomatch z) h
 | int i=>obtain⟨t,q⟩:=(show ∃ t,u=Value.int i t from rx);cases q;exact PySem.W.kia_one PySem.W.kitx_int I.kIn True.intro e (λz=>nomatch z) h
 | str y=>obtain⟨t,q⟩:=(show ∃ t,u=Value.str y t from rx);cases q;exact PySem.W.kia_one PySem.W.kitx_str I.kIn True.intro e (λz=>nomatch z) h
 | flt y=>obtain⟨t,q⟩:=(show ∃ t,u=Value.float y t from rx);cases q;exact PySem.W.kia_one PySem.W.kitx_float I.kIn True.intro e (λz=>nomatch z) h
 | @lst a xs ea=>
   cases(show u=Value.ref a from rx);obtain⟨_,_,n,_,h1⟩:=(show ObjOk X.prog X.w H s.heap a (.lst xs) from I.hok a _ ea)
   exact PySem.W.kia_one PySem.W.kitx_list I.kIn ⟨_,h1,rfl⟩ e (λz=>nomatch z) h
 | @frz a ob xs ea=>
   cases(show u=Value.ref a from rx);obtain⟨_,_,_,n,_,h1⟩:=(show ObjOk X.prog X.w H s.heap a (.frz ob (.lst xs)) from I.hok a _ ea)
   exact PySem.W.kia_one PySem.W.kitx_list I.kIn ⟨_,h1,rfl⟩ e (λz=>nomatch z) h
 | @tup a xs ea=>
   cases(show u=Value.ref a from rx);obtain⟨_,_,_,p⟩:=(show ObjOk X.prog X.w H s.heap a (.tup xs) from I.hok a _ ea)
   obtain⟨o,h1,h2,_⟩:=p;exact PySem.W.kia_one PySem.W.kitx_tuple I.kIn ⟨o,h1,h2⟩ e (λz=>nomatch z) h
 | @dK a kvs ea=>
   cases(show u=Value.ref a from rx);obtain⟨_,_,vs,_,p⟩:=(show ObjOk X.prog X.w H s.heap a (.dK kvs) from I.hok a _ ea)
   obtain⟨o,es,ep,h1,h2,_⟩:=p;exact PySem.W.kia_one PySem.W.kitx_dict I.kIn ⟨o,h1,h2.1⟩ e (λz=>nomatch z) h
 | @dT a kvs ea=>
   cases(show u=Value.ref a from rx);obtain⟨_,_,xs,_,o,es,ep,h1,h2,_⟩:=(show ObjOk X.prog X.w H s.heap a (.dT kvs) from I.hok a _ ea)
   exact PySem.W.kia_one PySem.W.kitx_dict I.kIn ⟨o,h1,h2.1⟩ e (λz=>nomatch z) h
 | @ins a C dx fs ea cl ha hn htk hm=>
   cases(show u=Value.ref a from rx);obtain⟨mA,O,_⟩:=Gy I.hok ea;obtain⟨od,J,_⟩:=O.look;exact PySem.W.kia_one (PySem.W.kitx_own (cl.get _) cl.hd ha hn htk hm) I.kIn J e (λz=>nomatch z) h
end
structure Room(k:Nat)(A:Vf):Prop where
 hd:A.handled=none
 dp:A.depth+3 * k+5<Xa
 un:A.units+16 * k+200<cLine
 gd:A.guards=some []
theorem Room.deeper{k:Nat}{A:Vf}(r:Room (k+1) A)(env:Env):Room k (A.deeper env):=
 ⟨r.hd,by have:=r.dp;show A.depth+1+3 * k+5<_;omega,by have:=r.un;show A.units+3+16 * k+200<_;omega,r.gd⟩
theorem Room.depth{k:Nat}{A:Vf}(r:Room k A):A.depth<Xa:=by have:=r.dp;omega
noncomputable def QV:TA:=λ_ H Q=>Q [] H
noncomputable def Gz(ta:TE)(tr:TA):TA:=λσ H Q=>ta σ H λx H1=>tr σ H1 λxs H2=>Q (x::xs) H2
section
variable{X:Cx}{e:Expr}{es:List Expr}{te:TE}{t:TA}{pos:Pos}
theorem AT:PA X [] QV:=λ_ _ _ _ H Q I h=>Calls.spliced_nil ⟨[],H,I,.nil,h⟩
theorem o9(ha:PE X e te)(hr:PA X es t)(hs:Vg (e::es) X.env=(false,eval e X.env)::Vg es X.env:=by rfl):PA X (e::es) (Gz te t):=by
 intro pos pq s σ H Q I h;rw[hs];show VX _ _ (spliced ((false,eval e X.env)::backTo pos (Vg es X.env))) _ _ s;refine Calls.spliced_cons (thn (ha pq s σ H _ I h) λu s1 ⟨x,H1,I1,r1,q1⟩=>?_);exact thn (hr pos pq s1 σ H1 _ I1 q1) λus s2 ⟨xs,H2,I2,r2,q2⟩=>⟨x::xs,H2,I2,.cons r1 r2,q2⟩
noncomputable def QW(t:TA):TE:=λσ H Q=>t σ H λxs H1=>xs.length<=VW/\∀ p,H1 p=none->Q (.ref p) (upd H1 p (.tup xs))
noncomputable def QX(t:TA):TE:=λσ H Q=>t σ H λxs H1=>xs.length<=VW/\∀ p,H1 p=none->Q (.ref p) (upd H1 p (.lst xs))
theorem Oq{x1}(h:PA X es t):PE X (.Tuple es x1 pos) (QW t):=by
 intro pq s σ H Q I hq;refine wpAny_Tuple_spliced (thn (h pos pq s σ H _ I hq) λus s1 ⟨xs,H1,I1,r,z,q⟩=>⟨by rw[<-r.length];exact z,?_⟩);have hf:H1 s1.heap.objs.size=none:=I1.hok.fresh (SK _);refine⟨.ref s1.heap.objs.size,upd H1 s1.heap.objs.size (.tup xs),I1.laid (t':=s1.toks) (λb u e=>SD _ e) (SK _) ?_,rfl,q _ hf⟩;exact⟨z,us,r,⟨_,SW _ rfl,rfl,_,rfl⟩⟩
theorem Os(h:PA X es t):PE X (.List es pos) (QX t):=by
 intro pq s σ H Q I hq;refine wpAny_List_spliced (thn (h pos pq s σ H _ I hq) λus s1 ⟨xs,H1,I1,r,z,q⟩=>⟨by rw[<-r.length];exact z,?_⟩);have hf:H1 s1.heap.objs.size=none:=I1.hok.fresh (SK _);refine⟨.ref s1.heap.objs.size,upd H1 s1.heap.objs.size (.lst xs),I1.laid (t':=s1.toks) (λb u e=>SD _ e) (SK _) ?_,rfl,q _ hf⟩;exact⟨z,us,0,r,SW _ rfl⟩
end
noncomputable abbrev Sp:=List V->Hp->VK->XK->Prop
noncomputable abbrev CXT:=List Env->Hp->VT->XK->VS->VT->Prop
structure Env0(P:VZ)(w:Vc)(K:Rz)(mg:Str->Option VS)(base:Heap)(A:Vf)(outer:List Env)(s:VT)(H:Hp):Prop where
 frames:A.frames=some outer
 mod:Mod K mg base
 bs:∀ b o,base.get? b=some o->s.heap.get? b=some o/\H b=none
 bsz:base.objs.size<=s.heap.objs.size
 funs:s.heap.FunFrames base outer
 frf:∀ b∈frs outer,H b=none
 hok:HOk P w H s.heap
 bare:AllBare s.gens
noncomputable def CE(outer:List Env)(P:VZ)(w:Vc)(H:Hp)(s:VT)(Q:VK)(u:VS)(s':VT):Prop:=
 ∃ v H',s'.os=s.os/\AllBare s'.gens/\Un (frs outer) [] H H' s.heap s'.heap/\HOk P w H' s'.heap/\RelV v u/\Q v H'
noncomputable def CR(CX:CXT)(outer:List Env)(P:VZ)(w:Vc)(H:Hp)(s:VT)(Q:VK)(E:XK)(r:Result)(s':VT):Prop:=
 match r with
 | .ok (.ret u)=>CE outer P w H s Q u s'
 | .ok _=>False
 | .error e=>CX outer H s E e s'
structure FnOk(P:VZ)(w:Vc)(K:Rz)(mg:Str->Option VS)(base:Heap)(CX:CXT)(k:Nat)(f:VU)(fd:W4)(ps:List Str)(sp:Sp):Prop where
 len:∀ vs H Q E,sp vs H Q E->vs.length=ps.length
 run:∀(A:Vf) (outer:List Env) (s:VT) (H:Hp) (args:Args) (us:List VS) (vs:List V) (Q:VK) (E:XK),Room k A->Env0 P w K mg base A outer s H->BindsTo s fd args (ps.zip us)->Vals vs us->sp vs H Q E->
  codeAny (VY P w) A (.call (.ref f) args) (CR CX outer P w H s Q E) s
section
variable{X:Cx}{pq:List (VU×Obj)}{σ:St}{H:Hp}{s s':VT}
theorem Inv.env0(I:Inv X pq σ H s):Env0 X.prog X.w X.K X.mg X.base X.A X.stack s H:=
 ⟨I.ok.frames,I.ok.mod,I.bs,Sj I.ok.bsz I.sz,I.stack,I.stkFree,I.hok,I.bare⟩
theorem Inv.after{Q:VK}{u:VS}(I:Inv X pq σ H s)(h:CE X.stack X.prog X.w H s Q u s'):EP X pq σ Q u s':=by
 obtain⟨v,H',os,bare,un,hok,r,q⟩:=h;obtain⟨hh,g,d,t,os'⟩:=s';obtain rfl:os'=s.os:=os;exact⟨v,H',I.call (h':=hh) (g':=g) (d':=d) (t':=t) (ch:=[]) un hok bare (λb z=>absurd z (by simp)),r,q⟩
end
noncomputable def Nu(sp:Sp)(dvs:List V)(E:XK)(t:TA):TE:=λσ H Q=>t σ H λvs H1=>sp (vs++dvs) H1 Q E
noncomputable def Binds(K:Rz)(fd:W4)(ps:List Str)(ds:List VS):Prop:=
 ∀(s:VT) (us:List VS),K.In s.heap->(us++ds).length=ps.length->BindsTo s fd ⟨us,[]⟩ (ps.zip (us++ds))
theorem Binds.all{K:Rz}{fd:W4}{ps:List Str}(h:∀ us:List VS,us.length=ps.length->bindArgs fd ⟨us,[]⟩=pure (ps.zip us)):Binds K fd ps []:=λs us _ hl=>by
 rw[Su]at hl ⊢;exact .of_eq (h us hl)
noncomputable def Fh(CX:CXT)(X:Cx)(E:XK):Prop:=∀(pq:List (VU×Obj)) (σ:St) (H:Hp) (s:VT) (e:VS) (s':VT),Inv X pq σ H s->CX X.stack H s E e s'->X.xe e s'
section
variable{X:Cx}{CX:CXT}{k:Nat}{f C:VU}{fd:W4}{ps:List Str}{sp:Sp}{dvs:List V}{ds:List VS}{E:XK}{x m:Str}{p pos apos:Pos}{e o:Expr}{es:List Expr}{ta:TE}{t:TA}
theorem Ot{pq:List (VU×Obj)}{σ:St}{H:Hp}{s:VT}{Q:VK}{us:List VS}{vs:List V}(F:FnOk X.prog X.w X.K X.mg X.base CX k f fd ps sp)(hr:Room k X.A)(hb:Binds X.K fd ps ds)(hd:Vals dvs ds)(hx:Fh CX X E)
 (I:Inv X pq σ H s) (r:Vals vs us) (h:sp (vs++dvs) H Q E):VX (VY X.prog X.w) X.A (call (.ref f) us) (EP X pq σ Q) X.xe s:=by
 have r2:Vals (vs++dvs) (us++ds):=r.append hd;have hl:(us++ds).length=ps.length:=by rw[<-r2.length];exact F.len _ _ _ _ h
 refine wpAny_call (XC (F.run X.A X.stack s H ⟨us,[]⟩ (us++ds) (vs++dvs) Q E hr I.env0 (hb s us I.kIn hl) r2 h) λr s' hq=>?_);cases r with
 | error e=>exact hx pq σ H s e s' I hq
 | ok fl=>
   cases fl with
   | ret u=>exact I.after hq
   | next=>exact False.elim hq
   | brk=>exact False.elim hq
   | cont=>exact False.elim hq
theorem MI(F:FnOk X.prog X.w X.K X.mg X.base CX k f fd ps sp)(hr:Room k X.A)(hg:Gl X x)(hm:X.mg x=some (.ref f))(hk:PySem.W.keepIn X.K (.ref f)=true)(hb:Binds X.K fd ps ds)(hd:Vals dvs ds)(hx:Fh CX X E)
 (ha:PA X (e::es) t) (hdb:(x == ("__debug__":Str))=false:=by decide) (he:Vg (e::es) X.env=(false,eval e X.env)::Vg es X.env:=by rfl) (hpl:(backTo pos (Vg es X.env)).any (·.1)=false:=by rfl):
 PE X (.Call (.Name x p) (e::es) [] pos) (Nu sp dvs E t):=by
 intro pq s σ H Q I h;refine WU (M8 I hg hm ?_ hdb);refine PySem.W.callWith_K (h₀:=X.base) I.ok.mod.kin hk (thn (ha pos pq s σ H _ I h) λus s1 ⟨vs,H1,I1,r,q⟩=>⟨I1.kIn,?_⟩) he hpl;exact Ot F hr hb hd hx I1 r q
end
structure FnScope(N P:List Str)(sc:Ve):Prop where
 kind:sc.kind = .function
 co:sc.isCoroutine=false
 gen:sc.isGenerator=false
 nd:N.Nodup
 pre:N.take P.length=P
 par:∀ x∈P,sc.names.lookup x=some .local\/sc.names.lookup x=some .cell
 nofree:∀ y∈sc.names,y.2 ≠ .free
theorem D9{kindOf:Str->Option Vr}{x:Str}:∀{binds:List (Str×VS)} {m:Str->Option VS},(∀ v,(x,v)∉binds)->bindL kindOf binds m x=m x
 | [],_,_=>rfl
 | (n,v)::r,m,h=>by
   unfold bindL;rw[D9 λw hw=>h w (SG _ hw)];split
   ·have:x≠n:=by rintro rfl;exact h v SI
    simp[this]
   ·rfl
theorem DA{kindOf:Str->Option Vr}{x:Str}:∀{binds:List (Str×VS)} {m:Str->Option VS},(∀ v,(x,v)∉binds)->bindC kindOf binds m x=m x
 | [],_,_=>rfl
 | (n,v)::r,m,h=>by
   unfold bindC;rw[DA λw hw=>h w (SG _ hw)];split
   ·rfl
   ·have:x≠n:=by rintro rfl;exact h v SI
    simp[this]
theorem DB{kindOf:Str->Option Vr}{x:Str}{v:VS}:∀{P:List Str} {vs:List VS} {i:Nat} {m:Str->Option VS},P.Nodup->P[i]?=some x->vs[i]?=some v->kindOf x=some .local->
 bindL kindOf (P.zip vs) m x=some v
 | [],_,_,_,_,h,_,_=>by simp at h
 | _::_,[],_,_,_,_,h,_=>by simp at h
 | p::P,w::vs,0,m,nd,h1,h2,hk=>by
   simp at h1 h2;subst h1;subst h2;show bindL kindOf ((p,w)::P.zip vs) m p=_;unfold bindL;rw[D9 λv hv=>(TK.mp nd).1 (Tq hv).1,iP hk];simp
 | p::P,w::vs,i+1,m,nd,h1,h2,hk=>by
   show bindL kindOf ((p,w)::P.zip vs) m x=_;unfold bindL;exact DB (i:=i) (TK.mp nd).2 (by simpa using h1) (by simpa using h2) hk
theorem DC{kindOf:Str->Option Vr}{x:Str}{v:VS}:∀{P:List Str} {vs:List VS} {i:Nat} {m:Str->Option VS},P.Nodup->P[i]?=some x->vs[i]?=some v->kindOf x≠some .local->
 bindC kindOf (P.zip vs) m x=some v
 | [],_,_,_,_,h,_,_=>by simp at h
 | _::_,[],_,_,_,_,h,_=>by simp at h
 | p::P,w::vs,0,m,nd,h1,h2,hk=>by
   simp at h1 h2;subst h1;subst h2;show bindC kindOf ((p,w)::P.zip vs) m p=_;unfold bindC;rw[DA λv hv=>(TK.mp nd).1 (Tq hv).1,iG hk];simp
 | p::P,w::vs,i+1,m,nd,h1,h2,hk=>by
   show bindC kindOf ((p,w)::P.zip vs) m x=_;unfold bindC;exact DC (i:=i) (TK.mp nd).2 (by simpa using h1) (by simpa using h2) hk
noncomputable def start(N:List Str)(vs:List V):St:=vs.map some++SJ (N.length - vs.length) none
noncomputable def Fi(CX:CXT)(P:VZ)(w:Vc)(K:Rz)(mg:Str->Option VS)(base:Heap)(N:List Str)(qual:Str)(scope:Ve)(f:VU)(cd:VS)(A:Vf)(outer:List Env)(s:VT)(H:Hp)(E:XK):Cx where
 prog:=P
 w:=w
 K:=K
 mg:=mg
 base:=base
 A:=A.deeper (envOfC qual scope s.heap.objs.size f cd)
 N:=N
 s₀:=s
 H₀:=H
 env:=envOfC qual scope s.heap.objs.size f cd
 outer:=outer
 stack:=envOfC qual scope s.heap.objs.size f cd::outer
 ex:=[]
 calm:=true
 fn:=λ_=>true
 pn:=[]
 xe:=λe s'=>VX (VY P w) (A.deeper (envOfC qual scope s.heap.objs.size f cd)) (leaving (envOfC qual scope s.heap.objs.size f cd) e) (λ_ s''=>CX outer H s E e s'') (λe' s''=>CX outer H s E e' s'') s'
theorem EK{sc:Ve}{n:Nat}{x:Str}(h:sc.names.lookup x=some .cell):∃ c,(Vt n sc.names []).lookup x=some c:=by
 have q:=PySem.W.cellsFrom_some sc.names n [] (.inl h);exact Td.mp q
theorem IT{CX:CXT}{P:VZ}{w:Vc}{K:Rz}{mg:Str->Option VS}{base:Heap}{N ps:List Str}{qual:Str}{scope:Ve}{f:VU}{cd:VS}{A:Vf}{outer:List Env}{s s1:VT}{H:Hp}{E:XK}{us:List VS}{vs:List V}
 (S:FnScope N ps scope) (hd:A.handled=none) (e0:Env0 P w K mg base A outer s H) (hl:vs.length=ps.length) (r:Vals vs us)
 (x:InCallC s s.heap.objs.size (bindL (envOfC qual scope s.heap.objs.size f cd).kindOf (ps.zip us) λ_=>none) (Vt (s.heap.objs.size+1) scope.names []) (bindC (envOfC qual scope s.heap.objs.size f cd).kindOf (ps.zip us) λ_=>none) s1):
 Inv (Fi CX P w K mg base N qual scope f cd A outer s H E) [] (start N vs) H s1:=by
 have hpl:ps.length<=N.length:=by have:=congrArg UC S.pre;rw[Sv]at this;omega
 obtain⟨h1,tk,rfl,hk⟩:=x.done;have noA:∀ b:VU,b∉(Fi CX P w K mg base N qual scope f cd A outer s H E).ex:=λb z=>absurd (show b∈([]:List VU) from z) (by simp)
 refine⟨⟨e0.mod,S.kind,rfl,rfl,SK _,λy z c h1 h2=>?_,λy hy=>?_,λy c _ h=>?_,λ_=>hd,Around.frames_deeper e0.frames,.inr ⟨rfl,rfl⟩,λb z=>absurd z (noA b),e0.bs,e0.bsz,λb _ _=>noA b,λb z=>absurd z (noA b),e0.funs,e0.frf⟩,
  rfl,e0.bare,Un.kept hk,⟨_,x.toInCall.ns,λi y v h1 h2 h3=>?_⟩,λy c h=>⟨_,x.cell y c h⟩,e0.hok.fresh (SK _),λy c h=>?_,λp hp=>absurd (show p∈([]:List (VU×Obj)) from hp) (by simp),e0.hok.kept hk,?_⟩
 ·exact name_of_addr x.apart (PySem.mem_of_lookup h1) (PySem.mem_of_lookup h2)
 ·have hy:scope.names.lookup y=some .cell\/scope.names.lookup y=some .free:=hy;rcases hy with hy | hy
  ·exact EK hy
  ·exact absurd rfl (S.nofree _ (PySem.mem_of_lookup hy))
 ·exact Ut (x.above y c (PySem.mem_of_lookup h))
 ·have hi:i<vs.length:=by
   unfold start at h2;by_cases hi:i<vs.length
   ·exact hi
   ·rw[So (by simpa using hi)]at h2;rw[Th]at h2;split at h2<;>cases h2
  have ha:vs[i]?=some v:=by
   unfold start at h2;rw[SY (by simpa using hi),SL]at h2;cases e:vs[i]? with
   | none=>rw[e]at h2;cases h2
   | some a=>rw[e]at h2;cases h2;rfl
  obtain⟨u,hu,rv⟩:=r.get ha
  have hp:ps[i]?=some y:=by
   rw[<-S.pre,List.getElem?_take_of_lt (by omega)];exact h1
  have ndP:ps.Nodup:=by rw[<-S.pre];exact S.nd.sublist (Uu _ _)
  refine⟨u,rv,?_⟩;rcases S.par y (SB hp) with k | k
  ·exact .inl ⟨k,DB ndP hp hu k⟩
  ·obtain⟨c,e⟩:=EK (n:=s.heap.objs.size+1) k;refine .inr ⟨.inl k,c,e,?_⟩;have q:=x.cell y c e;rw[DC ndP hp hu (by show scope.names.lookup y≠_;rw[k];decide)]at q;exact q
 ·exact e0.hok.fresh (Ut (x.above y c (PySem.mem_of_lookup h)))
 ·unfold start;show _=N.length;rw[SA,S7,U2];omega
theorem QY{CX:CXT}{P:VZ}{w:Vc}{K:Rz}{mg:Str->Option VS}{base:Heap}{k:Nat}{f:VU}{name qual:Str}{params:Arguments}{body:List Stmt}{scope:Ve}{dV kV doc pm cdv ct oc:VS}{an od:Option VU}
 {osl:Array (Option VS)} {N ps:List Str} {sp:Sp} (lk:K.lookup f=some ⟨oc,od,.func (PySem.W.fnOf name qual params body scope dV kV doc pm an cdv ct),osl⟩) (hcd:PySem.W.codeIn K cdv qual=true) (S:FnScope N ps scope)
 (len:∀ vs H Q E,sp vs H Q E->vs.length=ps.length)
 (hbody:∀(A:Vf) (outer:List Env) (s:VT) (H:Hp) (vs:List V) (Q:VK) (E:XK),Room k (A.deeper (envOfC qual scope s.heap.objs.size f cdv))->sp vs H Q E->
   ∃ t,PSs (Fi CX P w K mg base N qual scope f cdv A outer s H E) body t/\t {nx:=λ_ H'=>Q .non H',rt:=Q} (start N vs) H):
 FnOk P w K mg base CX (k+1) f (PySem.W.fnOf name qual params body scope dV kV doc pm an cdv ct) ps sp:=by
 refine⟨len,λA outer s H args us vs Q E hr e0 hb r hsp=>?_⟩;have hl:=len _ _ _ _ hsp;have KX:K.In s.heap:=e0.mod.kin.keeps λb o e=>(e0.bs b o e).1;have lim:s.heap.NoLimit:=e0.mod.nolimit.keeps λb o e=>(e0.bs b o e).1
 have hkind:∀ y∈ps.zip us,scope.names.lookup y.1=some .local\/(scope.names.lookup y.1=some .cell/\((Vt (s.heap.objs.size+1) scope.names []).lookup y.1).isSome=true):=λ⟨n,v⟩ hy=>by
  rcases S.par n (Tq hy).1 with q | q
  ·exact .inl q
  ·exact .inr ⟨q,PySem.W.cellsFrom_some _ _ _ (.inl q)⟩
 refine codeAny_call_function hr.depth (KX _ _ lk) rfl S.co S.gen rfl (PySem.W.codeRec_of KX hcd) (hb _ _ _ _ ?_);refine wpAny_newFunctionEnv_cells S.kind hkind λenv he s1 x=>?_;subst he;refine⟨lim.keeps x.toInCall.keep,codeAny_func ?_⟩;obtain⟨t,ht,hq⟩:=hbody A outer s H vs Q E (hr.deeper _) hsp;have I:Inv (Fi CX P w K mg base N qual scope f cdv A outer s H E) [] (start N vs) H s1:=IT S hr.hd e0 hl r x;refine Vm (ht [] s1 (start N vs) H _ I hq) (λfl s' hs=>?_) λe s' hs=>hs
 have fin:∀{σ':St} {H':Hp} {v:V} {u:VS},Inv (Fi CX P w K mg base N qual scope f cdv A outer s H E) [] σ' H' s'->RelV v u->Q v H'->CE outer P w H s Q u s':=
  λ{σ' H' v u} J rv q=>⟨v,H',J.os,J.bare,J.base,J.hok,rv,q⟩
 cases fl with
 | ret u=>
   obtain⟨v,σ',H',J,rv,q⟩:=hs;exact fin J rv q
 | next=>
   obtain⟨σ',H',J,q⟩:=hs;exact fin (v:=V.non) (u:=Value.none) J rfl q
 | brk=>
   obtain⟨_,_,_,q⟩:=hs;exact False.elim q
 | cont=>
   obtain⟨_,_,_,q⟩:=hs;exact False.elim q
section
variable{X:Cx}{x:Str}{p pos:Pos}{e:Expr}{es:List Expr}{t:TA}{id T:String}{r:List V->Hp->VK->Prop}
noncomputable def tCB(r:List V->Hp->VK->Prop)(t:TA):TE:=λσ H Q=>t σ H λvs H1=>r vs H1 Q
theorem m6(hc:CallR X (.builtin id) r)(hg:Gl X x)(hm:X.mg x=none)(hv:Vb x=some (.builtin id))(ha:PA X (e::es) t)(hn:x≠"__name__":=by decide)(hdb:(x == ("__debug__":Str))=false:=by decide)
 (he:Vg (e::es) X.env=(false,eval e X.env)::Vg es X.env:=by rfl) (hpl:(backTo pos (Vg es X.env)).any (·.1)=false:=by rfl):PE X (.Call (.Name x p) (e::es) [] pos) (tCB r t):=by
 intro pq s σ H Q I h;refine WU (Bh I hg hm hv ?_ hn hdb);exact PyProof.Rows.callWith_builtin1 (thn (ha pos pq s σ H _ I h) λus s1 ⟨vs,H1,I1,r1,q1⟩=>hc pq s1 σ H1 vs us Q I1 r1 q1) he hpl
theorem t6(hc:CallR X (.type T) r)(hg:Gl X x)(hm:X.mg x=none)(hv:Vb x=some (.type T))(ha:PA X (e::es) t)(hn:x≠"__name__":=by decide)(hdb:(x == ("__debug__":Str))=false:=by decide)
 (he:Vg (e::es) X.env=(false,eval e X.env)::Vg es X.env:=by rfl) (hpl:(backTo pos (Vg es X.env)).any (·.1)=false:=by rfl):PE X (.Call (.Name x p) (e::es) [] pos) (tCB r t):=by
 intro pq s σ H Q I h;refine WU (Bh I hg hm hv ?_ hn hdb);exact PyProof.Rows.callWith_type1 (thn (ha pos pq s σ H _ I h) λus s1 ⟨vs,H1,I1,r1,q1⟩=>hc pq s1 σ H1 vs us Q I1 r1 q1) he hpl
end
end L2
namespace HT
open PySem PyProof.Rows
theorem rcLt_int(A:Vf)(s:VT)(a:Int)(t:Tok)(c:Int)(u:Tok)(prog:VZ)(w:Vc)(E:VS->VT->Prop)(Q:VS->VT->Prop)(h:Q (.bool (decide (a<c))) s):
 VX (VY prog w) A (XQ .Lt (.int a t) (.int c u)) Q E s:=
 (PyProof.Rows.lt_int h:VX (VY prog w) A (Vd .Lt (.int a t) (.int c u)) Q E s)
section
variable{prog:VZ}{w:Vc}{A:Vf}{E:VS->VT->Prop}{s:VT}
theorem cat_tup{t b:VU}{vs ws:List VS}{Q:VS->VT->Prop}(ht:IsTup s.heap t vs.toArray)(hb:IsTup s.heap b ws.toArray)(hv:vs≠[])
 (h1:ws=[]->Q (.ref t) s) (h2:ws≠[]->Q (.ref s.heap.objs.size) {s with heap:=s.heap.push {cls := .type "tuple",data := .seq (vs++ws).toArray}})
 (hsz:vs.length+ws.length<=VW):VX (VY prog w) A (Vq .Add (.ref t) (.ref b)) Q E s:=by
 obtain⟨⟨cls,dd,data,sl⟩,ho,hc,n,hd⟩:=id ht;obtain⟨⟨cls2,dd2,data2,sl2⟩,ho2,hc2,n2,hd2⟩:=id hb;simp only at hc hd hc2 hd2;subst hc hd hc2 hd2;have e:vs.toArray++ws.toArray=(vs++ws).toArray:=by simp
 by_cases hw:ws=[]
 ·exact XD ⟨_,ho,rfl⟩ ⟨_,ho2,rfl⟩ We X0 PySem.F.slot_tuple_add PySem.F.entry_tuple_add (PySem.F.args_tuple_add_2 _ _)
   (tuple_addW1 t b vs.toArray ws.toArray n n2 dd dd2 sl sl2 (by simpa using hv) (by simp[hw])) ⟨ho,ho2,h1 hw⟩
 ·refine XD ⟨_,ho,rfl⟩ ⟨_,ho2,rfl⟩ We X0 PySem.F.slot_tuple_add PySem.F.entry_tuple_add (PySem.F.args_tuple_add_2 _ _)
   (tuple_addW2 t b vs.toArray ws.toArray n n2 dd dd2 sl sl2 (by simpa using hv) (by simpa using hw) (by rw[SF,SF];exact hsz)) ⟨ho,ho2,?_⟩
  rw[e];exact h2 hw
noncomputable def sIx(n d:Nat):Option Int->Nat
 | none=>d
 | some v=>if v<0 then (v+(n:Int)).toNat else min v.toNat n
theorem sIx_none(n d:Nat):sIx n d none=d:=rfl
theorem sIx_nat(n d k:Nat):sIx n d (some (k:Int))=min k n:=by
 show(if (k:Int)<0 then ((k:Int)+(n:Int)).toNat else min (k:Int).toNat n)=min k n;rw[iG (by omega),U4]
theorem Ou(n d:Nat)(hd:d<=n)(o:Option Int):sIx n d o<=n:=by
 cases o with
 | none=>exact hd
 | some v=>
   show(if v<0 then (v+(n:Int)).toNat else min v.toNat n)<=n;by_cases hv:v<0
   ·rw[iP hv];omega
   ·rw[iG hv];exact Nat.min_le_right _ _
theorem HA(v:Int)(n d:Nat):(if v<0 then max (v+(n:Int)) 0 else min v (n:Int))=((sIx n d (some v):Nat):Int):=by
 show(if v<0 then max (v+(n:Int)) 0 else min v (n:Int))=(((if v<0 then (v+(n:Int)).toNat else min v.toNat n):Nat):Int)
 by_cases hv:v<0
 ·simp only[iP hv];omega
 ·simp only[iG hv];omega
theorem Fj(lo hi:Option Int)(n:Nat):Builtin.Slice.sliceAdjust lo hi 1 (n:Int)=(((sIx n 0 lo:Nat):Int),((sIx n n hi:Nat):Int)):=by
 have h1:¬ ((1:Int)<0):=by omega
 unfold Builtin.Slice.sliceAdjust;simp only[h1,if_false];refine Prod.ext ?_ ?_
 ·cases lo with
  | none=>rfl
  | some v=>exact HA v n 0
 ·cases hi with
  | none=>rfl
  | some v=>exact HA v n n
theorem Fk(i j:Nat):Builtin.Slice.slicePlaces (i:Int) (j:Int) 1=j - i:=by
 unfold Builtin.Slice.slicePlaces;have h1:(1:Int)>0:=by omega
 simp only[h1,if_true,Int.ediv_one];split<;>omega
theorem CI{v:VS}{o:Option Int}{Q:Option Int->VT->Prop}(p:IsPart v o)(h:Q o s):VX (VY prog w) A (Builtin.Slice.slicePartIndex v) Q E s:=by
 cases p with
 | none=>exact Xb h
 | int i t=>exact slicePart_int h
theorem AI{sl:VU}{vl vu:VS}{lo hi:Option Int}{n:Nat}{Q:Int×Int×Nat->VT->Prop}(hs:s.heap.IsSliceOf sl vl vu .none)(pl:IsPart vl lo)(pu:IsPart vu hi)
 (h:Q (((sIx n 0 lo:Nat):Int),1,sIx n n hi - sIx n 0 lo) s):VX (VY prog w) A (Builtin.Slice.sliceApplied (.ref sl) (pure (n:Int))) Q E s:=by
 obtain⟨os,hos,hcs,hds⟩:=id hs;unfold Builtin.Slice.sliceApplied Builtin.Slice.sliceFields;refine VR (VR (WB hos hds (x:=vl) rfl (VR (WB hos hds (x:=vu) rfl (VR (WB hos hds (x := .none) rfl (VV ?_)))))));refine VR (Xb ?_);show VX _ _ (if ((1:Int) == 0)=true then _ else _) _ _ s;rw[iG (by decide)];refine VR (CI pl (VR (CI pu (VR (VV ?_)))));show VX _ _ (match Builtin.Slice.sliceAdjust lo hi 1 (n:Int) with | (lo,hi)=>pure (lo,(1:Int),Builtin.Slice.slicePlaces lo hi 1)) _ _ s;rw[Fj lo hi n];show VX _ _ (pure (((sIx n 0 lo:Nat):Int),(1:Int),Builtin.Slice.slicePlaces ((sIx n 0 lo:Nat):Int) ((sIx n n hi:Nat):Int) 1)) _ _ s;rw[Fk];exact VV h
theorem Jk(xs:Array VS)(i k:Nat):((SE k).filterMap λ(m:Nat)=>xs[((i:Int)+(m:Int) * 1).toNat]?).toArray=((xs.toList.drop i).take k).toArray:=by
 have e:(λ(m:Nat)=>xs[((i:Int)+(m:Int) * 1).toNat]?)=λm=>xs[i+m]?:=by
  funext m
  have:((i:Int)+(m:Int) * 1).toNat=i+m:=by omega
  rw[this]
 rw[e];have:=pick_run xs i k;rw[List.filterMap_map]at this;have e2:((λx=>xs[x]?)∘λx=>i+x)=λm=>xs[i+m]?:=rfl;rw[e2]at this;rw[this]
theorem getItem_tuple_cut{t sl:VU}{items:Array VS}{vl vu:VS}{lo hi:Option Int}{Q:VS->VT->Prop}(ht:IsTup s.heap t items)(hs:s.heap.IsSliceOf sl vl vu .none)(pl:IsPart vl lo)(pu:IsPart vu hi)
 (hw:¬ (sIx items.size 0 lo=0/\sIx items.size items.size hi=items.size))
 (h:Q (.ref s.heap.objs.size) {s with heap:=s.heap.push {cls := .type "tuple",data := .seq ((items.toList.drop (sIx items.size 0 lo)).take (sIx items.size items.size hi - sIx items.size 0 lo)).toArray}})
 (hsz:items.size<=VW):VX (VY prog w) A (getItem (.ref t) (.ref sl)) Q E s:=by
 have htake:sizeOk (.seq ((items.toList.drop (sIx items.size 0 lo)).take (sIx items.size items.size hi - sIx items.size 0 lo)).toArray):=by
  show((items.toList.drop (sIx items.size 0 lo)).take (sIx items.size items.size hi - sIx items.size 0 lo)).toArray.size<=VW;rw[SF,Sv,Sw,UM];omega
 have hj:sIx items.size items.size hi<=items.size:=Ou _ _ (SK _) hi;obtain⟨os,hos,hcs,hds⟩:=id hs;have hTs:s.TypeIs (.ref sl) "slice":=⟨os,hos,hcs⟩
 unfold getItem
 try with_reducible refine Vl ?_
 first | refine VR (VV ?_) | skip
 refine VR (XE ht.typeIs (by decide) ?_)
 refine VR (Vn (name:=Str.ofString "__getitem__") ht.typeIs PyProof.Rows.slot_tuple_getitem
  (Vp PyProof.Rows.slot_tuple_getitem ht.typeIs Wx ?_ (X9 _ _)))
 show VX _ _ (Builtin.Tuple.tupleItemsOf (.ref t) >>= _) _ _ s;refine VR (tupleItemsOf_ ht ?_);refine VR (W5 hTs ?_);rw[iP (by decide)];refine VR (AI hs pl pu ?_)
 have hno:¬ ((((sIx items.size 0 lo:Nat):Int) == 0&&(1:Int) == 1&&(sIx items.size items.size hi - sIx items.size 0 lo) == items.size)=true):=by
  intro q;rw[S8,S8]at q;have q1:((sIx items.size 0 lo:Nat):Int)=0:=eq_of_beq q.1.1;have q2:sIx items.size items.size hi - sIx items.size 0 lo=items.size:=eq_of_beq q.2;exact hw ⟨by omega,by omega⟩
 show VX _ _ (if (((sIx items.size 0 lo:Nat):Int) == 0&&(1:Int) == 1&&(sIx items.size items.size hi - sIx items.size 0 lo) == items.size)=true then _ else _) _ _ s;rw[iG hno,Jk]
 first
  | exact VR (m:=Builtin.Tuple.tupleExact _) (Vh (VV ⟨_,rfl,VV h⟩) htake)
  | exact VR (m:=Builtin.Tuple.tupleExact _) (Vh (VR (VV (VV ⟨_,rfl,VV h⟩))) htake)
  | exact VR (VR (m:=Builtin.Tuple.tupleExact _) (Vh (VV (VV ⟨_,rfl,VV h⟩)) htake))
  | exact VR (VR (m:=Builtin.Tuple.tupleExact _) (Vh (VV ⟨_,rfl,VV h⟩) htake))
end
end HT
namespace L2
open PySem PySem.Spec PyProof.Rows
noncomputable abbrev TO:=St->Hp->(Option Int->Hp->Prop)->Prop
noncomputable def PO(X:Cx)(e:Option Expr)(t:TO):Prop:=
 ∀(pq:List (VU×Obj)) (s:VT) (σ:St) (H:Hp) (Q:Option Int->Hp->Prop),Inv X pq σ H s->t σ H Q->
  VX (VY X.prog X.w) X.A (evalPart e X.env) (λu s'=>∃ o H',Inv X pq σ H' s'/\IsPart u o/\Q o H') X.xe s
noncomputable def MJ:TO:=λ_ H Q=>Q none H
noncomputable def QZ(t:TE):TO:=λσ H Q=>t σ H λx H1=>∃ i,x = .int i/\Q (some i) H1
section
variable{X:Cx}{e:Expr}{te:TE}{lo hi:Option Expr}{tl th:TO}{pos p2:Pos}
theorem MK:PO X none MJ:=by
 intro pq s σ H Q I h;rw[evalPart_none];exact VV ⟨none,H,I,.none,h⟩
theorem ML(h:PE X e te):PO X (some e) (QZ te):=by
 intro pq s σ H Q I hw;rw[evalPart_some];refine thn (h pq s σ H _ I hw) λu s1 ⟨x,H1,I1,r1,q1⟩=>?_;obtain⟨i,rfl,q⟩:=q1;obtain⟨t,rfl⟩:=r1;exact⟨some i,H1,I1,.int i t,q⟩
noncomputable def SlR(X:Cx)(r:V->Option Int->Option Int->Hp->VK->Prop):Prop:=
 ∀(pq:List (VU×Obj)) (s:VT) (σ:St) (H:Hp) (x:V) (v vl vu:VS) (lo hi:Option Int) (sl:VU) (Q:VK),Inv X pq σ H s->RelV x v->s.heap.IsSliceOf sl vl vu .none->IsPart vl lo->IsPart vu hi->r x lo hi H Q->
  ∃ T id,Xc (.type T) "__getitem__"=pure (some (.builtin id))/\s.TypeIs v T/\VX (VY X.prog X.w) X.A (getItem v (.ref sl)) (EP X pq σ Q) X.xe s
theorem SlR.or{r r':V->Option Int->Option Int->Hp->VK->Prop}(h:SlR X r)(h':SlR X r'):SlR X (λx lo hi H Q=>r x lo hi H Q\/r' x lo hi H Q):=by
 intro pq s σ H x v vl vu lo hi sl Q I rx hs pl pu q;rcases q with q | q
 ·exact h pq s σ H x v vl vu lo hi sl Q I rx hs pl pu q
 ·exact h' pq s σ H x v vl vu lo hi sl Q I rx hs pl pu q
noncomputable def tSl(r:V->Option Int->Option Int->Hp->VK->Prop)(te:TE)(tl th:TO):TE:=λσ H Q=>te σ H λx H1=>tl σ H1 λl H2=>th σ H2 λu H3=>r x l u H3 Q
theorem Jl{r:V->Option Int->Option Int->Hp->VK->Prop}(hr:SlR X r)(he:PE X e te)(hl:PO X lo tl)(hu:PO X hi th):PE X (.Subscript e (.Slice lo hi none p2) pos) (tSl r te tl th):=by
 intro pq s σ H Q I h;refine Xd (thn (he pq s σ H _ I h) λv s1 ⟨x,H1,I1,r1,q1⟩=>?_);refine wpAny_Slice (thn (hl pq s1 σ H1 _ I1 q1) λvl s2 ⟨l,H2,I2,pl,q2⟩=>thn (hu pq s2 σ H2 _ I2 q2) λvu s3 ⟨u,H3,I3,pu,q3⟩=>?_);rw[evalPart_none];refine VV ?_;have I4:Inv X pq σ H3 {s3 with heap:=s3.heap.push {cls := .type "slice",data := .fields #[vl,vu,.none]}}:=I3.kept (t':=s3.toks) λb ob q=>SD _ q;obtain⟨T,id,hT,ht,hg⟩:=hr pq {s3 with heap:=s3.heap.push {cls := .type "slice",data := .fields #[vl,vu,.none]}} σ H3 x v vl vu l u s3.heap.objs.size Q I4 r1 (Heap.IsSliceOf.new ..) pl pu q3;show VX (VY X.prog X.w) X.A (X4 e (.Slice lo hi none p2) v (.ref s3.heap.objs.size)) (EP X pq σ Q) X.xe {s3 with heap:=s3.heap.push {cls := .type "slice",data := .fields #[vl,vu,.none]}};exact tail_any (ops:=[.ref s3.heap.objs.size,v]) ht hT hg (by with_unfolding_all rfl)
noncomputable def EL(xs:List V)(lo hi:Option Int):List V:=(xs.drop (HT.sIx xs.length 0 lo)).take (HT.sIx xs.length xs.length hi - HT.sIx xs.length 0 lo)
theorem C0(xs:List V)(lo hi:Option Int):(EL xs lo hi).length<=xs.length:=by
 unfold EL;rw[Sv,Sw];omega
noncomputable def Qa(K:Rz):V->Option Int->Option Int->Hp->VK->Prop:=λx lo hi H Q=>∃ a xs,x = .ref a/\SqT K H a xs/\
 ¬ (HT.sIx xs.length 0 lo=0/\HT.sIx xs.length xs.length hi=xs.length)/\∀ p,H p=none->Q (.ref p) (upd H p (.tup (EL xs lo hi)))
theorem sl_tup:SlR X (Qa X.K):=by
 intro pq s σ H x v vl vu lo hi sl Q I rx hs pl pu h;obtain⟨a,xs,rfl,hx,hw,q⟩:=h;cases rx;obtain⟨its,r,ht,hz⟩:=I.tuple hx;have hlen:its.toArray.size=xs.length:=by rw[SF];exact r.length.symm
 refine⟨"tuple",_,PyProof.Rows.slot_tuple_getitem.lookup,ht.typeIs,?_⟩;refine HT.getItem_tuple_cut ht hs pl pu (by rw[hlen];exact hw) ?_ (by rw[hlen];exact hz);rw[hlen];refine⟨.ref s.heap.objs.size,_,I.laid (t':=s.toks) (o := .tup (EL xs lo hi)) (λb ob q=>SD _ q) (SK _) ?_,rfl,q _ (I.hok.fresh (SK _))⟩;exact⟨Sj (C0 xs lo hi) hz,_,(r.drop (HT.sIx xs.length 0 lo)).take (HT.sIx xs.length xs.length hi - HT.sIx xs.length 0 lo),IsTup.new _ _⟩
noncomputable def Jm(K:Rz):R2:=λx y H Q=>∃ a b xs ys,x = .ref a/\y = .ref b/\SqT K H a xs/\SqT K H b ys/\xs≠[]/\xs.length+ys.length<=VW/\
 (ys=[]->Q (.ref a) H)/\(ys≠[]->∀ p,H p=none->Q (.ref p) (upd H p (.tup (xs++ys))))
theorem Vals.nil_iff{xs:List V}{us:List VS}(r:Vals xs us):us=[]↔xs=[]:=by
 cases r with
 | nil=>simp
 | cons _ _=>simp
theorem op_catT:OpR X (Vq .Add) (Jm X.K):=by
 intro pq s σ H x y v u Q I rx ry h;obtain⟨a,b,xs,ys,rfl,rfl,ha,hb,hx,hz,q1,q2⟩:=h;cases rx;cases ry;obtain⟨its,r1,p1,_⟩:=I.tuple ha;obtain⟨its2,r2,p2,_⟩:=I.tuple hb;refine HT.cat_tup p1 p2 (λz=>hx (r1.nil_iff.mp z)) (λz=>⟨.ref a,H,I,rfl,q1 (r2.nil_iff.mp z)⟩) (λz=>?_) (by rw[<-r1.length,<-r2.length];exact hz);refine⟨.ref s.heap.objs.size,_,I.laid (t':=s.toks) (o := .tup (xs++ys)) (λb ob q=>SD _ q) (SK _) ?_,rfl,q2 (λw=>z (r2.nil_iff.mpr w)) _ (I.hok.fresh (SK _))⟩;exact⟨by rw[SA];exact hz,_,r1.append r2,IsTup.new _ _⟩
end
noncomputable def ixN(n:Nat)(i:Int):Option Nat:=if 0<=i then (if i<n then some i.toNat else none) else if -(n:Int)<=i then some (i+n).toNat else none
noncomputable def atI{α:Type}(xs:List α)(i:Int):Option α:=(ixN xs.length i).bind λj=>xs[j]?
theorem HB{n:Nat}{i:Int}{j:Nat}(h:ixN n i=some j):seqIndex? i n=some j/\j<n /\ -(n:Int)<=i/\i<n:=by
 unfold ixN at h;by_cases h0:0<=i
 ·rw[iP h0]at h;by_cases h1:i<n
  ·rw[iP h1]at h;have e:i.toNat=j:=oj h;exact⟨by rw[XR h0 h1,e],by omega,by omega,h1⟩
  ·rw[iG h1]at h;cases h
 ·rw[iG h0]at h;by_cases h1:-(n:Int)<=i
  ·rw[iP h1]at h;have e:(i+n).toNat=j:=oj h;exact⟨by rw[XF (by omega) h1,e],by omega,h1,by omega⟩
  ·rw[iG h1]at h;cases h
theorem HC{α:Type}{xs:List α}{i:Int}{v:α}(h:atI xs i=some v):∃ j,seqIndex? i xs.length=some j/\xs[j]?=some v/\j<xs.length /\ -(xs.length:Int)<=i/\i<xs.length:=by
 unfold atI at h;cases e:ixN xs.length i with
 | none=>rw[e]at h;cases h
 | some j=>
   rw[e]at h;obtain⟨h1,h2,h3,h4⟩:=HB e;exact⟨j,h1,h,h2,h3,h4⟩
theorem j5{α:Type}{xs:List α}{j:Nat}{v:α}(h:xs[j]?=some v):atI xs (j:Int)=some v:=by
 have hj:j<xs.length:=(gM h).1
 have e:ixN xs.length (j:Int)=some j:=by
  unfold ixN;rw[iP (by omega),iP (by omega)];simp
 unfold atI;rw[e];exact h
noncomputable def HD(b:Expr):Prop:=∀ o i,Wt b false o i=operate [o,i] (getItem o i)
noncomputable def IxR(X:Cx)(r:R2):Prop:=
 ∀(value slice:Expr) (pq:List (VU×Obj)) (s:VT) (σ:St) (H:Hp) (x y:V) (v u:VS) (Q:VK),Inv X pq σ H s->RelV x v->RelV y u->r x y H Q->
  Wt slice false v u=operate [v,u] (getItem v u)->VX (VY X.prog X.w) X.A (X4 value slice v u) (EP X pq σ Q) X.xe s
noncomputable def MtR(X:Cx)(id:String)(r:V->List V->Hp->VK->Prop):Prop:=
 ∀(pq:List (VU×Obj)) (s:VT) (σ:St) (H:Hp) (x:V) (xs:List V) (v:VS) (us:List VS) (Q:VK),Inv X pq σ H s->RelV x v->Vals xs us->r x xs H Q->
  VX (VY X.prog X.w) X.A (call (.builtin id) (v::us)) (EP X pq σ Q) X.xe s
section
variable{X:Cx}{a b:Expr}{ta tb:TE}{pos:Pos}
theorem IxR.or{r r':R2}(h:IxR X r)(h':IxR X r'):IxR X (λx y H Q=>r x y H Q\/r' x y H Q):=by
 intro value slice pq s σ H x y v u Q I rx ry q hs;rcases q with q | q
 ·exact h value slice pq s σ H x y v u Q I rx ry q hs
 ·exact h' value slice pq s σ H x y v u Q I rx ry q hs
theorem Qb{r:R2}(hr:IxR X r)(ha:PE X a ta)(hb:PE X b tb)(hs:HD b):PE X (.Subscript a b pos) (tOp r ta tb):=by
 intro pq s σ H Q I h;exact Xd (Og ha hb I h λv u s2 x y H2 I2 rx ry q=>hr a b pq s2 σ H2 x y v u Q I2 rx ry q (hs _ _))
noncomputable def Qc(K:Rz):R2:=λx y H Q=>∃ p xs i v,x = .ref p/\y = .int i/\SqL K H p xs/\atI xs i=some v/\Q v H
noncomputable def Qd(K:Rz):R2:=λx y H Q=>∃ p xs i v,x = .ref p/\y = .int i/\SqT K H p xs/\atI xs i=some v/\Q v H
theorem ix_list:IxR X (Qc X.K):=by
 intro value slice pq s σ H x y v u Q I rx ry h hs;obtain⟨p,xs,i,z,rfl,rfl,hq,he,q⟩:=h;cases rx;obtain⟨t,rfl⟩:=ry;obtain⟨its,r,pl,hz⟩:=I.list hq;obtain⟨j,h1,h2,h3,h4,h5⟩:=HC he;obtain⟨w,ew,rw'⟩:=r.get h2;have hl:=r.length;have hn:=Bi;have fin:EP X pq σ Q w s:=⟨z,H,I,rw',q⟩
 by_cases h0:0<=i
 ·have hj:i.toNat=j:=by
   rw[XR h0 h5]at h1;exact oj h1
  exact item_listR pl.isList h0 (by omega) (by rw[hj];simpa using ew) fin hs
 ·have hj:(i+(its.toArray.size:Int)).toNat=j:=by
   rw[XF (by omega) h4]at h1;rw[SF,<-hl];exact oj h1
  exact Wi (x:=w) pl.isList.typeIs slot_list_getitem.lookup
   (wpAny_getItem_list_neg (Q:=λr s'=>r=w/\EP X pq σ Q r s') pl.isList (by omega) (by rw[SF]<;>omega) (by omega) (by rw[hj];simpa using ew) ⟨rfl,fin⟩) hs
theorem Ov:IxR X (Qd X.K):=by
 intro value slice pq s σ H x y v u Q I rx ry h hs;obtain⟨p,xs,i,z,rfl,rfl,hq,he,q⟩:=h;cases rx;obtain⟨t,rfl⟩:=ry;obtain⟨its,r,pl,hz⟩:=I.tuple hq;obtain⟨j,h1,h2,h3,h4,h5⟩:=HC he;obtain⟨w,ew,rw'⟩:=r.get h2;have hl:=r.length;have hn:=Bi;have fin:EP X pq σ Q w s:=⟨z,H,I,rw',q⟩
 exact Wi (x:=w) pl.typeIs slot_tuple_getitem.lookup
  (getItem_tuple (j:=j) (Q:=λr s'=>r=w/\EP X pq σ Q r s') pl (by omega) (by omega) (by rw[SF,<-hl];exact h1) (by simpa using ew) ⟨rfl,fin⟩) hs
theorem Fl(its:List VS)(n j:Nat)(u:VS):Obj.mapSeq (·.setIfInBounds j u) {cls := .type "list",data := .seq its.toArray n}={cls := .type "list",data := .seq (its.set j u).toArray n}:=by
 simp[Obj.mapSeq]
theorem Inv.lst{pq:List (VU×Obj)}{σ:St}{H:Hp}{s:VT}{p:VU}{xs:List V}(I:Inv X pq σ H s)(h:H p=some (.lst xs)):
 ∃(its:List VS) (n:Nat),Vals xs its/\s.heap.get? p=some {cls := .type "list",data := .seq its.toArray n}/\xs.length<=VW:=by
 obtain⟨z,its,n,r,e⟩:=I.hok p _ h;exact⟨its,n,r,e,z⟩
theorem Inv.lstUpd{pq:List (VU×Obj)}{σ:St}{H:Hp}{s:VT}{p:VU}{xs ys:List V}{its its':List VS}{n n':Nat}{f:Obj->Obj}(I:Inv X pq σ H s)(h:H p=some (.lst xs))
 (ho:s.heap.get? p=some {cls := .type "list",data := .seq its.toArray n}) (hf:f {cls := .type "list",data := .seq its.toArray n}={cls := .type "list",data := .seq its'.toArray n'}) (r:Vals ys its') (hz:ys.length<=VW) (t:Nat):
 Inv X pq σ (upd H p (.lst ys)) {s with heap:=s.heap.update p f,toks:=t}:=by
 have e:(s.heap.update p f).get? p=some {cls := .type "list",data := .seq its'.toArray n'}:=by
  rw[U3 f ho (by rw[hf]<;>rfl),hf]
 refine I.write (x:=p) (e:=p) (by rw[h];trivial) (.inl rfl) (λb u hb q=>(Tx _ _ (Ne.symm hb)).trans q) ⟨_,e⟩ ?_;exact⟨hz,its',n',r,e⟩
noncomputable def Jn:V->V->V->Hp->(Hp->Prop)->Prop:=λo i v H Q=>∃ p xs k j,o = .ref p/\i = .int k/\H p=some (.lst xs)/\ixN xs.length k=some j/\Q (upd H p (.lst (xs.set j v)))
theorem Jo:QF X Jn:=by
 intro pq s σ H o i v ov iv u Q I ro ri rv h;obtain⟨p,xs,k,j,rfl,rfl,hp,hj,q⟩:=h;cases ro;obtain⟨t,rfl⟩:=ri;obtain⟨its,n,r,ho,hz⟩:=I.lst hp;obtain⟨h1,h2,h3,h4⟩:=HB hj;have hl:=r.length;have hn:=Bi
 have I':Inv X pq σ (upd H p (.lst (xs.set j v))) {s with heap:=s.heap.update p (Obj.mapSeq (·.setIfInBounds j u))}:=
  I.lstUpd hp ho (Fl its n j u) (r.set rv j) (by rw[Sq];exact hz) s.toks
 by_cases h0:0<=k
 ·have hk:k.toNat=j:=by
   rw[XR h0 h4]at h1;exact oj h1
  exact PySem.W.ki_setAt ho h0 (by omega) (by rw[SF,<-hl];exact h4) (by rw[hk];exact⟨_,I',q⟩)
 ·have hk:(k+(its.toArray.size:Int)).toNat=j:=by
   rw[XF (by omega) h3]at h1;rw[SF,<-hl];exact oj h1
  exact PySem.W.ki_setBack ho (by omega) (by rw[SF,<-hl];exact h3) (by omega) (by rw[hk];exact⟨_,I',q⟩)
theorem Dc(lo hi:Option Int)(n:Nat):(WC lo hi none n).1=((HT.sIx n 0 lo:Nat):Int)/\(WC lo hi none n).2.1=((HT.sIx n n hi:Nat):Int)/\(WC lo hi none n).2.2=1:=by
 refine⟨?_,?_,rfl⟩
 ·cases lo with
  | none=>simp[WC,HT.sIx]
  | some i=>
    simp only[WC,HT.sIx,V4,show(1:Int)>0 by decide,if_true];by_cases h:i<0
    ·simp only[h,if_true]<;>omega
    ·simp only[h,if_false]<;>omega
 ·cases hi with
  | none=>simp[WC,HT.sIx]
  | some i=>
    simp only[WC,HT.sIx,V4,show(1:Int)>0 by decide,if_true];by_cases h:i<0
    ·simp only[h,if_true]<;>omega
    ·simp only[h,if_false]<;>omega
theorem Cu(its:List VS)(lo hi:Option Int):slicePick its.toArray lo hi none=((its.drop (HT.sIx its.length 0 lo)).take (HT.sIx its.length its.length hi - HT.sIx its.length 0 lo)).toArray:=by
 obtain⟨h1,h2,h3⟩:=Dc lo hi its.toArray.size;unfold slicePick;rw[h1,h2,h3];simp only[sliceRange_one,pick_run,SF]<;>rfl
noncomputable def Qf(K:Rz):V->Option Int->Option Int->Hp->VK->Prop:=λx lo hi H Q=>∃ a xs,x = .ref a/\SqL K H a xs/\∀ p,H p=none->Q (.ref p) (upd H p (.lst (EL xs lo hi)))
theorem sl_list:SlR X (Qf X.K):=by
 intro pq s σ H x v vl vu lo hi sl Q I rx hs pl pu h;obtain⟨a,xs,rfl,hx,q⟩:=h;cases rx;obtain⟨its,r,ht,hz⟩:=I.list hx;have hlen:=r.length;refine⟨"list",_,slot_list_getitem.lookup,ht.isList.typeIs,?_⟩;refine wpAny_getItem_list_slice ht.isList hs pl pu .none (by simp) ?_ (by rw[SF]<;>omega);rw[Cu,<-hlen];refine⟨.ref s.heap.objs.size,_,I.laid (t':=s.toks) (o := .lst (EL xs lo hi)) (λb ob q=>SD _ q) (SK _) ?_,rfl,q _ (I.hok.fresh (SK _))⟩;exact⟨Sj (C0 xs lo hi) hz,_,0,(r.drop (HT.sIx xs.length 0 lo)).take (HT.sIx xs.length xs.length hi - HT.sIx xs.length 0 lo),SW _ rfl⟩
noncomputable def n0:V->Bool
 | .non=>true
 | .bl _=>true
 | .int _=>true
 | .str _=>true
 | _=>false
noncomputable def eqV:V->V->Bool
 | .non,.non=>true
 | .bl a,.bl b=>a == b
 | .bl a,.int b=>(if a then 1 else 0) == b
 | .int a,.bl b=>a == (if b then 1 else 0)
 | .int a,.int b=>a == b
 | .str a,.str b=>a == b
 | _,_=>false
theorem Jp{A:Vf}{s:VT}{y x:V}{u v:VS}(ry:RelV y u)(rx:RelV x v)(fy:n0 y=true)(fx:n0 x=true):SeqAt.EqAt A s u v (eqV y x):=by
 cases y with
 | non=>
   cases ry;cases x with
   | non=>cases rx;exact SeqAt.EqAt.same _
   | bl b=>cases rx;exact SeqAt.EqAt.none_bool b
   | int b=>obtain⟨t,rfl⟩:=rx;exact SeqAt.EqAt.none_int b t
   | str b=>obtain⟨t,rfl⟩:=rx;exact SeqAt.EqAt.none_str b t
   | _=>exact absurd (show false=true from fx) SH
 | bl a=>
   cases ry;cases x with
   | non=>cases rx;exact SeqAt.EqAt.bool_none a
   | bl b=>cases rx;exact SeqAt.EqAt.bool_bool a b
   | int b=>obtain⟨t,rfl⟩:=rx;exact SeqAt.EqAt.bool_int a b t
   | str b=>obtain⟨t,rfl⟩:=rx;exact SeqAt.EqAt.bool_str a b t
   | _=>exact absurd (show false=true from fx) SH
 | int a=>
   obtain⟨t',rfl⟩:=ry;cases x with
   | non=>cases rx;exact SeqAt.EqAt.int_none a t'
   | bl b=>cases rx;exact SeqAt.EqAt.int_bool a t' b
   | int b=>obtain⟨t,rfl⟩:=rx;exact SeqAt.EqAt.int_int a t' b t
   | str b=>obtain⟨t,rfl⟩:=rx;exact SeqAt.EqAt.int_str a t' b t
   | _=>exact absurd (show false=true from fx) SH
 | str a=>
   obtain⟨t',rfl⟩:=ry;cases x with
   | non=>cases rx;exact SeqAt.EqAt.str_none a t'
   | bl b=>cases rx;exact SeqAt.EqAt.str_bool a t' b
   | int b=>obtain⟨t,rfl⟩:=rx;exact SeqAt.EqAt.str_int a t' b t
   | str b=>obtain⟨t,rfl⟩:=rx;exact SeqAt.EqAt.str_str a t' b t
   | _=>exact absurd (show false=true from fx) SH
 | _=>exact absurd (show false=true from fy) SH
noncomputable def eqU(x:V)(u:VS):Bool:=match u with
 | .none=>eqV .non x
 | .bool b=>eqV (.bl b) x
 | .int i _=>eqV (.int i) x
 | .str z _=>eqV (.str z) x
 | _=>false
theorem Jq{x y:V}{u:VS}(r:RelV y u)(f:n0 y=true):eqU x u=eqV y x:=by
 cases y with
 | non=>cases r;rfl
 | bl b=>cases r;rfl
 | int i=>obtain⟨t,rfl⟩:=r;rfl
 | str z=>obtain⟨t,rfl⟩:=r;rfl
 | _=>exact absurd (show false=true from f) SH
theorem BP{x:V}:∀{xs:List V} {us:List VS},Vals xs us->xs.all n0=true->us.any (eqU x)=xs.any λy=>eqV y x
 | _,_,.nil,_=>rfl
 | y::xs,u::us,.cons r t,f=>by
   rw[TN,S8]at f;rw[TU,TU,Jq r f.1,BP t f.2]
theorem Ag{A:Vf}{s:VT}{x:V}{v:VS}(rx:RelV x v)(fx:n0 x=true):∀{xs:List V} {us:List VS},Vals xs us->xs.all n0=true->∀ u∈us,SeqAt.EqAt A s u v (eqU x u)
 | _,_,.nil,_=>λu hu=>by cases hu
 | y::xs,u::us,.cons r t,f=>λu' hu=>by
   rw[TN,S8]at f;rcases SU.mp hu with rfl | hu
   ·rw[Jq r f.1];exact Jp r rx f.1 fx
   ·exact Ag rx fx t f.2 u' hu
noncomputable def inV(x:V)(xs:List V):Bool:=xs.any λy=>eqV y x
noncomputable def rIn(K:Rz)(neg:Bool):R2:=λx y H Q=>∃ p xs,y = .ref p/\(SqL K H p xs\/SqT K H p xs)/\n0 x=true/\xs.all n0=true/\Q (.bl (if neg then !inV x xs else inV x xs)) H
theorem IU:OpR X (Vd .In) (rIn X.K false):=by
 intro pq s σ H x y v u Q I rx ry h;obtain⟨p,xs,rfl,hq,fx,fs,q⟩:=h;cases ry;rcases hq with hq | hq
 ·obtain⟨its,r,pl,hz⟩:=I.list hq;refine SeqAt.in_listAt (eqU x) pl.isList (λw hw=>Ag rx fx r fs w (by simpa using hw)) ⟨.bl _,H,I,rfl,?_⟩;rw[show its.toArray.any (eqU x)=its.any (eqU x) by simp,BP r fs];exact q
 ·obtain⟨its,r,pl,hz⟩:=I.tuple hq;refine SeqAt.in_tupleAt (eqU x) pl (λw hw=>Ag rx fx r fs w (by simpa using hw)) ⟨.bl _,H,I,rfl,?_⟩;rw[show its.toArray.any (eqU x)=its.any (eqU x) by simp,BP r fs];exact q
theorem Dd:OpR X (Vd .NotIn) (rIn X.K true):=by
 intro pq s σ H x y v u Q I rx ry h;obtain⟨p,xs,rfl,hq,fx,fs,q⟩:=h;cases ry;rcases hq with hq | hq
 ·obtain⟨its,r,pl,hz⟩:=I.list hq;refine SeqAt.notIn_listAt (eqU x) pl.isList (λw hw=>Ag rx fx r fs w (by simpa using hw)) ⟨.bl _,H,I,rfl,?_⟩;rw[show its.toArray.any (eqU x)=its.any (eqU x) by simp,BP r fs];exact q
 ·obtain⟨its,r,pl,hz⟩:=I.tuple hq;refine SeqAt.notIn_tupleAt (eqU x) pl (λw hw=>Ag rx fx r fs w (by simpa using hw)) ⟨.bl _,H,I,rfl,?_⟩;rw[show its.toArray.any (eqU x)=its.any (eqU x) by simp,BP r fs];exact q
theorem De:CallR X (.builtin "len") (λxs H Q=>∃ p ys,xs=[.ref p]/\(SqL X.K H p ys\/SqT X.K H p ys)/\Q (.int ys.length) H):=by
 intro pq s σ H xs us Q I r h;obtain⟨p,ys,rfl,hq,q⟩:=h;obtain⟨u,rfl,rx⟩:=AZ r;cases rx;have hn:=Bi;rcases hq with hq | hq
 ·obtain⟨its,r',pl,hz⟩:=I.list hq;have hlen:=r'.length;exact Calls.call_len_list pl.isList (by simp only[SF]<;>omega) ⟨.int ys.length,H,I.tok _,⟨s.toks+1,by rw[SF,hlen]⟩,q⟩
 ·obtain⟨its,r',pl,hz⟩:=I.tuple hq;have hlen:=r'.length;exact len_tuple pl (by simp only[SF]<;>omega) ⟨.int ys.length,H,I.tok _,⟨s.toks+1,by rw[SF,hlen]⟩,q⟩
theorem CallR.or{f:VS}{r r':List V->Hp->VK->Prop}(h:CallR X f r)(h':CallR X f r'):CallR X f (λxs H Q=>r xs H Q\/r' xs H Q):=by
 intro pq s σ H xs us Q I rs q;rcases q with q | q
 ·exact h pq s σ H xs us Q I rs q
 ·exact h' pq s σ H xs us Q I rs q
theorem Dg:CallR X (.type "list") (λxs H Q=>∃ p ys,xs=[.ref p]/\(SqL X.K H p ys\/SqT X.K H p ys)/\∀ l,H l=none->Q (.ref l) (upd H l (.lst ys))):=by
 intro pq s σ H xs us Q I r h;obtain⟨p,ys,rfl,hq,q⟩:=h;obtain⟨u,rfl,rx⟩:=AZ r;cases rx
 have fin:∀(its:List VS),Vals ys its->ys.length<=VW->∀(h':Heap) (c':Nat),(∀ b o',s.heap.get? b=some o'->h'.get? b=some o')->
  h'.get? s.heap.objs.size=some {cls := .type "list",dict:=none,data := .seq its.toArray c',slots:=#[]}->EP X pq σ Q (.ref s.heap.objs.size) {s with heap:=h'}:=λits r' hz h' c' kp e=>
  ⟨.ref s.heap.objs.size,_,I.laid (t':=s.toks) kp (SK _) (show ObjOk X.prog X.w _ h' _ (.lst ys) from ⟨hz,its,c',r',e⟩),rfl,q _ (I.hok.fresh (SK _))⟩
 rcases hq with hq | hq
 ·obtain⟨its,r',pl,hz⟩:=I.list hq;have hlen:=r'.length;obtain⟨o,ho,hc,n,hd⟩:=pl.isList;exact call_list_seq p (.inl rfl) ho hc hd (λh' c' kp e=>fin its r' hz h' c' kp e) (by simp only[SF]<;>omega)
 ·obtain⟨its,r',pl,hz⟩:=I.tuple hq;have hlen:=r'.length;obtain⟨o,ho,hc,n,hd⟩:=pl;exact call_list_seq p (.inr rfl) ho hc hd (λh' c' kp e=>fin its r' hz h' c' kp e) (by simp only[SF]<;>omega)
theorem Cv:CallR X (.type "tuple") (λxs H Q=>∃ p ys,xs=[.ref p]/\((SqL X.K H p ys/\∀ l,H l=none->Q (.ref l) (upd H l (.tup ys)))\/(SqT X.K H p ys/\Q (.ref p) H))):=by
 intro pq s σ H xs us Q I r h;obtain⟨p,ys,rfl,h⟩:=h;obtain⟨u,rfl,rx⟩:=AZ r;cases rx;rcases h with⟨hq,q⟩ | ⟨hq,q⟩
 ·obtain⟨its,r',pl,hz⟩:=I.list hq;have hlen:=r'.length;refine call_tuple_list pl.isList (λh' kp=>?_) (by simp only[SF]<;>omega);have I1:Inv X pq σ H {s with heap:=h'}:=I.kept (t':=s.toks) kp
  have I2:Inv X pq σ (upd H h'.objs.size (.tup ys)) {s with heap:=h'.push {cls := .type "tuple",data := .seq its.toArray}}:=
   I1.laid (t':=s.toks) (λb o e=>SD _ e) (SK _) (show ObjOk X.prog X.w _ _ _ (.tup ys) from ⟨hz,its,r',IsTup.new _ _⟩)
  exact⟨.ref h'.objs.size,_,I2,rfl,q _ (I1.hok.fresh (SK _))⟩
 ·obtain⟨its,r',pl,hz⟩:=I.tuple hq;exact call_tuple_same pl ⟨.ref p,H,I,rfl,q⟩
noncomputable def tyV(K:Rz)(T:String)(x:V)(H:Hp):Prop:=match x with
 | .str _=>T="str"
 | .int _=>T="int"
 | .ref p=>(T="list"/\∃ xs,SqL K H p xs)\/(T="tuple"/\∃ o,K.lookup p=some o/\o.cls = .type "tuple"/\o.dict=none)\/
    (T="dict"/\((∃ kvs,H p=some (.dK kvs))\/∃ kvs,H p=some (.dT kvs)))\/(T="set"/\∃ S n,H p=some (.set S n))
 | _=>False
theorem Jr{pq:List (VU×Obj)}{σ:St}{H:Hp}{s:VT}{T:String}{x:V}{v:VS}(I:Inv X pq σ H s)(r:RelV x v)(ty:tyV X.K T x H):
 s.TypeIs v T/\∀ a,v = .ref a->∃ ob,s.heap.get? a=some ob/\ob.dict=none:=by
 cases x with
 | str z=>
   obtain⟨t,rfl⟩:=r;cases(show T="str" from ty);exact⟨typeIs_str s z t,λ_ e=>nomatch e⟩
 | int i=>
   obtain⟨t,rfl⟩:=r;cases(show T="int" from ty);exact⟨WL s i t,λ_ e=>nomatch e⟩
 | ref p=>
   cases r;rcases ty with⟨rfl,xs,hq⟩ | ⟨rfl,o,hk,hc,hd⟩ | ⟨rfl,hk⟩ | ⟨rfl,S,n,hk⟩
   ·obtain⟨its,_,pl,_⟩:=I.list hq;refine⟨pl.isList.typeIs,λa e=>?_⟩;cases e;obtain⟨o,n,e,c,hd,_⟩:=pl;exact⟨o,e,hd⟩
   ·refine⟨⟨o,I.kIn p o hk,hc⟩,λa e=>?_⟩;cases e;exact⟨o,I.kIn _ o hk,hd⟩
   ·have z:∃ o,s.heap.get? p=some o/\o.ExactDict:=by
     rcases hk with⟨kvs,hk⟩ | ⟨kvs,hk⟩
     ·obtain⟨_,_,_,_,o,_,_,e,ex,_⟩:=I.hok p _ hk;exact⟨o,e,ex⟩
     ·obtain⟨_,_,_,_,o,_,_,e,ex,_⟩:=I.hok p _ hk;exact⟨o,e,ex⟩
    obtain⟨o,e,ex⟩:=z;refine⟨⟨o,e,ex.1⟩,λa e2=>?_⟩;cases e2;exact⟨o,e,ex.2.1⟩
   ·obtain⟨o,_,_,_,e,ex,_⟩:=I.hok p _ hk;refine⟨⟨o,e,ex.1⟩,λa e2=>?_⟩;cases e2;exact⟨o,e,ex.2.1⟩
 | _=>exact False.elim ty
noncomputable def Ow(K:Rz)(T:String)(r:V->List V->Hp->VK->Prop)(to:TE):TE:=λσ H Q=>to σ H λx H1=>tyV K T x H1/\r x [] H1 Q
noncomputable def tBM(K:Rz)(T:String)(r:V->List V->Hp->VK->Prop)(to:TE)(t:TA):TE:=λσ H Q=>to σ H λx H1=>tyV K T x H1/\t σ H1 λxs H2=>r x xs H2 Q
variable{o e:Expr}{es:List Expr}{to:TE}{t:TA}{name:Str}{apos cpos:Pos}{T id:String}{r:V->List V->Hp->VK->Prop}
theorem Fm(pa:PlainAttrs T)(slot:Slot T name id)(hty:typeOf (.builtin id)=pure (.type "method_descriptor"))(hm:MtR X id r)(ho:PE X o to)
 (hbase:WN o name X.env (eval o X.env)=eval o X.env:=by rfl) (hline:(apos.endLine == cpos.line)=true:=by rfl):PE X (.Call (.Attribute o name apos) [] [] cpos) (Ow X.K T r to):=by
 intro pq s σ H Q I h;refine wpAny_Call_method0_late hbase hline (thn (ho pq s σ H _ I h) λv s1 ⟨x,H1,I1,r1,ty,q1⟩=>?_);obtain⟨h1,h2⟩:=Jr I1 r1 ty;exact⟨T,id,pa,slot,hty,h1,h2,Calls.callWith_builtin rfl (PySem.evalArgs_none (hm pq s1 σ H1 x [] v [] Q I1 r1 .nil q1))⟩
theorem Js(pa:PlainAttrs T)(slot:Slot T name id)(hty:typeOf (.builtin id)=pure (.type "method_descriptor"))(hm:MtR X id r)(ho:PE X o to)(ha:PA X (e::es) t)
 (hbase:WN o name X.env (eval o X.env)=eval o X.env:=by rfl)
 (hfew:((backTo cpos (Vg (e::es) X.env)).all (λx=>!x.1)&&(backToKw cpos (XS [] X.env)).all (λx=>x.1.isSome)
   && decide ((e::es).length+([]:List Keyword).length+(if ([]:List Keyword).isEmpty then 0 else 1)<30))=true:=by rfl)
 (hline:(apos.endLine == cpos.line)=true:=by rfl) (hs:Vg (e::es) X.env=(false,eval e X.env)::Vg es X.env:=by rfl) (hplain:(backTo cpos (Vg es X.env)).any (·.1)=false:=by rfl):
 PE X (.Call (.Attribute o name apos) (e::es) [] cpos) (tBM X.K T r to t):=by
 intro pq s σ H Q I h;refine wpAny_Call_method_late hbase hfew hline rfl (thn (ho pq s σ H _ I h) λv s1 ⟨x,H1,I1,r1,ty,q1⟩=>?_);obtain⟨h1,h2⟩:=Jr I1 r1 ty;refine⟨T,id,pa,slot,hty,h1,h2,?_⟩;have hA:=ha cpos pq s1 σ H1 _ I1 q1;rw[hs]at hA ⊢;refine Calls.callWith_builtin (by show(false||(backTo cpos (Vg es X.env)).any (·.1))=false;rw[hplain]<;>rfl) (Calls.evalArgs_plain ?_);exact thn hA λus s2 ⟨vs,H2,I2,r2,q2⟩=>hm pq s2 σ H2 x vs v us Q I2 r1 r2 q2
end
noncomputable def MtM(X:Cx)(id:String)(r:V->List V->Hp->VK->Prop):Prop:=
 ∀(pq:List (VU×Obj)) (s:VT) (σ:St) (H:Hp) (x:V) (xs:List V) (v:VS) (us:List VS) (Q:VK),Inv X pq σ H s->RelV x v->Vals xs us->r x xs H Q->
  VX (VY X.prog X.w) X.A (call (.builtin id) (v::us)) (EP X pq σ Q) X.xe s
theorem Vals.one{x:V}{us:List VS}(h:Vals [x] us):∃ u,us=[u]/\RelV x u:=by
 cases h with
 | cons r q=>cases q;exact⟨_,rfl,r⟩
theorem Vals.two{x y:V}{us:List VS}(h:Vals [x,y] us):∃ u v,us=[u,v]/\RelV x u/\RelV y v:=by
 cases h with
 | cons r q=>
   obtain⟨v,rfl,s⟩:=Vals.one q;exact⟨_,v,rfl,r,s⟩
theorem Vals.zero:∀{us:List VS},Vals [] us->us=[]
 | _,.nil=>rfl
theorem Vals.reverse{xs:List V}{us:List VS}(h:Vals xs us):Vals xs.reverse us.reverse:=by
 induction h with
 | nil=>exact .nil
 | cons r t ih=>rw[Uv,Uv];exact Vals.append ih (.cons r .nil)
theorem Vals.rep{xs:List V}{us:List VS}(h:Vals xs us):∀ k:Nat,Vals (SJ k xs).flatten (SJ k us).flatten
 | 0 => .nil
 | k+1=>by
   rw[Ss,Ss,Ti,Ti];exact Vals.append h (Vals.rep h k)
theorem Bj(its:List VS):∀(k:Nat) (acc:List VS),
 UY (λx1 x2=>x1++x2) acc.toArray (SJ k its.toArray)=(acc++(SJ k its).flatten).toArray
 | 0,acc=>by simp
 | k+1,acc=>by
   have e:acc.toArray++its.toArray=(acc++its).toArray:=by simp
   have e2:(acc++its)++(SJ k its).flatten=acc++(SJ (k+1) its).flatten:=by
    rw[Ss,Ti,List.append_assoc]
   rw[<-e2,<-Bj its k (acc++its),<-e,Ss,List.foldl_cons]
section
variable{X:Cx}{pq:List (VU×Obj)}{σ:St}{H:Hp}{s:VT}{l b:VU}{xs ys zs:List V}
theorem Inv.lset{its its':List VS}{n:Nat}{f:Array VS->Array VS}{t':Nat}(I:Inv X pq σ H s)(hH:H l=some (.lst xs))
 (e:s.heap.get? l=some {cls := .type "list",data := .seq its.toArray n}) (hf:f its.toArray=its'.toArray) (hv:Vals ys its') (hz:ys.length<=VW):
 Inv X pq σ (upd H l (.lst ys)) {s with heap:=s.heap.update l (Obj.mapSeq f),toks:=t'}:=by
 have q:=PySem.IsL.update e f;rw[hf]at q;refine I.write (x:=l) (e:=l) (by rw[hH];exact trivial) (.inl rfl) (λb' u hb hu=>(Tx s.heap (Obj.mapSeq f) (Ne.symm hb)).trans hu) ⟨_,q⟩ ?_;exact⟨hz,its',_,hv,q⟩
theorem Inv.lnew{its:List VS}{t':Nat}(I:Inv X pq σ H s)(hv:Vals ys its)(hz:ys.length<=VW):
 Inv X pq σ (upd H s.heap.objs.size (.lst ys)) {s with heap:=s.heap.push {cls := .type "list",data := .seq its.toArray},toks:=t'}:=
 I.laid (λ_ _ q=>SD _ q) (SK _) ⟨hz,its,0,hv,SW _ rfl⟩
theorem Inv.fresh(I:Inv X pq σ H s):H s.heap.objs.size=none:=I.hok.fresh (SK _)
theorem Inv.lstM(I:Inv X pq σ H s)(hH:H l=some (.lst xs)):xs.length<=VW/\∃(its:List VS) (n:Nat),Vals xs its/\xs.length=its.length/\s.heap.get? l=some {cls := .type "list",data := .seq its.toArray n}:=by
 obtain⟨z,its,n,r,e⟩:=I.hok l _ hH;exact⟨z,its,n,r,r.length,e⟩
theorem EM{n:Nat}(h:n<=VW):Builtin.List.listTooLong n=false:=by
 unfold Builtin.List.listTooLong;exact decide_eq_false (by omega)
end
section
variable{X:Cx}
noncomputable def HE:V->List V->Hp->VK->Prop:=λx vs H Q=>∃ l xs y,x = .ref l/\vs=[y]/\H l=some (.lst xs)/\xs.length<VW/\Q .non (upd H l (.lst (xs++[y])))
theorem Ay:MtM X "list.append" HE:=by
 intro pq s σ H x vs v us Q I rx rv h;obtain⟨l,xs,y,rfl,rfl,hH,hz,q⟩:=h;cases rx;obtain⟨u,rfl,ru⟩:=rv.one;obtain⟨z,its,n,r,hl,e⟩:=I.lstM hH;refine Vz F.slot_list_append ⟨_,e,rfl⟩ F.entry_list_append (F.args_list_append_2 _ _) (PySem.list_append l its.toArray n u (by rw[SF];omega)) ⟨e,?_⟩;refine⟨.non,_,I.lset (its':=its++[u]) hH e (by simp) (r.append (.cons ru .nil)) ?_,rfl,q⟩;rw[SA,Sr];omega
noncomputable def HF:V->List V->Hp->VK->Prop:=λx vs H Q=>∃ l b xs zs,x = .ref l/\vs=[.ref b]/\H l=some (.lst xs)/\H b=some (.lst zs)/\xs.length+zs.length<=VW/\Q .non (upd H l (.lst (xs++zs)))
theorem DD:MtM X "list.extend" HF:=by
 intro pq s σ H x vs v us Q I rx rv h;obtain⟨l,b,xs,zs,rfl,rfl,hH,hB,hz,q⟩:=h;cases rx;obtain⟨u,rfl,ru⟩:=rv.one;cases ru;obtain⟨z,its,n,r,hl,e⟩:=I.lstM hH;obtain⟨z2,its2,n2,r2,hl2,e2⟩:=I.lstM hB;have hsz:its.toArray.size+its2.toArray.size<=VW:=by rw[SF,SF];omega
 have hlong:¬ (!its.toArray.isEmpty&&Builtin.List.listTooLong (its.toArray.size+its2.toArray.size))=true:=by
  rw[EM hsz,Bool.and_false];exact SH
 refine Vz F.slot_list_extend ⟨_,e,rfl⟩ F.entry_list_extend (F.args_list_extend_2 _ _)
  (AutoSeq1.list_extend_list_list_0 l its.toArray n b its2.toArray n2 hlong (by rw[SF];omega) (by omega)) ⟨e,e2,?_⟩
 refine⟨.non,_,I.lset (its':=its++its2) hH e (by simp) (r.append r2) ?_,rfl,q⟩;rw[SA];omega
noncomputable def Qg:R2:=λx y H Q=>∃ l b xs zs,x = .ref l/\y = .ref b/\H l=some (.lst xs)/\H b=some (.lst zs)/\xs.length+zs.length<=VW/\∀ p,H p=none->Q (.ref p) (upd H p (.lst (xs++zs)))
theorem Ox:OpR X (Vq .Add) Qg:=by
 intro pq s σ H x y v u Q I rx ry h;obtain⟨l,b,xs,zs,rfl,rfl,hH,hB,hz,q⟩:=h;cases rx;cases ry;obtain⟨z,its,n,r,hl,e⟩:=I.lstM hH;obtain⟨z2,its2,n2,r2,hl2,e2⟩:=I.lstM hB;refine PySem.P.add_list e e2 ?_ (by rw[SF,SF];omega);have ea:its.toArray++its2.toArray=(its++its2).toArray:=by simp
 rw[ea];exact⟨.ref _,_,I.lnew (t':=s.toks) (r.append r2) (by rw[SA];omega),rfl,q _ I.fresh⟩
noncomputable def Qh:R2:=λx y H Q=>∃ l k xs,x = .ref l/\y = .int k/\H l=some (.lst xs) /\ -(2 ^ 63)<=k/\k<2 ^ 63/\xs.length * k.toNat<=VW/\
 ∀ p,H p=none->Q (.ref p) (upd H p (.lst (SJ k.toNat xs).flatten))
theorem HG{α:Type}(xs:List α)(k:Nat):(SJ k xs).flatten.length=k * xs.length:=by
 induction k with
 | zero=>simp
 | succ k ih=>rw[Ss,Ti,SA,ih,VL,Nat.add_comm]
theorem Oy:OpR X (Vq .Mult) Qh:=by
 intro pq s σ H x y v u Q I rx ry h;obtain⟨l,k,xs,rfl,rfl,hH,h1,h2,hz,q⟩:=h;cases rx;obtain⟨t,rfl⟩:=ry;obtain⟨z,its,n,r,hl,e⟩:=I.lstM hH;have hlen:its.toArray.size * k.toNat<=VW:=by rw[SF,<-hl];exact hz
 have hcap:¬ its.toArray.size * k.toNat>(2 ^ 63 - 1) / 8:=by
  have:(VW:Nat)<=(2 ^ 63 - 1) / 8:=by decide
  omega
 have hfit:¬ (!Builtin.List.listFitsIndex k)=true:=by
  rw[Xe h1 h2];exact SH
 have hlong:¬ Builtin.List.listTooLong (its.toArray.size * k.toNat)=true:=by
  rw[EM hlen];exact SH
 have hnew:UY (λx1 x2=>x1++x2) #[] (SJ (if its.toArray.isEmpty=true then 0 else k.toNat) its.toArray)=(SJ k.toNat its).flatten.toArray:=by
  have f0:∀ m:Nat,UY (λx1 x2=>x1++x2) #[] (SJ m its.toArray)=(SJ m its).flatten.toArray:=λm=>by
   have:=Bj its m [];rw[UK]at this;exact this
  rw[f0];cases its with
  | nil=>simp
  | cons a r'=>rw[iG (by simp)]
 refine WZ (T:="list") (U:="int") (by decide) ⟨_,e,rfl⟩ (λs'=>WL s' k t) noFill_list_mul F.fills_int_mul F.slot_int_rmul repeat_list F.slot_int_index.lookup
  (Vz F.slot_int_rmul (WL s k t) F.entry_int_rmul (F.args_int_rmul_2 _ _) (int___rmul___int_list k t l its.toArray n)
    ⟨e,rfl,⟨_,e,rfl⟩,Vz F.slot_list_mul ⟨_,e,rfl⟩ F.entry_list_mul (F.args_list_mul_2 _ _) (AutoListH.list___mul___list_int_3 l its.toArray n k t hfit hcap hlong) ⟨e,?_⟩⟩)
 rw[hnew];exact⟨.ref _,_,I.lnew (t':=s.toks) (r.rep k.toNat) (by rw[HG,Uw];exact hz),rfl,q _ I.fresh⟩
end
end L2
namespace Att
open PySem PySem.W PySem.Calls PyProof.Rows
theorem C9{P:Params}{h:Heap}:∀(ns:List Int) (vs:List VS),WellAll P h vs (ns.map WData.int)->IntsAre vs ns:=by
 intro ns
 induction ns with
 | nil=>
   intro vs w;rw[VM]at w;cases w;exact .nil
 | cons n ns ih=>
   intro vs w;rw[Sk]at w;cases w with
   | cons a b=>
     cases a;exact .cons _ _ (ih _ b)
theorem IV{l:OpenLaw}{n:Nat}(hn:l.most=some n){P:Params}{h:Heap}{args:List WData}{vals:List VS}
 (hpre:l.row.toRowW.claim.pre args=true) (hwl:WellAll P h vals args):
 ∃ a vs ns,vals=[Value.ref a]/\args=[WData.list (ns.map WData.int)]/\h.get? a=some {cls := .type "list",data := .seq vs.toArray}/\IntsAre vs ns/\ns.length<=n:=by
 have hsh:WShape.hasAll [] args [.list .int]=true:=(pre_splitW hpre).1;have hc:l.pre.holds [] {args:=args}=true:=(pre_splitW hpre).2;obtain⟨d,r,rfl,h1,h2⟩:=hasAllW_cons hsh;obtain rfl:=hasAllW_nil h2;obtain⟨xs,rfl,h3⟩:=hasW_list h1;obtain⟨ns,rfl⟩:=items_int h3
 have hlen:ns.length<=n:=by
  unfold OpenLaw.pre at hc
  have h4:(WTm.not (.lt (.lit (.int (n:Int))) (.len (.arg 0)))).holds [] {args:=[.list (ns.map .int)]}=true:=by
   have h4:=(holds_andW hc).1;rw[hn]at h4;exact h4
  have h5:=condW_of h4 (w_not (w_lt w_lit (w_len_list (w_arg rfl))));rw[S7]at h5;refine Nat.le_of_not_lt λq=>?_;have q':(n:Int)<((ns.length:Nat):Int):=by omega
  first
   | (rw[decide_eq_true q']at h5;exact absurd h5 (by decide))
   | (simp at h5;omega)
 cases hwl with
 | cons w1 w2=>
   cases w2;cases w1 with
   | list ho hall=>exact⟨_,_,ns,rfl,rfl,ho,C9 ns _ hall,hlen⟩
theorem IW(l:OpenLaw)(args:List WData):l.row.toRowW.claim.post args (.bool true) args=true:=
 postW_of (r:=l.row.toRowW) (X:=(true == true))
  (show WShape.has [] (.bool true) .bool=true by first | rfl | decide | simp[WShape.has,WShape.arms,WShape.armsAll])
  (show(WTm.eq .res (.lit (.bool true))).value [] {args:=args,res:=some (.bool true),after:=args}=some (.bool (true == true)) from w_eq_bool (w_res rfl) w_lit) rfl
theorem attach_call{l:OpenLaw}{n:Nat}{q:VZ}{loose:List Str}{XP:(Str->Option VS)->Heap->Prop}{YP:Vc->Heap->Prop}{d:DefRec}
 (hn:l.most=some n) (hdf:d.params.defaults=[])
 (call:∀(w:Vc) (s₀ s₁:VT) (mg mb:Str->Option VS) (fa:VU) (o:Obj) (pm cd doc:VS) (a:VU) (vs:List VS) (ns:List Int),
   Ground q loose [] XP w s₀ mg mb s₁.heap->YP w s₁.heap->
   s₁.heap.get? fa=some o->o.data = .func (docDef d.name d.params d.body d.scope pm cd doc)->s₁.heap.CodeRec cd d.name->mg d.name=some (.ref fa)->
   s₁.heap.get? a=some {cls := .type "list",data := .seq vs.toArray}->IntsAre vs ns->ns.length<=n->s₁.gens=#[]->
   codeAny (VY l.prog w) callerA (.call (.ref fa) ⟨[.ref a],[]⟩) (λr s'=>r = .ok (.ret (.bool true))/\OldK s₁.heap s'.heap/\s'.os=s₁.os/\AllBare s'.gens) s₁):
 WalkO q loose XP YP l.row.toRowW d [] (λf vs=>PySem.call f vs):=by
 intro w s₀ s₁ mg mb G Y fa o pm cd doc dV kV ho hd hcd hD hmg hg args vals as hpre hlay hrd hwl hlo;obtain rfl:dV = .none:=Dflts.none hD hdf;obtain rfl:kV = .none:=Dflts.noKw hD;obtain⟨a,vs,ns,rfl,rfl,hobj,hints,hlen⟩:=IV hn hpre hwl;refine enter_call (XC (call w s₀ s₁ mg mb fa o pm cd doc a vs ns G Y ho (fd_plain hd) hcd hmg hobj hints hlen hg) λr s' hq=>?_);obtain⟨rfl,h2,h3,h4⟩:=hq;exact⟨.inl ⟨.bool true,.bool true,[],rfl,λ_=>rfl,.bool true,IW l _,λ_=>⟨List.Pairwise.nil,λ_ hm=>(nomatch hm)⟩⟩,h2,h3,h4⟩
end Att
namespace L2
open PySem PySem.Spec PyProof.Rows
theorem DE:∀{vs:List VS} {ns:List Int},IntsAre vs ns->Vals (ns.map V.int) vs
 | _,_,.nil => .nil
 | _,_,.cons n t h => .cons ⟨t,rfl⟩ (DE h)
noncomputable def MM(H:Hp):Prop:=∀ b,H b=none\/∃ o xs,H b=some (.frz o (.lst xs))
theorem Jt{P:VZ}{w:Vc}{K:Rz}{mg mb:Str->Option VS}{CX:CXT}{k:Nat}{fa a:VU}{fd:W4}{x:Str}{sp:Sp}{s₁:VT}{vs:List VS}{ns:List Int}
 (KX:K.In s₁.heap) (hns:s₁.heap.Ns Va mg) (hb:s₁.heap.Ns X8 mb) (hbb:∀ x:Str,x≠"__name__"->mb x=Vb x) (hlim:s₁.heap.NoLimit) (hg:s₁.gens=#[])
 (ha:s₁.heap.get? a=some {cls := .type "list",data := .seq vs.toArray}) (hi:IntsAre vs ns) (hl:ns.length<=VW) (hr:Room k callerA)
 (F:∀ base:Heap,K.In base->base.Ns Va mg->FnOk P w K mg base CX k fa fd [x] sp) (hbind:∀(s:VT) (u:VS),BindsTo s fd ⟨[u],[]⟩ [(x,u)])
 (hsp:∀ H:Hp,MM H->SqL K H a (ns.map V.int)->sp [.ref a] H (λv _=>v = .bl true) λ_ _ _=>False)
 (hCX:∀ H e s',CX [] H s₁ (λ_ _ _=>False) e s'->False):
 codeAny (VY P w) callerA (.call (.ref fa) ⟨[.ref a],[]⟩) (λr s'=>r = .ok (.ret (.bool true))/\OldK s₁.heap s'.heap/\s'.os=s₁.os/\AllBare s'.gens) s₁:=by
 have rv:=DE hi;have lenV:=hi.length
 have core:∀ H:Hp,MM H->SqL K H a (ns.map V.int)->HOk P w H s₁.heap->(∀ b,H b≠none->b=a)->(H a≠none->K.lookup a=none)->
  codeAny (VY P w) callerA (.call (.ref fa) ⟨[.ref a],[]⟩) (λr s'=>r = .ok (.ret (.bool true))/\OldK s₁.heap s'.heap/\s'.os=s₁.os/\AllBare s'.gens) s₁:=by
  intro H hO hS hok hA hK;have u8:∀{b:VU} {o:Obj},s₁.heap.get? b=some o->H b=none->(Db s₁.heap H).get? b=some o:=λe n=>JU e n
  have noA:∀{b:VU} {o:Obj} {es:Array Ww} {ep:Nat},s₁.heap.get? b=some o->o.data = .dict es ep->H b=none:=λ{b o es ep} e d=>by
   cases q:H b with
   | none=>rfl
   | some u=>
     have e':b=a:=hA b (by rw[q];simp);subst e';rw[ha]at e;cases e;have d':Data.seq vs.toArray _=Data.dict es ep:=d;cases d'
  have nsK:∀{b:VU} {m:Str->Option VS},s₁.heap.Ns b m->(Db s₁.heap H).Ns b m:=λ{b m} ⟨o,es,ep,e,d,r⟩=>⟨o,es,ep,u8 e (noA e d),d,r⟩
  have hKb:K.In (Db s₁.heap H):=λb o e=>u8 (KX b o e) (by
   cases q:H b with
   | none=>rfl
   | some u=>
     have e':b=a:=hA b (by rw[q];simp);subst e';rw[hK (by rw[q];simp)]at e;cases e)
  have hM:Mod K mg (Db s₁.heap H):=⟨hKb,nsK hns,⟨mb,nsK hb,hbb⟩,let ⟨mc,h1,h2⟩:=hlim;⟨mc,nsK h1,h2⟩⟩
  have e0:Env0 P w K mg (Db s₁.heap H) callerA [] s₁ H:=⟨rfl,hM,λb o e=>M6 e,Nat.le_of_eq (IJ _ _),trivial,λb hb=>absurd (show b∈([]:List VU) from hb) (by simp),hok,.of_eq hg⟩
  refine XC ((F _ hKb (nsK hns)).run callerA [] s₁ H ⟨[.ref a],[]⟩ [.ref a] [.ref a] _ _ hr e0 (hbind s₁ (.ref a)) (.cons rfl .nil) (hsp H hO hS)) λr s' h=>?_;cases r with
  | error e=>exact(hCX H e s' h).elim
  | ok fl=>
    cases fl with
    | next=>exact False.elim h
    | brk=>exact False.elim h
    | cont=>exact False.elim h
    | ret u=>
      obtain⟨v,H',os,bare,un,hok',r',q⟩:=h;have q':v = .bl true:=q;subst q';obtain rfl:u=Value.bool true:=r';refine⟨rfl,OldK.of_keep λb o e=>?_,os,bare⟩;cases q:H b with
      | none=>exact un.keep b o e q (by intro z;exact absurd (show b∈([]:List VU) from z) (by simp)) (by simp)
      | some u=>
        rcases hO b with z | ⟨ob,xs,z⟩
        ·rw[q]at z;cases z
        ·have z2:=un.frzs b ob _ z;obtain⟨e1,_⟩:=hok b _ z;obtain⟨e2,_⟩:=hok' b _ z2;rw[e]at e1;cases e1;exact e2
 cases hk:K.lookup a with
 | some o=>
   have e:=KX a o hk;rw[ha]at e;cases e;refine core (λ_=>none) (λ_ => .inl rfl) (.inr ⟨_,vs.toArray,_,hk,rfl,rfl,rfl,by rw[SF,lenV];exact hl,by simpa using rv⟩) (λb u z=>by have z':(none:Option HO)=some u:=z;cases z') (λb z=>absurd rfl z) λz=>absurd rfl z
 | none=>
   refine core (λb=>if b=a then some (.frz {cls := .type "list",data := .seq vs.toArray} (.lst (ns.map V.int))) else none) (λb=>?_) (.inl (.inr ⟨{cls := .type "list",data := .seq vs.toArray},iP rfl⟩)) (λb u z=>?_) (λb z=>?_) λ_=>hk
   ·by_cases hb:b=a
    ·exact .inr ⟨_,_,iP hb⟩
    ·exact .inl (iG hb)
   ·by_cases hb:b=a
    ·have z':=(iP hb).symm.trans z;cases z';subst hb;exact⟨ha,by rw[S7];exact hl,vs,_,rv,ha⟩
    ·have z':=(iG hb).symm.trans z;cases z'
   ·by_cases hb:b=a
    ·exact hb
    ·exact absurd (iG hb) z
theorem walk_of{l:PySem.W.OpenLaw}{n k:Nat}{q:VZ}{loose:List Str}{XP:(Str->Option VS)->Heap->Prop}{YP:Vc->Heap->Prop}{d:DefRec}{K:Params->Rz}{CX:Vc->CXT}{sp:Vc->Sp}{x:Str}
 (hn:l.most=some n) (hn2:n<=VW) (hdf:d.params.defaults=[]) (hr:Room k callerA)
 (hY:∀(w:Vc) (h:Heap),YP w h->(K w.params).In h)
 (F:∀(w:Vc) (mg:Str->Option VS) (fa:VU) (h:Heap),(K w.params).In h->h.Ns Va mg->mg d.name=some (.ref fa)->
   ∃ fd:W4,(∀(s:VT) (u:VS),BindsTo s fd ⟨[u],[]⟩ [(x,u)])/\
    ∀ base:Heap,(K w.params).In base->base.Ns Va mg->FnOk l.prog w (K w.params) mg base (CX w) k fa fd [x] (sp w))
 (hsp:∀(w:Vc) (H:Hp) (a:VU) (ns:List Int),ns.length<=n->MM H->SqL (K w.params) H a (ns.map V.int)->sp w [.ref a] H (λv _=>v = .bl true) λ_ _ _=>False)
 (hCX:∀(w:Vc) (H:Hp) (s:VT) (e:VS) (s':VT),CX w [] H s (λ_ _ _=>False) e s'->False):
 PySem.W.WalkO q loose XP YP l.row.toRowW d [] (λf vs=>PySem.call f vs):=by
 refine Att.attach_call hn hdf λw s₀ s₁ mg mb fa o pm cd doc a vs ns G Y ho hd hcd hmg hobj hints hlen hg=>?_;have KX:=hY w _ Y;obtain⟨fd,hb,hF⟩:=F w mg fa _ KX G.T.g hmg;exact Jt KX G.T.g G.T.b G.T.builtins G.T.nolimit hg hobj hints (Sj hlen hn2) hr hF hb (λH hO hS=>hsp w H a ns hlen hO hS) λH e s'=>hCX w H s₁ e s'
noncomputable def defArgs(s:Stmt):Arguments:=match s with
 | .FunctionDef _ a _ _ _ _ _ _ _ _=>a
 | _=>{posonlyargs:=[],args:=[],vararg:=none,kwonlyargs:=[],kw_defaults:=[],kwarg:=none,defaults:=[]}
noncomputable def defBody(s:Stmt):List Stmt:=match s with
 | .FunctionDef _ _ b _ _ _ _ _ _ _=>b
 | _=>[]
noncomputable def defScope(s:Stmt):Ve:=match s with
 | .FunctionDef _ _ _ _ _ _ sc _ _ _=>sc
 | _=>{kind := .function,names:=[],isGenerator:=false,isCoroutine:=false}
noncomputable abbrev CX0:CXT:=λ_ _ _ _ _ _=>False
noncomputable abbrev E0:XK:=λ_ _ _=>False
theorem Qi{X:Cx}:Fh CX0 X E0:=λ_ _ _ _ _ _ _ h=>h.elim
structure Fun(K:Rz)(x qual:Str)(st:Stmt)(f:VU)(fd:W4):Prop where
 ex:∃(oc:VS) (od:Option VU) (kV doc pm:VS) (an:Option VU) (cdv ct:VS) (osl:Array (Option VS)),
  fd=PySem.W.fnOf x qual (defArgs st) (defBody st) (defScope st) .none kV doc pm an cdv ct/\K.lookup f=some ⟨oc,od,.func fd,osl⟩/\PySem.W.codeIn K cdv qual=true
 kp:PySem.W.keepIn K (.ref f)=true
section
variable{P:VZ}{w:Vc}{K:Rz}{mg:Str->Option VS}{base:Heap}
theorem Fun.ok{x qual:Str}{st:Stmt}{f:VU}{fd:W4}{N ps:List Str}{k:Nat}{sp:Sp}(F:Fun K x qual st f fd)(S:FnScope N ps (defScope st))(len:∀ vs H Q E,sp vs H Q E->vs.length=ps.length)
 (hbody:∀(cdv:VS) (A:Vf) (outer:List Env) (s:VT) (H:Hp) (vs:List V) (Q:VK) (E:XK),Room k (A.deeper (envOfC qual (defScope st) s.heap.objs.size f cdv))->sp vs H Q E->
   ∃ t,PSs (Fi CX0 P w K mg base N qual (defScope st) f cdv A outer s H E).nox (defBody st) t/\t {nx:=λ_ H'=>Q .non H',rt:=Q} (start N vs) H):FnOk P w K mg base CX0 (k+1) f fd ps sp:=by
 obtain⟨oc,od,kV,doc,pm,an,cdv,ct,osl,rfl,lk,hcd⟩:=F.ex;refine QY lk hcd S len λA outer s H vs Q E hr hsp=>?_;obtain⟨t,h,q⟩:=hbody cdv A outer s H vs Q E hr hsp;exact⟨t,h.nox,q⟩
theorem Fun.binds{x qual:Str}{st:Stmt}{f:VU}{fd:W4}{ps:List Str}(F:Fun K x qual st f fd)
 (h:∀(kV doc pm:VS) (an:Option VU) (cdv ct:VS) (us:List VS),us.length=ps.length->bindArgs (PySem.W.fnOf x qual (defArgs st) (defBody st) (defScope st) .none kV doc pm an cdv ct) ⟨us,[]⟩=pure (ps.zip us)):Binds K fd ps []:=by
 obtain⟨oc,od,kV,doc,pm,an,cdv,ct,osl,rfl,lk,hcd⟩:=F.ex;exact .all (h kV doc pm an cdv ct)
theorem Fn{x qual:Str}{st:Stmt}{f:VU}{oc:VS}{od an:Option VU}{osl:Array (Option VS)}{kV doc pm cdv ct:VS}(l:K.lookup f=some ⟨oc,od,.func (PySem.W.fnOf x qual (defArgs st) (defBody st) (defScope st) .none kV doc pm an cdv ct),osl⟩)
 (c:PySem.W.codeIn K cdv qual=true) (k:PySem.W.keepIn K (.ref f)=true):Fun K x qual st f (PySem.W.fnOf x qual (defArgs st) (defBody st) (defScope st) .none kV doc pm an cdv ct):=⟨⟨oc,od,kV,doc,pm,an,cdv,ct,osl,rfl,l,c⟩,k⟩
end
end L2
set_option maxHeartbeats 4000000
namespace L2
open PySem PySem.Spec PyProof.Rows
noncomputable def n8(env:Env):List (Str×Vr)->List (Str×VU)->List (Str×VU)
 | [],acc=>acc
 | (n,k)::r,acc=>if k == .free then n8 env r ((n,(env.cells.lookup n).getD 0)::acc) else n8 env r acc
theorem l9{env:Env}{scope:Ve}(h:∀ x∈scope.names,x.2 = .free->∃ c,env.cells.lookup x.1=some c):closureFor scope env=pure (n8 env scope.names []):=by
 unfold closureFor
 have go:∀(names:List (Str×Vr)) (acc:List (Str×VU)),(∀ x∈names,x.2 = .free->∃ c,env.cells.lookup x.1=some c)->
  (forIn names acc λx r=>match x with
    | (name,kind)=>if (kind == NameKind.free)=true then do let __do_lift <- cellOf env name;pure (ForInStep.yield ((name,__do_lift)::r)) else pure (ForInStep.yield r):Sem (List (Str×VU)))=pure (n8 env names acc):=by
  intro names
  induction names with
  | nil=>intro acc _;rfl
  | cons x r ih=>
    intro acc hx;obtain⟨n,k⟩:=x;rw[List.forIn_cons];have hr:=λy hy=>hx y (SG _ hy);by_cases hk:k = .free
    ·subst hk;obtain⟨c,hc⟩:=hx (n,.free) SI rfl;have hc':env.cells.lookup n=some c:=hc;unfold n8;simp only[beq_self_eq_true,if_true,cellOf,hc',UV,pure_bind];exact ih _ hr
    ·have hb:(k == NameKind.free)=false:=by simpa using hk
     unfold n8;simp only[hb,To,if_false,pure_bind];exact ih _ hr
 have:=go scope.names [] h;simp only[this]
 first | rfl | simp
theorem Bk{env:Env}:∀(names:List (Str×Vr)) (acc:List (Str×VU)),(∀ x∈names,x.2 = .free->∃ c,env.cells.lookup x.1=some c)->(∀ p∈acc,env.cells.lookup p.1=some p.2)->
 ∀ p∈n8 env names acc,env.cells.lookup p.1=some p.2
 | [],_,_,ha,p,hp=>ha p hp
 | (n,k)::r,acc,h,ha,p,hp=>by
   unfold n8 at hp;have hr:=λy hy=>h y (SG _ hy);split at hp
   ·rename_i hk;have hk:k = .free:=by simpa using hk
    obtain⟨c,hc⟩:=h (n,k) SI hk;have hc':env.cells.lookup n=some c:=hc;refine Bk r _ hr (λq hq=>?_) p hp;rcases SU.mp hq with rfl | hq
    ·show env.cells.lookup n=some ((env.cells.lookup n).getD 0);rw[hc'];rfl
    ·exact ha q hq
   ·exact Bk r acc hr ha p hp
theorem Bm{env:Env}:∀(names:List (Str×Vr)) (acc:List (Str×VU)),∀ p∈acc,p∈n8 env names acc
 | [],_,_,hp=>hp
 | (n,k)::r,acc,p,hp=>by
   unfold n8;split
   ·exact Bm r _ p (SG _ hp)
   ·exact Bm r acc p hp
theorem Bn{env:Env}:∀(names:List (Str×Vr)) (acc:List (Str×VU)) (n:Str),(n,NameKind.free)∈names->∃ c,(n,c)∈n8 env names acc
 | (m,k)::r,acc,n,hn=>by
   unfold n8;rcases SU.mp hn with e | hn
   ·cases e;simp only[beq_self_eq_true,if_true];exact⟨_,Bm r _ _ SI⟩
   ·split
    ·exact Bn r _ n hn
    ·exact Bn r _ n hn
theorem Ai{env:Env}:∀(names:List (Str×Vr)) (acc:List (Str×VU)),∀ p∈n8 env names acc,p∈acc\/(p.1,NameKind.free)∈names
 | [],_,_,hp => .inl hp
 | (n,k)::r,acc,p,hp=>by
   unfold n8 at hp;split at hp
   ·rename_i hk;have hk:k = .free:=by simpa using hk
    subst hk;rcases Ai r _ p hp with z | z
    ·rcases SU.mp z with rfl | z
     ·exact .inr SI
     ·exact .inl z
    ·exact .inr (SG _ z)
   ·rcases Ai r _ p hp with z | z
    ·exact .inl z
    ·exact .inr (SG _ z)
theorem t9:∀(names:List (Str×Vr)) (n:Nat) (acc:List (Str×VU)),∀ p∈Vt n names acc,p∈acc\/(n<=p.2/\(p.1,NameKind.cell)∈names)
 | [],_,_,_,hp => .inl hp
 | (x,k)::r,n,acc,p,hp=>by
   unfold Vt at hp;split at hp
   ·rename_i hk;have hk:k = .cell:=by simpa using hk
    subst hk;rcases t9 r (n+1) _ p hp with z | ⟨z,w⟩
    ·rcases SU.mp z with rfl | z
     ·exact .inr ⟨SK _,SI⟩
     ·exact .inl z
    ·exact .inr ⟨Nat.le_of_succ_le z,SG _ w⟩
   ·rcases t9 r n acc p hp with z | ⟨z,w⟩
    ·exact .inl z
    ·exact .inr ⟨z,SG _ w⟩
theorem u7:∀(names:List (Str×Vr)) (n:Nat) (acc:List (Str×VU)),∀ p∈acc,p∈Vt n names acc
 | [],_,_,_,hp=>hp
 | (x,k)::r,n,acc,p,hp=>by
   unfold Vt;split
   ·exact u7 r _ _ p (SG _ hp)
   ·exact u7 r _ _ p hp
theorem AC:∀(names:List (Str×Vr)) (n:Nat) (acc:List (Str×VU)) (x:Str),(x,NameKind.cell)∈names->∃ c,(x,c)∈Vt n names acc
 | (y,k)::r,n,acc,x,hx=>by
   unfold Vt;rcases SU.mp hx with e | hx
   ·cases e;simp only[beq_self_eq_true,if_true];exact⟨_,u7 r _ _ _ SI⟩
   ·split
    ·exact AC r _ _ x hx
    ·exact AC r _ _ x hx
theorem AD:∀(names:List (Str×Vr)) (h:Heap) (acc:List (Str×VU)),∀ p∈Vt h.objs.size names acc,p∈acc\/(XM h names).IsCell p.2 none
 | [],_,_,_,hp => .inl hp
 | (x,k)::r,h,acc,p,hp=>by
   unfold Vt at hp;unfold XM;split at hp
   ·rename_i hk;rw[iP hk];have:=AD r (h.push {cls := .type "cell",data := .cell none}) ((x,h.objs.size)::acc) p (by rw[U5];exact hp);rcases this with z | z
    ·rcases SU.mp z with rfl | z
     ·exact .inr ⟨_,Wm _ _ _ _ (SW _ rfl),rfl⟩
     ·exact .inl z
    ·exact .inr z
   ·rename_i hk;rw[iG hk];exact AD r h acc p hp
theorem v7:∀(names:List (Str×Vr)) (n:Nat) (acc:List (Str×VU)),(acc.Pairwise λx y=>x.2≠y.2)->(∀ p∈acc,p.2<n)->(Vt n names acc).Pairwise λx y=>x.2≠y.2
 | [],_,_,h,_=>h
 | (x,k)::r,n,acc,h,hl=>by
   unfold Vt;split
   ·refine v7 r (n+1) _ (UA.mpr ⟨λy hy e=>?_,h⟩) λp hp=>?_
    ·have h1:=hl y hy;have e':n=y.2:=e;exact absurd h1 (by rw[<-e'];exact Tj _)
    ·rcases SU.mp hp with rfl | hp
     ·exact V5 _
     ·exact Ux (hl p hp)
   ·exact v7 r n acc h hl
theorem Aj{env:Env}(inj:∀ x y c,env.cells.lookup x=some c->env.cells.lookup y=some c->x=y):∀(names:List (Str×Vr)) (acc:List (Str×VU)),(names.map (·.1)).Nodup->
 (∀ x∈names,x.2 = .free->∃ c,env.cells.lookup x.1=some c)->(acc.Pairwise λx y=>x.2≠y.2)->(∀ p∈acc,env.cells.lookup p.1=some p.2/\p.1∉names.map (·.1))->(n8 env names acc).Pairwise λx y=>x.2≠y.2
 | [],_,_,_,h,_=>h
 | (n,k)::r,acc,nd,hf,h,ha=>by
   unfold n8;have nd':=TK.mp nd;have hr:=λy hy=>hf y (SG _ hy);split
   ·rename_i hk;have hk:k = .free:=by simpa using hk
    obtain⟨c,hc⟩:=hf (n,k) SI hk;have hc':env.cells.lookup n=some c:=hc;refine Aj inj r _ nd'.2 hr (UA.mpr ⟨λy hy e=>?_,h⟩) λp hp=>?_
    ·have e':(env.cells.lookup n).getD 0=y.2:=e;rw[hc']at e';have e2:c=y.2:=e';have q:=(ha y hy).1;have:=inj n y.1 c hc' (by rw[e2];exact q);exact(ha y hy).2 (by rw[<-this];exact SI)
    ·rcases SU.mp hp with rfl | hp
     ·refine⟨?_,nd'.1⟩;show env.cells.lookup n=some ((env.cells.lookup n).getD 0);rw[hc'];rfl
     ·exact⟨(ha p hp).1,λz=>(ha p hp).2 (SG _ z)⟩
   ·exact Aj inj r acc nd'.2 hr h λp hp=>⟨(ha p hp).1,λz=>(ha p hp).2 (SG _ z)⟩
theorem p8{env:Env}:∀(names:List (Str×Vr)) (x:Str),
 (names.map λ(n,k)=>if (k == NameKind.free&&env.scope.kind == .function&&env.kindOf n == some .cell) then (n,NameKind.cell) else (n,k)).lookup x=
   (names.lookup x).map λk=>if (k == NameKind.free&&env.scope.kind == .function&&env.kindOf x == some .cell) then NameKind.cell else k
 | [],x=>rfl
 | (n,k)::r,x=>by
   have ih:=p8 (env:=env) r x;rw[Sk];show Ue x ((if (k == NameKind.free&&env.scope.kind == .function&&env.kindOf n == some .cell)=true then (n,NameKind.cell) else (n,k))::_)=_;split
   ·rename_i hc;rw[TQ,TQ];cases hx:x == n with
    | false=>exact ih
    | true=>
      have e:x=n:=by simpa using hx
      subst e;simp only[Ta];rw[iP hc]
   ·rename_i hc;rw[TQ,TQ];cases hx:x == n with
    | false=>exact ih
    | true=>
      have e:x=n:=by simpa using hx
      subst e;simp only[Ta];rw[iG hc]
theorem g0{α:Type}:∀{l:List (Str×α)} {n:Str} {c:α},(l.map (·.1)).Nodup->(n,c)∈l->l.lookup n=some c
 | (k,v)::r,n,c,nd,h=>by
   have nd':=TK.mp nd;rw[TQ];rcases SU.mp h with e | h2
   ·cases e;simp
   ·cases hb:n == k with
    | true=>
      have e:n=k:=by simpa using hb
      exact absurd (Te.mpr ⟨(n,c),h2,e⟩:k∈r.map (·.1)) nd'.1
    | false=>exact g0 nd'.2 h2
theorem B8{α:Type}:∀{l:List (Str×α)} {n:Str} {c:α},(n,c)∈l->∃ d,l.lookup n=some d
 | (k,v)::r,n,c,h=>by
   rw[TQ];cases hb:n == k with
   | true=>exact⟨v,rfl⟩
   | false=>
     rcases SU.mp h with e | h
     ·cases e;simp at hb
     ·exact B8 h
noncomputable abbrev a7(X:Cx)(scope:Ve)(N':List Str)(s2:VT)(H2:Hp)(cs:List (Str×VU))(C:VU)(fp:List VU):Cx where
 prog:=X.prog
 w:=X.w
 K:=X.K
 mg:=X.mg
 base:=X.base
 A:=X.A
 N:=N'
 s₀:=s2
 H₀:=H2
 env:=Wf scope cs C X.env
 outer:=X.stack
 stack:=X.stack
 ex:=fp
 fn:=λx=>scope.names.lookup x == some .cell
 calm:=X.calm
 pn:=X.pn
 xe:=λ_ _=>False
noncomputable def j3(sc0 sc:Ve)(own cn N:List Str)(js:List Nat):Bool:=
 (decide (sc.kind = .function))&&(sc.names.all λx=>!decide (x.2 = .free)||decide (sc0.names.lookup x.1=some .cell)||decide (sc0.names.lookup x.1=some .free))
 && decide ((sc.names.map (·.1)).Nodup)&&(own.all λx=>decide (sc.names.lookup x=some .local)||decide (sc.names.lookup x=some .cell))&&(cn.all λx=>decide (sc.names.lookup x=some .free))
 && decide ((own++cn).Nodup)&&decide (js.map (λj=>N[j]?)=cn.map some)
noncomputable def AE(k:Nat)(js:List Nat)(σ:St):St:=SJ k none++js.map λj=>(σ[j]?).join
noncomputable def AU(X:Cx)(ifs:List Expr)(t:TT):Prop:=
 ∀(pq:List (VU×Obj)) (s:VT) (σ:St) (H:Hp) (Q:Bool->Hp->Prop),Inv X pq σ H s->t σ H Q->
  VX (VY X.prog X.w) X.A (forIn ifs true λc r=>if r=true then do let ok <- isTrue c X.env (eval c X.env);pure (ForInStep.yield ok) else pure (ForInStep.yield r)) (TP X pq σ Q) X.xe s
theorem Ju{X:Cx}:AU X [] (λ_ H Q=>Q true H):=λ_ _ _ H _ I h=>wpAny_tests_nil ⟨H,I,h⟩
theorem Jv{X:Cx}{c:Expr}{t:TT}(h:PT X c t):AU X [c] t:=λpq s σ H Q I hw=>wpAny_tests_one (h pq s σ H Q I hw)
theorem Jw{M:Model}{A:Vf}{E:VS->VT->Prop}{s:VT}{scope:Ve}{env:Env}{cl:List (Str×VU)}{Q:Env->VT->Prop}
 (h:Q (newEnv scope s.heap.objs.size env.globals (Vt (s.heap.objs.size+1) scope.names cl) env.qual none .none (some env) X8) {s with heap:=XM (s.heap.push {cls := .type "dict",data := .dict #[]}) scope.names}):
 VX M A (WD scope env.globals cl [] env.qual none .none (some env)) Q E s:=by
 simp only[WD,Uq,if_true];refine VR (wpAny_alloc ?_);refine VR (wpAny_layCells _ (λname kind cells=>by cases hkc:kind == NameKind.cell<;>simp[hkc]) _ _ _ _ ?_);rw[show({s with heap:=s.heap.push {cls := .type "dict",data := .dict #[]}}:VT).heap.objs.size=s.heap.objs.size+1 from U5 ..];refine VR ?_;rw[List.forIn_nil];exact VV (VV h)
structure CForm(prog:VZ)(w:Vc)(A:Vf)(E tg iter:Expr)(ifs:List Expr)(emit:VS->Env->Sem Unit)(dp:Nat:=0):Prop where
 turn:∀(it:VS) (D:VU) (env:Env),compTurn E dp it (.ref D) env=(do
  standAt iter.pos
  match <- pyNext it with
  | none=>pure (.done .next)
  | some v=>
    W7 tg it v
    assign tg env v
    let mut ok:=true
    for c in ifs do
     if ok then ok <- isTrue c env (eval c env)
    if ok then emit (.ref D) env
    again (.compLoop E dp it (.ref D) env))
 und:∀(it acc:VS) (env:Env),A.under (.compLoop E dp it acc env)=A
 den:∀(it acc:VS) (env:Env),(VY prog w).den (.compLoop E dp it acc env)=(compTurn E dp it acc env).onRaise (λx=>do noteFrame x env;theTreesLotGoes x)
 start:∀{R:Result->VT->Prop} {s:VT} {it acc:VS} {env:Env},codeAny (VY prog w) A (.compLoop E dp it acc env) R s->VX (VY prog w) A (pyIter it) (λit' s'=>codeAny (VY prog w) A (.compLoop E dp it' acc env) R s') (notedBy (VY prog w) A env λx s'=>R (.error x) s') s->
  codeAny (VY prog w) A (.compStart E dp it acc env) R s
theorem CForm.loop{prog:VZ}{w:Vc}{A:Vf}{E tg iter:Expr}{ifs:List Expr}{emit:VS->Env->Sem Unit}{dp:Nat}(F:CForm prog w A E tg iter ifs emit dp){R:Result->VT->Prop}{s:VT}{it:VS}{D:VU}{env:Env}(I:Nat->VT->Prop)
 (turn:∀ n s,I n s->VX (VY prog w) A (pyNext it) (λr s₁=>match r with
   | none=>R (.ok .next) s₁
   | some v=>VX (VY prog w) A (W7 tg it v) (λ_ s₁'=>VX (VY prog w) A (assign tg env v) (λ_ s₂=>
      VX (VY prog w) A (forIn ifs true λc r=>if r=true then do let ok <- isTrue c env (eval c env);pure (ForInStep.yield ok) else pure (ForInStep.yield r)) (λok s₃=>
       if ok=true then VX (VY prog w) A (emit (.ref D) env) (λ_ s₅=>∃ m,m<n/\I m s₅) (λ_ _=>False) s₃
       else ∃ m,m<n/\I m s₃) (λ_ _=>False) s₂) (λ_ _=>False) s₁') (λ_ _=>False) s₁) (λ_ _=>False) s)
 (n:Nat) (h:I n s):
 codeAny (VY prog w) A (.compLoop E dp it (.ref D) env) R s:=by
 refine codeAny_loop rfl I (λn s hI=>?_) n h;rw[F.und,F.den];refine wpAny_noted ?_;rw[F.turn];refine VR (Vx (VR (Vm (turn n s hI) (λr s₁ h₁=>?_) λ_ _ h'=>False.elim h')));cases r with
 | none=>exact VV h₁
 | some v=>
   refine VR (Vm h₁ (λ_ s₁' h₁'=>?_) λ_ _ h'=>False.elim h');refine VR (Vm h₁' (λ_ s₂ h₂=>VR (Vm h₂ (λok s₃ h₃=>?_) λ_ _ h'=>False.elim h')) λ_ _ h'=>False.elim h');cases ok with
   | false=>exact VV ⟨rfl,h₃⟩
   | true=>exact VR (Vm h₃ (λ_ s₅ h₅=>VV ⟨rfl,h₅⟩) λ_ _ h'=>False.elim h')
noncomputable def Fo{α:Type}(J:It)(g:TG)(tt:TT)(tem:α->St->Hp->(α->Hp->Prop)->Prop)(σ':St)(Q:Hp->Prop)(W:Nat->Nat->α->Hp->Prop):Prop:=
 ∀ i m a H,W i m a H->(J.stop i H/\Q H)\/(J.go i H/\∃ N:α->Hp->Prop,(∀ a' H',N a' H'->∃ m',m'<m/\W (i+1) m' a' H')/\∀ x H',J.yld i H x H'->g x σ' H' λσ2 H2=>tt σ2 H2 λb H3=>if b=true then tem a σ2 H3 N else N a H3)
noncomputable def Nv(elt:Expr)(acc:VS)(env:Env):Sem Unit:=do
 let x <- eval elt env
 let _ <- call (.builtin "list.append") [acc,x]
theorem Fp{prog:VZ}{w:Vc}{A:Vf}{elt tg iter:Expr}{ifs:List Expr}{scope:Ve}{pos:Pos}:CForm prog w A (.ListComp elt [⟨tg,iter,ifs,0⟩] scope pos) tg iter ifs (Nv elt) where
 turn:=λ_ _ _=>compTurn_list ..
 und:=λ_ _ _=>rfl
 den:=λ_ _ _=>rfl
 start:=λh0 h=>Wj h0 h
noncomputable def Rg(te:TE)(D:VU)(ys:List V)(σ:St)(H:Hp)(N:List V->Hp->Prop):Prop:=te σ H λv H4=>H4 D=some (.lst ys)/\ys.length<VW/\N (ys++[v]) (upd H4 D (.lst (ys++[v])))
noncomputable def Nw(J:It)(g:TG)(tt:TT)(te:TE)(D:VU)(σ':St)(Q:List V->Hp->Prop)(W:Nat->Nat->List V->Hp->Prop):Prop:=
 ∀ i m ys H,W i m ys H->(J.stop i H/\Q ys H)\/(J.go i H/\∃ N:List V->Hp->Prop,(∀ ys' H',N ys' H'->∃ m',m'<m/\W (i+1) m' ys' H')/\∀ x H',J.yld i H x H'->g x σ' H' λσ2 H2=>tt σ2 H2 λb H3=>
  if b=true then te σ2 H3 λv H4=>H4 D=some (.lst ys)/\ys.length<VW/\N (ys++[v]) (upd H4 D (.lst (ys++[v]))) else N ys H3)
noncomputable def Jx(wi:TI)(g:TG)(tt:TT)(te:TE)(k:Nat)(js:List Nat):TE:=λσ H Q=>wi σ H λJ H1=>∀ D,H1 D=none->
 ∃ W:Nat->Nat->List V->Hp->Prop,(∃ m,W 0 m [] (upd H1 D (.lst [])))/\Nw J g tt te D (AE k js σ) (λ_ H=>Q (.ref D) H) W
section
variable{X:Cx}{pq:List (VU×Obj)}{σ:St}{H2:Hp}{s2:VT}{tg elt iter:Expr}{ifs:List Expr}{scope:Ve}{pos:Pos}{own cn:List Str}{js:List Nat}{g:TG}{tt:TT}{te:TE}
theorem C4{α:Type}{E:Expr}{emit:VS->Env->Sem Unit}{mk:Sem VS}{o0:Obj}{u0:HO}{a0:α}{tem:VU->α->St->Hp->(α->Hp->Prop)->Prop}(F:CForm X.prog X.w X.A E tg iter ifs emit)(hmk:∀{Q:VS->VT->Prop},Q (.ref s2.heap.objs.size) {s2 with heap:=s2.heap.push o0}->VX (VY X.prog X.w) X.A mk Q X.xe s2)(nf0:o0.isFreed=false)(new0:∀(H:Hp) (h:Heap),h.get? s2.heap.objs.size=some o0->ObjOk X.prog X.w H h s2.heap.objs.size u0)(hok:j3 X.env.scope scope own cn X.N js=true)(hc:X.calm=true)
 (hg:∀ s2 H2 cs C fp,PG (a7 X scope (own++cn) s2 H2 cs C fp) tg g) (ht:∀ s2 H2 cs C fp,AU (a7 X scope (own++cn) s2 H2 cs C fp) ifs tt) (hem:∀ D s2 H2 cs C fp pq s σ H (a:α) (N:α->Hp->Prop),Inv (a7 X scope (own++cn) s2 H2 cs C fp) pq σ H s->tem D a σ H N->VX (VY X.prog X.w) X.A (emit (.ref D) (Wf scope cs C X.env)) (λ_ s1=>∃ σ1 a1 H1,Inv (a7 X scope (own++cn) s2 H2 cs C fp) pq σ1 H1 s1/\N a1 H1) (λ_ _=>False) s)
 (I2:Inv X pq σ H2 s2) {it:VU} {fp:List VU} {tn:Nat->Heap->Prop} {J:It} (T:Turn X.prog X.w X.K tg J fp it tn) (st2:tn 0 s2.heap) (f2:∀ b∈fp,FpOk X pq H2 b)
 {Qe:Hp->Prop} (hW:∃ W:Nat->Nat->α->Hp->Prop,(∃ m,W 0 m a0 (upd H2 s2.heap.objs.size u0))/\Fo J g tt (tem s2.heap.objs.size) (AE own.length js σ) Qe W)
 {RR:VS->VU->Result->VT->Prop}
 (hRR:∀ C H' s',Inv X pq σ H' s'->FpOk X pq H' C->(∃ m,s'.heap.Ns C m)->Qe H'->RR (.ref s2.heap.objs.size) C (.ok .next) s'):
 VX (VY X.prog X.w) X.A mk (λacc s₃=>VX (VY X.prog X.w) X.A (WD scope X.env.globals (n8 X.env scope.names []) [] X.env.qual none .none (some X.env)) (λcenv s₄=>
  codeAny (VY X.prog X.w) X.A (.compStart E 0 (.ref it) acc {cenv with scope:=relabel scope X.env}) (RR acc cenv.locals) s₄) X.xe s₃) X.xe s2:=by
 unfold j3 at hok;simp only[S8,dQ,SZ,Sz,Sh,decide_eq_false_iff_not]at hok;obtain⟨⟨⟨⟨⟨⟨k1,k2⟩,k3⟩,k4⟩,k5⟩,k6⟩,k7⟩:=hok
 have hfreeK:∀ x∈scope.names,x.2 = .free->X.env.kindOf x.1=some .cell\/X.env.kindOf x.1=some .free:=λx hx hf=>by
  rcases k2 x hx with(z | z) | z
  ·exact absurd hf z
  ·exact .inl z
  ·exact .inr z
 have hfree:∀ x∈scope.names,x.2 = .free->∃ c,X.env.cells.lookup x.1=some c:=λx hx hf=>I2.ok.has x.1 (hfreeK x hx hf);refine hmk (Jw ?_);have hsz3:(s2.heap.push o0).objs.size=s2.heap.objs.size+1:=U5 ..;dsimp only;generalize hh3:s2.heap.push o0=h3 at hsz3 ⊢;have old3:∀ b o,s2.heap.get? b=some o->h3.get? b=some o:=λb o e=>hh3▸SD _ e;have hD3:h3.get? s2.heap.objs.size=some o0:=hh3▸SW _ nf0;generalize hcs:Vt (h3.objs.size+1) scope.names (n8 X.env scope.names [])=cs;generalize hh4:XM (h3.push {cls := .type "dict",data := .dict #[]}) scope.names=h4;have old4:∀ b o,h3.get? b=some o->h4.get? b=some o:=λb o e=>hh4▸Wm _ _ b o (SD _ e);have old:∀ b o,s2.heap.get? b=some o->h4.get? b=some o:=λb o e=>old4 b o (old3 b o e);have hD4:h4.get? s2.heap.objs.size=some o0:=old4 _ _ hD3;have hNs:h4.Ns h3.objs.size (λ_=>none):=hh4▸(Heap.Ns.new h3 (.type "dict")).keeps (Wm _ _);generalize hC:h3.objs.size=C at hNs hcs ⊢;have hCD:@Eq Nat C (s2.heap.objs.size+1):=by rw[<-hC];exact hsz3
 have clM:=Bk (env:=X.env) scope.names [] hfree (λp hp=>absurd hp (by simp));have cellLt:∀ x c,X.env.cells.lookup x=some c->@LT.lt Nat _ c s2.heap.objs.size:=λx c e=>by obtain⟨v,z⟩:=I2.cell x c e;exact z.lt
 have apart:cs.Pairwise λx y=>x.2≠y.2:=by
  rw[<-hcs];refine v7 _ _ _ (Aj I2.ok.inj scope.names [] k3 hfree List.Pairwise.nil λp hp=>absurd hp (by simp)) λp hp=>?_;have:=cellLt _ _ (clM p hp);show @LT.lt Nat _ p.2 (C+1);omega
 have csM:∀ p∈cs,X.env.cells.lookup p.1=some p.2\/(C+1<=p.2/\(p.1,NameKind.cell)∈scope.names/\h4.IsCell p.2 none):=λp hp=>by
  have hp0:=hp;rw[<-hcs]at hp;rcases t9 _ _ _ p hp with z | ⟨z,y⟩
  ·exact .inl (clM p z)
  ·have e:h3.objs.size+1=(h3.push {cls := .type "dict",data := .dict #[]}).objs.size:=by rw[U5]
   have hp':=hp;rw[<-hC,e]at hp';rcases AD _ _ _ p hp' with q | q
   ·exact .inl (clM p q)
   ·exact .inr ⟨z,y,hh4▸q⟩
 have hX:(a7 X scope (own++cn) s2 H2 cs C fp).Ok:=by
  refine⟨I2.ok.mod,k1,I2.ok.glob,I2.ok.blt,by show @LE.le Nat _ s2.heap.objs.size C;omega,λx y c h1 h2=>name_of_addr apart (PySem.mem_of_lookup h1) (PySem.mem_of_lookup h2),λx hx=>?_,λx c hf hx=>?_,I2.ok.hd,I2.ok.frames,.inl rfl,λb hb=>?_,I2.bs,Sj I2.ok.bsz I2.sz,λb o e hb=>?_,λb hb hf=>?_,I2.stack,I2.stkFree⟩
  ·have hx':(relabel scope X.env).names.lookup x=some .cell\/(relabel scope X.env).names.lookup x=some .free:=hx
   have hl:scope.names.lookup x=some .cell\/scope.names.lookup x=some .free:=by
    unfold relabel at hx';dsimp only at hx';rw[p8]at hx';cases e:scope.names.lookup x with
    | none=>rw[e]at hx';simp at hx'
    | some k=>
      rw[e]at hx';cases k<;>simp_all
   have:∃ c,(x,c)∈cs:=by
    rw[<-hcs];rcases hl with hl | hl
    ·exact AC _ _ _ x (PySem.mem_of_lookup hl)
    ·obtain⟨c,hc'⟩:=Bn (env:=X.env) scope.names [] x (PySem.mem_of_lookup hl);exact⟨c,u7 _ _ _ _ hc'⟩
   obtain⟨c,hm⟩:=this;exact B8 hm
  ·have hf':scope.names.lookup x=some .cell:=by simpa using hf
   have hm:=PySem.mem_of_lookup (show cs.lookup x=some c from hx);rcases csM _ hm with z | ⟨z,_⟩
   ·
    rw[<-hcs]at hm;rcases t9 _ _ _ _ hm with q | ⟨q,_⟩
    ·rcases Ai (env:=X.env) scope.names [] _ q with q' | q'
     ·exact absurd q' (by simp)
     ·have:=g0 k3 q';have h2:scope.names.lookup x=some .free:=this;rw[hf']at h2;cases h2
    ·show @LE.le Nat _ s2.heap.objs.size c;have q2:@LE.le Nat _ (C+1) c:=q;omega
   ·show @LE.le Nat _ s2.heap.objs.size c;have z2:@LE.le Nat _ (C+1) c:=z;omega
  ·obtain⟨f0,f1,f2',f3,f4,f5⟩:=f2 b hb;obtain⟨o,ho,_⟩:=T.obj 0 _ st2 b hb;have hb2:@LT.lt Nat _ b s2.heap.objs.size:=SN ho;refine⟨?_,λx c e=>?_⟩
   ·show @Ne Nat b C;omega
   ·rcases csM _ (PySem.mem_of_lookup (show cs.lookup x=some c from e)) with z | ⟨z,_⟩
    ·exact f4 x c z
    ·have z2:@LE.le Nat _ (C+1) c:=z;show @Ne Nat c b;omega
  ·obtain⟨f0,f1,f2',f3,f4,f5⟩:=f2 b hb;rcases f3 with z | z
   ·exact I2.ok.noex b o e z
   ·exact absurd (Se (SN e) (Sj I2.ok.bsz z)) (Tj _)
  ·obtain⟨f0,f1,f2',_⟩:=f2 b hb;rcases SU.mp (I2.stkSub b hf) with z | z
   ·exact f1 z
   ·exact f2' z
 have hDn:H2 s2.heap.objs.size=none:=I2.fresh;have hCn:H2 C=none:=I2.hok.fresh (show @LE.le Nat _ s2.heap.objs.size C by omega)
 have stkNe:∀ b,b≠X.env.locals->b∉X.fs->b∉frs X.stack:=λb h1 h2 hb=>by
  rcases SU.mp (I2.stkSub b hb) with z | z
  ·exact h1 z
  ·exact h2 z
 have I4:Inv (a7 X scope (own++cn) s2 H2 cs C fp) pq (AE own.length js σ) (upd H2 s2.heap.objs.size u0) {s2 with heap:=h4}:=by
  refine⟨hX,rfl,I2.bare,Un.laid old (SK _) hDn,⟨λ_=>none,hNs,λi x v e1 e2 e3=>?_⟩,λx c e=>?_,?_,λx c e=>?_,λp hp=>?_,I2.hok.laid old (SK _) (new0 _ _ hD4),?_⟩
  ·
   have hi:own.length<=i:=by
    rcases Uy i own.length with z | z
    ·exfalso;unfold AE at e2;rw[SY (by simpa using z),Th,iP z]at e2;cases e2
    ·exact z
   have e1':cn[i - own.length]?=some x:=by
    have:(own++cn)[i]?=some x:=e1;rw[So hi]at this;exact this
   have e2':(js.map λj=>(σ[j]?).join)[i - own.length]?=some (some v):=by
    unfold AE at e2;rw[So (by simpa using hi)]at e2;simpa using e2
   rw[SL]at e2';cases hj:js[i - own.length]? with
   | none=>rw[hj]at e2';cases e2'
   | some j=>
     rw[hj]at e2';have e2'':(σ[j]?).join=some v:=by simpa using e2'
     have hσ:σ[j]?=some (some v):=by
      cases q:σ[j]? with
      | none=>rw[q]at e2'';cases e2''
      | some z=>rw[q]at e2'';simp at e2'';rw[e2'']
     have hNx:X.N[j]?=some x:=by
      have:=congrArg (λl=>l[i - own.length]?) k7;simp only[SL,hj,e1',Ta]at this;exact oj this
     have hfx:scope.names.lookup x=some .free:=k5 x (SB e1');have hK:=hfreeK (x,.free) (PySem.mem_of_lookup hfx) rfl;have hK':X.env.kindOf x=some .cell\/X.env.kindOf x=some .free:=hK;obtain⟨m,hn,hl⟩:=I2.loc
     have hvis:Vis X.env.scope x:=by
      rcases hK' with z | z
      ·exact .inr (.inl z)
      ·exact .inr (.inr z)
     obtain⟨u,r,l⟩:=hl j x v hNx hσ hvis;refine⟨u,r,.inr ?_⟩;rcases l with⟨l1,_⟩ | ⟨l1,c,l2,l3⟩
     ·rcases hK' with z | z
      ·rw[z]at l1;cases l1
      ·rw[z]at l1;cases l1
     ·have hrl:(Wf scope cs C X.env).kindOf x=some .cell\/(Wf scope cs C X.env).kindOf x=some .free:=by
       show(relabel scope X.env).names.lookup x=_\/(relabel scope X.env).names.lookup x=_;unfold relabel;dsimp only;rw[p8,hfx];simp only[Ta];split
       ·exact .inl rfl
       ·exact .inr rfl
      refine⟨hrl,c,?_,l3.keeps λb o e=>old b o e⟩;show cs.lookup x=some c;obtain⟨c',hc'⟩:=hX.has x hrl;have hc2:cs.lookup x=some c':=hc';rw[hc2];have hm:=PySem.mem_of_lookup hc2
      have:X.env.cells.lookup x=some c':=by
       rcases csM _ hm with z | ⟨_,z,_⟩
       ·exact z
       ·have:=g0 k3 z;have h2:scope.names.lookup x=some .cell:=this;rw[hfx]at h2;cases h2
      rw[l2]at this;exact this.symm
  ·rcases csM _ (PySem.mem_of_lookup (show cs.lookup x=some c from e)) with z | ⟨_,_,z⟩
   ·obtain⟨v,q⟩:=I2.cell _ _ z;exact⟨v,q.keeps λb o e=>old b o e⟩
   ·exact⟨none,z⟩
  ·show upd H2 s2.heap.objs.size u0 C=none;rw[a8 (show @Ne Nat C s2.heap.objs.size by omega)];exact hCn
  ·have hne:c≠s2.heap.objs.size/\H2 c=none:=by
    rcases csM _ (PySem.mem_of_lookup (show cs.lookup x=some c from e)) with z | ⟨z,_,_⟩
    ·exact⟨SS (cellLt _ _ z),I2.freeC _ _ z⟩
    ·have z2:@LE.le Nat _ (C+1) c:=z;exact⟨show @Ne Nat c s2.heap.objs.size by omega,I2.hok.fresh (show @LE.le Nat _ s2.heap.objs.size c by omega)⟩
   rw[a8 hne.1];exact hne.2
  ·obtain⟨e,n,ne,nf,d⟩:=I2.pin p hp;have hlt:@LT.lt Nat _ p.1 s2.heap.objs.size:=SN e;refine⟨old _ _ e,?_,?_,stkNe _ ne nf,d⟩
   ·rw[a8 (SS hlt)];exact n
   ·show @Ne Nat p.1 C;omega
  ·show(AE own.length js σ).length=(own++cn).length;unfold AE;have hl:=congrArg UC k7;simp only[S7]at hl;simp[hl]
 have stat:∀{H':Hp},(∀ b∈fp,H' b=none)->∀ b∈fp,FpOk (a7 X scope (own++cn) s2 H2 cs C fp) pq H' b:=λhn b hb=>by
  obtain⟨f0,f1,f2',f3,f4,f5⟩:=f2 b hb;exact⟨hn b hb,(hX.exf b hb).1,stkNe b f1 f2',.inl hb,λx c e=>(hX.exf b hb).2 x c e,f5⟩
 have back:∀{σ':St} {H':Hp} {s':VT},Inv (a7 X scope (own++cn) s2 H2 cs C fp) pq σ' H' s'->Inv X pq σ H' s':=λ{σ' H' s'} J'=>
  I2.call' (ch:=fp) J'.os J'.base J'.hok J'.bare λb hb=>by
   obtain⟨f0,f1,f2',f3,f4,f5⟩:=f2 b hb;exact⟨f3,f1,f4,f5⟩
 obtain⟨W,⟨m0,w0⟩,turn⟩:=hW
 have loop:codeAny (VY X.prog X.w) X.A (.compLoop E 0 (.ref it) (.ref s2.heap.objs.size) (Wf scope cs C X.env)) (RR (.ref s2.heap.objs.size) C) {s2 with heap:=h4}:=by
  refine F.loop (λn s'=>∃ i ys H',Inv (a7 X scope (own++cn) s2 H2 cs C fp) pq (AE own.length js σ) H' s'/\tn i s'.heap/\(∀ b∈fp,H' b=none)/\W i n ys H') ?_ m0
   ⟨0,a0,_,I4,T.keep _ _ _ st2 λb hb o e=>old b o e,λb hb=>?_,w0⟩
  ·rintro n s3 ⟨i,ys,H3,I3,st3,fr3,w3⟩;rcases turn i n ys H3 w3 with⟨stop,q⟩ | ⟨go,N,hN,step⟩
   ·refine thn (T.done (a7 X scope (own++cn) s2 H2 cs C fp) rfl rfl rfl hc i pq s3 _ H3 _ I3 (stat fr3) st3 stop) λr s4 ⟨hr,I5⟩=>?_;subst hr;obtain⟨m,hn,_⟩:=I5.loc;exact hRR C H3 s4 (back I5) (I2.fpOk (show @LE.le Nat _ s2.heap.objs.size C by omega) I5.free) ⟨m,hn⟩ q
   ·refine thn (T.item (a7 X scope (own++cn) s2 H2 cs C fp) rfl rfl rfl hc i pq s3 _ H3 _ I3 (stat fr3) st3 go) λr s4 ⟨u,hr,h4'⟩=>?_;subst hr;refine thn h4' λ_ s5 ⟨x,H5,I5,r5,y5,st5,fr5⟩=>?_;have I5':=I5.pinned (stat fr5) (T.obj _ _ st5);refine thn (hg s2 H2 cs C fp _ s5 _ H5 x u _ I5' r5 (step x H5 y5)) λ_ s6 ⟨σ6,H6,I6,q6⟩=>?_;refine thn (ht s2 H2 cs C fp _ s6 σ6 H6 _ I6 q6) λb s7 ⟨H7,I7,q7⟩=>?_
    have again:∀{σ8:St} {H8:Hp} {s8:VT} {ys8:α},Inv (a7 X scope (own++cn) s2 H2 cs C fp) (pq++Af fp s5.heap) σ8 H8 s8->(∀(j:Nat) v,(AE own.length js σ)[j]?=some (some v)->σ8[j]?=some (some v))->(∃ m',m'<n/\W (i+1) m' ys8 H8)->
     ∃ m,m<n/\∃ i ys H',Inv (a7 X scope (own++cn) s2 H2 cs C fp) pq (AE own.length js σ) H' s8/\tn i s8.heap/\(∀ b∈fp,H' b=none)/\W i m ys H':=λ{σ8 H8 s8 ys8} I8 hw8 ⟨m',hm,w8⟩=>by
     refine⟨m',hm,i+1,ys8,H8,I8.unpinned.weak (by rw[I8.len,I4.len]) hw8,T.keep _ _ _ st5 λb hb o e=>(I8.pin (b,o) (Si _ (Si _ (t5 hb e)))).1,λb hb=>?_,w8⟩;obtain⟨o,e,d⟩:=T.obj _ _ st5 b hb;exact(I8.pin (b,o) (Si _ (Si _ (t5 hb e)))).2.1
    have capK:∀{σ8:St} {H8:Hp} {s8:VT},Inv (a7 X scope (own++cn) s2 H2 cs C fp) (pq++Af fp s5.heap) σ8 H8 s8->Inv (a7 X scope (own++cn) s2 H2 cs C fp) (pq++Af fp s5.heap) (AE own.length js σ) H8 s8:=λ{σ8 H8 s8} I8=>by
     have IX:=back I8.unpinned;refine⟨I8.ok,I8.os,I8.bare,I8.base,?_,I8.cell,I8.free,I8.freeC,I8.pin,I8.hok,I4.len⟩;obtain⟨m,hn,_⟩:=I8.loc;refine⟨m,hn,λi x v e1 e2 e3=>?_⟩;obtain⟨mx,hnx,hlx⟩:=IX.loc
     have hi:own.length<=i:=by
      rcases Uy i own.length with z | z
      ·exfalso;unfold AE at e2;rw[SY (by simpa using z),Th,iP z]at e2;cases e2
      ·exact z
     have e1':cn[i - own.length]?=some x:=by
      have:(own++cn)[i]?=some x:=e1;rw[So hi]at this;exact this
     have e2':(js.map λj=>(σ[j]?).join)[i - own.length]?=some (some v):=by
      unfold AE at e2;rw[So (by simpa using hi)]at e2;simpa using e2
     rw[SL]at e2';cases hj:js[i - own.length]? with
     | none=>rw[hj]at e2';cases e2'
     | some j=>
       rw[hj]at e2';have e2'':(σ[j]?).join=some v:=by simpa using e2'
       have hσ:σ[j]?=some (some v):=by
        cases q:σ[j]? with
        | none=>rw[q]at e2'';cases e2''
        | some z=>rw[q]at e2'';simp at e2'';rw[e2'']
       have hNx:X.N[j]?=some x:=by
        have:=congrArg (λl=>l[i - own.length]?) k7;simp only[SL,hj,e1',Ta]at this;exact oj this
       have hfx:scope.names.lookup x=some .free:=k5 x (SB e1');have hK':X.env.kindOf x=some .cell\/X.env.kindOf x=some .free:=hfreeK (x,.free) (PySem.mem_of_lookup hfx) rfl
       have hvis:Vis X.env.scope x:=by
        rcases hK' with z | z
        ·exact .inr (.inl z)
        ·exact .inr (.inr z)
       obtain⟨u,r,l⟩:=hlx j x v hNx hσ hvis;refine⟨u,r,.inr ?_⟩;rcases l with⟨l1,_⟩ | ⟨l1,c,l2,l3⟩
       ·rcases hK' with z | z
        ·rw[z]at l1;cases l1
        ·rw[z]at l1;cases l1
       ·have hrl:(Wf scope cs C X.env).kindOf x=some .cell\/(Wf scope cs C X.env).kindOf x=some .free:=by
         show(relabel scope X.env).names.lookup x=_\/(relabel scope X.env).names.lookup x=_;unfold relabel;dsimp only;rw[p8,hfx];simp only[Ta];split
         ·exact .inl rfl
         ·exact .inr rfl
        refine⟨hrl,c,?_,l3⟩;show cs.lookup x=some c;obtain⟨c',hc'⟩:=hX.has x hrl;have hc2:cs.lookup x=some c':=hc';rw[hc2];have hm:=PySem.mem_of_lookup hc2
        have:X.env.cells.lookup x=some c':=by
         rcases csM _ hm with z | ⟨_,z,_⟩
         ·exact z
         ·have:=g0 k3 z;have h2:scope.names.lookup x=some .cell:=this;rw[hfx]at h2;cases h2
        rw[l2]at this;exact this.symm
    cases b with
    | false=>
      rw[iG SH];rw[iG SH]at q7;exact again (capK I7) (λ_ _ e=>e) (hN _ _ q7)
    | true=>
      rw[iP rfl];rw[iP rfl]at q7;exact thn (hem _ s2 H2 cs C fp _ s7 σ6 H7 _ _ I7 q7) λ_ s9 ⟨σ9,a9,H9,I9,q9⟩=>again (capK I9) (λ_ _ e=>e) (hN _ _ q9)
  ·obtain⟨f0,_⟩:=f2 b hb;obtain⟨o,ho,_⟩:=T.obj 0 _ st2 b hb;rw[a8 (SS (SN ho))];exact f0
 exact F.start loop (T.self _ 0 _ _ _ (T.keep _ _ _ st2 λb hb o e=>old b o e) loop)
theorem CJ(hok:j3 X.env.scope scope own cn X.N js=true)(hc:X.calm=true)
 (hg:∀ s2 H2 cs C fp,PG (a7 X scope (own++cn) s2 H2 cs C fp) tg g) (ht:∀ s2 H2 cs C fp,AU (a7 X scope (own++cn) s2 H2 cs C fp) ifs tt) (he:∀ s2 H2 cs C fp,PE (a7 X scope (own++cn) s2 H2 cs C fp) elt te)
 (I2:Inv X pq σ H2 s2) {it:VU} {fp:List VU} {tn:Nat->Heap->Prop} {J:It} (T:Turn X.prog X.w X.K tg J fp it tn) (st2:tn 0 s2.heap) (f2:∀ b∈fp,FpOk X pq H2 b)
 {Qe:Hp->Prop} (hW:∃ W:Nat->Nat->List V->Hp->Prop,(∃ m,W 0 m [] (upd H2 s2.heap.objs.size (.lst [])))/\Nw J g tt te s2.heap.objs.size (AE own.length js σ) (λ_ H=>Qe H) W)
 {RR:VS->VU->Result->VT->Prop}
 (hRR:∀ C H' s',Inv X pq σ H' s'->FpOk X pq H' C->(∃ m,s'.heap.Ns C m)->Qe H'->RR (.ref s2.heap.objs.size) C (.ok .next) s'):
 VX (VY X.prog X.w) X.A (newList []) (λacc s₃=>VX (VY X.prog X.w) X.A (WD scope X.env.globals (n8 X.env scope.names []) [] X.env.qual none .none (some X.env)) (λcenv s₄=>
  codeAny (VY X.prog X.w) X.A (.compStart (.ListComp elt [⟨tg,iter,ifs,0⟩] scope pos) 0 (.ref it) acc {cenv with scope:=relabel scope X.env}) (RR acc cenv.locals) s₄) X.xe s₃) X.xe s2:=by
 obtain⟨W,w0,hw⟩:=hW;refine C4 (RR:=RR) (a0:=[]) (o0:={cls := .type "list",dict:=none,data := .seq ([]:List VS).toArray}) (u0 := .lst []) (tem:=Rg te) Fp (λhq=>Vh hq) rfl (λ_ _ hD=>⟨Tf _,[],0,.nil,hD⟩) hok hc hg ht (λD s2 H2 cs C fp pq s σ H ys N I h=>?_) I2 T st2 f2 ⟨W,w0,hw⟩ hRR;refine VR (thn (he s2 H2 cs C fp _ s σ H _ I h) λy s8 ⟨v,H8,I8,r8,hD8,hz8,q8⟩=>?_);refine VR (thn (Ay (X:=a7 X scope (own++cn) s2 H2 cs C fp) _ s8 σ H8 (.ref D) [v] (.ref D) [y] (λ_ H9=>H9=upd H8 D (.lst (ys++[v]))) I8 rfl (.cons r8 .nil) ⟨_,ys,v,rfl,rfl,hD8,hz8,rfl⟩) λ_ s9 ⟨z,H9,I9,r9,e9⟩=>?_);subst e9;exact VV ⟨_,_,_,I9,q8⟩
theorem MN{wi:TI}(own cn:List Str)(js:List Nat)(hi:PI X tg iter wi)(hg:∀ s2 H2 cs C fp,PG (a7 X scope (own++cn) s2 H2 cs C fp) tg g)(ht:∀ s2 H2 cs C fp,AU (a7 X scope (own++cn) s2 H2 cs C fp) ifs tt)
 (he:∀ s2 H2 cs C fp,PE (a7 X scope (own++cn) s2 H2 cs C fp) elt te) (hc:X.calm=true:=by rfl) (hok:j3 X.env.scope scope own cn X.N js=true:=by kernel_rfl)
 (hs:∀ x,Vk iter X.env x=pure x:=by intro _;rfl):PE X (.ListComp elt [⟨tg,iter,ifs,0⟩] scope pos) (Jx wi g tt te own.length js):=by
 intro pq s σ H Q I h;have hok':=hok;unfold j3 at hok';simp only[S8,dQ,SZ,Sz,Sh,decide_eq_false_iff_not]at hok';obtain⟨⟨⟨⟨⟨⟨k1,k2⟩,k3⟩,k4⟩,k5⟩,k6⟩,k7⟩:=hok'
 have hfree:∀ x∈scope.names,x.2 = .free->∃ c,X.env.cells.lookup x.1=some c:=λx hx hf=>I.ok.has x.1 (by
  rcases k2 x hx with(z | z) | z
  ·exact absurd hf z
  ·exact .inl z
  ·exact .inr z)
 rw[eval_ListComp];refine W0 (use:=none) rfl hs (l9 hfree) k1 (λx hx hl=>?_) (thn (hi pq s σ H _ I h) λv s1 h1=>thn h1 λitv s2 h2=>?_)
 ·have:=g0 k3 (show(x.1,x.2)∈scope.names from hx);rw[this,hl]
 ·obtain⟨it,fp,tn,J,H2,e,I2,T,st2,f2,q⟩:=h2;subst e;refine CJ (RR:=λacc C=>Xf (VY X.prog X.w) X.A X.xe none (EP X pq σ Q) acc C) hok hc hg ht he I2 T st2 f2 (q _ I2.fresh) ?_;intro C H' s' I' fC ⟨m,hn⟩ q';obtain⟨f0,f1,f2',f3,f4,f5⟩:=fC;refine⟨m,hn,λh' hs'=>⟨.ref s2.heap.objs.size,H',?_,rfl,q'⟩⟩;exact I'.turned (t':=s'.toks) (λb o hb e=>(hs'.2 b hb).trans e) f0 f1 f3 f4 f5
theorem Fq{wi:TI}{i:Nat}{x:Str}{px spos:Pos}(own cn:List Str)(js:List Nat)(hN:X.N.Nodup)(hix:X.N[i]?=some x)(hx:X.env.scope.names.lookup x=some .local)(hi:PI X tg iter wi)
 (hg:∀ s2 H2 cs C fp,PG (a7 X scope (own++cn) s2 H2 cs C fp) tg g) (ht:∀ s2 H2 cs C fp,AU (a7 X scope (own++cn) s2 H2 cs C fp) ifs tt)
 (he:∀ s2 H2 cs C fp,PE (a7 X scope (own++cn) s2 H2 cs C fp) elt te) (hc:X.calm=true:=by rfl) (hok:j3 X.env.scope scope own cn X.N js=true:=by kernel_rfl)
 (hsw:Vv (.ListComp elt [⟨tg,iter,ifs,0⟩] scope pos) (some (.Name x px)) spos.line X.env=pure true:=by rfl)
 (hs:∀ x,Vk iter X.env x=pure x:=by intro _;rfl):PS X (.Assign [.Name x px] (.ListComp elt [⟨tg,iter,ifs,0⟩] scope pos) spos) (Fb (Jx wi g tt te own.length js) (EI i)):=by
 intro pq s σ H D I h;have hok':=hok;unfold j3 at hok';simp only[S8,dQ,SZ,Sz,Sh,decide_eq_false_iff_not]at hok';obtain⟨⟨⟨⟨⟨⟨k1,k2⟩,k3⟩,k4⟩,k5⟩,k6⟩,k7⟩:=hok'
 have hfree:∀ x∈scope.names,x.2 = .free->∃ c,X.env.cells.lookup x.1=some c:=λx hx hf=>I.ok.has x.1 (by
  rcases k2 x hx with(z | z) | z
  ·exact absurd hf z
  ·exact .inl z
  ·exact .inr z)
 rw[Wq _ _ _ _ hsw];refine VR (Vx (VR ?_));show VX _ X.A (do let _ <- comprehension (.ListComp elt [⟨tg,iter,ifs,0⟩] scope pos) scope X.env _ (newList []) false (eval iter X.env) (some (assign (.Name x px) X.env))) _ _ s
 refine VR (Vm (W0 (use:=some (assign (.Name x px) X.env)) (Q:=λ_ s'=>SP X pq D .next s') rfl hs (l9 hfree) k1 (λx hx hl=>?_)
  (thn (hi pq s σ H _ I h) λv s1 h1=>thn h1 λitv s2 h2=>?_)) (λ_ s' hq=>VV (VV hq)) λ_ _ e=>e)
 ·have:=g0 k3 (show(x.1,x.2)∈scope.names from hx);rw[this,hl]
 ·obtain⟨it,fp,tn,J,H2,e,I2,T,st2,f2,q⟩:=h2;subst e;refine CJ (RR:=λacc C=>Xf (VY X.prog X.w) X.A X.xe (some (assign (.Name x px) X.env)) (λ_ s'=>SP X pq D .next s') acc C) hok hc hg ht he I2 T st2 f2 (q _ I2.fresh) ?_;intro C H' s' I' fC ⟨m,hn⟩ q';obtain⟨f0,f1,f2',f3,f4,f5⟩:=fC;show VX _ X.A (assign (.Name x px) X.env (.ref s2.heap.objs.size)) _ _ _;refine Wa (Bg I' hN hix (.inl hx) (v := .ref s2.heap.objs.size) rfl (λs3 I3 hch=>?_) (.inr hx));obtain⟨a,hsb,ha⟩:=hch
  have hCa:C≠a:=by
   rcases ha with z | z
   ·rw[z];exact f1
   ·exact λe=>f4 x a z e.symm
  refine⟨m,hn.sameBut hsb hCa,λh' hs'=>?_⟩;exact⟨_,H',I3.turned (t':=s3.toks) (λb o hb e=>(hs'.2 b hb).trans e) f0 f1 f3 f4 f5,q'⟩
end
end L2
namespace PySem
open AutoSeq1 (wpAny_loadPart')
section
variable{prog:VZ}{w:Vc}{A:Vf}{E:VS->VT->Prop}{s:VT}
theorem Ad{it l:VU}{i:Nat}{items}{x:VS}{Q:VS->VT->Prop}(hit:s.heap.IsTupleIter it l i)
 (hl:s.heap.IsTuple l items) (hx:items[i]?=some x)
 (hQ:∀ h',h'.IsTupleIter it l (i+1)->TM it s.heap h'->Q x {s with heap:=h'}):
 VX (VY prog w) A (Builtin.SmallTypes.nextOf (.ref it)) Q E s:=by
 obtain⟨o,ho,hc,hd⟩:=id hit;obtain⟨ol,hol,_,nl,hdl⟩:=hl;unfold Builtin.SmallTypes.nextOf
 refine VR (Vn (name:=Str.ofString "__next__") hit.typeIs F.slot_tuple_iterator_next
  (Vp F.slot_tuple_iterator_next hit.typeIs F.entry_tuple_iterator_next ?_ (F.args_tuple_iterator_next_1 _)))
 show VX _ _ (field (.ref it) 0 >>= _) _ _ s;refine VR (WB ho hd (x := .ref l) rfl ?_);show VX _ _ (if (Value.ref l == Value.none)=true then _ else _) _ _ s;rw[iG (show ¬ ((Value.ref l == Value.none)=true) from SH)];show VX _ _ (field (.ref it) 1 >>= _) _ _ s;refine VR (WB ho hd (x := .int i 0) rfl ?_);show VX _ _ (seqItems? (.ref l) >>= _) _ _ s;refine VR (Wu hol hdl ?_);simp only[U4,hx];refine VR (WV ho hd (by simp) (VV ⟨x,rfl,VV (hQ _ ?_ (TM.update ..))⟩))
 exact⟨_,U3 _ ho (Obj.isFreed_of_fields (Obj.data_mapFields hd _)),(Obj.cls_mapFields ..).trans hc,by
  rw[Obj.data_mapFields hd];simp[rawInt]⟩
theorem Ak{it l:VU}{i:Nat}{items}{Q:VS->VT->Prop}(hh:A.handled=none)
 (hit:s.heap.IsTupleIter it l i) (hl:s.heap.IsTuple l items) (hx:items[i]?=none)
 (hE:∀ h' e,VQ it s.heap h'->(∃ o,h'.get? e=some o/\o.cls = .type "StopIteration")->E (.ref e) {s with heap:=h'}):
 VX (VY prog w) A (Builtin.SmallTypes.nextOf (.ref it)) Q E s:=by
 obtain⟨o,ho,hc,hd⟩:=id hit;obtain⟨ol,hol,_,nl,hdl⟩:=hl;unfold Builtin.SmallTypes.nextOf
 refine VR (Vn (name:=Str.ofString "__next__") hit.typeIs F.slot_tuple_iterator_next
  (Vp F.slot_tuple_iterator_next hit.typeIs F.entry_tuple_iterator_next ?_ (F.args_tuple_iterator_next_1 _)))
 show VX _ _ (field (.ref it) 0 >>= _) _ _ s;refine VR (WB ho hd (x := .ref l) rfl ?_);show VX _ _ (if (Value.ref l == Value.none)=true then _ else _) _ _ s;rw[iG (show ¬ ((Value.ref l == Value.none)=true) from SH)];show VX _ _ (field (.ref it) 1 >>= _) _ _ s;refine VR (WB ho hd (x := .int i 0) rfl ?_);show VX _ _ (seqItems? (.ref l) >>= _) _ _ s;refine VR (Wu hol hdl ?_);simp only[U4,hx];refine VR (W8 (VR (WV ho hd (by simp) ?_)))
 first
  | refine VR (wpAny_letGo ?_)
  | skip
 show VX _ _ (newExc (.type "StopIteration") [] >>= _) _ _ _;refine VR ?_;simp only[newExc,newTuple];refine VR (Vh ?_ (by size_fits));refine VR (m:=WW _ _) (wpAny_of_eq (a:=Value.none) (by first | rfl | (simp only[WW];rfl)) ?_);refine Vh ?_ (by size_fits);simp only[raiseNew];refine VR (wpAny_handled ?_)
 first | rw[show A.in1.handled=none from hh] | rw[hh]
 refine VR (VV (wpAny_throw ?_));exact hE _ _ (((TM.update ..).extBut.push _).push _) ⟨_,SW _ rfl,rfl⟩
end
theorem Aa{prog:VZ}{w:Vc}{A:Vf}(hh:A.handled=none)(it l:VU)(hne:l≠it)(items:Array VS):
 Draws prog w A it [it,l] items.size (λi v=>items[i]?=some v) (λi h=>h.IsTupleIter it l i/\h.IsTuple l items) where
 live:=λ_ _ st=>let ⟨o,ho,_⟩:=st.1;⟨o,ho⟩
 frame:=λ_ _ _ st hk=>⟨st.1.at λo e=>hk it (by simp) o e,let ⟨o,ho,r⟩:=st.2;⟨o,hk l (by simp) o ho,r⟩⟩
 item:=λi s Q E hi st hQ=>by
  refine Ad st.1 st.2 (x:=items[i]) (by simp[hi]) λh' hit' hs'=>?_;exact hQ _ h' s.toks (by simp[hi]) ⟨hit',st.2.extBut hs'.extBut hne⟩ hs'
 done:=λs Q E st hE=>Ak hh st.1 st.2 (by simp) hE
theorem BA(l:VU)(items:Array VS)(n:Nat)(dct:Option VU)(sl:Array (Option VS)):
 Meets (Builtin.«enumerate.__new__» ⟨[.type "enumerate",.ref l],[]⟩) (λ_ R s=>s.heap.get? l=some {cls := .type "tuple",dict:=dct,data := .seq items n,slots:=sl}/\
  R (.ok (.ret (.ref (s.heap.push {cls := .type "tuple_iterator",data := .fields #[.ref l,.int 0 0]}).objs.size)))
   {s with heap:=(s.heap.push {cls := .type "tuple_iterator",data := .fields #[.ref l,.int 0 0]}).push {cls := .type "enumerate",data := .fields #[.none,.bool false,.ref s.heap.objs.size,rawInt 0,.none,.none]}}):=
 .of_wp λprog w A R s h=>by
  obtain⟨hp,g,d,tk,os⟩:=s;obtain⟨hl,h⟩:=h;have hsub:=sub_enumerate;have hL:Heap.IsTuple (Shared.heap ⟨hp,g,d,tk,os⟩) l items:=⟨_,hl,rfl,n,rfl⟩
  wp_walk using wpAny_loadPart' hl
  refine wpAny_stack_any λst=>VV ?_;split
  ·rename_i c _ _ _ _ _;cases(c == Value.type "enumerate")
   ·wp_walk using wpAny_loadPart' hl,W9 hL
    exact⟨_,rfl,h⟩
   ·wp_walk using wpAny_loadPart' hl,W9 hL
    exact⟨_,rfl,h⟩
  ·wp_walk using wpAny_loadPart' hl,W9 hL
   exact⟨_,rfl,h⟩
section
variable{prog:VZ}{w:Vc}{A:Vf}{E:VS->VT->Prop}{s:VT}
theorem AF{l:VU}{items:Array VS}{Q:VS->VT->Prop}(hL:s.heap.IsTuple l items)
 (h:∀ h',IsEnum h' (s.heap.objs.size+1) s.heap.objs.size 0 .none->h'.IsTupleIter s.heap.objs.size l 0->h'.objs.size=s.heap.objs.size+2->
   (∀ b o,s.heap.get? b=some o->h'.get? b=some o)->Q (.ref (s.heap.objs.size+1)) {s with heap:=h'}):
 VX (VY prog w) A (call (.type "enumerate") [.ref l]) Q E s:=by
 obtain⟨⟨c,dct,dt,sl⟩,hl,hc,n,hd⟩:=hL;replace hc:c = .type "tuple":=hc;replace hd:dt = .seq items n:=hd;subst hc hd
 refine callType_new F.called_enumerate (by decide) (F.typeCall_enumerate_1 _) (F.newCall_enumerate_1 _) (λobj=>F.args_object_init_2 obj _) F.entry_enumerate_new
  (BA l items n dct sl) ⟨hl,?_⟩
 have hz:(s.heap.push {cls := .type "tuple_iterator",data := .fields #[.ref l,.int 0 0]}).objs.size=s.heap.objs.size+1:=U5 ..;show _/\_;rw[hz]
 have he:IsEnum ((s.heap.push {cls := .type "tuple_iterator",data := .fields #[.ref l,.int 0 0]}).push
  {cls := .type "enumerate",data := .fields #[.none,.bool false,.ref s.heap.objs.size,rawInt 0,.none,.none]}) (s.heap.objs.size+1) s.heap.objs.size 0 .none:=by
  have:=SW (s.heap.push {cls := .type "tuple_iterator",data := .fields #[.ref l,.int 0 0]})
   (o:={cls := .type "enumerate",data := .fields #[.none,.bool false,.ref s.heap.objs.size,rawInt 0,.none,.none]}) rfl
  rw[hz]at this;exact this
 refine⟨⟨_,he,rfl⟩,h _ he ⟨_,SD _ (SW _ rfl),rfl,rfl⟩ (by rw[U5,hz]) λb o x=>SD _ (SD _ x)⟩
end
end PySem
namespace L2
open PySem PySem.Spec PyProof.Rows
section
variable{X:Cx}{pq:List (VU×Obj)}{σ:St}{H:Hp}{s:VT}{h':Heap}
theorem Inv.turnedL{t':Nat}{ch:List VU}(I:Inv X pq σ H s)(k:∀ b o,b∉ch->s.heap.get? b=some o->h'.get? b=some o)(hf:∀ b∈ch,FpOk X pq H b):Inv X pq σ H {s with heap:=h',toks:=t'}:=by
 have nit:∀ b u,H b=some u->b∉ch:=λb u e z=>by rw[(hf b z).1]at e;cases e
 refine I.step (g':=s.gens) (d':=s.drawn) (ch:=ch) (λb hb=>?_) (λb o _ _ hc e _=>k b o hc e) (λb o _ _ hc e _=>⟨o.slots,k b o hc e⟩) (λ_ _ _ _ n=>n)
  (λb o hc e=>⟨o,k b o hc e⟩) (λ_ _ e=>e) (λ_ _ _ e=>e) (λb ps e=>⟨#[],by rw[e];simp⟩) (λm hm=>?_) (λb u e=>?_) I.bare
 ·obtain⟨f0,f1,f2,f3,f4,f5⟩:=hf b hb;exact⟨f3,f1,f4,f5⟩
 ·obtain⟨o,es,ep,ho,r⟩:=hm;exact⟨o,es,ep,k _ o (λz=>(hf _ z).2.1 rfl) ho,r⟩
 ·refine(I.hok b u e).stay (λc v hc q=>k c v ?_ q) (λ_ q=>q) λ_ _ q=>q;rcases hc with z | z
  ·rw[z];exact nit b u e
  ·exact nit c _ z
theorem Inv.turnLay{t':Nat}{ch:List VU}{o:HO}(I:Inv X pq σ H s)(k:∀ b u,b∉ch->s.heap.get? b=some u->h'.get? b=some u)(hf:∀ b∈ch,FpOk X pq H b)
 (new:ObjOk X.prog X.w (upd H s.heap.objs.size o) h' s.heap.objs.size o):Inv X pq σ (upd H s.heap.objs.size o) {s with heap:=h',toks:=t'}:=by
 have hT:H s.heap.objs.size=none:=I.fresh;have nit:∀ b u,H b=some u->b∉ch:=λb u e z=>by rw[(hf b z).1]at e;cases e
 have lt:∀ b u,s.heap.get? b=some u->b≠s.heap.objs.size:=λb u e=>SS (SN e)
 refine I.step (g':=s.gens) (d':=s.drawn) (ch:=ch) (λb hb=>?_) (λb o _ _ hc e _=>k b o hc e) (λb o _ _ hc e _=>⟨o.slots,k b o hc e⟩) (λb u _ e n=>by rw[a8 (lt b u e)];exact n)
  (λb o hc e=>⟨o,k b o hc e⟩) (λb xs e=>by rw[a8 (c6 e hT)];exact e) (λb u xs e=>by rw[a8 (c6 e hT)];exact e) (λb ps e=>⟨#[],by rw[a8 (c6 e hT),e];simp⟩) (λm hm=>?_) (λb u e=>?_) I.bare
 ·obtain⟨f0,f1,f2,f3,f4,f5⟩:=hf b hb;exact⟨f3,f1,f4,f5⟩
 ·obtain⟨o,es,ep,ho,r⟩:=hm;exact⟨o,es,ep,k _ o (λz=>(hf _ z).2.1 rfl) ho,r⟩
 ·by_cases hb:b=s.heap.objs.size
  ·subst hb;rw[c7]at e;cases e;exact new
  ·rw[a8 hb]at e;refine(I.hok b u e).stay (λc v hc q=>k c v ?_ q) (λc q=>by rw[a8 (c6 q hT)];exact q) λc xs q=>by rw[a8 (c6 q hT)];exact q
   rcases hc with z | z
   ·rw[z];exact nit b u e
   ·exact nit c _ z
end
noncomputable def Oz(K:Rz)(a:VU):It:=
 ⟨λi H=>∃ xs x,SqL K H a xs/\xs[i]?=some x,λi H x H'=>∃ p v,H p=none/\x = .ref p/\(∀ xs,SqL K H a xs->xs[i]?=some v)/\H'=upd H p (.tup [.int i,v]),λi H=>∃ xs,SqL K H a xs/\xs.length=i⟩
noncomputable def P0(K:Rz)(a:VU):It:=
 ⟨λi H=>∃ xs x,SqT K H a xs/\xs[i]?=some x,λi H x H'=>∃ p v,H p=none/\x = .ref p/\(∀ xs,SqT K H a xs->xs[i]?=some v)/\H'=upd H p (.tup [.int i,v]),λi H=>∃ xs,SqT K H a xs/\xs.length=i⟩
theorem Jy:2<=VW:=by decide
theorem Fr{P:VZ}{w:Vc}{K:Rz}{elts:List Expr}{kx:Nat}{tp:Pos}(a e it:VU)(hei:e≠it)(hae:a≠e)(hai:a≠it):Turn P w K (.Tuple elts kx tp) (Oz K a) [e,it] e (λi h=>(∃ old,IsEnum h e it i old)/\h.IsListIter it a i) where
 mem:=by simp
 obj:=λi h st b hb=>by
  rcases SU.mp hb with rfl | hb
  ·obtain⟨⟨old,z⟩,_⟩:=st;exact⟨_,z,λv q=>by cases q⟩
  ·have e':b=it:=by simpa using hb
   subst e';obtain⟨o,q,c,d⟩:=st.2;exact⟨o,q,λv z=>by rw[d]at z;cases z⟩
 keep:=λi h h' st k=>⟨let ⟨old,z⟩:=st.1;⟨old,k e (by simp) _ z⟩,st.2.at λo q=>k it (by simp) o q⟩
 item:=by
  intro X hP hw hK hc i pq s σ H E I hf st hg;subst hP hw hK;obtain⟨xs,x,hq,hx⟩:=hg;obtain⟨its,rv,p,hz⟩:=I.list hq;obtain⟨u,hu,ru⟩:=rv.get hx;obtain⟨⟨old,he⟩,hli⟩:=st
  have hil:i<its.toArray.size:=by
   have:=(gM hu).1;simpa using this
  refine Wg (Draws.list (prog:=X.prog) (w:=X.w) (A:=X.A.in1) (show X.A.in1.handled=none from I.ok.hd hc) it a hai its.toArray) he ⟨hli,p.isList⟩ hil hei (by simp[hei,Ne.symm hae]) λy h' tk hy ho hs' hT hsz hk=>?_
  have hyu:y=u:=by
   have:its.toArray[i]?=some u:=by simpa using hu
   rw[this]at hy;exact(oj hy).symm
  subst hyu;refine⟨_,rfl,?_⟩
  have I1:Inv X pq σ (upd H s.heap.objs.size (.tup [.int i,x])) {s with heap:=h',toks:=tk+1}:=
   I.turnLay (ch:=[e,it]) (λb o hb q=>hk b o (λz=>hb (by simp[z])) (λz=>hb (by simp[z])) q) hf ⟨Jy,[.int i tk,y],.cons ⟨tk,rfl⟩ (.cons ru .nil),⟨_,hT,rfl,_,rfl⟩⟩
  refine WX ho λh2 he2 hs2=>?_
  have hfp1:∀ b∈[e,it],FpOk X pq (upd H s.heap.objs.size (.tup [.int i,x])) b:=λb hb=>by
   obtain⟨f0,f1⟩:=hf b hb
   have hbl:b≠s.heap.objs.size:=by
    rcases SU.mp hb with rfl | hb
    ·exact SS (SN he)
    ·have e':b=it:=by simpa using hb
     subst e';obtain⟨o,q,_⟩:=hli;exact SS (SN q)
   exact⟨by rw[a8 hbl];exact f0,f1⟩
  have I2:Inv X pq σ (upd H s.heap.objs.size (.tup [.int i,x])) {s with heap:=h2,toks:=tk+1}:=
   Inv.turnedL (s:={s with heap:=h',toks:=tk+1}) (t':=tk+1) (ch:=[e,it]) I1 (λb o hb q=>(hs2.2 b (λz=>hb (by simp[z]))).trans q) hfp1
  refine⟨.ref s.heap.objs.size,_,I2,rfl,⟨_,x,I.fresh,rfl,λys hy=>by rw[I.list_inj hy hq];exact hx,rfl⟩,⟨⟨y,by simpa using he2⟩,hs'.1.extBut hs2.extBut (Ne.symm hei)⟩,λb hb=>(hfp1 b hb).1⟩
 done:=by
   intro X hP hw hK hc i pq s σ H E I hf st hg;subst hP hw hK;obtain⟨xs,hq,hx⟩:=hg;obtain⟨its,rv,p,hz⟩:=I.list hq;obtain⟨⟨old,he⟩,hli⟩:=st;have hl:=rv.length;have hn:its.toArray.size=i:=by simp;omega
   refine Wk (Draws.list (prog:=X.prog) (w:=X.w) (A:=X.A.in1) (show X.A.in1.handled=none from I.ok.hd hc) it a hai its.toArray) he (by rw[hn];exact⟨hli,p.isList⟩) λh' eb=>⟨rfl,I.turnedL (t':=s.toks) (ch:=[e,it]) (λb o hb q=>eb b o (λz=>hb (by simp[z])) q) hf⟩
 self:=λ_ _ _ _ _ st h=>let ⟨old,z⟩:=st.1;WG z h
theorem Fs{P:VZ}{w:Vc}{K:Rz}{elts:List Expr}{kx:Nat}{tp:Pos}(a e it:VU)(hei:e≠it)(hae:a≠e)(hai:a≠it):Turn P w K (.Tuple elts kx tp) (P0 K a) [e,it] e (λi h=>(∃ old,IsEnum h e it i old)/\h.IsTupleIter it a i) where
 mem:=by simp
 obj:=λi h st b hb=>by
  rcases SU.mp hb with rfl | hb
  ·obtain⟨⟨old,z⟩,_⟩:=st;exact⟨_,z,λv q=>by cases q⟩
  ·have e':b=it:=by simpa using hb
   subst e';obtain⟨o,q,c,d⟩:=st.2;exact⟨o,q,λv z=>by rw[d]at z;cases z⟩
 keep:=λi h h' st k=>⟨let ⟨old,z⟩:=st.1;⟨old,k e (by simp) _ z⟩,st.2.at λo q=>k it (by simp) o q⟩
 item:=by
  intro X hP hw hK hc i pq s σ H E I hf st hg;subst hP hw hK;obtain⟨xs,x,hq,hx⟩:=hg;obtain⟨its,rv,p,hz⟩:=I.tuple hq;obtain⟨u,hu,ru⟩:=rv.get hx;obtain⟨⟨old,he⟩,hli⟩:=st
  have hil:i<its.toArray.size:=by
   have:=(gM hu).1;simpa using this
  refine Wg (Aa (prog:=X.prog) (w:=X.w) (A:=X.A.in1) (show X.A.in1.handled=none from I.ok.hd hc) it a hai its.toArray) he ⟨hli,p⟩ hil hei (by simp[hei,Ne.symm hae]) λy h' tk hy ho hs' hT hsz hk=>?_
  have hyu:y=u:=by
   have:its.toArray[i]?=some u:=by simpa using hu
   rw[this]at hy;exact(oj hy).symm
  subst hyu;refine⟨_,rfl,?_⟩
  have I1:Inv X pq σ (upd H s.heap.objs.size (.tup [.int i,x])) {s with heap:=h',toks:=tk+1}:=
   I.turnLay (ch:=[e,it]) (λb o hb q=>hk b o (λz=>hb (by simp[z])) (λz=>hb (by simp[z])) q) hf ⟨Jy,[.int i tk,y],.cons ⟨tk,rfl⟩ (.cons ru .nil),⟨_,hT,rfl,_,rfl⟩⟩
  refine WX ho λh2 he2 hs2=>?_
  have hfp1:∀ b∈[e,it],FpOk X pq (upd H s.heap.objs.size (.tup [.int i,x])) b:=λb hb=>by
   obtain⟨f0,f1⟩:=hf b hb
   have hbl:b≠s.heap.objs.size:=by
    rcases SU.mp hb with rfl | hb
    ·exact SS (SN he)
    ·have e':b=it:=by simpa using hb
     subst e';obtain⟨o,q,_⟩:=hli;exact SS (SN q)
   exact⟨by rw[a8 hbl];exact f0,f1⟩
  have I2:Inv X pq σ (upd H s.heap.objs.size (.tup [.int i,x])) {s with heap:=h2,toks:=tk+1}:=
   Inv.turnedL (s:={s with heap:=h',toks:=tk+1}) (t':=tk+1) (ch:=[e,it]) I1 (λb o hb q=>(hs2.2 b (λz=>hb (by simp[z]))).trans q) hfp1
  refine⟨.ref s.heap.objs.size,_,I2,rfl,⟨_,x,I.fresh,rfl,λys hy=>by rw[I.tuple_inj hy hq];exact hx,rfl⟩,⟨⟨y,by simpa using he2⟩,hs'.1.extBut hs2.extBut (Ne.symm hei)⟩,λb hb=>(hfp1 b hb).1⟩
 done:=by
   intro X hP hw hK hc i pq s σ H E I hf st hg;subst hP hw hK;obtain⟨xs,hq,hx⟩:=hg;obtain⟨its,rv,p,hz⟩:=I.tuple hq;obtain⟨⟨old,he⟩,hli⟩:=st;have hl:=rv.length;have hn:its.toArray.size=i:=by simp;omega
   refine Wk (Aa (prog:=X.prog) (w:=X.w) (A:=X.A.in1) (show X.A.in1.handled=none from I.ok.hd hc) it a hai its.toArray) he (by rw[hn];exact⟨hli,p⟩) λh' eb=>⟨rfl,I.turnedL (t':=s.toks) (ch:=[e,it]) (λb o hb q=>eb b o (λz=>hb (by simp[z])) q) hf⟩
 self:=λ_ _ _ _ _ st h=>let ⟨old,z⟩:=st.1;WG z h
section
variable{X:Cx}
noncomputable def Qj(K:Rz)(ta:TA):TI:=λσ H R=>ta σ H λvs H1=>∃ a,vs=[.ref a]/\(((∃ xs,SqL K H1 a xs)/\R (Oz K a) H1)\/((∃ xs,SqT K H1 a xs)/\R (P0 K a) H1))
theorem CK:Vb "enumerate"=some (.type "enumerate"):=by decide +kernel
theorem MO{a:Expr}{ta:TA}{p pos:Pos}{elts:List Expr}{kx:Nat}{tp:Pos}(hg:Gl X "enumerate")(hm:X.mg "enumerate"=none)(ha:PA X [a] ta)(hs:Vg [a] X.env=[(false,eval a X.env)]:=by rfl):
 PI X (.Tuple elts kx tp) (.Call (.Name "enumerate" p) [a] [] pos) (Qj X.K ta):=by
 intro pq s σ H R I h;refine Call_ (Bh I hg hm CK (PyProof.Rows.callWith_type1 (thn (ha pos pq s σ H _ I h) λus s1 ⟨vs,H1,I1,r1,q1⟩=>?_) hs rfl));obtain⟨l,e,q1⟩:=q1;subst e;cases r1 with
 | cons r rr=>
   cases rr;cases r;rcases q1 with⟨⟨xs,hq⟩,q⟩ | ⟨⟨xs,hq⟩,q⟩
   ·obtain⟨its,rv,pl,hz⟩:=I1.list hq;have hlt:@LT.lt Nat _ l s1.heap.objs.size:=by obtain⟨o,n,e,_⟩:=pl;exact SN e
    refine call_enumerate_list pl.isList λh' he hli hsz hk=>?_;refine WG he ?_;have I2:Inv X pq σ H1 {s1 with heap:=h'}:=I1.kept (t':=s1.toks) hk;refine⟨s1.heap.objs.size+1,[s1.heap.objs.size+1,s1.heap.objs.size],_,_,H1,rfl,I2,Fr l _ s1.heap.objs.size (show @Ne Nat _ _ by omega) (show @Ne Nat _ _ by omega) (show @Ne Nat _ _ by omega),⟨⟨_,he⟩,hli⟩,λb hb=>?_,q⟩
    have hb2:@LE.le Nat _ s1.heap.objs.size b:=by
     rcases SU.mp hb with rfl | hb
     ·exact UJ _
     ·have e:b=s1.heap.objs.size:=by simpa using hb
      rw[e];exact SK _
    exact I1.fpOk hb2 (I1.hok.fresh hb2)
   ·obtain⟨its,rv,pl,hz⟩:=I1.tuple hq;have hlt:@LT.lt Nat _ l s1.heap.objs.size:=by obtain⟨o,e,_⟩:=pl;exact SN e
    refine AF (show s1.heap.IsTuple l its.toArray from pl) λh' he hli hsz hk=>?_;refine WG he ?_;have I2:Inv X pq σ H1 {s1 with heap:=h'}:=I1.kept (t':=s1.toks) hk;refine⟨s1.heap.objs.size+1,[s1.heap.objs.size+1,s1.heap.objs.size],_,_,H1,rfl,I2,Fs l _ s1.heap.objs.size (show @Ne Nat _ _ by omega) (show @Ne Nat _ _ by omega) (show @Ne Nat _ _ by omega),⟨⟨_,he⟩,hli⟩,λb hb=>?_,q⟩
    have hb2:@LE.le Nat _ s1.heap.objs.size b:=by
     rcases SU.mp hb with rfl | hb
     ·exact UJ _
     ·have e:b=s1.heap.objs.size:=by simpa using hb
      rw[e];exact SK _
    exact I1.fpOk hb2 (I1.hok.fresh hb2)
end
theorem IY(its:List VS)(k:Nat)(y:VS):(its.toArray.extract 0 k).push y++its.toArray.extract k=(its.take k++y::its.drop k).toArray:=by
 apply Array.toList_inj.mp;simp
 first
  | done
  | exact List.take_of_length_le (by simp)
section
variable{X:Cx}
noncomputable def HH:V->List V->Hp->VK->Prop:=λx vs H Q=>∃ l xs i y,x = .ref l/\vs=[.int i,y]/\H l=some (.lst xs)/\0<=i/\i<=xs.length/\xs.length<VW/\Q .non (upd H l (.lst (xs.take i.toNat++y::xs.drop i.toNat)))
theorem DF:MtM X "list.insert" HH:=by
 intro pq s σ H x vs v us Q I rx rv h;obtain⟨l,xs,i,y,rfl,rfl,hH,h0,h1,hz,q⟩:=h;cases rx;obtain⟨u1,u2,rfl,⟨t,rfl⟩,ru⟩:=Vals.two rv;obtain⟨z,its,n,r,hl,e⟩:=I.lstM hH;have hn:=Bi;refine Vz F.slot_list_insert ⟨_,e,rfl⟩ F.entry_list_insert (F.args_list_insert_3 _ _ _) (AutoSeq1.list_insert_list_int_val_1 l its.toArray n i t u2 (by rw[Xe (by omega) (by omega)];exact SH) (by rw[SF];omega)) ⟨e,?_⟩;refine⟨.non,_,I.lset (its':=its.take i.toNat++u2::its.drop i.toNat) hH e ?_ (Vals.append (r.take _) (.cons ru (r.drop _))) ?_,rfl,q⟩
 ·have hk:(if i<0 then (i+(its.toArray.size:Int)).toNat else min i.toNat its.toArray.size)=i.toNat:=by
   rw[iG (by omega),SF];omega
  show(let k:=if i<0 then (i+(its.toArray.size:Int)).toNat else min i.toNat its.toArray.size;(its.toArray.extract 0 k).push u2++its.toArray.extract k)=_;rw[hk];exact IY its i.toNat u2
 ·rw[SA,Sv,T7,Sw];omega
noncomputable def AG(xs ys:List V):Bool:=xs.length == ys.length&&(xs.zip ys).all λp=>eqV p.1 p.2
noncomputable def MP(K:Rz)(neg:Bool):R2:=λx y H Q=>∃ a b xs ys,x = .ref a/\y = .ref b/\SqL K H a xs/\SqL K H b ys/\((xs.all n0=true/\ys.all n0=true)\/xs=[]\/ys=[])/\Q (.bl (if neg then !AG xs ys else AG xs ys)) H
theorem CL{xs ys:List V}(hl:xs.length=ys.length):(SE xs.length).all (λj=>eqV (xs.getD j .non) (ys.getD j .non))=AG xs ys:=by
 have e1:AG xs ys=(xs.zip ys).all λp=>eqV p.1 p.2:=by unfold AG;simp[hl]
 rw[e1,TC,SZ,SZ];constructor
 ·intro h p hp;obtain⟨j,hj,e⟩:=U6.mp hp;have hj1:j<xs.length:=by simp at hj;omega
  have hj2:j<ys.length:=by omega
  have:=h j (SX.mpr hj1);rw[<-e];simpa[TY,hj1,hj2] using this
 ·intro h j hj;have hj1:j<xs.length:=SX.mp hj;have hj2:j<ys.length:=by omega
  have:=h (xs[j],ys[j]) (U6.mpr ⟨j,by simp;omega,by simp⟩);simpa[TY,hj1,hj2] using this
theorem BB{xs ys:List V}{us ws:List VS}{A:Vf}{s:VT}(r1:Vals xs us)(r2:Vals ys ws)(f:(xs.all n0=true/\ys.all n0=true)\/xs=[]\/ys=[]):
 ∀ j (h1:j<us.toArray.size) (h2:j<ws.toArray.size),SeqAt.EqAt A s us.toArray[j] ws.toArray[j] (eqV (xs.getD j .non) (ys.getD j .non)):=by
 intro j h1 h2;have l1:=r1.length;have l2:=r2.length;simp only[SF]at h1 h2;have hj1:j<xs.length:=by omega
 have hj2:j<ys.length:=by omega
 obtain⟨f1,f2⟩:xs.all n0=true/\ys.all n0=true:=by
  rcases f with f | f | f
  ·exact f
  ·subst f;simp at hj1
  ·subst f;simp at hj2
 obtain⟨u,eu,ru⟩:=r1.get (i:=j) (x:=xs[j]) (by simp[hj1]);obtain⟨w',ew,rw'⟩:=r2.get (i:=j) (x:=ys[j]) (by simp[hj2])
 have e1:us.toArray[j]=u:=by
  have:=gM eu;obtain⟨_,q⟩:=this;simpa using q
 have e2:ws.toArray[j]=w':=by
  obtain⟨_,q⟩:=gM ew;simpa using q
 rw[e1,e2];have g1:xs.getD j .non=xs[j]:=by simp[TY,hj1]
 have g2:ys.getD j .non=ys[j]:=by simp[TY,hj2]
 rw[g1,g2];exact Jp ru rw' (SZ.mp f1 _ (U7 hj1)) (SZ.mp f2 _ (U7 hj2))
theorem P1(hu:X.A.units<cLine):OpR X (Vd .Eq) (MP X.K false):=by
 intro pq s σ H x y v u Q I rx ry h;obtain⟨a,b,xs,ys,rfl,rfl,h1,h2,f,q⟩:=h;cases rx;cases ry;obtain⟨its1,r1,p1,_⟩:=I.list h1;obtain⟨its2,r2,p2,_⟩:=I.list h2;have l1:=r1.length;have l2:=r2.length;by_cases hl:xs.length=ys.length
 ·refine SeqAt.eq_listAt p1.isList p2.isList (by simp;omega) hu (BB r1 r2 f) ⟨.bl _,H,I,rfl,?_⟩;rw[SF,<-l1,CL hl];exact q
 ·refine SeqAt.eq_list_lengthsAt p1.isList p2.isList (by simp;omega) hu ⟨.bl false,H,I,rfl,?_⟩;have e:AG xs ys=false:=by unfold AG;simp[hl]
  rw[show(if false=true then !AG xs ys else AG xs ys)=AG xs ys from rfl,e]at q;exact q
theorem P2(hu:X.A.units<cLine):OpR X (Vd .NotEq) (MP X.K true):=by
 intro pq s σ H x y v u Q I rx ry h;obtain⟨a,b,xs,ys,rfl,rfl,h1,h2,f,q⟩:=h;cases rx;cases ry;obtain⟨its1,r1,p1,_⟩:=I.list h1;obtain⟨its2,r2,p2,_⟩:=I.list h2;have l1:=r1.length;have l2:=r2.length;by_cases hl:xs.length=ys.length
 ·refine(SeqAt.RcNeAt.lists p1.isList p2.isList (by simp;omega) hu (BB r1 r2 f)) _ _ _ _ ?_;refine⟨.bl _,H,I,rfl,?_⟩;rw[SF,<-l1,CL hl];exact q
 ·refine(SeqAt.RcNeAt.lists_lengths p1.isList p2.isList (by simp;omega) hu) _ _ _ _ ?_;refine⟨.bl true,H,I,rfl,?_⟩;have e:AG xs ys=false:=by unfold AG;simp[hl]
  rw[show(if true=true then !AG xs ys else AG xs ys)=!AG xs ys from rfl,e]at q;exact q
theorem call_isi1:CallR X (.builtin "isinstance") (λxs H Q=>∃ x T t b,xs=[x,.ty T]/\TyOf X.K H x t/\PySem.W.kitOne X.K t (.type T)=some b/\Q (.bl b) H):=by
 intro pq s σ H xs us Q I r h;obtain⟨x,T,t,b,rfl,ty,e,q⟩:=h;obtain⟨u1,u2,rfl,r1,r2⟩:=Vals.two r;cases r2;exact IS I r1 ty e λtk=>⟨.bl b,H,I.tok tk,rfl,q⟩
theorem Ft{pq:List (VU×Obj)}{σ:St}{H:Hp}{s:VT}{A:Vf}{E:VS->VT->Prop}{Q:VS->VT->Prop}{b:Bool}{x:V}{u t:VS}{tp:VU}{dd:Option VU}{its:List VS}{n:Nat}{sl:Array (Option VS)}(I:Inv X pq σ H s)(rx:RelV x u)(ty:TyOf X.K H x t)
 (htp:s.heap.get? tp=some ⟨.type "tuple",dd,.seq its.toArray n,sl⟩) (e:PySem.W.kitAny X.K t its=some b) (h:∀ tk,Q (.bool b) {s with toks:=tk}):
 VX (VY X.prog X.w) A (call (.builtin "isinstance") [u,.ref tp]) Q E s:=by
 cases ty with
 | non=>cases(show u=Value.none from rx);exact PySem.W.kia_tup PySem.W.kitx_none I.kIn True.intro htp e (λz=>nomatch z) h
 | bl y=>cases(show u=Value.bool y from rx);exact PySem.W.kia_tup PySem.W.kitx_bool I.kIn True.intro htp e (λz=>nomatch z) h
 | int i=>obtain⟨t,q⟩:=(show ∃ t,u=Value.int i t from rx);cases q;exact PySem.W.kia_tup PySem.W.kitx_int I.kIn True.intro htp e (λz=>nomatch z) h
 | str y=>obtain⟨t,q⟩:=(show ∃ t,u=Value.str y t from rx);cases q;exact PySem.W.kia_tup PySem.W.kitx_str I.kIn True.intro htp e (λz=>nomatch z) h
 | flt y=>obtain⟨t,q⟩:=(show ∃ t,u=Value.float y t from rx);cases q;exact PySem.W.kia_tup PySem.W.kitx_float I.kIn True.intro htp e (λz=>nomatch z) h
 | @lst a xs ea=>
   cases(show u=Value.ref a from rx);obtain⟨_,_,n,_,h1⟩:=(show ObjOk X.prog X.w H s.heap a (.lst xs) from I.hok a _ ea)
   exact PySem.W.kia_tup PySem.W.kitx_list I.kIn ⟨_,h1,rfl⟩ htp e (λz=>nomatch z) h
 | @frz a ob xs ea=>
   cases(show u=Value.ref a from rx);obtain⟨_,_,_,n,_,h1⟩:=(show ObjOk X.prog X.w H s.heap a (.frz ob (.lst xs)) from I.hok a _ ea)
   exact PySem.W.kia_tup PySem.W.kitx_list I.kIn ⟨_,h1,rfl⟩ htp e (λz=>nomatch z) h
 | @tup a xs ea=>
   cases(show u=Value.ref a from rx);obtain⟨_,_,_,p⟩:=(show ObjOk X.prog X.w H s.heap a (.tup xs) from I.hok a _ ea)
   obtain⟨o,h1,h2,_⟩:=p;exact PySem.W.kia_tup PySem.W.kitx_tuple I.kIn ⟨o,h1,h2⟩ htp e (λz=>nomatch z) h
 | @dK a kvs ea=>
   cases(show u=Value.ref a from rx);obtain⟨_,_,vs,_,p⟩:=(show ObjOk X.prog X.w H s.heap a (.dK kvs) from I.hok a _ ea)
   obtain⟨o,es,ep,h1,h2,_⟩:=p;exact PySem.W.kia_tup PySem.W.kitx_dict I.kIn ⟨o,h1,h2.1⟩ htp e (λz=>nomatch z) h
 | @dT a kvs ea=>
   cases(show u=Value.ref a from rx);obtain⟨_,_,xs,_,o,es,ep,h1,h2,_⟩:=(show ObjOk X.prog X.w H s.heap a (.dT kvs) from I.hok a _ ea)
   exact PySem.W.kia_tup PySem.W.kitx_dict I.kIn ⟨o,h1,h2.1⟩ htp e (λz=>nomatch z) h
 | @ins a C dx fs ea cl ha hn htk hm=>
   cases(show u=Value.ref a from rx);obtain⟨mA,O,_⟩:=Gy I.hok ea;obtain⟨od,J,_⟩:=O.look;exact PySem.W.kia_tup (PySem.W.kitx_own (cl.get _) cl.hd ha hn htk hm) I.kIn J htp e (λz=>nomatch z) h
theorem HI:∀(Ts:List String) {us:List VS},Vals (Ts.map V.ty) us->us=Ts.map Value.type
 | [],_,.nil=>rfl
 | T::r,_,.cons h t=>by cases h;rw[HI r t];rfl
theorem IZ:CallR X (.builtin "isinstance") (λxs H Q=>∃(x:V) (p:VU) (Ts:List String) (t:VS) (b:Bool),xs=[x,.ref p]/\H p=some (.tup (Ts.map V.ty))/\TyOf X.K H x t/\PySem.W.kitAny X.K t (Ts.map Value.type)=some b/\Q (.bl b) H):=by
 intro pq s σ H xs us Q I r h;obtain⟨x,p,Ts,t,b,rfl,hp,ty,e,q⟩:=h;obtain⟨u1,u2,rfl,r1,r2⟩:=Vals.two r;cases r2;obtain⟨_,its,rv,⟨⟨c,dd,dt,sl⟩,h1,h2,n,h3⟩⟩:=(show ObjOk X.prog X.w H s.heap p (.tup (Ts.map V.ty)) from I.hok p _ hp)
 have ei:=HI Ts rv;subst ei;replace h2:c = .type "tuple":=h2;replace h3:dt = .seq (Ts.map Value.type).toArray n:=h3;subst h2 h3;exact Ft I r1 ty h1 e λtk=>⟨.bl b,H,I.tok tk,rfl,q⟩
theorem Ia(hc:X.calm=true):CallR X (.builtin "all") (λxs H Q=>∃(a:VU) (bs:List Bool),xs=[.ref a]/\SqL X.K H a (bs.map V.bl)/\Q (.bl (bs.all id)) H):=by
 intro pq s σ H xs us Q I r h;obtain⟨a,bs,rfl,hq,q⟩:=h;obtain⟨u,rfl,ru⟩:=AZ r;cases ru;obtain⟨its,rv,pl,hz⟩:=I.list hq;have hl:=rv.length;rw[S7]at hl;refine call_all_walk (WH pl.isList ?_);have hlt:a<s.heap.objs.size:=by obtain⟨o,n,e,_⟩:=pl;exact SN e
 refine⟨s.heap.objs.size,_,_,_,_,_,λi=>bs.getD i false,rfl,Walks.list (by exact I.ok.hd hc) s.heap.objs.size a (SS hlt) its.toArray,⟨⟨_,SW _ rfl,rfl,rfl⟩,pl.isList.push _⟩,?_,λh' tk hk=>?_⟩
 ·intro i v s' Q' E' hv hQ';have hv':its[i]?=some v:=by simpa using hv
  have hi:i<its.length:=(gM hv').1;have hb:(bs.map V.bl)[i]?=some (.bl (bs[i]'(by omega))):=by simp
  obtain⟨u',eu,ru'⟩:=rv.get hb;rw[hv']at eu;cases eu;cases ru';have hg:bs.getD i false=bs[i]'(by omega):=by simp[TY,show i<bs.length by omega]
  have hQ2:Q' (bs.getD i false) s':=hQ';rw[hg]at hQ2;exact Vj hQ2
 ·have I1:Inv X pq σ H {s with heap:=h',toks:=tk}:=I.kept λb o e=>hk b o (by simp;exact SS (SN e)) (SD _ e);refine⟨.bl _,H,I1,rfl,?_⟩
  have e:(SE its.toArray.size).all (λi=>bs.getD i false)=bs.all id:=by
   rw[SF,<-hl,TC,SZ,SZ];constructor
   ·intro h b hb;obtain⟨j,hj,e⟩:=U6.mp hb;have:=h j (SX.mpr hj);simpa[TY,hj,e] using this
   ·intro h j hj;have hj1:j<bs.length:=SX.mp hj;have:=h bs[j] (U7 hj1);simpa[TY,hj1] using this
  rw[e];exact q
theorem Ib:CallR X (.type "range") (λxs H Q=>∃ b,xs=[.int b]/\∀ p,H p=none->Q (.ref p) (upd H p (.rng 0 b))):=by
 intro pq s σ H xs us Q I r h;obtain⟨b,rfl,q⟩:=h;obtain⟨u1,rfl,⟨t,rfl⟩⟩:=AZ r;refine call_range_1 ⟨.ref s.heap.objs.size,_,I.laid (o := .rng 0 b) (λb o e=>SD _ e) (SK _) ⟨_,_,_,SW _ rfl⟩,rfl,q _ I.fresh⟩
noncomputable def Ic(lo:Int)(n:Nat):List V:=(SE n).map λ(i:Nat)=>V.int (lo+(i:Int))
theorem EN(lo:Int)(n:Nat):(Ic lo n).length=n:=by unfold Ic;simp
theorem Dh(hc:X.calm=true):CallR X (.type "list") (λxs H Q=>∃ p a b,xs=[.ref p]/\H p=some (.rng a b) /\ -(2 ^ 62)<=a/\a<2 ^ 62 /\ -(2 ^ 62)<=b/\b<2 ^ 62/\(b - a).toNat<=100000/\∀ l,H l=none->Q (.ref l) (upd H l (.lst (Ic a (b - a).toNat)))):=by
 intro pq s σ H xs us Q I r h;obtain⟨p,a,b,rfl,hp,h1,h2,h3,h4,h5,q⟩:=h;obtain⟨u,rfl,ru⟩:=AZ r;cases ru;obtain⟨t,u',v,ho⟩:=(show ObjOk X.prog X.w H s.heap p (.rng a b) from I.hok p _ hp)
 have hn:Builtin.Range.rangeSize a b 1=(((b - a).toNat:Nat):Int):=by rw[rangeSize_one];split<;>omega
 refine call_list_range (I.ok.hd hc) (show IsRange s.heap p a b 1 t u' v from ho) (small_one h1 h2 h3 h4) hn (by omega) λh' tk acc c' kp e hi=>?_;have hz:(b - a).toNat<=VW:=Sj h5 (by decide);refine⟨.ref s.heap.objs.size,_,I.laid kp (SK _) (show ObjOk X.prog X.w _ h' _ (.lst (Ic a (b - a).toNat)) from ⟨by rw[EN];exact hz,acc.toList,c',?_,by simpa using e⟩),rfl,q _ I.fresh⟩;obtain⟨hs,hv⟩:=hi
 have key:∀(n:Nat) (l:List VS) (lo:Int),l.length=n->(∀(j:Nat) (v:VS),l[j]?=some v->∃ t,v=Value.int (lo+(j:Int)) t)->Vals ((SE n).map λ(i:Nat)=>V.int (lo+(i:Int))) l:=by
  intro n
  induction n with
  | zero=>intro l lo hl _;cases l with | nil=>exact .nil | cons _ _=>simp at hl
  | succ n ih=>
    intro l lo hl hv;cases l with
    | nil=>simp at hl
    | cons x r=>
      rw[List.range_succ_eq_map,Sk,UO];refine .cons ?_ ?_
      ·obtain⟨t,e⟩:=hv 0 x (by simp);exact⟨t,e⟩
      ·have:=ih r (lo+1) (by simpa using hl) λj v hj=>by
        obtain⟨t,e⟩:=hv (j+1) v (by simpa using hj);refine⟨t,?_⟩;rw[e]
        congr 1
        omega
       have e2:((λ(i:Nat)=>V.int (lo+(i:Int)))∘Nat.succ)=λ(i:Nat)=>V.int (lo+1+(i:Int)):=by
        funext i
        show V.int (lo+((i+1:Nat):Int))=V.int (lo+1+(i:Int))
        congr 1
        omega
       rw[e2];exact this
 refine key _ _ a (by simpa using hs) λj v hj=>?_;obtain⟨t,e⟩:=hv j v (by simpa using hj);exact⟨t,by rw[e];congr 1;omega⟩
end
theorem Jz:Vb "sorted"=some (.builtin "sorted"):=by decide +kernel
end L2
set_option maxHeartbeats 1000000
namespace Rf
open PySem L2
inductive TyN where
 | int | bool | str | list | tuple | none
 deriving DecidableEq
noncomputable def TyN.nm:TyN->String
 | .int=>"int" | .bool=>"bool" | .str=>"str" | .list=>"list" | .tuple=>"tuple" | .none=>"NoneType"
inductive SV where
 | non | bl (b:Bool) | int (i:Int) | str (x:Str) | tup (xs:List SV) | loc (k:Nat) | ro (xs:List SV) | ty (t:TyN)
inductive SO where
 | lst (xs:List SV)
 | iset (ms:List Int)
 | dtp (kvs:List ((Int×Int)×Int)) | dtl (kvs:List (List Int×SV)) | dtf (o:Obj) (us:List (List Key×V)) (kvs:List (List Int×SV)) | dct (kvs:List (Int×SV)) | dcf (o:Obj) (ks:List (Key×V)) (kvs:List (Int×SV))
noncomputable abbrev Sto:=List SO
noncomputable abbrev EnvS:=List (Option SV)
noncomputable def FzL(K:Rz)(H:Hp)(a:VU)(vs:List V):Prop:=(∃ o,H a=some (.frz o (.lst vs)))\/
 ∃(o:Obj) (its:Array VS) (n:Nat),K.lookup a=some o/\o.cls = .type "list"/\o.dict=none/\o.data = .seq its n/\its.size<=VW/\Vals vs its.toList
theorem FzL.sq{K:Rz}{H:Hp}{a:VU}{vs:List V}(h:FzL K H a vs):SqL K H a vs:=h.imp (λ⟨o,e⟩ => .inr ⟨o,e⟩) id
mutual
noncomputable def Rl(K:Rz)(as:List VU)(H:Hp):V->SV->Prop
 | v,.non=>v = .non
 | v,.bl b=>v = .bl b
 | v,.int i=>v = .int i
 | v,.str x=>v = .str x
 | v,.tup xs=>∃ p vs,v = .ref p/\H p=some (.tup vs)/\RlAll K as H vs xs
 | v,.loc k=>∃ a,as[k]?=some a/\v = .ref a
 | v,.ro xs=>∃ a vs,v = .ref a/\FzL K H a vs/\RlAll K as H vs xs
 | v,.ty t=>v = .ty t.nm
noncomputable def RlAll(K:Rz)(as:List VU)(H:Hp):List V->List SV->Prop
 | vs,[]=>vs=[]
 | vs,x::xs=>∃ v r,vs=v::r/\Rl K as H v x/\RlAll K as H r xs
end
noncomputable def imm:HO->Bool
 | .tup _=>true
 | .frz _ (.lst _)=>true
 | _=>false
noncomputable def KeepU(H H':Hp):Prop:=∀ b o,H b=some o->imm o=true->H' b=some o
theorem KeepU.refl(H:Hp):KeepU H H:=λ_ _ h _=>h
theorem KeepU.trans{H H' H'':Hp}(a:KeepU H H')(b:KeepU H' H''):KeepU H H'':=λx o h i=>b x o (a x o h i) i
theorem w6{H:Hp}{p:VU}{o:HO}(hp:H p=none):KeepU H (upd H p o):=λb u h _=>by
 rw[a8 (c6 h hp)];exact h
theorem Az{H:Hp}{a:VU}{u o:HO}(h:H a=some u)(i:imm u=false):KeepU H (upd H a o):=λb v hb iv=>by
 rw[a8 (Gn hb h (by intro z;rw[z,i]at iv;cases iv))];exact hb
theorem FzL.mono{K:Rz}{H H':Hp}{a:VU}{vs:List V}(k:KeepU H H')(h:FzL K H a vs):FzL K H' a vs:=h.imp (λ⟨o,e⟩=>⟨o,k _ _ e rfl⟩) id
theorem Di{α:Type}{as as':List α}(h:as <+: as'){k:Nat}{a:α}(e:as[k]?=some a):as'[k]?=some a:=by
 obtain⟨t,rfl⟩:=h;rw[SY ((gM e).1)];exact e
mutual
theorem Rl.mono{K:Rz}{as as':List VU}{H H':Hp}(ha:as <+: as')(hH:KeepU H H'):∀(x:SV) (v:V),Rl K as H v x->Rl K as' H' v x
 | .non,v,h=>by unfold Rl at h ⊢;exact h
 | .bl _,v,h=>by unfold Rl at h ⊢;exact h
 | .int _,v,h=>by unfold Rl at h ⊢;exact h
 | .str _,v,h=>by unfold Rl at h ⊢;exact h
 | .tup xs,v,h=>by
   unfold Rl at h ⊢;obtain⟨p,vs,e,hp,h⟩:=h;exact⟨p,vs,e,hH p _ hp rfl,RlAll.mono ha hH xs vs h⟩
 | .ro xs,v,h=>by
   unfold Rl at h ⊢;obtain⟨p,vs,e,hp,h⟩:=h;exact⟨p,vs,e,hp.mono hH,RlAll.mono ha hH xs vs h⟩
 | .ty _,v,h=>by unfold Rl at h ⊢;exact h
 | .loc k,v,h=>by
   unfold Rl at h ⊢;obtain⟨a,e,z⟩:=h;exact⟨a,Di ha e,z⟩
theorem RlAll.mono{K:Rz}{as as':List VU}{H H':Hp}(ha:as <+: as')(hH:KeepU H H'):∀(xs:List SV) (vs:List V),RlAll K as H vs xs->RlAll K as' H' vs xs
 | [],vs,h=>by unfold RlAll at h ⊢;exact h
 | x::xs,vs,h=>by
   unfold RlAll at h ⊢;obtain⟨v,r,e,h1,h2⟩:=h;exact⟨v,r,e,Rl.mono ha hH x v h1,RlAll.mono ha hH xs r h2⟩
end
section
variable{K:Rz}{as:List VU}{H:Hp}
theorem rl_non{v:V}:Rl K as H v .non↔v = .non:=by unfold Rl;exact Iff.rfl
theorem rl_bl{v:V}{b:Bool}:Rl K as H v (.bl b)↔v = .bl b:=by unfold Rl;exact Iff.rfl
theorem rl_int{v:V}{i:Int}:Rl K as H v (.int i)↔v = .int i:=by unfold Rl;exact Iff.rfl
theorem rl_str{v:V}{x:Str}:Rl K as H v (.str x)↔v = .str x:=by unfold Rl;exact Iff.rfl
theorem rl_tup{v:V}{xs:List SV}:Rl K as H v (.tup xs)↔∃ p vs,v = .ref p/\H p=some (.tup vs)/\RlAll K as H vs xs:=by rw[Rl]
theorem rl_loc{v:V}{k:Nat}:Rl K as H v (.loc k)↔∃ a,as[k]?=some a/\v = .ref a:=by unfold Rl;exact Iff.rfl
theorem rl_ro{v:V}{xs:List SV}:Rl K as H v (.ro xs)↔∃ a vs,v = .ref a/\FzL K H a vs/\RlAll K as H vs xs:=by rw[Rl]
theorem rl_ty{v:V}{n:TyN}:Rl K as H v (.ty n)↔v = .ty n.nm:=by unfold Rl;exact Iff.rfl
theorem rla_nil{vs:List V}:RlAll K as H vs []↔vs=[]:=by unfold RlAll;exact Iff.rfl
theorem rla_cons{vs:List V}{x:SV}{xs:List SV}:RlAll K as H vs (x::xs)↔∃ v r,vs=v::r/\Rl K as H v x/\RlAll K as H r xs:=by rw[RlAll]
theorem RlAll.nil:RlAll K as H [] []:=rla_nil.mpr rfl
theorem RlAll.cons{v:V}{x:SV}{vs:List V}{xs:List SV}(h:Rl K as H v x)(t:RlAll K as H vs xs):RlAll K as H (v::vs) (x::xs):=rla_cons.mpr ⟨v,vs,rfl,h,t⟩
theorem RlAll.length:∀{xs:List SV} {vs:List V},RlAll K as H vs xs->vs.length=xs.length
 | [],_,h=>by rw[rla_nil.mp h];rfl
 | x::xs,_,h=>by
   obtain⟨v,r,rfl,_,t⟩:=rla_cons.mp h;simp[t.length]
theorem RlAll.get:∀{xs:List SV} {vs:List V} {i:Nat} {x:SV},RlAll K as H vs xs->xs[i]?=some x->∃ v,vs[i]?=some v/\Rl K as H v x
 | [],_,i,_,_,e=>by simp at e
 | y::xs,_,0,_,h,e=>by
   obtain⟨v,r,rfl,a,_⟩:=rla_cons.mp h;simp at e;subst e;exact⟨v,rfl,a⟩
 | y::xs,_,i+1,_,h,e=>by
   obtain⟨v,r,rfl,_,t⟩:=rla_cons.mp h;simpa using t.get (by simpa using e)
theorem RlAll.append:∀{xs ys:List SV} {vs us:List V},RlAll K as H vs xs->RlAll K as H us ys->RlAll K as H (vs++us) (xs++ys)
 | [],_,_,_,h,h'=>by rw[rla_nil.mp h];exact h'
 | x::xs,_,_,_,h,h'=>by
   obtain⟨v,r,rfl,a,t⟩:=rla_cons.mp h;exact .cons a (t.append h')
theorem RlAll.take:∀{xs:List SV} {vs:List V} (n:Nat),RlAll K as H vs xs->RlAll K as H (vs.take n) (xs.take n)
 | _,_,0,_=>by simpa using RlAll.nil
 | [],_,n+1,h=>by rw[rla_nil.mp h];exact .nil
 | x::xs,_,n+1,h=>by
   obtain⟨v,r,rfl,a,t⟩:=rla_cons.mp h;exact .cons a (t.take n)
theorem RlAll.drop:∀{xs:List SV} {vs:List V} (n:Nat),RlAll K as H vs xs->RlAll K as H (vs.drop n) (xs.drop n)
 | _,_,0,h=>h
 | [],_,n+1,h=>by rw[rla_nil.mp h];exact .nil
 | x::xs,_,n+1,h=>by
   obtain⟨v,r,rfl,a,t⟩:=rla_cons.mp h;exact t.drop n
theorem RlAll.set{x:SV}{v:V}(hx:Rl K as H v x):∀{xs:List SV} {vs:List V} (n:Nat),RlAll K as H vs xs->RlAll K as H (vs.set n v) (xs.set n x)
 | [],_,n,h=>by rw[rla_nil.mp h];exact .nil
 | y::xs,_,0,h=>by
   obtain⟨_,r,rfl,_,t⟩:=rla_cons.mp h;exact .cons hx t
 | y::xs,_,n+1,h=>by
   obtain⟨_,r,rfl,a,t⟩:=rla_cons.mp h;exact .cons a (t.set hx n)
theorem RlAll.ins{x:SV}{v:V}(hx:Rl K as H v x){xs:List SV}{vs:List V}(h:RlAll K as H vs xs)(n:Nat):RlAll K as H (vs.take n++v::vs.drop n) (xs.take n++x::xs.drop n):=(h.take n).append (.cons hx (h.drop n))
theorem RlAll.ints{is:List Int}:RlAll K as H (is.map V.int) (is.map SV.int):=by
 induction is with
 | nil=>exact .nil
 | cons i is ih=>exact .cons (rl_int.mpr rfl) ih
end
noncomputable def RlD(K:Rz)(as:List VU)(H:Hp):List (Key×V)->List (Int×SV)->Prop
 | ks,[]=>ks=[]
 | ks,p::r=>∃ v t,ks=(.inl p.1,v)::t/\Rl K as H v p.2/\RlD K as H t r
theorem RlD.mono{K:Rz}{as as':List VU}{H H':Hp}(ha:as <+: as')(hH:KeepU H H'):∀(kvs:List (Int×SV)) (ks:List (Key×V)),RlD K as H ks kvs->RlD K as' H' ks kvs
 | [],_,h=>h
 | p::r,_,⟨v,t,e,h1,h2⟩=>⟨v,t,e,Rl.mono ha hH p.2 v h1,RlD.mono ha hH r t h2⟩
noncomputable def RlT(K:Rz)(as:List VU)(H:Hp):List (List Key×V)->List (List Int×SV)->Prop
 | us,[]=>us=[]
 | us,p::r=>∃ v t,us=(p.1.map Sum.inl,v)::t/\Rl K as H v p.2/\RlT K as H t r
theorem RlT.mono{K:Rz}{as as':List VU}{H H':Hp}(ha:as <+: as')(hH:KeepU H H'):∀(kvs:List (List Int×SV)) (us:List (List Key×V)),RlT K as H us kvs->RlT K as' H' us kvs
 | [],_,h=>h
 | p::r,_,⟨v,t,e,h1,h2⟩=>⟨v,t,e,Rl.mono ha hH p.2 v h1,RlT.mono ha hH r t h2⟩
noncomputable def dtV(kvs:List ((Int×Int)×Int)):List (List Key×V):=kvs.map λp=>([.inl p.1.1,.inl p.1.2],V.int p.2)
noncomputable def RlO(K:Rz)(as:List VU)(H:Hp)(a:VU):SO->Prop
 | .lst xs=>∃ vs,H a=some (.lst vs)/\RlAll K as H vs xs
 | .iset ms=>∃ F,H a=some (.set F ms.length)/\∀ k,F k=decide (k∈ms)
 | .dtp kvs=>H a=some (.dT (dtV kvs))
 | .dtl kvs=>∃ us,H a=some (.dT us)/\RlT K as H us kvs
 | .dtf o us kvs=>H a=some (.frz o (.dT us))/\RlT K as H us kvs
 | .dct kvs=>∃ ks,H a=some (.dK ks)/\RlD K as H ks kvs
 | .dcf o ks kvs=>H a=some (.frz o (.dK ks))/\RlD K as H ks kvs
structure Ok(K:Rz)(as:List VU)(H:Hp)(S:Sto):Prop where
 len:as.length=S.length
 nd:as.Nodup
 obj:∀(k:Nat) (o:SO) (a:VU),S[k]?=some o->as[k]?=some a->RlO K as H a o
noncomputable def EnvOk(K:Rz)(as:List VU)(H:Hp)(σ:St)(ρ:EnvS):Prop:=σ.length=ρ.length/\∀(i:Nat) (x:SV),ρ[i]?=some (some x)->∃ v,σ[i]?=some (some v)/\Rl K as H v x
theorem EnvOk.mono{K:Rz}{as as':List VU}{H H':Hp}{σ:St}{ρ:EnvS}(h:EnvOk K as H σ ρ)(ha:as <+: as')(hH:KeepU H H'):EnvOk K as' H' σ ρ:=⟨h.1,λi x e=>let ⟨v,a,b⟩:=h.2 i x e;⟨v,a,Rl.mono ha hH x v b⟩⟩
theorem EnvOk.set{K:Rz}{as:List VU}{H:Hp}{σ:St}{ρ:EnvS}(h:EnvOk K as H σ ρ){i:Nat}{v:V}{x:SV}(hx:Rl K as H v x):EnvOk K as H (σ.set i (some v)) (ρ.set i (some x)):=⟨by rw[Sq,Sq];exact h.1,λj y e=>by
 by_cases hij:i=j
 ·subst hij;have hi:i<ρ.length:=by have:=(gM e).1;rwa [Sq]at this
  rw[TV hi]at e;rw[TV (by rw[h.1];exact hi)];cases e;exact⟨v,rfl,hx⟩
 ·rw[Tt hij]at e ⊢;exact h.2 j y e⟩
section
variable{K:Rz}{as:List VU}{H:Hp}{S:Sto}
theorem RlO.mono{as':List VU}{H':Hp}{a:VU}(ha:as <+: as')(hH:KeepU H H')(e:∀ u,H a=some u->H' a=some u):∀{o:SO},RlO K as H a o->RlO K as' H' a o
 | .lst xs,⟨vs,h1,h2⟩=>⟨vs,e _ h1,RlAll.mono ha hH xs vs h2⟩
 | .iset ms,⟨F,h1,h2⟩=>⟨F,e _ h1,h2⟩
 | .dtp kvs,h1=>e _ h1
 | .dtl kvs,⟨us,h1,h2⟩=>⟨us,e _ h1,RlT.mono ha hH kvs us h2⟩
 | .dtf _ us kvs,⟨h1,h2⟩=>⟨e _ h1,RlT.mono ha hH kvs us h2⟩
 | .dct kvs,⟨ks,h1,h2⟩=>⟨ks,e _ h1,RlD.mono ha hH kvs ks h2⟩
 | .dcf _ ks kvs,⟨h1,h2⟩=>⟨e _ h1,RlD.mono ha hH kvs ks h2⟩
theorem RlO.some{a:VU}:∀{o:SO},RlO K as H a o->∃ u,H a=some u/\imm u=false
 | .lst _,⟨_,h,_⟩=>⟨_,h,rfl⟩
 | .iset _,⟨_,h,_⟩=>⟨_,h,rfl⟩
 | .dtp _,h=>⟨_,h,rfl⟩
 | .dtl _,⟨_,h,_⟩=>⟨_,h,rfl⟩
 | .dtf _ _ _,⟨h,_⟩=>⟨_,h,rfl⟩
 | .dct _,⟨_,h,_⟩=>⟨_,h,rfl⟩
 | .dcf _ _ _,⟨h,_⟩=>⟨_,h,rfl⟩
theorem Ok.of(h:Ok K as H S){k:Nat}{a:VU}(e:as[k]?=some a):∃ o,S[k]?=some o/\RlO K as H a o:=by
 have hk:k<S.length:=by rw[<-h.len];exact(gM e).1
 exact⟨S[k],SC hk,h.obj k _ a (SC hk) e⟩
theorem Ok.new(h:Ok K as H S){p:VU}{o:HO}(hp:H p=none):Ok K as (upd H p o) S:=⟨h.len,h.nd,λk u a e ea=>by
 have r:=h.obj k u a e ea;obtain⟨z,hz,_⟩:=r.some;exact r.mono (Sb as) (w6 hp) λvs hv=>by rw[a8 (c6 hz hp)];exact hv⟩
theorem Ok.free(h:Ok K as H S){p:VU}(hp:H p=none):p∉as:=λhm=>by
 obtain⟨k,hk⟩:=TB hm;obtain⟨o,_,r⟩:=h.of hk;obtain⟨z,hz,_⟩:=r.some;rw[hp]at hz;cases hz
theorem Ok.pushO(h:Ok K as H S){p:VU}(hp:H p=none){u:HO}{x:SO}(r:RlO K (as++[p]) (upd H p u) p x):Ok K (as++[p]) (upd H p u) (S++[x]):=by
 have pre:as <+: as++[p]:=Tc _ _;refine⟨by rw[SA,SA,h.len];rfl,?_,λk o a e ea=>?_⟩
 ·rw[UD];refine⟨h.nd,by simp,λa ha b hb=>?_⟩;rw[Sd.mp hb];intro z;subst z;exact h.free hp ha
 ·by_cases hk:k<S.length
  ·rw[SY hk]at e;rw[SY (by rw[h.len];exact hk)]at ea;exact((h.new (o:=u) hp).obj k o a e ea).mono pre (KeepU.refl _) λ_ z=>z
  ·have hk':k=S.length:=by
    have:=(gM e).1;rw[SA,Sr]at this;omega
   subst hk';rw[Sf]at e;rw[<-h.len,Sf]at ea;cases e;cases ea;exact r
theorem Ok.push(h:Ok K as H S){p:VU}(hp:H p=none){vs:List V}{xs:List SV}(r:RlAll K as H vs xs):Ok K (as++[p]) (upd H p (.lst vs)) (S++[.lst xs]):=h.pushO hp ⟨vs,c7,RlAll.mono (Tc _ _) (w6 hp) xs vs r⟩
theorem Ok.writeO(h:Ok K as H S){k:Nat}{a:VU}{y x:SO}{u:HO}(e:S[k]?=some y)(ea:as[k]?=some a)(r:KeepU H (upd H a u)->RlO K as (upd H a u) a x):Ok K as (upd H a u) (S.set k x)/\KeepU H (upd H a u):=by
 obtain⟨z,h1,iz⟩:=(h.obj k _ a e ea).some;have ku:KeepU H (upd H a u):=Az h1 iz;refine⟨⟨by rw[Sq];exact h.len,h.nd,λj o b eo eb=>?_⟩,ku⟩;by_cases hj:k=j
 ·subst hj;rw[TV ((gM e).1)]at eo;rw[ea]at eb;cases eo;cases eb;exact r ku
 ·rw[Tt hj]at eo
  have hab:b≠a:=λz=>by
   subst z;exact hj ((UE ((gM ea).1) h.nd).mp (ea.trans eb.symm))
  exact(h.obj j o b eo eb).mono (Sb as) ku λws hw=>by rw[a8 hab];exact hw
theorem Ok.write(h:Ok K as H S){k:Nat}{a:VU}{ys xs:List SV}{vs:List V}(e:S[k]?=some (.lst ys))(ea:as[k]?=some a)(r:RlAll K as H vs xs):Ok K as (upd H a (.lst vs)) (S.set k (.lst xs))/\KeepU H (upd H a (.lst vs)):=h.writeO e ea λku=>⟨vs,c7,RlAll.mono (Sb as) ku xs vs r⟩
end
structure Go(as:List VU)(H:Hp)(as':List VU)(H':Hp):Prop where
 pre:as <+: as'
 keep:∀ b o,H b=some o->b∉as->H' b=some o/\b∉as'
theorem Go.refl(as:List VU)(H:Hp):Go as H as H:=⟨Sb _,λ_ _ h n=>⟨h,n⟩⟩
theorem Go.trans{as as1 as2:List VU}{H H1 H2:Hp}(a:Go as H as1 H1)(b:Go as1 H1 as2 H2):Go as H as2 H2:=⟨a.pre.trans b.pre,λx o h n=>let ⟨h1,n1⟩:=a.keep x o h n;b.keep x o h1 n1⟩
theorem Go.new{as:List VU}{H:Hp}{p:VU}{o:HO}(hp:H p=none):Go as H as (upd H p o):=⟨Sb _,λb u h n=>⟨by rw[a8 (c6 h hp)];exact h,n⟩⟩
theorem Go.push{as:List VU}{H:Hp}{p:VU}{o:HO}(hp:H p=none):Go as H (as++[p]) (upd H p o):=⟨Tc _ _,λb u h n=>⟨by rw[a8 (c6 h hp)];exact h,by
 rw[Sg,Sd];rintro(z | z)
 ·exact n z
 ·exact c6 h hp z⟩⟩
theorem Go.write{as:List VU}{H:Hp}{a:VU}{o:HO}(ha:a∈as):Go as H as (upd H a o):=⟨Sb _,λb u h n=>⟨by rw[a8 (λz=>n (by rw[z];exact ha))];exact h,n⟩⟩
section
variable{K:Rz}{as as':List VU}{H H':Hp}{S:Sto}
theorem Ok.away(h:Ok K as H S){b:VU}{o:HO}(e:H b=some o)(i:imm o=true):b∉as:=λhm=>by
 obtain⟨k,hk⟩:=TB hm;obtain⟨_,_,r⟩:=h.of hk;obtain⟨z,hz,iz⟩:=r.some;rw[e]at hz;cases hz;rw[i]at iz;cases iz
theorem Go.ku(g:Go as H as' H')(ok:Ok K as H S):KeepU H H':=λb o h i=>(g.keep b o h (ok.away h i)).1
theorem Ok.other(h:Ok K as H S){b:VU}{vs us:List V}(hb:H b=some (.lst vs))(n:b∉as):Ok K as (upd H b (.lst us)) S:=⟨h.len,h.nd,λk o a e ea=>(h.obj k o a e ea).mono (Sb as) (Az hb rfl) λws hw=>by
 rw[a8 (λz=>n (by rw[<-z];exact SB ea))];exact hw⟩
end
end Rf
namespace L2
open PySem PySem.Spec PyProof.Rows
section
variable{κ:Type}[DecidableEq κ]
noncomputable def v8(kvs:List (κ×V))(k:κ):Option V:=(kvs.find? λkv=>decide (kv.1=k)).map (·.2)
noncomputable def v9(kvs:List (κ×V))(k:κ)(v:V):List (κ×V):=
 if (kvs.any λkv=>decide (kv.1=k))=true then kvs.map (λkv=>if kv.1=k then (kv.1,v) else kv) else kvs++[(k,v)]
theorem BQ{p:κ×V}{r:List (κ×V)}{k:κ}(e:p.1=k):v8 (p::r) k=some p.2:=by simp[v8,TF,e]
theorem BR{p:κ×V}{r:List (κ×V)}{k:κ}(e:¬ p.1=k):v8 (p::r) k=v8 r k:=by simp[v8,TF,e]
theorem CM(k:κ):∀ kvs:List (κ×V),(kvs.any λkv=>decide (kv.1=k))=(v8 kvs k).isSome
 | []=>rfl
 | p::r=>by
   rw[TU];by_cases e:p.1=k
   ·simp only[BQ e,decide_eq_true e,Bool.true_or,Uq]
   ·rw[BR e,decide_eq_false e,VE];exact CM k r
theorem Al(kvs:List (κ×V))(k:κ)(v:V):(v9 kvs k v).length<=kvs.length+1:=by
 unfold v9;split
 ·rw[S7];omega
 ·rw[SA,T7,Tr];omega
theorem K0{kvs:List (κ×V)}{k:κ}(v:V)(h:v8 kvs k=none):v9 kvs k v=kvs++[(k,v)]:=by
 unfold v9;rw[CM,h];exact iG (by decide)
theorem RelO.isSome_eq{o:Option V}{u:Option VS}(r:RelO o u):o.isSome=u.isSome:=by
 cases o with
 | none=>cases u with
   | none=>rfl
   | some _=>exact(show False from r).elim
 | some _=>cases u with
   | none=>exact(show False from r).elim
   | some _=>rfl
theorem KV.val{kvs:List (κ×V)}{vs:List (κ×VS)}(r:KV kvs vs)(k:κ):RelO (v8 kvs k) (valueAt vs k):=by
 unfold KV at r
 induction r with
 | nil=>exact True.intro
 | @cons p q ps qs h t ih=>
   obtain⟨h1,h2⟩:=h;by_cases e:p.1=k
   ·have e':q.1=k:=h1.symm.trans e;have b:valueAt (q::qs) k=some q.2:=by simp[valueAt,TF,e']
    rw[BQ e,b];exact h2
   ·have e':¬ q.1=k:=λz=>e (h1.trans z);have b:valueAt (q::qs) k=valueAt qs k:=by simp[valueAt,TF,e']
    rw[BR e,b];exact ih
theorem KV.any{kvs:List (κ×V)}{vs:List (κ×VS)}(r:KV kvs vs)(k:κ):(kvs.any λkv=>decide (kv.1=k))=vs.any λkv=>decide (kv.1=k):=by
 unfold KV at r
 induction r with
 | nil=>rfl
 | cons h t ih=>rw[TU,TU,ih,h.1]
theorem KV.repl{kvs:List (κ×V)}{vs:List (κ×VS)}(r:KV kvs vs)(k:κ){y:V}{u:VS}(ry:RelV y u):
 KV (kvs.map λkv=>if kv.1=k then (kv.1,y) else kv) (vs.map λkv=>if kv.1=k then (kv.1,u) else kv):=by
 unfold KV at r ⊢
 induction r with
 | nil=>exact .nil
 | @cons p q ps qs h t ih=>
   rw[Sk,Sk];refine .cons ?_ ih;obtain⟨h1,h2⟩:=h;by_cases e:p.1=k
   ·rw[iP e,iP (h1.symm.trans e)];exact⟨h1,ry⟩
   ·rw[iG e,iG (λz=>e (h1.trans z))];exact⟨h1,h2⟩
theorem KV.put{kvs:List (κ×V)}{vs:List (κ×VS)}(r:KV kvs vs)(k:κ){y:V}{u:VS}(ry:RelV y u):KV (v9 kvs k y) (stored vs k u):=by
 unfold v9 stored;rw[r.any k];by_cases e:(vs.any λkv=>decide (kv.1=k))=true
 ·rw[iP e,iP e];exact r.repl k ry
 ·rw[iG e,iG e];exact Paired.snoc r ⟨rfl,ry⟩
theorem KV.keys{kvs:List (κ×V)}{vs:List (κ×VS)}(r:KV kvs vs):kvs.map (·.1)=vs.map (·.1):=by
 unfold KV at r
 induction r with
 | nil=>rfl
 | cons h t ih=>rw[Sk,Sk,ih,h.1]
theorem KV.length{kvs:List (κ×V)}{vs:List (κ×VS)}(r:KV kvs vs):kvs.length=vs.length:=Paired.length r
end
theorem K1{P:VZ}{w:Vc}{k:Key}{u:VS}(r:RelV (kV k) u):(g6 P w).is k u=true:=by
 cases k with
 | inl i=>obtain⟨t,e⟩:=(show ∃ t,u=Value.int i t from r);subst e;exact Bz P w i t
 | inr x=>obtain⟨t,e⟩:=(show ∃ t,u=Value.str x t from r);subst e;exact EG P w x t
theorem DG{P:VZ}{w:Vc}:∀{ks:List Key} {us:List VS},Vals (ks.map kV) us->ItemsAre (g6 P w) ks us
 | [],_,r=>by rw[VM]at r;cases r;exact .nil
 | k::ks,_,r=>by
   rw[Sk]at r;cases r with
   | cons h t=>exact .cons (K1 h) (DG t)
noncomputable abbrev KT(H:Hp):List (List Key×V)->List (List Key×VU×VS)->Prop:=Paired λp q=>p.1=q.1/\H q.2.1=some (.tup (p.1.map kV))/\RelV p.2 q.2.2
theorem KT.val{H:Hp}{kvs:List (List Key×V)}{xs:List (List Key×VU×VS)}(r:KT H kvs xs)(k:List Key):RelO (v8 kvs k) ((atKey xs k).map (·.2)):=by
 induction r with
 | nil=>exact True.intro
 | @cons p q ps qs h t ih=>
   obtain⟨h1,_,h2⟩:=h;by_cases e:p.1=k
   ·have e':q.1=k:=h1.symm.trans e;have b:atKey (q::qs) k=some q.2:=by simp[atKey,TF,e']
    rw[BQ e,b];exact h2
   ·have e':¬ q.1=k:=λz=>e (h1.trans z);have b:atKey (q::qs) k=atKey qs k:=by simp[atKey,TF,e']
    rw[BR e,b];exact ih
theorem KT.repl{H:Hp}{kvs:List (List Key×V)}{xs:List (List Key×VU×VS)}(r:KT H kvs xs)(k:List Key){y:V}{u:VS}(ry:RelV y u):
 KT H (kvs.map λkv=>if kv.1=k then (kv.1,y) else kv) (xs.map (putAt k u)):=by
 induction r with
 | nil=>exact .nil
 | @cons p q ps qs h t ih=>
   rw[Sk,Sk];refine .cons ?_ ih;obtain⟨h1,h2,h3⟩:=h;unfold putAt;by_cases e:p.1=k
   ·rw[iP e,iP (h1.symm.trans e)];exact⟨h1,h2,ry⟩
   ·rw[iG e,iG (λz=>e (h1.trans z))];exact⟨h1,h2,h3⟩
theorem KT.put{H:Hp}{kvs:List (List Key×V)}{xs:List (List Key×VU×VS)}(r:KT H kvs xs)(k:List Key){b:VU}{y:V}{u:VS}(hb:H b=some (.tup (k.map kV)))(ry:RelV y u):
 KT H (v9 kvs k y) (storedH xs k b u):=by
 have e:(kvs.any λkv=>decide (kv.1=k))=(atKey xs k).isSome:=by
  rw[CM,(r.val k).isSome_eq,Option.isSome_map]
 unfold v9 storedH;rw[e];by_cases q:(atKey xs k).isSome=true
 ·rw[iP q,iP q];exact r.repl k ry
 ·rw[iG q,iG q];exact Paired.snoc r ⟨rfl,hb,ry⟩
theorem KT.keeps{H H':Hp}{kvs:List (List Key×V)}{xs:List (List Key×VU×VS)}(r:KT H kvs xs)(ht:∀ b ys,H b=some (.tup ys)->H' b=some (.tup ys)):KT H' kvs xs:=
 Paired.mapP r λ_ _ z=>⟨z.1,ht _ _ z.2.1,z.2.2⟩
section
variable{P:VZ}{w:Vc}{H:Hp}{h:Heap}{a:VU}
theorem Nx{u:HO}(ok:HOk P w H h)(e:Rd H a u):ObjOk P w H h a u:=e.ok ok
theorem HJ{kvs:List (Key×V)}(ok:HOk P w H h)(e:Rd H a (.dK kvs)):kvs.length<=VW/\(a == Vo)=false/\∃ vs,KV kvs vs/\h.DictOf (g6 P w) a vs:=
 show ObjOk P w H h a (.dK kvs) from Nx ok e
theorem Qk{kvs:List (Key×V)}(ok:HOk P w H h)(e:H a=some (.dK kvs)):kvs.length<=VW/\(a == Vo)=false/\∃ vs,KV kvs vs/\h.DictOf (g6 P w) a vs:=HJ ok (.inl e)
theorem Dj{ks:List Key}(ok:HOk P w H h)(e:H a=some (.tup (ks.map kV))):(Wc (g6 P w)).is h ks a:=by
 obtain⟨_,its,r,o,h1,h2,n,h3⟩:=(show ObjOk P w H h a (.tup (ks.map kV)) from ok a _ e)
 exact⟨o,its.toArray,n,h1,h2,h3,by simpa using DG r⟩
theorem HK{kvs:List (List Key×V)}(ok:HOk P w H h)(e:Rd H a (.dT kvs)):kvs.length<=VW/\(a == Vo)=false/\
 ∃ xs,KT H kvs xs/\h.DictOfH (Wc (g6 P w)) a xs:=by
 obtain⟨z,y,xs,r,o,es,ep,h1,h2,h3,h4,h5⟩:=(show ObjOk P w H h a (.dT kvs) from Nx ok e)
 refine⟨z,y,xs,r,o,es,ep,h1,h2,h3,h4,λx hx=>?_,h5⟩
 have all:∀{l:List (List Key×V)} {m:List (List Key×VU×VS)},KT H l m->∀ x∈m,(Wc (g6 P w)).is h x.1 x.2.1:=by
  intro l m q
  induction q with
  | nil=>intro x hx;exact nomatch hx
  | @cons p q ps qs hq t ih=>
    intro x hx;rcases SU.mp hx with e | hx
    ·subst e;exact Dj ok (by rw[<-hq.1];exact hq.2.1)
    ·exact ih x hx
 exact all r x hx
theorem Ny{kvs:List (List Key×V)}(ok:HOk P w H h)(e:H a=some (.dT kvs)):kvs.length<=VW/\(a == Vo)=false/\
 ∃ xs,KT H kvs xs/\h.DictOfH (Wc (g6 P w)) a xs:=HK ok (.inl e)
end
noncomputable def K2(H:Hp)(a:VU)(y:V)(r:Option V):Prop:=
 (∃ kvs k,Rd H a (.dK kvs)/\y=kV k/\r=v8 kvs k)\/∃ kvs k b,Rd H a (.dT kvs)/\y = .ref b/\H b=some (.tup (k.map kV))/\r=v8 kvs k
noncomputable def Ql(H:Hp)(a:VU)(y v:V)(H':Hp):Prop:=
 (∃ kvs k,H a=some (.dK kvs)/\y=kV k/\kvs.length<VW/\H'=upd H a (.dK (v9 kvs k v)))\/
 ∃ kvs k b,H a=some (.dT kvs)/\y = .ref b/\H b=some (.tup (k.map kV))/\kvs.length<VW/\H'=upd H a (.dT (v9 kvs k v))
section
variable{X:Cx}{pq:List (VU×Obj)}{σ:St}{H:Hp}{s:VT}{a:VU}{y v:V}{u r:VS}{o:Option V}{A:Vf}{E:VS->VT->Prop}
theorem Inv.big(I:Inv X pq σ H s):Vo<s.heap.objs.size:=by
 have h:Va<s.heap.objs.size:=(I.mod.glob.keeps I.bk).lt;exact Tz (by decide) h
theorem Id{Q:VS->VT->Prop}(hu:A.units+1<cLine)(I:Inv X pq σ H s)(g:K2 H a y (some v))(ry:RelV y u)(h:∀ w' s',Inv X pq σ H s'->RelV v w'->Q w' s'):
 VX (VY X.prog X.w) A (getItem (.ref a) u) Q E s:=by
 rcases g with⟨kvs,k,e,ey,l⟩ | ⟨kvs,k,b,e,ey,eb,l⟩
 ·subst ey;obtain⟨z,hd,vs,rel,dd⟩:=HJ I.hok e;obtain⟨w',hw,rw'⟩:=RelO.some_of (v:=v) (o:=valueAt vs k) (by rw[l];exact rel.val k);exact wpAny_getItem_of (K1 ry) dd.mapOf hw (h w' _ (I.tok _) rw')
 ·subst ey;cases(show u=Value.ref b from ry);obtain⟨z,hd,xs,rel,dd⟩:=HK I.hok e;obtain⟨w',hw,rw'⟩:=RelO.some_of (v:=v) (o:=(atKey xs k).map (·.2)) (by rw[l];exact rel.val k);obtain⟨p,hp,hp2⟩:=Sx.mp hw;refine wpAny_getItem_heap (WY hu) (Dj I.hok eb) dd hp ?_;rw[hp2];exact h w' _ (I.tok _) rw'
theorem Dk{h':Heap}{t':Nat}{ob:HO}(I:Inv X pq σ H s)(mu:Mut (H a))(hs:TM a s.heap h')(he:∃ q,h'.get? a=some q)(new:ObjOk X.prog X.w (upd H a ob) h' a ob):
 Inv X pq σ (upd H a ob) {s with heap:=h',toks:=t'}:=
 I.write (x:=a) (e:=a) mu (.inl rfl) (λb q hb z=>(hs.2 b hb).trans z) he new
theorem K3{P:VZ}{w:Vc}{H':Hp}{h':Heap}{kvs:List (Key×V)}{vs:List (Key×VS)}(z:kvs.length<=VW)(hd:(a == Vo)=false)(rel:KV kvs vs)(dd:h'.DictOf (g6 P w) a vs):
 ObjOk P w H' h' a (.dK kvs):=⟨z,hd,vs,rel,dd⟩
theorem Ie{H':Hp}{Q:Unit->VT->Prop}(hu:A.units+1<cLine)(I:Inv X pq σ H s)(g:Ql H a y v H')(ry:RelV y u)(rv:RelV v r)(h:∀ s',Inv X pq σ H' s'->Q () s'):
 VX (VY X.prog X.w) A (setItem (.ref a) u r) Q E s:=by
 rcases g with⟨kvs,k,e,ey,l,eH⟩ | ⟨kvs,k,b,e,ey,eb,l,eH⟩
 ·subst ey eH;obtain⟨z,hd,vs,rel,dd⟩:=Qk I.hok e;have hz:vs.length<=VW:=by rw[<-rel.length];exact z
  have hl:(v9 kvs k v).length<=VW:=by have:=Al kvs k v;omega
  refine wpAny_setItem_pairs (hsz:=hz) (K1 ry) dd λh' dd' hs=>h _ ?_;have he:∃ q,h'.get? a=some q:=let ⟨q,_,_,hq,_⟩:=dd';⟨q,hq⟩
  exact Dk I (by rw[e];exact True.intro) hs he (K3 hl hd (rel.put k rv) dd')
 ·subst ey eH;cases(show u=Value.ref b from ry);obtain⟨z,hd,xs,rel,dd⟩:=Ny I.hok e;have hz:xs.length<=VW:=by rw[<-Paired.length rel];exact z
  have hl:(v9 kvs k v).length<=VW:=by have:=Al kvs k v;omega
  refine wpAny_setItem_heap (hsz:=hz) (WY hu) (Dj I.hok eb) dd λh' dd' hs=>h _ ?_;obtain⟨q,es,ep,hq,h2,h3,h4,_,h5⟩:=dd';refine Dk I (by rw[e];exact True.intro) hs ⟨q,hq⟩ ⟨hl,hd,_,(rel.put k eb rv).keeps λc ys ec=>?_,q,es,ep,hq,h2,h3,h4,h5⟩;rw[a8 (Gn ec e (λz=>nomatch z))];exact ec
end
noncomputable def Qm(i:Expr):Prop:=∀ ov iv,Wt i false ov iv=operate [ov,iv] (getItem ov iv)
theorem MQ{prog:VZ}{w:Vc}{A:Vf}{E:VS->VT->Prop}{s:VT}{env:Env}{value slice:Expr}{pos:Pos}{T id:String}{Q:VS->VT->Prop}
 (hl:Xc (.type T) "__getitem__"=pure (some (.builtin id))) (hs:Qm slice)
 (h:VX (VY prog w) A (eval value env) (λo s₁=>VX (VY prog w) A (eval slice env) (λi s₂=>s₂.TypeIs o T/\VX (VY prog w) A (getItem o i) Q E s₂) E s₁) E s):
 VX (VY prog w) A (eval (.Subscript value slice pos) env) Q E s:=by
 refine Xd (Vm h (λo s₁ h₁=>Vm h₁ (λi s₂ h₂=>?_) λ_ _ x=>x) λ_ _ x=>x);obtain⟨hT,h₂⟩:=h₂;unfold X4;refine VR ?_;rw[getitemInPython_of_ne hT.not_modules];refine VR (wpAny_specialOf hT hl ?_)
 have fin:VX (VY prog w) A (Wt slice false o i) (λr s₃=>VX (VY prog w) A (letTemporaryGo value o r >>= λ_=>pure r) Q E s₃) E s₂:=by
  rw[hs o i];exact wpAny_operating (Vm h₂ (λr s₃ h₃=>VR (wpAny_letTemporaryGo (VV h₃))) λ_ _ x=>x)
 first
  | exact VV (VR fin)
  | exact VR (VV (VR fin))
  | exact VR fin
theorem EO{X:Cx}{pq:List (VU×Obj)}{σ:St}{H:Hp}{s:VT}{a:VU}{y:V}{o:Option V}(I:Inv X pq σ H s)(g:K2 H a y o):s.TypeIs (.ref a) "dict":=by
 rcases g with⟨kvs,k,e,_,_⟩ | ⟨kvs,k,b,e,_,_,_⟩
 ·obtain⟨_,_,vs,_,dd⟩:=HJ I.hok e;exact dd.typeIs
 ·obtain⟨_,_,xs,_,dd⟩:=HK I.hok e;exact dd.typeIs
noncomputable def Qn(td ty:TE):TE:=λσ H Q=>td σ H λx H1=>ty σ H1 λy H2=>∃ a v,x = .ref a/\K2 H2 a y (some v)/\Q v H2
section
variable{X:Cx}{o i e value:Expr}{pos pos' tpos:Pos}{td ty tv:TE}
theorem HL(hu:X.A.units+1<cLine)(ho:PE X o td)(hi:PE X i ty)(hs:Qm i):PE X (.Subscript o i pos) (Qn td ty):=by
 intro pq s σ H Q I h;refine MQ PySem.F.slot_dict_getitem.lookup hs (thn (ho pq s σ H _ I h) λu s1 ⟨x,H1,I1,rx,q1⟩=>thn (hi pq s1 σ H1 _ I1 q1) λiv s2 ⟨y,H2,I2,ry,a,v,ex,g,q2⟩=>?_);subst ex;obtain rfl:u=Value.ref a:=rx;exact⟨EO I2 g,Id hu I2 g ry λw' s3 I3 rw'=>⟨v,H2,I3,rw',q2⟩⟩
end
theorem K4{P:VZ}{w:Vc}{H:Hp}(h:Heap)(hb:Vo<h.objs.size):ObjOk P w H (h.push {cls := .type "dict",data := .dict #[]}) h.objs.size (.dT []):=
 ⟨Tf _,beq_eq_false_iff_ne.mpr (Ne.symm (SS hb)),[],.nil,_,#[],0,SW _ rfl,⟨rfl,rfl,rfl⟩,rfl,rfl,VB⟩
noncomputable def P4:TE:=λ_ H Q=>∀ p,H p=none->Q (.ref p) (upd H p (.dT []))
section
variable{X:Cx}{pos:Pos}
theorem K5:PE X (.Dict [] [] pos) P4:=λpq s σ H Q I h=>
 wpAny_Dict_empty ⟨.ref s.heap.objs.size,_,I.laid (a:=s.heap.objs.size) (o := .dT []) (t':=s.toks) (λ_ _ q=>SD _ q) (SK _) (K4 s.heap I.big),rfl,h _ (I.hok.fresh (SK _))⟩
end
noncomputable def BC(kvs more:List (Key×V)):List (Key×V):=more.foldl (λacc kv=>v9 acc kv.1 kv.2) kvs
theorem KV.merge:∀{more:List (Key×V)} {rs:List (Key×VS)} {kvs:List (Key×V)} {vs:List (Key×VS)},KV more rs->KV kvs vs->KV (BC kvs more) (merged vs rs):=by
 intro more rs kvs vs r;unfold KV at r
 induction r generalizing kvs vs with
 | nil=>intro q;exact q
 | @cons p q ps qs h t ih=>
   intro r0
   have e:KV (v9 kvs p.1 p.2) (stored vs q.1 q.2):=by
    have:=r0.put p.1 h.2;rw[<-h.1];exact this
   exact ih e
structure M2(X:Cx)(o:Expr)(m:Str)(apos:Pos)(e f:Expr)(cpos:Pos):Prop where
 base:WN o m X.env (eval o X.env)=eval o X.env
 few:((backTo cpos (Vg [e,f] X.env)).all (λx=>!x.1)&&(backToKw cpos (XS [] X.env)).all (λx=>x.1.isSome)
  && decide (([e,f]:List Expr).length+([]:List Keyword).length+(if ([]:List Keyword).isEmpty then 0 else 1)<30))=true
 line:(apos.endLine == cpos.line)=true
 trees:backTo cpos (Vg [e,f] X.env)=[(false,eval e X.env),(false,eval f X.env)]
noncomputable def IsD(H:Hp)(a:VU):Prop:=(∃ kvs,Rd H a (.dK kvs))\/∃ kvs,Rd H a (.dT kvs)
theorem P5{X:Cx}{pq:List (VU×Obj)}{σ:St}{H:Hp}{s:VT}{a:VU}(I:Inv X pq σ H s)(d:IsD H a):
 s.TypeIs (.ref a) "dict"/\(∀ b,Value.ref a = .ref b->∃ ob,s.heap.get? b=some ob/\ob.dict=none)/\(a == Vo)=false:=by
 rcases d with⟨kvs,e⟩ | ⟨kvs,e⟩
 ·obtain⟨_,hd,vs,_,dd⟩:=HJ I.hok e;refine⟨dd.typeIs,λb q=>?_,hd⟩;cases q;obtain⟨ob,_,_,h1,h2,_⟩:=dd;exact⟨ob,h1,h2.2.1⟩
 ·obtain⟨_,hd,xs,_,dd⟩:=HK I.hok e;refine⟨dd.typeIs,λb q=>?_,hd⟩;cases q;obtain⟨ob,_,_,h1,h2,_⟩:=dd;exact⟨ob,h1,h2.2.1⟩
mutual
noncomputable def Dat(H:Hp):V->PyData->Prop
 | x,.none=>x = .non
 | x,.bool b=>x = .bl b
 | x,.int i=>x = .int i
 | x,.str s=>x = .str s
 | x,.list ds=>∃ a xs,x = .ref a/\H a=some (.lst xs)/\DatAll H xs ds
 | x,.tuple ds=>∃ a xs,x = .ref a/\H a=some (.tup xs)/\DatAll H xs ds
 | _,.dict _=>False
noncomputable def DatAll(H:Hp):List V->List PyData->Prop
 | [],[]=>True
 | x::xs,d::ds=>Dat H x d/\DatAll H xs ds
 | [],_::_=>False
 | _::_,[]=>False
end
mutual
theorem Dat.mono{H H':Hp}(k:∀ b o,H b=some o->H' b=some o):∀(x:V) (d:PyData),Dat H x d->Dat H' x d
 | _,.none,h=>by unfold Dat at h ⊢;exact h
 | _,.bool _,h=>by unfold Dat at h ⊢;exact h
 | _,.int _,h=>by unfold Dat at h ⊢;exact h
 | _,.str _,h=>by unfold Dat at h ⊢;exact h
 | x,.list ds,h=>by
   unfold Dat at h ⊢;obtain⟨a,xs,e,h1,h2⟩:=h;exact⟨a,xs,e,k _ _ h1,DatAll.mono k xs ds h2⟩
 | x,.tuple ds,h=>by
   unfold Dat at h ⊢;obtain⟨a,xs,e,h1,h2⟩:=h;exact⟨a,xs,e,k _ _ h1,DatAll.mono k xs ds h2⟩
 | _,.dict _,h=>by unfold Dat at h;exact h.elim
theorem DatAll.mono{H H':Hp}(k:∀ b o,H b=some o->H' b=some o):∀(xs:List V) (ds:List PyData),DatAll H xs ds->DatAll H' xs ds
 | [],[],_=>by unfold DatAll;trivial
 | x::xs,d::ds,h=>by
   unfold DatAll at h ⊢;exact⟨Dat.mono k x d h.1,DatAll.mono k xs ds h.2⟩
 | [],_::_,h=>by unfold DatAll at h;exact h.elim
 | _::_,[],h=>by unfold DatAll at h;exact h.elim
end
section
variable{X:Cx}{a b:Expr}{ta:TE}{pos:Pos}
theorem Ig:OpR X (Vd .IsNot) (λx y H Q=>∃ c d,x = .bl c/\y = .bl d/\Q (.bl (c != d)) H):=by
 intro pq s σ H x y v u Q I rx ry h;obtain⟨c,d,rfl,rfl,q⟩:=h;cases rx;cases ry;exact isnot_bool ⟨.bl (c != d),H,I,rfl,q⟩
end
section
variable{X:Cx}
theorem K6{prog:VZ}{w:Vc}{A:Vf}{E:VS->VT->Prop}{s:VT}{t b:VU}{ws:List VS}{Q:VS->VT->Prop}(ht:IsTup s.heap t #[])(hb:IsTup s.heap b ws.toArray)(h1:Q (.ref b) s):
 VX (VY prog w) A (Vq .Add (.ref t) (.ref b)) Q E s:=by
 obtain⟨⟨cls,dd,data,sl⟩,ho,hc,n,hd⟩:=id ht;obtain⟨⟨cls2,dd2,data2,sl2⟩,ho2,hc2,n2,hd2⟩:=id hb;simp only at hc hd hc2 hd2;subst hc hd hc2 hd2
 exact XD ⟨_,ho,rfl⟩ ⟨_,ho2,rfl⟩ We X0 PySem.F.slot_tuple_add PySem.F.entry_tuple_add (PySem.F.args_tuple_add_2 _ _)
  (tuple_addW0 t b #[] ws.toArray n n2 dd dd2 sl sl2 (by simp)) ⟨ho,ho2,h1⟩
noncomputable def K7(K:Rz):R2:=λx y H Q=>∃ a b ys,x = .ref a/\y = .ref b/\SqT K H a []/\SqT K H b ys/\Q (.ref b) H
theorem MR:OpR X (Vq .Add) (K7 X.K):=by
 intro pq s σ H x y v u Q I rx ry h;obtain⟨a,b,ys,rfl,rfl,ha,hb,q⟩:=h;cases rx;cases ry;obtain⟨its,r1,p1,_⟩:=I.tuple ha;obtain⟨its2,r2,p2,_⟩:=I.tuple hb;cases r1;exact K6 p1 p2 ⟨.ref b,H,I,rfl,q⟩
theorem MS:OpR X (Vq .Add) (λx y H Q=>Jm X.K x y H Q\/K7 X.K x y H Q):=op_catT.or MR
end
section
variable{prog:VZ}{w:Vc}{A:Vf}{E:VS->VT->Prop}{s:VT}
open HT in
theorem Cw{t sl:VU}{items:Array VS}{vl vu:VS}{lo hi:Option Int}{Q:VS->VT->Prop}(ht:IsTup s.heap t items)(hs:s.heap.IsSliceOf sl vl vu .none)(pl:IsPart vl lo)(pu:IsPart vu hi)
 (hw:sIx items.size 0 lo=0/\sIx items.size items.size hi=items.size) (h:Q (.ref t) s):VX (VY prog w) A (getItem (.ref t) (.ref sl)) Q E s:=by
 obtain⟨os,hos,hcs,hds⟩:=id hs;have hTs:s.TypeIs (.ref sl) "slice":=⟨os,hos,hcs⟩
 unfold getItem
 try with_reducible refine Vl ?_
 first | refine VR (VV ?_) | skip
 refine VR (XE ht.typeIs (by decide) ?_)
 refine VR (Vn (name:=Str.ofString "__getitem__") ht.typeIs PyProof.Rows.slot_tuple_getitem
  (Vp PyProof.Rows.slot_tuple_getitem ht.typeIs Wx ?_ (X9 _ _)))
 show VX _ _ (Builtin.Tuple.tupleItemsOf (.ref t) >>= _) _ _ s;refine VR (tupleItemsOf_ ht ?_);refine VR (W5 hTs ?_);rw[iP (by decide)];refine VR (AI hs pl pu ?_)
 have hyes:(((sIx items.size 0 lo:Nat):Int) == 0&&(1:Int) == 1&&(sIx items.size items.size hi - sIx items.size 0 lo) == items.size)=true:=by
  rw[hw.1,hw.2];simp
 show VX _ _ (if (((sIx items.size 0 lo:Nat):Int) == 0&&(1:Int) == 1&&(sIx items.size items.size hi - sIx items.size 0 lo) == items.size)=true then _ else _) _ _ s;rw[iP hyes];unfold Builtin.Tuple.tupleIsExact;refine VR (VR (W5 ht.typeIs (VV ?_)));rw[iP (by decide)];exact VR (W8 (VV ⟨_,rfl,VV h⟩))
end
section
variable{X:Cx}
noncomputable def Qo(K:Rz):V->Option Int->Option Int->Hp->VK->Prop:=λx lo hi H Q=>∃ a xs,x = .ref a/\SqT K H a xs/\(HT.sIx xs.length 0 lo=0/\HT.sIx xs.length xs.length hi=xs.length)/\Q (.ref a) H
theorem MU:SlR X (Qo X.K):=by
 intro pq s σ H x v vl vu lo hi sl Q I rx hs pl pu h;obtain⟨a,xs,rfl,hx,hw,q⟩:=h;cases rx;obtain⟨its,r,ht,hz⟩:=I.tuple hx;have hlen:its.toArray.size=xs.length:=by rw[SF];exact r.length.symm
 exact⟨"tuple",_,PyProof.Rows.slot_tuple_getitem.lookup,ht.typeIs,Cw ht hs pl pu (by rw[hlen];exact hw) ⟨.ref a,H,I,rfl,q⟩⟩
end
section
variable{prog:VZ}{w:Vc}{A:Vf}{E:VS->VT->Prop}{s:VT}
theorem Fu{st:SortSt}{n:Nat}{Q:AscSt->SortSt->Prop}(h1:1<=n)(hlt:∀ x,1<=x->x<n->∀ Q':Option Bool->SortSt->Prop,Q' (some false) st->wpS (VY prog w) A E s (ltAt' x (x - 1)) Q' st)
 (h:Q (none,n) st):wpS (VY prog w) A E s (ascLoop 1 n) Q st:=by
 unfold ascLoop;refine XG (I:=λx c st'=>st'=st/\c=(none,x)) ?step ?fin ⟨rfl,rfl⟩
 case fin=>
  rintro c st' ⟨rfl,rfl⟩;rw[show max 1 n=n by omega];exact h
 case step=>
  rintro x c st' hax hxn ⟨rfl,rfl⟩;dsimp only;refine W3 (hlt x hax (by omega) _ ?_);simp only[To,if_false];exact WQ ⟨rfl,rfl⟩
theorem BD{α β:Type}{f:α->Sem β}{M:Model}:∀(vs:List α) (g:α->β) {Q:List β->VT->Prop},(∀ v∈vs,∀(Q':β->VT->Prop),Q' (g v) s->VX M A (f v) Q' E s)->Q (vs.map g) s->VX M A (vs.mapM f) Q E s
 | [],g,Q,_,h=>by rw[List.mapM_nil];exact VV h
 | v::vs,g,Q,hf,h=>by
   rw[List.mapM_cons];exact VR (hf v (SI ..) _ (VR (BD vs g (λu hu=>hf u (SG _ hu)) (VV h))))
noncomputable def IsPr(h:Heap)(v:VS)(a b:Int):Prop:=∃ p o n t u,v = .ref p/\h.get? p=some o/\o.cls = .type "tuple"/\o.data = .seq #[.int a t,.int b u] n
theorem Bo(v:VS):firstOfTuple' v=(do
 if (<- typeOf v) != .type "tuple" then return none
 return (<- Builtin.List.listItems v)[0]?):=rfl
theorem IsPr.at{h h':Heap}{v:VS}{a b:Int}(x:IsPr h v a b)(k:∀ p o,h.get? p=some o->o.cls = .type "tuple"->h'.get? p=some o):IsPr h' v a b:=by
 obtain⟨p,o,n,t1,t2,e,ho,hc,hd⟩:=x;exact⟨p,o,n,t1,t2,e,k p o ho hc,hc,hd⟩
end
noncomputable def Up(xs:Array Nat):Prop:=∀ i j (hi:i<xs.size) (hj:j<xs.size),i<j->xs[i]<xs[j]
structure Tab(w:Vc)(t:Wh):Prop where
 up:Up t.place
 no:t.dummies=#[]
 led:t.led=!w.params.followText "set-order"
noncomputable def SetX(prog:VZ)(w:Vc)(h:Heap)(a:VU)(L:List Int):Prop:=
 ∃ o es ep t,h.get? a=some o/\o.ExactSet/\o.data = .set es ep t/\ElemsOf (intKind prog w) es.toList/\es.size<scanBound/\t.fits es.size=true/\Tab w t/\(es.toList.map λe=>numOf e.2).Perm L
section
variable{prog:VZ}{w:Vc}{A:Vf}{E:VS->VT->Prop}{s:VT}
theorem SetX.keep{h h':Heap}{a:VU}{L:List Int}(x:SetX prog w h a L)(k:∀ o,h.get? a=some o->h'.get? a=some o):SetX prog w h' a L:=by
 obtain⟨o,es,ep,t,ho,r⟩:=x;exact⟨o,es,ep,t,k o ho,r⟩
theorem HM{k:Int}{v:VS}(h:(intKind prog w).is k v=true):numOf v=k:=by
 obtain⟨t,rfl⟩:=Value.isInt_shape (k:=k) (v:=v) h;rfl
end
end L2
set_option maxHeartbeats 400000
namespace L2
open PySem PySem.Spec PyProof.Rows
noncomputable def SetAt(w:Vc)(h:Heap)(a:VU)(es:Array (Int×VS))(ep:Nat)(t:Wh):Prop:=∃ o,h.get? a=some o/\o.cls = .type "set"/\o.data = .set es ep t/\t.fits es.size=true/\Tab w t
theorem SetAt.keep{w:Vc}{h h':Heap}{a:VU}{es:Array (Int×VS)}{ep:Nat}{t:Wh}(x:SetAt w h a es ep t)(k:∀ o,h.get? a=some o->h'.get? a=some o):SetAt w h' a es ep t:=let ⟨o,e,r⟩:=x;⟨o,k o e,r⟩
noncomputable def slotAt(t:Wh)(i:Nat):Nat:=if i=0 then 0 else t.place.getD (i - 1) 0+1
inductive Way(w:Vc)(h:Heap)(T0 S:VU)(es:Array (Int×VS))(ep:Nat)(t:Wh)(fs:List (Int×VS))(i:Nat):VS->Prop where
 | text (hw:w.params.followText "set-order"=true) (hf:fs=(pickOrder (w.params.setOrder S ep) es).toList):Way w h T0 S es ep t fs i (.int 0 0)
 | table (hw:w.params.followText "set-order"=false) (hd:(!t.plain&&decide (es.size>1))=false) (hf:fs=es.toList):Way w h T0 S es ep t fs i (.int (slotAt t i:Nat) 0)
 | drawn (hw:w.params.followText "set-order"=false) (pl:List Nat) (o:Obj) (n:Nat) (ho:h.get? T0=some o) (hd:o.data = .seq (pl.map λk=>Value.int (k:Nat) 0).toArray n) (hl:pl.length=fs.length)
    (hf:∀(k:Nat) p,pl[k]?=some p->es[p]?=fs[k]?):Way w h T0 S es ep t fs i (.ref T0)
noncomputable def Sit(w:Vc)(h:Heap)(T0 I S:VU)(es:Array (Int×VS))(ep:Nat)(t:Wh)(fs:List (Int×VS))(i:Nat):Prop:=
 ∃ o first,h.get? I=some o/\o.cls = .type "set_iterator"/\o.data = .fields #[first,.int (i:Nat) 0,.ref S,.int (es.size:Nat) 0,.int (ep:Nat) 0]/\Way w h T0 S es ep t fs i first
section
variable{prog:VZ}{w:Vc}{A:Vf}{E:VS->VT->Prop}{s:VT}{T0 I S:VU}{es:Array (Int×VS)}{ep:Nat}{t:Wh}{fs:List (Int×VS)}{i:Nat}
theorem Sit.typeIs(x:Sit w s.heap T0 I S es ep t fs i):s.TypeIs (.ref I) "set_iterator":=let ⟨o,_,e,c,_⟩:=x;⟨o,e,c⟩
theorem Sit.keep{h h':Heap}(x:Sit w h T0 I S es ep t fs i)(k:∀ b,b=I\/b=T0->∀ o,h.get? b=some o->h'.get? b=some o):Sit w h' T0 I S es ep t fs i:=by
 obtain⟨o,first,ho,hc,hd,W⟩:=x;refine⟨o,first,k I (.inl rfl) _ ho,hc,hd,?_⟩;cases W with
 | text hw hf=>exact .text hw hf
 | table hw hp hf=>exact .table hw hp hf
 | drawn hw pl oT n hoT hdT hl hf=>exact .drawn hw pl oT n (k T0 (.inr rfl) _ hoT) hdT hl hf
end
end L2
set_option maxHeartbeats 800000
namespace L2
open PySem PySem.Spec PyProof.Rows
section
variable{X:Cx}
theorem Ih:Vb "sorted"=some (.builtin "sorted"):=by decide +kernel
end
end L2
set_option maxHeartbeats 2000000
namespace L2
open PySem PySem.Spec PyProof.Rows
open PySem.AutoSeq1 (wpAny_loadPart')
open PySem.MeetsSeq PySem.MeetsSeq2 PySem.MeetsSeq3
theorem rcLt_int{prog:VZ}{w:Vc}{A:Vf}{E:VS->VT->Prop}{s:VT}{a b:Int}{t u:Tok}{Q:VS->VT->Prop}(h:Q (.bool (decide (a<b))) s):VX (VY prog w) A (XQ .Lt (.int a t) (.int b u)) Q E s:=by
 exact wpAny_richCompare_same (WL s a t) (WL s b u) slot_int_lt (call_int_lt ⟨(λx=>nomatch x),h⟩)
section
variable{prog:VZ}{w:Vc}{A:Vf}{E:VS->VT->Prop}{s:VT}{a₀:Array Keyed}
structure SBk(κ:XH)(a₀:Array Keyed)(st:SortSt):Prop where
 perm:(arrOf st).Perm a₀
 kind:kindOf st=κ
 failed:failedOf st=none
 pend:XN st=#[]
theorem SBk.size{κ:XH}{st:SortSt}(h:SBk κ a₀ st):(arrOf st).size=a₀.size:=h.perm.size_eq
variable{κ:XH}
end
section
variable{prog:VZ}{w:Vc}{A:Vf}{E:VS->VT->Prop}{s:VT}
theorem Fv{v:VS}{Q:Option VS->VT->Prop}(hv:s.TypeIs v "list")(h:Q none s):VX (VY prog w) A (firstOfTuple' v) Q E s:=by
 rw[Bo];refine VR (W5 (T:="list") hv ?_);have ht:(Value.type "list" != Value.type "tuple")=true:=by decide
 rw[ht];simp only[if_true];exact VV h
theorem Fw{v:VS}{vs:List VS}{Q:XH->VT->Prop}(hp:∀ u∈v::vs,s.TypeIs u "list")(h:Q XI s):VX (VY prog w) A (keyKind' (v::vs).toArray) Q E s:=by
 rw[keyKind'_eq,Uz];refine VR ?_;rw[map_eq_pure_bind];refine VR (BD (v::vs) (λ_=>none) (λu hu Q' hq=>Fv (hp u hu) hq) (VV ?_));have e1:¬ ((Ug (λ(_:VS)=>(none:Option VS)) (v::vs)).toArray.all λx=>x.isSome)=true:=by simp
 rw[iG e1];have e2:¬ (((Ug (λ(_:VS)=>(none:Option VS)) (v::vs)).toArray[0]?).bind id).isSome=true:=by simp
 rw[iG e2,oneTypeOnly'_eq,Uz];refine VR ?_;rw[map_eq_pure_bind];refine VR (VR (BD (v::vs) (λ_=>Value.type "list") (λu hu Q' hq=>W5 (hp u hu) hq) (VV ?_)))
 have hall:((Ug (λ(_:VS)=>Value.type "list") (v::vs)).toArray.all λx=>x == Value.type "list")=true:=by
  simp only[List.all_toArray,V0,SZ];intro _ _;rfl
 have h0:(Ug (λ(_:VS)=>Value.type "list") (v::vs)).toArray[0]?=some (Value.type "list"):=by simp
 rw[h0];dsimp only;rw[iP hall];exact VV (VV h)
end
theorem w4:∀{ps:List VU} {us:List VS},Vals (ps.map V.ref) us->us=ps.map Value.ref
 | [],_,.nil=>rfl
 | _::ps,_,.cons r1 t1=>by cases r1;rw[w4 t1];rfl
section
variable{X:Cx}
theorem Qp:Vb "any"=some (.builtin "any"):=by decide +kernel
theorem Ii(hc:X.calm=true):CallR X (.builtin "any") (λxs H Q=>∃(a:VU) (bs:List Bool),xs=[.ref a]/\SqL X.K H a (bs.map V.bl)/\Q (.bl (bs.any id)) H):=by
 intro pq s σ H xs us Q I r h;obtain⟨a,bs,rfl,hq,q⟩:=h;obtain⟨u,rfl,ru⟩:=AZ r;cases ru;obtain⟨its,rv,pl,hz⟩:=I.list hq;have hl:=rv.length;rw[S7]at hl;refine call_any_walk (WH pl.isList ?_);have hlt:a<s.heap.objs.size:=by obtain⟨o,n,e,_⟩:=pl;exact SN e
 refine⟨s.heap.objs.size,_,_,_,_,_,λi=>bs.getD i false,rfl,Walks.list (by exact I.ok.hd hc) s.heap.objs.size a (SS hlt) its.toArray,⟨⟨_,SW _ rfl,rfl,rfl⟩,pl.isList.push _⟩,?_,λh' tk hk=>?_⟩
 ·intro i v s' Q' E' hv hQ';have hv':its[i]?=some v:=by simpa using hv
  have hi:i<its.length:=(gM hv').1;have hb:(bs.map V.bl)[i]?=some (.bl (bs[i]'(by omega))):=by simp
  obtain⟨u',eu,ru'⟩:=rv.get hb;rw[hv']at eu;cases eu;cases ru';have hg:bs.getD i false=bs[i]'(by omega):=by simp[TY,show i<bs.length by omega]
  have hQ2:Q' (bs.getD i false) s':=hQ';rw[hg]at hQ2;exact Vj hQ2
 ·have I1:Inv X pq σ H {s with heap:=h',toks:=tk}:=I.kept λb o e=>hk b o (by simp;exact SS (SN e)) (SD _ e);refine⟨.bl _,H,I1,rfl,?_⟩
  have e:(SE its.toArray.size).any (λi=>bs.getD i false)=bs.any id:=by
   rw[SF,<-hl,TC,Tn,Tn];constructor
   ·rintro⟨j,hj,e⟩;have hj1:j<bs.length:=SX.mp hj;exact⟨bs[j],U7 hj1,by simpa[TY,hj1] using e⟩
   ·rintro⟨b,hb,e⟩;obtain⟨j,hj,e2⟩:=U6.mp hb;exact⟨j,SX.mpr hj,by simpa[TY,hj,e2] using e⟩
  rw[e];exact q
end
end L2
namespace Rf
open PySem L2
noncomputable abbrev QE:=SV->Sto->Prop
noncomputable abbrev WE:=EnvS->Sto->QE->Prop
noncomputable abbrev WA:=EnvS->Sto->(List SV->Sto->Prop)->Prop
noncomputable abbrev WT:=EnvS->Sto->(Bool->Sto->Prop)->Prop
noncomputable def Post(K:Rz)(as:List VU)(H:Hp)(Q:VK):QE:=λx S'=>∀ as' H' v,Go as H as' H'->Ok K as' H' S'->Rl K as' H' v x->Q v H'
noncomputable def Qq(K:Rz)(as:List VU)(H:Hp)(Q:List V->Hp->Prop):List SV->Sto->Prop:=λxs S'=>∀ as' H' vs,Go as H as' H'->Ok K as' H' S'->RlAll K as' H' vs xs->Q vs H'
noncomputable def PostT(K:Rz)(as:List VU)(H:Hp)(Q:Bool->Hp->Prop):Bool->Sto->Prop:=λb S'=>∀ as' H',Go as H as' H'->Ok K as' H' S'->Q b H'
noncomputable def lift(K:Rz)(w:WE):TE:=λσ H Q=>∃ as ρ S,Ok K as H S/\EnvOk K as H σ ρ/\w ρ S (Post K as H Q)
noncomputable def liftA(K:Rz)(w:WA):TA:=λσ H Q=>∃ as ρ S,Ok K as H S/\EnvOk K as H σ ρ/\w ρ S (Qq K as H Q)
noncomputable def liftT(K:Rz)(w:WT):TT:=λσ H Q=>∃ as ρ S,Ok K as H S/\EnvOk K as H σ ρ/\w ρ S (PostT K as H Q)
noncomputable def Mono(w:WE):Prop:=∀ ρ S (P P':QE),(∀ x S',P x S'->P' x S')->w ρ S P->w ρ S P'
noncomputable def MonoA(w:WA):Prop:=∀ ρ S (P P':List SV->Sto->Prop),(∀ x S',P x S'->P' x S')->w ρ S P->w ρ S P'
noncomputable def MonoT(w:WT):Prop:=∀ ρ S (P P':Bool->Sto->Prop),(∀ x S',P x S'->P' x S')->w ρ S P->w ρ S P'
theorem e7{X:Cx}{e:Expr}{t:TE}(t':TE)(h:PE X e t)(imp:∀ σ H Q,t' σ H Q->t σ H Q):PE X e t':=λpq s σ H Q I hw=>h pq s σ H Q I (imp σ H Q hw)
theorem CN{X:Cx}{e:Expr}{t:TT}(t':TT)(h:PT X e t)(imp:∀ σ H Q,t' σ H Q->t σ H Q):PT X e t':=λpq s σ H Q I hw=>h pq s σ H Q I (imp σ H Q hw)
theorem K8{X:Cx}{e:List Expr}{t:TA}(t':TA)(h:PA X e t)(imp:∀ σ H Q,t' σ H Q->t σ H Q):PA X e t':=λp pq s σ H Q I hw=>h p pq s σ H Q I (imp σ H Q hw)
section
variable{K:Rz}{as as1 as2:List VU}{H H1 H2:Hp}
theorem Post.mono{Q:VK}{x:SV}{S:Sto}(h:Post K as H Q x S)(g:Go as H as1 H1):Post K as1 H1 Q x S:=λas' H' v g'=>h as' H' v (g.trans g')
end
noncomputable abbrev S2:=SV->SV->Sto->QE->Prop
noncomputable abbrev S1:=SV->Sto->QE->Prop
noncomputable abbrev Sn:=List SV->Sto->QE->Prop
noncomputable def w2(s:S2)(a b:WE):WE:=λρ S Q=>a ρ S λx S1=>b ρ S1 λy S2=>s x y S2 Q
noncomputable def w1(s:S1)(a:WE):WE:=λρ S Q=>a ρ S λx S1=>s x S1 Q
noncomputable def wn(s:Sn)(a:WA):WE:=λρ S Q=>a ρ S λxs S1=>s xs S1 Q
noncomputable def Mono2(s:S2):Prop:=∀ x y S (P P':QE),(∀ x S',P x S'->P' x S')->s x y S P->s x y S P'
noncomputable def EQ(s:S1):Prop:=∀ x S (P P':QE),(∀ x S',P x S'->P' x S')->s x S P->s x S P'
noncomputable def MonoN(s:Sn):Prop:=∀ x S (P P':QE),(∀ x S',P x S'->P' x S')->s x S P->s x S P'
theorem Mono.two{s:S2}{a b:WE}(hs:Mono2 s)(ha:Mono a)(hb:Mono b):Mono (w2 s a b):=λρ S P P' i h=>ha _ _ _ _ (λ_ _ h=>hb _ _ _ _ (λ_ _ h=>hs _ _ _ _ _ i h) h) h
theorem Mono.one{s:S1}{a:WE}(hs:EQ s)(ha:Mono a):Mono (w1 s a):=λρ S P P' i h=>ha _ _ _ _ (λ_ _ h=>hs _ _ _ _ i h) h
theorem Mono.n{s:Sn}{a:WA}(hs:MonoN s)(ha:MonoA a):Mono (wn s a):=λρ S P P' i h=>ha _ _ _ _ (λ_ _ h=>hs _ _ _ _ i h) h
noncomputable def Ae(K:Rz)(s:S2)(r:R2):Prop:=∀ as H S x y v u Q,Ok K as H S->Rl K as H v x->Rl K as H u y->s x y S (Post K as H Q)->r v u H Q
noncomputable def Rh(K:Rz)(s:S1)(r:V->Hp->VK->Prop):Prop:=∀ as H S x v Q,Ok K as H S->Rl K as H v x->s x S (Post K as H Q)->r v H Q
noncomputable def Qr(K:Rz)(s:Sn)(r:List V->Hp->VK->Prop):Prop:=∀ as H S xs vs Q,Ok K as H S->RlAll K as H vs xs->s xs S (Post K as H Q)->r vs H Q
theorem A7{K:Rz}{s:S2}{r:R2}{wa wb:WE}(sim:Ae K s r)(ms:Mono2 s)(ma:Mono wa)(mb:Mono wb):∀ σ H Q,lift K (w2 s wa wb) σ H Q->tOp r (lift K wa) (lift K wb) σ H Q:=by
 rintro σ H Q ⟨as,ρ,S,ok,en,h⟩;refine⟨as,ρ,S,ok,en,ma _ _ _ _ (λx S1 hb as1 H1 v g1 ok1 rv=>?_) h⟩;refine⟨as1,ρ,S1,ok1,en.mono g1.pre (g1.ku ok),mb _ _ _ _ (λy S2 hs as2 H2 u g2 ok2 ru=>?_) hb⟩;exact sim as2 H2 S2 x y v u Q ok2 (Rl.mono g2.pre (g2.ku ok1) x v rv) ru (ms _ _ _ _ _ (λz S3 hz=>hz.mono (g1.trans g2)) hs)
theorem P6{K:Rz}{s:S1}{r:V->Hp->VK->Prop}{wa:WE}(sim:Rh K s r)(ms:EQ s)(ma:Mono wa):∀ σ H Q,lift K (w1 s wa) σ H Q->tUn r (lift K wa) σ H Q:=by
 rintro σ H Q ⟨as,ρ,S,ok,en,h⟩;refine⟨as,ρ,S,ok,en,ma _ _ _ _ (λx S1 hs as1 H1 v g1 ok1 rv=>?_) h⟩;exact sim as1 H1 S1 x v Q ok1 rv (ms _ _ _ _ (λz S3 hz=>hz.mono g1) hs)
theorem Qs{K:Rz}{s:Sn}{r:List V->Hp->VK->Prop}{wa:WA}(sim:Qr K s r)(ms:MonoN s)(ma:MonoA wa):∀ σ H Q,lift K (wn s wa) σ H Q->tCB r (liftA K wa) σ H Q:=by
 rintro σ H Q ⟨as,ρ,S,ok,en,h⟩;refine⟨as,ρ,S,ok,en,ma _ _ _ _ (λx S1 hs as1 H1 v g1 ok1 rv=>?_) h⟩;exact sim as1 H1 S1 x v Q ok1 rv (ms _ _ _ _ (λz S3 hz=>hz.mono g1) hs)
noncomputable def DH:WA:=λ_ S Q=>Q [] S
noncomputable def CO(a:WE)(b:WA):WA:=λρ S Q=>a ρ S λx S1=>b ρ S1 λxs S2=>Q (x::xs) S2
theorem MonoA.nil:MonoA DH:=λ_ _ _ _ i h=>i _ _ h
theorem MonoA.cons{a:WE}{b:WA}(ha:Mono a)(hb:MonoA b):MonoA (CO a b):=λ_ _ _ _ i h=>ha _ _ _ _ (λ_ _ h=>hb _ _ _ _ (λ_ _ h=>i _ _ h) h) h
theorem MV{X:Cx}{K:Rz}:PA X [] (liftA K DH):=K8 _ AT λσ H Q ⟨as,ρ,S,ok,en,h⟩=>h as H [] (Go.refl _ _) ok .nil
theorem K9{K:Rz}{a:WE}{b:WA}(ma:Mono a)(mb:MonoA b):∀ σ H Q,liftA K (CO a b) σ H Q->Gz (lift K a) (liftA K b) σ H Q:=by
 rintro σ H Q ⟨as,ρ,S,ok,en,h⟩;refine⟨as,ρ,S,ok,en,ma _ _ _ _ (λx S1 hs as1 H1 v g1 ok1 rv=>?_) h⟩;refine⟨as1,ρ,S1,ok1,en.mono g1.pre (g1.ku ok),mb _ _ _ _ (λxs S2 hq as2 H2 vs g2 ok2 rs=>?_) hs⟩;exact hq as2 H2 _ (g1.trans g2) ok2 (.cons (Rl.mono g2.pre (g2.ku ok1) x v rv) rs)
theorem KA{X:Cx}{K:Rz}{e:Expr}{es:List Expr}{a:WE}{b:WA}(ma:Mono a)(mb:MonoA b)(h1:PE X e (lift K a))(h2:PA X es (liftA K b))(hs:Vg (e::es) X.env=(false,eval e X.env)::Vg es X.env):PA X (e::es) (liftA K (CO a b)):=K8 _ (o9 h1 h2 hs) (K9 ma mb)
noncomputable def P7(i:Nat):WE:=λρ S Q=>∃ x,ρ[i]?=some (some x)/\Q x S
noncomputable def wC(x:SV):WE:=λ_ S Q=>Q x S
theorem Mono.var{i:Nat}:Mono (P7 i):=λ_ _ _ _ i ⟨x,a,b⟩=>⟨x,a,i _ _ b⟩
theorem Mono.c{x:SV}:Mono (wC x):=λ_ _ _ _ i h=>i _ _ h
theorem MW{K:Rz}{i:Nat}:∀ σ H Q,lift K (P7 i) σ H Q->M7 i σ H Q:=λσ H Q ⟨as,ρ,S,ok,en,x,e,h⟩=>let ⟨v,ev,rv⟩:=en.2 i x e;⟨v,ev,h as H v (Go.refl _ _) ok rv⟩
theorem ER{K:Rz}{x:SV}{v:V}(hx:∀ as H,Rl K as H v x):∀ σ H Q,lift K (wC x) σ H Q->tC v σ H Q:=λσ H Q ⟨as,ρ,S,ok,en,h⟩=>h as H v (Go.refl _ _) ok (hx as H)
noncomputable def big:Nat:=100000
theorem p9{n:Nat}(h:n<=big):n<=VW:=Sj h (by decide)
theorem Bp{n:Nat}(h:n<big):n<VW:=Se h (by decide)
noncomputable def MX:Sn:=λxs S Q=>xs.length<=big/\Q (.tup xs) S
noncomputable def MY:Sn:=λxs S Q=>xs.length<=big/\Q (.loc S.length) (S++[.lst xs])
theorem MonoN.tup:MonoN MX:=λ_ _ _ _ i h=>⟨h.1,i _ _ h.2⟩
theorem MonoN.lst:MonoN MY:=λ_ _ _ _ i h=>⟨h.1,i _ _ h.2⟩
theorem P8{K:Rz}{as:List VU}{H:Hp}{S:Sto}{p:VU}(ok:Ok K as H S):Rl K (as++[p]) (upd H p (.lst vs)) (.ref p) (.loc S.length):=rl_loc.mpr ⟨p,by rw[<-ok.len,Sf],rfl⟩
theorem AJ{K:Rz}{as:List VU}{H:Hp}{S:Sto}{Q:VK}{xs:List SV}{vs:List V}(ok:Ok K as H S)(r:RlAll K as H vs xs)(h:Post K as H Q (.loc S.length) (S++[.lst xs])):∀ p,H p=none->Q (.ref p) (upd H p (.lst vs)):=λp hp=>
 h (as++[p]) _ (.ref p) (Go.push hp) (ok.push hp r) (P8 ok)
theorem AK{K:Rz}{as:List VU}{H:Hp}{S:Sto}{Q:VK}{xs:List SV}{vs:List V}(ok:Ok K as H S)(r:RlAll K as H vs xs)(h:Post K as H Q (.tup xs) S):∀ p,H p=none->Q (.ref p) (upd H p (.tup vs)):=λp hp=>
 h as _ (.ref p) (Go.new hp) (ok.new hp) (rl_tup.mpr ⟨p,vs,rfl,c7,RlAll.mono (Sb _) (w6 hp) xs vs r⟩)
theorem MZ{K:Rz}{wa:WA}(ma:MonoA wa):∀ σ H Q,lift K (wn MX wa) σ H Q->QW (liftA K wa) σ H Q:=by
 rintro σ H Q ⟨as,ρ,S,ok,en,h⟩;refine⟨as,ρ,S,ok,en,ma _ _ _ _ (λxs S1 hs as1 H1 vs g1 ok1 rv=>?_) h⟩;exact⟨by rw[rv.length];exact p9 hs.1,AK ok1 rv (hs.2.mono g1)⟩
theorem Ma{K:Rz}{wa:WA}(ma:MonoA wa):∀ σ H Q,lift K (wn MY wa) σ H Q->QX (liftA K wa) σ H Q:=by
 rintro σ H Q ⟨as,ρ,S,ok,en,h⟩;refine⟨as,ρ,S,ok,en,ma _ _ _ _ (λxs S1 hs as1 H1 vs g1 ok1 rv=>?_) h⟩;exact⟨by rw[rv.length];exact p9 hs.1,AJ ok1 rv (hs.2.mono g1)⟩
end Rf
namespace L2
open PySem PySem.Spec PyProof.Rows
section
variable{prog:VZ}{w:Vc}{A:Vf}{E:VS->VT->Prop}{s:VT}
theorem SetX.kind{h:Heap}{a:VU}{L:List Int}(x:SetX prog w h a L):h.SetOf (intKind prog w) a (λk=>decide (k∈L)) L.length:=by
 obtain⟨o,es,ep,t,ho,hx,hd,hel,hb,hf,hT,hp⟩:=x;refine⟨o,es,ep,t,ho,hx,hd,hel,λk=>?_,hb,hf,by rw[<-hp.length_eq];simp⟩;rw[dQ,<-hp.mem_iff,Te];constructor
 ·rintro⟨e,he,rfl⟩;obtain⟨⟨k,hk,_⟩,_⟩:=hel e he;exact⟨e,he,by rw[HM hk];exact hk⟩
 ·rintro⟨e,he,hk⟩;exact⟨e,he,HM hk⟩
end
section
variable{X:Cx}
theorem KB:OpR X (Vd .In) (λx y H Q=>∃(k:Int) (p:VU) (S:Int->Bool) (n:Nat),x = .int k/\y = .ref p/\H p=some (.set S n)/\Q (.bl (S k)) H):=by
 intro pq s σ H x y v u Q I rx ry h;obtain⟨k,p,S,n,rfl,rfl,hp,q⟩:=h;obtain⟨t,rfl⟩:=rx;cases ry;have hS:s.heap.SetOf (intKind X.prog X.w) p S n:=I.hok p _ hp;exact wpAny_inSet_of (k:=k) (intKind_is _ _ _ _) rfl hS ⟨.bl _,H,I.tok _,rfl,q⟩
end
end L2
namespace PySem
open PyProof.Rows Builtin
theorem Am:fillsNumberSlot (.type "tuple") "mul"=pure false:=
 fillsNumberSlot_seq (id:="tuple.__mul__") (r:=some (.builtin "tuple.__rmul__")) F.slot_tuple_mul.lookup (by decide +kernel) F.slot_tuple_rmul.lookup (by decide +kernel)
theorem Bq:seqRepeat? (.type "tuple")=pure (some (.builtin "tuple.__mul__")):=by
 unfold seqRepeat?;rw[seqSlot_of (T:="tuple") (name:="__mul__") (id:="tuple.__mul__") F.slot_tuple_mul.lookup (by decide +kernel),seqSlot_of (T:="tuple") (name:="__rmul__") (id:="tuple.__rmul__") F.slot_tuple_rmul.lookup (by decide +kernel)];rfl
theorem CP(a:Int)(t:Tok)(l:VU)(items:Array VS)(n:Nat)(dd:Option VU)(sl:Array (Option VS)):
 Meets (Builtin.«int.__rmul__» ⟨[.int a t,.ref l],[]⟩) (λ_ R s=>s.heap.get? l=some {cls := .type "tuple",dict:=dd,data := .seq items n,slots:=sl}/\R (.ok (.ret Value.notImplemented)) s):=
 .of_wp λprog w A R s h=>by obtain⟨hp,g,d,tk,os⟩:=s;obtain⟨hl,h⟩:=h;wp_walk;exact⟨_,rfl,h⟩
theorem KC(l:VU)(items:Array VS)(n:Nat)(dd:Option VU)(sl:Array (Option VS))(x:Int)(u:Tok)(hc0:¬ (decide (x < -(2 ^ 63))||decide (x≥2 ^ 63))=true)(hc1:(items.isEmpty||x == 1)=true):
 Meets (Builtin.«tuple.__mul__» ⟨[.ref l,.int x u],[]⟩) (λ_ R s=>s.heap.get? l=some {cls := .type "tuple",dict:=dd,data := .seq items n,slots:=sl}/\R (.ok (.ret (Value.ref l))) {s with heap:=s.heap,toks:=s.toks}):=
 .of_wp λprog w A R s h=>by
  obtain⟨hp,g,d,tk,os⟩:=s;obtain⟨hl,h⟩:=h;have f1:=AutoSeq1.idx_int;have f2:=AutoSeq1.sub_tuple_tuple
  wp_walk using AutoSeq1.wpAny_loadPart' hl
  rw[iG hc0]
  wp_walk using AutoSeq1.wpAny_loadPart' hl
  exact⟨_,rfl,h⟩
theorem KD(l:VU)(items:Array VS)(n:Nat)(dd:Option VU)(sl:Array (Option VS))(x:Int)(u:Tok)(hc0:¬ (decide (x < -(2 ^ 63))||decide (x≥2 ^ 63))=true)(hc1:¬ (items.isEmpty||x == 1)=true)(hc2:¬ (decide (x<=0)||items.isEmpty)=true)
 (hc3:¬ (items.size * x>(2 ^ 63 - 1) / 8)) (hc4:¬ Builtin.Tuple.tupleTooMany (items.size * x)=true) (hc5:¬ (UY (λx1 x2=>x1++x2) #[] (SJ x.toNat items)).size>VW):
 Meets (Builtin.«tuple.__mul__» ⟨[.ref l,.int x u],[]⟩) (λ_ R s=>s.heap.get? l=some {cls := .type "tuple",dict:=dd,data := .seq items n,slots:=sl}/\R (.ok (.ret (Value.ref s.heap.objs.size))) {s with heap:=s.heap.push {cls:=Value.type "tuple",data:=Data.seq ((SJ x.toNat items).foldl (·++·) #[])},toks:=s.toks}):=
 .of_wp λprog w A R s h=>by
  obtain⟨hp,g,d,tk,os⟩:=s;obtain⟨hl,h⟩:=h;have f1:=AutoSeq1.idx_int;have f2:=AutoSeq1.sub_tuple_tuple
  wp_walk using AutoSeq1.wpAny_loadPart' hl
  rw[iG hc0]
  wp_walk using AutoSeq1.wpAny_loadPart' hl
  rw[iG hc3]
  wp_walk using AutoSeq1.wpAny_loadPart' hl
  exact⟨_,rfl,h⟩
theorem KF(l:VU)(items:Array VS)(n:Nat)(dd:Option VU)(sl:Array (Option VS))(u:Tok)(hc1:¬ items.isEmpty=true):
 Meets (Builtin.«tuple.__mul__» ⟨[.ref l,.int 0 u],[]⟩) (λ_ R s=>s.heap.get? l=some {cls := .type "tuple",dict:=dd,data := .seq items n,slots:=sl}/\R (.ok (.ret (Value.ref s.heap.objs.size))) {s with heap:=s.heap.push {cls:=Value.type "tuple",data:=Data.seq #[]},toks:=s.toks}):=
 .of_wp λprog w A R s h=>by
  obtain⟨hp,g,d,tk,os⟩:=s;obtain⟨hl,h⟩:=h;have f1:=AutoSeq1.idx_int;have f2:=AutoSeq1.sub_tuple_tuple
  wp_walk using AutoSeq1.wpAny_loadPart' hl
  exact⟨_,rfl,h⟩
end PySem
namespace L2
open PySem PySem.Spec PyProof.Rows
section
variable{X:Cx}
noncomputable def Nz(K:Rz):R2:=λx y H Q=>∃ a k xs,x = .ref a/\y = .int k/\SqT K H a xs/\0<=k/\k<=1000/\xs.length * k.toNat<=VW/\
 (xs=[]\/k=1->Q (.ref a) H)/\(xs≠[]->k≠1->∀ p,H p=none->Q (.ref p) (upd H p (.tup (SJ k.toNat xs).flatten)))
theorem Mb:OpR X (Vq .Mult) (Nz X.K):=by
 intro pq s σ H x y v u Q I rx ry h;obtain⟨l,k,xs,rfl,rfl,hH,h1,h2,hz,q1,q2⟩:=h;cases rx;obtain⟨t,rfl⟩:=ry;obtain⟨its,r,p1,_⟩:=I.tuple hH;obtain⟨⟨cls,dd,data,sl⟩,ho,hc,n,hd⟩:=id p1;simp only at hc hd;subst hc hd;have hc0:¬ (decide (k < -(2 ^ 63))||decide (k≥2 ^ 63))=true:=by simp;omega
 refine WZ (T:="tuple") (U:="int") (by decide) ⟨_,ho,rfl⟩ (λs'=>WL s' k t) Am F.fills_int_mul F.slot_int_rmul Bq F.slot_int_index.lookup
  (Vz F.slot_int_rmul (WL s k t) F.entry_int_rmul (F.args_int_rmul_2 _ _) (CP k t l its.toArray n dd sl) ⟨ho,rfl,⟨_,ho,rfl⟩,?_⟩)
 by_cases hx:xs=[]\/k=1
 ·have hi:its=[]\/k=1:=hx.imp r.nil_iff.mpr id;exact Vz F.slot_tuple_mul ⟨_,ho,rfl⟩ F.entry_tuple_mul (F.args_tuple_mul_2 _ _) (KC l its.toArray n dd sl k t hc0 (by rcases hi with hi | hi<;>simp[hi])) ⟨ho,⟨.ref l,H,I,rfl,q1 hx⟩⟩
 ·have hk1:k≠1:=λz=>hx (.inr z);have hx':xs≠[]:=λz=>hx (.inl z);clear hx;have hx:xs≠[]:=hx';have hi:its≠[]:=λz=>hx (r.nil_iff.mp z);by_cases h0:k=0
  ·subst h0;refine Vz F.slot_tuple_mul ⟨_,ho,rfl⟩ F.entry_tuple_mul (F.args_tuple_mul_2 _ _) (KF l its.toArray n dd sl t (by simpa using hi)) ⟨ho,?_⟩;refine⟨.ref s.heap.objs.size,_,I.laid (t':=s.toks) (o := .tup []) (λb ob q=>SD _ q) (SK _) ⟨by simp,[],.nil,IsTup.new _ _⟩,rfl,?_⟩;have:=q2 hx hk1 _ (I.hok.fresh (SK _));simpa using this
  have hl:xs.length=its.length:=r.length
  have hzz:(its.length:Int) * k<=(VW:Int):=by
   have:((xs.length * k.toNat:Nat):Int)<=(VW:Int):=by exact_mod_cast hz
   rw[hl]at this
   push_cast at this
   rwa [Tw (by omega)]at this
  have hnew:UY (λx1 x2=>x1++x2) #[] (SJ k.toNat its.toArray)=(SJ k.toNat its).flatten.toArray:=by
   have:=Bj its k.toNat [];rw[UK]at this;exact this
  refine Vz F.slot_tuple_mul ⟨_,ho,rfl⟩ F.entry_tuple_mul (F.args_tuple_mul_2 _ _) (KD l its.toArray n dd sl k t hc0 (by simp[hi];omega) (by simp[hi];omega) ?_ ?_ (by
   rw[AutoSeq1.size_joined,show its.toArray.size=xs.length by rw[SF,hl],Uw];simp only[SF,Tr];omega)) ⟨ho,?_⟩
  ·have:(VW:Int)<=(2 ^ 63 - 1) / 8:=by decide
   rw[SF];omega
  ·unfold Builtin.Tuple.tupleTooMany;rw[SF];simp;omega
  ·rw[hnew];refine⟨.ref s.heap.objs.size,_,I.laid (t':=s.toks) (o := .tup (SJ k.toNat xs).flatten) (λb ob q=>SD _ q) (SK _) ?_,rfl,q2 hx hk1 _ (I.hok.fresh (SK _))⟩;exact⟨by rw[HG,Uw];exact hz,_,r.rep k.toNat,IsTup.new _ _⟩
end
open PySem PySem.Spec PyProof.Rows PySem.SeqAt
section
variable{X:Cx}
noncomputable def O0(K:Rz):R2:=λx y H Q=>∃ a t,x = .ref a/\y = .str t/\((∃ xs,SqL K H a xs)\/∃ xs,SqT K H a xs)/\Q (.bl false) H
theorem Mc(hu:X.A.units<cLine):OpR X (Vd .Eq) (O0 X.K):=by
 intro pq s σ H x y v u Q I rx ry h;obtain⟨a,t,rfl,rfl,h1,q⟩:=h;cases rx;obtain⟨tk,rfl⟩:=ry
 have e:VX (VY X.prog X.w) X.A (XQ .Eq (.ref a) (.str t tk)) (EP X pq σ Q) X.xe s:=by
  rcases h1 with⟨xs,h1⟩ | ⟨xs,h1⟩
  ·obtain⟨its,r1,p1,_⟩:=I.list h1;exact RcAt.list_str t tk p1.isList hu _ _ _ _ ⟨.bl false,H,I,rfl,q⟩
  ·obtain⟨its,r1,p1,_⟩:=I.tuple h1;exact RcAt.tuple_str (items:=its.toArray) t tk p1 hu _ _ _ _ ⟨.bl false,H,I,rfl,q⟩
 exact e
end
end L2
namespace Rf
open PySem L2
noncomputable def v0:SV->Bool
 | .non=>true | .bl _=>true | .int _=>true | .str _=>true | _=>false
noncomputable def toV:SV->V
 | .non => .non | .bl b => .bl b | .int i => .int i | .str x => .str x | _ => .non
noncomputable def eqF:SV->SV->Bool
 | .non,.non=>true
 | .bl a,.bl b=>a == b
 | .bl a,.int b=>(if a then 1 else 0) == b
 | .int a,.bl b=>a == (if b then 1 else 0)
 | .int a,.int b=>a == b
 | .str a,.str b=>a == b
 | _,_=>false
noncomputable def ES(xs ys:List SV):Bool:=xs.length == ys.length&&(xs.zip ys).all λp=>eqF p.1 p.2
noncomputable def inS(x:SV)(xs:List SV):Bool:=xs.any λy=>eqF y x
section
variable{K:Rz}{as:List VU}{H:Hp}
theorem HN{x:SV}{v:V}(f:v0 x=true)(r:Rl K as H v x):v=toV x:=by
 cases x with
 | non=>exact rl_non.mp r
 | bl _=>exact rl_bl.mp r
 | int _=>exact rl_int.mp r
 | str _=>exact rl_str.mp r
 | _=>cases f
theorem AL:∀{xs:List SV} {vs:List V},xs.all v0=true->RlAll K as H vs xs->vs=xs.map toV
 | [],_,_,r=>rla_nil.mp r
 | x::xs,_,f,r=>by
   rw[TN,S8]at f;obtain⟨v,vs,rfl,r1,r2⟩:=rla_cons.mp r;rw[HN f.1 r1,AL f.2 r2];rfl
theorem ET{x:SV}(f:v0 x=true):n0 (toV x)=true:=by cases x<;>first | rfl | cases f
theorem Br{xs:List SV}(f:xs.all v0=true):(xs.map toV).all n0=true:=by
 rw[SZ]at f ⊢;intro v hv;obtain⟨x,hx,rfl⟩:=Te.mp hv;exact ET (f x hx)
theorem Dl{x y:SV}(fx:v0 x=true)(fy:v0 y=true):eqV (toV x) (toV y)=eqF x y:=by
 cases x<;>first | cases fx;done | (cases y<;>first | rfl | cases fy)
theorem P9{x:SV}{xs:List SV}(fx:v0 x=true)(f:xs.all v0=true):inV (toV x) (xs.map toV)=inS x xs:=by
 unfold inV inS;rw[V1];rw[SZ]at f;rw[TC,Tn,Tn];constructor
 ·rintro⟨y,hy,e⟩;exact⟨y,hy,by rw[<-Dl (f y hy) fx];exact e⟩
 ·rintro⟨y,hy,e⟩;exact⟨y,hy,by show eqV (toV y) (toV x)=true;rw[Dl (f y hy) fx];exact e⟩
theorem Md:∀{xs ys:List SV},xs.all v0=true->ys.all v0=true->AG (xs.map toV) (ys.map toV)=ES xs ys:=by
 intro xs ys fx fy;unfold AG ES;rw[S7,S7,List.zip_map,V0]
 congr 1
 rw[TC,SZ,SZ];rw[SZ]at fx fy;constructor
 ·rintro h ⟨a,b⟩ hm;have:=h (a,b) hm;rw[<-Dl (fx a (Tq hm).1) (fy b (Tq hm).2)];exact this
 ·rintro h ⟨a,b⟩ hm;have:=h (a,b) hm;show eqV (toV a) (toV b)=true;rw[Dl (fx a (Tq hm).1) (fy b (Tq hm).2)];exact this
noncomputable def AH:SV->Sto->Option (List SV)
 | .tup xs,_=>some xs
 | .ro xs,_=>some xs
 | .loc k,S=>match S[k]? with | some (.lst xs)=>some xs | _=>none
 | _,_=>none
theorem Dm{x:SV}{v:V}{S:Sto}{xs:List SV}(ok:Ok K as H S)(r:Rl K as H v x)(h:AH x S=some xs):∃ a vs,v = .ref a/\(SqL K H a vs\/SqT K H a vs)/\RlAll K as H vs xs:=by
 cases x with
 | tup ys=>
   cases h;obtain⟨p,vs,rfl,hp,rr⟩:=rl_tup.mp r;exact⟨p,vs,rfl,.inr (SqT.of hp),rr⟩
 | ro ys=>
   cases h;obtain⟨p,vs,rfl,hp,rr⟩:=rl_ro.mp r;exact⟨p,vs,rfl,.inl hp.sq,rr⟩
 | loc k=>
   obtain⟨a,ea,rfl⟩:=rl_loc.mp r;unfold AH at h;cases hs:S[k]? with
   | none=>simp only[hs]at h;cases h
   | some o=>
     cases o with
     | lst ys=>
       simp only[hs]at h;cases h;obtain⟨vs,h1,rr⟩:=ok.obj k _ a hs ea;exact⟨a,vs,rfl,.inl (SqL.of h1),rr⟩
     | iset _=>simp only[hs]at h;cases h
     | dtl _=>simp only[hs]at h;cases h
     | dtf _ _ _=>simp only[hs]at h;cases h
     | dtp _=>simp only[hs]at h;cases h
     | dct _=>simp only[hs]at h;cases h
     | dcf _ _ _=>simp only[hs]at h;cases h
 | _=>cases h
theorem l8{k:Nat}{v:V}{S:Sto}{xs:List SV}(ok:Ok K as H S)(r:Rl K as H v (.loc k))(h:S[k]?=some (.lst xs)):∃ a vs,v = .ref a/\as[k]?=some a/\H a=some (.lst vs)/\RlAll K as H vs xs:=by
 obtain⟨a,ea,rfl⟩:=rl_loc.mp r;obtain⟨vs,h1,rr⟩:=ok.obj k _ a h ea;exact⟨a,vs,rfl,ea,h1,rr⟩
end
noncomputable def Ij:S2
 | .int i,.int j,S,Q=>Q (.int (i+j)) S
 | .str i,.str j,S,Q=>i.length+j.length<=big/\Q (.str (i++j)) S
 | .tup xs,.tup ys,S,Q=>xs.length+ys.length<=big/\Q (.tup (xs++ys)) S
 | .loc k,.loc l,S,Q=>∃ xs ys,S[k]?=some (.lst xs)/\S[l]?=some (.lst ys)/\xs.length+ys.length<=big/\Q (.loc S.length) (S++[.lst (xs++ys)])
 | _,_,_,_=>False
noncomputable def Fx(C:Int->Int->Prop)(g:Int->Int->SV):S2
 | .int i,.int j,S,Q=>C i j/\Q (g i j) S
 | _,_,_,_=>False
noncomputable def BS(g:Int->Int->SV):S2
 | .int i,.int j,S,Q=>Q (g i j) S
 | _,_,_,_=>False
noncomputable def Ik:S2
 | .int i,.int j,S,Q=>CMul i j/\Q (.int (i * j)) S
 | .loc k,.int j,S,Q=>∃ xs,S[k]?=some (.lst xs)/\(-1000000<j/\j<1000000)/\xs.length * j.toNat<=big/\Q (.loc S.length) (S++[.lst (SJ j.toNat xs).flatten])
 | .tup xs,.int j,S,Q=>(0<=j/\j<=1000)/\xs.length * j.toNat<=big/\Q (.tup (SJ j.toNat xs).flatten) S
 | _,_,_,_=>False
theorem Mono2.add:Mono2 Ij:=λx y S P P' i h=>by
 unfold Ij at h ⊢
 split at h<;>first
  | exact i _ _ h
  | exact⟨h.1,i _ _ h.2⟩
  | (obtain⟨xs,ys,a,b,c,d⟩:=h;exact⟨xs,ys,a,b,c,i _ _ d⟩)
  | exact h.elim
theorem Mono2.int{C:Int->Int->Prop}{g:Int->Int->SV}:Mono2 (Fx C g):=λx y S P P' i h=>by
 unfold Fx at h ⊢;split at h
 ·exact⟨h.1,i _ _ h.2⟩
 ·exact h.elim
theorem Mono2.int0{g:Int->Int->SV}:Mono2 (BS g):=λx y S P P' i h=>by
 unfold BS at h ⊢;split at h
 ·exact i _ _ h
 ·exact h.elim
theorem Mono2.mul:Mono2 Ik:=λx y S P P' i h=>by
 unfold Ik at h ⊢;split at h
 ·exact⟨h.1,i _ _ h.2⟩
 ·obtain⟨xs,a,b,c,d⟩:=h;exact⟨xs,a,b,c,i _ _ d⟩
 ·exact⟨h.1,h.2.1,i _ _ h.2.2⟩
 ·exact h.elim
section
variable{K:Rz}
theorem Post.here{as:List VU}{H:Hp}{Q:VK}{x:SV}{S:Sto}{v:V}(h:Post K as H Q x S)(ok:Ok K as H S)(r:Rl K as H v x):Q v H:=h as H v (Go.refl _ _) ok r
theorem Do{C:Int->Int->Prop}{g:Int->Int->SV}{g':Int->Int->V}(hg:∀ as H i j,Rl K as H (g' i j) (g i j)):Ae K (Fx C g) (rI C g'):=λas H S x y v u Q ok rx ry h=>by
 unfold Fx at h;split at h
 ·rw[rl_int]at rx ry;exact⟨_,_,rx,ry,h.1,h.2.here ok (hg _ _ _ _)⟩
 ·exact h.elim
theorem An{g:Int->Int->SV}{g':Int->Int->V}(hg:∀ as H i j,Rl K as H (g' i j) (g i j)):Ae K (BS g) (rI0 g'):=λas H S x y v u Q ok rx ry h=>by
 unfold BS at h;split at h
 ·rw[rl_int]at rx ry;exact⟨_,_,rx,ry,h.here ok (hg _ _ _ _)⟩
 ·exact h.elim
noncomputable def Qt(K:Rz):R2:=λx y H Q=>(((rI0 λi j => .int (i+j)) x y H Q\/Qg x y H Q)\/(Jm K x y H Q\/K7 K x y H Q))\/∃ i j,x = .str i/\y = .str j/\i.length+j.length<=VW/\Q (.str (i++j)) H
theorem Me{X:Cx}:OpR X (Vq .Add) (Qt X.K):=((op_add.or Ox).or MS).or Fg
theorem Mf:Ae K Ij (Qt K):=λas H S x y v u Q ok rx ry h=>by
 unfold Ij at h;split at h
 ·rw[rl_int]at rx ry;exact .inl (.inl (.inl ⟨_,_,rx,ry,h.here ok (rl_int.mpr rfl)⟩))
 ·rw[rl_str]at rx ry;exact .inr ⟨_,_,rx,ry,p9 h.1,h.2.here ok (rl_str.mpr rfl)⟩
 ·rename_i xs ys;obtain⟨a,vs,rfl,ha,ra⟩:=rl_tup.mp rx;obtain⟨b,us,rfl,hb,rb⟩:=rl_tup.mp ry;have l1:=ra.length;have l2:=rb.length;by_cases hx:vs=[]
  ·subst hx;have:xs=[]:=TR.mp (by rw[<-l1];rfl);subst this;exact .inl (.inr (.inr ⟨a,b,us,rfl,rfl,SqT.of ha,SqT.of hb,h.2.here ok ry⟩))
  ·refine .inl (.inr (.inl ⟨a,b,vs,us,rfl,rfl,SqT.of ha,SqT.of hb,hx,by rw[l1,l2];exact p9 h.1,λz=>?_,λ_=>AK ok (ra.append rb) h.2⟩));have:ys=[]:=TR.mp (by rw[<-l2,z];rfl);subst this;rw[Su]at h;exact h.2.here ok rx
 ·obtain⟨xs,ys,h1,h2,h3,h4⟩:=h;obtain⟨a,vs,rfl,_,ha,ra⟩:=l8 ok rx h1;obtain⟨b,us,rfl,_,hb,rb⟩:=l8 ok ry h2;exact .inl (.inl (.inr ⟨a,b,vs,us,rfl,rfl,ha,hb,by rw[ra.length,rb.length];exact p9 h3,AJ ok (ra.append rb) h4⟩))
 ·exact h.elim
theorem RlAll.rep{as:List VU}{H:Hp}{vs:List V}{xs:List SV}(h:RlAll K as H vs xs):∀ n,RlAll K as H (SJ n vs).flatten (SJ n xs).flatten
 | 0=>by simpa using RlAll.nil
 | n+1=>by
   rw[Ss,Ss,Ti,Ti];exact h.append (RlAll.rep h n)
theorem Mg:Ae K Ik (λx y H Q=>((rI CMul λi j => .int (i * j)) x y H Q\/Qh x y H Q)\/Nz K x y H Q):=λas H S x y v u Q ok rx ry h=>by
 unfold Ik at h;split at h
 ·rw[rl_int]at rx ry;exact .inl (.inl ⟨_,_,rx,ry,h.1,h.2.here ok (rl_int.mpr rfl)⟩)
 ·rename_i k j;obtain⟨xs,h1,h2,h3,h4⟩:=h;obtain⟨a,vs,rfl,_,ha,ra⟩:=l8 ok rx h1;rw[rl_int]at ry;subst ry;exact .inl (.inr ⟨a,j,vs,rfl,rfl,ha,by omega,by omega,by rw[ra.length];exact p9 h3,AJ ok (ra.rep _) h4⟩)
 ·rename_i xs j;obtain⟨h2,h3,h4⟩:=h;obtain⟨p,vs,rfl,hp,ra⟩:=rl_tup.mp rx;rw[rl_int]at ry;subst ry;refine .inr ⟨p,j,vs,rfl,rfl,SqT.of hp,h2.1,h2.2,by rw[ra.length];exact p9 h3,λz=>?_,λ_ _=>AK ok (ra.rep _) h4⟩;rcases z with z | z
  case inr=>
   subst z;have e2:(SJ (1:Int).toNat xs).flatten=xs:=by simp
   rw[e2]at h4;exact h4.here ok rx
  subst z
  have e:xs=[]:=by
   cases xs with
   | nil=>rfl
   | cons y ys=>have:=ra.length;simp at this
  subst e;have e2:(SJ j.toNat ([]:List SV)).flatten=[]:=by simp
  rw[e2]at h4;exact h4.here ok rx
 ·exact h.elim
end
noncomputable def scS:SV->SV->Option Bool
 | .int i,.int j=>some (decide (i=j))
 | .bl i,.bl j=>some (decide (i=j))
 | .str i,.str j=>some (decide (i=j))
 | .non,.non=>some true
 | .non,.int _=>some false | .int _,.non=>some false | .non,.bl _=>some false | .bl _,.non=>some false | .non,.str _=>some false | .str _,.non=>some false
 | .int _,.str _=>some false | .str _,.int _=>some false | .bl _,.str _=>some false | .str _,.bl _=>some false
 | _,_=>none
noncomputable def Fy:SV->SV->Sto->(Bool->Prop)->Prop
 | .loc k,.loc l,S,Q=>∃ xs ys,S[k]?=some (.lst xs)/\S[l]?=some (.lst ys)/\((xs.all v0=true/\ys.all v0=true)\/xs=[]\/ys=[])/\Q (ES xs ys)
 | _,_,_,_=>False
noncomputable def Il:SV->SV->Sto->(Bool->Prop)->Prop
 | .loc k,.loc l,S,Q=>∃ xs ys,S[k]?=some (.lst xs)/\S[l]?=some (.lst ys)/\((xs.all v0=true/\ys.all v0=true)\/xs=[]\/ys=[])/\Q (ES xs ys)
 | .loc k,.str _,S,Q=>(∃ xs,S[k]?=some (.lst xs))/\Q false
 | .tup _,.str _,_,Q=>Q false
 | _,_,_,_=>False
theorem PB{x y:SV}{S:Sto}{Q:Bool->Prop}(h:Il x y S Q):Fy x y S Q\/(∃ t,y = .str t/\((∃ k xs,x = .loc k/\S[k]?=some (.lst xs))\/∃ xs,x = .tup xs)/\Q false):=by
 unfold Il at h;split at h
 ·exact .inl h
 ·obtain⟨⟨xs,e⟩,q⟩:=h;exact .inr ⟨_,rfl,.inl ⟨_,xs,rfl,e⟩,q⟩
 ·exact .inr ⟨_,rfl,.inr ⟨_,rfl⟩,h⟩
 ·exact h.elim
theorem Im{x y:SV}{S:Sto}{P P':Bool->Prop}(i:∀ b,P b->P' b)(h:Il x y S P):Il x y S P':=by
 unfold Il at h ⊢;split at h
 ·obtain⟨xs,ys,a,b,c,d⟩:=h;exact⟨xs,ys,a,b,c,i _ d⟩
 ·exact⟨h.1,i _ h.2⟩
 ·exact i _ h
 ·exact h.elim
noncomputable def sEq:S2:=λx y S Q=>match scS x y with | some b=>Q (.bl b) S | none=>Il x y S λb=>Q (.bl b) S
noncomputable def sNe:S2:=λx y S Q=>match scS x y with | some b=>Q (.bl (!b)) S | none=>Fy x y S λb=>Q (.bl (!b)) S
noncomputable def CQ:SV->Sto->Option (List Int)
 | .loc k,S=>match S[k]? with | some (.iset ms)=>some ms | _=>none
 | _,_=>none
noncomputable def sIn(neg:Bool):S2:=λx y S Q=>match CQ y S with
 | some ms=>∃ i,x = .int i/\neg=false/\Q (.bl (decide (i∈ms))) S
 | none=>v0 x=true/\∃ ys,AH y S=some ys/\ys.all v0=true/\Q (.bl (if neg then !inS x ys else inS x ys)) S
noncomputable def KG:SV->Bool
 | .non=>true
 | _=>false
noncomputable def KH(neg:Bool):S2:=λx y S Q=>(y = .non/\Q (.bl (if neg then !KG x else KG x)) S)\/∃ c d,neg=true/\x = .bl c/\y = .bl d/\Q (.bl (c != d)) S
theorem Io{x y:SV}{S:Sto}{P P':Bool->Prop}(i:∀ b,P b->P' b)(h:Fy x y S P):Fy x y S P':=by
 unfold Fy at h ⊢;split at h
 ·obtain⟨xs,ys,a,b,c,d⟩:=h;exact⟨xs,ys,a,b,c,i _ d⟩
 ·exact h.elim
theorem Mono2.eq:Mono2 sEq:=λx y S P P' i h=>by
 unfold sEq at h ⊢;split at h
 ·exact i _ _ h
 ·exact Im (λ_=>i _ _) h
theorem Mono2.ne:Mono2 sNe:=λx y S P P' i h=>by
 unfold sNe at h ⊢;split at h
 ·exact i _ _ h
 ·exact Io (λ_=>i _ _) h
theorem Mono2.in'{n:Bool}:Mono2 (sIn n):=λx y S P P' i h=>by
 unfold sIn at h ⊢;split at h
 ·obtain⟨j,e,z,h⟩:=h;exact⟨j,e,z,i _ _ h⟩
 ·obtain⟨f,ys,a,b,h⟩:=h;exact⟨f,ys,a,b,i _ _ h⟩
theorem Mono2.isN{n:Bool}:Mono2 (KH n):=λx y S P P' i h=>h.imp (λh=>⟨h.1,i _ _ h.2⟩) λ⟨c,d,z,a,b,h⟩=>⟨c,d,z,a,b,i _ _ h⟩
section
variable{K:Rz}
theorem KI{as:List VU}{H:Hp}{x y:SV}{v u:V}{b:Bool}(e:scS x y=some b)(rx:Rl K as H v x)(ry:Rl K as H u y):Om v u=true/\decide (v=u)=b:=by
 cases x<;>first | (unfold scS at e;cases e;done) | (cases y<;>first | (unfold scS at e;cases e;done) | (simp only[rl_non,rl_bl,rl_int,rl_str]at rx ry;subst rx ry;unfold scS at e;injection e with e;subst e;exact⟨rfl,by simp⟩))
theorem HP{as:List VU}{H:Hp}{S:Sto}{x y:SV}{v u:V}{Q:Bool->Prop}(ok:Ok K as H S)(rx:Rl K as H v x)(ry:Rl K as H u y)(h:Fy x y S Q):∃ a b xs ys,v = .ref a/\u = .ref b/\SqL K H a xs/\SqL K H b ys/\((xs.all n0=true/\ys.all n0=true)\/xs=[]\/ys=[])/\Q (AG xs ys):=by
 unfold Fy at h;split at h
 ·obtain⟨xs,ys,h1,h2,h3,h4⟩:=h;obtain⟨a,vs,rfl,_,ha,ra⟩:=l8 ok rx h1;obtain⟨b,us,rfl,_,hb,rb⟩:=l8 ok ry h2;refine⟨a,b,vs,us,rfl,rfl,SqL.of ha,SqL.of hb,?_,?_⟩
  ·rcases h3 with⟨f1,f2⟩ | h3 | h3
   ·rw[AL f1 ra,AL f2 rb];exact .inl ⟨Br f1,Br f2⟩
   ·subst h3;exact .inr (.inl (rla_nil.mp ra))
   ·subst h3;exact .inr (.inr (rla_nil.mp rb))
  ·have e:AG vs us=ES xs ys:=by
    rcases h3 with⟨f1,f2⟩ | h3 | h3
    ·rw[AL f1 ra,AL f2 rb,Md f1 f2]
    ·subst h3;have:=rla_nil.mp ra;subst this;have l:=rb.length;unfold AG ES;simp[l]
    ·subst h3;have:=rla_nil.mp rb;subst this;have l:=ra.length;unfold AG ES;simp[l]
   rw[e];exact h4
 ·exact h.elim
theorem PC:Ae K sEq (λx y H Q=>rEq x y H Q\/(MP K false x y H Q\/O0 K x y H Q)):=λas H S x y v u Q ok rx ry h=>by
 unfold sEq at h;split at h
 ·rename_i b e;obtain⟨h1,h2⟩:=KI e rx ry;exact .inl ⟨h1,by rw[h2];exact h.here ok (rl_bl.mpr rfl)⟩
 ·rcases PB h with h | ⟨t,rfl,h,q⟩
  ·obtain⟨a,b,xs,ys,e1,e2,h1,h2,h3,h4⟩:=HP ok rx ry h;exact .inr (.inl ⟨a,b,xs,ys,e1,e2,h1,h2,h3,h4.here ok (rl_bl.mpr rfl)⟩)
  ·rw[rl_str]at ry;subst ry;rcases h with⟨k,xs,rfl,hk⟩ | ⟨xs,rfl⟩
   ·obtain⟨a,vs,rfl,_,ha,_⟩:=l8 ok rx hk;exact .inr (.inr ⟨a,t,rfl,rfl,.inl ⟨vs,SqL.of ha⟩,Post.here q ok (rl_bl.mpr rfl)⟩)
   ·obtain⟨p,vs,rfl,hp,_⟩:=rl_tup.mp rx;exact .inr (.inr ⟨p,t,rfl,rfl,.inr ⟨vs,SqT.of hp⟩,Post.here q ok (rl_bl.mpr rfl)⟩)
theorem PD:Ae K sNe (λx y H Q=>rNe x y H Q\/MP K true x y H Q):=λas H S x y v u Q ok rx ry h=>by
 unfold sNe at h;split at h
 ·rename_i b e;obtain⟨h1,h2⟩:=KI e rx ry;exact .inl ⟨h1,by rw[h2];exact h.here ok (rl_bl.mpr rfl)⟩
 ·obtain⟨a,b,xs,ys,e1,e2,h1,h2,h3,h4⟩:=HP ok rx ry h;exact .inr ⟨a,b,xs,ys,e1,e2,h1,h2,h3,h4.here ok (rl_bl.mpr rfl)⟩
theorem Mh{as:List VU}{H:Hp}{S:Sto}{y:SV}{u:V}{ms:List Int}(ok:Ok K as H S)(r:Rl K as H u y)(h:CQ y S=some ms):∃ a k F,y = .loc k/\u = .ref a/\as[k]?=some a/\S[k]?=some (.iset ms)/\H a=some (.set F ms.length)/\∀ k,F k=decide (k∈ms):=by
 cases y with
 | loc k=>
   obtain⟨a,ea,rfl⟩:=rl_loc.mp r;unfold CQ at h;cases hs:S[k]? with
   | none=>simp only[hs]at h;cases h
   | some o=>
     cases o with
     | lst ys=>simp only[hs]at h;cases h
     | iset ns=>
       simp only[hs]at h;cases h;obtain⟨F,h1,h2⟩:=ok.obj k _ a hs ea;exact⟨a,k,F,rfl,rfl,ea,hs,h1,h2⟩
     | dtl _=>simp only[hs]at h;cases h
     | dtf _ _ _=>simp only[hs]at h;cases h
     | dtp _=>simp only[hs]at h;cases h
     | dct _=>simp only[hs]at h;cases h
     | dcf _ _ _=>simp only[hs]at h;cases h
 | _=>cases h
noncomputable def PF(K:Rz)(neg:Bool):R2:=λx y H Q=>rIn K neg x y H Q\/(neg=false/\∃(k:Int) (p:VU) (S:Int->Bool) (n:Nat),x = .int k/\y = .ref p/\H p=some (.set S n)/\Q (.bl (S k)) H)
theorem PH{X:Cx}:OpR X (Vd .In) (PF X.K false):=λpq s σ H x y v u Q I rx ry h=>h.elim (IU pq s σ H x y v u Q I rx ry) λh=>KB pq s σ H x y v u Q I rx ry h.2
theorem Ip{X:Cx}:OpR X (Vd .NotIn) (PF X.K true):=λpq s σ H x y v u Q I rx ry h=>h.elim (Dd pq s σ H x y v u Q I rx ry) λh=>by cases h.1
theorem KJ{n:Bool}:Ae K (sIn n) (PF K n):=λas H S x y v u Q ok rx ry h=>by
 unfold sIn at h;split at h
 ·rename_i ms hi;obtain⟨i,rfl,rfl,h⟩:=h;obtain⟨a,k,F,rfl,rfl,ea,es,hF,hk⟩:=Mh ok ry hi;rw[rl_int]at rx;exact .inr ⟨rfl,i,a,F,_,rx,rfl,hF,by rw[hk];exact h.here ok (rl_bl.mpr rfl)⟩
 ·obtain⟨f,ys,hs,fs,h⟩:=h;obtain⟨a,vs,rfl,hq,rr⟩:=Dm ok ry hs;have ev:=HN f rx;have es:=AL fs rr;subst ev es;exact .inl ⟨a,_,rfl,hq,ET f,Br fs,by rw[P9 f fs];exact h.here ok (rl_bl.mpr rfl)⟩
theorem EU{as:List VU}{H:Hp}{x:SV}{v:V}(r:Rl K as H v x):decide (v=V.non)=KG x:=by
 cases x with
 | non=>rw[rl_non.mp r];rfl
 | bl _=>rw[rl_bl.mp r];rfl
 | int _=>rw[rl_int.mp r];rfl
 | str _=>rw[rl_str.mp r];rfl
 | tup _=>obtain⟨p,vs,rfl,_⟩:=rl_tup.mp r;rfl
 | loc _=>obtain⟨p,_,rfl⟩:=rl_loc.mp r;rfl
 | ro _=>obtain⟨p,vs,rfl,_⟩:=rl_ro.mp r;rfl
 | ty _=>rw[rl_ty.mp r];rfl
theorem Mi:Ae K (KH false) (λx y H Q=>y = .non/\Q (.bl (decide (x = .non))) H):=λas H S x y v u Q ok rx ry h=>by
 rcases h with⟨e,h⟩ | ⟨c,d,z,_⟩
 ·subst e;exact⟨rl_non.mp ry,by rw[EU rx];exact h.here ok (rl_bl.mpr rfl)⟩
 ·cases z
theorem KK:Ae K (KH true) (λx y H Q=>(y = .non/\Q (.bl (!decide (x = .non))) H)\/∃ c d,x = .bl c/\y = .bl d/\Q (.bl (c != d)) H):=λas H S x y v u Q ok rx ry h=>by
 rcases h with⟨e,h⟩ | ⟨c,d,_,rfl,rfl,h⟩
 ·subst e;exact .inl ⟨rl_non.mp ry,by rw[EU rx];exact h.here ok (rl_bl.mpr rfl)⟩
 ·exact .inr ⟨c,d,rl_bl.mp rx,rl_bl.mp ry,h.here ok (rl_bl.mpr rfl)⟩
end
noncomputable def sIx:S2
 | x,.int i,S,Q=>∃ xs y,AH x S=some xs/\atI xs i=some y/\Q y S
 | _,_,_,_=>False
theorem Mono2.ix:Mono2 sIx:=λx y S P P' i h=>by
 unfold sIx at h ⊢;split at h
 ·obtain⟨xs,z,a,b,c⟩:=h;exact⟨xs,z,a,b,i _ _ c⟩
 ·exact h.elim
section
variable{K:Rz}
theorem RlAll.atI{as:List VU}{H:Hp}{xs:List SV}{vs:List V}{i:Int}{y:SV}(h:RlAll K as H vs xs)(e:L2.atI xs i=some y):∃ v,L2.atI vs i=some v/\Rl K as H v y:=by
 unfold L2.atI at e ⊢;rw[h.length];cases hj:ixN xs.length i with
 | none=>rw[hj]at e;cases e
 | some j=>
   rw[hj]at e;exact h.get e
theorem PJ:Ae K sIx (λx y H Q=>Qc K x y H Q\/Qd K x y H Q):=λas H S x y v u Q ok rx ry h=>by
 unfold sIx at h;split at h
 ·obtain⟨xs,z,h1,h2,h3⟩:=h;obtain⟨a,vs,rfl,hq,rr⟩:=Dm ok rx h1;obtain⟨w,hw,rw'⟩:=rr.atI h2;rw[rl_int]at ry;rcases hq with hq | hq
  ·exact .inl ⟨a,vs,_,w,rfl,ry,hq,hw,h3.here ok rw'⟩
  ·exact .inr ⟨a,vs,_,w,rfl,ry,hq,hw,h3.here ok rw'⟩
 ·exact h.elim
end
inductive BI where
 | len | abs | min | max | int | list | tuple | all | any | sorted | isi | str | repr
 deriving DecidableEq
noncomputable def BI.name:BI->Str
 | .len=>"len" | .abs=>"abs" | .min=>"min" | .max=>"max" | .int=>"int" | .list=>"list" | .tuple=>"tuple" | .all=>"all" | .any=>"any" | .sorted=>"sorted" | .isi=>"isinstance" | .str=>"str" | .repr=>"repr"
noncomputable def blS:List SV->Option (List Bool)
 | []=>some []
 | .bl b::xs=>(blS xs).map (b::·)
 | _::_=>none
noncomputable def tyS:SV->Sto->Option TyN
 | .non,_=>some .none
 | .bl _,_=>some .bool
 | .int _,_=>some .int
 | .str _,_=>some .str
 | .tup _,_=>some .tuple
 | .loc k,S=>match S[k]? with | some (.lst _)=>some .list | _=>none
 | _,_=>none
noncomputable def Fz:TyN->TyN->Bool
 | .bool,.int=>true
 | a,b=>decide (a=b)
noncomputable def Iq:List SV->Option (List TyN)
 | []=>some []
 | .ty t::xs=>(Iq xs).map (t::·)
 | _::_=>none
noncomputable def a0(f:Sto->QE->Prop):Sn:=λxs S Q=>match xs with | []=>f S Q | _=>False
noncomputable def a1(f:S1):Sn:=λxs S Q=>match xs with | [x]=>f x S Q | _=>False
noncomputable def a2(f:S2):Sn:=λxs S Q=>match xs with | [x,y]=>f x y S Q | _=>False
noncomputable def oI(f:Int->Sto->QE->Prop):S1:=λx S Q=>match x with | .int i=>f i S Q | _=>False
theorem Cy{f:S1}{xs:List SV}{S:Sto}{Q:QE}(h:a1 f xs S Q):∃ x,xs=[x]/\f x S Q:=match xs,h with | [x],h=>⟨x,rfl,h⟩
theorem KL{f:S2}{xs:List SV}{S:Sto}{Q:QE}(h:a2 f xs S Q):∃ x y,xs=[x,y]/\f x y S Q:=match xs,h with | [x,y],h=>⟨x,y,rfl,h⟩
theorem CA{f:Int->Sto->QE->Prop}{x:SV}{S:Sto}{Q:QE}(h:oI f x S Q):∃ i,x = .int i/\f i S Q:=match x,h with | .int i,h=>⟨i,rfl,h⟩
theorem w5{f:S1}(m:EQ f):MonoN (a1 f):=λxs S P P' i h=>by
 replace h:=Cy h;obtain⟨x,rfl,h⟩:=h;exact m x S P P' i h
theorem CC{f:S2}(m:Mono2 f):MonoN (a2 f):=λxs S P P' i h=>by
 replace h:=KL h;obtain⟨x,y,rfl,h⟩:=h;exact m x y S P P' i h
theorem Mj{f:Int->Sto->QE->Prop}(m:∀ k S P P',(∀ x S',P x S'->P' x S')->f k S P->f k S P'):EQ (oI f):=λx S P P' i h=>by
 replace h:=CA h;obtain⟨k,rfl,h⟩:=h;exact m k S P P' i h
noncomputable def Qu:S1
 | .int i,S,Q=>Q (.int i) S
 | .bl b,S,Q=>Q (.int (if b then 1 else 0)) S
 | _,_,_=>False
theorem O6{x:SV}{S:Sto}{Q:QE}(h:Qu x S Q):(∃ i,x = .int i/\Q (.int i) S)\/∃ b,x = .bl b/\Q (.int (if b then 1 else 0)) S:=match x,h with
 | .int i,h => .inl ⟨i,rfl,h⟩
 | .bl b,h => .inr ⟨b,rfl,h⟩
noncomputable def Qv:S2:=λx y S Q=>match y with
 | .ty t=>∃ a,t ≠ .none/\tyS x S=some a/\Q (.bl (Fz a t)) S
 | .tup ts=>∃ a bs,TyN.none∉bs/\tyS x S=some a/\Iq ts=some bs/\Q (.bl (bs.any (Fz a))) S
 | _=>False
theorem O7{x y:SV}{S:Sto}{Q:QE}(h:Qv x y S Q):(∃ t a,y = .ty t/\t ≠ .none/\tyS x S=some a/\Q (.bl (Fz a t)) S)\/∃ ts a bs,y = .tup ts/\TyN.none∉bs/\tyS x S=some a/\Iq ts=some bs/\Q (.bl (bs.any (Fz a))) S:=match y,h with
 | .ty t,⟨a,h⟩ => .inl ⟨t,a,rfl,h⟩
 | .tup ts,⟨a,bs,h⟩ => .inr ⟨ts,a,bs,rfl,h⟩
noncomputable def Ri:S1:=λx S Q=>∃ xs,AH x S=some xs/\Q (.int xs.length) S
noncomputable def Rj:S1:=oI λi S Q=>Q (.int (if i<0 then -i else i)) S
noncomputable def Rk:S2:=λx y S Q=>oI (λi S Q=>oI (λj S Q=>Q (.int (if j<i then j else i)) S) y S Q) x S Q
noncomputable def Rm:S2:=λx y S Q=>oI (λi S Q=>oI (λj S Q=>Q (.int (if j>i then j else i)) S) y S Q) x S Q
noncomputable def Qw:S1:=λx S Q=>∃ xs,AH x S=some xs/\Q (.loc S.length) (S++[.lst xs])
noncomputable def PK:S1:=λx S Q=>∃ xs,AH x S=some xs/\Q (.tup xs) S
noncomputable def Rn:S1:=λx S Q=>∃ xs bs,x ≠ .tup xs/\AH x S=some xs/\blS xs=some bs/\Q (.bl (bs.all id)) S
noncomputable def Ro:S1:=λx S Q=>∃ xs bs,x ≠ .tup xs/\AH x S=some xs/\blS xs=some bs/\Q (.bl (bs.any id)) S
noncomputable def sBi:BI->Sn
 | .len=>a1 Ri
 | .abs=>a1 Rj
 | .min=>a2 Rk
 | .max=>a2 Rm
 | .int=>a1 Qu
 | .list=>a1 Qw
 | .tuple=>a1 PK
 | .all=>a1 Rn
 | .any=>a1 Ro
 | .sorted=>λ_ _ _=>False
 | .isi=>a2 Qv
 | .str=>λ_ _ _=>False
 | .repr=>λ_ _ _=>False
theorem MonoN.bi:∀{b:BI},MonoN (sBi b)
 | .len=>w5 λ_ _ _ _ i ⟨a,c,d⟩=>⟨a,c,i _ _ d⟩
 | .abs=>w5 (Mj λ_ _ _ _ i h=>i _ _ h)
 | .min=>CC λx y S P P' i h=>by
   replace h:=CA h;obtain⟨k,rfl,h1⟩:=h;obtain⟨l,rfl,h2⟩:=CA h1;exact i _ _ h2
 | .max=>CC λx y S P P' i h=>by
   replace h:=CA h;obtain⟨k,rfl,h1⟩:=h;obtain⟨l,rfl,h2⟩:=CA h1;exact i _ _ h2
 | .int=>w5 λx S P P' i h=>by
   replace h:=O6 h;rcases h with⟨k,rfl,h⟩ | ⟨b,rfl,h⟩
   ·exact i _ _ h
   ·exact i _ _ h
 | .list=>w5 λ_ _ _ _ i ⟨a,c,d⟩=>⟨a,c,i _ _ d⟩
 | .tuple=>w5 λ_ _ _ _ i ⟨a,c,d⟩=>⟨a,c,i _ _ d⟩
 | .all=>w5 λ_ _ _ _ i ⟨a,b,c,d,e,f⟩=>⟨a,b,c,d,e,i _ _ f⟩
 | .any=>w5 λ_ _ _ _ i ⟨a,b,c,d,e,f⟩=>⟨a,b,c,d,e,i _ _ f⟩
 | .sorted=>λ_ _ _ _ _ h=>h
 | .isi=>CC λx y S P P' i h=>by
   replace h:=O7 h;rcases h with⟨t,a,rfl,h1,h2,h⟩ | ⟨ts,a,bs,rfl,h1,h2,h3,h⟩
   ·exact⟨a,h1,h2,i _ _ h⟩
   ·exact⟨a,bs,h1,h2,h3,i _ _ h⟩
 | .str=>λ_ _ _ _ _ h=>h
 | .repr=>λ_ _ _ _ _ h=>h
section
variable{K:Rz}{as:List VU}{H:Hp}{S:Sto}
theorem G0:∀{xs:List SV} {bs:List Bool} {vs:List V},blS xs=some bs->RlAll K as H vs xs->vs=bs.map V.bl
 | [],_,_,e,r=>by cases e;exact rla_nil.mp r
 | .bl b::xs,_,_,e,r=>by
   obtain⟨v,vs,rfl,r1,r2⟩:=rla_cons.mp r;unfold blS at e;cases h:blS xs with
   | none=>rw[h]at e;cases e
   | some cs=>
     rw[h]at e;cases e;rw[rl_bl.mp r1,G0 h r2];rfl
 | .non::_,_,_,e,_=>by cases e
 | .int _::_,_,_,e,_=>by cases e
 | .str _::_,_,_,e,_=>by cases e
 | .tup _::_,_,_,e,_=>by cases e
 | .loc _::_,_,_,e,_=>by cases e
 | .ro _::_,_,_,e,_=>by cases e
 | .ty _::_,_,_,e,_=>by cases e
theorem A8{x:SV}{v:V}{xs:List SV}(ok:Ok K as H S)(r:Rl K as H v x)(n:x ≠ .tup xs)(h:AH x S=some xs):∃ a vs,v = .ref a/\SqL K H a vs/\RlAll K as H vs xs:=by
 cases x with
 | tup ys=>cases h;exact absurd rfl n
 | ro ys=>
   cases h;obtain⟨p,vs,rfl,hp,rr⟩:=rl_ro.mp r;exact⟨p,vs,rfl,hp.sq,rr⟩
 | loc k=>
   obtain⟨a,ea,rfl⟩:=rl_loc.mp r;unfold AH at h;cases hs:S[k]? with
   | none=>simp only[hs]at h;cases h
   | some o=>
     cases o with
     | lst ys=>
       simp only[hs]at h;cases h;obtain⟨vs,h1,rr⟩:=ok.obj k _ a hs ea;exact⟨a,vs,rfl,SqL.of h1,rr⟩
     | iset _=>simp only[hs]at h;cases h
     | dtl _=>simp only[hs]at h;cases h
     | dtf _ _ _=>simp only[hs]at h;cases h
     | dtp _=>simp only[hs]at h;cases h
     | dct _=>simp only[hs]at h;cases h
     | dcf _ _ _=>simp only[hs]at h;cases h
 | _=>cases h
theorem Cz{vs:List V}{x:SV}(r:RlAll K as H vs [x]):∃ v,vs=[v]/\Rl K as H v x:=by
 obtain⟨v,t,rfl,r1,r2⟩:=rla_cons.mp r;rw[rla_nil.mp r2];exact⟨v,rfl,r1⟩
theorem Ml{vs:List V}{x y:SV}(r:RlAll K as H vs [x,y]):∃ v u,vs=[v,u]/\Rl K as H v x/\Rl K as H u y:=by
 obtain⟨v,t,rfl,r1,r2⟩:=rla_cons.mp r;obtain⟨u,rfl,r3⟩:=Cz r2;exact⟨v,u,rfl,r1,r3⟩
end
theorem KM{K:Rz}{as:List VU}{H:Hp}{S:Sto}{Q:VK}{x:SV}{v:V}{ys:List SV}(ok:Ok K as H S)(r1:Rl K as H v x)(h1:AH x S=some ys)(h2:Post K as H Q (.tup ys) S):∃ p us,v = .ref p/\((SqL K H p us/\∀ l,H l=none->Q (.ref l) (upd H l (.tup us)))\/(SqT K H p us/\Q (.ref p) H)):=by
 cases x with
 | tup zs=>
   cases h1;obtain⟨p,us,rfl,hp,rr⟩:=rl_tup.mp r1;exact⟨p,us,rfl,.inr ⟨SqT.of hp,h2.here ok r1⟩⟩
 | loc k=>
   obtain⟨a,us,rfl,hq,rr⟩:=A8 ok r1 (by intro z;cases z) h1;exact⟨a,us,rfl,.inl ⟨hq,AK ok rr h2⟩⟩
 | ro k=>
   obtain⟨a,us,rfl,hq,rr⟩:=A8 ok r1 (by intro z;cases z) h1;exact⟨a,us,rfl,.inl ⟨hq,AK ok rr h2⟩⟩
 | _=>cases h1
section
variable{K:Rz}{as:List VU}{H:Hp}{S:Sto}
theorem O8{x:SV}{v:V}{a:TyN}(ok:Ok K as H S)(r:Rl K as H v x)(h:tyS x S=some a):TyOf K H v (.type a.nm):=by
 cases x with
 | non=>cases h;rw[rl_non.mp r];exact .non
 | bl b=>cases h;rw[rl_bl.mp r];exact .bl b
 | int b=>cases h;rw[rl_int.mp r];exact .int b
 | str b=>cases h;rw[rl_str.mp r];exact .str b
 | tup xs=>cases h;obtain⟨p,vs,rfl,hp,_⟩:=rl_tup.mp r;exact .tup hp
 | loc k=>
   obtain⟨b,eb,rfl⟩:=rl_loc.mp r;unfold tyS at h;cases hs:S[k]? with
   | none=>simp only[hs]at h;cases h
   | some o=>
     cases o with
     | lst ys=>
       simp only[hs]at h;cases h;obtain⟨vs,h1,_⟩:=ok.obj k _ b hs eb;exact .lst h1
     | iset _=>simp only[hs]at h;cases h
     | dtl _=>simp only[hs]at h;cases h
     | dtf _ _ _=>simp only[hs]at h;cases h
     | dtp _=>simp only[hs]at h;cases h
     | dct _=>simp only[hs]at h;cases h
     | dcf _ _ _=>simp only[hs]at h;cases h
 | _=>cases h
noncomputable def ktn(t c:String):Option Bool:=if (Value.type t == Value.type c)=true then some true else if PySem.W.kitMeta c=true then (fastBuiltinMro t).map (·.contains (.type c)) else none
theorem HQ{K:Rz}(a:TyN)(t:TyN)(ht:t ≠ .none):PySem.W.kitOne K (.type a.nm) (.type t.nm)=some (Fz a t):=by
 have e:PySem.W.kitOne K (.type a.nm) (.type t.nm)=ktn a.nm t.nm:=rfl;rw[e];cases a<;>cases t<;>first | exact absurd rfl ht | decide +kernel
theorem HR{K:Rz}(a:TyN):∀(bs:List TyN),TyN.none∉bs->PySem.W.kitAny K (.type a.nm) ((bs.map TyN.nm).map Value.type)=some (bs.any (Fz a))
 | [],_=>rfl
 | b::bs,h=>by
   rw[Sk,Sk,PySem.W.kitAny,HQ a b (λz=>h (by rw[z];simp)),TU];cases Fz a b with
   | true=>rfl
   | false=>exact HR a bs (λz=>h (SG _ z))
theorem KN:∀{xs:List SV} {bs:List TyN} {vs:List V},Iq xs=some bs->RlAll K as H vs xs->vs=(bs.map TyN.nm).map V.ty
 | [],_,_,e,r=>by cases e;exact rla_nil.mp r
 | .ty b::xs,_,_,e,r=>by
   obtain⟨v,vs,rfl,r1,r2⟩:=rla_cons.mp r;unfold Iq at e;cases h:Iq xs with
   | none=>rw[h]at e;cases e
   | some cs=>
     rw[h]at e;cases e;rw[rl_ty.mp r1,KN h r2];rfl
 | .non::_,_,_,e,_=>by cases e
 | .bl _::_,_,_,e,_=>by cases e
 | .str _::_,_,_,e,_=>by cases e
 | .tup _::_,_,_,e,_=>by cases e
 | .loc _::_,_,_,e,_=>by cases e
 | .ro _::_,_,_,e,_=>by cases e
 | .int _::_,_,_,e,_=>by cases e
end
noncomputable def rBi(K:Rz):BI->List V->Hp->VK->Prop
 | .len=>λxs H Q=>∃ p ys,xs=[.ref p]/\(SqL K H p ys\/SqT K H p ys)/\Q (.int ys.length) H
 | .abs=>λxs H Q=>∃ i,xs=[.int i]/\Q (.int (if i<0 then -i else i)) H
 | .min=>λxs H Q=>∃ i j,xs=[.int i,.int j]/\Q (.int (if j<i then j else i)) H
 | .max=>λxs H Q=>∃ i j,xs=[.int i,.int j]/\Q (.int (if j>i then j else i)) H
 | .int=>λxs H Q=>(∃ i,xs=[.int i]/\Q (.int i) H)\/∃ k,xs=[.bl k]/\Q (.int (if k then 1 else 0)) H
 | .list=>λxs H Q=>∃ p ys,xs=[.ref p]/\(SqL K H p ys\/SqT K H p ys)/\∀ l,H l=none->Q (.ref l) (upd H l (.lst ys))
 | .tuple=>λxs H Q=>∃ p ys,xs=[.ref p]/\((SqL K H p ys/\∀ l,H l=none->Q (.ref l) (upd H l (.tup ys)))\/(SqT K H p ys/\Q (.ref p) H))
 | .all=>λxs H Q=>∃(a:VU) (bs:List Bool),xs=[.ref a]/\SqL K H a (bs.map V.bl)/\Q (.bl (bs.all id)) H
 | .any=>λxs H Q=>∃(a:VU) (bs:List Bool),xs=[.ref a]/\SqL K H a (bs.map V.bl)/\Q (.bl (bs.any id)) H
 | .sorted=>λ_ _ _=>False
 | .isi=>λxs H Q=>(∃ x T t b,xs=[x,.ty T]/\TyOf K H x t/\PySem.W.kitOne K t (.type T)=some b/\Q (.bl b) H)\/(∃(x:V) (p:VU) (Ts:List String) (t:VS) (b:Bool),xs=[x,.ref p]/\H p=some (.tup (Ts.map V.ty))/\TyOf K H x t/\PySem.W.kitAny K t (Ts.map Value.type)=some b/\Q (.bl b) H)
 | .str=>λ_ _ _=>False
 | .repr=>λ_ _ _=>False
theorem PL{K:Rz}:∀{b:BI},Qr K (sBi b) (rBi K b)
 | .len=>λas H S xs vs Q ok r h=>by
   replace h:=Cy h;obtain⟨x,rfl,ys,h1,h2⟩:=h;obtain⟨v,rfl,r1⟩:=Cz r;obtain⟨a,us,rfl,hq,rr⟩:=Dm ok r1 h1;exact⟨a,us,rfl,hq,by rw[rr.length];exact h2.here ok (rl_int.mpr rfl)⟩
 | .abs=>λas H S xs vs Q ok r h=>by
   replace h:=Cy h;obtain⟨x,rfl,h⟩:=h;replace h:=CA h;obtain⟨i,rfl,h⟩:=h;obtain⟨v,rfl,r1⟩:=Cz r;exact⟨_,by rw[rl_int.mp r1],Post.here h ok (rl_int.mpr rfl)⟩
 | .min=>λas H S xs vs Q ok r h=>by
   replace h:=KL h;obtain⟨x,y,rfl,h⟩:=h;replace h:=CA h;obtain⟨i,rfl,h⟩:=h;replace h:=CA h;obtain⟨j,rfl,h⟩:=h;obtain⟨v,u,rfl,r1,r2⟩:=Ml r;exact⟨_,_,by rw[rl_int.mp r1,rl_int.mp r2],Post.here h ok (rl_int.mpr rfl)⟩
 | .max=>λas H S xs vs Q ok r h=>by
   replace h:=KL h;obtain⟨x,y,rfl,h⟩:=h;replace h:=CA h;obtain⟨i,rfl,h⟩:=h;replace h:=CA h;obtain⟨j,rfl,h⟩:=h;obtain⟨v,u,rfl,r1,r2⟩:=Ml r;exact⟨_,_,by rw[rl_int.mp r1,rl_int.mp r2],Post.here h ok (rl_int.mpr rfl)⟩
 | .int=>λas H S xs vs Q ok r h=>by
   replace h:=Cy h;obtain⟨x,rfl,h⟩:=h;obtain⟨v,rfl,r1⟩:=Cz r;replace h:=O6 h;rcases h with⟨k,rfl,h⟩ | ⟨b,rfl,h⟩
   ·exact .inl ⟨_,by rw[rl_int.mp r1],Post.here h ok (rl_int.mpr rfl)⟩
   ·exact .inr ⟨_,by rw[rl_bl.mp r1],Post.here h ok (rl_int.mpr rfl)⟩
 | .list=>λas H S xs vs Q ok r h=>by
   replace h:=Cy h;obtain⟨x,rfl,ys,h1,h2⟩:=h;obtain⟨v,rfl,r1⟩:=Cz r;obtain⟨a,us,rfl,hq,rr⟩:=Dm ok r1 h1;exact⟨a,us,rfl,hq,AJ ok rr h2⟩
 | .tuple=>λas H S xs vs Q ok r h=>by
   replace h:=Cy h;obtain⟨x,rfl,ys,h1,h2⟩:=h;obtain⟨v,rfl,r1⟩:=Cz r;obtain⟨p,us,rfl,z⟩:=KM ok r1 h1 h2;exact⟨p,us,rfl,z⟩
 | .all=>λas H S xs vs Q ok r h=>by
   replace h:=Cy h;obtain⟨x,rfl,ys,bs,h0,h1,h2,h3⟩:=h;obtain⟨v,rfl,r1⟩:=Cz r;obtain⟨a,us,rfl,hq,rr⟩:=A8 ok r1 h0 h1;rw[G0 h2 rr]at hq;exact⟨a,bs,rfl,hq,h3.here ok (rl_bl.mpr rfl)⟩
 | .any=>λas H S xs vs Q ok r h=>by
   replace h:=Cy h;obtain⟨x,rfl,ys,bs,h0,h1,h2,h3⟩:=h;obtain⟨v,rfl,r1⟩:=Cz r;obtain⟨a,us,rfl,hq,rr⟩:=A8 ok r1 h0 h1;rw[G0 h2 rr]at hq;exact⟨a,bs,rfl,hq,h3.here ok (rl_bl.mpr rfl)⟩
 | .sorted=>λ_ _ _ _ _ _ _ _ h=>False.elim h
 | .isi=>λas H S xs vs Q ok r h=>by
   replace h:=KL h;obtain⟨x,y,rfl,h⟩:=h;obtain⟨v,u,rfl,r1,r2⟩:=Ml r;replace h:=O7 h;rcases h with⟨t,a,rfl,h0,h1,h2⟩ | ⟨ts,a,bs,rfl,h0,h1,h2,h3⟩
   ·rw[rl_ty.mp r2];exact .inl ⟨v,_,_,_,rfl,O8 ok r1 h1,HQ _ _ h0,h2.here ok (rl_bl.mpr rfl)⟩
   ·obtain⟨p,vs,rfl,hp,rr⟩:=rl_tup.mp r2;rw[KN h2 rr]at hp;exact .inr ⟨v,p,_,_,_,rfl,hp,O8 ok r1 h1,HR _ _ h0,h3.here ok (rl_bl.mpr rfl)⟩
 | .str=>λ_ _ _ _ _ _ _ _ h=>False.elim h
 | .repr=>λ_ _ _ _ _ _ _ _ h=>False.elim h
inductive MT where
 | append | extend | insert
 deriving DecidableEq
noncomputable def MT.name:MT->Str
 | .append=>"append" | .extend=>"extend" | .insert=>"insert"
noncomputable def oL(f:Nat->Sto->QE->Prop):S1:=λx S Q=>match x with | .loc k=>f k S Q | _=>False
theorem EV{f:Nat->Sto->QE->Prop}{x:SV}{S:Sto}{Q:QE}(h:oL f x S Q):∃ k,x = .loc k/\f k S Q:=match x,h with | .loc k,h=>⟨k,rfl,h⟩
noncomputable def Mm(x:SV):S1:=λy S Q=>oL (λk S Q=>∃ xs,S[k]?=some (.lst xs)/\xs.length<big/\Q .non (S.set k (.lst (xs++[y])))) x S Q
noncomputable def Mn(x:SV):S1:=λy S Q=>oL (λk S Q=>oL (λl S Q=>∃ xs ys,S[k]?=some (.lst xs)/\S[l]?=some (.lst ys)/\xs.length+ys.length<=big/\Q .non (S.set k (.lst (xs++ys)))) y S Q) x S Q
noncomputable def Mo(x:SV):S2:=λz y S Q=>oL (λk S Q=>oI (λi S Q=>∃ xs,S[k]?=some (.lst xs)/\(0<=i/\i<=xs.length)/\xs.length<big/\Q .non (S.set k (.lst (xs.take i.toNat++y::xs.drop i.toNat)))) z S Q) x S Q
noncomputable def sMt:MT->SV->Sn
 | .append,x=>a1 (Mm x)
 | .extend,x=>a1 (Mn x)
 | .insert,x=>a2 (Mo x)
theorem Dp:∀{m:MT} {x:SV},MonoN (sMt m x)
 | .append,x=>w5 λy S P P' i h=>by
   replace h:=EV h;obtain⟨k,rfl,a,c,d,e⟩:=h;exact⟨a,c,d,i _ _ e⟩
 | .extend,x=>w5 λy S P P' i h=>by
   replace h:=EV h;obtain⟨k,rfl,h⟩:=h;replace h:=EV h;obtain⟨l,rfl,a,c,d,e,f,g⟩:=h;exact⟨a,c,d,e,f,i _ _ g⟩
 | .insert,x=>CC λz y S P P' i h=>by
   replace h:=EV h;obtain⟨k,rfl,h⟩:=h;replace h:=CA h;obtain⟨j,rfl,a,c,d,e,f⟩:=h;exact⟨a,c,d,e,i _ _ f⟩
noncomputable def rMt:MT->V->List V->Hp->VK->Prop
 | .append=>HE
 | .extend=>HF
 | .insert=>HH
section
variable{K:Rz}{as:List VU}{H:Hp}{S:Sto}
theorem BE{Q:VK}{k:Nat}{a:VU}{xs ys:List SV}{us:List V}{x:SV}{v:V}(ok:Ok K as H S)(e:S[k]?=some (.lst xs))(ea:as[k]?=some a)(r:RlAll K as H us ys)(h:Post K as H Q x (S.set k (.lst ys)))(rx:Rl K as H v x):Q v (upd H a (.lst us)):=by
 obtain⟨ok',ku⟩:=ok.write e ea r;exact h as _ v (Go.write (SB ea)) ok' (Rl.mono (Sb _) ku x v rx)
theorem KO:∀{m:MT} {Q:VK} {x:SV} {v:V} {xs:List SV} {vs:List V} (ok:Ok K as H S) (rx:Rl K as H v x) (r:RlAll K as H vs xs) (h:sMt m x xs S (Post K as H Q)),rMt m v vs H Q
 | .append,Q,x,v,xs,vs,ok,rx,r,h=>by
   replace h:=Cy h;obtain⟨y,rfl,h⟩:=h;replace h:=EV h;obtain⟨k,rfl,ys,h1,h2,h3⟩:=h;obtain⟨a,us,rfl,ea,ha,ra⟩:=l8 ok rx h1;obtain⟨u,rfl,ru⟩:=Cz r;exact⟨a,us,u,rfl,rfl,ha,by rw[ra.length];exact Bp h2,BE ok h1 ea (ra.append (.cons ru .nil)) h3 (rl_non.mpr rfl)⟩
 | .extend,Q,x,v,xs,vs,ok,rx,r,h=>by
   replace h:=Cy h;obtain⟨y,rfl,h⟩:=h;replace h:=EV h;obtain⟨k,rfl,h⟩:=h;replace h:=EV h;obtain⟨l,rfl,ys,zs,h1,h2,h3,h4⟩:=h;obtain⟨a,us,rfl,ea,ha,ra⟩:=l8 ok rx h1;obtain⟨u,rfl,ru⟩:=Cz r;obtain⟨b,ws,rfl,eb,hb,rb⟩:=l8 ok ru h2;exact⟨a,b,us,ws,rfl,rfl,ha,hb,by rw[ra.length,rb.length];exact p9 h3,BE ok h1 ea (ra.append rb) h4 (rl_non.mpr rfl)⟩
 | .insert,Q,x,v,xs,vs,ok,rx,r,h=>by
   replace h:=KL h;obtain⟨z,y,rfl,h⟩:=h;replace h:=EV h;obtain⟨k,rfl,h⟩:=h;replace h:=CA h;obtain⟨i,rfl,ys,h1,h2,h3,h4⟩:=h;obtain⟨a,us,rfl,ea,ha,ra⟩:=l8 ok rx h1;obtain⟨u,w,rfl,ru,rw'⟩:=Ml r;rw[rl_int.mp ru];exact⟨a,us,i,w,rfl,rfl,ha,h2.1,by rw[ra.length];exact h2.2,by rw[ra.length];exact Bp h3,BE ok h1 ea (ra.ins rw' _) h4 (rl_non.mpr rfl)⟩
end
end Rf
namespace L2
open PySem PySem.Spec PyProof.Rows
section
variable{X:Cx}{pq:List (VU×Obj)}{σ:St}{H:Hp}{s:VT}{a:VU}{u u':HO}
theorem Inv.retag(I:Inv X pq σ H s)(hu:H a=some u)(h1:∀ xs,u ≠ .tup xs)(h2:∀ y,u ≠ .own y)(h3:∀ ps,u ≠ .tbl ps)(h4:∀ o xs,u ≠ .frz o (.lst xs))(new:ObjOk X.prog X.w (upd H a u') s.heap a u'):Inv X pq σ (upd H a u') s:=by
 have ne:∀ b,H b=none->b≠a:=λb n z=>by rw[z,hu]at n;cases n
 refine⟨I.ok,I.os,I.bare,⟨I.base.keep,I.base.slot,λb o e n hx=>?_,I.base.there,λb xs e=>?_,λb o w e=>?_,λb ps e=>?_⟩,I.loc,I.cell,?_,λx c e=>?_,λp hp=>?_,λb o e=>?_,I.len⟩
 ·have q:=I.base.free b o e n hx;rw[a8 (ne b q)];exact q
 ·have q:=I.base.tups b xs e;by_cases hb:b=a
  ·rw[hb,hu]at q;exact absurd (oj q) (h1 xs)
  ·rw[a8 hb];exact q
 ·have q:=I.base.frzs b o w e;by_cases hb:b=a
  ·rw[hb,hu]at q;exact absurd (oj q) (h4 o w)
  ·rw[a8 hb];exact q
 ·obtain⟨m,q⟩:=I.base.tbls b ps e;by_cases hb:b=a
  ·rw[hb,hu]at q;exact absurd (oj q) (h3 _)
  ·exact⟨m,by rw[a8 hb];exact q⟩
 ·rw[a8 (ne _ I.free)];exact I.free
 ·rw[a8 (ne _ (I.freeC x c e))];exact I.freeC x c e
 ·obtain⟨p1,p2,p3⟩:=I.pin p hp;exact⟨p1,by rw[a8 (ne _ p2)];exact p2,p3⟩
 ·by_cases hb:b=a
  ·subst hb;rw[c7]at e;cases e;exact new
  ·rw[a8 hb]at e;refine(I.hok b o e).stay (λ_ _ _ q=>q) (λc q=>?_) (λc xs q=>?_)
   ·by_cases hc:c=a
    ·rw[hc,hu]at q;exact absurd (oj q) (h2 _)
    ·rw[a8 hc];exact q
   ·by_cases hc:c=a
    ·rw[hc,hu]at q;exact absurd (oj q) (h1 _)
    ·rw[a8 hc];exact q
theorem Inv.melt{ks:List (Key×V)}{o:Obj}(I:Inv X pq σ H s)(hu:H a=some (.frz o (.dK ks))):Inv X pq σ (upd H a (.dK ks)) s:=
 I.retag hu nofun nofun nofun (λo' xs z=>by injection z with z1 z2;cases z2) (show ObjOk X.prog X.w H s.heap a (.frz o (.dK ks)) from I.hok a _ hu).2
end
section
variable{X:Cx}{tg:Expr}
noncomputable def Rp(H H':Hp):Prop:=∃ a o ks,H a=some (.frz o (.dK ks))/\H'=upd H a (.dK ks)
noncomputable def KP(td ty tv:TE):TS:=λD σ H=>tv σ H λv H1=>td σ H1 λx H2=>ty σ H2 λy H3=>∃ a H3' H4,x = .ref a/\(H3'=H3\/Rp H3 H3')/\Ql H3' a y v H4/\D.nx σ H4
theorem KQ{o i value:Expr}{pos pos':Pos}{td ty tv:TE}(hu:X.A.units+1<cLine)(ho:PE X o td)(hi:PE X i ty)(hv:PE X value tv)(hs:Vv value (some (.Subscript o i pos')) pos.line X.env=pure false):
 PS X (.Assign [.Subscript o i pos'] value pos) (KP td ty tv):=by
 intro pq s σ H D I h;refine wpAny_Assign_Subscript (thn (hv pq s σ H _ I h) λr s1 ⟨v,H1,I1,rv,q1⟩=>thn (ho pq s1 σ H1 _ I1 q1) λu s2 ⟨x,H2,I2,rx,q2⟩=>thn (hi pq s2 σ H2 _ I2 q2) λiv s3 ⟨y,H3,I3,ry,a,H3',H4,ex,m,g,q3⟩=>?_) hs;subst ex;obtain rfl:u=Value.ref a:=rx
 have I3':Inv X pq σ H3' s3:=by
  rcases m with rfl | ⟨b,o',ks,e1,rfl⟩
  ·exact I3
  ·exact I3.melt e1
 exact Ie hu I3' g ry rv λs4 I4=>⟨σ,H4,I4,q3⟩
end
section
variable{prog:VZ}{w:Vc}{κ:Type}[DecidableEq κ]{knd:HeapKind prog w κ}{A:Vf}{E:VS->VT->Prop}{s:VT}
theorem G7{d a:VU}{o:Obj}{es:Array Ww}{ep:Nat}{xs:List (κ×VU×VS)}{k:κ}{v:VS}(hkey:knd.is s.heap k a)(ho:s.heap.get? d=some o)(hc:o.ExactDict)(hd:o.data = .dict es ep)(he:es.toList=xs.map (XU knd))(his:∀ x∈xs,knd.is s.heap x.1 x.2.1)(hn:(xs.map (·.1)).Nodup)
 (hno:atKey xs k=none) (hnot:k∉xs.map (·.1)):(s.heap.update d (Obj.mapDictKeys (·.push ⟨knd.hash k,.ref a,v⟩))).DictOfH knd d (storedH xs k a v):=by
 have FT:TM d s.heap (s.heap.update d (Obj.mapDictKeys (·.push ⟨knd.hash k,.ref a,v⟩))):=TM.update ..;rw[storedH_new hno];refine⟨_,_,ep+1,U3 _ ho (Obj.isFreed_of_dict (Obj.data_mapDictKeys hd _)),hc.mapDictKeys _,Obj.data_mapDictKeys hd _,by simp[he,XU],λx hx=>?_,?_⟩
 ·have hx':x∈xs\/x=(k,a,v):=by simpa using hx
  rcases hx' with hx' | rfl
  ·exact knd.keeps (his x hx') ho hd FT
  ·exact knd.keeps hkey ho hd FT
 ·rw[SM];exact UD.mpr ⟨hn,by simp,λx hx y hy z=>hnot (by simp at hy;subst hy;rw[<-z];exact hx)⟩
theorem KR{d a:VU}{xs:List (κ×VU×VS)}{k:κ}{v:VS}{Q:VS->VT->Prop}(hu:knd.room A)(hkey:knd.is s.heap k a)(hm:s.heap.DictOfH knd d xs)
 (h1:∀ p,atKey xs k=some p->∀ tk,Q p.2 {s with toks:=tk})
 (h2:atKey xs k=none->∀ h' tk,h'.DictOfH knd d (storedH xs k a v)->TM d s.heap h'->Q v {s with heap:=h',toks:=tk}) (hsz:xs.length<=VW):VX (VY prog w) A (Wv d (.ref a) v) Q E s:=by
 obtain⟨o,es,ep,ho,hc,hd,he,his,hn⟩:=id hm;unfold Wv
 try with_reducible refine Vl ?_
 refine VR (knd.pyHash hu hkey (VR (wpAny_dictFind_heap (s:={s with toks:=s.toks+knd.draws k}) hu hkey ho hd he his hn (λhno=>?_) (λj p hj=>?_))))
 ·have e0:=atKey_none_of_get hno;refine VR (W8 (VR (wpAny_updateDictKeys (hz:=by have e:=Wn he;omega) (s:={s with toks:=s.toks+knd.draws k}) ho hd (VV ?_))));exact h2 e0 _ _ (G7 hkey ho hc hd he his hn e0 (not_mem_keys_of_get hno)) (TM.update ..)
 ·refine VR (WJ (s:={s with toks:=s.toks+knd.draws k}) ho hd ?_);rw[entry_at he j,hj];exact VR (W8 (VV (h1 p (atKey_of_get hn hj) _)))
theorem CS(d a:VU)(hd:(d == Vo)=false)(v:VS):
 MeetsIn prog w (Builtin.«dict.setdefault» ⟨[.ref d,.ref a,v],[]⟩) (λA R s=>knd.room A.in1/\∃ k xs,knd.is s.heap k a/\s.heap.DictOfH knd d xs/\xs.length<=VW/\s.TypeIs (.ref d) "dict"/\
  (∀ p,atKey xs k=some p->∀ tk,R (.ok (.ret p.2)) {s with toks:=tk})/\
  (atKey xs k=none->∀ h' tk,h'.DictOfH knd d (storedH xs k a v)->TM d s.heap h'->R (.ok (.ret v)) {s with heap:=h',toks:=tk})):=
 .of_wp λA R s ⟨hu,k,xs,hkey,hm,hz,ht,h1,h2⟩=>by
  unfold Builtin.«dict.setdefault»;refine VR ?_;unfold Builtin.Dict.keyAndDefault;refine VR (WK ht ?_);refine VV ?_;show VX _ _ (if (d == Vo)=true then _ else (Wv d (.ref a) v >>= _)) _ _ s;rw[hd];rw[iG SH];exact VR (KR hu hkey hm (λp e tk=>VV ⟨p.2,rfl,h1 p e tk⟩) (λe h' tk m' b'=>VV ⟨v,rfl,h2 e h' tk m' b'⟩) hz)
end
section
variable{X:Cx}{o e f:Expr}{apos cpos:Pos}{td ty tx:TE}
noncomputable def Qx(td ty tx:TE):TE:=λσ H Q=>td σ H λx H1=>∃ a,x = .ref a/\IsD H1 a/\ty σ H1 λy H2=>tx σ H2 λz H3=>∃ kvs k b,y = .ref b/\H3 a=some (.dT kvs)/\H3 b=some (.tup (k.map kV))/\kvs.length<VW/\
 (∀ v,v8 kvs k=some v->Q v H3)/\(v8 kvs k=none->Q z (upd H3 a (.dT (v9 kvs k z))))
theorem Mp(hu:X.A.units+1<cLine)(ho:PE X o td)(he:PE X e ty)(hf:PE X f tx)(m:M2 X o "setdefault" apos e f cpos):PE X (.Call (.Attribute o "setdefault" apos) [e,f] [] cpos) (Qx td ty tx):=by
 intro pq s σ H Q I h;refine wpAny_Call_method m.base m.few m.line PySem.F.plainAttrs_dict PySem.F.slot_dict_setdefault PySem.F.type_dict_setdefault (thn (ho pq s σ H _ I h) λu s1 ⟨x,H1,I1,rx,a,ex,d,q1⟩=>?_);subst ex;obtain rfl:u=Value.ref a:=rx;obtain⟨t1,t2,_⟩:=P5 I1 d;refine⟨t1,t2,?_⟩;rw[m.trees]
 refine Calls.callWith_builtin rfl (Calls.evalArgs_plain (Calls.spliced_cons (thn (he pq s1 σ H1 _ I1 q1) λiv s2 ⟨y,H2,I2,ry,q2⟩=>
  Calls.spliced_cons (thn (hf pq s2 σ H2 _ I2 q2) λfv s3 ⟨z,H3,I3,rz,kvs,k,b,ey,ha,hb,hz,qs,qn⟩=>Calls.spliced_nil ?_))))
 subst ey;cases ry;obtain⟨hl,hd,xs,rel,dd⟩:=Ny I3.hok ha;have hxl:xs.length<=VW:=by rw[<-Paired.length rel];exact hl
 refine call_meetsIn PySem.F.slot_dict_setdefault dd.typeIs PySem.F.entry_dict_setdefault (PySem.F.args_dict_setdefault_3 _ _ _) (CS (knd:=Wc (g6 X.prog X.w)) a b hd fv) ⟨WY hu,k,xs,Dj I3.hok hb,dd,hxl,dd.typeIs,λp e tk=>?_,λe h' tk dd' hs=>?_⟩
 ·have rv:=rel.val k;rw[e]at rv;cases hv:v8 kvs k with
  | none=>rw[hv]at rv;exact rv.elim
  | some v=>rw[hv]at rv;exact⟨v,H3,I3.tok tk,rv,qs v hv⟩
 ·have hv:v8 kvs k=none:=by
   have rv:=rel.val k;rw[e]at rv;cases hv:v8 kvs k with
   | none=>rfl
   | some v=>rw[hv]at rv;exact rv.elim
  refine⟨z,_,?_,rz,qn hv⟩;obtain⟨q,es,ep,hq,h2,h3,h4,_,h5⟩:=dd';have hl2:(v9 kvs k z).length<=VW:=by have:=Al kvs k z;omega
  refine Dk I3 (by rw[ha];exact True.intro) hs ⟨q,hq⟩ ⟨hl2,hd,_,(rel.put k hb rz).keeps λc ys ec=>?_,q,es,ep,hq,h2,h3,h4,h5⟩;rw[a8 (Gn ec ha (λz=>nomatch z))];exact ec
end
end L2
namespace Rf
open PySem L2
mutual
inductive Tg where
 | nm (i:Nat) | tup (ts:Tgs)
inductive Tgs where
 | nil | cons (t:Tg) (ts:Tgs)
end
mutual
inductive Ex where
 | var (i:Nat) | c (x:SV) | op (o:Wd) (a b:Ex) | neg (a:Ex) | cmp (o:CmpOp) (a b:Ex) | chn (o p:CmpOp) (a b c:Ex)
 | and (a b:Ex) | or (a b:Ex) | not (a:Ex) | ife (t a b:Ex) | tup (es:Exs) | lst (es:Exs) | ix (a b:Ex) | slc (a:Ex) (lo hi:Eo)
 | call (f:Nat) (es:Exs) | bi (b:BI) (es:Exs) | mt (m:MT) (a:Ex) (es:Exs) | comp (own cn:List Str) (js:List Nat) (g:Tg) (it:Itb) (t:Eo) (e:Ex) | comp2 (own cn:List Str) (js:List Nat) (g:Tg) (it:Itb) (t:Eo) (g2:Tg) (it2:Itb) (t2:Eo) (e:Ex) | tyc (t:TyN) | lrng1 (a:Ex) | dnewl | setdl (d e v:Ex) | dgetl (a b:Ex) | srtu (a:Ex) | like (n:Bool) (a b:Ex) | dctl (a:Ex) | dget (a b:Ex) | no
inductive Exs where
 | nil | cons (e:Ex) (es:Exs)
inductive Eo where
 | no | yes (e:Ex)
inductive Itb where
 | seq (e:Ex) | rng1 (a:Ex) | rng2 (a b:Ex) | enum (e:Ex) | dtk (e:Ex)
end
inductive Stm where
 | asg (t:Tg) (e:Ex) | par (i j:Nat) (a b:Ex) | put (o i e:Ex) | dput (o i e:Ex) | expr (e:Ex) | iff (t:Ex) (a b:List Stm) | loop (g:Tg) (it:Itb) (b:List Stm) | whl (t:Ex) (b:List Stm)
 | ret (e:Ex) | no
noncomputable def sOp:Wd->S2
 | .Add=>Ij
 | .Sub=>BS λi j => .int (i - j)
 | .Mult=>Ik
 | .FloorDiv=>Fx QP λi j => .int (i / j)
 | .Mod=>Fx (λ_ j=>0<j) λi j => .int (i % j)
 | .Pow=>Fx QQ λi j => .int (i ^ j.toNat)
 | _=>λ_ _ _ _=>False
noncomputable def AV:CmpOp->S2
 | .Eq=>sEq
 | .NotEq=>sNe
 | .Lt=>BS λi j => .bl (decide (i<j))
 | .LtE=>BS λi j => .bl (decide (i<=j))
 | .Gt=>BS λi j => .bl (decide (j<i))
 | .GtE=>BS λi j => .bl (decide (j<=i))
 | .In=>sIn false
 | .NotIn=>sIn true
 | .Is=>KH false
 | .IsNot=>KH true
noncomputable def KS:S1
 | .int i,S,Q=>Q (.int (-i)) S
 | _,_,_=>False
noncomputable def PM:SV->Sto->Option Bool
 | .bl b,_=>some b
 | .loc k,S=>match S[k]? with | some (.lst xs)=>some (!xs.isEmpty) | _=>none
 | _,_=>none
noncomputable def PN(w:WE):WT:=λρ S Q=>w ρ S λx S'=>∃ b,PM x S'=some b/\Q b S'
noncomputable def KU(a b:WE):WE:=λρ S Q=>a ρ S λx S1=>∃ c,x = .bl c/\if c=true then b ρ S1 Q else Q (.bl false) S1
noncomputable def wOr(a b:WE):WE:=λρ S Q=>a ρ S λx S1=>∃ c,x = .bl c/\if c=true then Q (.bl true) S1 else b ρ S1 Q
noncomputable def Mq(a:WE):WE:=λρ S Q=>a ρ S λx S1=>∃ c,x = .bl c/\Q (.bl (!c)) S1
noncomputable def CT(a b:WT):WT:=λρ S Q=>a ρ S λc S1=>if c=true then b ρ S1 Q else Q false S1
noncomputable def G8(a b:WT):WT:=λρ S Q=>a ρ S λc S1=>if c=true then Q true S1 else b ρ S1 Q
noncomputable def HS(a:WT):WT:=λρ S Q=>a ρ S λc S1=>Q (!c) S1
noncomputable def Mr(t:WT)(a b:WE):WE:=λρ S Q=>t ρ S λc S1=>if c=true then a ρ S1 Q else b ρ S1 Q
noncomputable def KW(s s':S2)(a b c:WE):WE:=λρ S Q=>a ρ S λx S1=>b ρ S1 λy S2=>s x y S2 λz S3=>∃ k,z = .bl k/\if k=true then c ρ S3 λu S4=>s' y u S4 Q else Q (.bl false) S3
noncomputable abbrev WO:=EnvS->Sto->(Option Int->Sto->Prop)->Prop
noncomputable def PP:WO:=λ_ S Q=>Q none S
noncomputable def KY(w:WE):WO:=λρ S Q=>w ρ S λx S1=>∃ i,x = .int i/\Q (some i) S1
noncomputable def CB(xs:List SV)(lo hi:Option Int):List SV:=(xs.drop (HT.sIx xs.length 0 lo)).take (HT.sIx xs.length xs.length hi - HT.sIx xs.length 0 lo)
noncomputable def KZ:SV->Option Int->Option Int->Sto->QE->Prop
 | .loc k,lo,hi,S,Q=>∃ xs,S[k]?=some (.lst xs)/\Q (.loc S.length) (S++[.lst (CB xs lo hi)])
 | .tup xs,lo,hi,S,Q=>Q (.tup (CB xs lo hi)) S
 | _,_,_,_,_=>False
noncomputable def PR(a:WE)(lo hi:WO):WE:=λρ S Q=>a ρ S λx S1=>lo ρ S1 λl S2=>hi ρ S2 λh S3=>KZ x l h S3 Q
noncomputable abbrev WI:=EnvS->Sto->((Sto->Prop)->List SV->Sto->Prop)->Prop
noncomputable def CU:SV->Sto->Sto->Prop
 | .loc k,S,S'=>S'[k]?=S[k]?
 | _,_,_=>True
noncomputable def O9(w:WE):WI:=λρ S R=>w ρ S λx S1=>∃ xs,AH x S1=some xs/\R (CU x S1) xs S1
noncomputable def Ao(lo hi:Int):List SV:=(SE (hi - lo).toNat).map λ(i:Nat) => .int (lo+i)
noncomputable def Ka(w:WE):WI:=λρ S R=>w ρ S λx S1=>∃ j,x = .int j/\(-(2 ^ 62)<=j/\j<2 ^ 62)/\R (λ_=>True) (Ao 0 j) S1
noncomputable def Kb(w u:WE):WI:=λρ S R=>w ρ S λx S1=>u ρ S1 λy S2=>∃ i j,x = .int i/\y = .int j/\(-(2 ^ 62)<=i/\i<2 ^ 62 /\ -(2 ^ 62)<=j/\j<2 ^ 62)/\R (λ_=>True) (Ao i j) S2
noncomputable def Ap(xs:List SV):List SV:=(SE xs.length).zipWith (λ(i:Nat) x => .tup [.int i,x]) xs
noncomputable def Kc(w:WE):WI:=λρ S R=>w ρ S λx S1=>∃ xs,AH x S1=some xs/\R (CU x S1) (Ap xs) S1
noncomputable def G9(a:WE):WE:=λρ S Q=>a ρ S λx S1=>∃ j,x = .int j/\(-(2 ^ 62)<=j/\j<=100000)/\Q (.loc S1.length) (S1++[.lst (Ao 0 j)])
noncomputable def Aq(kvs:List (List Int×SV))(k:List Int):Option SV:=(kvs.find? λp=>decide (p.1=k)).map (·.2)
noncomputable def GA(d e v:WE):WE:=λρ S Q=>d ρ S λx S1=>∃ k kv0,x = .loc k/\S1[k]?=some (.dtl kv0)/\e ρ S1 λy S2=>v ρ S2 λz S3=>∃(ks:List Int) (kvs:List (List Int×SV)),y = .tup (ks.map SV.int)/\S3[k]?=some (.dtl kvs)/\kvs.length<big/\
 (∀ n,Aq kvs ks=some n->Q n S3)/\(Aq kvs ks=none->Q z (S3.set k (.dtl (kvs++[(ks,z)]))))
noncomputable def Dq:S2:=λx y S Q=>∃(k:Nat) (kvs:List (List Int×SV)) (ks:List Int) (v:SV),x = .loc k/\(S[k]?=some (.dtl kvs)\/∃ o us,S[k]?=some (.dtf o us kvs))/\y = .tup (ks.map SV.int)/\Aq kvs ks=some v/\Q v S
noncomputable def OA(w:WE):WI:=λρ S R=>w ρ S λx S1=>∃ k kvs,x = .loc k/\S1[k]?=some (.dtl kvs)/\∀ o us,R (λS'=>S'[k]?=some (.dtf o us kvs)) (kvs.map λp => .tup (p.1.map SV.int)) (S1.set k (.dtf o us kvs))
noncomputable def Kd(a:WE):WE:=λρ S Q=>a ρ S λx S1=>∃(k:Nat) (ls:List Nat) (f:Nat->Int) (g:Nat->List SV),x = .loc k/\S1[k]?=some (.lst (ls.map SV.loc))/\(∀(i:Nat) l,ls[i]?=some l->S1[l]?=some (.lst (.int (f i)::g i)))/\(∀ i j,i<j->j<ls.length->f i<f j)/\Q (.loc S1.length) (S1++[.lst (ls.map SV.loc)])
noncomputable def EW(n:Bool):S2:=λx y S Q=>∃(k l:Nat) (ts us:List Nat) (f:Nat->List Int),x = .loc k/\y = .loc l/\S[k]?=some (.lst (ts.map SV.loc))/\S[l]?=some (.lst (us.map SV.loc))/\ts.length=us.length/\(∀(i:Nat) t,ts[i]?=some t->S[t]?=some (.lst ((f i).map SV.int)))/\(∀(i:Nat) t,us[i]?=some t->S[t]?=some (.lst ((f i).map SV.int)))/\Q (.bl (!n)) S
noncomputable def Dr(kvs:List (Int×SV))(i:Int):Option SV:=(kvs.find? λp=>decide (p.1=i)).map (·.2)
noncomputable def y0(kvs:List (Int×SV))(i:Int)(x:SV):List (Int×SV):=if (kvs.any λp=>decide (p.1=i))=true then kvs.map (λp=>if p.1=i then (p.1,x) else p) else kvs++[(i,x)]
noncomputable def Ke:SV->Sto->Option (List (Int×SV))
 | .loc k,S=>match S[k]? with | some (.dct kvs)=>some kvs | some (.dcf _ _ kvs)=>some kvs | _=>none
 | _,_=>none
noncomputable def HU:S2:=λx y S Q=>∃ kvs i v,Ke x S=some kvs/\y = .int i/\Dr kvs i=some v/\Q v S
noncomputable def HV(kvs:List (Int×SV)):List (Int×SV):=kvs.foldl (λacc p=>y0 acc p.1 p.2) []
noncomputable def Kf(a:WE):WE:=λρ S Q=>a ρ S λx S1=>∃ k kvs,x = .loc k/\S1[k]?=some (.lst (kvs.map λ(p:Int×SV)=>SV.tup [.int p.1,p.2]))/\kvs.length<=900/\Q (.loc S1.length) (S1++[.dct (HV kvs)])
noncomputable def GB:WE:=λ_ S Q=>Q (.loc S.length) (S++[.dtl []])
noncomputable def HW:SV->SV->SV->Sto->(Sto->Prop)->Prop:=λx y v S Q=>∃ k i kvs,x = .loc k/\y = .int i/\(S[k]?=some (.dct kvs)\/∃ o ks,S[k]?=some (.dcf o ks kvs))/\kvs.length<big/\Q (S.set k (.dct (y0 kvs i v)))
noncomputable def wMt(m:MT)(a:WE)(b:WA):WE:=λρ S Q=>a ρ S λx S1=>(∃ k xs,x = .loc k/\S1[k]?=some (.lst xs))/\b ρ S1 λxs S2=>sMt m x xs S2 Q
mutual
noncomputable def wTg:Tg->SV->EnvS->(EnvS->Prop)->Prop
 | .nm i,x,ρ,Q=>Q (ρ.set i (some x))
 | .tup ts,.tup xs,ρ,Q=>y9 ts xs ρ Q
 | .tup _,_,_,_=>False
noncomputable def y9:Tgs->List SV->EnvS->(EnvS->Prop)->Prop
 | .nil,[],ρ,Q=>Q ρ
 | .cons t ts,x::xs,ρ,Q=>wTg t x ρ λρ'=>y9 ts xs ρ' Q
 | _,_,_,_=>False
end
noncomputable def BF(k:Nat)(js:List Nat)(ρ:EnvS):EnvS:=SJ k none++js.map λj=>(ρ[j]?).join
noncomputable def m5(keep:Sto->Prop)(g:Tg)(t:WT)(e:WE)(ρ:EnvS)(Q:List SV->Sto->Prop):List SV->List SV->Sto->Prop
 | [],ys,S=>keep S/\Q ys S
 | x::xs,ys,S=>keep S/\wTg g x ρ λρ2=>t ρ2 S λb S1=>if b=true then e ρ2 S1 λy S2=>ys.length<big/\m5 keep g t e ρ Q xs (ys++[y]) S2 else m5 keep g t e ρ Q xs ys S1
noncomputable def HX(k:Nat)(js:List Nat)(g:Tg)(i:WI)(t:WT)(e:WE):WE:=λρ S Q=>i ρ S λkeep xs S1=>m5 keep g t e (BF k js ρ) (λys S2=>Q (.loc S2.length) (S2++[.lst ys])) xs [] S1
noncomputable def j6(keep:Sto->Prop)(g:Tg)(t:WT)(e:WE)(Q:List SV->Sto->Prop):List SV->EnvS->List SV->Sto->Prop
 | [],_,ys,S=>keep S/\Q ys S
 | x::xs,ρ,ys,S=>keep S/\wTg g x ρ λρ2=>t ρ2 S λb S1=>if b=true then e ρ2 S1 λy S2=>ys.length<big/\j6 keep g t e Q xs ρ2 (ys++[y]) S2 else j6 keep g t e Q xs ρ2 ys S1
noncomputable def i9(keep:Sto->Prop)(g:Tg)(t:WT)(g2:Tg)(i2:WI)(t2:WT)(e:WE)(ρ:EnvS)(Q:List SV->Sto->Prop):List SV->List SV->Sto->Prop
 | [],ys,S=>keep S/\Q ys S
 | x::xs,ys,S=>keep S/\wTg g x ρ λρ2=>t ρ2 S λb S1=>if b=true then i2 ρ2 S1 λkeep2 xs2 S2=>j6 keep2 g2 t2 e (λys' S3=>i9 keep g t g2 i2 t2 e ρ Q xs ys' S3) xs2 ρ2 ys S2 else i9 keep g t g2 i2 t2 e ρ Q xs ys S1
noncomputable def Ds(k:Nat)(js:List Nat)(g:Tg)(i:WI)(t:WT)(g2:Tg)(i2:WI)(t2:WT)(e:WE):WE:=λρ S Q=>i ρ S λkeep xs S1=>i9 keep g t g2 i2 t2 e (BF k js ρ) (λys S2=>Q (.loc S2.length) (S2++[.lst ys])) xs [] S1
noncomputable def tt1(w:WE):WE×WT:=(w,PN w)
noncomputable def wBl(w:WE):WT:=λρ S Q=>w ρ S λx S'=>∃ b,x = .bl b/\Q b S'
noncomputable def tt2(w:WE):WE×WT:=(w,wBl w)
noncomputable def Qy:WT:=λ_ S Q=>Q true S
mutual
noncomputable def wEx(Δ:Nat->Sn):Ex->WE×WT
 | .var i=>tt1 (P7 i)
 | .c x=>tt1 (wC x)
 | .op o a b=>tt1 (w2 (sOp o) (wEx Δ a).1 (wEx Δ b).1)
 | .neg a=>tt1 (w1 KS (wEx Δ a).1)
 | .cmp o a b=>tt2 (w2 (AV o) (wEx Δ a).1 (wEx Δ b).1)
 | .chn o p a b c=>tt2 (KW (AV o) (AV p) (wEx Δ a).1 (wEx Δ b).1 (wEx Δ c).1)
 | .and a b=>(KU (wEx Δ a).1 (wEx Δ b).1,CT (wEx Δ a).2 (wEx Δ b).2)
 | .or a b=>(wOr (wEx Δ a).1 (wEx Δ b).1,G8 (wEx Δ a).2 (wEx Δ b).2)
 | .not a=>(Mq (wEx Δ a).1,HS (wEx Δ a).2)
 | .ife t a b=>(Mr (wEx Δ t).2 (wEx Δ a).1 (wEx Δ b).1,λ_ _ _=>False)
 | .tup es=>tt1 (wn MX (EX Δ es))
 | .lst es=>tt1 (wn MY (EX Δ es))
 | .ix a b=>tt1 (w2 sIx (wEx Δ a).1 (wEx Δ b).1)
 | .slc a lo hi=>tt1 (PR (wEx Δ a).1 (wEo Δ lo).1 (wEo Δ hi).1)
 | .call f es=>tt1 (wn (Δ f) (EX Δ es))
 | .bi b es=>tt1 (wn (sBi b) (EX Δ es))
 | .mt m a es=>tt1 (wMt m (wEx Δ a).1 (EX Δ es))
 | .comp own _ js g it t e=>tt1 (HX own.length js g (GC Δ it) (wEo Δ t).2 (wEx Δ e).1)
 | .comp2 own _ js g it t g2 it2 t2 e=>tt1 (Ds own.length js g (GC Δ it) (wEo Δ t).2 g2 (GC Δ it2) (wEo Δ t2).2 (wEx Δ e).1)
 | .tyc t=>tt1 (wC (.ty t))
 | .lrng1 a=>tt1 (G9 (wEx Δ a).1)
 | .dctl a=>tt1 (Kf (wEx Δ a).1)
 | .dnewl=>tt1 GB
 | .setdl d e v=>tt1 (GA (wEx Δ d).1 (wEx Δ e).1 (wEx Δ v).1)
 | .dgetl a b=>tt1 (w2 Dq (wEx Δ a).1 (wEx Δ b).1)
 | .srtu a=>tt1 (Kd (wEx Δ a).1)
 | .like n a b=>tt2 (w2 (EW n) (wEx Δ a).1 (wEx Δ b).1)
 | .dget a b=>tt1 (w2 HU (wEx Δ a).1 (wEx Δ b).1)
 | .no=>(λ_ _ _=>False,λ_ _ _=>False)
noncomputable def EX(Δ:Nat->Sn):Exs->WA
 | .nil=>DH
 | .cons e es=>CO (wEx Δ e).1 (EX Δ es)
noncomputable def wEo(Δ:Nat->Sn):Eo->WO×WT
 | .no=>(PP,Qy)
 | .yes e=>(KY (wEx Δ e).1,(wEx Δ e).2)
noncomputable def GC(Δ:Nat->Sn):Itb->WI
 | .seq e=>O9 (wEx Δ e).1
 | .rng1 a=>Ka (wEx Δ a).1
 | .rng2 a b=>Kb (wEx Δ a).1 (wEx Δ b).1
 | .enum e=>Kc (wEx Δ e).1
 | .dtk e=>OA (wEx Δ e).1
end
structure EndsS where
 nx:EnvS->Sto->Prop
 rt:SV->Sto->Prop
 bk:EnvS->Sto->Prop:=λ_ _=>False
 ct:EnvS->Sto->Prop:=λ_ _=>False
noncomputable abbrev WS:=EndsS->EnvS->Sto->Prop
noncomputable def Ir:SV->SV->SV->Sto->(Sto->Prop)->Prop
 | .loc k,.int i,v,S,Q=>∃ xs j,S[k]?=some (.lst xs)/\ixN xs.length i=some j/\Q (S.set k (.lst (xs.set j v)))
 | _,_,_,_,_=>False
noncomputable def t4(keep:Sto->Prop)(g:Tg)(b:WS)(D:EndsS):List SV->EnvS->Sto->Prop
 | [],ρ,S=>keep S/\D.nx ρ S
 | x::xs,ρ,S=>keep S/\wTg g x ρ λρ2=>b {D with nx:=t4 keep g b D xs,ct:=t4 keep g b D xs,bk:=D.nx} ρ2 S
noncomputable def PU(t:WT)(b:WS):WS:=λD ρ S=>∃ W:Nat->EnvS->Sto->Prop,(∃ m,W m ρ S)/\∀ m ρ S,W m ρ S->t ρ S λc S1=>if c=true then
 b {D with nx:=λρ' S'=>∃ m',m'<m/\W m' ρ' S',ct:=λρ' S'=>∃ m',m'<m/\W m' ρ' S',bk:=D.nx} ρ S1 else D.nx ρ S1
mutual
noncomputable def wSt(Δ:Nat->Sn):Stm->WS
 | .asg t e=>λD ρ S=>(wEx Δ e).1 ρ S λx S1=>wTg t x ρ λρ'=>D.nx ρ' S1
 | .par i j a b=>λD ρ S=>(wEx Δ a).1 ρ S λx S1=>(wEx Δ b).1 ρ S1 λy S2=>D.nx ((ρ.set i (some x)).set j (some y)) S2
 | .put o i e=>λD ρ S=>(wEx Δ e).1 ρ S λv S1=>(wEx Δ o).1 ρ S1 λx S2=>(wEx Δ i).1 ρ S2 λy S3=>Ir x y v S3 λS4=>D.nx ρ S4
 | .dput o i e=>λD ρ S=>(wEx Δ e).1 ρ S λv S1=>(wEx Δ o).1 ρ S1 λx S2=>(wEx Δ i).1 ρ S2 λy S3=>HW x y v S3 λS4=>D.nx ρ S4
 | .expr e=>λD ρ S=>(wEx Δ e).1 ρ S λ_ S1=>D.nx ρ S1
 | .iff t a b=>λD ρ S=>(wEx Δ t).2 ρ S λc S1=>if c=true then wSs Δ a D ρ S1 else wSs Δ b D ρ S1
 | .loop g it b=>λD ρ S=>GC Δ it ρ S λkeep xs S1=>t4 keep g (wSs Δ b) D xs ρ S1
 | .whl t b=>PU (wEx Δ t).2 (wSs Δ b)
 | .ret e=>λD ρ S=>(wEx Δ e).1 ρ S D.rt
 | .no=>λ_ _ _=>False
noncomputable def wSs(Δ:Nat->Sn):List Stm->WS
 | []=>λD ρ S=>D.nx ρ S
 | s::ss=>λD ρ S=>wSt Δ s {D with nx:=wSs Δ ss D} ρ S
end
theorem m4{α:Type}{P:Prop}{x:α}(h:(none:Option α)=some x):P:=nomatch h
noncomputable def AM(scope sc:Ve):Ve:={scope with names:=scope.names.map λ(n,k)=>if (k == .free&&sc.kind == .function&&sc.names.lookup n == some .cell) then (n,.cell) else (n,k)}
noncomputable def c3:Expr->Bool
 | .Starred ..=>false
 | _=>true
theorem e8{e:Expr}{es:List Expr}{env:Env}(h:c3 e=true):Vg (e::es) env=(false,eval e env)::Vg es env:=by
 cases e<;>first | rfl | cases h
theorem BT{env:Env}{pos:Pos}:∀{es:List Expr},es.all c3=true->(backTo pos (Vg es env)).any (·.1)=false
 | [],_=>rfl
 | e::es,h=>by
   rw[TN,S8]at h;rw[e8 h.1];exact BT (es:=es) h.2
theorem DI{env:Env}{pos:Pos}:∀{es:List Expr},es.all c3=true->(backTo pos (Vg es env)).all (λx=>!x.1)=true
 | [],_=>rfl
 | e::es,h=>by
   rw[TN,S8]at h;rw[e8 h.1];exact DI (es:=es) h.2
noncomputable def glo(sc:Ve)(x:Str):Bool:=sc.names.lookup x == some .globalImplicit&&!(x == ("__name__":Str))&&!(x == ("__debug__":Str))
noncomputable def vis(sc:Ve)(x:Str):Bool:=sc.names.lookup x == some .local||sc.names.lookup x == some .cell||sc.names.lookup x == some .free
noncomputable def loc(sc:Ve)(x:Str):Bool:=sc.names.lookup x == some .local||sc.names.lookup x == some .cell
noncomputable def PV:SV->Const->Bool
 | .non,.none=>true
 | .bl a,.bool b=>a == b
 | .int i,.int j=>decide (i=j)
 | .str x,.str y=>decide (x=y)
 | _,_=>false
noncomputable def m7:Expr->Bool
 | .Slice ..=>false
 | _=>true
noncomputable def j9:Expr->Bool
 | .Set ..=>false
 | _=>true
noncomputable def Kg:Expr->Bool
 | .UnaryOp .Not _ _=>false
 | .BoolOp ..=>false
 | .IfExp ..=>false
 | .Compare ..=>false
 | _=>true
noncomputable def B0:Expr->Bool
 | .Call (.Name _ _) [] [] _=>false
 | _=>true
noncomputable def DJ:Expr->Option Str
 | .Name x _=>some x
 | _=>none
noncomputable def Kh:Expr->Option Const
 | .Constant k _ _=>some k
 | _=>none
noncomputable def Qz:Expr->Option (Expr×Wd×Expr)
 | .BinOp a o b _=>some (a,o,b)
 | _=>none
noncomputable def vUn:Expr->Option (UnaryOp×Expr)
 | .UnaryOp o a _=>some (o,a)
 | _=>none
noncomputable def Ms:Expr->Option (Expr×List CmpOp×List Expr)
 | .Compare a os bs _=>some (a,os,bs)
 | _=>none
noncomputable def Ki:Expr->Option (BoolOp×List Expr×Pos)
 | .BoolOp o vs p=>some (o,vs,p)
 | _=>none
noncomputable def R0:Expr->Option (Expr×Expr×Expr)
 | .IfExp t a b _=>some (t,a,b)
 | _=>none
noncomputable def EY:Expr->Option (List Expr)
 | .Tuple es _ _=>some es
 | _=>none
noncomputable def R1:Expr->Option (List Expr)
 | .List es _=>some es
 | _=>none
noncomputable def GD:Expr->Option (Expr×Expr)
 | .Subscript a b _=>some (a,b)
 | _=>none
noncomputable def R3:Expr->Option (Option Expr×Option Expr×Option Expr)
 | .Slice l h s _=>some (l,h,s)
 | _=>none
noncomputable def EZ:Expr->Option (Expr×List Expr×List Keyword)
 | .Call f as ks _=>some (f,as,ks)
 | _=>none
noncomputable def GE:Expr->Nat
 | .Call _ _ _ p=>p.line
 | _=>0
noncomputable def Kj:Expr->Option (Expr×Str×Nat)
 | .Attribute o n p=>some (o,n,p.endLine)
 | _=>none
noncomputable def Ea:Expr->Option (Expr×List Comprehension×Ve)
 | .ListComp e gs s _=>some (e,gs,s)
 | _=>none
noncomputable def OB:Expr->Option (List (Option Expr)×List Expr)
 | .Dict ks vs _=>some (ks,vs)
 | _=>none
theorem Kk{r:Expr}{x:List (Option Expr)×List Expr}(h:OB r=some x):∃ p,r = .Dict x.1 x.2 p:=by cases r<;>first | (cases h;exact⟨_,rfl⟩) | exact m4 h
theorem BU{r:Expr}{x:Str}(h:DJ r=some x):∃ p,r = .Name x p:=by cases r<;>first | (cases h;exact⟨_,rfl⟩) | exact m4 h
theorem Iu{r:Expr}{x:Const}(h:Kh r=some x):∃ j p,r = .Constant x j p:=by cases r<;>first | (cases h;exact⟨_,_,rfl⟩) | exact m4 h
theorem Mt{r:Expr}{x:Expr×Wd×Expr}(h:Qz r=some x):∃ p,r = .BinOp x.1 x.2.1 x.2.2 p:=by cases r<;>first | (cases h;exact⟨_,rfl⟩) | exact m4 h
theorem Kl{r:Expr}{x:UnaryOp×Expr}(h:vUn r=some x):∃ p,r = .UnaryOp x.1 x.2 p:=by cases r<;>first | (cases h;exact⟨_,rfl⟩) | exact m4 h
theorem Dt{r:Expr}{x:Expr×List CmpOp×List Expr}(h:Ms r=some x):∃ p,r = .Compare x.1 x.2.1 x.2.2 p:=by cases r<;>first | (cases h;exact⟨_,rfl⟩) | exact m4 h
theorem Eb{r:Expr}{x:BoolOp×List Expr×Pos}(h:Ki r=some x):r = .BoolOp x.1 x.2.1 x.2.2:=by cases r<;>first | (cases h;exact rfl) | exact m4 h
theorem Mu{r:Expr}{x:Expr×Expr×Expr}(h:R0 r=some x):∃ p,r = .IfExp x.1 x.2.1 x.2.2 p:=by cases r<;>first | (cases h;exact⟨_,rfl⟩) | exact m4 h
theorem B1{r:Expr}{x:List Expr}(h:EY r=some x):∃ j p,r = .Tuple x j p:=by cases r<;>first | (cases h;exact⟨_,_,rfl⟩) | exact m4 h
theorem Mv{r:Expr}{x:List Expr}(h:R1 r=some x):∃ p,r = .List x p:=by cases r<;>first | (cases h;exact⟨_,rfl⟩) | exact m4 h
theorem B2{r:Expr}{x:Expr×Expr}(h:GD r=some x):∃ p,r = .Subscript x.1 x.2 p:=by cases r<;>first | (cases h;exact⟨_,rfl⟩) | exact m4 h
theorem Mw{r:Expr}{x:Option Expr×Option Expr×Option Expr}(h:R3 r=some x):∃ p,r = .Slice x.1 x.2.1 x.2.2 p:=by cases r<;>first | (cases h;exact⟨_,rfl⟩) | exact m4 h
theorem Ec{r:Expr}{x:Expr×List Expr×List Keyword}(h:EZ r=some x):∃ p,r = .Call x.1 x.2.1 x.2.2 p/\GE r=p.line:=by cases r<;>first | (cases h;exact⟨_,rfl,rfl⟩) | exact m4 h
theorem Km{r:Expr}{x:Expr×Str×Nat}(h:Kj r=some x):∃ p,r = .Attribute x.1 x.2.1 p/\x.2.2=p.endLine:=by cases r<;>first | (cases h;exact⟨_,rfl,rfl⟩) | exact m4 h
theorem BV{r:Expr}{x:Expr×List Comprehension×Ve}(h:Ea r=some x):∃ p,r = .ListComp x.1 x.2.1 x.2.2 p:=by cases r<;>first | (cases h;exact⟨_,rfl⟩) | exact m4 h
theorem a3{α:Type}{o:Option α}{p:α->Bool}(h:o.any p=true):∃ x,o=some x/\p x=true:=by
 cases o with
 | none=>cases h
 | some x=>exact⟨x,rfl,h⟩
theorem A9{α:Type}{l:List α}{x:α}(h:l.head?=some x):l=x::l.tail:=by
 cases l with
 | nil=>cases h
 | cons y r=>cases h;rfl
noncomputable def l1{α:Type}:List α->Option α
 | [x]=>some x
 | _=>none
noncomputable def l2{α:Type}:List α->Option (α×α)
 | [x,y]=>some (x,y)
 | _=>none
theorem v3{α:Type}{l:List α}{x:α}(h:l1 l=some x):l=[x]:=by
 match l,h with
 | [y],h=>cases h;rfl
theorem CV{α:Type}{l:List α}{x:α×α}(h:l2 l=some x):l=[x.1,x.2]:=by
 match l,h with
 | [y,z],h=>cases h;rfl
noncomputable def l3{α:Type}:List α->Option (α×α×α)
 | [x,y,z]=>some (x,y,z)
 | _=>none
noncomputable def vFn(r:Expr):Option (Str×List Expr):=(EZ r).bind λc=>if c.2.2.isEmpty then (DJ c.1).map λx=>(x,c.2.1) else none
theorem AW{r:Expr}{x:Str×List Expr}(h:vFn r=some x):∃ p q,r = .Call (.Name x.1 p) x.2 [] q:=by
 unfold vFn at h;cases hc:EZ r with
 | none=>rw[hc]at h;cases h
 | some c=>
   rw[hc]at h;obtain⟨q,e,_⟩:=Ec hc;simp only[UW]at h;by_cases hk:c.2.2.isEmpty=true
   ·rw[iP hk]at h;cases hn:DJ c.1 with
    | none=>rw[hn]at h;cases h
    | some y=>
      rw[hn]at h;cases h;obtain⟨p,ep⟩:=BU hn;rw[e,ep,T8.mp hk];exact⟨p,q,rfl⟩
   ·rw[iG hk]at h;cases h
noncomputable def vMt(r:Expr):Option (Expr×Str×List Expr):=(EZ r).bind λc=>if c.2.2.isEmpty then (Kj c.1).bind λa=>if a.2.2 == GE r then some (a.1,a.2.1,c.2.1) else none else none
theorem Kn{r:Expr}{x:Expr×Str×List Expr}(h:vMt r=some x):∃ ap cp,r = .Call (.Attribute x.1 x.2.1 ap) x.2.2 [] cp/\(ap.endLine == cp.line)=true:=by
 unfold vMt at h;cases hc:EZ r with
 | none=>rw[hc]at h;cases h
 | some c=>
   rw[hc]at h;obtain⟨q,e,el⟩:=Ec hc;simp only[UW]at h;by_cases hk:c.2.2.isEmpty=true
   ·rw[iP hk]at h;cases hn:Kj c.1 with
    | none=>rw[hn]at h;cases h
    | some y=>
      rw[hn]at h;simp only[UW]at h;obtain⟨p,ep,el2⟩:=Km hn;by_cases hl:(y.2.2 == GE r)=true
      ·rw[iP hl]at h;cases h;refine⟨p,q,?_,?_⟩
       ·rw[e,ep,T8.mp hk]
       ·rw[<-el2,<-el];exact hl
      ·rw[iG hl]at h;cases h
   ·rw[iG hk]at h;cases h
mutual
noncomputable def y2(k:Nat)(N:List Str)(sc:Ve):Tg->Expr->Bool
 | .nm i,r=>(DJ r).any λx=>decide (i<k)&&decide (N[i]?=some x)&&loc sc x
 | .tup ts,r=>(EY r).any λes=>y4 k N sc ts es
noncomputable def y4(k:Nat)(N:List Str)(sc:Ve):Tgs->List Expr->Bool
 | .nil,r=>r.isEmpty
 | .cons t ts,r=>(r.head?).any λe=>y2 k N sc t e&&c3 e&&y4 k N sc ts r.tail
end
noncomputable def nmB(N:List Str)(sc:Ve)(i:Nat)(x:Str):Bool:=decide (N[i]?=some x)&&vis sc x&&!(x == ("__debug__":Str))&&!(x == ("__classdict__":Str))
mutual
noncomputable def f9(T:List Str)(N:List Str)(sc:Ve):Ex->Expr->Bool
 | .var i,r=>(DJ r).any λx=>nmB N sc i x
 | .c x,r=>(Kh r).any λk=>PV x k
 | .op o a b,r=>(Qz r).any λv=>decide (o=v.2.1)&&f9 T N sc a v.1&&f9 T N sc b v.2.2
 | .neg a,r=>(vUn r).any λv=>decide (v.1 = .USub)&&f9 T N sc a v.2
 | .cmp o a b,r=>(Ms r).any λv=>(l1 v.2.2).any λrb=>decide (v.2.1=[o])&&f9 T N sc a v.1&&f9 T N sc b rb&&j9 rb
 | .chn o p a b c,r=>(Ms r).any λv=>(l2 v.2.2).any λrs=>decide (v.2.1=[o,p])&&f9 T N sc a v.1&&f9 T N sc b rs.1&&f9 T N sc c rs.2&&j9 rs.2
 | .and a b,r=>(Ki r).any λv=>decide (v.1 = .And)&&(v.2.1.head?).any λx=>f9 T N sc a x&&(match l1 v.2.1.tail with | some y=>f9 T N sc b y | none=>decide (2<=v.2.1.tail.length)&&f9 T N sc b (.BoolOp .And v.2.1.tail v.2.2))
 | .or a b,r=>(Ki r).any λv=>decide (v.1 = .Or)&&(v.2.1.head?).any λx=>f9 T N sc a x&&(match l1 v.2.1.tail with | some y=>f9 T N sc b y | none=>decide (2<=v.2.1.tail.length)&&f9 T N sc b (.BoolOp .Or v.2.1.tail v.2.2))
 | .not a,r=>(vUn r).any λv=>decide (v.1 = .Not)&&f9 T N sc a v.2
 | .ife t a b,r=>(R0 r).any λv=>f9 T N sc t v.1&&f9 T N sc a v.2.1&&f9 T N sc b v.2.2
 | .tup es,r=>(EY r).any λrs=>AN T N sc es rs
 | .lst es,r=>(R1 r).any λrs=>AN T N sc es rs
 | .ix a b,r=>(GD r).any λv=>f9 T N sc a v.1&&f9 T N sc b v.2&&m7 v.2
 | .slc a lo hi,r=>(GD r).any λv=>(R3 v.2).any λs=>f9 T N sc a v.1&&Ko T N sc lo s.1&&Ko T N sc hi s.2.1&&s.2.2.isNone
 | .call f es,r=>(vFn r).any λv=>decide (T[f]?=some v.1)&&glo sc v.1&&AN T N sc es v.2&&!v.2.isEmpty
 | .bi b es,r=>(vFn r).any λv=>decide (b.name=v.1)&&glo sc v.1&&AN T N sc es v.2&&!v.2.isEmpty
 | .mt m a es,r=>(vMt r).any λv=>decide (v.2.1=m.name)&&B0 v.1&&decide (v.2.2.length<29)&&f9 T N sc a v.1&&AN T N sc es v.2.2
 | .comp own cn js g it t e,r=>(Ea r).any λv=>(l1 v.2.1).any λc=>decide (c.is_async=0)&&j3 sc v.2.2 own cn N js&&y2 own.length (own++cn) (AM v.2.2 sc) g c.target&&Ed T N sc it c.target c.iter&&j9 c.iter&&BW T (own++cn) (AM v.2.2 sc) t c.ifs&&f9 T (own++cn) (AM v.2.2 sc) e v.1
 | .comp2 own cn js g it t g2 it2 t2 e,r=>(Ea r).any λv=>(l2 v.2.1).any λc=>decide (c.1.is_async=0)&&decide (c.2.is_async=0)&&j3 sc v.2.2 own cn N js&&y2 own.length (own++cn) (AM v.2.2 sc) g c.1.target&&Ed T N sc it c.1.target c.1.iter&&j9 c.1.iter&&BW T (own++cn) (AM v.2.2 sc) t c.1.ifs&&y2 own.length (own++cn) (AM v.2.2 sc) g2 c.2.target&&Ed T (own++cn) (AM v.2.2 sc) it2 c.2.target c.2.iter&&j9 c.2.iter&&BW T (own++cn) (AM v.2.2 sc) t2 c.2.ifs&&f9 T (own++cn) (AM v.2.2 sc) e v.1
 | .tyc t,r=>(DJ r).any λx=>decide (x=Str.ofString t.nm)&&glo sc x&&decide (t ≠ .none)
 | .lrng1 a,r=>(vFn r).any λv=>(l1 v.2).any λz=>(vFn z).any λu=>(l1 u.2).any λra=>decide (v.1=("list":Str))&&decide (u.1=("range":Str))&&glo sc v.1&&glo sc u.1&&f9 T N sc a ra&&c3 ra
 | .setdl d e v,r=>(vMt r).any λu=>(l2 u.2.2).any λra=>decide (u.2.1=("setdefault":Str))&&B0 u.1&&f9 T N sc d u.1&&f9 T N sc e ra.1&&c3 ra.1&&f9 T N sc v ra.2&&c3 ra.2
 | .dnewl,r=>(OB r).any λv=>v.1.isEmpty&&v.2.isEmpty
 | .dgetl a b,r=>(GD r).any λv=>f9 T N sc a v.1&&f9 T N sc b v.2&&m7 v.2
 | .srtu a,r=>(vFn r).any λv=>(l1 v.2).any λra=>decide (v.1=("sorted":Str))&&glo sc v.1&&f9 T N sc a ra&&c3 ra
 | .like n a b,r=>(Ms r).any λv=>(l1 v.2.2).any λrb=>decide (v.2.1=[if n then CmpOp.NotEq else CmpOp.Eq])&&f9 T N sc a v.1&&f9 T N sc b rb&&j9 rb
 | .dctl a,r=>(vFn r).any λv=>(l1 v.2).any λra=>decide (v.1=("dict":Str))&&glo sc v.1&&f9 T N sc a ra&&c3 ra
 | .dget a b,r=>(GD r).any λv=>f9 T N sc a v.1&&f9 T N sc b v.2&&m7 v.2
 | .no,_=>true
noncomputable def AN(T:List Str)(N:List Str)(sc:Ve):Exs->List Expr->Bool
 | .nil,r=>r.isEmpty
 | .cons e es,r=>(r.head?).any λx=>f9 T N sc e x&&c3 x&&AN T N sc es r.tail
noncomputable def Ko(T:List Str)(N:List Str)(sc:Ve):Eo->Option Expr->Bool
 | .no,r=>r.isNone
 | .yes e,r=>r.any λx=>f9 T N sc e x
noncomputable def BW(T:List Str)(N:List Str)(sc:Ve):Eo->List Expr->Bool
 | .no,r=>r.isEmpty
 | .yes e,r=>(l1 r).any λx=>f9 T N sc e x
noncomputable def Ed(T:List Str)(N:List Str)(sc:Ve):Itb->Expr->Expr->Bool
 | .seq e,_,r=>f9 T N sc e r
 | .rng1 a,_,r=>(vFn r).any λv=>(l1 v.2).any λra=>decide (v.1=("range":Str))&&glo sc v.1&&f9 T N sc a ra&&c3 ra
 | .rng2 a b,_,r=>(vFn r).any λv=>(l2 v.2).any λra=>decide (v.1=("range":Str))&&glo sc v.1&&f9 T N sc a ra.1&&c3 ra.1&&f9 T N sc b ra.2&&c3 ra.2
 | .enum e,tg,r=>(EY tg).isSome&&(vFn r).any λv=>(l1 v.2).any λa=>decide (v.1=("enumerate":Str))&&glo sc v.1&&f9 T N sc e a&&c3 a
 | .dtk e,_,r=>f9 T N sc e r
end
noncomputable def spS(K:Rz)(w:Sn):Sp:=λvs H Q _=>∃ as S xs,Ok K as H S/\RlAll K as H vs xs/\w xs S (Post K as H Q)
structure Cal(P:VZ)(w:Vc)(K:Rz)(mg:Str->Option VS)(base:Heap)(k:Nat)(x:Str)(ps:List Str)(sp:Sp):Prop where
 ex:∃ f fd,FnOk P w K mg base CX0 k f fd ps sp/\mg x=some (.ref f)/\PySem.W.keepIn K (.ref f)=true/\Binds K fd ps []
structure Cok(T:List Str)(Δ:Nat->Sn)(X:Cx)(k:Nat)(N:List Str)(sc:Ve):Prop where
 hN:X.N=N
 hs:X.env.scope=sc
 nd:N.Nodup
 calm:X.calm=true
 fn:∀ i x,i<k->N[i]?=some x->sc.names.lookup x=some .cell->X.fn x=true
 un:X.A.units+102<cLine
 bl:∀ b:BI,X.mg b.name=none
 rng:X.mg "range"=none
 enm:X.mg "enumerate"=none
 rvs:X.mg "reversed"=none
 zip:X.mg "zip"=none
 st0:X.mg "set"=none
 dc0:X.mg "dict"=none
 ty:∀ t:TyN,t ≠ .none->X.mg (Str.ofString t.nm)=none
 gd:X.A.guards=some []
 call:∀ f x,T[f]?=some x->∃ k ps,Cal X.prog X.w X.K X.mg X.base k x ps (spS X.K (Δ f))/\Room k X.A
 mono:∀ f,MonoN (Δ f)
structure Good(X:Cx)(r:Expr)(w:WE×WT):Prop where
 pe:PE X r (lift X.K w.1)
 pt:PT X r (liftT X.K w.2)
 m:Mono w.1
 mt:MonoT w.2
 pw:∀ op vs p,r = .BoolOp op vs p->PW X r (liftT X.K w.2)
section
variable{X:Cx}{r:Expr}{w:WE}
theorem MonoT.tru(m:Mono w):MonoT (PN w):=λρ S P P' i h=>m _ _ _ _ (λx S' ⟨b,e,q⟩=>⟨b,e,i _ _ q⟩) h
theorem MonoT.bl(m:Mono w):MonoT (wBl w):=λρ S P P' i h=>m _ _ _ _ (λx S' ⟨b,e,q⟩=>⟨b,e,i _ _ q⟩) h
theorem PX{K:Rz}{as:List VU}{H:Hp}{S:Sto}{x:SV}{v:V}{b:Bool}(ok:Ok K as H S)(r:Rl K as H v x)(e:PM x S=some b):MH K v H b:=by
 cases x with
 | bl c=>cases e;rw[rl_bl.mp r];exact rfl
 | loc k=>
   unfold PM at e;cases hs:S[k]? with
   | none=>simp only[hs]at e;cases e
   | some o=>
     cases o with
     | lst xs=>
       simp only[hs]at e;cases e;obtain⟨a,vs,rfl,_,ha,rr⟩:=l8 ok r hs;refine .inl ⟨vs,SqL.of ha,?_⟩;have:=rr.length;cases vs<;>cases xs<;>first | rfl | (simp at this)
     | iset _=>simp only[hs]at e;cases e
     | dtl _=>simp only[hs]at e;cases e
     | dtf _ _ _=>simp only[hs]at e;cases e
     | dtp _=>simp only[hs]at e;cases e
     | dct _=>simp only[hs]at e;cases e
     | dcf _ _ _=>simp only[hs]at e;cases e
 | _=>cases e
theorem D0{env:Env}(h:Kg r=true):∀ whole,isTrue r env whole=(do let v <- whole;standAt r.pos;holding [v] (truthy v)):=by
 intro whole;cases r<;>first | rfl | (cases h;done) | (rename_i o _ _;cases o<;>first | rfl | cases h)
theorem Mx{K:Rz}(m:Mono w):∀ σ H Q,liftT K (PN w) σ H Q->lift K w σ H λx H'=>∃ k,MH K x H' k/\Q k H':=by
 rintro σ H Q ⟨as,ρ,S,ok,en,h⟩;exact⟨as,ρ,S,ok,en,m _ _ _ _ (λx S' ⟨b,e,q⟩ as' H' v g ok' r=>⟨b,PX ok' r e,q as' H' g ok'⟩) h⟩
theorem GF{K:Rz}(m:Mono w):∀ σ H Q,liftT K (wBl w) σ H Q->lift K w σ H λx H'=>∃ k,x = .bl k/\Q k H':=by
 rintro σ H Q ⟨as,ρ,S,ok,en,h⟩;exact⟨as,ρ,S,ok,en,m _ _ _ _ (λx S' ⟨b,e,q⟩ as' H' v g ok' r=>⟨b,by subst e;exact rl_bl.mp r,q as' H' g ok'⟩) h⟩
theorem Good.one(hp:PE X r (lift X.K w))(m:Mono w)(h:Kg r=true):Good X r (tt1 w) where
 pe:=hp
 pt:=CN _ (Jh hp (D0 h)) (Mx m)
 m:=m
 mt := .tru m
 pw:=λop vs p e=>by rw[e]at h;cases h
theorem Kp{X:Cx}{r:Expr}:PE X r (lift X.K λ_ _ _=>False):=λ_ _ _ _ _ _ h=>let ⟨_,_,_,_,_,z⟩:=h;z.elim
theorem Ee{X:Cx}{r:Expr}:PT X r (liftT X.K λ_ _ _=>False):=λ_ _ _ _ _ _ h=>let ⟨_,_,_,_,_,z⟩:=h;z.elim
theorem Kq{X:Cx}{r:Expr}:PW X r (liftT X.K λ_ _ _=>False):=λ_ _ _ _ _ _ _ h=>let ⟨_,_,_,_,_,z⟩:=h;z.elim
theorem Good.never:Good X r (λ_ _ _=>False,λ_ _ _=>False):=⟨Kp,Ee,λ_ _ _ _ _ h=>h,λ_ _ _ _ _ h=>h,λ_ _ _ _=>Kq⟩
end
theorem HY{o:Wd}:Mono2 (sOp o):=by
 unfold sOp;split<;>first | exact .add | exact .int0 | exact .mul | exact .int | exact λ_ _ _ _ _ _ h=>h
theorem v4{o:CmpOp}:Mono2 (AV o):=by
 unfold AV;split<;>first | exact .eq | exact .ne | exact .int0 | exact .in' | exact .isN
section
variable{X:Cx}
theorem Kr{o:Wd}{ra rb:Expr}{p:Pos}{wa wb:WE}(ha:PE X ra (lift X.K wa))(hb:PE X rb (lift X.K wb))(ma:Mono wa)(mb:Mono wb):PE X (.BinOp ra o rb p) (lift X.K (w2 (sOp o) wa wb)):=by
 have go:∀{s:S2} {rr:R2},Mono2 s->OpR X (Vq o) rr->Ae X.K s rr->PE X (.BinOp ra o rb p) (lift X.K (w2 s wa wb)):=λms ho sim=>e7 _ (QM ho ha hb) (A7 sim ms ma mb);have no:PE X (.BinOp ra o rb p) (lift X.K (w2 (λ_ _ _ _=>False) wa wb)):=go (λ_ _ _ _ _ _ h=>h) (rr:=λ_ _ _ _=>False) (λ_ _ _ _ _ _ _ _ _ _ _ _ h=>h.elim) (λ_ _ _ _ _ _ _ _ _ _ _ h=>h);cases o with
 | Add=>exact go .add Me Mf
 | Sub=>exact go .int0 Oh (An λ_ _ _ _=>rl_int.mpr rfl)
 | Mult=>exact go .mul ((op_mul.or Oy).or Mb) Mg
 | FloorDiv=>exact go .int MG (Do λ_ _ _ _=>rl_int.mpr rfl)
 | Mod=>exact go .int Oi (Do λ_ _ _ _=>rl_int.mpr rfl)
 | Pow=>exact go .int Oj (Do λ_ _ _ _=>rl_int.mpr rfl)
 | _=>exact no
theorem CW(o:CmpOp)(hu:X.A.units<cLine):∃ rr:R2,OpR X (Vd o) rr/\Ae X.K (AV o) rr:=by
 cases o with
 | Eq=>exact⟨_,op_eq.or ((P1 hu).or (Mc hu)),PC⟩
 | NotEq=>exact⟨_,op_ne.or (P2 hu),PD⟩
 | Lt=>exact⟨_,QR,An λ_ _ _ _=>rl_bl.mpr rfl⟩
 | LtE=>exact⟨_,QS,An λ_ _ _ _=>rl_bl.mpr rfl⟩
 | Gt=>exact⟨_,QT,An λ_ _ _ _=>rl_bl.mpr rfl⟩
 | GtE=>exact⟨_,QU,An λ_ _ _ _=>rl_bl.mpr rfl⟩
 | Is=>exact⟨_,Oo,Mi⟩
 | IsNot=>exact⟨_,op_notN.or Ig,KK⟩
 | In=>exact⟨_,PH,KJ⟩
 | NotIn=>exact⟨_,Ip,KJ⟩
theorem Ar{o:CmpOp}{r:Expr}(h:j9 r=true):Wz o r=false:=by
 cases r<;>first | rfl | cases h
theorem Iv{o:CmpOp}{ra rb:Expr}{p:Pos}{wa wb:WE}(hu:X.A.units<cLine)(ha:PE X ra (lift X.K wa))(hb:PE X rb (lift X.K wb))(ma:Mono wa)(mb:Mono wb)(hn:j9 rb=true):Good X (.Compare ra [o] [rb] p) (tt2 (w2 (AV o) wa wb)):=by
 obtain⟨rr,ho,sim⟩:=CW (X:=X) o hu;have m:Mono (w2 (AV o) wa wb) := .two v4 ma mb
 exact{pe:=e7 _ (Gv ho ha hb (Ar hn)) (A7 sim v4 ma mb)
       pt:=CN _ (Gx ho ha hb (Ar hn)) λσ H Q h=>A7 sim v4 ma mb σ H _ (GF m σ H Q h)
       m:=m
       mt := .bl m
       pw:=λ_ _ _ e=>by cases e}
theorem Ef{o p:CmpOp}{a b c:WE}(ma:Mono a)(mb:Mono b)(mc:Mono c):Mono (KW (AV o) (AV p) a b c):=λρ S P P' i h=>ma _ _ _ _ (λx S1 h=>mb _ _ _ _ (λy S2 h=>v4 _ _ _ _ _ (λz S3 ⟨k,e,q⟩=>⟨k,e,by
 cases k with
 | true=>rw[iP rfl]at q ⊢;exact mc _ _ _ _ (λu S4 h=>v4 _ _ _ _ _ i h) q
 | false=>rw[iG SH]at q ⊢;exact i _ _ q⟩) h) h) h
theorem HZ{K:Rz}{o p:CmpOp}{r r':R2}{a b c:WE}(s1:Ae K (AV o) r)(s2:Ae K (AV p) r')(ma:Mono a)(mb:Mono b)(mc:Mono c):∀ σ H Q,lift K (KW (AV o) (AV p) a b c) σ H Q->Fe r r' (lift K a) (lift K b) (lift K c) σ H Q:=by
 rintro σ H Q ⟨as,ρ,S,ok,en,h⟩;refine⟨as,ρ,S,ok,en,ma _ _ _ _ (λx S1 h as1 H1 v g1 ok1 rv=>?_) h⟩;refine⟨as1,ρ,S1,ok1,en.mono g1.pre (g1.ku ok),mb _ _ _ _ (λy S2 h as2 H2 u g2 ok2 ru=>?_) h⟩;refine s1 as2 H2 S2 x y v u _ ok2 (Rl.mono g2.pre (g2.ku ok1) x v rv) ru (v4 _ _ _ _ _ (λz S3 ⟨k,e,q⟩ as3 H3 t g3 ok3 rt=>?_) h);subst e;refine⟨k,rl_bl.mp rt,?_⟩;cases k with
 | true=>
   rw[iP rfl]at q ⊢;refine⟨as3,ρ,S3,ok3,(en.mono g1.pre (g1.ku ok)).mono (g2.trans g3).pre ((g2.trans g3).ku ok1),mc _ _ _ _ (λn S4 h as4 H4 m g4 ok4 rm=>?_) q⟩;exact s2 as4 H4 S4 y n u m Q ok4 (Rl.mono (g3.trans g4).pre ((g3.trans g4).ku ok2) y u ru) rm (v4 _ _ _ _ _ (λf S5 hf=>hf.mono (((g1.trans g2).trans g3).trans g4)) h)
 | false=>
   rw[iG SH]at q ⊢;exact q as3 H3 _ ((g1.trans g2).trans g3) ok3 (rl_bl.mpr rfl)
theorem Iw{o q:CmpOp}{ra rb rc:Expr}{p:Pos}{wa wb wc:WE}(hu:X.A.units<cLine)(ha:PE X ra (lift X.K wa))(hb:PE X rb (lift X.K wb))(hc:PE X rc (lift X.K wc))(ma:Mono wa)(mb:Mono wb)(mc:Mono wc)(hn:j9 rc=true):Good X (.Compare ra [o,q] [rb,rc] p) (tt2 (KW (AV o) (AV q) wa wb wc)):=by
 obtain⟨r1,ho,sim⟩:=CW (X:=X) o hu;obtain⟨r2,hq,sim2⟩:=CW (X:=X) q hu;have m:Mono (KW (AV o) (AV q) wa wb wc):=Ef ma mb mc;have hm:Xi [o,q] [rb,rc]=false:=Ar hn
 exact{pe:=e7 _ (Jf ho hq ha hb hc hm) (HZ sim sim2 ma mb mc)
       pt:=CN _ (Jg ho hq ha hb hc hm) λσ H Q h=>HZ sim sim2 ma mb mc σ H _ (GF m σ H Q h)
       m:=m
       mt := .bl m
       pw:=λ_ _ _ e=>by cases e}
end
section
variable{K:Rz}
theorem g8{c:Bool}{A B A' B':Prop}(ha:A->A')(hb:B->B')(h:if c=true then A else B):if c=true then A' else B':=by
 cases c with
 | true=>rw[iP rfl]at h ⊢;exact ha h
 | false=>rw[iG SH]at h ⊢;exact hb h
theorem Mono.and{a b:WE}(ma:Mono a)(mb:Mono b):Mono (KU a b):=λρ S P P' i h=>ma _ _ _ _ (λx S1 ⟨c,e,q⟩=>⟨c,e,g8 (mb _ _ _ _ i) (i _ _) q⟩) h
theorem Mono.or{a b:WE}(ma:Mono a)(mb:Mono b):Mono (wOr a b):=λρ S P P' i h=>ma _ _ _ _ (λx S1 ⟨c,e,q⟩=>⟨c,e,g8 (i _ _) (mb _ _ _ _ i) q⟩) h
theorem Mono.not{a:WE}(ma:Mono a):Mono (Mq a):=λρ S P P' i h=>ma _ _ _ _ (λx S1 ⟨c,e,q⟩=>⟨c,e,i _ _ q⟩) h
theorem MonoT.and{a b:WT}(ma:MonoT a)(mb:MonoT b):MonoT (CT a b):=λρ S P P' i h=>ma _ _ _ _ (λx S1 q=>g8 (mb _ _ _ _ i) (i _ _) q) h
theorem MonoT.or{a b:WT}(ma:MonoT a)(mb:MonoT b):MonoT (G8 a b):=λρ S P P' i h=>ma _ _ _ _ (λx S1 q=>g8 (i _ _) (mb _ _ _ _ i) q) h
theorem MonoT.not{a:WT}(ma:MonoT a):MonoT (HS a):=λρ S P P' i h=>ma _ _ _ _ (λx S1 q=>i _ _ q) h
theorem Mono.ifE{t:WT}{a b:WE}(mt:MonoT t)(ma:Mono a)(mb:Mono b):Mono (Mr t a b):=λρ S P P' i h=>mt _ _ _ _ (λx S1 q=>g8 (ma _ _ _ _ i) (mb _ _ _ _ i) q) h
theorem Post.at{as as1:List VU}{H H1:Hp}{Q:VK}{x:SV}{S:Sto}{v:V}(h:Post K as H Q x S)(g:Go as H as1 H1)(ok:Ok K as1 H1 S)(r:Rl K as1 H1 v x):Q v H1:=h as1 H1 v g ok r
theorem Hb{a b:WE}(ma:Mono a)(mb:Mono b):∀ σ H Q,lift K (KU a b) σ H Q->Np (lift K a) (lift K b) σ H Q:=by
 rintro σ H Q ⟨as,ρ,S,ok,en,h⟩;refine⟨as,ρ,S,ok,en,ma _ _ _ _ (λx S1 ⟨c,e,q⟩ as1 H1 v g1 ok1 rv=>?_) h⟩;subst e;refine⟨c,rl_bl.mp rv,g8 (λq=>?_) (λq=>q.at g1 ok1 (rl_bl.mpr rfl)) q⟩;exact⟨as1,ρ,S1,ok1,en.mono g1.pre (g1.ku ok),mb _ _ _ _ (λy S2 h=>h.mono g1) q⟩
theorem Ks{a b:WE}(ma:Mono a)(mb:Mono b):∀ σ H Q,lift K (wOr a b) σ H Q->Q9 (lift K a) (lift K b) σ H Q:=by
 rintro σ H Q ⟨as,ρ,S,ok,en,h⟩;refine⟨as,ρ,S,ok,en,ma _ _ _ _ (λx S1 ⟨c,e,q⟩ as1 H1 v g1 ok1 rv=>?_) h⟩;subst e;refine⟨c,rl_bl.mp rv,g8 (λq=>q.at g1 ok1 (rl_bl.mpr rfl)) (λq=>?_) q⟩;exact⟨as1,ρ,S1,ok1,en.mono g1.pre (g1.ku ok),mb _ _ _ _ (λy S2 h=>h.mono g1) q⟩
theorem My{a:WE}(ma:Mono a):∀ σ H Q,lift K (Mq a) σ H Q->Nq (lift K a) σ H Q:=by
 rintro σ H Q ⟨as,ρ,S,ok,en,h⟩;refine⟨as,ρ,S,ok,en,ma _ _ _ _ (λx S1 ⟨c,e,q⟩ as1 H1 v g1 ok1 rv=>?_) h⟩;subst e;exact⟨c,rl_bl.mp rv,q.at g1 ok1 (rl_bl.mpr rfl)⟩
theorem PostT.mono{as as1:List VU}{H H1:Hp}{Q:Bool->Hp->Prop}{x:Bool}{S:Sto}(h:PostT K as H Q x S)(g:Go as H as1 H1):PostT K as1 H1 Q x S:=λas' H' g'=>h as' H' (g.trans g')
theorem Eg{a b:WT}(ma:MonoT a)(mb:MonoT b):∀ σ H Q,liftT K (CT a b) σ H Q->Q7 (liftT K a) (liftT K b) σ H Q:=by
 rintro σ H Q ⟨as,ρ,S,ok,en,h⟩;refine⟨as,ρ,S,ok,en,ma _ _ _ _ (λc S1 q as1 H1 g1 ok1=>?_) h⟩;refine g8 (λq=>?_) (λq=>q as1 H1 g1 ok1) q;exact⟨as1,ρ,S1,ok1,en.mono g1.pre (g1.ku ok),mb _ _ _ _ (λy S2 h=>h.mono g1) q⟩
theorem Hc{a b:WT}(ma:MonoT a)(mb:MonoT b):∀ σ H Q,liftT K (G8 a b) σ H Q->tOr (liftT K a) (liftT K b) σ H Q:=by
 rintro σ H Q ⟨as,ρ,S,ok,en,h⟩;refine⟨as,ρ,S,ok,en,ma _ _ _ _ (λc S1 q as1 H1 g1 ok1=>?_) h⟩;refine g8 (λq=>q as1 H1 g1 ok1) (λq=>?_) q;exact⟨as1,ρ,S1,ok1,en.mono g1.pre (g1.ku ok),mb _ _ _ _ (λy S2 h=>h.mono g1) q⟩
theorem Kt{a:WT}(ma:MonoT a):∀ σ H Q,liftT K (HS a) σ H Q->Q8 (liftT K a) σ H Q:=by
 rintro σ H Q ⟨as,ρ,S,ok,en,h⟩;exact⟨as,ρ,S,ok,en,ma _ _ _ _ (λc S1 q as1 H1 g1 ok1=>q as1 H1 g1 ok1) h⟩
theorem Mz{t:WT}{a b:WE}(mt:MonoT t)(ma:Mono a)(mb:Mono b):∀ σ H Q,lift K (Mr t a b) σ H Q->tIf (liftT K t) (lift K a) (lift K b) σ H Q:=by
 rintro σ H Q ⟨as,ρ,S,ok,en,h⟩;refine⟨as,ρ,S,ok,en,mt _ _ _ _ (λc S1 q as1 H1 g1 ok1=>?_) h⟩;refine g8 (λq=>?_) (λq=>?_) q
 ·exact⟨as1,ρ,S1,ok1,en.mono g1.pre (g1.ku ok),ma _ _ _ _ (λy S2 h=>h.mono g1) q⟩
 ·exact⟨as1,ρ,S1,ok1,en.mono g1.pre (g1.ku ok),mb _ _ _ _ (λy S2 h=>h.mono g1) q⟩
end
section
variable{X:Cx}
theorem Du{e:Expr}{t:TT}(t':TT)(h:PW X e t)(imp:∀ σ H Q,t' σ H Q->t σ H Q):PW X e t':=λwh pq s σ H Q I hw=>h wh pq s σ H Q I (imp σ H Q hw)
theorem GG{x y:Expr}{p:Pos}{a b:WE×WT}(ha:Good X x a)(hb:Good X y b):Good X (.BoolOp .And [x,y] p) (KU a.1 b.1,CT a.2 b.2):=
 have pw:PW X (.BoolOp .And [x,y] p) (liftT X.K (CT a.2 b.2)):=Du _ (JV ha.pt (MA hb.pt)) (Eg ha.mt hb.mt)
 {pe:=e7 _ (JX ha.pe (JW hb.pe)) (Hb ha.m hb.m),pt:=pw.pt,m := .and ha.m hb.m,mt := .and ha.mt hb.mt,pw:=λ_ _ _ _=>pw}
theorem GH{x y z:Expr}{zs:List Expr}{p:Pos}{a b:WE×WT}(ha:Good X x a)(hb:Good X (.BoolOp .And (y::z::zs) p) b):Good X (.BoolOp .And (x::y::z::zs) p) (KU a.1 b.1,CT a.2 b.2):=
 have pw:PW X (.BoolOp .And (x::y::z::zs) p) (liftT X.K (CT a.2 b.2)):=Du _ (JV ha.pt (hb.pw _ _ _ rfl)) (Eg ha.mt hb.mt)
 {pe:=e7 _ (JX ha.pe hb.pe) (Hb ha.m hb.m),pt:=pw.pt,m := .and ha.m hb.m,mt := .and ha.mt hb.mt,pw:=λ_ _ _ _=>pw}
theorem Ix{x y:Expr}{p:Pos}{a b:WE×WT}(ha:Good X x a)(hb:Good X y b):Good X (.BoolOp .Or [x,y] p) (wOr a.1 b.1,G8 a.2 b.2):=
 have pw:PW X (.BoolOp .Or [x,y] p) (liftT X.K (G8 a.2 b.2)):=Du _ (No ha.pt (OW hb.pt)) (Hc ha.mt hb.mt)
 {pe:=e7 _ (Nr ha.pe (JW hb.pe)) (Ks ha.m hb.m),pt:=pw.pt,m := .or ha.m hb.m,mt := .or ha.mt hb.mt,pw:=λ_ _ _ _=>pw}
theorem Iy{x y z:Expr}{zs:List Expr}{p:Pos}{a b:WE×WT}(ha:Good X x a)(hb:Good X (.BoolOp .Or (y::z::zs) p) b):Good X (.BoolOp .Or (x::y::z::zs) p) (wOr a.1 b.1,G8 a.2 b.2):=
 have pw:PW X (.BoolOp .Or (x::y::z::zs) p) (liftT X.K (G8 a.2 b.2)):=Du _ (No ha.pt (hb.pw _ _ _ rfl)) (Hc ha.mt hb.mt)
 {pe:=e7 _ (Nr ha.pe hb.pe) (Ks ha.m hb.m),pt:=pw.pt,m := .or ha.m hb.m,mt := .or ha.mt hb.mt,pw:=λ_ _ _ _=>pw}
theorem Iz{x:Expr}{p:Pos}{a:WE×WT}(ha:Good X x a):Good X (.UnaryOp .Not x p) (Mq a.1,HS a.2) where
 pe:=e7 _ (OY ha.pe) (My ha.m)
 pt:=CN _ (OX ha.pt) (Kt ha.mt)
 m := .not ha.m
 mt := .not ha.mt
 pw:=λ_ _ _ e=>by cases e
theorem J0{t x y:Expr}{p:Pos}{c a b:WE×WT}(hc:Good X t c)(ha:Good X x a)(hb:Good X y b):Good X (.IfExp t x y p) (Mr c.2 a.1 b.1,λ_ _ _=>False) where
 pe:=e7 _ (JY hc.pt ha.pe hb.pe) (Mz hc.mt ha.m hb.m)
 pt:=Ee
 m := .ifE hc.mt ha.m hb.m
 mt:=λ_ _ _ _ _ h=>h
 pw:=λ_ _ _ e=>by cases e
theorem PY{i:Nat}{x:Str}{p:Pos}{N:List Str}{sc:Ve}{T:List Str}{Δ:Nat->Sn}{k:Nat}(C:Cok T Δ X k N sc)(hi:N[i]?=some x)(hv:vis sc x=true)(h1:(x == ("__debug__":Str))=false)(h2:(x == ("__classdict__":Str))=false):PE X (.Name x p) (M7 i):=by
 have hv':Vis X.env.scope x:=by
  rw[C.hs];unfold vis at hv;simp only[Sz,beq_iff_eq]at hv;rcases hv with(hv | hv) | hv
  ·exact .inl hv
  ·exact .inr (.inl hv)
  ·exact .inr (.inr hv)
 exact OS (i:=i) (by rw[C.hN];exact hi) hv' h1 h2
theorem N0{x:SV}{k:Const}{j:Nat}{p:Pos}(h:PV x k=true):Good X (.Constant k j p) (tt1 (wC x)):=by
 refine .one ?_ .c rfl;unfold PV at h;split at h
 ·exact e7 _ OU (ER λ_ _=>rl_non.mpr rfl)
 ·rw[beq_iff_eq]at h;subst h;exact e7 _ Q6 (ER λ_ _=>rl_bl.mpr rfl)
 ·have h:=of_decide_eq_true h;subst h;exact e7 _ OT (ER λ_ _=>rl_int.mpr rfl)
 ·have h:=of_decide_eq_true h;subst h;exact e7 _ OV (ER λ_ _=>rl_str.mpr rfl)
 ·cases h
theorem CY:EQ KS:=λx S P P' i h=>by
 unfold KS at h ⊢;split at h
 ·exact i _ _ h
 ·exact h.elim
theorem J1{x:Expr}{p:Pos}{a:WE×WT}(ha:Good X x a):Good X (.UnaryOp .USub x p) (tt1 (w1 KS a.1)):=by
 refine .one (e7 _ (QN Ol ha.pe) (P6 (λas H S x v Q ok r h=>?_) CY ha.m)) (.one CY ha.m) rfl;unfold KS at h;split at h
 ·exact⟨_,rl_int.mp r,h.here ok (rl_int.mpr rfl)⟩
 ·exact h.elim
theorem BG{b:Expr}(h:m7 b=true):HD b:=λo i=>by cases b<;>first | rfl | cases h
theorem Ku{x y:Expr}{p:Pos}{a b:WE×WT}(ha:Good X x a)(hb:Good X y b)(h:m7 y=true):Good X (.Subscript x y p) (tt1 (w2 sIx a.1 b.1)):=
 .one (e7 _ (Qb (ix_list.or Ov) ha.pe hb.pe (BG h)) (A7 PJ .ix ha.m hb.m)) (.two .ix ha.m hb.m) rfl
noncomputable def R4(K:Rz)(as:List VU)(H:Hp)(Q:Option Int->Hp->Prop):Option Int->Sto->Prop:=λb S'=>∀ as' H',Go as H as' H'->Ok K as' H' S'->Q b H'
noncomputable def Eh(K:Rz)(w:WO):St->Hp->(Option Int->Hp->Prop)->Prop:=λσ H Q=>∃ as ρ S,Ok K as H S/\EnvOk K as H σ ρ/\w ρ S (R4 K as H Q)
noncomputable def MonoO(w:WO):Prop:=∀ ρ S (P P':Option Int->Sto->Prop),(∀ x S',P x S'->P' x S')->w ρ S P->w ρ S P'
theorem MonoO.no:MonoO PP:=λ_ _ _ _ i h=>i _ _ h
theorem MonoO.yes{w:WE}(m:Mono w):MonoO (KY w):=λ_ _ _ _ i h=>m _ _ _ _ (λx S1 ⟨k,e,q⟩=>⟨k,e,i _ _ q⟩) h
theorem R5:PO X none (Eh X.K PP):=λpq s σ H Q I ⟨as,ρ,S,ok,en,h⟩=>MK pq s σ H Q I (h as H (Go.refl _ _) ok)
theorem PZ{x:Expr}{a:WE×WT}(ha:Good X x a):PO X (some x) (Eh X.K (KY a.1)):=λpq s σ H Q I ⟨as,ρ,S,ok,en,h⟩=>
 ML ha.pe pq s σ H Q I ⟨as,ρ,S,ok,en,ha.m _ _ _ _ (λy S1 ⟨k,e,q⟩ as1 H1 v g1 ok1 rv=>⟨k,by subst e;exact rl_int.mp rv,q as1 H1 g1 ok1⟩) h⟩
theorem RlAll.cut{K:Rz}{as:List VU}{H:Hp}{xs:List SV}{vs:List V}(h:RlAll K as H vs xs)(lo hi:Option Int):RlAll K as H (EL vs lo hi) (CB xs lo hi):=by
 unfold EL CB;rw[h.length];exact(h.drop _).take _
theorem Ca{x:SV}{lo hi:Option Int}{S:Sto}{P P':QE}(i:∀ x S',P x S'->P' x S')(h:KZ x lo hi S P):KZ x lo hi S P':=by
 unfold KZ at h ⊢;split at h
 ·obtain⟨xs,a,b⟩:=h;exact⟨xs,a,i _ _ b⟩
 ·exact i _ _ h
 ·exact h.elim
theorem N1{K:Rz}{as:List VU}{H:Hp}{S:Sto}{Q:VK}{x:SV}{v:V}{l k:Option Int}(ok:Ok K as H S)(r:Rl K as H v x)(h:KZ x l k S (Post K as H Q)):Qf K v l k H Q\/Qa K v l k H Q\/Qo K v l k H Q:=by
 cases x with
 | loc j=>
   obtain⟨xs,h1,h2⟩:=h;obtain⟨b,vs,rfl,_,hb,rr⟩:=l8 ok r h1;exact .inl ⟨b,vs,rfl,SqL.of hb,AJ ok (rr.cut l k) h2⟩
 | tup xs=>
   obtain⟨b,vs,rfl,hb,rr⟩:=rl_tup.mp r;by_cases hw:HT.sIx vs.length 0 l=0/\HT.sIx vs.length vs.length k=vs.length
   ·refine .inr (.inr ⟨b,vs,rfl,SqT.of hb,hw,?_⟩)
    have e:CB xs l k=xs:=by
     unfold CB;rw[<-rr.length,hw.1,hw.2,rr.length];simp
    have h':Post K as H Q (.tup (CB xs l k)) S:=h;rw[e]at h';exact h'.here ok r
   ·exact .inr (.inl ⟨b,vs,rfl,SqT.of hb,hw,AK ok (rr.cut l k) h⟩)
 | _=>exact False.elim h
theorem J3{x:Expr}{rl rh:Option Expr}{p p2:Pos}{a:WE×WT}{lo hi:WO}(ha:Good X x a)(hl:PO X rl (Eh X.K lo))(hh:PO X rh (Eh X.K hi))(ml:MonoO lo)(mh:MonoO hi):Good X (.Subscript x (.Slice rl rh none p2) p) (tt1 (PR a.1 lo hi)):=by
 refine .one (e7 _ (Jl (sl_list.or (sl_tup.or MU)) ha.pe hl hh) ?_) (λρ S P P' i h=>ha.m _ _ _ _ (λx S1 h=>ml _ _ _ _ (λl S2 h=>mh _ _ _ _ (λk S3 h=>Ca i h) h) h) h) rfl;rintro σ H Q ⟨as,ρ,S,ok,en,h⟩;refine⟨as,ρ,S,ok,en,ha.m _ _ _ _ (λx S1 h as1 H1 v g1 ok1 rv=>?_) h⟩;refine⟨as1,ρ,S1,ok1,en.mono g1.pre (g1.ku ok),ml _ _ _ _ (λl S2 h as2 H2 g2 ok2=>?_) h⟩;refine⟨as2,ρ,S2,ok2,(en.mono g1.pre (g1.ku ok)).mono g2.pre (g2.ku ok1),mh _ _ _ _ (λk S3 h as3 H3 g3 ok3=>?_) h⟩;have rv3:=Rl.mono (g2.trans g3).pre ((g2.trans g3).ku ok1) x v rv;have g:=(g1.trans g2).trans g3;exact N1 ok3 rv3 (Ca (λ_ _ h=>h.mono g) h)
end
end Rf
namespace L2
open PySem PySem.Spec PyProof.Rows
theorem DK:entryFor table "dict.update.loop"=some Builtin.«dict.update.loop»:=entryFor_of_tree (by kernel_rfl)
theorem B3:plainId "dict.update.loop"=true:=by decide +kernel
theorem J4:Xc (.type "list") "keys"=pure none:=am_miss_of_fast (by kernel_rfl)
section
variable{prog:VZ}{w:Vc}{A:Vf}{E:VS->VT->Prop}{s:VT}
theorem J5{a:VU}{xs:Array VS}{Q:Option VS->VT->Prop}(hl:PlainL s.heap a xs)(hA:A.handled=none)
 (h:∀ h' tk,(∀ b ob,s.heap.get? b=some ob->h'.get? b=some ob)->Q none {s with heap:=h',toks:=tk}):VX (VY prog w) A (getAttr? (.ref a) "keys") Q E s:=by
 obtain⟨⟨c,dct,dat,sl⟩,k,hx,hc,hd,hdat⟩:=hl;simp only at hc hdat hd;subst hc hdat hd;obtain⟨hp,g,d,tk,os⟩:=s;have hT:∀ tk',(⟨hp,g,d,tk',os⟩:VT).TypeIs (.ref a) "list":=λ_=>⟨_,hx,rfl⟩
 have f1:=sub_AttributeError;have f3:=F.slot_list_getattribute.lookup;have f4:=F.slot_list_getattribute.bind (.ref a);have f5:=am_list_getattr_none;unfold getAttr? getAttrBy? getAttrBy
 repeat (any_goals (first | assumption | exact hT _ | ((with_reducible show VX _ _ (call (Value.builtin "list.__getattribute__") _ _) _ _ _);refine Vz F.slot_list_getattribute (hT _) am_entry_list_getattribute (F.args_list_getattribute_2 _ _) (meets_getattribute_miss_list a xs k sl "keys" _ J4 (by decide +kernel) (by size_fits)) ⟨hx,hA,λh' tk' e hx'=>?_⟩) | wp_step))
 obtain⟨t',u',he⟩:=hx'.there;show VX _ _ (XA _ _ _ _ _ _ _) _ _ _;unfold XA
 repeat (any_goals (first | assumption | wp_step))
 exact h _ _ hx'.keeps
end
section
variable{prog:VZ}{w:Vc}{A:Vf}{R:Result->VT->Prop}{I:VU}{fp wr:List VU}{G:Array XW->Array XW->Prop}{n:Nat}{P:Nat->VS->Prop}{St:Nat->VT->Prop}
noncomputable def TupsAt(prog:VZ)(w:Vc)(h:Heap)(n:Nat)(ta:Nat->VU)(kv:Nat->Key×VS):Prop:=∀ i,i<n->∃ key,(g6 prog w).is (kv i).1 key=true/\h.IsTuple (ta i) #[key,(kv i).2]
theorem TupsAt.keep{h h':Heap}{ta:Nat->VU}{kv:Nat->Key×VS}(t:TupsAt prog w h n ta kv)(k:∀ i o,i<n->h.get? (ta i)=some o->h'.get? (ta i)=some o):TupsAt prog w h' n ta kv:=λi hi=>by
 obtain⟨key,hk,o,ho,r⟩:=t i hi;exact⟨key,hk,o,k i o hi ho,r⟩
theorem Rq(W:WalksS prog w A.in1 I fp wr G n P St)(d:VU)(hdf:d∉fp)(ta:Nat->VU)(kv:Nat->Key×VS)(hval:∀ i v,i<n->P i v->v = .ref (ta i))(hta:∀ i,i<n->ta i∉wr/\ta i≠d)(hb:n<=VW):
 ∀(k i:Nat) (s:VT) (j:Int) (tj:Tok),i+k=n->St i s->TupsAt prog w s.heap n ta kv->s.heap.DictOf (g6 prog w) d (merged [] ((SE i).map kv))->
  (∀ s',Moved (d::wr) G s s'->s'.heap.DictOf (g6 prog w) d (merged [] ((SE n).map kv))->R (.ok (.ret .none)) s')->
  codeAny (VY prog w) A (.builtin "dict.update.loop" ⟨[.ref d,.ref I,.int j tj,.none],[]⟩) R s:=by
 have nw:d∉wr:=λz=>hdf (W.sub _ z);have up:∀ b∈wr,b∈d::wr:=λb hb=>SG _ hb;intro k
 induction k with
 | zero=>
   intro i s j tj hk hst hT hX hR;obtain rfl:i=n:=hk;refine Wo DK ?_;rw[Around.under_plainId B3 _];refine VR (m:=pyNext (.ref I)) (W.done s _ _ hst λs' hm=>?_);show VX _ _ (Builtin.Dict.addKeywords d [] >>= _) _ _ _;refine VR (VV (VV (hR s' (hm.mono up) ?_)));obtain⟨o,es,ep,ho,r⟩:=hX;exact⟨o,es,ep,hm.heap d o nw ho,r⟩
 | succ k ih=>
   intro i s j tj hk hst hT hX hR;refine Wo DK ?_;rw[Around.under_plainId B3 _];refine VR (m:=pyNext (.ref I)) (W.item i s _ _ (by omega) hst λv s1 hP st1 hm=>?_);obtain rfl:=hval i v (by omega) hP;have T1:TupsAt prog w s1.heap n ta kv:=hT.keep λi' o hi e=>hm.heap _ o (hta i' hi).1 e;obtain⟨key,hkey,o,ho,hc,m,hd⟩:=T1 i (by omega)
   have X1:s1.heap.DictOf (g6 prog w) d (merged [] ((SE i).map kv)):=by
    obtain⟨o,es,ep,ho,r⟩:=hX;exact⟨o,es,ep,hm.heap d o nw ho,r⟩
   have len:(merged [] ((SE i).map kv)).length<=VW:=by
    have:=XO [] ((SE i).map kv);rw[S7,T9]at this;simp at this;omega
   refine VR (Vl (VR (wpAny_tryCatch ?_)));unfold Builtin.Dict.pairItems;refine VR (W5 (T:="tuple") ⟨o,ho,hc⟩ ?_);rw[iP (by decide)];refine VR (Wu ho hd (VV ?_));refine Vl (wpAny_dictSet_pairs hkey X1 (λh2 X2 hsb=>?_) len)
   have X2:h2.DictOf (g6 prog w) d (merged [] ((SE (i+1)).map kv)):=by
    rw[TL,SM];unfold merged at X2 ⊢;rw[UT];exact X2
   have oth:∀ b o,b≠d->s1.heap.get? b=some o->h2.get? b=some o:=λb o hne e=>(hsb.2 b hne).trans e;refine VV ⟨X5 B3 _,ih (i+1) _ _ _ (by omega) (W.frame _ s1 _ _ st1 (UJ _) λb hbf o e=>oth b o (λz=>hdf (z▸hbf)) e) (T1.keep λi' o hi e=>oth _ o (hta i' hi).2 e) X2 λs3 m3 X3=>?_⟩;exact hR s3 (Moved.trans W.gtrans ((hm.mono up).then_heap (UJ _) λb o hb e=>oth b o (λz=>hb (by rw[z];exact SI)) e) m3) X3
end
section
variable{prog:VZ}{w:Vc}{A:Vf}{E:VS->VT->Prop}{s:VT}
theorem Pa{l:VU}{items:Array VS}{ta:Nat->VU}{kv:Nat->Key×VS}{Q:VS->VT->Prop}(hh:A.handled=none)(hl:PlainL s.heap l items)(hi:∀(i:Nat) (v:VS),items[i]?=some v->v=Value.ref (ta i))(ht:TupsAt prog w s.heap items.size ta kv)(hb:items.size<=VW)
 (h:∀(h':Heap) (tk:Nat),h'.DictOf (g6 prog w) s.heap.objs.size (merged [] ((SE items.size).map kv))->(∀ b o,s.heap.get? b=some o->h'.get? b=some o)->Q (.ref s.heap.objs.size) {s with heap:=h',toks:=tk}):
 VX (VY prog w) A (call (.type "dict") [.ref l]) Q E s:=by
 refine callType_codes (Q₁:=λobj s₁=>obj = .ref s.heap.objs.size/\s₁={s with heap:=s.heap.push {cls := .type "dict",data := .dict #[]}}) F.kt_called_dict (F.kt_typeCall_dict_1 _) F.entry_dict_init (kt_code_dict_new _ ⟨rfl,rfl⟩) ?_;rintro obj s₁ ⟨rfl,rfl⟩;have hnew:(s.heap.push {cls := .type "dict",data := .dict #[]}).DictOf (g6 prog w) s.heap.objs.size []:=Heap.DictOf.new s.heap;obtain⟨ol,nl,hol,cl,dl,dat⟩:=hl;have hol':(s.heap.push {cls := .type "dict",data := .dict #[]}).get? l=some ol:=SD _ hol;refine⟨hnew.typeIs,F.args_dict_init_2 _ _,?_⟩;unfold Builtin.«dict.__init__»;refine VR ?_;unfold Builtin.Dict.selfAndRest;refine VR (WK hnew.typeIs ?_);show VX _ _ (pure (s.heap.objs.size,[Value.ref l])) _ _ _;refine VV ?_;show VX _ _ (Builtin.Dict.updateFrom "dict.__init__" s.heap.objs.size (.ref l) [] .none) _ _ _;unfold Builtin.Dict.updateFrom;refine VR (W5 (T:="list") ⟨ol,hol',cl⟩ ?_);rw[iP (by decide)];refine VR (J5 ⟨ol,nl,hol',cl,dl,dat⟩ (by simp[hh]) λh1 tk1 keep1=>?_);simp only[Option.isNone,if_true];refine VR (W8 ?_);have lS:l<s.heap.objs.size:=SN hol;have dS:h1.get? s.heap.objs.size=some {cls := .type "dict",data := .dict #[]}:=keep1 _ _ (SW _ rfl);have lH:h1.get? l=some ol:=keep1 _ _ hol';have hl1:h1.IsList l items:=⟨ol,lH,cl,nl,dat⟩
 refine VR (WH hl1 ?_);have z1:s.heap.objs.size<h1.objs.size:=SN dS;have lI:l≠h1.objs.size:=SS (SN lH)
 have hSf:s.heap.objs.size∉[h1.objs.size,l]:=by
  intro z;rcases SU.mp z with z | z
  ·exact absurd z (SS z1)
  ·exact absurd (Sd.mp z) (VJ lS)
 have T1:TupsAt prog w h1 items.size ta kv:=ht.keep λi o _ e=>keep1 _ _ (SD _ e)
 have hta:∀ i,i<items.size->ta i∉[h1.objs.size]/\ta i≠s.heap.objs.size:=λi hi=>by
  obtain⟨_,_,o,ho,_⟩:=ht i hi;have lt:=SN ho;exact⟨λz=>absurd (Sd.mp z) (SS (Tz lt z1)),SS lt⟩
 refine VV ⟨X5 B3 _,?_⟩
 refine Rq ((Walks.list (by simp[hh]) _ l lI items).toS) s.heap.objs.size hSf ta kv (λi v _ hv=>hi i v hv) hta hb items.size 0 _ _ _ (VN _)
  ⟨⟨_,SW _ rfl,rfl,rfl⟩,hl1.push _⟩ (T1.keep λi o _ e=>SD _ e) ?_ λs' hm X'=>?_
 ·obtain⟨o,es,ep,ho,r⟩:=hnew;exact⟨o,es,ep,SD _ (keep1 _ _ ho),r⟩
 ·obtain⟨h',g',d',tk',os'⟩:=s';obtain rfl:g'=s.gens:=hm.gens;obtain rfl:d'=s.drawn:=hm.drawn;obtain rfl:os'=s.os:=hm.os;refine⟨rfl,h h' tk' X' λb o e=>hm.heap b o (λz=>?_) (SD _ (keep1 _ _ (SD _ e)))⟩;have lt:=SN e;rcases SU.mp z with z | z
  ·exact absurd z (SS lt)
  ·exact absurd (Sd.mp z) (SS (Tz lt z1))
end
section
variable{X:Cx}
theorem Hd{pq:List (VU×Obj)}{σ:St}{H:Hp}{s:VT}(I:Inv X pq σ H s):∀(ts:List (VU×Int×V)),(∀ t∈ts,H t.1=some (.tup [.int t.2.1,t.2.2]))->∃ rs:List (Key×VS),KV (ts.map λt=>((.inl t.2.1:Key),t.2.2)) rs/\∀(i:Nat) (t:VU×Int×V),ts[i]?=some t->∃ key r,rs[i]?=some r/\(g6 X.prog X.w).is r.1 key=true/\s.heap.IsTuple t.1 #[key,r.2]
 | [],_=>⟨[],.nil,λi t e=>by cases e⟩
 | t::ts,ht=>by
   obtain⟨rs,kv,h⟩:=Hd I ts λu hu=>ht u (SG _ hu);obtain⟨vs,rv,pt,_⟩:=I.tuple (.inl (.inl (ht t (SI ..))));obtain⟨u,v,rfl,ru,rv2⟩:=Ji rv;obtain⟨tk,rfl⟩:=ru;refine⟨(.inl t.2.1,v)::rs,.cons ⟨rfl,rv2⟩ kv,λi t' e=>?_⟩;cases i with
   | zero=>
     obtain rfl:t=t':=oj e;exact⟨_,_,rfl,Bz _ _ _ _,pt⟩
   | succ i=>exact h i t' e
theorem He:∀{ts:List (VU×Int×V)} {its:List VS},Vals (ts.map λt=>V.ref t.1) its->∀(i:Nat) (v:VS),its[i]?=some v->v=Value.ref ((ts.getD i (0,0,.non)).1)
 | [],its,r,i,v,e=>by cases r;cases e
 | t::ts,its,r,i,v,e=>by
   cases r with
   | cons h r=>
     cases i with
     | zero=>
       cases e;exact h
     | succ i=>exact He r i v e
theorem GI(hc:X.calm=true):CallR X (.type "dict") (λxs H Q=>∃(p:VU) (ts:List (VU×Int×V)),xs=[.ref p]/\SqL X.K H p (ts.map λt=>V.ref t.1)/\(∀ t∈ts,H t.1=some (.tup [.int t.2.1,t.2.2]))/\ts.length<=900/\∀ l,H l=none->Q (.ref l) (upd H l (.dK (BC [] (ts.map λt=>((.inl t.2.1:Key),t.2.2)))))):=by
 intro pq s σ H xs us Q I r h;obtain⟨p,ts,rfl,hq,ht,h9,q⟩:=h;obtain⟨u,rfl,rx⟩:=AZ r;cases rx;obtain⟨its,r',pl,hz⟩:=I.list hq;have hlen:=r'.length;rw[S7]at hlen;obtain⟨rs,kv,tp⟩:=Hd I ts ht;have hr:rs.length=ts.length:=by have:=KV.length kv;rw[S7]at this;exact this.symm
 have ref:∀(i:Nat) (v:VS),its[i]?=some v->v=Value.ref ((ts.getD i (0,0,.non)).1):=He r'
 have e1:(SE its.toArray.size).map (λi=>rs.getD i (.inl 0,.none))=rs:=by
  apply V6
  ·simp;omega
  ·intro i h1 h2;simp[SC h2]
 refine Pa (items:=its.toArray) (ta:=λi=>(ts.getD i (0,0,.non)).1) (kv:=λi=>rs.getD i (.inl 0,.none)) (I.ok.hd hc) pl (λi v e=>ref i v (by simpa using e)) (λi hi=>?_) (by simp only[SF];rw[Ws];omega) λh' tk X' hk=>?_
 ·simp only[SF]at hi;have hi:i<ts.length:=by omega
  obtain⟨key,r,e,k1,k2⟩:=tp i ts[i] (SC hi);refine⟨key,?_⟩;simp only[SQ,e,SC hi,UV];exact⟨k1,k2⟩
 ·rw[e1]at X';have mg:KV (BC [] (ts.map λt=>((.inl t.2.1:Key),t.2.2))) (merged [] rs):=KV.merge kv .nil
  have ln:(BC [] (ts.map λt=>((.inl t.2.1:Key),t.2.2))).length<=VW:=by
   rw[KV.length mg];have:=XO [] rs;simp at this;rw[Ws];omega
  exact⟨.ref s.heap.objs.size,_,I.laid (t':=tk) hk (SK _) (K3 ln (beq_eq_false_iff_ne.mpr (Ne.symm (SS I.big))) mg X'),rfl,q _ (I.hok.fresh (SK _))⟩
end
theorem KV.at{κ:Type}{ks:List (κ×V)}{vs:List (κ×VS)}(r:KV ks vs):∀{i:Nat} {p:κ×V},ks[i]?=some p->∃ v,vs[i]?=some (p.1,v)/\RelV p.2 v:=by
 intro i
 induction r generalizing i with
 | nil=>exact λh=>by simp at h
 | @cons a b _ _ h _ ih=>
   intro p hp;cases i with
   | zero=>cases hp;exact⟨b.2,by rw[h.1];rfl,h.2⟩
   | succ i=>exact ih hp
open PySem.AutoSeq1 (wpAny_loadPart')
open PySem.MeetsSeq PySem.MeetsSeq2 PySem.MeetsSeq3
theorem DL:∀(f m r:Nat),r<=1->m<=f+62->1<=f->minRun' f m r<=64
 | 0,_,_,_,_,h=>by omega
 | f+1,m,r,hr,hm,_=>by
   rw[minRun'_succ];split
   ·omega
   ·by_cases hf:f=0
    ·omega
    ·exact DL f (m / 2) (max r (m % 2)) (by omega) (by omega) (by omega)
noncomputable def Kv(h:Heap)(v:VS)(a:Int):Prop:=∃ p its t,v = .ref p/\h.IsList p its/\its[0]?=some (.int a t)
section
variable{prog:VZ}{w:Vc}{A:Vf}{E:VS->VT->Prop}{s:VT}
theorem Kw(l b:VU)(items items2:Array VS)(n n2:Nat)(dd dd2:Option VU)(sl sl2:Array (Option VS)){x y:Int}{t u:Tok}(i1:items[0]?=some (.int x t))(i2:items2[0]?=some (.int y u))(hne:x≠y):
 Meets (Builtin.«list.__eq__.loop» ⟨[.ref l,.ref b,rawInt 0,rawInt 0],[]⟩)
  (λA R s=>s.heap.get? l=some {cls := .type "list",dict:=dd,data := .seq items n,slots:=sl}/\s.heap.get? b=some {cls := .type "list",dict:=dd2,data := .seq items2 n2,slots:=sl2}/\
    R (.ok (.ret (.bool (decide (x<y))))) s):=by
 intro prog w A R s h;obtain⟨hp,g,d,tk,os⟩:=s;obtain⟨hl,hb,h⟩:=h
 wp_walk using wpAny_loadPart' hl,wpAny_loadPart' hb
 have hi1:items[Int.toNat 0]?=some (.int x t):=i1;have hi2:items2[Int.toNat 0]?=some (.int y u):=i2;rw[hi1,hi2];refine VR (SeqAt.EqAt.int_int x t y u _ _ _ _ ?_);rw[show(x == y)=false from beq_eq_false_iff_ne.mpr hne]
 wp_walk using wpAny_loadPart' hl,wpAny_loadPart' hb
 rw[hi1,hi2];refine VR (rcLt_int ?_)
 wp_walk
 exact h
theorem Kx(l b:VU)(items items2:Array VS)(n n2:Nat)(dd dd2:Option VU)(sl sl2:Array (Option VS)){x y:Int}{t u:Tok}(i1:items[0]?=some (.int x t))(i2:items2[0]?=some (.int y u))(hne:x≠y):
 Meets (Builtin.«list.__lt__» ⟨[.ref l,.ref b],[]⟩)
  (λA R s=>s.heap.get? l=some {cls := .type "list",dict:=dd,data := .seq items n,slots:=sl}/\s.heap.get? b=some {cls := .type "list",dict:=dd2,data := .seq items2 n2,slots:=sl2}/\
    R (.ok (.ret (.bool (decide (x<y))))) s):=by
 intro prog w A R s h;obtain⟨hp,g,d,tk,os⟩:=s;obtain⟨hl,hb,h⟩:=h;have f3:=AutoSeq1.sub_list_list
 wp_walk using wpAny_loadPart' hl,wpAny_loadPart' hb
 exact⟨X5 plain_eq_loop _,Wo entry_eq_loop (by
  rw[Around.under_plainId plain_eq_loop _];exact Kw l b items items2 n n2 dd dd2 sl sl2 i1 i2 hne prog w A R _ ⟨hl,hb,h⟩)⟩
theorem Ei{v u:VS}{a b:Int}{Q:Bool->VT->Prop}(hu:A.units<cLine)(hx:Kv s.heap v a)(hy:Kv s.heap u b)(hne:a≠b)(h:Q (decide (a<b)) s):VX (VY prog w) A (oneLt' true v u) Q E s:=by
 obtain⟨p,its,t,rfl,hl,i1⟩:=hx;obtain⟨p2,its2,t2,rfl,hl2,i2⟩:=hy;obtain⟨⟨cls,dd,data,sl⟩,ho,hc,n,hd⟩:=id hl;obtain⟨⟨cls2,dd2,data2,sl2⟩,ho2,hc2,n2,hd2⟩:=id hl2;simp only at hc hd hc2 hd2;subst hc hd hc2 hd2;rw[oneLt'_eq];simp only[if_true];refine VR (wpAny_cRoomFor hu ?_);refine VR (wpAny_callSpecialIfBound?_slot ⟨_,ho,rfl⟩ F.slot_list_lt (Vz F.slot_list_lt ⟨_,ho,rfl⟩ F.entry_list_lt (F.args_list_lt_2 _ _) (Kx p p2 its its2 n n2 dd dd2 sl sl2 i1 i2 hne) ⟨ho,ho2,?_⟩));exact Vj h
theorem GJ{st:SortSt}{n:Nat}{Q:Unit->SortSt->Prop}(hn:(arrOf st).size=n)(h2:2<=n)(hp:XN st=#[])(hlt:∀ x,1<=x->x<n->∀ Q':Option Bool->SortSt->Prop,Q' (some false) st->wpS (VY prog w) A E s (ltAt' x (x - 1)) Q' st)
 (h:Q () (WM st #[(0,n,0)])):wpS (VY prog w) A E s sortRuns' Q st:=by
 rw[sortRuns'_eq];refine W3 (wpS_get ?_);dsimp only
 obtain⟨mr,hmr,hmn⟩:∃ mr,minRun' n n 0=mr/\mr<=n:=by
  refine⟨_,rfl,?_⟩;by_cases h64:n<64
  ·obtain⟨f,hf⟩:∃ f,n=f+1:=⟨n - 1,by omega⟩
   have:minRun' (f+1) n 0=n:=by rw[minRun'_succ,iP h64];rfl
   rw[<-hf]at this;omega
  ·have:=DL n n 0 (by omega) (by omega) (by omega);omega
 simp only[hn,hmr]
 refine W3 (wpS_mono (XG
  (I:=λx c st'=>(x=0/\c=(none,0)/\st'=st)\/(1<=x/\c=(none,n)/\st'=WM st #[(0,n,0)]))
  (Q:=λc st'=>c=(none,n)/\st'=WM st #[(0,n,0)]) ?step ?fin (.inl ⟨rfl,rfl,rfl⟩)) ?post)
 case fin=>
  rintro c st' (⟨hx,_,_⟩ | ⟨_,hc,hD⟩)
  ·omega
  ·exact⟨hc,hD⟩
 case step=>
  rintro x c st' _ hx (⟨rfl,rfl,rfl⟩ | ⟨hx1,rfl,rfl⟩)
  ·dsimp only;rw[iG (by omega)];simp only[VO,VN];rw[countRun0_eq];refine W3 (W3 (Fu (by omega) hlt ?_));dsimp only;rw[iP (by simp)];refine WQ ?_;dsimp only;rw[iG (by omega)];refine W3 (wpS_get ?_);have hb:(XN st').back?=none:=by rw[hp];rfl
   rw[hb];dsimp only;refine W3 (wpS_modify (WQ (.inr ⟨by omega,rfl,?_⟩)));show WM st' ((XN st').push (0,n,0))=_;rw[hp];rfl
  ·dsimp only;rw[iP (SK _)];exact WQ ⟨rfl,rfl⟩
 case post=>
  rintro c st' ⟨rfl,rfl⟩;dsimp only;refine W3 (wpS_mono (XG (I:=λ_ c st''=>st''=WM st #[(0,n,0)]/\c=(none,())) (Q:=λc st''=>st''=WM st #[(0,n,0)]/\c=(none,())) ?_ (λ_ _ hh=>hh) ⟨rfl,rfl⟩) ?_)
  ·rintro x c st'' _ _ ⟨rfl,rfl⟩;refine W3 (wpS_get ?_);rw[iP (by show(#[(0,n,0)]:Array (Nat×Nat×Nat)).size<=1;exact SK 1)];exact WQ ⟨rfl,rfl⟩
  ·rintro c st'' ⟨rfl,rfl⟩;exact WQ h
theorem Dv{a:VU}{vs:List VS}{n:Nat}{P:Fin->VT->Prop}(hu:A.units<cLine)(ho:s.heap.get? a=some (seqObj "list" vs.toArray n))(hz:vs.length<=VW)(f:Nat->Int)
 (hp:∀ i v,vs[i]?=some v->v ≠ .ref a/\Kv s.heap v (f i)) (hf:∀ i j,i<j->j<vs.length->f i<f j)
 (h:P (.done (.ret .none)) {s with heap:=sortedHeap s.heap a vs vs.toArray}):
 VX (VY prog w) A (Builtin.«list.sort» ⟨[.ref a],[]⟩) P E s:=by
 rw[list_sort_plain];have ha:a<s.heap.objs.size:=SN ho;refine VR (listItems_at ho rfl ?_);refine VR (X6 ho rfl ?_);obtain⟨e1,ho1⟩:∃ e1,(s.heap.update a (Obj.mapSeq λ_=>#[])).get? a=some (seqObj "list" #[] e1):=⟨_,get?_update_seq ho (λ_=>#[])⟩
 refine VR (XT ho1 rfl ?_);refine VR (wpAny_newTuple ?_);refine VR (wpAny_newList ?_);refine Vl ?_
 have hk:∀ p o,p≠a->s.heap.get? p=some o->(((s.heap.update a (Obj.mapSeq λ_=>#[])).push (seqObj "tuple" vs.toArray 0)).push (seqObj "list" #[] 0)).get? p=some o:=by
  intro p o hpa e;exact SD _ (SD _ ((Tx _ _ (Ne.symm hpa)).trans e))
 have ho6:(((s.heap.update a (Obj.mapSeq λ_=>#[])).push (seqObj "tuple" vs.toArray 0)).push (seqObj "list" #[] 0)).get? a=some (seqObj "list" #[] e1):=
  SD _ (SD _ ho1)
 show VX (VY prog w) A _ P E {s with heap:=((s.heap.update a (Obj.mapSeq λ_=>#[])).push (seqObj "tuple" vs.toArray 0)).push (seqObj "list" #[] 0)};dsimp only;have hsz:vs.toArray.size=vs.length:=by simp
 have hzip:(vs.toArray.zip vs.toArray).map (·.2)=vs.toArray:=by
  apply Array.ext';simp[List.map_snd_zip]
 have hp6:∀ i v,vs[i]?=some v->Kv (((s.heap.update a (Obj.mapSeq λ_=>#[])).push (seqObj "tuple" vs.toArray 0)).push (seqObj "list" #[] 0)) v (f i):=by
  intro i v hv;obtain⟨na,p,its,t,rfl,⟨o,ho',hc',n',hd'⟩,hi⟩:=hp i v hv;exact⟨p,its,t,rfl,⟨o,hk p o (λz=>na (by rw[z])) ho',hc',n',hd'⟩,hi⟩
 by_cases h2:vs.toArray.size<2
 ·rw[iP h2,iP h2];refine VR (VV ?_);rw[StateT.run_pure];refine VR (VV ?_);dsimp only;refine VR (XT ho6 rfl ?_);refine VR (X6 ho6 rfl ?_ (hsz2:=by rw[hzip,hsz];exact V2 hz));simp only[bne_self_eq_false,To,if_false];refine VV ?_;rw[hzip];exact h
 ·rw[iG h2,iG h2]
  obtain⟨v₁,rest,e0⟩:∃ v₁ rest,vs=v₁::rest:=by
   match vs,hsz,h2 with
   | [],_,h2=>simp at h2
   | v₁::rest,_,_=>exact⟨v₁,rest,rfl⟩
  refine VR ?_
  have hkk:∀(Q:XH->VT->Prop),Q XI {s with heap:=((s.heap.update a (Obj.mapSeq λ_=>#[])).push (seqObj "tuple" vs.toArray 0)).push (seqObj "list" #[] 0)}->VX (VY prog w) A (keyKind' vs.toArray) Q E {s with heap:=((s.heap.update a (Obj.mapSeq λ_=>#[])).push (seqObj "tuple" vs.toArray 0)).push (seqObj "list" #[] 0)}:=by
   intro Q hQ;subst e0;refine Fw (λu hu=>?_) hQ;obtain⟨i,hi⟩:=TB hu;obtain⟨p,its,t,rfl,⟨o,ho',hc',_⟩,_⟩:=hp6 i u hi;exact⟨o,ho',hc'⟩
  refine hkk _ ?_
  refine VR (Vm (GJ (st:=SortSt.mk' XI (vs.toArray.zip vs.toArray) #[] 7 none) (n:=vs.length)
   (Q:=λ_ st'=>st'=WM (SortSt.mk' XI (vs.toArray.zip vs.toArray) #[] 7 none) #[(0,vs.length,0)]) (by show(vs.toArray.zip vs.toArray).size=_;simp) (by omega) rfl (λx h1 hx Q' hQ'=>?_) rfl) ?_ λ_ _ e=>e)
  ·have gx:vs[x]?=some vs[x]:=by simp[hx]
   have gy:vs[x - 1]?=some vs[x - 1]:=by simp
   have p1:=hp6 x _ gx;have p2:=hp6 (x - 1) _ gy;have hlt:=hf (x - 1) x (by omega) hx;rw[ltAt'_eq];refine W3 (wpS_get ?_);show wpS _ _ _ _ (do let x1 <- elem' (vs.toArray.zip vs.toArray) x;let y1 <- elem' (vs.toArray.zip vs.toArray) (x - 1);lt' x1 y1) Q' _;have z1:(vs.toArray.zip vs.toArray)[x]?=some (vs[x],vs[x]):=by simp[UP,hx]
   have hx':x - 1<vs.length:=by omega
   have z2:(vs.toArray.zip vs.toArray)[x - 1]?=some (vs[x - 1],vs[x - 1]):=by simp[UP,hx']
   rw[elem'_eq,elem'_eq,z1,z2];refine W3 (WQ (W3 (WQ ?_)));rw[lt'_eq];refine W3 (wpS_get ?_)
   refine W3 (wpS_lift (X7 (by
    show VX _ _ (keyLt' XI vs[x] vs[x - 1]) _ _ _;rw[keyLt'_oneType];refine Ei hu p1 p2 (by omega) ⟨rfl,?_⟩;rw[show decide (f x<f (x - 1))=false from decide_eq_false (by omega)];exact WQ hQ')))
  ·rintro⟨⟨⟩,st'⟩ s' ⟨rfl,rfl⟩;dsimp only;refine VR (XT ho6 rfl ?_);refine VR (X6 ho6 rfl ?_ (hsz2:=by show((vs.toArray.zip vs.toArray).map (·.2)).size<=_;rw[hzip,hsz];exact V2 hz));simp only[bne_self_eq_false,To,if_false];refine VV ?_;show P _ {s with heap:=sortedHeap s.heap a vs ((vs.toArray.zip vs.toArray).map (·.2))};rw[hzip];exact h
theorem J6{l:VU}{vs:List VS}{Q:VS->VT->Prop}(hu:A.units+2<cLine)(hl:s.heap.IsList l vs.toArray)(hz:vs.length<=VW)(f:Nat->Int)
 (hp:∀ i v,vs[i]?=some v->Kv s.heap v (f i)) (hf:∀ i j,i<j->j<vs.length->f i<f j)
 (h:Q (.ref (s.heap.objs.size+1)) {s with heap:=sortedAll s.heap vs vs.toArray}):
 VX (VY prog w) A (call (.builtin "sorted") [.ref l]) Q E s:=by
 refine Calls.call_function_entry kind_sorted plain_sorted entry_sorted (args_sorted1 _) ?_;unfold Builtin.«sorted»;refine VR (m:=checkCount "sorted" 1 1 _) (VV ?_);refine VR (collect_list hl ?_);refine VR (wpAny_newList ?_)
 have hsz:((s.heap.push (seqObj "list" #[] 0)).update s.heap.objs.size (Obj.mapSeq (·++vs.toArray))).objs.size=s.heap.objs.size+1:=by
  rw[Heap.size_update,size_push']
 have hoL:(((s.heap.push (seqObj "list" #[] 0)).update s.heap.objs.size (Obj.mapSeq (·++vs.toArray))).push (seqObj "list" vs.toArray 0)).get? (s.heap.objs.size+1)=some (seqObj "list" vs.toArray 0):=by
  rw[<-hsz];exact SW _ rfl
 show VX _ _ _ _ _ {s with heap:=((s.heap.push (seqObj "list" #[] 0)).update s.heap.objs.size (Obj.mapSeq (·++vs.toArray))).push (seqObj "list" vs.toArray 0)};rw[hsz]
 have hk:∀ p o,s.heap.get? p=some o->(((s.heap.push (seqObj "list" #[] 0)).update s.heap.objs.size (Obj.mapSeq (·++vs.toArray))).push (seqObj "list" vs.toArray 0)).get? p=some o:=λp o e=>
  SD _ ((Tx _ _ (Ne.symm (SS (SN e)))).trans (SD _ e))
 refine VR (Vl (Vp slot_list_sort ⟨_,hoL,rfl⟩ entry_list_sort (Dv (by show A.units+1+1<cLine;omega) hoL hz f (λi v hv=>?_) hf ⟨_,rfl,?_⟩) (args_list_sort _)))
 ·obtain⟨p,its,t,rfl,⟨o,ho',hc',n',hd'⟩,hi⟩:=hp i v hv;exact⟨λz=>SS (Ux (SN ho')) (by injection z),p,its,t,rfl,⟨o,hk p o ho',hc',n',hd'⟩,hi⟩
 ·exact VV ⟨_,rfl,h⟩
end
section
variable{X:Cx}
theorem D1(hu:X.A.units+2<cLine):CallR X (.builtin "sorted") (λxs H Q=>∃(p:VU) (ps:List VU) (f:Nat->Int),xs=[.ref p]/\SqL X.K H p (ps.map V.ref)/\(∀(i:Nat) q,ps[i]?=some q->∃ g,H q=some (.lst (.int (f i)::g)))/\(∀ i j,i<j->j<ps.length->f i<f j)/\
 ∀ l,H l=none->Q (.ref l) (upd H l (.lst (ps.map V.ref)))):=by
 intro pq s σ H xs us Q I r h;obtain⟨p,ps,f,rfl,hq,hps,hf,q⟩:=h;obtain⟨u,rfl,rx⟩:=AZ r;cases rx;obtain⟨its,r',pl,hz⟩:=I.list hq;have ei:=w4 r';subst ei;refine J6 hu pl.isList (by simpa using hz) f (λi v hv=>?_) (λi j hij hj=>hf i j hij (by simpa using hj)) ?_
 ·rw[SL]at hv;obtain⟨p',hp',rfl⟩:=Sx.mp hv;obtain⟨g,hn⟩:=hps i p' hp';obtain⟨i2,r2,l2,_⟩:=I.list (SqL.of hn);cases r2 with
  | cons r1 r2=>
    obtain⟨t1,rfl⟩:=r1;exact⟨p',_,t1,rfl,l2.isList,by simp⟩
 ·obtain⟨e,he⟩:=sortedAll_at s.heap (ps.map Value.ref) (ps.map Value.ref).toArray;exact⟨.ref (s.heap.objs.size+1),_,I.laid (t':=s.toks) (λb o h=>sortedAll_old h) (UJ _) (show ObjOk X.prog X.w _ _ _ (.lst (ps.map V.ref)) from ⟨hz,ps.map Value.ref,e,r',he⟩),rfl,q _ (I.hok.fresh (UJ _))⟩
noncomputable def Hg(K:Rz)(ng:Bool):V->V->Hp->VK->Prop:=λx y H Q=>∃(a b:VU) (ts us:List VU) (f:Nat->List Int),x = .ref a/\y = .ref b/\SqL K H a (ts.map V.ref)/\SqL K H b (us.map V.ref)/\ts.length=us.length/\
 (∀(i:Nat) t,ts[i]?=some t->H t=some (.lst ((f i).map V.int)))/\(∀(i:Nat) t,us[i]?=some t->H t=some (.lst ((f i).map V.int)))/\Q (.bl (!ng)) H
theorem Hh{pq:List (VU×Obj)}{σ:St}{H:Hp}{s:VT}{ts us:List VU}{f:Nat->List Int}{its1 its2:List VS}(hu:X.A.units+1<cLine)(I:Inv X pq σ H s)(f1:∀(i:Nat) t,ts[i]?=some t->H t=some (.lst ((f i).map V.int)))(f2:∀(i:Nat) t,us[i]?=some t->H t=some (.lst ((f i).map V.int)))
 (r1:Vals (ts.map V.ref) its1) (r2:Vals (us.map V.ref) its2) (j:Nat) (h1:j<its1.toArray.size) (h2:j<its2.toArray.size):SeqAt.EqAt X.A.in1 s its1.toArray[j] its2.toArray[j] true:=by
 have e1:=w4 r1;have e2:=w4 r2;subst e1 e2;simp only[SF,S7]at h1 h2;simp only[List.getElem_toArray,List.getElem_map];by_cases hne:ts[j]=us[j]
 ·rw[hne];exact SeqAt.EqAt.same _
 ·obtain⟨i1,q1,l1,_⟩:=I.list (SqL.of (f1 j _ (show ts[j]?=some ts[j] by simp)));obtain⟨i2,q2,l2,_⟩:=I.list (SqL.of (f2 j _ (show us[j]?=some us[j] by simp)));have n1:=q1.length;have n2:=q2.length;refine SeqAt.EqAt.of_refs hne ?_;have fl:((f j).map V.int).all n0=true:=by simp[n0]
  have:=SeqAt.RcAt.lists (A:=X.A.in1) (s:=s) (e:=λk=>eqV (((f j).map V.int).getD k .non) (((f j).map V.int).getD k .non)) l1.isList l2.isList (by simp;omega) (by show X.A.units+1<cLine;exact hu) (BB q1 q2 (.inl ⟨fl,fl⟩))
  have e2:((SE i1.toArray.size).all λk=>eqV (((f j).map V.int).getD k .non) (((f j).map V.int).getD k .non))=true:=by
   rw[SZ];intro k hk;have hk':k<(f j).length:=by have:=SX.mp hk;simp at this;simp at n1;omega
   have g:((f j).map V.int).getD k .non=V.int (f j)[k]:=by simp[TY,hk']
   rw[g];simp[eqV]
  rw[e2]at this;exact this
theorem N3(hu:X.A.units+1<cLine):OpR X (Vd .Eq) (Hg X.K false):=by
 intro pq s σ H x y v u Q I rx ry h;obtain⟨a,b,ts,us,f,rfl,rfl,h1,h2,hl,f1,f2,q⟩:=h;cases rx;cases ry;obtain⟨its1,r1,p1,_⟩:=I.list h1;obtain⟨its2,r2,p2,_⟩:=I.list h2;have m1:=r1.length;have m2:=r2.length;rw[S7]at m1 m2;refine SeqAt.eq_listAt (e:=λ_=>true) p1.isList p2.isList (by simp;omega) (by omega) (Hh hu I f1 f2 r1 r2) ⟨.bl _,H,I,rfl,?_⟩;rw[show((SE its1.toArray.size).all λ_=>true)=true by simp];exact q
theorem N4(hu:X.A.units+1<cLine):OpR X (Vd .NotEq) (Hg X.K true):=by
 intro pq s σ H x y v u Q I rx ry h;obtain⟨a,b,ts,us,f,rfl,rfl,h1,h2,hl,f1,f2,q⟩:=h;cases rx;cases ry;obtain⟨its1,r1,p1,_⟩:=I.list h1;obtain⟨its2,r2,p2,_⟩:=I.list h2;have m1:=r1.length;have m2:=r2.length;rw[S7]at m1 m2;refine(SeqAt.RcNeAt.lists (e:=λ_=>true) p1.isList p2.isList (by simp;omega) (by omega) (Hh hu I f1 f2 r1 r2)) _ _ _ _ ⟨.bl _,H,I,rfl,?_⟩;rw[show((SE its1.toArray.size).all λ_=>true)=true by simp];exact q
end
section
variable{prog:VZ}{w:Vc}{A:Vf}{E:VS->VT->Prop}{s:VT}{it d:VU}{i n ep:Nat}{es:Array Ww}{od:Obj}
theorem Ky{Q:VS->VT->Prop}(hd:(d == Vo)=false)(ho:s.heap.get? d=some od)(hx:od.ExactDict)(hdat:od.data = .dict es ep)
 (hQ:Q (.ref s.heap.objs.size) {s with heap:=s.heap.push {cls := .type "dict_keyiterator",data := .fields #[.ref d,.int 0 0,.int es.size 0,.int ep 0]}}):VX (VY prog w) A (pyIter (.ref d)) Q E s:=by
 have hT:s.TypeIs (.ref d) "dict":=⟨od,ho,hx.1⟩
 refine wpAny_pyIter_slot hT F.slot_dict_iter (Vp F.slot_dict_iter hT F.entry_dict_iter ?_ (F.args_dict_iter_1 _));unfold Builtin.«dict.__iter__»;refine VR ?_;unfold Builtin.Dict.dictSlotNone;refine VR (WK hT (show VX _ _ (pure (Value.ref d)) _ _ s from VV ?_));show VX _ _ (Builtin.Dict.showsAll d >>= _) _ _ s;unfold Builtin.Dict.showsAll;rw[iG (by rw[hd];exact SH)];refine VR (VV (VR (WJ ho hdat (VR (Wp ho hdat ?_)))));exact VR (Vh (VV ⟨_,rfl,"dict_keyiterator",_,⟨_,SW _ rfl,rfl⟩,F.slot_dict_keyiterator_next.lookup,by simpa[rawInt] using hQ⟩))
theorem Kz{Q:Option VS->VT->Prop}(hit:s.heap.IsKeyIter it d i n ep)(hod:s.heap.get? d=some od)(hdd:od.data = .dict es ep)(hsz:es.size=n)(hlt:i<es.size)
 (hQ:∀ h',h'.IsKeyIter it d (i+1) n ep->TM it s.heap h'->Q (some es[i].key) {s with heap:=h'}):VX (VY prog w) A (pyNext (.ref it)) Q E s:=by
 obtain⟨o,ho,hc,hd⟩:=id hit;unfold pyNext;refine VR (X7 (Vn (name:=Str.ofString "__next__") hit.typeIs F.slot_dict_keyiterator_next (Vp F.slot_dict_keyiterator_next hit.typeIs F.entry_dict_keyiterator_next ?_ (F.args_dict_keyiterator_next_1 _))));refine VR (VV (VR (VR ?_)))
 first | refine VR (Vs hit.typeIs (VV ?_)) | refine VR (W1 hit.typeIs (VV ?_))
 refine VR (Xg ho hd ?_);have hown:Builtin.Dict_items.ownsTuple "dict_keyiterator"=false:=by decide
 simp only[hown,To,if_false];show VX _ _ (if (Value.ref d == Value.none)=true then _ else _) _ _ s;rw[iG (show ¬ ((Value.ref d == Value.none)=true) from SH)];refine VR (VV (VR (WJ hod hdd ?_)));rw[iG (by rw[hsz];simp)];refine VR (VV (VR (Wp hod hdd ?_)));rw[iG (by simp)];refine VV ?_;simp only[show ¬ ((i:Int)<0) from by omega,if_false,U4,Array.getElem?_eq_getElem hlt];refine VR ?_
 first | refine VR (Vs hit.typeIs (VV ?_)) | refine VR (W1 hit.typeIs (VV ?_))
 refine VR (Wr hit.typeIs ?_);show VX _ _ (setField (.ref it) 1 (rawInt ((i:Int)+1)) >>= _) _ _ s;refine VR (WV ho hd (by simp) ?_)
 have hit':(s.heap.update it (Obj.mapFields (·.setIfInBounds 1 (rawInt ((i:Int)+1))))).IsKeyIter it d (i+1) n ep:=
  ⟨_,U3 _ ho (Obj.isFreed_of_fields (Obj.data_mapFields hd _)),(Obj.cls_mapFields ..).trans hc,by rw[Obj.data_mapFields hd];simp[rawInt]⟩
 refine VR (Vl (VR (Wr (s:={s with heap:=s.heap.update it (Obj.mapFields (·.setIfInBounds 1 (rawInt ((i:Int)+1))))}) hit'.typeIs ?_)));show VX _ _ (pure es[i].key) _ _ _;exact VV (VV ⟨_,rfl,VV (hQ _ hit' (TM.update ..))⟩)
theorem N5{Q:Option VS->VT->Prop}(hh:A.handled=none)(hit:s.heap.IsKeyIter it d i n ep)(hod:s.heap.get? d=some od)(hdd:od.data = .dict es ep)(hsz:es.size=n)(hge:es.size<=i)
 (hQ:∀ h',VQ it s.heap h'->Q none {s with heap:=h'}):VX (VY prog w) A (pyNext (.ref it)) Q E s:=by
 obtain⟨o,ho,hc,hd⟩:=id hit;unfold pyNext;refine VR (X7 (Vn (name:=Str.ofString "__next__") hit.typeIs F.slot_dict_keyiterator_next (Vp F.slot_dict_keyiterator_next hit.typeIs F.entry_dict_keyiterator_next ?_ (F.args_dict_keyiterator_next_1 _))));refine VR (VV (VR (VR ?_)))
 first | refine VR (Vs hit.typeIs (VV ?_)) | refine VR (W1 hit.typeIs (VV ?_))
 refine VR (Xg ho hd ?_);have hown:Builtin.Dict_items.ownsTuple "dict_keyiterator"=false:=by decide
 simp only[hown,To,if_false];show VX _ _ (if (Value.ref d == Value.none)=true then _ else _) _ _ s;rw[iG (show ¬ ((Value.ref d == Value.none)=true) from SH)];refine VR (VV (VR (WJ hod hdd ?_)));rw[iG (by rw[hsz];simp)];refine VR (VV (VR (Wp hod hdd ?_)));rw[iG (by simp)];refine VV ?_;simp only[show ¬ ((i:Int)<0) from by omega,if_false,U4,Array.getElem?_eq_none hge];refine VR ?_
 first | refine VR (Vs hit.typeIs (VV ?_)) | refine VR (W1 hit.typeIs (VV ?_))
 show VX _ _ (setField (.ref it) 0 .none >>= _) _ _ s;refine VR (WV ho hd (by simp) ?_);show VX _ _ (newExc (.type "StopIteration") [] >>= _) _ _ _;refine VR ?_;simp only[newExc,newTuple];refine VR (Vh ?_ (by size_fits));refine VR (m:=WW _ _) (wpAny_of_eq (a:=Value.none) (by first | rfl | (simp only[WW];rfl)) ?_);refine Vh ?_ (by size_fits);simp only[raiseNew];refine VR (wpAny_handled ?_);rw[show A.in1.handled=none from hh];refine VR (VV (wpAny_throw ?_));refine VR (wpAny_isInstance (T:="StopIteration") (b:=true) ⟨_,SW _ rfl,rfl⟩ isSubtype_stop ?_);exact VV (hQ _ (((TM.update ..).extBut.push _).push _))
end
section
variable{X:Cx}{pq:List (VU×Obj)}{σ:St}{H:Hp}{s:VT}{a:VU}
theorem Inv.freezeT{ks:List (List Key×V)}{o:Obj}(I:Inv X pq σ H s)(hu:H a=some (.dT ks))(ho:s.heap.get? a=some o):Inv X pq σ (upd H a (.frz o (.dT ks))) s:=
 I.retag hu nofun nofun nofun (λ_ _ z=>by cases z) ⟨ho,by
  obtain⟨z,y,xs,r,q⟩:=(show ObjOk X.prog X.w H s.heap a (.dT ks) from I.hok a _ hu)
  exact⟨z,y,xs,KT.keeps r λb ys e=>by rw[a8 (Gn e hu (λz=>nomatch z))];exact e,q⟩⟩
end
noncomputable def Itu(d:VU)(o:Obj)(ks:List (List Key×V)):It:=⟨λi H=>i<ks.length/\H d=some (.frz o (.dT ks)),λi H x H'=>H'=H/\∃ p b,ks[i]?=some p/\x = .ref b/\H b=some (.tup (p.1.map kV)),λi H=>ks.length<=i/\H d=some (.frz o (.dT ks))⟩
theorem KT.at{H:Hp}:∀{kvs:List (List Key×V)} {xs:List (List Key×VU×VS)},KT H kvs xs->∀{i:Nat} {p:List Key×V},kvs[i]?=some p->∃ q,xs[i]?=some q/\H q.2.1=some (.tup (p.1.map kV))
 | _,_,.nil,_,_,h=>by simp at h
 | _,_,.cons a t,0,p,h=>by simp at h;subst h;exact⟨_,rfl,a.2.1⟩
 | _,_,.cons a t,i+1,p,h=>by
   obtain⟨q,e,z⟩:=KT.at t (i:=i) (p:=p) (by simpa using h);exact⟨q,by simpa using e,z⟩
theorem Hi{P:VZ}{w:Vc}{H:Hp}{h:Heap}{d:VU}{o:Obj}{ks:List (List Key×V)}{es0:Array Ww}{ep:Nat}(hd:o.data = .dict es0 ep)(ok:HOk P w H h)(e:H d=some (.frz o (.dT ks))):h.get? d=some o/\es0.size=ks.length/\∀(i:Nat) p,ks[i]?=some p->∃ b u,es0[i]?=some u/\u.key = .ref b/\H b=some (.tup (p.1.map kV)):=by
 obtain⟨ho,_,_,xs,r,o',es,ep',ho',ex,dat,keys,nd⟩:=(show ObjOk P w H h d (.frz o (.dT ks)) from ok d _ e)
 rw[ho]at ho';cases ho';rw[hd]at dat;cases dat;refine⟨ho,by rw[Wn keys];exact(Paired.length r).symm,λi p hp=>?_⟩;obtain⟨q,hq,z⟩:=KT.at r hp;exact⟨q.2.1,_,by rw[entry_at keys i,hq];rfl,rfl,z⟩
theorem N6{P:VZ}{w:Vc}{K:Rz}{tg:Expr}(it d:VU)(o:Obj)(ks:List (List Key×V)){es0:Array Ww}{ep:Nat}(hd:o.data = .dict es0 ep):Turn P w K tg (Itu d o ks) [it] it (λi h=>h.IsKeyIter it d i ks.length ep) where
 mem:=by simp
 obj:=λi h st b hb=>by
  have e:b=it:=by simpa using hb
  subst e;obtain⟨o,ho,_,hd⟩:=st;exact⟨o,ho,λv z=>by rw[hd]at z;cases z⟩
 keep:=λi h h' st k=>st.at λo e=>k it (by simp) o e
 item:=by
  intro X hP hw hK hc i pq s σ H E I hf st hg;subst hP hw hK;obtain⟨f0,f1,f2,f3,f4,f5⟩:=hf it (by simp);obtain⟨ho,hl,ha⟩:=Hi hd I.hok hg.2;obtain⟨b,u,hu,hk,hb⟩:=ha i _ (SC hg.1);obtain⟨hi,eu⟩:=Array.getElem?_eq_some_iff.mp hu;refine Kz st ho hd hl hi λh' hit' hs'=>?_;have I1:Inv X pq σ H {s with heap:=h'}:=I.turned (t':=s.toks) (λb o hb e=>hs'.extBut b o hb e) f0 f1 f3 f4 f5;obtain⟨oi,hoi,hci,hdi⟩:=id hit';refine⟨_,rfl,Gp (s:={s with heap:=h'}) (n:="dict_keyiterator") hoi hci hdi (by decide) ⟨.ref b,H,I1,?_,⟨rfl,ks[i]'hg.1,b,SC hg.1,rfl,hb⟩,hit',λb hb=>(hf b hb).1⟩⟩;rw[eu];exact hk
 done:=by
   intro X hP hw hK hc i pq s σ H E I hf st hg;subst hP hw hK;obtain⟨f0,f1,f2,f3,f4,f5⟩:=hf it (by simp);obtain⟨ho,hl,ha⟩:=Hi hd I.hok hg.2;exact N5 (I.ok.hd hc) st ho hd hl (by rw[hl];exact hg.1) λh' he'=>⟨rfl,I.turned (t':=s.toks) (λb o hb e=>he' b o hb e) f0 f1 f3 f4 f5⟩
 self:=λ_ _ _ _ _ st h=>wpAny_pyIter_keyiter st h
section
variable{X:Cx}{tg:Expr}
noncomputable def iDt(td:TE):TI:=λσ H R=>td σ H λx H1=>∃ a ks,x = .ref a/\H1 a=some (.dT ks)/\∀ o,R (Itu a o ks) (upd H1 a (.frz o (.dT ks)))
theorem R6{l:Expr}{td:TE}(hl:PE X l td):PI X tg l (iDt td):=by
 intro pq s σ H R I h;refine thn (hl pq s σ H _ I h) λv s1 ⟨x,H1,I1,r1,q1⟩=>?_;obtain⟨a,ks,e,hq,q⟩:=q1;subst e;cases r1;obtain⟨_,_,_,_,o,_,_,ho,_⟩:=(show ObjOk X.prog X.w H1 s1.heap a (.dT ks) from I1.hok a _ hq)
 have I2:=I1.freezeT hq ho;have e2:upd H1 a (.frz o (.dT ks)) a=some (.frz o (.dT ks)):=c7;obtain⟨_,len,nsys,xs,r,o',es,ep,ho',ex,dat,keys,nd⟩:=(show ObjOk X.prog X.w _ s1.heap a (.frz o (.dT ks)) from I2.hok a _ e2)
 rw[ho]at ho';cases ho';have hsz:es.size=ks.length:=by rw[Wn keys];exact(Paired.length r).symm
 refine Ky nsys ho ex dat ?_;refine⟨s1.heap.objs.size,[s1.heap.objs.size],_,_,_,rfl,I2.kept (t':=s1.toks) λb o e=>SD _ e,N6 s1.heap.objs.size a o ks dat,⟨_,SW _ rfl,rfl,by rw[hsz];rfl⟩,λb hb=>?_,q o⟩;have e:b=s1.heap.objs.size:=by simpa using hb
 subst e;exact I2.fpOk (SK _) (I2.hok.fresh (SK _))
end
end L2
namespace Rf
open PySem L2
structure GoodA(X:Cx)(rs:List Expr)(w:WA):Prop where
 pa:PA X rs (liftA X.K w)
 m:MonoA w
section
variable{X:Cx}
theorem J7:GoodA X [] DH:=⟨MV,.nil⟩
theorem GK{x:Expr}{xs:List Expr}{a:WE×WT}{b:WA}(ha:Good X x a)(hb:GoodA X xs b)(hs:c3 x=true):GoodA X (x::xs) (CO a.1 b):=⟨KA ha.m hb.m ha.pe hb.pa (e8 hs),.cons ha.m hb.m⟩
theorem J8{rs:List Expr}{j:Nat}{p:Pos}{w:WA}(h:GoodA X rs w):Good X (.Tuple rs j p) (tt1 (wn MX w)) := .one (e7 _ (Oq h.pa) (MZ h.m)) (.n .tup h.m) rfl
theorem J9{rs:List Expr}{p:Pos}{w:WA}(h:GoodA X rs w):Good X (.List rs p) (tt1 (wn MY w)) := .one (e7 _ (Os h.pa) (Ma h.m)) (.n .lst h.m) rfl
theorem L0{K:Rz}{s:Sn}{w:WA}(ms:MonoN s)(m:MonoA w):∀ σ H Q,lift K (wn s w) σ H Q->Nu (spS K s) [] E0 (liftA K w) σ H Q:=by
 rintro σ H Q ⟨as,ρ,S,ok,en,h⟩;refine⟨as,ρ,S,ok,en,m _ _ _ _ (λxs S1 hs as1 H1 vs g1 ok1 rv=>?_) h⟩;show spS K s (vs++[]) H1 Q E0;rw[Su];exact⟨as1,S1,xs,ok1,rv,ms _ _ _ _ (λz S3 hz=>hz.mono g1) hs⟩
theorem GL{T:List Str}{Δ:Nat->Sn}{k f:Nat}{N:List Str}{sc:Ve}{x:Str}{y:Expr}{ys:List Expr}{p q:Pos}{w:WA}(C:Cok T Δ X k N sc)(hf:T[f]?=some x)(hg:glo sc x=true)(h:GoodA X (y::ys) w)(hy:c3 y=true)(hs:ys.all c3=true):Good X (.Call (.Name x p) (y::ys) [] q) (tt1 (wn (Δ f) w)):=by
 obtain⟨d,ps,hC,hr⟩:=C.call f x hf;obtain⟨fa,fd,F,hm,hk,hb⟩:=hC.ex;unfold glo at hg;simp only[S8,beq_iff_eq,Sh]at hg;have gl:Gl X x:=by show X.env.scope.names.lookup x=_;rw[C.hs];exact hg.1.1
 exact .one (e7 _ (MI F hr gl hm hk hb .nil Qi h.pa hg.2 (e8 hy) (BT hs)) (L0 (C.mono f) h.m)) (.n (C.mono f) h.m) rfl
theorem R7:Vb "abs"=some (.builtin "abs"):=by decide +kernel
theorem R8:Vb "min"=some (.builtin "min"):=by decide +kernel
theorem R9:Vb "max"=some (.builtin "max"):=by decide +kernel
theorem RA:Vb "len"=some (.builtin "len"):=by decide +kernel
theorem RC:Vb "all"=some (.builtin "all"):=by decide +kernel
theorem OC:Vb "int"=some (.type "int"):=by decide +kernel
theorem GM:Vb "list"=some (.type "list"):=by decide +kernel
theorem RD:Vb "isinstance"=some (.builtin "isinstance"):=by decide +kernel
theorem OD:Vb "str"=some (.type "str"):=by decide +kernel
theorem Pb:Vb "bool"=some (.type "bool"):=by decide +kernel
theorem N7:Vb "range"=some (.type "range"):=by decide +kernel
theorem Hj:Vb "tuple"=some (.type "tuple"):=by decide +kernel
theorem Pc:Vb "repr"=some (.builtin "repr"):=by decide +kernel
theorem L1{T:List Str}{Δ:Nat->Sn}{k:Nat}{N:List Str}{sc:Ve}{b:BI}{y:Expr}{ys:List Expr}{p q:Pos}{w:WA}(C:Cok T Δ X k N sc)(hg:glo sc b.name=true)(h:GoodA X (y::ys) w)(hy:c3 y=true)(hs:ys.all c3=true):Good X (.Call (.Name b.name p) (y::ys) [] q) (tt1 (wn (sBi b) w)):=by
 unfold glo at hg;simp only[S8,beq_iff_eq,Sh]at hg;have gl:Gl X b.name:=by show X.env.scope.names.lookup b.name=_;rw[C.hs];exact hg.1.1
 have hm:=C.bl b;have e1:=e8 (es:=ys) (env:=X.env) hy;have e2:=BT (env:=X.env) (pos:=q) hs;refine .one (e7 (t:=tCB (rBi X.K b) (liftA X.K w)) _ ?_ (Qs PL .bi h.m)) (.n .bi h.m) rfl;cases b with
 | len=>exact m6 De gl hm RA h.pa (by decide) hg.2 e1 e2
 | abs=>exact m6 Jj gl hm R7 h.pa (by decide) hg.2 e1 e2
 | min=>exact m6 (IP C.calm) gl hm R8 h.pa (by decide) hg.2 e1 e2
 | max=>exact m6 (IO C.calm) gl hm R9 h.pa (by decide) hg.2 e1 e2
 | int=>exact t6 IQ gl hm OC h.pa (by decide) hg.2 e1 e2
 | list=>exact t6 Dg gl hm GM h.pa (by decide) hg.2 e1 e2
 | tuple=>exact t6 Cv gl hm Hj h.pa (by decide) hg.2 e1 e2
 | all=>exact m6 (Ia C.calm) gl hm RC h.pa (by decide) hg.2 e1 e2
 | any=>exact m6 (Ii C.calm) gl hm Qp h.pa (by decide) hg.2 e1 e2
 | sorted=>exact m6 (λ_ _ _ _ _ _ _ _ _ h=>False.elim h) gl hm Jz h.pa (by decide) hg.2 e1 e2
 | isi=>exact m6 (call_isi1.or IZ) gl hm RD h.pa (by decide) hg.2 e1 e2
 | repr=>exact m6 (λ_ _ _ _ _ _ _ _ _ h=>False.elim h) gl hm Pc h.pa (by decide) hg.2 e1 e2
 | str=>exact t6 (λ_ _ _ _ _ _ _ _ _ h=>False.elim h) gl hm OD h.pa (by decide) hg.2 e1 e2
theorem Mono.mt{m:MT}{a:WE}{b:WA}(ma:Mono a)(mb:MonoA b):Mono (wMt m a b):=λρ S P P' i h=>ma _ _ _ _ (λx S1 ⟨e,h⟩=>⟨e,mb _ _ _ _ (λxs S2 h=>Dp _ _ _ _ i h) h⟩) h
theorem u8{ro:Expr}{nm:Str}{env:Env}{wh:Sem VS}(h:B0 ro=true):WN ro nm env wh=wh:=by
 unfold WN;split
 ·cases h
 ·rfl
theorem L5{K:Rz}{as:List VU}{H:Hp}{S:Sto}{k:Nat}{v:V}{xs:List SV}(ok:Ok K as H S)(r:Rl K as H v (.loc k))(hs:S[k]?=some (.lst xs)):tyV K "list" v H:=by
 obtain⟨a,vs,rfl,_,h1,_⟩:=l8 ok r hs;exact .inl ⟨rfl,_,SqL.of h1⟩
theorem Pd{K:Rz}{m:MT}{a:WE}{b:WA}(ma:Mono a)(mb:MonoA b):∀ σ H Q,lift K (wMt m a b) σ H Q->tBM K "list" (rMt m) (lift K a) (liftA K b) σ H Q:=by
 rintro σ H Q ⟨as,ρ,S,ok,en,h⟩;refine⟨as,ρ,S,ok,en,ma _ _ _ _ (λx S1 ⟨⟨j,zs,e,hz⟩,h⟩ as1 H1 v g1 ok1 rv=>?_) h⟩;subst e;refine⟨L5 ok1 rv hz,as1,ρ,S1,ok1,en.mono g1.pre (g1.ku ok),mb _ _ _ _ (λxs S2 h as2 H2 vs g2 ok2 rs=>?_) h⟩;exact KO ok2 (Rl.mono g2.pre (g2.ku ok1) _ v rv) rs (Dp _ _ _ _ (λz S3 hz=>hz.mono (g1.trans g2)) h)
theorem N8{K:Rz}{m:MT}{a:WE}(ma:Mono a):∀ σ H Q,lift K (wMt m a DH) σ H Q->Ow K "list" (rMt m) (lift K a) σ H Q:=by
 rintro σ H Q ⟨as,ρ,S,ok,en,h⟩;refine⟨as,ρ,S,ok,en,ma _ _ _ _ (λx S1 ⟨⟨j,zs,e,hz⟩,h⟩ as1 H1 v g1 ok1 rv=>?_) h⟩;subst e;exact⟨L5 ok1 rv hz,KO ok1 rv .nil (Dp _ _ _ _ (λz S3 hz=>hz.mono g1) h)⟩
theorem L6{m:MT}{ro y:Expr}{ys:List Expr}{ap cp:Pos}{a:WE×WT}{b:WA}(ha:Good X ro a)(hb:GoodA X (y::ys) b)(hn:B0 ro=true)(hl:(ap.endLine == cp.line)=true)(hk:(y::ys).length<29)(hy:c3 y=true)(hs:ys.all c3=true):Good X (.Call (.Attribute ro m.name ap) (y::ys) [] cp) (tt1 (wMt m a.1 b)):=by
 have e1:=e8 (es:=ys) (env:=X.env) hy;have e2:=BT (env:=X.env) (pos:=cp) hs
 have e3:((backTo cp (Vg (y::ys) X.env)).all (λx=>!x.1)&&(backToKw cp (XS [] X.env)).all (λx=>x.1.isSome)
  && decide ((y::ys).length+([]:List Keyword).length+(if ([]:List Keyword).isEmpty then 0 else 1)<30))=true:=by
  rw[DI (by rw[TN,hy,hs];rfl)];simp only[VF,S8,dQ];exact⟨rfl,by show(y::ys).length+0+0<30;omega⟩
 refine .one (e7 (t:=tBM X.K "list" (rMt m) (lift X.K a.1) (liftA X.K b)) _ ?_ (Pd ha.m hb.m)) (.mt ha.m hb.m) rfl;cases m with
 | append=>exact Js PySem.F.plainAttrs_list PySem.F.slot_list_append PySem.F.type_list_append Ay ha.pe hb.pa (u8 hn) e3 hl e1 e2
 | extend=>exact Js PySem.F.plainAttrs_list PySem.F.slot_list_extend PySem.F.type_list_extend DD ha.pe hb.pa (u8 hn) e3 hl e1 e2
 | insert=>exact Js PySem.F.plainAttrs_list PySem.F.slot_list_insert PySem.F.type_list_insert DF ha.pe hb.pa (u8 hn) e3 hl e1 e2
theorem JA{m:MT}{ro:Expr}{ap cp:Pos}{a:WE×WT}(ha:Good X ro a)(hn:B0 ro=true)(hl:(ap.endLine == cp.line)=true):Good X (.Call (.Attribute ro m.name ap) [] [] cp) (tt1 (wMt m a.1 DH)):=by
 refine .one (e7 (t:=Ow X.K "list" (rMt m) (lift X.K a.1)) _ ?_ (N8 ha.m)) (.mt ha.m .nil) rfl;cases m with
 | append=>exact Fm PySem.F.plainAttrs_list PySem.F.slot_list_append PySem.F.type_list_append Ay ha.pe (u8 hn) hl
 | extend=>exact Fm PySem.F.plainAttrs_list PySem.F.slot_list_extend PySem.F.type_list_extend DD ha.pe (u8 hn) hl
 | insert=>exact Fm PySem.F.plainAttrs_list PySem.F.slot_list_insert PySem.F.type_list_insert DF ha.pe (u8 hn) hl
theorem JB{T:List Str}{Δ:Nat->Sn}{k:Nat}{N:List Str}{sc:Ve}{t:TyN}{p:Pos}(C:Cok T Δ X k N sc)(hg:glo sc (Str.ofString t.nm)=true)(ht:t ≠ .none):Good X (.Name (Str.ofString t.nm) p) (tt1 (wC (.ty t))):=by
 unfold glo at hg;simp only[S8,beq_iff_eq,Sh]at hg;have gl:Gl X (Str.ofString t.nm):=by show X.env.scope.names.lookup _=_;rw[C.hs];exact hg.1.1
 have b:Vb (Str.ofString t.nm)=some (.type t.nm):=by cases t<;>first | exact OC | exact Pb | exact OD | exact GM | exact Hj | exact absurd rfl ht
 exact .one (e7 _ (M9 (v := .ty t.nm) gl (C.ty t ht) b rfl (by cases t<;>first | decide | exact absurd rfl ht) hg.2) (ER λ_ _=>rl_ty.mpr rfl)) .c rfl
theorem Pe{K:Rz}{as:List VU}{H:Hp}{lo hi:Int}:RlAll K as H (Ic lo (hi - lo).toNat) (Ao lo hi):=by
 unfold Ic Ao
 induction SE (hi - lo).toNat with
 | nil=>exact .nil
 | cons i r ih=>exact .cons (rl_int.mpr rfl) ih
theorem Cb{a:WE}(m:Mono a):Mono (G9 a):=λρ S P P' i h=>m _ _ _ _ (λx S1 ⟨j,e,z,q⟩=>⟨j,e,z,i _ _ q⟩) h
theorem Ej{T:List Str}{Δ:Nat->Sn}{k:Nat}{N:List Str}{sc:Ve}{r:Expr}{p p2 q q2:Pos}{a:WE×WT}(C:Cok T Δ X k N sc)(hg:glo sc "list"=true)(hg2:glo sc "range"=true)(ha:Good X r a)(hs:c3 r=true):Good X (.Call (.Name "list" p) [.Call (.Name "range" p2) [r] [] q2] [] q) (tt1 (G9 a.1)):=by
 unfold glo at hg hg2;simp only[S8,beq_iff_eq,Sh]at hg hg2;have gl:Gl X "list":=by show X.env.scope.names.lookup ("list":Str)=_;rw[C.hs];exact hg.1.1
 have gr:Gl X "range":=by show X.env.scope.names.lookup ("range":Str)=_;rw[C.hs];exact hg2.1.1
 have e1:=t6 (p:=p2) (pos:=q2) Ib gr C.rng N7 (o9 ha.pe AT (e8 hs)) (by decide) hg2.2 (e8 hs) rfl;refine .one (e7 _ (t6 (p:=p) (pos:=q) (Dh C.calm) gl (C.bl .list) GM (o9 e1 AT rfl) (by decide) hg.2 rfl rfl) ?_) (Cb ha.m) rfl;rintro σ H Q ⟨as,ρ,S,ok,en,h⟩;refine⟨as,ρ,S,ok,en,ha.m _ _ _ _ (λx S1 ⟨j,e,z,q⟩ as1 H1 v g1 ok1 rv=>?_) h⟩;subst e;refine⟨j,by rw[rl_int.mp rv],λp hp=>⟨p,0,j,rfl,c7,by decide,by decide,z.1,by omega,by omega,?_⟩⟩;exact AJ (ok1.new hp) Pe (q.mono (g1.trans (Go.new hp)))
theorem RlD.length{K:Rz}{as:List VU}{H:Hp}:∀{kvs:List (Int×SV)} {ks:List (Key×V)},RlD K as H ks kvs->ks.length=kvs.length
 | [],_,h=>by rw[show _=[] from h];rfl
 | p::r,_,⟨v,t,e,_,h⟩=>by rw[e,T7,T7,RlD.length h]
theorem RlAll.perm{K:Rz}{as:List VU}{H:Hp}{ws ws':List V}(p:ws'.Perm ws):∀{xs:List SV},RlAll K as H ws xs->∃ xs',RlAll K as H ws' xs'/\xs'.Perm xs:=by
 induction p with
 | nil=>exact λ{xs} r=>⟨xs,r,.refl _⟩
 | cons v _ ih=>
   intro xs r;cases xs with
   | nil=>exact absurd (show _::_=[] from r) (UX _ _)
   | cons x xs=>
     obtain⟨_,_,e,r1,r2⟩:=r;cases e;obtain⟨xs',r',p'⟩:=ih r2;exact⟨x::xs',⟨_,_,rfl,r1,r'⟩,.cons _ p'⟩
 | swap u v l=>
   intro xs r;cases xs with
   | nil=>exact absurd (show _::_=[] from r) (UX _ _)
   | cons x xs=>
     obtain⟨_,_,e,r1,r2⟩:=r;cases e;cases xs with
     | nil=>exact absurd (show _::_=[] from r2) (UX _ _)
     | cons y xs=>
       obtain⟨_,_,e,r3,r4⟩:=r2;cases e;exact⟨y::x::xs,⟨_,_,rfl,r3,_,_,rfl,r1,r4⟩,.swap ..⟩
 | trans _ _ ih1 ih2=>
   intro xs r;obtain⟨x2,r2,p2⟩:=ih2 r;obtain⟨x1,r1,p1⟩:=ih1 r2;exact⟨x1,r1,p1.trans p2⟩
end
section
variable{K:Rz}{as:List VU}{H:Hp}{S:Sto}
theorem RlD.get:∀{kvs:List (Int×SV)} {ks:List (Key×V)} {i:Nat} {p:Int×SV},RlD K as H ks kvs->kvs[i]?=some p->∃ v,ks[i]?=some (.inl p.1,v)
 | q::r,_,0,p,⟨v,t,e,_,_⟩,hp=>by cases hp;subst e;exact⟨v,rfl⟩
 | q::r,_,i+1,p,⟨v,t,e,_,h⟩,hp=>by
   subst e;obtain⟨u,hu⟩:=RlD.get (i:=i) h (show r[i]?=some p from hp);exact⟨u,hu⟩
theorem RlD.val:∀{kvs:List (Int×SV)} {ks:List (Key×V)},RlD K as H ks kvs->∀ i,(∃ x v,Dr kvs i=some x/\v8 ks (.inl i)=some v/\Rl K as H v x)\/(Dr kvs i=none/\v8 ks (.inl i)=none)
 | [],_,h,i=>by rw[show _=[] from h];exact .inr ⟨rfl,rfl⟩
 | p::r,_,⟨v,t,e,h1,h2⟩,i=>by
   subst e;by_cases hp:p.1=i
   ·refine .inl ⟨p.2,v,?_,?_,h1⟩
    ·unfold Dr;rw[UZ (by simp[hp])];rfl
    ·unfold v8;rw[UZ (by simp[hp])];rfl
   ·have e1:Dr (p::r) i=Dr r i:=by unfold Dr;rw[Ua (by simp[hp])]
    have e2:v8 ((Sum.inl p.1,v)::t) (Sum.inl i)=v8 t (Sum.inl i):=by unfold v8;rw[Ua (by simp[hp])]
    rw[e1,e2];exact RlD.val h2 i
theorem RlD.any:∀{kvs:List (Int×SV)} {ks:List (Key×V)},RlD K as H ks kvs->∀ i,(ks.any λkv=>decide (kv.1=Sum.inl i))=kvs.any λp=>decide (p.1=i)
 | [],_,h,i=>by rw[show _=[] from h];rfl
 | p::r,_,⟨v,t,e,h1,h2⟩,i=>by
   subst e;rw[TU,TU,RlD.any h2 i]
   congr 1
   simp
theorem RlD.set{v:V}{x:SV}(rv:Rl K as H v x):∀{kvs:List (Int×SV)} {ks:List (Key×V)},RlD K as H ks kvs->∀ i,RlD K as H (ks.map λkv=>if kv.1=Sum.inl i then (kv.1,v) else kv) (kvs.map λp=>if p.1=i then (p.1,x) else p)
 | [],_,h,i=>by rw[show _=[] from h];rfl
 | p::r,_,⟨u,t,e,h1,h2⟩,i=>by
   subst e;rw[Sk,Sk];by_cases hp:p.1=i
   ·rw[iP hp,iP (by rw[hp])];exact⟨v,_,rfl,rv,RlD.set rv h2 i⟩
   ·rw[iG hp,iG (λz=>hp (Sum.inl.inj z))];exact⟨u,_,rfl,h1,RlD.set rv h2 i⟩
theorem RlD.snoc{v:V}{x:SV}(rv:Rl K as H v x)(i:Int):∀{kvs:List (Int×SV)} {ks:List (Key×V)},RlD K as H ks kvs->RlD K as H (ks++[(Sum.inl i,v)]) (kvs++[(i,x)])
 | [],_,h=>by rw[show _=[] from h];exact⟨v,[],rfl,rv,rfl⟩
 | p::r,_,⟨u,t,e,h1,h2⟩=>by subst e;exact⟨u,_,rfl,h1,RlD.snoc rv i h2⟩
theorem RlD.put{kvs:List (Int×SV)}{ks:List (Key×V)}{v:V}{x:SV}(h:RlD K as H ks kvs)(rv:Rl K as H v x)(i:Int):RlD K as H (v9 ks (Sum.inl i) v) (y0 kvs i x):=by
 unfold v9 y0;rw[h.any i];by_cases z:(kvs.any λp=>decide (p.1=i))=true
 ·rw[iP z,iP z];exact h.set rv i
 ·rw[iG z,iG z];exact h.snoc rv i
theorem Pf{x:SV}{v:V}{kvs:List (Int×SV)}(ok:Ok K as H S)(r:Rl K as H v x)(h:Ke x S=some kvs):∃ a k ks,x = .loc k/\v = .ref a/\as[k]?=some a/\Rd H a (.dK ks)/\RlD K as H ks kvs:=by
 cases x with
 | loc k=>
   obtain⟨a,ea,rfl⟩:=rl_loc.mp r;unfold Ke at h;cases hs:S[k]? with
   | none=>simp only[hs]at h;cases h
   | some o=>
     have ro:=ok.obj k o a hs ea;cases o with
     | lst _=>simp only[hs]at h;cases h
     | iset _=>simp only[hs]at h;cases h
     | dtl _=>simp only[hs]at h;cases h
     | dtf _ _ _=>simp only[hs]at h;cases h
     | dtp _=>simp only[hs]at h;cases h
     | dct kv=>simp only[hs]at h;cases h;obtain⟨ks,h1,h2⟩:=ro;exact⟨a,k,ks,rfl,rfl,ea,.inl h1,h2⟩
     | dcf o ks kv=>simp only[hs]at h;cases h;exact⟨a,k,ks,rfl,rfl,ea,.inr ⟨o,ro.1⟩,ro.2⟩
 | _=>cases h
theorem Bs:Mono2 HU:=λx y S P P' i ⟨kvs,j,v,a,b,c,q⟩=>⟨kvs,j,v,a,b,c,i _ _ q⟩
theorem L7:Ae K HU (λx y H Q=>∃ a v,x = .ref a/\K2 H a y (some v)/\Q v H):=λas H S x y v u Q ok rx ry h=>by
 obtain⟨kvs,i,w,h1,rfl,h2,q⟩:=h;obtain⟨a,k,ks,rfl,rfl,ea,rd,rr⟩:=Pf ok rx h1;rw[rl_int]at ry;subst ry;rcases rr.val i with⟨x',v',e1,e2,r'⟩ | ⟨e1,_⟩
 ·rw[h2]at e1;cases e1;exact⟨a,v',rfl,.inl ⟨ks,.inl i,rd,rfl,e2.symm⟩,q.here ok r'⟩
 ·rw[h2]at e1;cases e1
end
section
variable{X:Cx}
theorem DM{a:WE}(m:Mono a):Mono (Kf a):=λρ S P P' i h=>m _ _ _ _ (λx S1 ⟨k,kvs,b,c,d,q⟩=>⟨k,kvs,b,c,d,i _ _ q⟩) h
theorem Pg:Vb "dict"=some (.type "dict"):=by decide +kernel
theorem Ek{K:Rz}{as:List VU}{H:Hp}:∀{kvs:List (Int×SV)} {us:List V},RlAll K as H us (kvs.map λ(p:Int×SV)=>SV.tup [.int p.1,p.2])->∃ ts:List (VU×Int×V),us=ts.map (λt=>V.ref t.1)/\(∀ t∈ts,H t.1=some (.tup [.int t.2.1,t.2.2]))/\RlD K as H (ts.map λt=>(.inl t.2.1,t.2.2)) kvs
 | [],us,h=>⟨[],rla_nil.mp h,(λ_ z=>nomatch z),rfl⟩
 | p::kvs,us,h=>by
   obtain⟨v,r,rfl,h1,h2⟩:=rla_cons.mp h;obtain⟨a,vs,rfl,ha,hv⟩:=rl_tup.mp h1;obtain⟨v1,r1,rfl,hk,hr⟩:=rla_cons.mp hv;obtain⟨v2,r2,rfl,hx,hr2⟩:=rla_cons.mp hr;obtain rfl:=rla_nil.mp hr2;obtain rfl:=rl_int.mp hk;obtain⟨ts,rfl,ht,hd⟩:=Ek h2
   exact⟨(a,p.1,v2)::ts,rfl,λt z=>by
    rcases SU.mp z with rfl | z
    ·exact ha
    ·exact ht t z,v2,_,rfl,hx,hd⟩
theorem RlD.merge{K:Rz}{as:List VU}{H:Hp}:∀{more:List (Int×SV)} {ms:List (Key×V)} {kvs:List (Int×SV)} {ks:List (Key×V)},RlD K as H ms more->RlD K as H ks kvs->RlD K as H (BC ks ms) (more.foldl (λacc p=>y0 acc p.1 p.2) kvs)
 | [],ms,kvs,ks,h,h'=>by rw[show ms=[] from h];exact h'
 | p::more,ms,kvs,ks,⟨v,t,e,hv,h⟩,h'=>by
   rw[e];exact RlD.merge (more:=more) (ms:=t) (kvs:=y0 kvs p.1 p.2) (ks:=v9 ks (.inl p.1) v) h (h'.put hv p.1)
theorem GN{T:List Str}{Δ:Nat->Sn}{k:Nat}{N:List Str}{sc:Ve}{r:Expr}{p q:Pos}{a:WE×WT}(C:Cok T Δ X k N sc)(hg:glo sc "dict"=true)(ha:Good X r a)(hs:c3 r=true):Good X (.Call (.Name "dict" p) [r] [] q) (tt1 (Kf a.1)):=by
 unfold glo at hg;simp only[S8,beq_iff_eq,Sh]at hg;have gl:Gl X "dict":=by show X.env.scope.names.lookup ("dict":Str)=_;rw[C.hs];exact hg.1.1
 refine .one (e7 _ (t6 (GI C.calm) gl C.dc0 Pg (o9 ha.pe AT (e8 hs)) (by decide) hg.2 (e8 hs) rfl) ?_) (DM ha.m) rfl;rintro σ H Q ⟨as,ρ,S,ok,en,h⟩;refine⟨as,ρ,S,ok,en,ha.m _ _ _ _ (λx S1 ⟨k,kvs,e1,h2,h3,q⟩ as1 H1 v g1 ok1 rv=>?_) h⟩;subst e1;obtain⟨a,ea,rfl⟩:=rl_loc.mp rv;obtain⟨us,hu,rr⟩:=ok1.obj k _ a h2 ea;obtain⟨ts,rfl,ht,hd⟩:=Ek rr;have hlen:ts.length=kvs.length:=by have:=hd.length;rwa [S7]at this
 refine⟨a,ts,rfl,.inl (.inl hu),ht,by omega,λl hl=>?_⟩;have pre:as1 <+: as1++[l]:=Tc _ _;have rd:RlD X.K (as1++[l]) (upd H1 l (.dK (BC [] (ts.map λt=>(.inl t.2.1,t.2.2))))) (BC [] (ts.map λt=>(.inl t.2.1,t.2.2))) (HV kvs):=RlD.mono pre (w6 hl) _ _ (RlD.merge hd (show RlD X.K as1 H1 [] [] from rfl));exact q _ _ _ (g1.trans (Go.push hl)) (ok1.pushO hl ⟨_,c7,rd⟩) (rl_loc.mpr ⟨l,by rw[<-ok1.len];exact Sf,rfl⟩)
theorem GO{x y:Expr}{p:Pos}{a b:WE×WT}(hu:X.A.units+1<cLine)(ha:Good X x a)(hb:Good X y b)(h:m7 y=true):Good X (.Subscript x y p) (tt1 (w2 HU a.1 b.1)):=
 .one (e7 _ (HL hu ha.pe hb.pe (BG h)) (A7 L7 Bs ha.m hb.m)) (.two Bs ha.m hb.m) rfl
end
theorem RlD.vals{K:Rz}{as:List VU}{H:Hp}:∀{kvs:List (Int×SV)} {ks:List (Key×V)},RlD K as H ks kvs->RlAll K as H (ks.map (·.2)) (kvs.map (·.2))
 | [],_,h=>by rw[show _=[] from h];rfl
 | p::r,_,⟨v,t,e,a,h⟩=>by rw[e];exact⟨v,_,rfl,a,RlD.vals h⟩
theorem RlD.at{K:Rz}{as:List VU}{H:Hp}:∀{kvs:List (Int×SV)} {ks:List (Key×V)} {i:Nat} {p:Int×SV},RlD K as H ks kvs->kvs[i]?=some p->∃ v,ks[i]?=some (.inl p.1,v)/\Rl K as H v p.2
 | [],_,i,p,_,hp=>by simp at hp
 | p::r,_,0,_,⟨v,t,e,a,h⟩,hp=>by cases hp;exact⟨v,by rw[e];rfl,a⟩
 | p::r,_,i+1,_,⟨v,t,e,a,h⟩,hp=>by
   obtain⟨u,hu,ru⟩:=RlD.at (i:=i) h hp;exact⟨u,by rw[e];exact hu,ru⟩
section
variable{K:Rz}{as:List VU}{H:Hp}{S:Sto}
theorem RlT.length:∀{kvs:List (List Int×SV)} {us:List (List Key×V)},RlT K as H us kvs->us.length=kvs.length
 | [],_,h=>by rw[show _=_ from h];rfl
 | p::r,_,⟨v,t,e,_,h2⟩=>by rw[e,T7,T7,h2.length]
theorem RlT.get:∀{kvs:List (List Int×SV)} {us:List (List Key×V)} {i:Nat} {p:List Int×SV},RlT K as H us kvs->kvs[i]?=some p->∃ v,us[i]?=some (p.1.map Sum.inl,v)
 | [],_,_,_,_,h=>by simp at h
 | p::r,_,0,_,⟨v,t,e,_,h2⟩,h=>by
   simp at h;subst h;rw[e];exact⟨v,rfl⟩
 | p::r,_,i+1,_,⟨v,t,e,_,h2⟩,h=>by
   rw[e];obtain⟨v,hv⟩:=h2.get (i:=i) (by simpa using h);exact⟨v,by simpa using hv⟩
theorem Hk:∀{a b:List Int},a.map (Sum.inl:Int->Key)=b.map Sum.inl->a=b
 | [],[],_=>rfl
 | [],_::_,h=>by simp at h
 | _::_,[],h=>by simp at h
 | a::x,b::y,h=>by
   rw[Sk,Sk]at h;injection h with h1 h2;injection h1 with h1;rw[h1,Hk h2]
theorem RlT.val(k:List Int):∀{kvs:List (List Int×SV)} {us:List (List Key×V)},RlT K as H us kvs->(∃ x v,Aq kvs k=some x/\v8 us (k.map Sum.inl)=some v/\Rl K as H v x)\/(Aq kvs k=none/\v8 us (k.map Sum.inl)=none)
 | [],_,h=>by rw[show _=_ from h];exact .inr ⟨rfl,rfl⟩
 | p::r,_,⟨v,t,e,h1,h2⟩=>by
   rw[e];by_cases z:p.1=k
   ·refine .inl ⟨p.2,v,?_,BQ (by rw[z]),h1⟩;unfold Aq;rw[TF,decide_eq_true z];rfl
   ·rw[BR (λy=>z (Hk y)),show Aq (p::r) k=Aq r k by unfold Aq;rw[TF,decide_eq_false z]];exact RlT.val k h2
theorem RlT.snoc{k:List Int}{v:V}{x:SV}(rv:Rl K as H v x):∀{kvs:List (List Int×SV)} {us:List (List Key×V)},RlT K as H us kvs->RlT K as H (us++[(k.map Sum.inl,v)]) (kvs++[(k,x)])
 | [],_,h=>by rw[show _=_ from h];exact⟨v,[],rfl,rv,rfl⟩
 | p::r,_,⟨w,t,e,h1,h2⟩=>by rw[e];exact⟨w,_,rfl,h1,h2.snoc rv⟩
theorem El{v:V}{ks:List Int}(r:Rl K as H v (.tup (ks.map SV.int))):∃ p,v = .ref p/\H p=some (.tup ((ks.map Sum.inl).map kV)):=by
 obtain⟨p,vs,rfl,hp,rp⟩:=rl_tup.mp r
 have go:∀{ks:List Int} {vs:List V},RlAll K as H vs (ks.map SV.int)->vs=(ks.map Sum.inl).map kV:=by
  intro ks
  induction ks with
  | nil=>intro vs h;exact rla_nil.mp h
  | cons a ks ih=>
    intro vs h;obtain⟨v,t,rfl,h1,h2⟩:=rla_cons.mp h;rw[rl_int.mp h1,ih h2];rfl
 exact⟨p,rfl,by rw[<-go rp];exact hp⟩
theorem Cc{vs:List V}{ls:List Nat}(h:RlAll K as H vs (ls.map SV.loc)):∃ ps:List VU,vs=ps.map V.ref/\ps.length=ls.length/\∀(i:Nat) p,ps[i]?=some p->∃ l,ls[i]?=some l/\as[l]?=some p:=by
 induction ls generalizing vs with
 | nil=>exact⟨[],rla_nil.mp h,rfl,λi p z=>by simp at z⟩
 | cons l ls ih=>
   obtain⟨v,t,rfl,h1,h2⟩:=rla_cons.mp h;obtain⟨a,ea,rfl⟩:=rl_loc.mp h1;obtain⟨ps,rfl,hl,hp⟩:=ih h2;refine⟨a::ps,rfl,by rw[T7,T7,hl],λi p z=>?_⟩;cases i with
   | zero=>simp at z;subst z;exact⟨l,rfl,ea⟩
   | succ i=>
     obtain⟨l',e,q⟩:=hp i p (by simpa using z);exact⟨l',by simpa using e,q⟩
theorem JC:Ae K Dq (λx y H Q=>∃ a v,x = .ref a/\K2 H a y (some v)/\Q v H):=λas H S x y v u Q ok rx ry h=>by
 obtain⟨k,kvs,ks,w,rfl,h1,rfl,h2,q⟩:=h;obtain⟨a,ea,rfl⟩:=rl_loc.mp rx;obtain⟨p,rfl,hp⟩:=El ry
 obtain⟨us,rd,rr⟩:∃ us,Rd H a (.dT us)/\RlT K as H us kvs:=by
  rcases h1 with h1 | ⟨o,us,h1⟩
  ·obtain⟨us,z1,z2⟩:=ok.obj k _ a h1 ea;exact⟨us,.inl z1,z2⟩
  ·have z:=(show RlO K as H a (.dtf o us kvs) from ok.obj k _ a h1 ea)
   exact⟨us,.inr ⟨o,z.1⟩,z.2⟩
 rcases rr.val ks with⟨x',v',e1,e2,r'⟩ | ⟨e1,_⟩
 ·rw[h2]at e1;cases e1;exact⟨a,v',rfl,.inr ⟨us,_,p,rd,rfl,hp,e2.symm⟩,q.here ok r'⟩
 ·rw[h2]at e1;cases e1
theorem Em{n:Bool}:Ae K (EW n) (Hg K n):=λas H S x y v u Q ok rx ry h=>by
 obtain⟨k,l,ts,us,f,rfl,rfl,h1,h2,hl,f1,f2,q⟩:=h;obtain⟨a,vs,rfl,ea,ha,ra⟩:=l8 ok rx h1;obtain⟨b,ws,rfl,eb,hb,rb⟩:=l8 ok ry h2;obtain⟨ps,rfl,l1,p1⟩:=Cc ra;obtain⟨qs,rfl,l2,p2⟩:=Cc rb
 have go:∀{t:Nat} {p:VU} {ns:List Int},S[t]?=some (.lst (ns.map SV.int))->as[t]?=some p->H p=some (.lst (ns.map V.int)):=λ{t p ns} e1 e2=>by
  obtain⟨vs,z1,z2⟩:=ok.obj t _ p e1 e2;rw[z1]
  congr 2
  have gg:∀{ns:List Int} {vs:List V},RlAll K as H vs (ns.map SV.int)->vs=ns.map V.int:=by
   intro ns
   induction ns with
   | nil=>intro vs h;exact rla_nil.mp h
   | cons a ks ih=>
     intro vs h;obtain⟨v,t,rfl,h1,h2⟩:=rla_cons.mp h;rw[rl_int.mp h1,ih h2];rfl
  exact gg z2
 refine⟨a,b,ps,qs,f,rfl,rfl,SqL.of ha,SqL.of hb,by omega,λi t z=>?_,λi t z=>?_,q.here ok (rl_bl.mpr rfl)⟩
 ·obtain⟨l',e,e2⟩:=p1 i t z;exact go (f1 i l' e) e2
 ·obtain⟨l',e,e2⟩:=p2 i t z;exact go (f2 i l' e) e2
end
theorem BH:Mono2 Dq:=λx y S P P' i ⟨k,kvs,ks,v,a,b,c,d,q⟩=>⟨k,kvs,ks,v,a,b,c,d,i _ _ q⟩
theorem B4{n:Bool}:Mono2 (EW n):=λx y S P P' i ⟨k,l,ts,us,f,a,b,c,d,e,g,h,q⟩=>⟨k,l,ts,us,f,a,b,c,d,e,g,h,i _ _ q⟩
theorem DN{a:WE}(m:Mono a):Mono (Kd a):=λρ S P P' i h=>m _ _ _ _ (λx S1 ⟨k,ls,f,g,a,b,c,d,q⟩=>⟨k,ls,f,g,a,b,c,d,i _ _ q⟩) h
theorem Cd{d e v:WE}(m:Mono d)(m1:Mono e)(m2:Mono v):Mono (GA d e v):=λρ S P P' i h=>m _ _ _ _ (λx S1 ⟨k,kv0,a,b,h⟩=>⟨k,kv0,a,b,m1 _ _ _ _ (λy S2 h=>m2 _ _ _ _ (λz S3 ⟨ks,kvs,a,b,c,q0,q1⟩=>⟨ks,kvs,a,b,c,λn e=>i _ _ (q0 n e),λe=>i _ _ (q1 e)⟩) h) h⟩) h
theorem BJ:Mono GB:=λρ S P P' i h=>i _ _ h
theorem Ep{X:Cx}{p:Pos}:Good X (.Dict [] [] p) (tt1 GB):=
 .one (e7 _ K5 (λσ H Q ⟨as,ρ,S,ok,en,h⟩=>λl hl=>h _ _ _ (Go.push hl) (ok.pushO hl ⟨[],c7,rfl⟩) (rl_loc.mpr ⟨l,by rw[<-ok.len];exact Sf,rfl⟩))) BJ rfl
theorem Er{X:Cx}{ro r r2:Expr}{ap cp:Pos}{d e v:WE×WT}(hu:X.A.units+1<cLine)(hd:Good X ro d)(he:Good X r e)(hv:Good X r2 v)(hn:B0 ro=true)(hl:(ap.endLine == cp.line)=true)(hs:c3 r=true)(hs2:c3 r2=true):Good X (.Call (.Attribute ro "setdefault" ap) [r,r2] [] cp) (tt1 (GA d.1 e.1 v.1)):=by
 refine .one (e7 _ (Mp hu hd.pe he.pe hv.pe ⟨u8 hn,by rw[e8 hs,e8 hs2];rfl,hl,by rw[e8 hs,e8 hs2];rfl⟩) ?_) (Cd hd.m he.m hv.m) rfl;rintro σ H Q ⟨as,ρ,S,ok,en,h⟩;refine⟨as,ρ,S,ok,en,hd.m _ _ _ _ (λx S1 ⟨k,kv0,e0,hk,h⟩ as1 H1 w g1 ok1 rw1=>?_) h⟩;subst e0;obtain⟨a,ea,rfl⟩:=rl_loc.mp rw1;obtain⟨us0,h1,_⟩:=ok1.obj k _ a hk ea;have en1:=en.mono g1.pre (g1.ku ok);refine⟨a,rfl,.inr ⟨_,.inl h1⟩,as1,ρ,S1,ok1,en1,he.m _ _ _ _ (λy S2 h as2 H2 w2 g2 ok2 rw2=>?_) h⟩;refine⟨as2,ρ,S2,ok2,en1.mono g2.pre (g2.ku ok1),hv.m _ _ _ _ (λz S3 ⟨ks,kvs,e1,hk3,hb,q0,q1⟩ as3 H3 w3 g3 ok3 rw3=>?_) h⟩;subst e1;have ea3:=Di g3.pre (Di g2.pre ea);obtain⟨us,h3,rr⟩:=ok3.obj k _ a hk3 ea3;obtain⟨p,rfl,hp⟩:=El (Rl.mono g3.pre (g3.ku ok2) _ _ rw2);have G:=g1.trans (g2.trans g3);refine⟨us,_,p,rfl,h3,hp,by rw[rr.length];exact Se hb (p9 (SK _)),λu hu'=>?_,λhu'=>?_⟩
 ·rcases rr.val ks with⟨x',v',e1,e2,r'⟩ | ⟨_,e2⟩
  ·rw[hu']at e2;cases e2;exact q0 x' e1 as3 H3 _ G ok3 r'
  ·rw[hu']at e2;cases e2
 ·rcases rr.val ks with⟨x',v',e1,e2,r'⟩ | ⟨e1,_⟩
  ·rw[hu']at e2;cases e2
  ·rw[K0 _ hu'];obtain⟨ok4,ku⟩:=ok3.writeO (x := .dtl (kvs++[(ks,z)])) (u := .dT (us++[(ks.map Sum.inl,w3)])) hk3 ea3 (λku=>⟨_,c7,(RlT.mono (Sb _) ku kvs us rr).snoc (Rl.mono (Sb _) ku z w3 rw3)⟩);exact q1 e1 as3 _ _ (G.trans (Go.write (SB ea3))) ok4 (Rl.mono (Sb _) ku z w3 rw3)
theorem GP{X:Cx}{T:List Str}{Δ:Nat->Sn}{k:Nat}{N:List Str}{sc:Ve}{r:Expr}{p q:Pos}{a:WE×WT}(hu:X.A.units+2<cLine)(C:Cok T Δ X k N sc)(hg:glo sc "sorted"=true)(ha:Good X r a)(hs:c3 r=true):Good X (.Call (.Name "sorted" p) [r] [] q) (tt1 (Kd a.1)):=by
 unfold glo at hg;simp only[S8,beq_iff_eq,Sh]at hg;have gl:Gl X "sorted":=by show X.env.scope.names.lookup ("sorted":Str)=_;rw[C.hs];exact hg.1.1
 refine .one (e7 _ (m6 (D1 hu) gl (C.bl .sorted) Ih (o9 ha.pe AT (e8 hs)) (by decide) hg.2 (e8 hs) rfl) ?_) (DN ha.m) rfl;rintro σ H Q ⟨as,ρ,S,ok,en,h⟩;refine⟨as,ρ,S,ok,en,ha.m _ _ _ _ (λx S1 ⟨k,ls,f,g,e0,h1,h2,h3,q⟩ as1 H1 v g1 ok1 rv=>?_) h⟩;subst e0;obtain⟨a,us,rfl,ea,ha,rr⟩:=l8 ok1 rv h1;have rr':=rr;obtain⟨ps,rfl,l1,p1⟩:=Cc rr
 have all:∀(i:Nat) p',ps[i]?=some p'->∃ t,H1 p'=some (.lst (.int (f i)::t)):=λi p' z=>by
  obtain⟨l',e,e2⟩:=p1 i p' z;obtain⟨vs,z1,z2⟩:=ok1.obj l' _ p' (h2 i l' e) e2;obtain⟨v,t,rfl,w1,w2⟩:=rla_cons.mp z2;rw[rl_int.mp w1]at z1;exact⟨t,z1⟩
 exact⟨a,ps,f,rfl,SqL.of ha,all,λi j hij hj=>h3 i j hij (by omega),λl hl=>q _ _ _ (g1.trans (Go.push hl)) (ok1.push hl rr') (rl_loc.mpr ⟨l,by rw[<-ok1.len];exact Sf,rfl⟩)⟩
theorem Es{X:Cx}{ra rb:Expr}{p:Pos}{a b:WE×WT}(hu:X.A.units+1<cLine)(ha:Good X ra a)(hb:Good X rb b)(hn:m7 rb=true):Good X (.Subscript ra rb p) (tt1 (w2 Dq a.1 b.1)):=
 .one (e7 _ (HL hu ha.pe hb.pe (BG hn)) (A7 JC BH ha.m hb.m)) (.two BH ha.m hb.m) rfl
theorem GQ{X:Cx}{n:Bool}{ra rb:Expr}{p:Pos}{wa wb:WE}(hu:X.A.units+1<cLine)(ha:PE X ra (lift X.K wa))(hb:PE X rb (lift X.K wb))(ma:Mono wa)(mb:Mono wb)(hn:j9 rb=true):Good X (.Compare ra [if n then CmpOp.NotEq else CmpOp.Eq] [rb] p) (tt2 (w2 (EW n) wa wb)):=by
 have m:Mono (w2 (EW n) wa wb) := .two B4 ma mb
 have ho:OpR X (Vd (if n then CmpOp.NotEq else CmpOp.Eq)) (Hg X.K n):=by
  cases n
  ·exact N3 hu
  ·exact N4 hu
 exact{pe:=e7 _ (Gv ho ha hb (Ar hn)) (A7 Em B4 ma mb)
       pt:=CN _ (Gx ho ha hb (Ar hn)) λσ H Q h=>A7 Em B4 ma mb σ H _ (GF m σ H Q h)
       m:=m
       mt := .bl m
       pw:=λ_ _ _ e=>by cases e}
noncomputable def Ab(K:Rz)(g:Tg):TG:=λv σ H Q=>∃ as ρ S x,Ok K as H S/\EnvOk K as H σ ρ/\Rl K as H v x/\wTg g x ρ λρ'=>∀ σ',EnvOk K as H σ' ρ'->Q σ' H
noncomputable def Ph(K:Rz)(g:Tgs):TGs:=λvs σ H Q=>∃ as ρ S xs,Ok K as H S/\EnvOk K as H σ ρ/\RlAll K as H vs xs/\y9 g xs ρ λρ'=>∀ σ',EnvOk K as H σ' ρ'->Q σ' H
mutual
theorem j0:∀(g:Tg) {x:SV} {ρ:EnvS} {P P':EnvS->Prop},(∀ r,P r->P' r)->wTg g x ρ P->wTg g x ρ P'
 | .nm i,x,ρ,P,P',h,q=>by unfold wTg at q ⊢;exact h _ q
 | .tup ts,x,ρ,P,P',h,q=>by
   cases x with
   | tup xs=>unfold wTg at q ⊢;exact Et ts h q
   | _=>unfold wTg at q;exact q.elim
theorem Et:∀(g:Tgs) {x:List SV} {ρ:EnvS} {P P':EnvS->Prop},(∀ r,P r->P' r)->y9 g x ρ P->y9 g x ρ P'
 | .nil,x,ρ,P,P',h,q=>by
   cases x with
   | nil=>unfold y9 at q ⊢;exact h _ q
   | cons _ _=>unfold y9 at q;exact q.elim
 | .cons t ts,x,ρ,P,P',h,q=>by
   cases x with
   | nil=>unfold y9 at q;exact q.elim
   | cons y ys=>unfold y9 at q ⊢;exact j0 t (λr q=>Et ts h q) q
end
theorem As{env:Env}:∀{es:List Expr},es.all c3=true->(Vu es env).length=es.length/\(Vu es env).findIdx? (·.1)=none/\∀ e r,es=e::r->(Vu (e::r) env).map (·.2)=assign e env::(Vu r env).map (·.2)
 | [],_=>⟨rfl,rfl,λe r h=>by cases h⟩
 | e::es,h=>by
   rw[TN,S8]at h;obtain⟨h1,h2,_⟩:=As (env:=env) h.2;have:Vu (e::es) env=(false,assign e env)::Vu es env:=by cases e<;>first | rfl | (have:=h.1;cases this)
   rw[this];refine⟨by simp[h1],by rw[List.findIdx?_cons,h2];rfl,λe' r z=>?_⟩;injection z with z1 z2;subst z1 z2;rw[this];rfl
theorem Bt{k:Nat}{N:List Str}{sc:Ve}:∀{g:Tgs} {es:List Expr},y4 k N sc g es=true->es.all c3=true
 | .nil,es,h=>by unfold y4 at h;rw[T8]at h;subst h;rfl
 | .cons t ts,es,h=>by
   rw[y4]at h;replace h:=a3 h;obtain⟨e,he,h⟩:=h;simp only[S8]at h;rw[A9 he,TN,h.1.2,Bt h.2];rfl
section
variable{X:Cx}{T:List Str}{Δ:Nat->Sn}{k:Nat}{N:List Str}{sc:Ve}
mutual
theorem r6(C:Cok T Δ X k N sc):∀(g:Tg) (r:Expr),y2 k N sc g r=true->PG X r (Ab X.K g)
 | .nm i,r,h=>by
   rw[y2]at h;replace h:=a3 h;obtain⟨x,hx,h⟩:=h;obtain⟨p,rfl⟩:=BU hx
   ·simp only[S8,dQ]at h;obtain⟨⟨h1,h2⟩,h3⟩:=h;unfold loc at h3;simp only[Sz,beq_iff_eq]at h3;have hl:Loc X.env.scope x:=by rw[C.hs];exact h3
    have hf:X.fn x=true\/X.env.scope.names.lookup x=some .local:=by
     rw[C.hs];rcases h3 with h3 | h3
     ·exact .inr h3
     ·exact .inl (C.fn i x h1 h2 h3)
    have b:=MD (X:=X) (pos:=p) (i:=i) (by rw[C.hN];exact C.nd) (by rw[C.hN];exact h2) hl hf;intro pq s σ H v u Q I rr hq;obtain⟨as,ρ,S,y,ok,en,rv,q⟩:=hq;unfold wTg at q;exact b pq s σ H v u Q I rr (q _ (en.set rv))
 | .tup ts,r,h=>by
   rw[y2]at h;replace h:=a3 h;obtain⟨es,he,h⟩:=h;obtain⟨j,p,rfl⟩:=B1 he
   ·have st:=As (env:=X.env) (Bt h);have b:=Ob (X:=X) (k:=j) (pos:=p) C.calm (DO C ts es h) st.1 st.2.1;intro pq s σ H v u Q I rr hq;refine b pq s σ H v u Q I rr ?_;obtain⟨as,ρ,S,y,ok,en,rv,q⟩:=hq;cases y with
    | tup xs=>
      obtain⟨a,vs,rfl,ha,ra⟩:=rl_tup.mp rv;unfold wTg at q;refine⟨a,vs,rfl,SqT.of ha,?_,as,ρ,S,xs,ok,en,ra,q⟩;rw[ra.length];exact Hl ts es xs h q
    | _=>unfold wTg at q;exact q.elim
theorem DO(C:Cok T Δ X k N sc):∀(g:Tgs) (es:List Expr),y4 k N sc g es=true->PGs X es (Ph X.K g)
 | .nil,es,h=>by
   rw[y4]at h;rw[T8]at h;subst h;intro pq s σ H vs us Q I rr hq;refine ME pq s σ H vs us Q I rr ?_;obtain⟨as,ρ,S,xs,ok,en,rv,q⟩:=hq;cases xs with
   | nil=>unfold y9 at q;exact⟨rla_nil.mp rv,q _ en⟩
   | cons _ _=>unfold y9 at q;exact q.elim
 | .cons t ts,el,h=>by
   have st:=As (env:=X.env) (Bt h);rw[y4]at h;replace h:=a3 h;obtain⟨e,he,h⟩:=h;simp only[S8]at h;rw[A9 he]at st ⊢;generalize el.tail=es at h st;intro pq s σ H vs us Q I rr hq;refine Ja (r6 C t e h.1.1) (DO C ts es h.2) (st.2.2 _ _ rfl) pq s σ H vs us Q I rr ?_;obtain⟨as,ρ,S,xs,ok,en,rv,q⟩:=hq;cases xs with
   | nil=>unfold y9 at q;exact q.elim
   | cons y ys=>
     unfold y9 at q;obtain⟨v,r,rfl,r1,r2⟩:=rla_cons.mp rv;exact⟨v,r,rfl,as,ρ,S,y,ok,en,r1,j0 t (λρ' q σ' en'=>⟨as,ρ',S,ys,ok,en',r2,q⟩) q⟩
theorem Hl:∀(g:Tgs) (es:List Expr) (xs:List SV) {ρ:EnvS} {P:EnvS->Prop},y4 k N sc g es=true->y9 g xs ρ P->xs.length=es.length
 | .nil,es,xs,ρ,P,h,q=>by
   rw[y4]at h;rw[T8]at h;subst h;cases xs with
   | nil=>rfl
   | cons _ _=>unfold y9 at q;exact q.elim
 | .cons t ts,el,xs,ρ,P,h,q=>by
   rw[y4]at h;replace h:=a3 h;obtain⟨e,he,h⟩:=h;simp only[S8]at h;rw[A9 he];generalize el.tail=es at h;cases xs with
   | nil=>unfold y9 at q;exact q.elim
   | cons y ys=>
     unfold y9 at q;obtain⟨ρ',q'⟩:=Hm t q;simp[Hl ts es ys h.2 q']
theorem Hm:∀(g:Tg) {x:SV} {ρ:EnvS} {P:EnvS->Prop},wTg g x ρ P->∃ ρ',P ρ'
 | .nm i,x,ρ,P,q=>by unfold wTg at q;exact⟨_,q⟩
 | .tup ts,x,ρ,P,q=>by
   cases x with
   | tup xs=>unfold wTg at q;exact Eu ts q
   | _=>unfold wTg at q;exact q.elim
theorem Eu:∀(g:Tgs) {xs:List SV} {ρ:EnvS} {P:EnvS->Prop},y9 g xs ρ P->∃ ρ',P ρ'
 | .nil,xs,ρ,P,q=>by
   cases xs with
   | nil=>unfold y9 at q;exact⟨_,q⟩
   | cons _ _=>unfold y9 at q;exact q.elim
 | .cons t ts,xs,ρ,P,q=>by
   cases xs with
   | nil=>unfold y9 at q;exact q.elim
   | cons y ys=>
     unfold y9 at q;obtain⟨ρ',q'⟩:=Hm t q;exact Eu ts q'
end
end
structure Gu(as:List VU)(H:Hp)(as':List VU)(H':Hp):Prop where
 pre:as <+: as'
 kp:KeepU H H'
theorem Gu.ku{K:Rz}{as as':List VU}{H H':Hp}{S:Sto}(g:Gu as H as' H')(_:Ok K as H S):KeepU H H':=g.kp
theorem Go.gu{K:Rz}{as as':List VU}{H H':Hp}{S:Sto}(g:Go as H as' H')(ok:Ok K as H S):Gu as H as' H':=⟨g.pre,g.ku ok⟩
noncomputable def Walks(K:Rz)(as0:List VU)(H0:Hp)(J:It)(keep:Sto->Prop)(xs:List SV):Prop:=∀ as H S,Gu as0 H0 as H->Ok K as H S->keep S->
 (∀(i:Nat) (x:SV),xs[i]?=some x->J.go i H/\∀ v H',J.yld i H v H'->Go as H as H'/\Ok K as H' S/\Rl K as H' v x)/\J.stop xs.length H
noncomputable def RE(K:Rz)(as:List VU)(H:Hp)(R:It->Hp->Prop):(Sto->Prop)->List SV->Sto->Prop:=λkeep xs S1=>∀ as1 H1 J,Go as H as1 H1->Ok K as1 H1 S1->Walks K as1 H1 J keep xs->R J H1
noncomputable def liftI(K:Rz)(w:WI):TI:=λσ H R=>∃ as ρ S,Ok K as H S/\EnvOk K as H σ ρ/\w ρ S (RE K as H R)
noncomputable def MonoI(w:WI):Prop:=∀ ρ S (P P':(Sto->Prop)->List SV->Sto->Prop),(∀ k x S',P k x S'->P' k x S')->w ρ S P->w ρ S P'
structure GoodI(X:Cx)(tg r:Expr)(w:WI):Prop where
 pi:PI X tg r (liftI X.K w)
 m:MonoI w
section
variable{X:Cx}{K:Rz}
theorem Ev{as0 as:List VU}{H0 H:Hp}{S1 S:Sto}{x:SV}{v:V}{xs:List SV}(ok1:Ok K as0 H0 S1)(r:Rl K as0 H0 v x)(h:AH x S1=some xs)(g:Gu as0 H0 as H)(ok:Ok K as H S)(kp:CU x S1 S):Rl K as H v x/\AH x S=some xs:=by
 refine⟨Rl.mono g.pre (g.ku ok1) x v r,?_⟩;cases x with
 | loc k=>
   have kp:S[k]?=S1[k]?:=kp;unfold AH at h ⊢;simp only[kp];exact h
 | _=>exact h
theorem JD{as0:List VU}{H0:Hp}{S1:Sto}{x:SV}{a:VU}{xs:List SV}(ok1:Ok K as0 H0 S1)(r:Rl K as0 H0 (.ref a) x)(n:x ≠ .tup xs)(h:AH x S1=some xs):Walks K as0 H0 (Itl K a) (CU x S1) xs:=λas H S g ok kp=>by
 obtain⟨r',h'⟩:=Ev ok1 r h g ok kp;obtain⟨b,vs,e,hq,rr⟩:=A8 ok r' n h';cases e;refine⟨λi y hy=>?_,vs,hq,by rw[rr.length];exact SK _⟩;obtain⟨v,hv,rv⟩:=rr.get hy;refine⟨⟨vs,v,hq,hv⟩,λu H' yl=>?_⟩;obtain⟨e,yl⟩:=yl;subst e;have:=yl vs hq;rw[hv]at this;cases this;exact⟨Go.refl _ _,ok,rv⟩
theorem L8{as0:List VU}{H0:Hp}{S1:Sto}{a:VU}{xs:List SV}(ok1:Ok K as0 H0 S1)(r:Rl K as0 H0 (.ref a) (.tup xs)):Walks K as0 H0 (Itt K a) (CU (.tup xs) S1) xs:=λas H S g ok kp=>by
 have r':=Rl.mono g.pre (g.ku ok1) _ _ r;obtain⟨b,vs,e,hb,rr⟩:=rl_tup.mp r';cases e;refine⟨λi y hy=>?_,vs,SqT.of hb,by rw[rr.length];exact SK _⟩;obtain⟨v,hv,rv⟩:=rr.get hy;refine⟨⟨vs,v,SqT.of hb,hv⟩,λu H' yl=>?_⟩;obtain⟨e,yl⟩:=yl;subst e;have:=yl vs (SqT.of hb);rw[hv]at this;cases this;exact⟨Go.refl _ _,ok,rv⟩
theorem Ew{as0:List VU}{H0:Hp}{lo hi:Int}:Walks K as0 H0 (Itr lo (hi - lo).toNat) (λ_=>True) (Ao lo hi):=λas H S g ok _=>by
 have hl:(Ao lo hi).length=(hi - lo).toNat:=by unfold Ao;simp
 refine⟨λi y hy=>?_,by show(hi - lo).toNat<=(Ao lo hi).length;rw[hl];exact SK _⟩;have hi':i<(hi - lo).toNat:=by rw[<-hl];exact(gM hy).1
 refine⟨hi',λu H' yl=>?_⟩;obtain⟨e,rfl⟩:=yl;subst e
 have:y = .int (lo+i):=by
  unfold Ao at hy;rw[SL,TZ hi']at hy;exact(oj hy).symm
 subst this;exact⟨Go.refl _ _,ok,rl_int.mpr rfl⟩
theorem Ey{xs:List SV}{i:Nat}{y:SV}(h:(Ap xs)[i]?=some y):∃ x,xs[i]?=some x/\y = .tup [.int i,x]:=by
 unfold Ap at h;rw[Uc]at h;cases h1:(SE xs.length)[i]? with
 | none=>rw[h1]at h;cases h
 | some j=>
   cases h2:xs[i]? with
   | none=>rw[h1,h2]at h;cases h
   | some x=>
     rw[h1,h2]at h;have hi:=(gM h2).1;rw[TZ hi]at h1;cases h1;cases h;exact⟨x,rfl,rfl⟩
theorem Ez{xs:List SV}:(Ap xs).length=xs.length:=by unfold Ap;simp
theorem GR{as0:List VU}{H0:Hp}{S1:Sto}{x:SV}{a:VU}{xs:List SV}(ok1:Ok K as0 H0 S1)(r:Rl K as0 H0 (.ref a) x)(n:x ≠ .tup xs)(h:AH x S1=some xs):Walks K as0 H0 (Oz K a) (CU x S1) (Ap xs):=λas H S g ok kp=>by
 obtain⟨r',h'⟩:=Ev ok1 r h g ok kp;obtain⟨b,vs,e,hq,rr⟩:=A8 ok r' n h';cases e;refine⟨λi y hy=>?_,vs,hq,by rw[rr.length,Ez]⟩;obtain⟨z,hz,rfl⟩:=Ey hy;obtain⟨v,hv,rv⟩:=rr.get hz;refine⟨⟨vs,v,hq,hv⟩,λu H' yl=>?_⟩;obtain⟨p,w,hp,rfl,yl,rfl⟩:=yl;have:=yl vs hq;rw[hv]at this;cases this;exact⟨Go.new hp,ok.new hp,rl_tup.mpr ⟨p,_,rfl,c7,.cons (rl_int.mpr rfl) (.cons (Rl.mono (Sb _) (w6 hp) z v rv) .nil)⟩⟩
theorem GT{as0:List VU}{H0:Hp}{S1:Sto}{a:VU}{xs:List SV}(ok1:Ok K as0 H0 S1)(r:Rl K as0 H0 (.ref a) (.tup xs)):Walks K as0 H0 (P0 K a) (CU (.tup xs) S1) (Ap xs):=λas H S g ok kp=>by
 have r':=Rl.mono g.pre (g.ku ok1) _ _ r;obtain⟨b,vs,e,hb,rr⟩:=rl_tup.mp r';cases e;refine⟨λi y hy=>?_,vs,SqT.of hb,by rw[rr.length,Ez]⟩;obtain⟨z,hz,rfl⟩:=Ey hy;obtain⟨v,hv,rv⟩:=rr.get hz;refine⟨⟨vs,v,SqT.of hb,hv⟩,λu H' yl=>?_⟩;obtain⟨p,w,hp,rfl,yl,rfl⟩:=yl;have:=yl vs (SqT.of hb);rw[hv]at this;cases this;exact⟨Go.new hp,ok.new hp,rl_tup.mpr ⟨p,_,rfl,c7,.cons (rl_int.mpr rfl) (.cons (Rl.mono (Sb _) (w6 hp) z v rv) .nil)⟩⟩
theorem Ce{tg l:Expr}{w:TI}(w':TI)(h:PI X tg l w)(imp:∀ σ H R,w' σ H R->w σ H R):PI X tg l w':=λpq s σ H R I hw=>h pq s σ H R I (imp σ H R hw)
noncomputable def Rr(K:Rz)(tl:TE):TI:=λσ H R=>tl σ H λx H1=>∃ a,x = .ref a/\(((∃ xs,SqL K H1 a xs)/\R (Itl K a) H1)\/((∃ xs,SqT K H1 a xs)/\R (Itt K a) H1))
theorem Pi{tg l:Expr}{tl:TE}(hl:PE X l tl):PI X tg l (Rr X.K tl):=by
 intro pq s σ H R I h;refine thn (hl pq s σ H _ I h) λv s1 ⟨x,H1,I1,r1,q1⟩=>?_;obtain⟨a,e,q⟩:=q1;subst e;cases r1;have I2:∀{ob:Obj},Inv X pq σ H1 {s1 with heap:=s1.heap.push ob}:=I1.kept (t':=s1.toks) λb o e=>SD _ e
 have fp:∀ b∈[s1.heap.objs.size],FpOk X pq H1 b:=λb hb=>by
  rw[Sd.mp hb];exact I1.fpOk (SK _) (I1.hok.fresh (SK _))
 rcases q with⟨⟨xs,hq⟩,q⟩ | ⟨⟨xs,hq⟩,q⟩
 ·obtain⟨its,rv,p,hz⟩:=I1.list hq;exact WH p.isList ⟨s1.heap.objs.size,[s1.heap.objs.size],_,_,H1,rfl,I2,IK a _,⟨_,SW _ rfl,rfl,rfl⟩,fp,q⟩
 ·obtain⟨its,rv,p,hz⟩:=I1.tuple hq;exact W9 (show s1.heap.IsTuple a its.toArray from p) ⟨s1.heap.objs.size,[s1.heap.objs.size],_,_,H1,rfl,I2,Fc a _,⟨_,SW _ rfl,rfl,rfl⟩,fp,q⟩
theorem JE{tg r:Expr}{a:WE×WT}(ha:Good X r a):GoodI X tg r (O9 a.1) where
 m:=λρ S P P' i h=>ha.m _ _ _ _ (λx S1 ⟨xs,e,q⟩=>⟨xs,e,i _ _ _ q⟩) h
 pi:=Ce _ (Pi ha.pe) (by
  rintro σ H R ⟨as,ρ,S,ok,en,h⟩;refine⟨as,ρ,S,ok,en,ha.m _ _ _ _ (λx S1 ⟨xs,e,q⟩ as1 H1 v g1 ok1 rv=>?_) h⟩;by_cases ht:x = .tup xs
  ·subst ht;obtain⟨p,vs,rfl,hp,rr⟩:=rl_tup.mp rv;exact⟨p,rfl,.inr ⟨⟨vs,SqT.of hp⟩,q as1 H1 _ g1 ok1 (L8 ok1 rv)⟩⟩
  ·obtain⟨p,vs,rfl,hq,rr⟩:=A8 ok1 rv ht e;exact⟨p,rfl,.inl ⟨⟨vs,hq⟩,q as1 H1 _ g1 ok1 (JD ok1 rv ht e)⟩⟩)
theorem GU{T:List Str}{Δ:Nat->Sn}{k:Nat}{N:List Str}{sc:Ve}{elts:List Expr}{kx:Nat}{tp p q:Pos}{r:Expr}{a:WE×WT}(C:Cok T Δ X k N sc)(hg:glo sc "enumerate"=true)(ha:Good X r a)(hs:c3 r=true):GoodI X (.Tuple elts kx tp) (.Call (.Name "enumerate" p) [r] [] q) (Kc a.1) where
 m:=λρ S P P' i h=>ha.m _ _ _ _ (λx S1 ⟨xs,e,q⟩=>⟨xs,e,i _ _ _ q⟩) h
 pi:=by
  unfold glo at hg;simp only[S8,beq_iff_eq,Sh]at hg;have gl:Gl X "enumerate":=by show X.env.scope.names.lookup ("enumerate":Str)=_;rw[C.hs];exact hg.1.1
  refine Ce _ (MO gl C.enm (o9 ha.pe AT (e8 hs)) (e8 hs)) ?_;rintro σ H R ⟨as,ρ,S,ok,en,h⟩;refine⟨as,ρ,S,ok,en,ha.m _ _ _ _ (λx S1 ⟨xs,e,q⟩ as1 H1 v g1 ok1 rv=>?_) h⟩;by_cases ht:x = .tup xs
  ·subst ht;obtain⟨p,vs,rfl,hp,rr⟩:=rl_tup.mp rv;exact⟨p,rfl,.inr ⟨⟨vs,SqT.of hp⟩,q as1 H1 _ g1 ok1 (GT ok1 rv)⟩⟩
  ·obtain⟨p,vs,rfl,hq,rr⟩:=A8 ok1 rv ht e;exact⟨p,rfl,.inl ⟨⟨vs,hq⟩,q as1 H1 _ g1 ok1 (GR ok1 rv ht e)⟩⟩
theorem GV{T:List Str}{Δ:Nat->Sn}{k:Nat}{N:List Str}{sc:Ve}{tg r:Expr}{p q:Pos}{a:WE×WT}(C:Cok T Δ X k N sc)(hg:glo sc "range"=true)(ha:Good X r a)(hs:c3 r=true):GoodI X tg (.Call (.Name "range" p) [r] [] q) (Ka a.1) where
 m:=λρ S P P' i h=>ha.m _ _ _ _ (λx S1 ⟨j,e,z,q⟩=>⟨j,e,z,i _ _ _ q⟩) h
 pi:=by
  unfold glo at hg;simp only[S8,beq_iff_eq,Sh]at hg;have gl:Gl X "range":=by show X.env.scope.names.lookup ("range":Str)=_;rw[C.hs];exact hg.1.1
  refine Ce _ (IL gl C.rng (o9 ha.pe AT (e8 hs)) (e8 hs)) ?_;rintro σ H R ⟨as,ρ,S,ok,en,h⟩;refine⟨as,ρ,S,ok,en,ha.m _ _ _ _ (λx S1 ⟨j,e,z,q⟩ as1 H1 v g1 ok1 rv=>?_) h⟩;subst e;refine⟨j,by rw[rl_int.mp rv],z.1,z.2,?_⟩;have:=q as1 H1 (Itr 0 (j - 0).toNat) g1 ok1 Ew
  rwa [Int.sub_zero]at this
theorem GW{T:List Str}{Δ:Nat->Sn}{k:Nat}{N:List Str}{sc:Ve}{tg r r2:Expr}{p q:Pos}{a b:WE×WT}(C:Cok T Δ X k N sc)(hg:glo sc "range"=true)(ha:Good X r a)(hb:Good X r2 b)(hs:c3 r=true)(hs2:c3 r2=true):GoodI X tg (.Call (.Name "range" p) [r,r2] [] q) (Kb a.1 b.1) where
 m:=λρ S P P' i h=>ha.m _ _ _ _ (λx S1 h=>hb.m _ _ _ _ (λy S2 ⟨l,j,e,e2,z,q⟩=>⟨l,j,e,e2,z,i _ _ _ q⟩) h) h
 pi:=by
  unfold glo at hg;simp only[S8,beq_iff_eq,Sh]at hg;have gl:Gl X "range":=by show X.env.scope.names.lookup ("range":Str)=_;rw[C.hs];exact hg.1.1
  refine Ce _ (IM gl C.rng (o9 ha.pe (o9 hb.pe AT (e8 hs2)) (e8 hs)) (by rw[e8 hs,e8 hs2];rfl) (e8 hs2)) ?_;rintro σ H R ⟨as,ρ,S,ok,en,h⟩;refine⟨as,ρ,S,ok,en,ha.m _ _ _ _ (λx S1 h as1 H1 v g1 ok1 rv=>?_) h⟩;refine⟨as1,ρ,S1,ok1,en.mono g1.pre (g1.ku ok),hb.m _ _ _ _ (λy S2 ⟨l,j,e,e2,z,q⟩ as2 H2 u g2 ok2 ru=>?_) h⟩;subst e e2;exact⟨l,j,by rw[rl_int.mp rv,rl_int.mp ru],z,q as2 H2 _ (g1.trans g2) ok2 Ew⟩
theorem L9{as1:List VU}{H1:Hp}{a:VU}{k:Nat}{o:Obj}{us:List (List Key×V)}{kvs:List (List Int×SV)}(ea:as1[k]?=some a):Walks K as1 H1 (Itu a o us) (λS'=>S'[k]?=some (.dtf o us kvs)) (kvs.map λp=>SV.tup (p.1.map SV.int)):=λas H S g ok kp=>by
 have ea':as[k]?=some a:=by
  obtain⟨t,rfl⟩:=g.pre;rw[SY ((gM ea).1)];exact ea
 obtain⟨h1,h2⟩:=(show RlO K as H a (.dtf o us kvs) from ok.obj k _ a kp ea')
 refine⟨λi x hx=>?_,by rw[h2.length,S7];exact SK _,h1⟩;rw[SL]at hx;cases hp:kvs[i]? with
 | none=>rw[hp]at hx;cases hx
 | some p=>
   rw[hp]at hx;cases hx;obtain⟨v,hv⟩:=h2.get hp;refine⟨⟨(gM hv).1,h1⟩,λu H' yl=>?_⟩;obtain⟨rfl,q,b,hq,rfl,hb⟩:=yl;rw[hv]at hq;cases hq;refine⟨Go.refl _ _,ok,rl_tup.mpr ⟨b,_,rfl,hb,?_⟩⟩;rw[UO];exact RlAll.ints
theorem JF{tg r:Expr}{a:WE×WT}(ha:Good X r a):GoodI X tg r (OA a.1) where
 m:=λρ S P P' i h=>ha.m _ _ _ _ (λx S1 ⟨k,kvs,e,hk,q⟩=>⟨k,kvs,e,hk,λo us=>i _ _ _ (q o us)⟩) h
 pi:=Ce _ (R6 ha.pe) (by
  rintro σ H R ⟨as,ρ,S,ok,en,h⟩;refine⟨as,ρ,S,ok,en,ha.m _ _ _ _ (λx S1 ⟨k,kvs,e,hk,q⟩ as1 H1 v g1 ok1 rv=>?_) h⟩;subst e;obtain⟨a,ea,rfl⟩:=rl_loc.mp rv;obtain⟨us,h1,h2⟩:=ok1.obj k _ a hk ea;refine⟨a,us,rfl,h1,λo=>?_⟩;obtain⟨ok2,ku⟩:=ok1.writeO (x := .dtf o us kvs) (u := .frz o (.dT us)) hk ea (λku=>⟨c7,RlT.mono (Sb _) ku kvs us h2⟩);exact q o us as1 _ (Itu a o us) (g1.trans (Go.write (SB ea))) ok2 (L9 ea))
end
end Rf
namespace L2
open PySem PySem.Spec PyProof.Rows
noncomputable def SetXO(prog:VZ)(w:Vc)(o:Obj)(L:List Int):Prop:=
 ∃ es ep t,o.ExactSet/\o.data = .set es ep t/\ElemsOf (intKind prog w) es.toList/\es.size<scanBound/\t.fits es.size=true/\Tab w t/\(es.toList.map λe=>numOf e.2).Perm L
theorem SetXO.at{prog:VZ}{w:Vc}{o:Obj}{L:List Int}{h:Heap}{a:VU}(x:SetXO prog w o L)(e:h.get? a=some o):SetX prog w h a L:=let ⟨es,ep,t,r⟩:=x;⟨o,es,ep,t,e,r⟩
theorem SetX.obj{prog:VZ}{w:Vc}{L:List Int}{h:Heap}{a:VU}(x:SetX prog w h a L):∃ o,h.get? a=some o/\SetXO prog w o L:=let ⟨o,es,ep,t,e,r⟩:=x;⟨o,e,es,ep,t,r⟩
noncomputable def Hn(E iter2:Expr)(acc:VS)(env:Env):Sem Unit:=do
 let x <- eval iter2 env
 standAt iter2.pos
 let x <- Vk iter2 env x
 let _ <- runOwn (.compStart E 1 (<- holding [x] (pyIter x)) acc env) env
section
variable{prog:VZ}{w:Vc}{A:Vf}{elt tg iter tg2 iter2:Expr}{ifs ifs2:List Expr}{scope:Ve}{pos:Pos}
theorem BK{R:Result->VT->Prop}{s:VT}{it acc:VS}{env:Env}
 (h0:codeAny (VY prog w) A (.compLoop (.ListComp elt [⟨tg,iter,ifs,0⟩,⟨tg2,iter2,ifs2,0⟩] scope pos) 1 it acc env) R s)
 (h:VX (VY prog w) A (pyIter it) (λit' s'=>codeAny (VY prog w) A (.compLoop (.ListComp elt [⟨tg,iter,ifs,0⟩,⟨tg2,iter2,ifs2,0⟩] scope pos) 1 it' acc env) R s')
   (notedBy (VY prog w) A env λx s'=>R (.error x) s') s):
 codeAny (VY prog w) A (.compStart (.ListComp elt [⟨tg,iter,ifs,0⟩,⟨tg2,iter2,ifs2,0⟩] scope pos) 1 it acc env) R s:=by
 refine codeAny_of_tree ?_;show VX _ _ ((compStart (.ListComp elt [⟨tg,iter,ifs,0⟩,⟨tg2,iter2,ifs2,0⟩] scope pos) 1 it acc env).onRaise (λx=>do noteFrame x env;standAt theWindowsPlace)) _ _ s;refine wpAny_notedAt ?_;unfold compStart;show VX _ _ (ask >>= _) _ _ s;refine VR (wpAny_askSetting (wpAny_ite ?_));split
 ·first
   | exact VR (VV (VV (And.intro rfl h0)))
   | exact VV (And.intro rfl h0)
 ·first
   | exact VR (W8 (VR (Vx (VR (Vm h (λit' s' h'=>VV (And.intro rfl h')) λ_ _ x=>x)))))
   | (refine VR (W8 ?_);show VX _ _ (standAt iter2.pos >>= _) _ _ s;exact VR (Vx (VR (Vm h (λit' s' h'=>VV (And.intro rfl h')) λ_ _ x=>x))))
theorem N9:CForm prog w A (.ListComp elt [⟨tg,iter,ifs,0⟩,⟨tg2,iter2,ifs2,0⟩] scope pos) tg iter ifs (Hn (.ListComp elt [⟨tg,iter,ifs,0⟩,⟨tg2,iter2,ifs2,0⟩] scope pos) iter2) where
 turn:=λ_ _ _=>by
  unfold Hn;simp only[bind_assoc,pure_bind];rfl
 und:=λ_ _ _=>rfl
 den:=λ_ _ _=>rfl
 start:=λh0 h=>Wj h0 h
theorem cform2b:CForm prog w A (.ListComp elt [⟨tg,iter,ifs,0⟩,⟨tg2,iter2,ifs2,0⟩] scope pos) tg2 iter2 ifs2 (Nv elt) 1 where
 turn:=λ_ _ _=>by rfl
 und:=λ_ _ _=>rfl
 den:=λ_ _ _=>rfl
 start:=λh0 h=>BK h0 h
end
noncomputable def NA(wi2:TI)(g2:TG)(tt2:TT)(te:TE)(D:VU)(ys:List V)(σ:St)(H:Hp)(N:List V->Hp->Prop):Prop:=
 wi2 σ H λJ H1=>∃ W:Nat->Nat->List V->St->Hp->Prop,(∃ m,W 0 m ys σ H1)/\∀ i m zs σ H,W i m zs σ H->(J.stop i H/\N zs H)\/
  (J.go i H/\∃ N2:List V->St->Hp->Prop,(∀ zs' σ' H',N2 zs' σ' H'->∃ m',m'<m/\W (i+1) m' zs' σ' H')/\∀ x H',J.yld i H x H'->g2 x σ H' λσ2 H2=>tt2 σ2 H2 λb H3=>
    if b=true then te σ2 H3 λv H4=>H4 D=some (.lst zs)/\zs.length<VW/\N2 (zs++[v]) σ2 (upd H4 D (.lst (zs++[v]))) else N2 zs σ2 H3)
noncomputable def GX(wi:TI)(g:TG)(tt:TT)(wi2:TI)(g2:TG)(tt2:TT)(te:TE)(k:Nat)(js:List Nat):TE:=λσ H Q=>wi σ H λJ H1=>∀ D,H1 D=none->
 ∃ W:Nat->Nat->List V->Hp->Prop,(∃ m,W 0 m [] (upd H1 D (.lst [])))/\Fo J g tt (NA wi2 g2 tt2 te D) (AE k js σ) (λH=>Q (.ref D) H) W
section
variable{Y:Cx}{tg elt iter tg2 iter2:Expr}{ifs ifs2:List Expr}{scope:Ve}{pos:Pos}{g2:TG}{tt2:TT}{te:TE}{wi2:TI}
theorem LA(hc:Y.calm=true)(hi:PI Y tg2 iter2 wi2)(hg:PG Y tg2 g2)(ht:AU Y ifs2 tt2)(he:PE Y elt te)(hs:∀ x,Vk iter2 Y.env x=pure x){D:VU}{pq:List (VU×Obj)}{s:VT}{σ:St}{H:Hp}{ys:List V}{N:List V->Hp->Prop}(I:Inv Y pq σ H s)(hx:Y.xe=λ_ _=>False)
 (h:NA wi2 g2 tt2 te D ys σ H N):VX (VY Y.prog Y.w) Y.A (Hn (.ListComp elt [⟨tg,iter,ifs,0⟩,⟨tg2,iter2,ifs2,0⟩] scope pos) iter2 (.ref D) Y.env) (λ_ s1=>∃ σ1 a1 H1,Inv Y pq σ1 H1 s1/\N a1 H1) (λ_ _=>False) s:=by
 unfold Hn;have hi':=hi pq s σ H _ I h;rw[hx]at hi';refine VR (thn hi' λv s1 h1=>?_);refine VR (Vx ?_);rw[hs];refine VR (VV ?_);refine VR (Vl (thn h1 λitv s2 h2=>?_));obtain⟨it,fp,tn,J,H2,e,I2,T,st2,f2,W,⟨m0,w0⟩,turn⟩:=h2;subst e;refine VR (wpAny_runOwn (h:=none) ?_ ?_)
 rotate_left
 ·intro e;cases e
 have stat:∀{H':Hp},(∀ b∈fp,H' b=none)->∀ b∈fp,FpOk Y pq H' b:=λhn b hb=>⟨hn b hb,(f2 b hb).2⟩
 have loop:∀ R:Result->VT->Prop,(∀ s',(∃ σ1 a1 H1,Inv Y pq σ1 H1 s'/\N a1 H1)->R (.ok .next) s')->codeAny (VY Y.prog Y.w) Y.A (.compLoop (.ListComp elt [⟨tg,iter,ifs,0⟩,⟨tg2,iter2,ifs2,0⟩] scope pos) 1 (.ref it) (.ref D) Y.env) R s2:=λR hR=>by
  refine cform2b.loop (λn s'=>∃ i zs σ' H',Inv Y pq σ' H' s'/\tn i s'.heap/\(∀ b∈fp,H' b=none)/\W i n zs σ' H') ?_ m0 ⟨0,ys,σ,H2,I2,st2,λb hb=>(f2 b hb).1,w0⟩;rintro n s3 ⟨i,zs,σ3,H3,I3,st3,fr3,w3⟩;rcases turn i n zs σ3 H3 w3 with⟨stop,qn⟩ | ⟨go,N2,hN,step⟩
  ·refine thn (T.done Y rfl rfl rfl hc i pq s3 σ3 H3 _ I3 (stat fr3) st3 stop) λr s4 ⟨hr,I4⟩=>?_;subst hr;exact hR _ ⟨_,_,_,I4,qn⟩
  ·refine thn (T.item Y rfl rfl rfl hc i pq s3 σ3 H3 _ I3 (stat fr3) st3 go) λr s4 ⟨u,hr,h4⟩=>?_;subst hr;refine thn h4 λ_ s5 ⟨x,H5,I5,r5,y5,st5,fr5⟩=>?_;have I5':=I5.pinned (stat fr5) (T.obj _ _ st5);have e1:=hg _ s5 σ3 H5 x u _ I5' r5 (step x H5 y5);rw[hx]at e1;refine thn e1 λ_ s6 ⟨σ6,H6,I6,q6⟩=>?_;have e2:=ht _ s6 σ6 H6 _ I6 q6;rw[hx]at e2;refine thn e2 λb s7 ⟨H7,I7,q7⟩=>?_
   have again:∀{σ7:St} {H7:Hp} {s7:VT} {zs7:List V},Inv Y (pq++Af fp s5.heap) σ7 H7 s7->N2 zs7 σ7 H7->∃ m,m<n/\∃ i zs σ' H',Inv Y pq σ' H' s7/\tn i s7.heap/\(∀ b∈fp,H' b=none)/\W i m zs σ' H':=λ{σ7 H7 s7 zs7} I7 n7=>by
    obtain⟨m',hm,w7⟩:=hN zs7 σ7 H7 n7;refine⟨m',hm,i+1,zs7,σ7,H7,I7.unpinned,T.keep _ _ _ st5 λb hb o e=>(I7.pin (b,o) (Si _ (Si _ (t5 hb e)))).1,λb hb=>?_,w7⟩;obtain⟨o,e,d⟩:=T.obj _ _ st5 b hb;exact(I7.pin (b,o) (Si _ (Si _ (t5 hb e)))).2.1
   cases b with
   | false=>
     rw[iG SH];rw[iG SH]at q7;exact again I7 q7
   | true=>
     rw[iP rfl];rw[iP rfl]at q7;have e3:=he _ s7 σ6 H7 _ I7 q7;rw[hx]at e3;refine VR (thn e3 λy s8 ⟨v,H8,I8,r8,hD8,hz8,q8⟩=>?_);have e4:=Ay (X:=Y) _ s8 σ6 H8 (.ref D) [v] (.ref D) [y] (λ_ H9=>H9=upd H8 D (.lst (zs++[v]))) I8 rfl (.cons r8 .nil) ⟨_,zs,v,rfl,rfl,hD8,hz8,rfl⟩;rw[hx]at e4;refine VR (thn e4 λ_ s9 ⟨z,H9,I9,r9,e9⟩=>?_);subst e9;exact VV (again I9 q8)
 show codeAny _ (Y.A.mark none) _ _ s2;have hm:Y.A.mark none=Y.A:=rfl;rw[hm];refine cform2b.start (loop _ λs' h=>VV h) (T.self _ 0 _ _ _ st2 (loop _ λs' h=>VV h))
end
section
variable{X:Cx}{pq:List (VU×Obj)}{σ:St}{H2:Hp}{s2:VT}{tg elt iter tg2 iter2:Expr}{ifs ifs2:List Expr}{scope:Ve}{pos:Pos}{own cn:List Str}{js:List Nat}{g g2:TG}{tt tt2:TT}{te:TE}{wi2:TI}
theorem C5(hok:j3 X.env.scope scope own cn X.N js=true)(hc:X.calm=true)
 (hg:∀ s2 H2 cs C fp,PG (a7 X scope (own++cn) s2 H2 cs C fp) tg g) (ht:∀ s2 H2 cs C fp,AU (a7 X scope (own++cn) s2 H2 cs C fp) ifs tt) (hi2:∀ s2 H2 cs C fp,PI (a7 X scope (own++cn) s2 H2 cs C fp) tg2 iter2 wi2) (hg2:∀ s2 H2 cs C fp,PG (a7 X scope (own++cn) s2 H2 cs C fp) tg2 g2) (ht2:∀ s2 H2 cs C fp,AU (a7 X scope (own++cn) s2 H2 cs C fp) ifs2 tt2) (he:∀ s2 H2 cs C fp,PE (a7 X scope (own++cn) s2 H2 cs C fp) elt te)
 (hs2:∀ s2 H2 cs C fp x,Vk iter2 (a7 X scope (own++cn) s2 H2 cs C fp).env x=pure x)
 (I2:Inv X pq σ H2 s2) {it:VU} {fp:List VU} {tn:Nat->Heap->Prop} {J:It} (T:Turn X.prog X.w X.K tg J fp it tn) (st2:tn 0 s2.heap) (f2:∀ b∈fp,FpOk X pq H2 b)
 {Qe:Hp->Prop} (hW:∃ W:Nat->Nat->List V->Hp->Prop,(∃ m,W 0 m [] (upd H2 s2.heap.objs.size (.lst [])))/\Fo J g tt (NA wi2 g2 tt2 te s2.heap.objs.size) (AE own.length js σ) Qe W)
 {RR:VS->VU->Result->VT->Prop}
 (hRR:∀ C H' s',Inv X pq σ H' s'->FpOk X pq H' C->(∃ m,s'.heap.Ns C m)->Qe H'->RR (.ref s2.heap.objs.size) C (.ok .next) s'):
 VX (VY X.prog X.w) X.A (newList []) (λacc s₃=>VX (VY X.prog X.w) X.A (WD scope X.env.globals (n8 X.env scope.names []) [] X.env.qual none .none (some X.env)) (λcenv s₄=>
  codeAny (VY X.prog X.w) X.A (.compStart (.ListComp elt [⟨tg,iter,ifs,0⟩,⟨tg2,iter2,ifs2,0⟩] scope pos) 0 (.ref it) acc {cenv with scope:=relabel scope X.env}) (RR acc cenv.locals) s₄) X.xe s₃) X.xe s2:=
 C4 (RR:=RR) (a0:=[]) (o0:={cls := .type "list",dict:=none,data := .seq ([]:List VS).toArray}) (u0 := .lst []) (tem:=NA wi2 g2 tt2 te) N9 (λhq=>Vh hq) rfl (λ_ _ hD=>⟨Tf _,[],0,.nil,hD⟩) hok hc hg ht (λD s2 H2 cs C fp pq s σ H ys N I h=>LA (Y:=a7 X scope (own++cn) s2 H2 cs C fp) hc (hi2 s2 H2 cs C fp) (hg2 s2 H2 cs C fp) (ht2 s2 H2 cs C fp) (he s2 H2 cs C fp) (hs2 s2 H2 cs C fp) I rfl h) I2 T st2 f2 hW hRR
theorem LB{wi:TI}(own cn:List Str)(js:List Nat)(hi:PI X tg iter wi)(hg:∀ s2 H2 cs C fp,PG (a7 X scope (own++cn) s2 H2 cs C fp) tg g)(ht:∀ s2 H2 cs C fp,AU (a7 X scope (own++cn) s2 H2 cs C fp) ifs tt)
 (hi2:∀ s2 H2 cs C fp,PI (a7 X scope (own++cn) s2 H2 cs C fp) tg2 iter2 wi2) (hg2:∀ s2 H2 cs C fp,PG (a7 X scope (own++cn) s2 H2 cs C fp) tg2 g2) (ht2:∀ s2 H2 cs C fp,AU (a7 X scope (own++cn) s2 H2 cs C fp) ifs2 tt2)
 (he:∀ s2 H2 cs C fp,PE (a7 X scope (own++cn) s2 H2 cs C fp) elt te) (hs2:∀ s2 H2 cs C fp x,Vk iter2 (a7 X scope (own++cn) s2 H2 cs C fp).env x=pure x) (hc:X.calm=true:=by rfl) (hok:j3 X.env.scope scope own cn X.N js=true:=by kernel_rfl)
 (hs:∀ x,Vk iter X.env x=pure x:=by intro _;rfl):PE X (.ListComp elt [⟨tg,iter,ifs,0⟩,⟨tg2,iter2,ifs2,0⟩] scope pos) (GX wi g tt wi2 g2 tt2 te own.length js):=by
 intro pq s σ H Q I h;have hok':=hok;unfold j3 at hok';simp only[S8,dQ,SZ,Sz,Sh,decide_eq_false_iff_not]at hok';obtain⟨⟨⟨⟨⟨⟨k1,k2⟩,k3⟩,k4⟩,k5⟩,k6⟩,k7⟩:=hok'
 have hfree:∀ x∈scope.names,x.2 = .free->∃ c,X.env.cells.lookup x.1=some c:=λx hx hf=>I.ok.has x.1 (by
  rcases k2 x hx with(z | z) | z
  ·exact absurd hf z
  ·exact .inl z
  ·exact .inr z)
 rw[eval_ListComp];refine W0 (use:=none) rfl hs (l9 hfree) k1 (λx hx hl=>?_) (thn (hi pq s σ H _ I h) λv s1 h1=>thn h1 λitv s2 h2=>?_)
 ·have:=g0 k3 (show(x.1,x.2)∈scope.names from hx);rw[this,hl]
 ·obtain⟨it,fp,tn,J,H2,e,I2,T,st2,f2,q⟩:=h2;subst e;refine C5 (RR:=λacc C=>Xf (VY X.prog X.w) X.A X.xe none (EP X pq σ Q) acc C) hok hc hg ht hi2 hg2 ht2 he hs2 I2 T st2 f2 (q _ I2.fresh) ?_;intro C H' s' I' fC ⟨m,hn⟩ q';obtain⟨f0,f1,f2',f3,f4,f5⟩:=fC;refine⟨m,hn,λh' hs'=>⟨.ref s2.heap.objs.size,H',?_,rfl,q'⟩⟩;exact I'.turned (t':=s'.toks) (λb o hb e=>(hs'.2 b hb).trans e) f0 f1 f3 f4 f5
theorem F0{wi:TI}{i:Nat}{x:Str}{px spos:Pos}(own cn:List Str)(js:List Nat)(hN:X.N.Nodup)(hix:X.N[i]?=some x)(hx:X.env.scope.names.lookup x=some .local)(hi:PI X tg iter wi)
 (hg:∀ s2 H2 cs C fp,PG (a7 X scope (own++cn) s2 H2 cs C fp) tg g) (ht:∀ s2 H2 cs C fp,AU (a7 X scope (own++cn) s2 H2 cs C fp) ifs tt)
 (hi2:∀ s2 H2 cs C fp,PI (a7 X scope (own++cn) s2 H2 cs C fp) tg2 iter2 wi2) (hg2:∀ s2 H2 cs C fp,PG (a7 X scope (own++cn) s2 H2 cs C fp) tg2 g2) (ht2:∀ s2 H2 cs C fp,AU (a7 X scope (own++cn) s2 H2 cs C fp) ifs2 tt2)
 (he:∀ s2 H2 cs C fp,PE (a7 X scope (own++cn) s2 H2 cs C fp) elt te) (hs2:∀ s2 H2 cs C fp x,Vk iter2 (a7 X scope (own++cn) s2 H2 cs C fp).env x=pure x) (hc:X.calm=true:=by rfl) (hok:j3 X.env.scope scope own cn X.N js=true:=by kernel_rfl)
 (hsw:Vv (.ListComp elt [⟨tg,iter,ifs,0⟩,⟨tg2,iter2,ifs2,0⟩] scope pos) (some (.Name x px)) spos.line X.env=pure true:=by rfl)
 (hs:∀ x,Vk iter X.env x=pure x:=by intro _;rfl):PS X (.Assign [.Name x px] (.ListComp elt [⟨tg,iter,ifs,0⟩,⟨tg2,iter2,ifs2,0⟩] scope pos) spos) (Fb (GX wi g tt wi2 g2 tt2 te own.length js) (EI i)):=by
 intro pq s σ H D I h;have hok':=hok;unfold j3 at hok';simp only[S8,dQ,SZ,Sz,Sh,decide_eq_false_iff_not]at hok';obtain⟨⟨⟨⟨⟨⟨k1,k2⟩,k3⟩,k4⟩,k5⟩,k6⟩,k7⟩:=hok'
 have hfree:∀ x∈scope.names,x.2 = .free->∃ c,X.env.cells.lookup x.1=some c:=λx hx hf=>I.ok.has x.1 (by
  rcases k2 x hx with(z | z) | z
  ·exact absurd hf z
  ·exact .inl z
  ·exact .inr z)
 rw[Wq _ _ _ _ hsw];refine VR (Vx (VR ?_));show VX _ X.A (do let _ <- comprehension (.ListComp elt [⟨tg,iter,ifs,0⟩,⟨tg2,iter2,ifs2,0⟩] scope pos) scope X.env _ (newList []) false (eval iter X.env) (some (assign (.Name x px) X.env))) _ _ s
 refine VR (Vm (W0 (use:=some (assign (.Name x px) X.env)) (Q:=λ_ s'=>SP X pq D .next s') rfl hs (l9 hfree) k1 (λx hx hl=>?_)
  (thn (hi pq s σ H _ I h) λv s1 h1=>thn h1 λitv s2 h2=>?_)) (λ_ s' hq=>VV (VV hq)) λ_ _ e=>e)
 ·have:=g0 k3 (show(x.1,x.2)∈scope.names from hx);rw[this,hl]
 ·obtain⟨it,fp,tn,J,H2,e,I2,T,st2,f2,q⟩:=h2;subst e;refine C5 (RR:=λacc C=>Xf (VY X.prog X.w) X.A X.xe (some (assign (.Name x px) X.env)) (λ_ s'=>SP X pq D .next s') acc C) hok hc hg ht hi2 hg2 ht2 he hs2 I2 T st2 f2 (q _ I2.fresh) ?_;intro C H' s' I' fC ⟨m,hn⟩ q';obtain⟨f0,f1,f2',f3,f4,f5⟩:=fC;show VX _ X.A (assign (.Name x px) X.env (.ref s2.heap.objs.size)) _ _ _;refine Wa (Bg I' hN hix (.inl hx) (v := .ref s2.heap.objs.size) rfl (λs3 I3 hch=>?_) (.inr hx));obtain⟨a,hsb,ha⟩:=hch
  have hCa:C≠a:=by
   rcases ha with z | z
   ·rw[z];exact f1
   ·exact λe=>f4 x a z e.symm
  refine⟨m,hn.sameBut hsb hCa,λh' hs'=>?_⟩;exact⟨_,H',I3.turned (t':=s3.toks) (λb o hb e=>(hs'.2 b hb).trans e) f0 f1 f3 f4 f5,q'⟩
end
end L2
namespace Rf
open PySem L2
theorem JG{α:Type}{o:Option (Option α)}{x:α}(h:o.join=some x):o=some (some x):=by
 cases o with
 | none=>cases h
 | some o=>cases o with
   | none=>cases h
   | some y=>cases h;rfl
theorem EnvOk.cap{K:Rz}{as:List VU}{H:Hp}{σ:St}{ρ:EnvS}(h:EnvOk K as H σ ρ)(k:Nat)(js:List Nat):EnvOk K as H (AE k js σ) (BF k js ρ):=by
 refine⟨by unfold AE BF;simp,λi x e=>?_⟩;unfold BF at e;unfold AE;by_cases hi:i<k
 ·rw[SY (by simpa using hi),Th,iP hi]at e;cases e
 ·rw[So (by simpa using hi),U2,SL]at e;rw[So (by simpa using hi),U2,SL];cases hj:js[i - k]? with
  | none=>rw[hj]at e;cases e
  | some j=>
    rw[hj]at e;have e':(ρ[j]?).join=some x:=oj e;obtain⟨v,hv,rv⟩:=h.2 j x (JG e');exact⟨v,by simp only[Ta];rw[hv];rfl,rv⟩
theorem Ok.adopt{K:Rz}{as:List VU}{H:Hp}{S:Sto}{D:VU}{vs:List V}{xs:List SV}(h:Ok K as H S)(n:D∉as)(hD:H D=some (.lst vs))(r:RlAll K as H vs xs):Ok K (as++[D]) H (S++[.lst xs]):=by
 have pre:as <+: as++[D]:=Tc _ _;refine⟨by rw[SA,SA,h.len];rfl,?_,λk o a e ea=>?_⟩
 ·rw[UD];refine⟨h.nd,by simp,λa ha b hb=>?_⟩;rw[Sd.mp hb];intro z;subst z;exact n ha
 ·by_cases hk:k<S.length
  ·rw[SY hk]at e;rw[SY (by rw[h.len];exact hk)]at ea;exact(h.obj k o a e ea).mono pre (KeepU.refl _) λ_ z=>z
  ·have hk':k=S.length:=by
    have:=(gM e).1;rw[SA,Sr]at this;omega
   subst hk';rw[Sf]at e;rw[<-h.len,Sf]at ea;cases e;cases ea;exact⟨vs,hD,RlAll.mono pre (KeepU.refl _) xs vs r⟩
theorem BL{keep:Sto->Prop}{g:Tg}{t:WT}{e:WE}{ρ:EnvS}(mt:MonoT t)(me:Mono e){Q Q':List SV->Sto->Prop}(i:∀ ys S,Q ys S->Q' ys S):∀(xs ys:List SV) (S:Sto),m5 keep g t e ρ Q xs ys S->m5 keep g t e ρ Q' xs ys S
 | [],ys,S,h=>by unfold m5 at h ⊢;exact⟨h.1,i _ _ h.2⟩
 | x::xs,ys,S,h=>by
   unfold m5 at h ⊢;refine⟨h.1,j0 g (λρ2 q=>mt _ _ _ _ (λb S1 q=>g8 (λq=>me _ _ _ _ (λy S2 q=>⟨q.1,BL mt me i xs _ _ q.2⟩) q) (λq=>BL mt me i xs _ _ q) q) q) h.2⟩
theorem Mono.comp{k:Nat}{js:List Nat}{g:Tg}{i:WI}{t:WT}{e:WE}(mi:MonoI i)(mt:MonoT t)(me:Mono e):Mono (HX k js g i t e):=λρ S P P' im h=>mi _ _ _ _ (λkeep xs S1 h=>BL mt me (λys S2 q=>im _ _ q) xs [] S1 h) h
theorem F1{K:Rz}{k:Nat}{js:List Nat}{g:Tg}{i:WI}{t:WT}{e:WE}(mi:MonoI i)(mt:MonoT t)(me:Mono e):∀ σ H Q,lift K (HX k js g i t e) σ H Q->Jx (liftI K i) (Ab K g) (liftT K t) (lift K e) k js σ H Q:=by
 rintro σ H Q ⟨as,ρ,S,ok,en,h⟩;refine⟨as,ρ,S,ok,en,mi _ _ _ _ (λkeep xs S1 h as1 H1 J g1 ok1 W=>?_) h⟩;intro D hD;have Dn:D∉as1:=ok1.free hD
 refine⟨λi m vs H2=>m=xs.length - i/\i<=xs.length/\∃ as2 S2 ys,Go as1 H1 as2 H2/\Ok K as2 H2 S2/\D∉as2/\H2 D=some (.lst vs)/\RlAll K as2 H2 vs ys/\
  m5 keep g t e (BF k js ρ) (λys S2=>Post K as H Q (.loc S2.length) (S2++[.lst ys])) (xs.drop i) ys S2,⟨xs.length,by simp,Tf _,as1,S1,[],Go.new hD,ok1.new hD,Dn,c7,.nil,h⟩,?_⟩
 rintro i m vs H2 ⟨rfl,hi,as2,S2,ys,g2,ok2,n2,d2,rs,h⟩;by_cases hlt:i<xs.length
 ·right;rw[Tp hlt]at h;unfold m5 at h;obtain⟨kp,h⟩:=h;obtain⟨w1,_⟩:=W as2 H2 S2 (g2.gu ok1) ok2 kp;obtain⟨go,yl⟩:=w1 i xs[i] (SC hlt)
  refine⟨go,λvs' H'=>∃ as2 S2 ys,Go as1 H1 as2 H'/\Ok K as2 H' S2/\D∉as2/\H' D=some (.lst vs')/\RlAll K as2 H' vs' ys/\
   m5 keep g t e (BF k js ρ) (λys S2=>Post K as H Q (.loc S2.length) (S2++[.lst ys])) (xs.drop (i+1)) ys S2,λvs' H' z=>⟨xs.length - (i+1),by omega,rfl,hlt,z⟩,λx H3 y3=>?_⟩
  obtain⟨g3,ok3,rx⟩:=yl x H3 y3;have en3:EnvOk K as2 H3 (AE k js σ) (BF k js ρ):=((en.mono g1.pre (g1.ku ok)).mono (g2.trans g3).pre ((g2.trans g3).ku ok1)).cap k js;have rs3:=RlAll.mono g3.pre (g3.ku ok2) ys vs rs;obtain⟨d3,n3⟩:=g3.keep D _ d2 n2;refine⟨as2,BF k js ρ,S2,_,ok3,en3,rx,j0 g (λρ2 q σ2 en2=>?_) h⟩;refine⟨as2,ρ2,S2,ok3,en2,mt _ _ _ _ (λb S4 q as4 H4 g4 ok4=>?_) q⟩;obtain⟨d4,n4⟩:=g4.keep D _ d3 n3;have rs4:=RlAll.mono g4.pre (g4.ku ok3) ys vs rs3;refine g8 (λq=>?_) (λq=>?_) q
  ·refine⟨as4,ρ2,S4,ok4,en2.mono g4.pre (g4.ku ok3),me _ _ _ _ (λy S5 q as5 H5 v g5 ok5 rv=>?_) q⟩;obtain⟨d5,n5⟩:=g5.keep D _ d4 n4;have rs5:=RlAll.mono g5.pre (g5.ku ok4) ys vs rs4;refine⟨d5,by rw[rs.length];exact Bp q.1,as5,S5,ys++[y],?_,ok5.other d5 n5,n5,c7,?_,q.2⟩
   ·refine⟨(((g2.trans g3).trans g4).trans g5).pre,λb o hb nb=>?_⟩;obtain⟨z1,z2⟩:=(((g2.trans g3).trans g4).trans g5).keep b o hb nb;exact⟨by rw[a8 (c6 hb hD)];exact z1,z2⟩
   ·exact RlAll.mono (Sb _) (Az d5 rfl) _ _ (rs5.append (.cons rv .nil))
  ·exact⟨as4,S4,ys,(g2.trans g3).trans g4,ok4,n4,d4,rs4,q⟩
 ·left;have hi':i=xs.length:=by omega
  subst hi';rw[UH]at h;unfold m5 at h;obtain⟨kp,h⟩:=h;obtain⟨_,w2⟩:=W as2 H2 S2 (g2.gu ok1) ok2 kp;refine⟨w2,h (as2++[D]) H2 (.ref D) ?_ (ok2.adopt n2 d2 rs) (rl_loc.mpr ⟨D,by rw[<-ok2.len,Sf],rfl⟩)⟩;refine⟨(g1.pre.trans g2.pre).trans (Tc _ _),λb o hb nb=>?_⟩;obtain⟨h1,n1⟩:=g1.keep b o hb nb;obtain⟨h2,n2'⟩:=g2.keep b o h1 n1;refine⟨h2,?_⟩;rw[Sg,Sd];rintro(z | z)
  ·exact n2' z
  ·exact c6 h1 hD z
theorem AA{keep:Sto->Prop}{g:Tg}{t:WT}{e:WE}(mt:MonoT t)(me:Mono e){Q Q':List SV->Sto->Prop}(i:∀ ys S,Q ys S->Q' ys S):∀(xs:List SV) (ρ:EnvS) (ys:List SV) (S:Sto),j6 keep g t e Q xs ρ ys S->j6 keep g t e Q' xs ρ ys S
 | [],ρ,ys,S,h=>by unfold j6 at h ⊢;exact⟨h.1,i _ _ h.2⟩
 | x::xs,ρ,ys,S,h=>by
   unfold j6 at h ⊢;refine⟨h.1,j0 g (λρ2 q=>mt _ _ _ _ (λb S1 q=>g8 (λq=>me _ _ _ _ (λy S2 q=>⟨q.1,AA mt me i xs _ _ _ q.2⟩) q) (λq=>AA mt me i xs _ _ _ q) q) q) h.2⟩
theorem At{keep:Sto->Prop}{g g2:Tg}{t t2:WT}{i2:WI}{e:WE}{ρ:EnvS}(mt:MonoT t)(mi2:MonoI i2)(mt2:MonoT t2)(me:Mono e){Q Q':List SV->Sto->Prop}(i:∀ ys S,Q ys S->Q' ys S):∀(xs ys:List SV) (S:Sto),i9 keep g t g2 i2 t2 e ρ Q xs ys S->i9 keep g t g2 i2 t2 e ρ Q' xs ys S
 | [],ys,S,h=>by unfold i9 at h ⊢;exact⟨h.1,i _ _ h.2⟩
 | x::xs,ys,S,h=>by
   unfold i9 at h ⊢;refine⟨h.1,j0 g (λρ2 q=>mt _ _ _ _ (λb S1 q=>g8 (λq=>mi2 _ _ _ _ (λkeep2 xs2 S2 q=>AA mt2 me (λys' S3 q=>At mt mi2 mt2 me i xs _ _ q) _ _ _ _ q) q) (λq=>At mt mi2 mt2 me i xs _ _ q) q) q) h.2⟩
theorem Mono.comp2{k:Nat}{js:List Nat}{g g2:Tg}{i i2:WI}{t t2:WT}{e:WE}(mi:MonoI i)(mt:MonoT t)(mi2:MonoI i2)(mt2:MonoT t2)(me:Mono e):Mono (Ds k js g i t g2 i2 t2 e):=λρ S P P' im h=>mi _ _ _ _ (λkeep xs S1 h=>At mt mi2 mt2 me (λys S2 q=>im _ _ q) xs [] S1 h) h
theorem DP{K:Rz}{k:Nat}{js:List Nat}{g g2:Tg}{i i2:WI}{t t2:WT}{e:WE}(mi:MonoI i)(mt:MonoT t)(mi2:MonoI i2)(mt2:MonoT t2)(me:Mono e):∀ σ H Q,lift K (Ds k js g i t g2 i2 t2 e) σ H Q->GX (liftI K i) (Ab K g) (liftT K t) (liftI K i2) (Ab K g2) (liftT K t2) (lift K e) k js σ H Q:=by
 rintro σ H Q ⟨as,ρ,S,ok,en,h⟩;refine⟨as,ρ,S,ok,en,mi _ _ _ _ (λkeep xs S1 h as1 H1 J g1 ok1 W=>?_) h⟩;intro D hD;have Dn:D∉as1:=ok1.free hD
 refine⟨λi m vs H2=>m=xs.length - i/\i<=xs.length/\∃ as2 S2 ys,Go as1 H1 as2 H2/\Ok K as2 H2 S2/\D∉as2/\H2 D=some (.lst vs)/\RlAll K as2 H2 vs ys/\
  i9 keep g t g2 i2 t2 e (BF k js ρ) (λys S2=>Post K as H Q (.loc S2.length) (S2++[.lst ys])) (xs.drop i) ys S2,⟨xs.length,by simp,Tf _,as1,S1,[],Go.new hD,ok1.new hD,Dn,c7,.nil,h⟩,?_⟩
 rintro i m vs H2 ⟨rfl,hi,as2,S2,ys,g2,ok2,n2,d2,rs,h⟩;by_cases hlt:i<xs.length
 ·right;rw[Tp hlt]at h;unfold i9 at h;obtain⟨kp,h⟩:=h;obtain⟨w1,_⟩:=W as2 H2 S2 (g2.gu ok1) ok2 kp;obtain⟨go,yl⟩:=w1 i xs[i] (SC hlt)
  refine⟨go,λvs' H'=>∃ as2 S2 ys,Go as1 H1 as2 H'/\Ok K as2 H' S2/\D∉as2/\H' D=some (.lst vs')/\RlAll K as2 H' vs' ys/\
   i9 keep g t _ i2 t2 e (BF k js ρ) (λys S2=>Post K as H Q (.loc S2.length) (S2++[.lst ys])) (xs.drop (i+1)) ys S2,λvs' H' z=>⟨xs.length - (i+1),by omega,rfl,hlt,z⟩,λx H3 y3=>?_⟩
  obtain⟨g3,ok3,rx⟩:=yl x H3 y3;have en3:EnvOk K as2 H3 (AE k js σ) (BF k js ρ):=((en.mono g1.pre (g1.ku ok)).mono (g2.trans g3).pre ((g2.trans g3).ku ok1)).cap k js;have rs3:=RlAll.mono g3.pre (g3.ku ok2) ys vs rs;obtain⟨d3,n3⟩:=g3.keep D _ d2 n2;refine⟨as2,BF k js ρ,S2,_,ok3,en3,rx,j0 g (λρ2 q σ2 en2=>?_) h⟩;refine⟨as2,ρ2,S2,ok3,en2,mt _ _ _ _ (λb S4 q as4 H4 g4 ok4=>?_) q⟩;obtain⟨d4,n4⟩:=g4.keep D _ d3 n3;have rs4:=RlAll.mono g4.pre (g4.ku ok3) ys vs rs3;refine g8 (λq=>?_) (λq=>?_) q
  ·refine⟨as4,ρ2,S4,ok4,en2.mono g4.pre (g4.ku ok3),mi2 _ _ _ _ (λkeep2 xs2 S5 q as5 H5 J2 g5 ok5 W2=>?_) q⟩;obtain⟨d5,n5⟩:=g5.keep D _ d4 n4;have rs5:=RlAll.mono g5.pre (g5.ku ok4) ys vs rs4;have en5:=(en2.mono g4.pre (g4.ku ok3)).mono g5.pre (g5.ku ok4);have G5:=((g2.trans g3).trans g4).trans g5
   refine⟨λi' m zs σ' H'=>m=xs2.length - i'/\i'<=xs2.length/\∃ as6 S6 ws ρ6,Go as1 H1 as6 H'/\Gu as5 H5 as6 H'/\Ok K as6 H' S6/\D∉as6/\H' D=some (.lst zs)/\RlAll K as6 H' zs ws/\EnvOk K as6 H' σ' ρ6/\
    j6 keep2 _ t2 e (λys' S3=>i9 keep g t _ i2 t2 e (BF k js ρ) (λys S2=>Post K as H Q (.loc S2.length) (S2++[.lst ys])) (xs.drop (i+1)) ys' S3) (xs2.drop i') ρ6 ws S6,⟨xs2.length,by simp,Tf _,as5,S5,ys,ρ2,G5,⟨Sb _,KeepU.refl _⟩,ok5,n5,d5,rs5,en5,q⟩,?_⟩
   rintro i' m zs σ' H6 ⟨rfl,hi',as6,S6,ws,ρ6,G6,u6,ok6,n6,d6,rs6,en6,h⟩;by_cases hlt':i'<xs2.length
   ·right;rw[Tp hlt']at h;unfold j6 at h;obtain⟨kp,h⟩:=h;obtain⟨w1,_⟩:=W2 as6 H6 S6 u6 ok6 kp;obtain⟨go,yl⟩:=w1 i' xs2[i'] (SC hlt')
    refine⟨go,λzs' σ' H'=>∃ as6 S6 ws ρ6,Go as1 H1 as6 H'/\Gu as5 H5 as6 H'/\Ok K as6 H' S6/\D∉as6/\H' D=some (.lst zs')/\RlAll K as6 H' zs' ws/\EnvOk K as6 H' σ' ρ6/\
     j6 keep2 _ t2 e (λys' S3=>i9 keep g t _ i2 t2 e (BF k js ρ) (λys S2=>Post K as H Q (.loc S2.length) (S2++[.lst ys])) (xs.drop (i+1)) ys' S3) (xs2.drop (i'+1)) ρ6 ws S6,λzs' σ' H' z=>⟨xs2.length - (i'+1),by omega,rfl,hlt',z⟩,λx H7 y7=>?_⟩
    obtain⟨g7,ok7,rx⟩:=yl x H7 y7;have en7:=en6.mono g7.pre (g7.ku ok6);have rs7:=RlAll.mono g7.pre (g7.ku ok6) ws zs rs6;obtain⟨d7,n7⟩:=g7.keep D _ d6 n6;refine⟨as6,ρ6,S6,_,ok7,en7,rx,j0 _ (λρ8 q σ8 en8=>?_) h⟩;refine⟨as6,ρ8,S6,ok7,en8,mt2 _ _ _ _ (λb S9 q as9 H9 g9 ok9=>?_) q⟩;obtain⟨d9,n9⟩:=g9.keep D _ d7 n7;have rs9:=RlAll.mono g9.pre (g9.ku ok7) ws zs rs7;have en9:=en8.mono g9.pre (g9.ku ok7);have u9:Gu as5 H5 as9 H9:=⟨(u6.pre.trans g7.pre).trans g9.pre,(u6.kp.trans (g7.ku ok6)).trans (g9.ku ok7)⟩
    refine g8 (λq=>?_) (λq=>?_) q
    ·refine⟨as9,ρ8,S9,ok9,en9,me _ _ _ _ (λy Sa q asa Ha v ga oka rv=>?_) q⟩;obtain⟨da,na⟩:=ga.keep D _ d9 n9;have rsa:=RlAll.mono ga.pre (ga.ku ok9) ws zs rs9;have kd:KeepU Ha (upd Ha D (.lst (zs++[v]))):=Az da rfl;refine⟨da,by rw[rs6.length];exact Bp q.1,asa,Sa,ws++[y],ρ8,?_,⟨u9.pre.trans ga.pre,(u9.kp.trans (ga.ku ok9)).trans kd⟩,oka.other da na,na,c7,RlAll.mono (Sb _) kd _ _ (rsa.append (.cons rv .nil)),(en9.mono ga.pre (ga.ku ok9)).mono (Sb _) kd,q.2⟩;have Ga:=((G6.trans g7).trans g9).trans ga;refine⟨Ga.pre,λb o hb nb=>?_⟩;obtain⟨z1,z2⟩:=Ga.keep b o hb nb;exact⟨by rw[a8 (c6 hb hD)];exact z1,z2⟩
    ·exact⟨as9,S9,ws,ρ8,(G6.trans g7).trans g9,u9,ok9,n9,d9,rs9,en9,q⟩
   ·left;have hi2:i'=xs2.length:=by omega
    subst hi2;rw[UH]at h;unfold j6 at h;obtain⟨kp,h⟩:=h;obtain⟨_,w2⟩:=W2 as6 H6 S6 u6 ok6 kp;exact⟨w2,as6,S6,ws,G6,ok6,n6,d6,rs6,h⟩
  ·exact⟨as4,S4,ys,(g2.trans g3).trans g4,ok4,n4,d4,rs4,q⟩
 ·left;have hi':i=xs.length:=by omega
  subst hi';rw[UH]at h;unfold i9 at h;obtain⟨kp,h⟩:=h;obtain⟨_,w2⟩:=W as2 H2 S2 (g2.gu ok1) ok2 kp;refine⟨w2,h (as2++[D]) H2 (.ref D) ?_ (ok2.adopt n2 d2 rs) (rl_loc.mpr ⟨D,by rw[<-ok2.len,Sf],rfl⟩)⟩;refine⟨(g1.pre.trans g2.pre).trans (Tc _ _),λb o hb nb=>?_⟩;obtain⟨h1,n1⟩:=g1.keep b o hb nb;obtain⟨h2,n2'⟩:=g2.keep b o h1 n1;refine⟨h2,?_⟩;rw[Sg,Sd];rintro(z | z)
  ·exact n2' z
  ·exact c6 h1 hD z
theorem F2{scope sc:Ve}{x:Str}(h:scope.names.lookup x=some .local):(AM scope sc).names.lookup x=some .local:=by
 have go:∀ l:List (Str×Vr),l.lookup x=some .local->(l.map λ(n,k)=>if (k == .free&&sc.kind == .function&&sc.names.lookup n == some .cell) then (n,.cell) else (n,k)).lookup x=some .local:=by
  intro l
  induction l with
  | nil=>intro h;cases h
  | cons a r ih=>
    obtain⟨n,k⟩:=a;intro h;rw[TQ]at h;rw[Sk];cases hb:x == n with
    | true=>
      rw[hb]at h;have:k = .local:=oj h;subst this;show Ue x ((n,NameKind.local)::_)=_;rw[TQ,hb]
    | false=>
      rw[hb]at h
      have e:∀ k',Ue x ((n,k')::(r.map λ(n,k)=>if (k == .free&&sc.kind == .function&&sc.names.lookup n == some .cell) then (n,.cell) else (n,k)))=some .local:=λk'=>by
       rw[TQ,hb];exact ih h
      show Ue x ((if (k == .free&&sc.kind == .function&&sc.names.lookup n == some .cell)=true then (n,NameKind.cell) else (n,k))::_)=_;split<;>exact e _
 exact go _ h
theorem Cok.comp{T:List Str}{Δ:Nat->Sn}{X:Cx}{k:Nat}{N:List Str}{sc scope:Ve}{own cn:List Str}{js:List Nat}(C:Cok T Δ X k N sc)(hok:j3 sc scope own cn N js=true)(s2:VT)(H2:Hp)(cs:List (Str×VU))(A:VU)(fp:List VU):Cok T Δ (a7 X scope (own++cn) s2 H2 cs A fp) own.length (own++cn) (AM scope sc) where
 hN:=rfl
 hs:=by rw[<-C.hs];rfl
 nd:=by
  unfold j3 at hok;simp only[S8,dQ]at hok;exact hok.1.2
 calm:=C.calm
 fn:=λi x hi hx hc=>by
  unfold j3 at hok;simp only[S8,dQ,SZ,Sz]at hok
  have hm:x∈own:=by
   rw[SY hi]at hx;exact SB hx
  show(scope.names.lookup x == some .cell)=true;rcases hok.1.1.1.2 x hm with h | h
  ·rw[F2 h]at hc;cases hc
  ·rw[h];rfl
 un:=C.un
 bl:=C.bl
 rng:=C.rng
 enm:=C.enm
 rvs:=C.rvs
 zip:=C.zip
 st0:=C.st0
 dc0:=C.dc0
 ty:=C.ty
 gd:=C.gd
 call:=C.call
 mono:=C.mono
theorem j4{r:Expr}(h:j9 r=true){env:Env}:∀ x,Vk r env x=pure x:=λx=>by cases r<;>first | rfl | cases h
theorem B5{T N:List Str}{sc:Ve}:∀{es:Exs} {rs:List Expr},AN T N sc es rs=true->rs.all c3=true
 | .nil,rs,h=>by unfold AN at h;rw[T8]at h;subst h;rfl
 | .cons e es,rs,h=>by
   unfold AN at h;replace h:=a3 h;obtain⟨x,hx,h⟩:=h;simp only[S8]at h;rw[A9 hx,TN,h.1.2,B5 h.2];rfl
theorem Pj{X:Cx}{i:Nat}{x:Str}{p:Pos}{N:List Str}{sc:Ve}{T:List Str}{Δ:Nat->Sn}{k:Nat}(C:Cok T Δ X k N sc)(h:nmB N sc i x=true):PE X (.Name x p) (M7 i):=by
 unfold nmB at h;simp only[S8,dQ,Sh]at h;exact PY C h.1.1.1 h.1.1.2 h.1.2 h.2
theorem Ho{α:Type}{l:List α}(h:(!l.isEmpty)=true):∃ y ys,l=y::ys:=by
 cases l with
 | nil=>cases h
 | cons y ys=>exact⟨y,ys,rfl⟩
theorem Pk{X:Cx}{c:Expr}{a:WE×WT}(h:Good X c a):AU X [c] (liftT X.K a.2):=Jv h.pt
theorem LC{X:Cx}:AU X [] (liftT X.K Qy):=λpq s σ H Q I hw=>Ju pq s σ H Q I (let ⟨as,ρ,S,ok,en,h⟩:=hw;h as H (Go.refl _ _) ok)
theorem GY{T:List Str}{Δ:Nat->Sn}{X:Cx}{k:Nat}{N:List Str}{sc scope:Ve}{own cn:List Str}{js:List Nat}{tg ri re:Expr}{ifs:List Expr}{p:Pos}{g:Tg}{i:WI}{t:WT}{e:WE×WT}(C:Cok T Δ X k N sc)(hok:j3 sc scope own cn N js=true)(hi:GoodI X tg ri i)
 (hg:∀ s2 H2 cs A fp,PG (a7 X scope (own++cn) s2 H2 cs A fp) tg (Ab X.K g)) (ht:∀ s2 H2 cs A fp,AU (a7 X scope (own++cn) s2 H2 cs A fp) ifs (liftT X.K t)) (mt:MonoT t) (he:∀ s2 H2 cs A fp,PE (a7 X scope (own++cn) s2 H2 cs A fp) re (lift X.K e.1)) (me:Mono e.1) (hn:j9 ri=true):
 Good X (.ListComp re [⟨tg,ri,ifs,0⟩] scope p) (tt1 (HX own.length js g i t e.1)):=
 .one (e7 _ (MN own cn js hi.pi hg ht he C.calm (by rw[C.hs,C.hN];exact hok) (j4 hn)) (F1 hi.m mt me)) (.comp hi.m mt me) rfl
theorem F3{T:List Str}{Δ:Nat->Sn}{X:Cx}{k:Nat}{N:List Str}{sc scope:Ve}{own cn:List Str}{js:List Nat}{tg ri re tg2 ri2:Expr}{ifs ifs2:List Expr}{p:Pos}{g g2:Tg}{i i2:WI}{t t2:WT}{e:WE×WT}(C:Cok T Δ X k N sc)(hok:j3 sc scope own cn N js=true)(hi:GoodI X tg ri i)
 (hg:∀ s2 H2 cs A fp,PG (a7 X scope (own++cn) s2 H2 cs A fp) tg (Ab X.K g)) (ht:∀ s2 H2 cs A fp,AU (a7 X scope (own++cn) s2 H2 cs A fp) ifs (liftT X.K t)) (mt:MonoT t) (hi2:∀ s2 H2 cs A fp,PI (a7 X scope (own++cn) s2 H2 cs A fp) tg2 ri2 (liftI X.K i2)) (mi2:MonoI i2)
 (hg2:∀ s2 H2 cs A fp,PG (a7 X scope (own++cn) s2 H2 cs A fp) tg2 (Ab X.K g2)) (ht2:∀ s2 H2 cs A fp,AU (a7 X scope (own++cn) s2 H2 cs A fp) ifs2 (liftT X.K t2)) (mt2:MonoT t2) (he:∀ s2 H2 cs A fp,PE (a7 X scope (own++cn) s2 H2 cs A fp) re (lift X.K e.1)) (me:Mono e.1) (hn:j9 ri=true) (hn2:j9 ri2=true):
 Good X (.ListComp re [⟨tg,ri,ifs,0⟩,⟨tg2,ri2,ifs2,0⟩] scope p) (tt1 (Ds own.length js g i t g2 i2 t2 e.1)):=
 .one (e7 _ (LB own cn js hi.pi hg ht hi2 hg2 ht2 he (λ_ _ _ _ _=>j4 hn2) C.calm (by rw[C.hs,C.hN];exact hok) (j4 hn)) (DP hi.m mt mi2 mt2 me)) (.comp2 hi.m mt mi2 mt2 me) rfl
mutual
theorem a5{T:List Str}{Δ:Nat->Sn}:∀(e:Ex) (r:Expr) {X:Cx} {k:Nat} {N:List Str} {sc:Ve},Cok T Δ X k N sc->f9 T N sc e r=true->Good X r (wEx Δ e)
 | .var i,r,X,k,N,sc,C,h=>by
   replace h:=a3 h;obtain⟨x,hx,h⟩:=h;obtain⟨p,rfl⟩:=BU hx;exact .one (e7 _ (Pj C h) MW) .var rfl
 | .c x,r,X,k,N,sc,C,h=>by
   replace h:=a3 h;obtain⟨x,hx,h⟩:=h;obtain⟨j,p,rfl⟩:=Iu hx;exact N0 h
 | .op o a b,r,X,k,N,sc,C,h=>by
   replace h:=a3 h;obtain⟨v,hv,h⟩:=h;obtain⟨p,rfl⟩:=Mt hv;simp only[S8,dQ]at h;have ga:=a5 a _ C h.1.2;have gb:=a5 b _ C h.2;rw[<-h.1.1];exact .one (Kr ga.pe gb.pe ga.m gb.m) (.two HY ga.m gb.m) rfl
 | .neg a,r,X,k,N,sc,C,h=>by
   replace h:=a3 h;obtain⟨v,hv,h⟩:=h;obtain⟨p,rfl⟩:=Kl hv;simp only[S8,dQ]at h;rw[h.1];exact J1 (a5 a _ C h.2)
 | .cmp o a b,r,X,k,N,sc,C,h=>by
   replace h:=a3 h;obtain⟨v,hv,h⟩:=h;replace h:=a3 h;obtain⟨rb,hb,h⟩:=h;obtain⟨p,rfl⟩:=Dt hv;simp only[S8,dQ]at h;obtain⟨⟨⟨h0,h1⟩,h2⟩,h3⟩:=h;rw[h0,v3 hb];have ga:=a5 a _ C h1;have gb:=a5 b _ C h2;have:=C.un;exact Iv (by omega) ga.pe gb.pe ga.m gb.m h3
 | .chn o p a b c,r,X,k,N,sc,C,h=>by
   replace h:=a3 h;obtain⟨v,hv,h⟩:=h;replace h:=a3 h;obtain⟨rs,hb,h⟩:=h;obtain⟨p,rfl⟩:=Dt hv;simp only[S8,dQ]at h;obtain⟨⟨⟨⟨h0,h1⟩,h2⟩,h3⟩,h4⟩:=h;rw[h0,CV hb];have ga:=a5 a _ C h1;have gb:=a5 b _ C h2;have gc:=a5 c _ C h3;have:=C.un;exact Iw (by omega) ga.pe gb.pe gc.pe ga.m gb.m gc.m h4
 | .and a b,r,X,k,N,sc,C,h=>by
   replace h:=a3 h;obtain⟨v,hv,h⟩:=h;have e:=Eb hv;subst e;rw[S8,dQ]at h;obtain⟨h0,h⟩:=h;replace h:=a3 h;obtain⟨x,hx,h⟩:=h;rw[S8]at h;have ga:=a5 a _ C h.1;rw[h0,A9 hx];have h2:=h.2;generalize v.2.1.tail=tl at h2;cases hl:l1 tl with
   | some y=>
     rw[hl]at h2;rw[v3 hl];exact GG ga (a5 b _ C h2)
   | none=>
     rw[hl]at h2;rw[S8,dQ]at h2;have gb:=a5 b _ C h2.2
     match tl,h2,gb with
     | y::z::zs,h2,gb=>exact GH ga gb
     | [],h2,_=>exact absurd h2.1 (by simp)
     | [_],h2,_=>exact absurd h2.1 (by simp)
 | .or a b,r,X,k,N,sc,C,h=>by
   replace h:=a3 h;obtain⟨v,hv,h⟩:=h;have e:=Eb hv;subst e;rw[S8,dQ]at h;obtain⟨h0,h⟩:=h;replace h:=a3 h;obtain⟨x,hx,h⟩:=h;rw[S8]at h;have ga:=a5 a _ C h.1;rw[h0,A9 hx];have h2:=h.2;generalize v.2.1.tail=tl at h2;cases hl:l1 tl with
   | some y=>
     rw[hl]at h2;rw[v3 hl];exact Ix ga (a5 b _ C h2)
   | none=>
     rw[hl]at h2;rw[S8,dQ]at h2;have gb:=a5 b _ C h2.2
     match tl,h2,gb with
     | y::z::zs,h2,gb=>exact Iy ga gb
     | [],h2,_=>exact absurd h2.1 (by simp)
     | [_],h2,_=>exact absurd h2.1 (by simp)
 | .not a,r,X,k,N,sc,C,h=>by
   replace h:=a3 h;obtain⟨v,hv,h⟩:=h;obtain⟨p,rfl⟩:=Kl hv;simp only[S8,dQ]at h;rw[h.1];exact Iz (a5 a _ C h.2)
 | .ife t a b,r,X,k,N,sc,C,h=>by
   replace h:=a3 h;obtain⟨v,hv,h⟩:=h;obtain⟨p,rfl⟩:=Mu hv;simp only[S8]at h;exact J0 (a5 t _ C h.1.1) (a5 a _ C h.1.2) (a5 b _ C h.2)
 | .tup es,r,X,k,N,sc,C,h=>by
   replace h:=a3 h;obtain⟨v,hv,h⟩:=h;obtain⟨j,p,rfl⟩:=B1 hv;exact J8 (w9 es _ C h)
 | .lst es,r,X,k,N,sc,C,h=>by
   replace h:=a3 h;obtain⟨v,hv,h⟩:=h;obtain⟨p,rfl⟩:=Mv hv;exact J9 (w9 es _ C h)
 | .ix a b,r,X,k,N,sc,C,h=>by
   replace h:=a3 h;obtain⟨v,hv,h⟩:=h;obtain⟨p,rfl⟩:=B2 hv;simp only[S8]at h;exact Ku (a5 a _ C h.1.1) (a5 b _ C h.1.2) h.2
 | .slc a lo hi,r,X,k,N,sc,C,h=>by
   replace h:=a3 h;obtain⟨v,hv,h⟩:=h;replace h:=a3 h;obtain⟨w,hw,h⟩:=h;obtain⟨p,rfl⟩:=B2 hv;obtain⟨p2,ew⟩:=Mw hw;simp only[S8]at h;have hl:=F4 lo _ C h.1.1.2;have hh:=F4 hi _ C h.1.2;rw[ew,US.mp h.2];exact J3 (a5 a _ C h.1.1.1) hl.1 hh.1 hl.2 hh.2
 | .call f es,r,X,k,N,sc,C,h=>by
   replace h:=a3 h;obtain⟨v,hv,h⟩:=h;obtain⟨p,q,rfl⟩:=AW hv;simp only[S8,dQ]at h;obtain⟨⟨⟨h1,h2⟩,h3⟩,h4⟩:=h;obtain⟨y,ys,e⟩:=Ho h4;have st:=B5 h3;have g:=w9 es _ C h3;rw[e]at st g ⊢;rw[TN,S8]at st;exact GL C h1 h2 g st.1 st.2
 | .bi b es,r,X,k,N,sc,C,h=>by
   replace h:=a3 h;obtain⟨v,hv,h⟩:=h;obtain⟨p,q,rfl⟩:=AW hv;simp only[S8,dQ]at h;obtain⟨⟨⟨h1,h2⟩,h3⟩,h4⟩:=h;obtain⟨y,ys,e⟩:=Ho h4;have st:=B5 h3;have g:=w9 es _ C h3;rw[e]at st g ⊢;rw[TN,S8]at st;rw[<-h1]at h2 ⊢;exact L1 C h2 g st.1 st.2
 | .mt m a es,r,X,k,N,sc,C,h=>by
   replace h:=a3 h;obtain⟨v,hv,h⟩:=h;obtain⟨ap,cp,rfl,hl⟩:=Kn hv;simp only[S8,dQ]at h;obtain⟨⟨⟨⟨h0,h1⟩,h3⟩,h4⟩,h5⟩:=h;have st:=B5 h5;have ga:=a5 a _ C h4;have gs:=w9 es _ C h5;rw[h0];generalize v.2.2=args at h3 h5 st gs ⊢;cases args with
   | nil=>
     cases es with
     | nil=>exact JA ga h1 hl
     | cons _ _=>rw[AN]at h5;cases h5
   | cons y ys=>
     rw[TN,S8]at st;exact L6 ga gs h1 hl h3 st.1 st.2
 | .comp own cn js g it t e,r,X,k,N,sc,C,h=>by
   replace h:=a3 h;obtain⟨v,hv,h⟩:=h;replace h:=a3 h;obtain⟨c,hc,h⟩:=h;obtain⟨p,rfl⟩:=BV hv;simp only[S8,dQ]at h;obtain⟨⟨⟨⟨⟨⟨h0,h1⟩,h2⟩,h3⟩,h4⟩,h5⟩,h6⟩:=h;have hI:=t7 it _ _ C h3;have hT:=λs2 H2 cs A fp=>AO t _ (C.comp h1 s2 H2 cs A fp) h5;have hE:=λs2 H2 cs A fp=>a5 e _ (C.comp h1 s2 H2 cs A fp) h6;rw[v3 hc];obtain⟨tg,ri,ifs,az⟩:=c;have h0:az=0:=h0;subst h0;exact GY C h1 hI (λs2 H2 cs A fp=>r6 (C.comp h1 s2 H2 cs A fp) g _ h2) (λs2 H2 cs A fp=>(hT s2 H2 cs A fp).1) (hT X.s₀ X.H₀ [] 0 []).2 (λs2 H2 cs A fp=>(hE s2 H2 cs A fp).pe) (hE X.s₀ X.H₀ [] 0 []).m h4
 | .comp2 own cn js g it t g2 it2 t2 e,r,X,k,N,sc,C,h=>by
   replace h:=a3 h;obtain⟨v,hv,h⟩:=h;replace h:=a3 h;obtain⟨c,hc,h⟩:=h;obtain⟨p,rfl⟩:=BV hv;simp only[S8,dQ]at h;obtain⟨⟨⟨⟨⟨⟨⟨⟨⟨⟨⟨h0,h0'⟩,h1⟩,h2⟩,h3⟩,h4⟩,h5⟩,h6⟩,h7⟩,h8⟩,h9⟩,ha⟩:=h;have hI:=t7 it _ _ C h3;have hT:=λs2 H2 cs A fp=>AO t _ (C.comp h1 s2 H2 cs A fp) h5;have hI2:=λs2 H2 cs A fp=>t7 it2 _ _ (C.comp h1 s2 H2 cs A fp) h7;have hT2:=λs2 H2 cs A fp=>AO t2 _ (C.comp h1 s2 H2 cs A fp) h9;have hE:=λs2 H2 cs A fp=>a5 e _ (C.comp h1 s2 H2 cs A fp) ha;rw[CV hc];obtain⟨⟨tg,ri,ifs,az⟩,⟨tg2,ri2,ifs2,az2⟩⟩:=c;have h0:az=0:=h0;have h0':az2=0:=h0';subst h0;subst h0';exact F3 C h1 hI (λs2 H2 cs A fp=>r6 (C.comp h1 s2 H2 cs A fp) g _ h2) (λs2 H2 cs A fp=>(hT s2 H2 cs A fp).1) (hT X.s₀ X.H₀ [] 0 []).2 (λs2 H2 cs A fp=>(hI2 s2 H2 cs A fp).pi) (hI2 X.s₀ X.H₀ [] 0 []).m (λs2 H2 cs A fp=>r6 (C.comp h1 s2 H2 cs A fp) g2 _ h6) (λs2 H2 cs A fp=>(hT2 s2 H2 cs A fp).1) (hT2 X.s₀ X.H₀ [] 0 []).2 (λs2 H2 cs A fp=>(hE s2 H2 cs A fp).pe) (hE X.s₀ X.H₀ [] 0 []).m h4 h8
 | .tyc t,r,X,k,N,sc,C,h=>by
   replace h:=a3 h;obtain⟨x,hx,h⟩:=h;obtain⟨p,rfl⟩:=BU hx;simp only[S8,dQ]at h;obtain⟨⟨rfl,h1⟩,h2⟩:=h;exact JB C h1 h2
 | .lrng1 a,r,X,k,N,sc,C,h=>by
   replace h:=a3 h;obtain⟨v,hv,h⟩:=h;replace h:=a3 h;obtain⟨z,hz,h⟩:=h;replace h:=a3 h;obtain⟨u,hu,h⟩:=h;replace h:=a3 h;obtain⟨ra,hra,h⟩:=h;obtain⟨p,q,rfl⟩:=AW hv;obtain⟨p2,q2,rfl⟩:=AW hu;simp only[S8,dQ]at h;obtain⟨⟨⟨⟨⟨e1,e2⟩,h1⟩,h2⟩,h3⟩,h4⟩:=h;rw[v3 hz,v3 hra,e1,e2];rw[e1]at h1;rw[e2]at h2;exact Ej C h1 h2 (a5 a _ C h3) h4
 | .dnewl,r,X,k,N,sc,C,h=>by
   replace h:=a3 h;obtain⟨v,hv,h⟩:=h;obtain⟨p,rfl⟩:=Kk hv;simp only[S8,T8]at h;rw[h.1,h.2];exact Ep
 | .setdl d e v,r,X,k,N,sc,C,h=>by
   replace h:=a3 h;obtain⟨u,hu,h⟩:=h;replace h:=a3 h;obtain⟨ra,hra,h⟩:=h;obtain⟨ap,cp,rfl,hl⟩:=Kn hu;simp only[S8,dQ]at h;obtain⟨⟨⟨⟨⟨⟨e1,h1⟩,h2⟩,h3⟩,h4⟩,h5⟩,h6⟩:=h;rw[CV hra,e1];exact Er (UB (UN (by decide) _) C.un) (a5 d _ C h2) (a5 e _ C h3) (a5 v _ C h5) h1 hl h4 h6
 | .dgetl a b,r,X,k,N,sc,C,h=>by
   replace h:=a3 h;obtain⟨v,hv,h⟩:=h;obtain⟨p,rfl⟩:=B2 hv;simp only[S8]at h;have:=C.un;exact Es (by omega) (a5 a _ C h.1.1) (a5 b _ C h.1.2) h.2
 | .srtu a,r,X,k,N,sc,C,h=>by
   replace h:=a3 h;obtain⟨v,hv,h⟩:=h;replace h:=a3 h;obtain⟨ra,hra,h⟩:=h;obtain⟨p,q,rfl⟩:=AW hv;simp only[S8,dQ]at h;obtain⟨⟨⟨e1,h1⟩,h3⟩,h4⟩:=h;rw[e1]at h1;rw[v3 hra,e1];exact GP (UB (UN (by decide) _) C.un) C h1 (a5 a _ C h3) h4
 | .like n a b,r,X,k,N,sc,C,h=>by
   replace h:=a3 h;obtain⟨v,hv,h⟩:=h;replace h:=a3 h;obtain⟨rb,hb,h⟩:=h;obtain⟨p,rfl⟩:=Dt hv;simp only[S8,dQ]at h;obtain⟨⟨⟨h0,h1⟩,h2⟩,h3⟩:=h;rw[h0,v3 hb];have ga:=a5 a _ C h1;have gb:=a5 b _ C h2;exact GQ (UB (UN (by decide) _) C.un) ga.pe gb.pe ga.m gb.m h3
 | .dctl a,r,X,k,N,sc,C,h=>by
   replace h:=a3 h;obtain⟨v,hv,h⟩:=h;replace h:=a3 h;obtain⟨ra,hra,h⟩:=h;obtain⟨p,q,rfl⟩:=AW hv;simp only[S8,dQ]at h;obtain⟨⟨⟨e1,h1⟩,h3⟩,h4⟩:=h;rw[e1]at h1;rw[v3 hra,e1];exact GN C h1 (a5 a _ C h3) h4
 | .dget a b,r,X,k,N,sc,C,h=>by
   replace h:=a3 h;obtain⟨v,hv,h⟩:=h;obtain⟨p,rfl⟩:=B2 hv;simp only[S8]at h;have:=C.un;exact GO (by omega) (a5 a _ C h.1.1) (a5 b _ C h.1.2) h.2
 | .no,r,X,k,N,sc,C,h => .never
theorem w9{T:List Str}{Δ:Nat->Sn}:∀(es:Exs) (rs:List Expr) {X:Cx} {k:Nat} {N:List Str} {sc:Ve},Cok T Δ X k N sc->AN T N sc es rs=true->GoodA X rs (EX Δ es)
 | .nil,rs,X,k,N,sc,C,h=>by
   rw[AN,T8]at h;subst h;exact J7
 | .cons e es,rs,X,k,N,sc,C,h=>by
   rw[AN]at h;replace h:=a3 h;obtain⟨x,hx,h⟩:=h;simp only[S8]at h;rw[A9 hx];exact GK (a5 e _ C h.1.1) (w9 es _ C h.2) h.1.2
theorem F4{T:List Str}{Δ:Nat->Sn}:∀(o:Eo) (r:Option Expr) {X:Cx} {k:Nat} {N:List Str} {sc:Ve},Cok T Δ X k N sc->Ko T N sc o r=true->PO X r (Eh X.K (wEo Δ o).1)/\MonoO (wEo Δ o).1
 | .no,r,X,k,N,sc,C,h=>by
   rw[Ko]at h;rw[US.mp h];exact⟨R5,.no⟩
 | .yes e,r,X,k,N,sc,C,h=>by
   rw[Ko]at h;replace h:=a3 h;obtain⟨x,hx,h⟩:=h;subst hx;exact⟨PZ (a5 e _ C h),.yes (a5 e _ C h).m⟩
theorem AO{T:List Str}{Δ:Nat->Sn}:∀(o:Eo) (rs:List Expr) {X:Cx} {k:Nat} {N:List Str} {sc:Ve},Cok T Δ X k N sc->BW T N sc o rs=true->AU X rs (liftT X.K (wEo Δ o).2)/\MonoT (wEo Δ o).2
 | .no,rs,X,k,N,sc,C,h=>by
   rw[BW,T8]at h;subst h;exact⟨LC,λ_ _ _ _ i q=>i _ _ q⟩
 | .yes e,rs,X,k,N,sc,C,h=>by
   rw[BW]at h;replace h:=a3 h;obtain⟨x,hx,h⟩:=h;rw[v3 hx];exact⟨Pk (a5 e _ C h),(a5 e _ C h).mt⟩
theorem t7{T:List Str}{Δ:Nat->Sn}:∀(it:Itb) (tg r:Expr) {X:Cx} {k:Nat} {N:List Str} {sc:Ve},Cok T Δ X k N sc->Ed T N sc it tg r=true->GoodI X tg r (GC Δ it)
 | .seq e,tg,r,X,k,N,sc,C,h=>by
   exact JE (a5 e _ C h)
 | .rng1 a,tg,r,X,k,N,sc,C,h=>by
   replace h:=a3 h;obtain⟨v,hv,h⟩:=h;replace h:=a3 h;obtain⟨ra,hra,h⟩:=h;obtain⟨p,q,rfl⟩:=AW hv;simp only[S8,dQ]at h;obtain⟨⟨⟨e1,h1⟩,h2⟩,h3⟩:=h;rw[e1]at h1;rw[v3 hra,e1];exact GV C h1 (a5 a _ C h2) h3
 | .rng2 a b,tg,r,X,k,N,sc,C,h=>by
   replace h:=a3 h;obtain⟨v,hv,h⟩:=h;replace h:=a3 h;obtain⟨ra,hra,h⟩:=h;obtain⟨p,q,rfl⟩:=AW hv;simp only[S8,dQ]at h;obtain⟨⟨⟨⟨⟨e1,h1⟩,h2⟩,h3⟩,h4⟩,h5⟩:=h;rw[e1]at h1;rw[CV hra,e1];exact GW C h1 (a5 a _ C h2) (a5 b _ C h4) h3 h5
 | .enum e,tg,r,X,k,N,sc,C,h=>by
   replace h:((EY tg).isSome&&(vFn r).any λv=>(l1 v.2).any λa=>decide (v.1=("enumerate":Str))&&glo sc v.1&&f9 T N sc e a&&c3 a)=true:=h;rw[S8]at h;obtain⟨ht,h⟩:=h;obtain⟨es,he⟩:=Td.mp ht;obtain⟨j,tp,rfl⟩:=B1 he;replace h:=a3 h;obtain⟨v,hv,h⟩:=h;replace h:=a3 h;obtain⟨ra,hra,h⟩:=h;obtain⟨p,q,rfl⟩:=AW hv;simp only[S8,dQ]at h;obtain⟨⟨⟨e1,h1⟩,h2⟩,h3⟩:=h;rw[e1]at h1;rw[v3 hra,e1];exact GU C h1 (a5 e _ C h2) h3
 | .dtk e,tg,r,X,k,N,sc,C,h=>by
   exact JF (a5 e _ C h)
end
noncomputable def Bu:Expr->Option Ve
 | .ListComp _ _ s _=>some s
 | .SetComp _ _ s _=>some s
 | .DictComp _ _ _ s _=>some s
 | _=>none
noncomputable def Cf(sc:Ve)(e:Expr)(x:Str)(px:Pos):Bool:=match Bu e with
 | none=>false
 | some s=>sc.names.lookup x == some .local&&px.line == e.pos.line&&!(s.names.any λ(n,k)=>n == x&&(k == .local||k == .cell))
theorem Dw{env:Env}{e:Expr}{x:Str}{px:Pos}{l:Nat}(hk:env.scope.kind = .function):Vv e (some (.Name x px)) l env=pure (Cf env.scope e x px):=by
 have hb:env.blockKind = .function:=by unfold Env.blockKind;rw[hk];rfl
 unfold Vv Cf Bu
 cases e<;>first
  | rfl
  | (show(pure _:Sem Bool)=_;rw[hb];rfl)
noncomputable def LD:Expr->Bool
 | .Tuple ..=>false
 | _=>true
noncomputable def NB(sc:Ve)(x y:Str)(px py:Pos):Bool:=sc.names.lookup x == some .local&&sc.names.lookup y == some .local&&px.line == py.line&&!(x == y)
noncomputable def Cg:Expr->Option (Str×Pos)
 | .Name x p=>some (x,p)
 | _=>none
theorem Bv{r:Expr}{x:Str×Pos}(h:Cg r=some x):r = .Name x.1 x.2:=by cases r<;>first | (cases h;rfl) | exact m4 h
noncomputable def LF:Stmt->Option (List Expr×Expr)
 | .Assign ts e _=>some (ts,e)
 | _=>none
noncomputable def RF:Stmt->Option Expr
 | .Expr e _=>some e
 | _=>none
noncomputable def RG:Stmt->Option (Expr×List Stmt×List Stmt)
 | .If t a b _=>some (t,a,b)
 | _=>none
noncomputable def RH:Stmt->Option (Expr×Expr×List Stmt×List Stmt)
 | .For g i b o _=>some (g,i,b,o)
 | _=>none
noncomputable def RI:Stmt->Option (Expr×List Stmt×List Stmt)
 | .While t b o _=>some (t,b,o)
 | _=>none
noncomputable def RJ:Stmt->Option (Option Expr)
 | .Return e _=>some e
 | _=>none
theorem CF{r:Stmt}{x:List Expr×Expr}(h:LF r=some x):∃ p,r = .Assign x.1 x.2 p:=by cases r<;>first | (cases h;exact⟨_,rfl⟩) | exact m4 h
theorem NC{r:Stmt}{x:Expr}(h:RF r=some x):∃ p,r = .Expr x p:=by cases r<;>first | (cases h;exact⟨_,rfl⟩) | exact m4 h
theorem ND{r:Stmt}{x:Expr×List Stmt×List Stmt}(h:RG r=some x):∃ p,r = .If x.1 x.2.1 x.2.2 p:=by cases r<;>first | (cases h;exact⟨_,rfl⟩) | exact m4 h
theorem NE{r:Stmt}{x:Expr×Expr×List Stmt×List Stmt}(h:RH r=some x):∃ p,r = .For x.1 x.2.1 x.2.2.1 x.2.2.2 p:=by cases r<;>first | (cases h;exact⟨_,rfl⟩) | exact m4 h
theorem NF{r:Stmt}{x:Expr×List Stmt×List Stmt}(h:RI r=some x):∃ p,r = .While x.1 x.2.1 x.2.2 p:=by cases r<;>first | (cases h;exact⟨_,rfl⟩) | exact m4 h
theorem NG{r:Stmt}{x:Option Expr}(h:RJ r=some x):∃ p,r = .Return x p:=by cases r<;>first | (cases h;exact⟨_,rfl⟩) | exact m4 h
noncomputable def Pl(e:Expr):Bool:=(Ea e).any λv=>(l1 v.2.1).isSome
noncomputable def LG(e:Expr):Bool:=(Ea e).any λv=>(l2 v.2.1).isSome
noncomputable def RK(e:Expr):Bool:=false
noncomputable def Pm(sc:Ve)(rt re:Expr):Bool:=match Cg rt with
 | some x=>!Cf sc re x.1 x.2||Pl re||RK re||LG re
 | none=>(EY rt).isSome&&LD re
mutual
noncomputable def RL(T:List Str)(N:List Str)(sc:Ve):Stm->Stmt->Bool
 | .asg t e,r=>(LF r).any λv=>(l1 v.1).any λrt=>y2 N.length N sc t rt&&f9 T N sc e v.2&&c3 rt&&Pm sc rt v.2
 | .par i j a b,r=>(LF r).any λv=>(l1 v.1).any λrt=>(EY rt).any λts=>(l2 ts).any λnn=>(EY v.2).any λvs=>(l2 vs).any λab=>(Cg nn.1).any λx=>(Cg nn.2).any λy=>
    decide (N[i]?=some x.1)&&decide (N[j]?=some y.1)&&decide (i≠j)&&NB sc x.1 y.1 x.2 y.2&&f9 T N sc a ab.1&&f9 T N sc b ab.2&&c3 ab.1&&c3 ab.2&&!([ab.1,ab.2].all (foldedForSure 8))&&!([ab.1,ab.2].all (Xh 8))
 | .put o i e,r=>(LF r).any λv=>(l1 v.1).any λrt=>(GD rt).any λoi=>f9 T N sc o oi.1&&f9 T N sc i oi.2&&f9 T N sc e v.2&&m7 oi.2
 | .dput o i e,r=>(LF r).any λv=>(l1 v.1).any λrt=>(GD rt).any λoi=>f9 T N sc o oi.1&&f9 T N sc i oi.2&&f9 T N sc e v.2&&m7 oi.2
 | .expr e,r=>(RF r).any λre=>f9 T N sc e re&&(Bu re).isNone
 | .iff t a b,r=>(RG r).any λv=>f9 T N sc t v.1&&BX T N sc a v.2.1&&BX T N sc b v.2.2
 | .loop g it b,r=>(RH r).any λv=>y2 N.length N sc g v.1&&Ed T N sc it v.1 v.2.1&&j9 v.2.1&&BX T N sc b v.2.2.1&&v.2.2.2.isEmpty
 | .whl t b,r=>(RI r).any λv=>f9 T N sc t v.1&&BX T N sc b v.2.1&&v.2.2.isEmpty
 | .ret e,r=>(RJ r).any λo=>o.any λre=>f9 T N sc e re
 | .no,_=>true
noncomputable def BX(T:List Str)(N:List Str)(sc:Ve):List Stm->List Stmt->Bool
 | [],r=>r.isEmpty
 | s::ss,r=>(r.head?).any λx=>RL T N sc s x&&BX T N sc ss r.tail
end
noncomputable def F5(K:Rz)(as:List VU)(H:Hp)(D:Ends):EndsS where
 nx:=λρ' S'=>∀ as' H' σ',Go as H as' H'->Ok K as' H' S'->EnvOk K as' H' σ' ρ'->D.nx σ' H'
 rt:=Post K as H D.rt
 bk:=λρ' S'=>∀ as' H' σ',Go as H as' H'->Ok K as' H' S'->EnvOk K as' H' σ' ρ'->D.bk σ' H'
 ct:=λρ' S'=>∀ as' H' σ',Go as H as' H'->Ok K as' H' S'->EnvOk K as' H' σ' ρ'->D.ct σ' H'
noncomputable def liftS(K:Rz)(w:WS):TS:=λD σ H=>∃ as ρ S,Ok K as H S/\EnvOk K as H σ ρ/\w (F5 K as H D) ρ S
structure Le(D D':EndsS):Prop where
 nx:∀ ρ S,D.nx ρ S->D'.nx ρ S
 rt:∀ x S,D.rt x S->D'.rt x S
 bk:∀ ρ S,D.bk ρ S->D'.bk ρ S
 ct:∀ ρ S,D.ct ρ S->D'.ct ρ S
noncomputable def MonoS(w:WS):Prop:=∀ D D' ρ S,Le D D'->w D ρ S->w D' ρ S
theorem MonoS.go{w:WS}(m:MonoS w){D D':EndsS}{ρ:EnvS}{S:Sto}(h:w D ρ S)(l:Le D D'):w D' ρ S:=m D D' ρ S l h
theorem Le.go{K:Rz}{as as':List VU}{H H':Hp}{D:Ends}(g:Go as H as' H'):Le (F5 K as H D) (F5 K as' H' D) where
 nx:=λρ S h as2 H2 σ2 g2=>h as2 H2 σ2 (g.trans g2)
 rt:=λx S h=>Post.mono h g
 bk:=λρ S h as2 H2 σ2 g2=>h as2 H2 σ2 (g.trans g2)
 ct:=λρ S h as2 H2 σ2 g2=>h as2 H2 σ2 (g.trans g2)
structure GoodS(X:Cx)(r:Stmt)(w:WS):Prop where
 ps:PS X r (liftS X.K w)
 m:MonoS w
structure GoodSs(X:Cx)(r:List Stmt)(w:WS):Prop where
 ps:PSs X r (liftS X.K w)
 m:MonoS w
theorem m9{X:Cx}{st:Stmt}{t:TS}(t':TS)(h:PS X st t)(imp:∀ D σ H,t' D σ H->t D σ H):PS X st t':=λpq s σ H D I hw=>h pq s σ H D I (imp D σ H hw)
theorem F6{X:Cx}{st:List Stmt}{t:TS}(t':TS)(h:PSs X st t)(imp:∀ D σ H,t' D σ H->t D σ H):PSs X st t':=λpq s σ H D I hw=>h pq s σ H D I (imp D σ H hw)
section
variable{X:Cx}
theorem GZ:GoodSs X [] (λD ρ S=>D.nx ρ S):=⟨F6 _ MB λD σ H ⟨as,ρ,S,ok,en,h⟩=>h as H σ (Go.refl _ _) ok en,λD D' ρ S l h=>l.nx _ _ h⟩
theorem F7{s:Stmt}{ss:List Stmt}{w u:WS}(h1:GoodS X s w)(h2:GoodSs X ss u):GoodSs X (s::ss) (λD ρ S=>w {D with nx:=u D} ρ S) where
 ps:=F6 _ (JZ h1.ps h2.ps) (by
  rintro D σ H ⟨as,ρ,S,ok,en,h⟩;refine⟨as,ρ,S,ok,en,h1.m.go h ⟨λρ' S' q as' H' σ' g ok' en'=>?_,λ_ _ h=>h,λ_ _ h=>h,λ_ _ h=>h⟩⟩;exact⟨as',ρ',S',ok',en',h2.m _ _ _ _ (Le.go g) q⟩)
 m:=λD D' ρ S l h=>h1.m.go (D:={D with nx:=u D}) h ⟨λρ' S' q=>h2.m _ _ _ _ l q,l.rt,l.bk,l.ct⟩
theorem NH{K:Rz}{g:Tg}{w:WE}(m:Mono w):∀ D σ H,liftS K (λD ρ S=>w ρ S λx S1=>wTg g x ρ λρ'=>D.nx ρ' S1) D σ H->Fb (lift K w) (Ab K g) D σ H:=by
 rintro D σ H ⟨as,ρ,S,ok,en,h⟩;refine⟨as,ρ,S,ok,en,m _ _ _ _ (λx S1 q as1 H1 v g1 ok1 rv=>?_) h⟩;exact⟨as1,ρ,S1,x,ok1,en.mono g1.pre (g1.ku ok),rv,j0 g (λρ' q σ' en'=>q as1 H1 σ' g1 ok1 en') q⟩
theorem Ci{K:Rz}{i:Nat}{w:WE}(m:Mono w):∀ D σ H,liftS K (λD ρ S=>w ρ S λx S1=>wTg (.nm i) x ρ λρ'=>D.nx ρ' S1) D σ H->Fb (lift K w) (EI i) D σ H:=by
 rintro D σ H ⟨as,ρ,S,ok,en,h⟩;refine⟨as,ρ,S,ok,en,m _ _ _ _ (λx S1 q as1 H1 v g1 ok1 rv=>?_) h⟩;unfold wTg at q;exact q as1 H1 _ g1 ok1 ((en.mono g1.pre (g1.ku ok)).set rv)
theorem F8{g:Tg}{w:WE}(m:Mono w):MonoS (λD ρ S=>w ρ S λx S1=>wTg g x ρ λρ'=>D.nx ρ' S1):=λD D' ρ S l h=>m _ _ _ _ (λx S1 q=>j0 g (λρ' q=>l.nx _ _ q) q) h
theorem Pn{K:Rz}{t:WT}{a b:WS}(mt:MonoT t)(ma:MonoS a)(mb:MonoS b):∀ D σ H,liftS K (λD ρ S=>t ρ S λc S1=>if c=true then a D ρ S1 else b D ρ S1) D σ H->QC (liftT K t) (liftS K a) (liftS K b) D σ H:=by
 rintro D σ H ⟨as,ρ,S,ok,en,h⟩;refine⟨as,ρ,S,ok,en,mt _ _ _ _ (λc S1 q as1 H1 g1 ok1=>?_) h⟩;refine g8 (λq=>?_) (λq=>?_) q
 ·exact⟨as1,ρ,S1,ok1,en.mono g1.pre (g1.ku ok),ma _ _ _ _ (Le.go g1) q⟩
 ·exact⟨as1,ρ,S1,ok1,en.mono g1.pre (g1.ku ok),mb _ _ _ _ (Le.go g1) q⟩
theorem B6{keep:Sto->Prop}{g:Tg}{b:WS}(mb:MonoS b):∀(xs:List SV) {D D':EndsS},Le D D'->∀ ρ S,t4 keep g b D xs ρ S->t4 keep g b D' xs ρ S
 | [],D,D',l,ρ,S,h=>by unfold t4 at h ⊢;exact⟨h.1,l.nx _ _ h.2⟩
 | x::xs,D,D',l,ρ,S,h=>by
   unfold t4 at h ⊢;exact⟨h.1,j0 g (λρ2 q=>mb.go (D:={D with nx:=t4 keep g b D xs,ct:=t4 keep g b D xs,bk:=D.nx}) q ⟨B6 mb xs l,l.rt,l.nx,B6 mb xs l⟩) h.2⟩
theorem NI{K:Rz}{g:Tg}{i:WI}{b:WS}(mi:MonoI i)(mb:MonoS b):∀ D σ H,liftS K (λD ρ S=>i ρ S λkeep xs S1=>t4 keep g b D xs ρ S1) D σ H->QL (liftI K i) (Ab K g) (liftS K b) D σ H:=by
 rintro D σ H ⟨as,ρ,S,ok,en,h⟩;refine⟨as,ρ,S,ok,en,mi _ _ _ _ (λkeep xs S1 h as1 H1 J g1 ok1 W=>?_) h⟩
 refine⟨λi m σ2 H2=>m=xs.length - i/\i<=xs.length/\∃ as2 ρ2 S2,Go as1 H1 as2 H2/\Ok K as2 H2 S2/\EnvOk K as2 H2 σ2 ρ2/\t4 keep g b (F5 K as H D) (xs.drop i) ρ2 S2,
  ⟨xs.length,by simp,Tf _,as1,ρ,S1,Go.refl _ _,ok1,en.mono g1.pre (g1.ku ok),h⟩,?_⟩
 rintro i m σ2 H2 ⟨rfl,hi,as2,ρ2,S2,g2,ok2,en2,h⟩;by_cases hlt:i<xs.length
 ·right;rw[Tp hlt]at h;unfold t4 at h;obtain⟨kp,h⟩:=h;obtain⟨w1,_⟩:=W as2 H2 S2 (g2.gu ok1) ok2 kp;obtain⟨go,yl⟩:=w1 i xs[i] (SC hlt);refine⟨go,λσ' H'=>∃ as2 ρ2 S2,Go as1 H1 as2 H'/\Ok K as2 H' S2/\EnvOk K as2 H' σ' ρ2/\t4 keep g b (F5 K as H D) (xs.drop (i+1)) ρ2 S2,λσ' H' z=>⟨xs.length - (i+1),by omega,rfl,hlt,z⟩,λx H3 y3=>?_⟩;obtain⟨g3,ok3,rx⟩:=yl x H3 y3;refine⟨as2,ρ2,S2,_,ok3,en2.mono g3.pre (g3.ku ok2),rx,j0 g (λρ3 q σ3 en3=>?_) h⟩;have g03:=(g1.trans g2).trans g3;refine⟨as2,ρ3,S2,ok3,en3,mb.go q ⟨λρ' S' q as' H' σ' g' ok' en'=>?_,λx S h=>Post.mono h g03,λρ' S' q as' H' σ' g' ok' en'=>q as' H' σ' (g03.trans g') ok' en',λρ' S' q as' H' σ' g' ok' en'=>?_⟩⟩
  ·exact⟨as',ρ',S',(g2.trans g3).trans g',ok',en',q⟩
  ·exact⟨as',ρ',S',(g2.trans g3).trans g',ok',en',q⟩
 ·left;have hi':i=xs.length:=by omega
  subst hi';rw[UH]at h;unfold t4 at h;obtain⟨kp,h⟩:=h;obtain⟨_,w2⟩:=W as2 H2 S2 (g2.gu ok1) ok2 kp;exact⟨w2,h as2 H2 σ2 (g1.trans g2) ok2 en2⟩
theorem F9{t:WT}{b:WS}(mt:MonoT t)(mb:MonoS b):MonoS (PU t b):=λD D' ρ S l ⟨W,w0,h⟩=>⟨W,w0,λm ρ S w=>mt _ _ _ _ (λc S1 q=>g8 (λq=>mb.go (D:={D with nx:=λρ' S'=>∃ m',m'<m/\W m' ρ' S',ct:=λρ' S'=>∃ m',m'<m/\W m' ρ' S',bk:=D.nx}) q ⟨λ_ _ h=>h,l.rt,l.nx,λ_ _ h=>h⟩) (λq=>l.nx _ _ q) q) (h m ρ S w)⟩
theorem NJ{K:Rz}{t:WT}{b:WS}(mt:MonoT t)(mb:MonoS b):∀ D σ H,liftS K (PU t b) D σ H->Jc (liftT K t) (liftS K b) D σ H:=by
 rintro D σ H ⟨as,ρ,S,ok,en,W,⟨m0,w0⟩,h⟩;refine⟨λm σ1 H1=>∃ as1 ρ1 S1,Go as H as1 H1/\Ok K as1 H1 S1/\EnvOk K as1 H1 σ1 ρ1/\W m ρ1 S1,⟨m0,as,ρ,S,Go.refl _ _,ok,en,w0⟩,?_⟩;rintro m σ1 H1 ⟨as1,ρ1,S1,g1,ok1,en1,w1⟩;refine⟨as1,ρ1,S1,ok1,en1,mt _ _ _ _ (λc S2 q as2 H2 g2 ok2=>?_) (h m ρ1 S1 w1)⟩;refine g8 (λq=>?_) (λq=>q as2 H2 σ1 (g1.trans g2) ok2 (en1.mono g2.pre (g2.ku ok1))) q;refine⟨λσ' H'=>∃ m',m'<m/\∃ as1 ρ1 S1,Go as H as1 H'/\Ok K as1 H' S1/\EnvOk K as1 H' σ' ρ1/\W m' ρ1 S1,λσ' H' z=>z,?_⟩;refine⟨as2,ρ1,S2,ok2,en1.mono g2.pre (g2.ku ok1),mb.go q ⟨λρ' S' ⟨m',hm,w'⟩ as' H' σ' g' ok' en'=>?_,λx S h=>Post.mono h (g1.trans g2),λρ' S' q as' H' σ' g' ok' en'=>q as' H' σ' ((g1.trans g2).trans g') ok' en',λρ' S' ⟨m',hm,w'⟩ as' H' σ' g' ok' en'=>?_⟩⟩
 ·exact⟨m',hm,as',ρ',S',(g1.trans g2).trans g',ok',en',w'⟩
 ·exact⟨m',hm,as',ρ',S',(g1.trans g2).trans g',ok',en',w'⟩
theorem NK{K:Rz}{i j:Nat}{a b:WE}(ma:Mono a)(mb:Mono b):∀ D σ H,liftS K (λD ρ S=>a ρ S λx S1=>b ρ S1 λy S2=>D.nx ((ρ.set i (some x)).set j (some y)) S2) D σ H->QI i j (Gz (lift K a) (Gz (lift K b) QV)) D σ H:=by
 rintro D σ H ⟨as,ρ,S,ok,en,h⟩;refine⟨as,ρ,S,ok,en,ma _ _ _ _ (λx S1 q as1 H1 v g1 ok1 rv=>?_) h⟩;refine⟨as1,ρ,S1,ok1,en.mono g1.pre (g1.ku ok),mb _ _ _ _ (λy S2 q as2 H2 u g2 ok2 ru=>?_) q⟩;refine⟨v,u,rfl,q as2 H2 _ (g1.trans g2) ok2 ?_⟩;exact(((en.mono g1.pre (g1.ku ok)).mono g2.pre (g2.ku ok1)).set (Rl.mono g2.pre (g2.ku ok1) x v rv)).set ru
theorem Cj{x y v:SV}{S:Sto}{P P':Sto->Prop}(i:∀ S,P S->P' S)(h:Ir x y v S P):Ir x y v S P':=by
 unfold Ir at h ⊢;split at h
 ·obtain⟨xs,j,a,b,c⟩:=h;exact⟨xs,j,a,b,i _ c⟩
 ·exact h.elim
theorem NL{K:Rz}{as:List VU}{H:Hp}{S:Sto}{x y z:SV}{o i v:V}{Q:Hp->Prop}(ok:Ok K as H S)(ro:Rl K as H o x)(ri:Rl K as H i y)(rv:Rl K as H v z)(h:Ir x y z S λS'=>∀ H',Go as H as H'->Ok K as H' S'->Q H'):Jn o i v H Q:=by
 cases x with
 | loc k=>
   cases y with
   | int n=>
     obtain⟨xs,j,h1,h2,h3⟩:=h;obtain⟨a,vs,rfl,ea,ha,ra⟩:=l8 ok ro h1;rw[rl_int]at ri;subst ri;refine⟨a,vs,n,j,rfl,rfl,ha,by rw[ra.length];exact h2,h3 _ (Go.write (SB ea)) (ok.write h1 ea (ra.set rv j)).1⟩
   | _=>exact False.elim h
 | _=>exact False.elim h
theorem NM{K:Rz}{o i e:WE}(mo:Mono o)(mi:Mono i)(me:Mono e):∀ D σ H,liftS K (λD ρ S=>e ρ S λv S1=>o ρ S1 λx S2=>i ρ S2 λy S3=>Ir x y v S3 λS4=>D.nx ρ S4) D σ H->Fb (lift K e) (QH (lift K o) (lift K i) Jn) D σ H:=by
 rintro D σ H ⟨as,ρ,S,ok,en,h⟩;refine⟨as,ρ,S,ok,en,me _ _ _ _ (λz S1 q as1 H1 v g1 ok1 rv=>?_) h⟩;have en1:=en.mono g1.pre (g1.ku ok);refine⟨as1,ρ,S1,ok1,en1,mo _ _ _ _ (λx S2 q as2 H2 u g2 ok2 ru=>?_) q⟩;have en2:=en1.mono g2.pre (g2.ku ok1);refine⟨as2,ρ,S2,ok2,en2,mi _ _ _ _ (λy S3 q as3 H3 t g3 ok3 rt=>?_) q⟩;have en3:=en2.mono g3.pre (g3.ku ok2);refine NL ok3 (Rl.mono g3.pre (g3.ku ok2) x u ru) rt (Rl.mono (g2.trans g3).pre ((g2.trans g3).ku ok1) z v rv) (Cj (λS4 q H4 g4 ok4=>?_) q);exact q as3 H4 σ (((g1.trans g2).trans g3).trans g4) ok4 (en3.mono g4.pre (g4.ku ok3))
theorem DQ{x y v:SV}{S:Sto}{Q Q':Sto->Prop}(i:∀ S',Q S'->Q' S')(h:HW x y v S Q):HW x y v S Q':=let ⟨k,j,kvs,a,b,c,d,q⟩:=h;⟨k,j,kvs,a,b,c,d,i _ q⟩
theorem LH{K:Rz}{o i e:WE}(mo:Mono o)(mi:Mono i)(me:Mono e):∀ D σ H,liftS K (λD ρ S=>e ρ S λv S1=>o ρ S1 λx S2=>i ρ S2 λy S3=>HW x y v S3 λS4=>D.nx ρ S4) D σ H->KP (lift K o) (lift K i) (lift K e) D σ H:=by
 rintro D σ H ⟨as,ρ,S,ok,en,h⟩;refine⟨as,ρ,S,ok,en,me _ _ _ _ (λz S1 q as1 H1 v g1 ok1 rv=>?_) h⟩;have en1:=en.mono g1.pre (g1.ku ok);refine⟨as1,ρ,S1,ok1,en1,mo _ _ _ _ (λx S2 q as2 H2 u g2 ok2 ru=>?_) q⟩;have en2:=en1.mono g2.pre (g2.ku ok1);refine⟨as2,ρ,S2,ok2,en2,mi _ _ _ _ (λy S3 q as3 H3 t g3 ok3 rt=>?_) q⟩;have en3:=en2.mono g3.pre (g3.ku ok2);have ru':=Rl.mono g3.pre (g3.ku ok2) x u ru;have rv':=Rl.mono (g2.trans g3).pre ((g2.trans g3).ku ok1) z v rv;obtain⟨k,j,kvs,rfl,rfl,hk,hb,q⟩:=q;obtain⟨a,ea,rfl⟩:=rl_loc.mp ru';rw[rl_int]at rt;subst rt;rcases hk with hk | ⟨o',ks,hk⟩
 ·obtain⟨ks,h1,h2⟩:=ok3.obj k _ a hk ea;obtain⟨ok4,ku⟩:=ok3.writeO (x := .dct (y0 kvs j z)) (u := .dK (v9 ks (Sum.inl j) v)) hk ea (λku=>⟨_,c7,RlD.mono (Sb _) ku _ _ (h2.put rv' j)⟩);refine⟨a,H3,_,rfl,.inl rfl,.inl ⟨ks,.inl j,h1,rfl,by rw[h2.length];exact Bp hb,rfl⟩,?_⟩;exact q as3 _ σ (((g1.trans g2).trans g3).trans (Go.write (SB ea))) ok4 (en3.mono (Sb _) ku)
 ·obtain⟨h1,h2⟩:=(show RlO K as3 H3 a (.dcf o' ks kvs) from ok3.obj k _ a hk ea)
  obtain⟨ok4,ku⟩:=ok3.writeO (x := .dct (y0 kvs j z)) (u := .dK (v9 ks (Sum.inl j) v)) hk ea (λku=>⟨_,c7,RlD.mono (Sb _) ku _ _ (h2.put rv' j)⟩)
  have e:upd (upd H3 a (.dK ks)) a (.dK (v9 ks (Sum.inl j) v))=upd H3 a (.dK (v9 ks (Sum.inl j) v)):=by
   funext b
   by_cases hb:b=a
   ·rw[hb,c7,c7]
   ·rw[a8 hb,a8 hb,a8 hb]
  refine⟨a,upd H3 a (.dK ks),upd H3 a (.dK (v9 ks (Sum.inl j) v)),rfl,.inr ⟨a,o',ks,h1,rfl⟩,.inl ⟨ks,.inl j,c7,rfl,by rw[h2.length];exact Bp hb,e.symm⟩,?_⟩;exact q as3 _ σ (((g1.trans g2).trans g3).trans (Go.write (SB ea))) ok4 (en3.mono (Sb _) ku)
end
theorem LI{env:Env}{es:List Expr}{k:Nat}{p:Pos}{e:Expr}{l:Nat}:W6 [.Tuple es k p] e l env=pure false:=by
 unfold W6 Vv;cases e<;>rfl
theorem Po{env:Env}{o i:Expr}{p:Pos}{e:Expr}{l:Nat}:W6 [.Subscript o i p] e l env=pure false:=by
 unfold W6 Vv;cases e<;>rfl
theorem Pp{env:Env}{es:List Expr}{k:Nat}{p:Pos}{e:Expr}(h:LD e=true):Vy [.Tuple es k p] e env=pure none:=by
 unfold Vy;cases e<;>first | rfl | cases h
theorem Pq{env:Env}{o i:Expr}{p:Pos}{e:Expr}:Vy [.Subscript o i p] e env=pure none:=by
 unfold Vy;cases e<;>rfl
theorem Pr{env:Env}{x y:Str}{px py pt pt2:Pos}{k k2:Nat}{a b:Expr}(hk:env.scope.kind = .function)(h:NB env.scope x y px py=true)(ha:c3 a=true)(hb:c3 b=true)(h1:([a,b].all (foldedForSure 8))=false)(h2:([a,b].all (Xh 8))=false):
 Vy [.Tuple [.Name x px,.Name y py] k pt] (.Tuple [a,b] k2 pt2) env=pure (some [x,y]):=by
 have hbk:env.blockKind = .function:=by unfold Env.blockKind;rw[hk];rfl
 unfold NB at h;simp only[S8,beq_iff_eq,Sh,beq_eq_false_iff_ne]at h;obtain⟨⟨⟨hx,hy⟩,hl⟩,hne⟩:=h;have kx:env.kindOf x=some .local:=hx;have ky:env.kindOf y=some .local:=hy
 have ed:([x,y]:List Str).eraseDups.length=2:=by
  have:(y == x)=false:=by rw[beq_eq_false_iff_ne];exact λz=>hne z.symm
  rw[List.eraseDups_cons,Sl,this];rfl
 unfold Vy;simp only[T7,Tr,hbk,h1,h2,List.head?_cons,Ta,UV,Expr.pos,U8,List.filterMap_nil,kx,ky,hl];refine(iG (by decide)).trans ((iG (λz=>?_)).trans ?_)
 ·simp only[TU,V3,Ul,Sz]at z;rcases z with z | z
  ·cases a<;>first | (cases z;done) | cases ha
  ·cases b<;>first | (cases z;done) | cases hb
 ·rw[show(some NameKind.local == some NameKind.local&&py.line == py.line)=true by simp];simp only[if_true];refine(iG (by rw[ed];simp)).trans ?_;refine(iG (by simp)).trans ((iG (by simp)).trans rfl)
theorem FA{t:WT}{a b:WS}(mt:MonoT t)(ma:MonoS a)(mb:MonoS b):MonoS (λD ρ S=>t ρ S λc S1=>if c=true then a D ρ S1 else b D ρ S1):=λD D' ρ S l h=>mt _ _ _ _ (λc S1 q=>g8 (λq=>ma.go q l) (λq=>mb.go q l) q) h
section
variable{T:List Str}{Δ:Nat->Sn}{X:Cx}{N:List Str}{sc:Ve}
theorem OE{env:Env}{e:Expr}(h:c3 e=true):(Vu [e] env).map (·.2)=[assign e env]:=by cases e<;>first | rfl | cases h
theorem Gb{env:Env}{o i:Expr}{p:Pos}(h:m7 i=true):∀ v,assign (.Subscript o i p) env v=(do
 let ov <- holding [v] (eval o env)
 let iv <- holding [v,ov] (eval i env)
 standAt p
 holding [v,ov,iv] (setItem ov iv v)
 release [v,ov,iv] []):=λv=>by cases i<;>first | rfl | cases h
theorem JH(C:Cok T Δ X N.length N sc)(hk:sc.kind = .function){t:Tg}{e:Ex}{rt re:Expr}{pos:Pos}(h1:y2 N.length N sc t rt=true)(h2:f9 T N sc e re=true)(h3:c3 rt=true)(h4:Pm sc rt re=true):PS X (.Assign [rt] re pos) (liftS X.K λD ρ S=>(wEx Δ e).1 ρ S λx S1=>wTg t x ρ λρ'=>D.nx ρ' S1):=by
 have ge:=a5 e re C h2;unfold Pm at h4;cases hv:Cg rt with
 | none=>
   rw[hv]at h4;rw[S8]at h4;obtain⟨es,hes⟩:=Td.mp h4.1;obtain⟨j,p,rfl⟩:=B1 hes;exact m9 _ (Jb ge.pe (r6 C t _ h1) LI (Pp h4.2) (OE rfl)) (NH ge.m)
 | some xp=>
   rw[hv]at h4;have e0:=Bv hv;obtain⟨x,px⟩:=xp;subst e0;cases t with
   | tup ts=>rw[y2]at h1;cases h1
   | nm i=>
     rw[y2]at h1;have h1:(decide (i<N.length)&&decide (N[i]?=some x)&&loc sc x)=true:=h1;simp only[S8,dQ]at h1;obtain⟨⟨hi,hx⟩,hl⟩:=h1;unfold loc at hl;simp only[Sz,beq_iff_eq]at hl;have hND:X.N.Nodup:=by rw[C.hN];exact C.nd
     have hNi:X.N[i]?=some x:=by rw[C.hN];exact hx
     have hloc:Loc X.env.scope x:=by rw[C.hs];exact hl
     have hf:X.fn x=true\/X.env.scope.names.lookup x=some .local:=by
      rw[C.hs];rcases hl with hl | hl
      ·exact .inr hl
      ·exact .inl (C.fn i x hi hx hl)
     have hke:X.env.scope.kind = .function:=by rw[C.hs];exact hk
     cases hsw:Cf sc re x px with
     | false=>exact m9 _ (Od hND hNi hloc ge.pe (by rw[Dw hke,C.hs,hsw]) hf) (Ci ge.m)
     | true=>
       have h4:(!Cf sc re x px||Pl re||RK re||LG re)=true:=h4;rw[hsw,Bool.not_true,VE,Sz,Sz]at h4;rcases h4 with(h4 | h4) | h4
       ·unfold Pl at h4;obtain⟨v,hv',h4⟩:=a3 h4;obtain⟨gen,hgen⟩:=Td.mp h4;obtain⟨p',rfl⟩:=BV hv';rw[v3 hgen]at h2 ge hsw ⊢
        have hxl:X.env.scope.names.lookup x=some .local:=by
         rw[C.hs];unfold Cf Bu at hsw;simp only[S8,beq_iff_eq]at hsw;exact hsw.1.1
        have hs1:Vv (.ListComp v.1 [gen] v.2.2 p') (some (.Name x px)) pos.line X.env=pure true:=by rw[Dw hke,C.hs,hsw]
        cases e with
        | comp own cn js g it t' e'=>
          obtain⟨tg,ri,ifs,az⟩:=gen;have h2:(decide (az=0)&&j3 sc v.2.2 own cn N js&&y2 own.length (own++cn) (AM v.2.2 sc) g tg&&Ed T N sc it tg ri&&j9 ri&&BW T (own++cn) (AM v.2.2 sc) t' ifs&&f9 T (own++cn) (AM v.2.2 sc) e' v.1)=true:=h2;simp only[S8,dQ]at h2;obtain⟨⟨⟨⟨⟨⟨k0,k1⟩,k2⟩,k3⟩,k4⟩,k5⟩,k6⟩:=h2;subst k0;have hI:=t7 it _ _ C k3;have hT:=λs2 H2 cs A fp=>AO t' _ (C.comp k1 s2 H2 cs A fp) k5;have hE:=λs2 H2 cs A fp=>a5 e' _ (C.comp k1 s2 H2 cs A fp) k6;have mt:=(hT X.s₀ X.H₀ [] 0 []).2;have me:=(hE X.s₀ X.H₀ [] 0 []).m;have b:=Fq (i:=i) (g:=Ab X.K g) (tt:=liftT X.K (wEo Δ t').2) (te:=lift X.K (wEx Δ e').1) own cn js hND hNi hxl hI.pi (λs2 H2 cs A fp=>r6 (C.comp k1 s2 H2 cs A fp) g _ k2) (λs2 H2 cs A fp=>(hT s2 H2 cs A fp).1) (λs2 H2 cs A fp=>(hE s2 H2 cs A fp).pe) C.calm (by rw[C.hs,C.hN];exact k1) hs1 (j4 k4);refine m9 _ b λD σ H h=>?_;have:=Ci ge.m D σ H h;exact F1 hI.m mt me σ H _ this
        | no=>exact λ_ _ _ _ _ _ h=>let ⟨_,_,_,_,_,z⟩:=h;z.elim
        | _=>exact absurd h2 nofun
       ·exact Bool.noConfusion (show false=true from h4)
       ·unfold LG at h4;obtain⟨v,hv',h4⟩:=a3 h4;obtain⟨gen,hgen⟩:=Td.mp h4;obtain⟨p',rfl⟩:=BV hv';rw[CV hgen]at h2 ge hsw ⊢
        have hxl:X.env.scope.names.lookup x=some .local:=by
         rw[C.hs];unfold Cf Bu at hsw;simp only[S8,beq_iff_eq]at hsw;exact hsw.1.1
        have hs1:Vv (.ListComp v.1 [gen.1,gen.2] v.2.2 p') (some (.Name x px)) pos.line X.env=pure true:=by rw[Dw hke,C.hs,hsw]
        cases e with
        | comp2 own cn js g it t' g2 it2 t2 e'=>
          obtain⟨⟨tg,ri,ifs,az⟩,⟨tg2,ri2,ifs2,az2⟩⟩:=gen;have h2:(decide (az=0)&&decide (az2=0)&&j3 sc v.2.2 own cn N js&&y2 own.length (own++cn) (AM v.2.2 sc) g tg&&Ed T N sc it tg ri&&j9 ri&&BW T (own++cn) (AM v.2.2 sc) t' ifs&&y2 own.length (own++cn) (AM v.2.2 sc) g2 tg2&&Ed T (own++cn) (AM v.2.2 sc) it2 tg2 ri2&&j9 ri2&&BW T (own++cn) (AM v.2.2 sc) t2 ifs2&&f9 T (own++cn) (AM v.2.2 sc) e' v.1)=true:=h2;simp only[S8,dQ]at h2;obtain⟨⟨⟨⟨⟨⟨⟨⟨⟨⟨⟨k0,k0'⟩,k1⟩,k2⟩,k3⟩,k4⟩,k5⟩,k6⟩,k7⟩,k8⟩,k9⟩,ka⟩:=h2;subst k0;subst k0';have hI:=t7 it _ _ C k3;have hT:=λs2 H2 cs A fp=>AO t' _ (C.comp k1 s2 H2 cs A fp) k5;have hI2:=λs2 H2 cs A fp=>t7 it2 _ _ (C.comp k1 s2 H2 cs A fp) k7;have hT2:=λs2 H2 cs A fp=>AO t2 _ (C.comp k1 s2 H2 cs A fp) k9;have hE:=λs2 H2 cs A fp=>a5 e' _ (C.comp k1 s2 H2 cs A fp) ka;have mt:=(hT X.s₀ X.H₀ [] 0 []).2;have mi2:=(hI2 X.s₀ X.H₀ [] 0 []).m;have mt2:=(hT2 X.s₀ X.H₀ [] 0 []).2;have me:=(hE X.s₀ X.H₀ [] 0 []).m;have b:=F0 (i:=i) (g:=Ab X.K g) (tt:=liftT X.K (wEo Δ t').2) (wi2:=liftI X.K (GC Δ it2)) (g2:=Ab X.K g2) (tt2:=liftT X.K (wEo Δ t2).2) (te:=lift X.K (wEx Δ e').1) own cn js hND hNi hxl hI.pi (λs2 H2 cs A fp=>r6 (C.comp k1 s2 H2 cs A fp) g _ k2) (λs2 H2 cs A fp=>(hT s2 H2 cs A fp).1) (λs2 H2 cs A fp=>(hI2 s2 H2 cs A fp).pi) (λs2 H2 cs A fp=>r6 (C.comp k1 s2 H2 cs A fp) g2 _ k6) (λs2 H2 cs A fp=>(hT2 s2 H2 cs A fp).1) (λs2 H2 cs A fp=>(hE s2 H2 cs A fp).pe) (λ_ _ _ _ _=>j4 k8) C.calm (by rw[C.hs,C.hN];exact k1) hs1 (j4 k4);refine m9 _ b λD σ H h=>?_;have:=Ci ge.m D σ H h;exact DP hI.m mt mi2 mt2 me σ H _ this
        | no=>exact λ_ _ _ _ _ _ h=>let ⟨_,_,_,_,_,z⟩:=h;z.elim
        | _=>exact absurd h2 nofun
mutual
theorem LJ(C:Cok T Δ X N.length N sc)(hp:XJ (VY X.prog X.w) X.A X.env X.xe)(hk:sc.kind = .function):∀(s:Stm) (r:Stmt),RL T N sc s r=true->GoodS X r (wSt Δ s)
 | .asg t e,r,h=>by
   replace h:=a3 h;obtain⟨v,hv,h⟩:=h;replace h:=a3 h;obtain⟨rt,hrt,h⟩:=h;obtain⟨pos,rfl⟩:=CF hv;simp only[S8]at h;obtain⟨⟨⟨h1,h2⟩,h3⟩,h4⟩:=h;rw[v3 hrt];exact⟨JH C hk h1 h2 h3 h4,F8 (a5 e _ C h2).m⟩
 | .par i j a b,r,h=>by
   replace h:=a3 h;obtain⟨v,hv,h⟩:=h;replace h:=a3 h;obtain⟨rt,hrt,h⟩:=h;replace h:=a3 h;obtain⟨ts,hts,h⟩:=h;replace h:=a3 h;obtain⟨nn,hnn,h⟩:=h;replace h:=a3 h;obtain⟨vs,hvs,h⟩:=h;replace h:=a3 h;obtain⟨ab,hab,h⟩:=h;replace h:=a3 h;obtain⟨x,hx',h⟩:=h;replace h:=a3 h;obtain⟨y,hy',h⟩:=h;obtain⟨pos,rfl⟩:=CF hv;simp only[S8,dQ,Sh]at h;obtain⟨⟨⟨⟨⟨⟨⟨⟨⟨hx,hy⟩,hij⟩,hpar⟩,h1⟩,h2⟩,h3⟩,h4⟩,h5⟩,h6⟩:=h;obtain⟨j1,p1,e1⟩:=B1 hts;obtain⟨j2,p2,e2⟩:=B1 hvs;rw[v3 hrt,e1,CV hnn,e2,CV hab,Bv hx',Bv hy'];have ga:=a5 a _ C h1;have gb:=a5 b _ C h2;have hp2:=hpar;unfold NB at hp2;simp only[S8,beq_iff_eq]at hp2;have hke:X.env.scope.kind = .function:=by rw[C.hs];exact hk
   refine⟨m9 _ (Oe (i:=i) (j:=j) C.calm (by rw[C.hN];exact C.nd) (by rw[C.hN];exact hx) (by rw[C.hN];exact hy) hij (by rw[C.hs];exact hp2.1.1.1) (by rw[C.hs];exact hp2.1.1.2) (o9 ga.pe (o9 gb.pe AT (e8 h4)) (e8 h3)) (Pr hke (by rw[C.hs];exact hpar) h3 h4 h5 h6) LI) (NK ga.m gb.m),?_⟩;exact λD D' ρ S l h=>ga.m _ _ _ _ (λx S1 q=>gb.m _ _ _ _ (λy S2 q=>l.nx _ _ q) q) h
 | .put o i e,r,h=>by
   replace h:=a3 h;obtain⟨v,hv,h⟩:=h;replace h:=a3 h;obtain⟨rt,hrt,h⟩:=h;replace h:=a3 h;obtain⟨oi,hoi,h⟩:=h;obtain⟨pos,rfl⟩:=CF hv;obtain⟨p2,e2⟩:=B2 hoi;simp only[S8]at h;rw[v3 hrt,e2];have go:=a5 o _ C h.1.1.1;have gi:=a5 i _ C h.1.1.2;have ge:=a5 e _ C h.1.2;refine⟨m9 _ (Jb ge.pe (Oc go.pe gi.pe Jo (Gb h.2)) Po Pq (OE rfl)) (NM go.m gi.m ge.m),?_⟩;exact λD D' ρ S l h=>ge.m _ _ _ _ (λv S1 q=>go.m _ _ _ _ (λx S2 q=>gi.m _ _ _ _ (λy S3 q=>Cj (λS4 q=>l.nx _ _ q) q) q) q) h
 | .dput o i e,r,h=>by
   replace h:=a3 h;obtain⟨v,hv,h⟩:=h;replace h:=a3 h;obtain⟨rt,hrt,h⟩:=h;replace h:=a3 h;obtain⟨oi,hoi,h⟩:=h;obtain⟨pos,rfl⟩:=CF hv;obtain⟨p2,e2⟩:=B2 hoi;simp only[S8]at h;rw[v3 hrt,e2];have go:=a5 o _ C h.1.1.1;have gi:=a5 i _ C h.1.1.2;have ge:=a5 e _ C h.1.2;have:=C.un;refine⟨m9 _ (KQ (by omega) go.pe gi.pe ge.pe (by unfold Vv;cases v.2<;>rfl)) (LH go.m gi.m ge.m),?_⟩;exact λD D' ρ S l h=>ge.m _ _ _ _ (λv S1 q=>go.m _ _ _ _ (λx S2 q=>gi.m _ _ _ _ (λy S3 q=>DQ (λS4 q=>l.nx _ _ q) q) q) q) h
 | .expr e,r,h=>by
   replace h:=a3 h;obtain⟨re,hre,h⟩:=h;obtain⟨pos,rfl⟩:=NC hre;simp only[S8]at h;have ge:=a5 e _ C h.1
   have hs:Vv re none pos.line X.env=pure false:=by
    have:=h.2;unfold Vv;cases re<;>first | rfl | (unfold Bu at this;cases this)
   refine⟨m9 _ (MC ge.pe hs) ?_,λD D' ρ S l h=>ge.m _ _ _ _ (λx S1 q=>l.nx _ _ q) h⟩;rintro D σ H ⟨as,ρ,S,ok,en,h⟩;exact⟨as,ρ,S,ok,en,ge.m _ _ _ _ (λx S1 q as1 H1 v g1 ok1 rv=>q as1 H1 σ g1 ok1 (en.mono g1.pre (g1.ku ok))) h⟩
 | .iff t a b,r,h=>by
   replace h:=a3 h;obtain⟨v,hv,h⟩:=h;obtain⟨pos,rfl⟩:=ND hv;simp only[S8]at h;have gt:=a5 t _ C h.1.1;have ga:=AQ C hp hk a _ h.1.2;have gb:=AQ C hp hk b _ h.2;exact⟨m9 _ (QD gt.pt ga.ps gb.ps) (Pn gt.mt ga.m gb.m),FA gt.mt ga.m gb.m⟩
 | .loop g it b,r,h=>by
   replace h:=a3 h;obtain⟨v,hv,h⟩:=h;obtain⟨pos,rfl⟩:=NE hv;simp only[S8,T8]at h;obtain⟨⟨⟨⟨h1,h2⟩,h3⟩,h4⟩,h5⟩:=h;rw[h5];have gi:=t7 it _ _ C h2;have gb:=AQ C hp hk b _ h4;refine⟨m9 _ (Of hp C.calm gi.pi (r6 C g _ h1) gb.ps (j4 h3)) (NI gi.m gb.m),?_⟩;exact λD D' ρ S l h=>gi.m _ _ _ _ (λkeep xs S1 q=>B6 gb.m xs l _ _ q) h
 | .whl t b,r,h=>by
   replace h:=a3 h;obtain⟨v,hv,h⟩:=h;obtain⟨pos,rfl⟩:=NF hv;simp only[S8,T8]at h;rw[h.2];have gt:=a5 t _ C h.1.1;have gb:=AQ C hp hk b _ h.1.2;exact⟨m9 _ (Jd hp gt.pt gb.ps) (NJ gt.mt gb.m),F9 gt.mt gb.m⟩
 | .ret e,r,h=>by
   replace h:=a3 h;obtain⟨o,ho,h⟩:=h;replace h:=a3 h;obtain⟨re,hre,h⟩:=h;obtain⟨pos,rfl⟩:=NG ho;rw[hre];have ge:=a5 e _ C h;exact⟨m9 _ (OZ ge.pe) λD σ H ⟨as,ρ,S,ok,en,h⟩=>⟨as,ρ,S,ok,en,h⟩,λD D' ρ S l h=>ge.m _ _ _ _ l.rt h⟩
 | .no,r,h=>⟨λ_ _ _ _ _ _ h=>let ⟨_,_,_,_,_,z⟩:=h;z.elim,λ_ _ _ _ _ h=>h⟩
theorem AQ(C:Cok T Δ X N.length N sc)(hp:XJ (VY X.prog X.w) X.A X.env X.xe)(hk:sc.kind = .function):∀(s:List Stm) (r:List Stmt),BX T N sc s r=true->GoodSs X r (wSs Δ s)
 | [],r,h=>by
   rw[BX,T8]at h;subst h;exact GZ
 | s::ss,r,h=>by
   rw[BX]at h;replace h:=a3 h;obtain⟨x,hx,h⟩:=h;rw[S8]at h;rw[A9 hx];have:=F7 (LJ C hp hk s x h.1) (AQ C hp hk ss _ h.2);rw[wSs];exact this
end
end
mutual
theorem a4{Δ:Nat->Sn}(hΔ:∀ f,MonoN (Δ f)):∀(e:Ex),Mono (wEx Δ e).1/\MonoT (wEx Δ e).2
 | .var i=>⟨.var,.tru .var⟩
 | .c x=>⟨.c,.tru .c⟩
 | .op o a b=>have m:Mono _ := .two (s:=sOp o) HY (a4 hΔ a).1 (a4 hΔ b).1;⟨m,.tru m⟩
 | .neg a=>have m:Mono _ := .one CY (a4 hΔ a).1;⟨m,.tru m⟩
 | .cmp o a b=>have m:Mono _ := .two (s:=AV o) v4 (a4 hΔ a).1 (a4 hΔ b).1;⟨m,.bl m⟩
 | .chn o p a b c=>have m:=Ef (o:=o) (p:=p) (a4 hΔ a).1 (a4 hΔ b).1 (a4 hΔ c).1;⟨m,.bl m⟩
 | .and a b=>⟨.and (a4 hΔ a).1 (a4 hΔ b).1,.and (a4 hΔ a).2 (a4 hΔ b).2⟩
 | .or a b=>⟨.or (a4 hΔ a).1 (a4 hΔ b).1,.or (a4 hΔ a).2 (a4 hΔ b).2⟩
 | .not a=>⟨.not (a4 hΔ a).1,.not (a4 hΔ a).2⟩
 | .ife t a b=>⟨.ifE (a4 hΔ t).2 (a4 hΔ a).1 (a4 hΔ b).1,λ_ _ _ _ _ h=>h⟩
 | .tup es=>have m:Mono _ := .n .tup (AR hΔ es);⟨m,.tru m⟩
 | .lst es=>have m:Mono _ := .n .lst (AR hΔ es);⟨m,.tru m⟩
 | .ix a b=>have m:Mono _ := .two .ix (a4 hΔ a).1 (a4 hΔ b).1;⟨m,.tru m⟩
 | .slc a lo hi=>have m:Mono _:=(λρ S P P' i h=>(a4 hΔ a).1 _ _ _ _ (λx S1 h=>(c9 hΔ lo).1 _ _ _ _ (λl S2 h=>(c9 hΔ hi).1 _ _ _ _ (λk S3 h=>Ca i h) h) h) h:Mono (PR _ _ _));⟨m,.tru m⟩
 | .call f es=>have m:Mono _ := .n (hΔ f) (AR hΔ es);⟨m,.tru m⟩
 | .bi b es=>have m:Mono _ := .n (s:=sBi b) .bi (AR hΔ es);⟨m,.tru m⟩
 | .mt m' a es=>have m:Mono _:=Mono.mt (m:=m') (a4 hΔ a).1 (AR hΔ es);⟨m,.tru m⟩
 | .comp own cn js g it t e=>have m:Mono _:=Mono.comp (k:=own.length) (js:=js) (g:=g) (Au hΔ it) (c9 hΔ t).2 (a4 hΔ e).1;⟨m,.tru m⟩
 | .comp2 own cn js g it t g2 it2 t2 e=>have m:Mono _:=Mono.comp2 (k:=own.length) (js:=js) (g:=g) (g2:=g2) (Au hΔ it) (c9 hΔ t).2 (Au hΔ it2) (c9 hΔ t2).2 (a4 hΔ e).1;⟨m,.tru m⟩
 | .tyc t=>⟨.c,.tru .c⟩
 | .lrng1 a=>have m:=Cb (a4 hΔ a).1;⟨m,.tru m⟩
 | .dnewl=>⟨BJ,.tru BJ⟩
 | .setdl d e v=>have m:=Cd (a4 hΔ d).1 (a4 hΔ e).1 (a4 hΔ v).1;⟨m,.tru m⟩
 | .dgetl a b=>have m:Mono _ := .two BH (a4 hΔ a).1 (a4 hΔ b).1;⟨m,.tru m⟩
 | .srtu a=>have m:=DN (a4 hΔ a).1;⟨m,.tru m⟩
 | .like n a b=>have m:Mono _ := .two (B4 (n:=n)) (a4 hΔ a).1 (a4 hΔ b).1;⟨m,.bl m⟩
 | .dctl a=>have m:=DM (a4 hΔ a).1;⟨m,.tru m⟩
 | .dget a b=>have m:Mono _ := .two Bs (a4 hΔ a).1 (a4 hΔ b).1;⟨m,.tru m⟩
 | .no=>⟨λ_ _ _ _ _ h=>h,λ_ _ _ _ _ h=>h⟩
theorem AR{Δ:Nat->Sn}(hΔ:∀ f,MonoN (Δ f)):∀(es:Exs),MonoA (EX Δ es)
 | .nil => .nil
 | .cons e es => .cons (a4 hΔ e).1 (AR hΔ es)
theorem c9{Δ:Nat->Sn}(hΔ:∀ f,MonoN (Δ f)):∀(o:Eo),MonoO (wEo Δ o).1/\MonoT (wEo Δ o).2
 | .no=>⟨.no,λ_ _ _ _ i q=>i _ _ q⟩
 | .yes e=>⟨.yes (a4 hΔ e).1,(a4 hΔ e).2⟩
theorem Au{Δ:Nat->Sn}(hΔ:∀ f,MonoN (Δ f)):∀(it:Itb),MonoI (GC Δ it)
 | .seq e=>λρ S P P' i h=>(a4 hΔ e).1 _ _ _ _ (λx S1 ⟨xs,e,q⟩=>⟨xs,e,i _ _ _ q⟩) h
 | .rng1 a=>λρ S P P' i h=>(a4 hΔ a).1 _ _ _ _ (λx S1 ⟨j,e,z,q⟩=>⟨j,e,z,i _ _ _ q⟩) h
 | .rng2 a b=>λρ S P P' i h=>(a4 hΔ a).1 _ _ _ _ (λx S1 h=>(a4 hΔ b).1 _ _ _ _ (λy S2 ⟨l,j,e,e2,z,q⟩=>⟨l,j,e,e2,z,i _ _ _ q⟩) h) h
 | .enum e=>λρ S P P' i h=>(a4 hΔ e).1 _ _ _ _ (λx S1 ⟨xs,e,q⟩=>⟨xs,e,i _ _ _ q⟩) h
 | .dtk e=>λρ S P P' i h=>(a4 hΔ e).1 _ _ _ _ (λx S1 ⟨k,kvs,e,hk,q⟩=>⟨k,kvs,e,hk,λo us=>i _ _ _ (q o us)⟩) h
end
mutual
theorem NN{Δ:Nat->Sn}(hΔ:∀ f,MonoN (Δ f)):∀(s:Stm),MonoS (wSt Δ s)
 | .asg t e=>by exact F8 (a4 hΔ e).1
 | .par i j a b=>by exact λD D' ρ S l h=>(a4 hΔ a).1 _ _ _ _ (λx S1 q=>(a4 hΔ b).1 _ _ _ _ (λy S2 q=>l.nx _ _ q) q) h
 | .put o i e=>by exact λD D' ρ S l h=>(a4 hΔ e).1 _ _ _ _ (λv S1 q=>(a4 hΔ o).1 _ _ _ _ (λx S2 q=>(a4 hΔ i).1 _ _ _ _ (λy S3 q=>Cj (λS4 q=>l.nx _ _ q) q) q) q) h
 | .dput o i e=>by exact λD D' ρ S l h=>(a4 hΔ e).1 _ _ _ _ (λv S1 q=>(a4 hΔ o).1 _ _ _ _ (λx S2 q=>(a4 hΔ i).1 _ _ _ _ (λy S3 q=>DQ (λS4 q=>l.nx _ _ q) q) q) q) h
 | .expr e=>by exact λD D' ρ S l h=>(a4 hΔ e).1 _ _ _ _ (λx S1 q=>l.nx _ _ q) h
 | .iff t a b=>by exact FA (a4 hΔ t).2 (f7 hΔ a) (f7 hΔ b)
 | .loop g it b=>by exact λD D' ρ S l h=>Au hΔ it _ _ _ _ (λkeep xs S1 q=>B6 (f7 hΔ b) xs l _ _ q) h
 | .whl t b=>by exact F9 (a4 hΔ t).2 (f7 hΔ b)
 | .ret e=>by exact λD D' ρ S l h=>(a4 hΔ e).1 _ _ _ _ l.rt h
 | .no=>by exact λD D' ρ S l h=>h
theorem f7{Δ:Nat->Sn}(hΔ:∀ f,MonoN (Δ f)):∀(s:List Stm),MonoS (wSs Δ s)
 | []=>by exact λD D' ρ S l h=>l.nx _ _ h
 | s::ss=>by exact λD D' ρ S l h=>(NN hΔ s).go (D:={D with nx:=wSs Δ ss D}) h ⟨λρ' S' q=>(f7 hΔ ss) _ _ _ _ l q,l.rt,l.bk,l.ct⟩
end
theorem Ps{P:List VS->Prop}{n:Nat}(h:∀ a us,us.length=n->P (a::us)):∀ us:List VS,us.length=n+1->P us
 | a::us,e=>h a us (Nat.succ.inj e)
theorem D2{P:List VS->Prop}(h:∀ a,P [a]):∀ us:List VS,us.length=1->P us:=Ps λa us e=>TR.mp e▸h a
theorem BM{P:List VS->Prop}(h:∀ a b,P [a,b]):∀ us:List VS,us.length=2->P us:=Ps λa=>D2 (P:=λus=>P (a::us)) (h a)
theorem RM{P:List VS->Prop}(h:∀ a b c,P [a,b,c]):∀ us:List VS,us.length=3->P us:=Ps λa=>BM (P:=λus=>P (a::us)) (h a)
structure Df where
 name:Str
 st:Stmt
 ps:List Str
 N:List Str
 body:List Stm
noncomputable def l6(Q:QE):EndsS:=⟨λ_ S'=>Q .non S',Q,λ_ _=>False,λ_ _=>False⟩
noncomputable def Hq(n:Nat)(xs:List SV):EnvS:=xs.map some++SJ (n - xs.length) none
noncomputable def i5(Δ:Nat->Sn)(D:Df):Sn:=λxs S Q=>xs.length=D.ps.length/\wSs Δ D.body (l6 Q) (Hq D.N.length xs) S
noncomputable def W(prog:List Df):Nat->Nat->Sn
 | 0,_=>λ_ _ _=>False
 | d+1,f=>match prog[f]? with
   | some D=>i5 (W prog d) D
   | none=>λ_ _ _=>False
theorem LK{Δ:Nat->Sn}(hΔ:∀ f,MonoN (Δ f))(D:Df):MonoN (i5 Δ D):=λxs S P P' i h=>⟨h.1,(f7 hΔ D.body).go h.2 ⟨λ_ _ q=>i _ _ q,i,λ_ _ q=>q,λ_ _ q=>q⟩⟩
theorem Ck{prog:List Df}:∀(d f:Nat),MonoN (W prog d f)
 | 0,f=>λ_ _ _ _ _ h=>h
 | d+1,f=>by
   unfold W;split
   ·exact LK (Ck d) _
   ·exact λ_ _ _ _ _ h=>h
noncomputable def fnB(N ps:List Str)(sc:Ve):Bool:=decide (sc.kind = .function)&&!sc.isCoroutine&&!sc.isGenerator&&decide N.Nodup&&decide (N.take ps.length=ps)&&ps.all (loc sc)&&sc.names.all (λy=>!decide (y.2 = .free))
theorem Pt{N ps:List Str}{sc:Ve}(h:fnB N ps sc=true):FnScope N ps sc:=by
 unfold fnB at h;simp only[S8,dQ,Sh,SZ,decide_eq_false_iff_not]at h;obtain⟨⟨⟨⟨⟨⟨h1,h2⟩,h3⟩,h4⟩,h5⟩,h6⟩,h7⟩:=h;refine⟨h1,h2,h3,h4,h5,λx hx=>?_,h7⟩;have:=h6 x hx;unfold loc at this;simpa using this
noncomputable def NO(T:List Str)(D:Df):Bool:=fnB D.N D.ps (defScope D.st)&&BX T D.N (defScope D.st) D.body (defBody D.st)
structure Bl(mg:Str->Option VS):Prop where
 bl:∀ b:BI,mg b.name=none
 rng:mg "range"=none
 enm:mg "enumerate"=none
 rvs:mg "reversed"=none
 zip:mg "zip"=none
 st0:mg "set"=none
 dc0:mg "dict"=none
 ty:∀ t:TyN,t ≠ .none->mg (Str.ofString t.nm)=none
section
variable{P:VZ}{w:Vc}{K:Rz}{mg:Str->Option VS}{base:Heap}
theorem JI{as:List VU}{H:Hp}{N:List Str}{vs:List V}{xs:List SV}(r:RlAll K as H vs xs):EnvOk K as H (L2.start N vs) (Hq N.length xs):=by
 unfold L2.start Hq;rw[<-r.length];refine⟨by simp[r.length],λi x e=>?_⟩;by_cases hi:i<vs.length
 ·rw[SY (by rw[S7,<-r.length];exact hi),SL]at e;rw[SY (by simpa using hi),SL];cases hx:xs[i]? with
  | none=>rw[hx]at e;cases e
  | some y=>
    rw[hx]at e;have:y=x:=by simpa using e
    subst this;obtain⟨v,hv,rv⟩:=r.get hx;exact⟨v,by rw[hv];rfl,rv⟩
 ·rw[So (by rw[S7,<-r.length];omega),Th]at e;split at e<;>cases e
theorem LL{T:List Str}{Δ:Nat->Sn}{D:Df}{f:VU}{fd:W4}{k:Nat}(F:Fun K D.name D.name D.st f fd)(hc:NO T D=true)(B:Bl mg)(hcall:∀ f x,T[f]?=some x->∃ ps,Cal P w K mg base k x ps (spS K (Δ f)))(hΔ:∀ f,MonoN (Δ f)):FnOk P w K mg base CX0 (k+1) f fd D.ps (spS K (i5 Δ D)):=by
 unfold NO at hc;rw[S8]at hc;have S:=Pt hc.1;refine F.ok S (λvs H Q E h=>?_) (λcdv A outer s H vs Q E hr h=>?_)
 ·obtain⟨as,S,xs,ok,r,hl,_⟩:=h;rw[r.length];exact hl
 ·have C:Cok T Δ (Fi CX0 P w K mg base D.N D.name (defScope D.st) f cdv A outer s H E).nox D.N.length D.N (defScope D.st):={
   hN:=rfl,hs:=rfl,nd:=S.nd,calm:=rfl,fn:=λ_ _ _ _ _=>rfl
   un:=by have:=hr.un;show(A.deeper _).units+102<cLine;omega
   bl:=B.bl,rng:=B.rng,enm:=B.enm,rvs:=B.rvs,zip:=B.zip,st0:=B.st0,dc0:=B.dc0,ty:=B.ty,gd:=hr.gd
   call:=λg x hx=>let ⟨ps,c⟩:=hcall g x hx;⟨k,ps,c,hr⟩
   mono:=hΔ}
  refine⟨_,(AQ C PassesOwn.never S.kind D.body _ hc.2).ps,?_⟩;obtain⟨as,S,xs,ok,r,hl,h⟩:=h;refine⟨as,_,S,ok,JI r,(f7 hΔ D.body).go h ⟨λρ' S' q as' H' σ' g ok' en'=>q as' H' _ g ok' (rl_non.mpr rfl),λx S' q=>q,λ_ _ q=>q.elim,λ_ _ q=>q.elim⟩⟩
structure PIn(K:Rz)(mg:Str->Option VS)(D:Df):Prop where
 ex:∃ f fd,Fun K D.name D.name D.st f fd/\mg D.name=some (.ref f)/\PySem.W.keepIn K (.ref f)=true/\Binds K fd D.ps []
theorem Hr{prog:List Df}(hc:prog.all (NO (prog.map (·.name)))=true)(B:Bl mg)(hin:∀ D∈prog,PIn K mg D):∀(d f:Nat) (D:Df),prog[f]?=some D->Cal P w K mg base d D.name D.ps (spS K (W prog d f))
 | 0,f,D,hf=>by
   obtain⟨fa,fd,F,hm,hk,hb⟩:=(hin D (SB hf)).ex;refine⟨fa,fd,⟨λvs H Q E h=>?_,λA outer s H args us vs Q E hr he hbn hv h=>?_⟩,hm,hk,hb⟩
   ·obtain⟨_,_,_,_,_,z⟩:=h;exact z.elim
   ·obtain⟨_,_,_,_,_,z⟩:=h;exact z.elim
 | d+1,f,D,hf=>by
   obtain⟨fa,fd,F,hm,hk,hb⟩:=(hin D (SB hf)).ex;have h1:=SZ.mp hc D (SB hf)
   have:=LL (Δ:=W prog d) (P:=P) (w:=w) (base:=base) (k:=d) F h1 B (λg x hx=>by
    rw[SL]at hx;cases hg:prog[g]? with
    | none=>rw[hg]at hx;cases hx
    | some D'=>
      rw[hg]at hx;have:D'.name=x:=by simpa using hx
      subst this;exact⟨D'.ps,Hr hc B hin d g D' hg⟩) (Ck d)
   have e:W prog (d+1) f=i5 (W prog d) D:=by rw[W,hf]
   rw[e];exact⟨fa,fd,this,hm,hk,hb⟩
theorem Pu{prog:List Df}{d f:Nat}{H:Hp}{a:VU}{ns:List Int}(main:W prog d f [.ro (ns.map SV.int)] [] λx _=>x = .bl true)(hO:MM H)(hS:SqL K H a (ns.map V.int)):spS K (W prog d f) [.ref a] H (λv _=>v = .bl true) λ_ _ _=>False:=by
 have hz:FzL K H a (ns.map V.int):=by
  rcases hS with(h | ⟨o,h⟩) | h
  ·rcases hO a with z | ⟨o,xs,z⟩<;>rw[h]at z<;>cases z
  ·exact .inl ⟨o,h⟩
  ·exact .inr h
 refine⟨[],[],_,⟨rfl,VB,λk o a e=>by simp at e⟩,.cons (rl_ro.mpr ⟨a,_,rfl,hz,RlAll.ints⟩) .nil,Ck d f _ _ _ _ (λx S' e as' H' v g ok r=>?_) main⟩;subst e;exact rl_bl.mp r
end
theorem a6{k:Nat}{S:Sto}{xs:List SV}(h:S[k]?=some (.lst xs)):AH (.loc k) S=some xs:=by simp only[AH,h]
theorem FB{k:Nat}{S:Sto}{xs:List SV}(h:S[k]?=some (.lst xs)):CQ (.loc k) S=none:=by simp only[CQ,h]
theorem LM{k:Nat}{S:Sto}{xs:List SV}(h:S[k]?=some (.lst xs)):tyS (.loc k) S=some .list:=by simp only[tyS,h]
theorem ifT{b:Bool}{A B:Prop}(h:b=true)(a:A):if b=true then A else B:=by rw[iP h];exact a
theorem ifF{b:Bool}{A B:Prop}(h:b=false)(a:B):if b=true then A else B:=by rw[iG (by rw[h];decide)];exact a
theorem ifD{c A B:Prop}[Decidable c](h1:c->A)(h2:¬ c->B):if decide c=true then A else B:=by
 by_cases h:c
 ·rw[iP (decide_eq_true h)];exact h1 h
 ·rw[iG (by simpa using h)];exact h2 h
theorem ifB{b:Bool}{A B:Prop}(h1:b=true->A)(h2:b=false->B):if b=true then A else B:=by
 cases b with
 | true=>rw[iP rfl];exact h1 rfl
 | false=>rw[iG (by decide)];exact h2 rfl
theorem l7{S:Sto}{k:Nat}{o u:SO}(h:S[k]?=some o):(S.set k u)[k]?=some u:=TV ((gM h).1)
theorem AB{S:Sto}{k j:Nat}{u:SO}(h:k≠j):(S.set k u)[j]?=S[j]?:=Tt h
theorem c4{S:Sto}{o:SO}:(S++[o])[S.length]?=some o:=Sf
theorem f6{S:Sto}{o u:SO}{k:Nat}(h:S[k]?=some u):(S++[o])[k]?=some u:=by
 rw[SY ((gM h).1)];exact h
theorem DR{S:Sto}{o:SO}{k:Nat}(h:S[k]?=some o):k<S.length:=(gM h).1
structure TapeS(S:Sto)(t:Nat):Prop where
 ex:∃ a b:Int,S[t]?=some (.lst [.int a,.int b])/\0<=a/\0<=b/\b<2147483647
structure On(t:Nat)(S S':Sto):Prop where
 len:S.length<=S'.length
 keep:∀ k o,k≠t->S[k]?=some o->S'[k]?=some o
theorem On.refl(t:Nat)(S:Sto):On t S S:=⟨SK _,λ_ _ _ h=>h⟩
theorem On.trans{t:Nat}{S S' S'':Sto}(a:On t S S')(b:On t S' S''):On t S S'':=⟨Sj a.len b.len,λk o n h=>b.keep k o n (a.keep k o n h)⟩
theorem On.push{t:Nat}{S S':Sto}{o:SO}(a:On t S S'):On t S (S'++[o]):=⟨by rw[SA];have:=a.len;omega,λk u n h=>f6 (a.keep k u n h)⟩
theorem On.tape{t:Nat}{S S':Sto}{o:SO}(a:On t S S'):On t S (S'.set t o):=⟨by rw[Sq];exact a.len,λk u n h=>by rw[AB (Ne.symm n)];exact a.keep k u n h⟩
theorem On.new{t k:Nat}{S S':Sto}{o:SO}(a:On t S S')(h:S.length<=k):On t S (S'.set k o):=⟨by rw[Sq];exact a.len,λj u n hj=>by
 rw[AB (λz=>by have:=DR hj;omega)];exact a.keep j u n hj⟩
theorem TapeS.push{S:Sto}{t:Nat}{o:SO}(h:TapeS S t):TapeS (S++[o]) t:=let ⟨a,b,e,z⟩:=h.ex;⟨a,b,f6 e,z⟩
theorem TapeS.other{S:Sto}{t k:Nat}{o:SO}(h:TapeS S t)(n:k≠t):TapeS (S.set k o) t:=let ⟨a,b,e,z⟩:=h.ex;⟨a,b,by rw[AB n];exact e,z⟩
theorem TapeS.lt{S:Sto}{t:Nat}(h:TapeS S t):t<S.length:=let ⟨_,_,e,_⟩:=h.ex;DR e
theorem i0{keep:Sto->Prop}{g:Tg}{b:WS}{D:EndsS}(mb:MonoS b)(I:Nat->EnvS->Sto->Prop){xs:List SV}{ρ:EnvS}{S:Sto}(h0:I 0 ρ S)(hk:∀ i ρ S,I i ρ S->keep S)
 (hs:∀ i x ρ S,xs[i]?=some x->I i ρ S->wTg g x ρ λρ2=>b {D with nx:=I (i+1),ct:=I (i+1),bk:=D.nx} ρ2 S) (hd:∀ ρ S,I xs.length ρ S->D.nx ρ S):t4 keep g b D xs ρ S:=by
 have go:∀(ys:List SV) (i:Nat) (ρ:EnvS) (S:Sto),xs.drop i=ys->i<=xs.length->I i ρ S->t4 keep g b D ys ρ S:=by
  intro ys
  induction ys with
  | nil=>
    intro i ρ S e hi h
    have:i=xs.length:=by
     have:=congrArg UC e;rw[Sw,Tr]at this;omega
    subst this;unfold t4;exact⟨hk _ _ _ h,hd _ _ h⟩
  | cons y ys ih=>
    intro i ρ S e hi h
    have hy:xs[i]?=some y:=by
     rw[<-UL,e];rfl
    have hlt:=(gM hy).1;have e2:xs.drop (i+1)=ys:=by rw[<-UQ,e];rfl
    unfold t4;refine⟨hk _ _ _ h,j0 g (λρ2 q=>?_) (hs i y ρ S hy h)⟩;exact mb.go (D:={D with nx:=I (i+1),ct:=I (i+1),bk:=D.nx}) q ⟨λρ' S' z=>ih (i+1) ρ' S' e2 hlt z,λ_ _ z=>z,λ_ _ z=>z,λρ' S' z=>ih (i+1) ρ' S' e2 hlt z⟩
 exact go xs 0 ρ S rfl (Tf _) h0
theorem c8{keep:Sto->Prop}{g:Tg}{t:WT}{e:WE}{ρ:EnvS}{Q:List SV->Sto->Prop}(mt:MonoT t)(me:Mono e)(I:Nat->List SV->Sto->Prop){xs:List SV}{S:Sto}(h0:I 0 [] S)(hk:∀ i ys S,I i ys S->keep S)
 (hs:∀ i x ys S,xs[i]?=some x->I i ys S->wTg g x ρ λρ2=>t ρ2 S λb S1=>if b=true then e ρ2 S1 λy S2=>ys.length<big/\I (i+1) (ys++[y]) S2 else I (i+1) ys S1) (hd:∀ ys S,I xs.length ys S->Q ys S):m5 keep g t e ρ Q xs [] S:=by
 have go:∀(zs:List SV) (i:Nat) (ys:List SV) (S:Sto),xs.drop i=zs->i<=xs.length->I i ys S->m5 keep g t e ρ Q zs ys S:=by
  intro zs
  induction zs with
  | nil=>
    intro i ys S e' hi h
    have:i=xs.length:=by
     have:=congrArg UC e';rw[Sw,Tr]at this;omega
    subst this;unfold m5;exact⟨hk _ _ _ h,hd _ _ h⟩
  | cons y zs ih=>
    intro i ys S e' hi h;have hy:xs[i]?=some y:=by rw[<-UL,e'];rfl
    have hlt:=(gM hy).1;have e2:xs.drop (i+1)=zs:=by rw[<-UQ,e'];rfl
    unfold m5;refine⟨hk _ _ _ h,j0 g (λρ2 q=>mt _ _ _ _ (λb S1 q=>g8 (λq=>me _ _ _ _ (λv S2 q=>⟨q.1,ih (i+1) _ S2 e2 hlt q.2⟩) q) (λq=>ih (i+1) _ S1 e2 hlt q) q) q) (hs i y ys S hy h)⟩
 exact go xs 0 [] S rfl (Tf _) h0
theorem i3{lo hi:Int}{i:Nat}{x:SV}(h:(Ao lo hi)[i]?=some x):x = .int (lo+i)/\lo+i<hi:=by
 unfold Ao at h
 have hi':i<(hi - lo).toNat:=by
  have:=(gM h).1;simpa using this
 rw[SL,TZ hi']at h;exact⟨(oj h).symm,by omega⟩
theorem i4{lo hi:Int}:(Ao lo hi).length=(hi - lo).toNat:=by unfold Ao;simp
noncomputable def pairS(e:Nat×Nat):SV := .tup [.int e.1,.int e.2]
noncomputable def OF:List Stm:=[(.asg (.nm 2) (.c (.int 0))),(.iff (.cmp .Lt (.var 1) (.bi .len (.cons (.var 0) .nil))) [(.asg (.nm 2) (.ix (.var 0) (.var 1)))] []),(.asg (.nm 3) (.op .Mult (.bi .abs (.cons (.var 2) .nil)) (.bi .int (.cons (.cmp .GtE (.bi .abs (.cons (.var 2) .nil)) (.op .Pow (.c (.int 10)) (.c (.int 18)))) .nil)))),(.ret (.lst (.cons (.var 3) (.cons (.op .Mod (.op .Mult (.op .Mod (.op .Add (.op .Add (.var 2) (.op .Mult (.c (.int 7919)) (.var 1))) (.c (.int 1))) (.c (.int 2147483647))) (.c (.int 48271))) (.c (.int 2147483647))) .nil))))]
noncomputable def OG:List Stm:=[(.iff (.cmp .Gt (.ix (.var 0) (.c (.int 0))) (.c (.int 0))) [(.asg (.nm 2) (.op .Mod (.ix (.var 0) (.c (.int 0))) (.var 1))),(.put (.var 0) (.c (.int 0)) (.op .FloorDiv (.ix (.var 0) (.c (.int 0))) (.var 1))),(.ret (.var 2))] []),(.put (.var 0) (.c (.int 1)) (.op .Mod (.op .Add (.op .Mult (.ix (.var 0) (.c (.int 1))) (.c (.int 48271))) (.c (.int 12345))) (.c (.int 2147483647)))),(.asg (.nm 3) (.op .Mod (.op .Mult (.ix (.var 0) (.c (.int 1))) (.op .Add (.op .Mod (.ix (.var 0) (.c (.int 1))) (.c (.int 1009))) (.c (.int 3)))) (.c (.int 2147483629)))),(.ret (.op .Mod (.op .Mod (.op .Mult (.var 3) (.op .Add (.op .Mod (.var 3) (.c (.int 997))) (.c (.int 5)))) (.c (.int 998244353))) (.var 1)))]
noncomputable def i7(s:Sn):Prop:=∀{t:Nat} {m:Int} {S:Sto} {Q:QE},TapeS S t->0<m->m<1073741824->(∀(r:Int) (S':Sto),0<=r->r<m->TapeS S' t->On t S S'->S'.length=S.length->Q (.int r) S')->s [.loc t,.int m] S Q
noncomputable def LN(s:Sn):Prop:=∀{ns:List Int} {k:Nat} {S:Sto} {Q:QE},ns.length<=63->k<=1000->(∀ a b:Int,0<=a->0<=b->b<2147483647->Q (.loc S.length) (S++[.lst [.int a,.int b]]))->s [.ro (ns.map SV.int),.int k] S Q
theorem b01(b:Bool):-(2 ^ 64)<(if b=true then (1:Int) else 0)/\(if b=true then (1:Int) else 0)<2 ^ 64:=by cases b<;>decide
theorem b00(b:Bool):0<=(if b=true then (1:Int) else 0):=by cases b<;>decide
theorem NP{Δ:Nat->Sn}{D:Df}(hb:D.body=OG)(hN:D.N.length=4)(hp:D.ps.length=2):i7 (i5 Δ D):=by
 intro t m S Q T h0 h1 q;obtain⟨a,b,hS,ha,hb0,hb1⟩:=T.ex;unfold i5;rw[hb,hN];refine⟨hp.symm,?_⟩;have go:∀ r a' b':Int,0<=r->r<m->0<=a'->0<=b'->b'<2147483647->Q (.int r) (S.set t (.lst [.int a',.int b'])):=λr a' b' r0 r1 a0 b0 b1=>q r _ r0 r1 ⟨a',b',l7 hS,a0,b0,b1⟩ (On.refl t S).tape (by rw[Sq]);refine⟨_,rfl,_,_,a6 hS,rfl,_,rfl,ifD (λh=>?_) (λh=>?_)⟩
 ·refine⟨_,rfl,_,_,a6 hS,rfl,_,rfl,h0,?_⟩;refine⟨_,rfl,_,_,a6 hS,rfl,_,rfl,⟨h0,h1⟩,_,rfl,_,_,hS,rfl,_,rfl,?_⟩;exact go _ _ _ (Tb _ (by omega)) (TJ _ h0) (Int.ediv_nonneg ha (by omega)) hb0 hb1
 ·refine⟨_,rfl,_,_,a6 hS,rfl,.inr (by decide),show(0:Int)<2147483647 by decide,_,rfl,_,_,hS,rfl,?_⟩;have e0:0<=(b * 48271+12345) % 2147483647:=Tb _ (by decide);have e1:(b * 48271+12345) % 2147483647<2147483647:=TJ _ (by decide);have hS1:(S.set t (.lst [.int a,.int ((b * 48271+12345) % 2147483647)]))[t]?=some (.lst [.int a,.int ((b * 48271+12345) % 2147483647)]):=l7 hS;refine⟨_,rfl,_,_,a6 hS1,rfl,_,rfl,_,_,a6 hS1,rfl,show(0:Int)<1009 by decide,.inl ⟨by omega,by omega⟩,show(0:Int)<2147483629 by decide,?_⟩;have f0:0<=((b * 48271+12345) % 2147483647 * ((b * 48271+12345) % 2147483647 % 1009+3)) % 2147483629:=Tb _ (by decide);have f1:((b * 48271+12345) % 2147483647 * ((b * 48271+12345) % 2147483647 % 1009+3)) % 2147483629<2147483629:=TJ _ (by decide);refine⟨_,rfl,_,rfl,show(0:Int)<997 by decide,.inl ⟨by omega,by omega⟩,show(0:Int)<998244353 by decide,_,rfl,h0,?_⟩;exact go _ _ _ (Tb _ (by omega)) (TJ _ h0) ha e0 e1
theorem NQ{Δ:Nat->Sn}{D:Df}(hb:D.body=OF)(hN:D.N.length=4)(hp:D.ps.length=2):LN (i5 Δ D):=by
 intro ns k S Q hl hk q;unfold i5;rw[hb,hN];refine⟨hp.symm,?_⟩
 have fin:∀ c:Int,wSs Δ [(.asg (.nm 3) (.op .Mult (.bi .abs (.cons (.var 2) .nil)) (.bi .int (.cons (.cmp .GtE (.bi .abs (.cons (.var 2) .nil)) (.op .Pow (.c (.int 10)) (.c (.int 18)))) .nil)))),(.ret (.lst (.cons (.var 3) (.cons (.op .Mod (.op .Mult (.op .Mod (.op .Add (.op .Add (.var 2) (.op .Mult (.c (.int 7919)) (.var 1))) (.c (.int 1))) (.c (.int 2147483647))) (.c (.int 48271))) (.c (.int 2147483647))) .nil))))] (l6 Q) [some (.ro (ns.map SV.int)),some (.int k),some (.int c),none] S:=λc=>by
  refine⟨_,rfl,_,rfl,⟨by decide,by decide,by decide⟩,.inr (b01 _),?_⟩;refine⟨_,rfl,_,rfl,_,rfl,.inl ⟨by decide,by decide⟩,show(0:Int)<2147483647 by decide,.inr ⟨by decide,by decide⟩,show(0:Int)<2147483647 by decide,by show 2<=big;decide,?_⟩;refine q _ _ (Int.mul_nonneg (by split<;>omega) (b00 _)) (Tb _ (by decide)) (TJ _ (by decide))
 refine⟨_,rfl,_,rfl,_,rfl,_,rfl,ifD (λh=>?_) (λh=>fin 0)⟩
 have hk':k<ns.length:=by
  have:((ns.map SV.int).length:Int)=ns.length:=by rw[S7]
  omega
 refine⟨_,rfl,_,rfl,_,_,rfl,j5 (v := .int ns[k]) (by rw[SL,SC hk'];rfl),?_⟩;exact fin _
noncomputable def q1(kd:Nat):Stm:=(.asg (.nm 2) (.call kd (.cons (.var 0) (.cons (.c (.int 8)) .nil))))
noncomputable def q2(kd:Nat):Stm:=(.asg (.nm 3) (.ix (.lst (.cons (.call kd (.cons (.var 0) (.cons (.c (.int 7)) .nil))) (.cons (.op .Add (.c (.int 7)) (.call kd (.cons (.var 0) (.cons (.c (.int 6)) .nil)))) .nil))) (.bi .int (.cons (.var 1) .nil))))
noncomputable def q3(kd:Nat):Stm:=(.asg (.nm 4) (.lst .nil))
noncomputable def q4(kd:Nat):Stm:=(.iff (.and (.cmp .Lt (.var 2) (.c (.int 3))) (.cmp .Gt (.var 3) (.c (.int 1)))) [(.loop (.nm 5) (.rng1 (.call kd (.cons (.var 0) (.cons (.op .Add (.op .Mult (.c (.int 2)) (.var 3)) (.c (.int 1))) .nil)))) [(.asg (.nm 6) (.call kd (.cons (.var 0) (.cons (.var 3) .nil)))),(.expr (.mt .append (.var 4) (.cons (.tup (.cons (.var 6) (.cons (.op .Mod (.op .Add (.op .Add (.var 6) (.c (.int 1))) (.call kd (.cons (.var 0) (.cons (.op .Sub (.var 3) (.c (.int 1))) .nil)))) (.var 3)) .nil))) .nil)))])] [])
noncomputable def q5(kd:Nat):Stm:=(.iff (.and (.cmp .Eq (.var 2) (.c (.int 3))) (.cmp .Gt (.var 3) (.c (.int 2)))) [(.asg (.nm 4) (.op .Add (.comp ["_law_k"] ["_law_many"] [3] (.nm 0) (.rng1 (.var 3)) .no (.tup (.cons (.var 0) (.cons (.op .Mod (.op .Add (.var 0) (.c (.int 1))) (.var 1)) .nil)))) (.lst (.cons (.tup (.cons (.c (.int 0)) (.cons (.op .Add (.call kd (.cons (.var 0) (.cons (.op .Sub (.var 3) (.c (.int 1))) .nil))) (.c (.int 1))) .nil))) .nil))))] [])
noncomputable def q6(kd:Nat):Stm:=(.iff (.and (.cmp .Eq (.var 2) (.c (.int 4))) (.cmp .Gt (.var 3) (.c (.int 1)))) [(.asg (.nm 4) (.comp ["_law_k"] [] [] (.nm 0) (.rng2 (.c (.int 1)) (.var 3)) .no (.tup (.cons (.c (.int 0)) (.cons (.var 0) .nil)))))] [])
noncomputable def q7(kd:Nat):Stm:=(.iff (.cmp .Eq (.var 2) (.c (.int 5))) [(.asg (.nm 3) (.bi .min (.cons (.var 3) (.cons (.op .Add (.c (.int 5)) (.bi .int (.cons (.var 1) .nil))) .nil)))),(.loop (.nm 7) (.rng1 (.var 3)) [(.expr (.mt .extend (.var 4) (.cons (.comp ["_law_j"] ["_law_k"] [7] (.nm 0) (.rng1 (.var 7)) .no (.tup (.cons (.var 0) (.cons (.var 1) .nil)))) .nil)))])] [])
noncomputable def q8(kd:Nat):Stm:=(.iff (.cmp .Eq (.var 2) (.c (.int 6))) [(.asg (.nm 8) (.op .Add (.c (.int 1)) (.op .FloorDiv (.var 3) (.c (.int 2))))),(.loop (.nm 7) (.rng1 (.var 8)) [(.expr (.mt .extend (.var 4) (.cons (.comp ["_law_j"] ["_law_tape_here","_law_k"] [0,7] (.nm 0) (.rng2 (.var 8) (.var 3)) (.yes (.cmp .Gt (.call kd (.cons (.var 1) (.cons (.c (.int 3)) .nil))) (.c (.int 0)))) (.tup (.cons (.var 2) (.cons (.var 0) .nil)))) .nil)))])] [])
noncomputable def q9(kd:Nat):Stm:=(.iff (.cmp .Eq (.var 2) (.c (.int 7))) [(.asg (.nm 3) (.op .Add (.c (.int 3)) (.op .FloorDiv (.var 3) (.c (.int 3))))),(.loop (.nm 7) (.rng1 (.c (.int 3))) [(.expr (.mt .extend (.var 4) (.cons (.op .Mult (.lst (.cons (.tup (.cons (.var 7) (.cons (.op .Mod (.op .Add (.var 7) (.c (.int 1))) (.c (.int 3))) .nil))) .nil)) (.op .Add (.c (.int 1)) (.call kd (.cons (.var 0) (.cons (.c (.int 3)) .nil))))) .nil)))])] [])
noncomputable def q10(kd:Nat):Stm:=(.ret (.tup (.cons (.var 3) (.cons (.var 4) .nil))))
noncomputable def q7l(kd:Nat):Stm:=(.loop (.nm 7) (.rng1 (.var 3)) [(.expr (.mt .extend (.var 4) (.cons (.comp ["_law_j"] ["_law_k"] [7] (.nm 0) (.rng1 (.var 7)) .no (.tup (.cons (.var 0) (.cons (.var 1) .nil)))) .nil)))])
noncomputable def q8l(kd:Nat):Stm:=(.loop (.nm 7) (.rng1 (.var 8)) [(.expr (.mt .extend (.var 4) (.cons (.comp ["_law_j"] ["_law_tape_here","_law_k"] [0,7] (.nm 0) (.rng2 (.var 8) (.var 3)) (.yes (.cmp .Gt (.call kd (.cons (.var 1) (.cons (.c (.int 3)) .nil))) (.c (.int 0)))) (.tup (.cons (.var 2) (.cons (.var 0) .nil)))) .nil)))])
noncomputable def q9l(kd:Nat):Stm:=(.loop (.nm 7) (.rng1 (.c (.int 3))) [(.expr (.mt .extend (.var 4) (.cons (.op .Mult (.lst (.cons (.tup (.cons (.var 7) (.cons (.op .Mod (.op .Add (.var 7) (.c (.int 1))) (.c (.int 3))) .nil))) .nil)) (.op .Add (.c (.int 1)) (.call kd (.cons (.var 0) (.cons (.c (.int 3)) .nil))))) .nil)))])
noncomputable def LO(kd:Nat):List Stm:=[q1 kd,q2 kd,q3 kd,q4 kd,q5 kd,q6 kd,q7 kd,q8 kd,q9 kd,q10 kd]
structure Prs(n:Nat)(es:EE):Prop where
 en:∀ e∈es,e.1<n/\e.2<n/\e.1≠e.2
 len:es.length<=36
 few:n<=12
noncomputable def Dx(s:Sn):Prop:=∀{t:Nat} {g:Bool} {S:Sto} {Q:QE},TapeS S t->(∀(n:Nat) (es:EE) (l:Nat) (S':Sto),Prs n es->S'[l]?=some (.lst (es.map pairS))->S.length<=l->TapeS S' t->On t S S'->Q (.tup [.int n,.loc l]) S')->s [.loc t,.bl g] S Q
structure Ah(t:Nat)(S0 S:Sto)(l:Nat)(es:EE):Prop where
 tape:TapeS S t
 on:On t S0 S
 at':S[l]?=some (.lst (es.map pairS))
 new:S0.length<=l
 t0:t<S0.length
theorem Ah.ne{t l:Nat}{S0 S:Sto}{es:EE}(h:Ah t S0 S l es):l≠t:=by have:=h.new;have:=h.t0;omega
theorem Ah.draw{t l:Nat}{S0 S S':Sto}{es:EE}(h:Ah t S0 S l es)(T:TapeS S' t)(O:On t S S'):Ah t S0 S' l es:=⟨T,h.on.trans O,O.keep _ _ h.ne h.at',h.new,h.t0⟩
theorem Ah.push{t l:Nat}{S0 S:Sto}{es:EE}{o:SO}(h:Ah t S0 S l es):Ah t S0 (S++[o]) l es:=⟨h.tape.push,h.on.push,f6 h.at',h.new,h.t0⟩
theorem Ah.put{t l:Nat}{S0 S:Sto}{es fs:EE}(h:Ah t S0 S l es):Ah t S0 (S.set l (.lst (fs.map pairS))) l fs:=⟨h.tape.other h.ne,h.on.new h.new,l7 h.at',h.new,h.t0⟩
theorem FC(es:EE)(e:Nat×Nat):es.map pairS++[.tup [.int e.1,.int e.2]]=(es++[e]).map pairS:=by rw[SM];rfl
section
variable{Δ:Nat->Sn}{kd:Nat}
theorem Rs(hΔ:∀ f,MonoN (Δ f))(hd:i7 (Δ kd)){t l n:Nat}{way:Int}{S0 S:Sto}{D:EndsS}{g:SV}{o5 o6 o7 o8:Option SV}(A:Ah t S0 S l [])(hn:n<=12)
 (q:∀(es:EE) (S':Sto) (o5 o6:Option SV),Prs n es->Ah t S0 S' l es->D.nx [some (.loc t),some g,some (.int way),some (.int n),some (.loc l),o5,o6,o7,o8] S'):
 wSt Δ (q4 kd) D [some (.loc t),some g,some (.int way),some (.int n),some (.loc l),o5,o6,o7,o8] S:=by
 have stay:=q [] S o5 o6 ⟨(λ_ h=>nomatch h),by simp,hn⟩ A;refine⟨_,rfl,_,rfl,ifD (λh1=>?_) (λh1=>ifF rfl stay)⟩;refine⟨_,rfl,_,rfl,ifD (λh2=>?_) (λh2=>stay)⟩;have h2:1<n:=by omega
 refine⟨_,rfl,_,rfl,.inl ⟨by decide,by decide⟩,hd A.tape (by omega) (by omega) λr S1 r0 r1 T1 O1 _=>⟨r,rfl,⟨by omega,by omega⟩,?_⟩⟩;have A1:=A.draw T1 O1
 refine i0 (f7 hΔ _) (λi ρ S2=>∃(es:EE) (o5 o6:Option SV),ρ=[some (.loc t),some g,some (.int way),some (.int n),some (.loc l),o5,o6,o7,o8]/\Ah t S0 S2 l es/\(∀ e∈es,e.1<n/\e.2<n/\e.1≠e.2)/\es.length=i)
  ⟨[],o5,o6,rfl,A1,(λ_ h=>nomatch h),rfl⟩ (λ_ _ _ _=>trivial) ?_ ?_
 ·rintro i x ρ S2 hx ⟨es,p5,p6,rfl,A2,he,hl⟩;obtain⟨rfl,hi⟩:=i3 hx;refine⟨_,rfl,_,rfl,hd A2.tape (by omega) (by omega) λa S3 a0 a1 T3 O3 _=>?_⟩;have A3:=A2.draw T3 O3;refine⟨_,rfl,⟨l,_,rfl,A3.at'⟩,?_⟩;refine⟨_,rfl,_,rfl,_,rfl,_,rfl,hd A3.tape (by omega) (by omega) λb S4 b0 b1 T4 O4 _=>?_⟩;have A4:=A3.draw T4 O4;refine⟨_,rfl,show(0:Int)<n by omega,by show 2<=big;decide,⟨_,A4.at',by rw[S7];show es.length<100000;omega,?_⟩⟩;have e1:((a.toNat:Nat):Int)=a:=Tw a0;have m0:0<=(a+1+b) % n:=Tb _ (by omega);have m1:(a+1+b) % n<n:=TJ _ (by omega);have e2:(((a+1+b) % n).toNat:Int)=(a+1+b) % n:=Tw m0
  have hne:a≠(a+1+b) % n:=by
   by_cases hb:a+1+b<n
   ·rw[UF (by omega) hb];omega
   ·rw[<-Ur,UF (by omega) (by omega)];omega
  have ea:=FC es (a.toNat,((a+1+b) % n).toNat);simp only[e1,e2]at ea;refine⟨es++[(a.toNat,((a+1+b) % n).toNat)],_,_,rfl,?_,λe h=>?_,by rw[SA,hl];rfl⟩
  ·have:=A4.put (fs:=es++[(a.toNat,((a+1+b) % n).toNat)]);rw[<-ea]at this;exact this
  ·rcases Sg.mp h with h | h
   ·exact he e h
   ·rw[Sd.mp h];exact⟨by show a.toNat<n;omega,by show((a+1+b) % n).toNat<n;omega,by show a.toNat≠((a+1+b) % n).toNat;omega⟩
 ·rintro ρ S2 ⟨es,p5,p6,rfl,A2,he,hl⟩;rw[i4]at hl;exact q es S2 p5 p6 ⟨he,by omega,hn⟩ A2
noncomputable abbrev PQ(t:Nat)(g:SV)(way:Int)(S0:Sto)(D:EndsS):Prop:=∀(n:Nat) (es:EE) (l:Nat) (S':Sto) (o5 o6 o7 o8:Option SV),Prs n es->Ah t S0 S' l es->D.nx [some (.loc t),some g,some (.int way),some (.int n),some (.loc l),o5,o6,o7,o8] S'
theorem Dy{n:Nat}(h:n<=12):Prs n []:=⟨(λ_ h=>nomatch h),by simp,h⟩
theorem Rt(hΔ:∀ f,MonoN (Δ f))(hd:i7 (Δ kd)){t l n:Nat}{S0 S:Sto}{D:EndsS}{g:SV}{o5 o6 o7 o8:Option SV}(A:Ah t S0 S l [])(hn:n<=12)(q:PQ t g 3 S0 D):
 wSt Δ (q5 kd) D [some (.loc t),some g,some (.int 3),some (.int n),some (.loc l),o5,o6,o7,o8] S:=by
 have stay:=q n [] l S o5 o6 o7 o8 (Dy hn) A;refine⟨_,rfl,_,rfl,ifT rfl ?_⟩;refine⟨_,rfl,_,rfl,ifD (λh2=>?_) (λh2=>stay)⟩;have h2:2<n:=by omega
 refine⟨_,rfl,n,rfl,⟨by omega,by omega⟩,?_⟩;refine c8 (c9 hΔ _).2 (a4 hΔ _).1 (λi ys S2=>S2=S/\ys=((SE i).map λj=>(j,(j+1) % n)).map pairS) ⟨rfl,rfl⟩ (λ_ _ _ _=>trivial) ?_ ?_
 ·rintro i x ys S2 hx ⟨rfl,rfl⟩;obtain⟨rfl,hi⟩:=i3 hx;refine⟨_,rfl,_,rfl,_,rfl,show(0:Int)<n by omega,by show 2<=big;decide,by simp;show i<100000;omega,rfl,?_⟩;rw[TL,SM,SM];simp[pairS]
 ·rintro ys S2 ⟨rfl,rfl⟩;rw[i4];refine⟨_,rfl,_,rfl,hd (A.push (o := .lst (((SE ((n:Int) - 0).toNat).map λj=>(j,(j+1) % n)).map pairS))).tape (by omega) (by omega) λr S3 r0 r1 T3 O3 L3=>?_⟩;have A3:=(A.push (o := .lst (((SE ((n:Int) - 0).toNat).map λj=>(j,(j+1) % n)).map pairS))).draw T3 O3;refine⟨by show 2<=big;decide,by show 1<=big;decide,?_⟩;have hS:=A.t0;have hon:=A.on.len;have at1:S3[S2.length]?=some (.lst (((SE ((n:Int) - 0).toNat).map λj=>(j,(j+1) % n)).map pairS)):=O3.keep _ _ (by omega) c4;refine⟨_,_,f6 at1,c4,by simp;show _<=100000;omega,?_⟩;have en:((n:Int) - 0).toNat=n:=by omega
  rw[en];have e1:((r.toNat:Nat):Int)=r:=Tw r0;have ea:=FC ((SE n).map λj=>(j,(j+1) % n)) (0,r.toNat+1);have e2:((r.toNat+1:Nat):Int)=r+1:=by omega
  simp only[e2]at ea;refine q n ((SE n).map (λj=>(j,(j+1) % n))++[(0,r.toNat+1)]) _ _ _ _ _ _ ⟨λe h=>?_,by simp;omega,hn⟩ ⟨A3.tape.push.push,A3.on.push.push,?_,?_,A.t0⟩
  ·rcases Sg.mp h with h | h
   ·obtain⟨j,hj,rfl⟩:=Te.mp h;have hj:=SX.mp hj;refine⟨hj,Nat.mod_lt _ (by omega),?_⟩;by_cases hz:j+1<n
    ·show j≠(j+1) % n;rw[Nat.mod_eq_of_lt hz];omega
    ·have:j+1=n:=by omega
     show j≠(j+1) % n;rw[this,Nat.mod_self];omega
   ·rw[Sd.mp h];exact⟨by show 0<n;omega,by show r.toNat+1<n;omega,by show 0≠r.toNat+1;omega⟩
  ·rw[<-ea];exact c4
  ·rw[SA];have:=A3.on.len;omega
theorem Ru(hΔ:∀ f,MonoN (Δ f)){t l n:Nat}{S0 S:Sto}{D:EndsS}{g:SV}{o5 o6 o7 o8:Option SV}(A:Ah t S0 S l [])(hn:n<=12)(q:PQ t g 4 S0 D):
 wSt Δ (q6 kd) D [some (.loc t),some g,some (.int 4),some (.int n),some (.loc l),o5,o6,o7,o8] S:=by
 have stay:=q n [] l S o5 o6 o7 o8 (Dy hn) A;refine⟨_,rfl,_,rfl,ifT rfl ?_⟩;refine⟨_,rfl,_,rfl,ifD (λh2=>?_) (λh2=>stay)⟩;have h2:1<n:=by omega
 refine⟨_,rfl,1,n,rfl,rfl,⟨by decide,by decide,by omega,by omega⟩,?_⟩;refine c8 (c9 hΔ _).2 (a4 hΔ _).1 (λi ys S2=>S2=S/\ys=((SE i).map λj=>(0,j+1)).map pairS) ⟨rfl,rfl⟩ (λ_ _ _ _=>trivial) ?_ ?_
 ·rintro i x ys S2 hx ⟨rfl,rfl⟩;obtain⟨rfl,hi⟩:=i3 hx;refine⟨_,rfl,by show 2<=big;decide,by simp;show i<100000;omega,rfl,?_⟩;rw[TL,SM,SM];simp[pairS,Int.add_comm]
 ·rintro ys S2 ⟨rfl,rfl⟩;rw[i4];refine q n _ _ _ _ _ _ _ ⟨λe h=>?_,by simp;omega,hn⟩ ⟨A.tape.push,A.on.push,c4,A.on.len,A.t0⟩;obtain⟨j,hj,rfl⟩:=Te.mp h;have hj:=SX.mp hj;exact⟨by show 0<n;omega,by show j+1<n;omega,by show 0≠j+1;omega⟩
theorem Ah.ext{t l j:Nat}{S0 S:Sto}{es fs:EE}(h:Ah t S0 S l es)(hj:S[j]?=some (.lst (fs.map pairS))):Ah t S0 (S.set l (.lst (es.map pairS++fs.map pairS))) l (es++fs):=by
 rw[<-SM];exact h.put
theorem Rv(hΔ:∀ f,MonoN (Δ f)){t l n:Nat}{b:Bool}{S0 S:Sto}{D:EndsS}{o5 o6 o7 o8:Option SV}(A:Ah t S0 S l [])(hn:n<=12)(q:PQ t (.bl b) 5 S0 D):
 wSt Δ (q7 kd) D [some (.loc t),some (.bl b),some (.int 5),some (.int n),some (.loc l),o5,o6,o7,o8] S:=by
 refine⟨_,rfl,_,rfl,ifT rfl ?_⟩
 obtain⟨m,em,hm⟩:∃ m:Nat,(if (5+(if b=true then (1:Int) else 0))<n then (5+(if b=true then (1:Int) else 0)) else (n:Int))=m/\m<=6:=by
  cases b
  ·by_cases h:(5:Int)<n
   ·exact⟨5,by simp[h],by omega⟩
   ·exact⟨n,by simp[h],by omega⟩
  ·by_cases h:(6:Int)<n
   ·exact⟨6,by simp[h],by omega⟩
   ·exact⟨n,by simp[h],by omega⟩
 suffices key:∀ z:Int,z=m->wSs Δ [q7l kd] D [some (.loc t),some (.bl b),some (.int 5),some (.int z),some (.loc l),o5,o6,o7,o8] S from ⟨_,rfl,_,rfl,key _ em⟩
 rintro _ rfl;refine⟨_,rfl,m,rfl,⟨by omega,by omega⟩,?_⟩
 refine i0 (f7 hΔ _) (λi ρ S2=>∃(es:EE) (o7:Option SV),ρ=[some (.loc t),some (.bl b),some (.int 5),some (.int m),some (.loc l),o5,o6,o7,o8]/\Ah t S0 S2 l es/\(∀ e∈es,e.1<e.2/\e.2<i)/\es.length<=i * 6)
  ⟨[],o7,rfl,A,(λ_ h=>nomatch h),by simp⟩ (λ_ _ _ _=>trivial) ?_ ?_
 ·rintro i x ρ S2 hx ⟨es,p7,rfl,A2,he,hl⟩;obtain⟨rfl,hi⟩:=i3 hx;refine⟨_,rfl,⟨l,_,rfl,A2.at'⟩,_,rfl,0+(i:Int),rfl,⟨by omega,by omega⟩,?_⟩;refine c8 (c9 hΔ _).2 (a4 hΔ _).1 (λj ys S3=>S3=S2/\ys=((SE j).map λj=>(j,i)).map pairS) ⟨rfl,rfl⟩ (λ_ _ _ _=>trivial) ?_ ?_
  ·rintro j x ys S3 hx ⟨rfl,rfl⟩;obtain⟨rfl,hj⟩:=i3 hx;refine⟨_,rfl,_,rfl,by show 2<=big;decide,by simp;show j<100000;omega,rfl,?_⟩;rw[TL,SM,SM];simp[pairS]
  ·rintro ys S3 ⟨rfl,rfl⟩;rw[i4];have en:(0+(i:Int) - 0).toNat=i:=by omega
   rw[en];have A3:=A2.push (o := .lst (((SE i).map λj=>(j,i)).map pairS));refine⟨_,_,A3.at',c4,by simp;show _<=100000;omega,?_⟩;refine⟨es++(SE i).map (λj=>(j,i)),_,rfl,A3.ext (j:=S3.length) c4,λe h=>?_,by simp;omega⟩;rcases Sg.mp h with h | h
   ·have:=he e h;omega
   ·obtain⟨j,hj,rfl⟩:=Te.mp h;have hj:=SX.mp hj;exact⟨hj,by show i<i+1;omega⟩
 ·rintro ρ S2 ⟨es,p7,rfl,A2,he,hl⟩;rw[i4]at he hl;refine q m es l S2 _ _ _ _ ⟨λe h=>?_,by omega,by omega⟩ A2;have:=he e h;omega
theorem Rw(hΔ:∀ f,MonoN (Δ f))(hd:i7 (Δ kd)){t l n:Nat}{S0 S:Sto}{D:EndsS}{g:SV}{o5 o6 o7 o8:Option SV}(A:Ah t S0 S l [])(hn:n<=12)(q:PQ t g 6 S0 D):
 wSt Δ (q8 kd) D [some (.loc t),some g,some (.int 6),some (.int n),some (.loc l),o5,o6,o7,o8] S:=by
 refine⟨_,rfl,_,rfl,ifT rfl ?_⟩;obtain⟨s,es',hs⟩:∃ s:Nat,1+(n:Int) / 2=s/\s=1+n / 2:=⟨1+n / 2,by omega,rfl⟩
 suffices key:∀ z:Int,z=s->wSs Δ [q8l kd] D [some (.loc t),some g,some (.int 6),some (.int n),some (.loc l),o5,o6,o7,some (.int z)] S from ⟨_,rfl,⟨by decide,by decide⟩,key _ es'⟩
 rintro _ rfl;refine⟨_,rfl,s,rfl,⟨by omega,by omega⟩,?_⟩
 refine i0 (f7 hΔ _) (λi ρ S2=>∃(es:EE) (o7:Option SV),ρ=[some (.loc t),some g,some (.int 6),some (.int n),some (.loc l),o5,o6,o7,some (.int s)]/\Ah t S0 S2 l es/\(∀ e∈es,e.1<i/\s<=e.2/\e.2<n)/\es.length<=i * (n - s))
  ⟨[],o7,rfl,A,(λ_ h=>nomatch h),by simp⟩ (λ_ _ _ _=>trivial) ?_ ?_
 ·rintro i x ρ S2 hx ⟨es,p7,rfl,A2,he,hl⟩;obtain⟨rfl,hi⟩:=i3 hx;refine⟨_,rfl,⟨l,_,rfl,A2.at'⟩,_,rfl,_,rfl,s,n,rfl,rfl,⟨by omega,by omega,by omega,by omega⟩,?_⟩;refine c8 (c9 hΔ _).2 (a4 hΔ _).1 (λj ys S3=>Ah t S0 S3 l es/\∃ fs:EE,ys=fs.map pairS/\(∀ e∈fs,e.1=i/\s<=e.2/\e.2<n)/\fs.length<=j) ⟨A2,[],rfl,(λ_ h=>nomatch h),SK _⟩ (λ_ _ _ _=>trivial) ?_ ?_
  ·rintro j x ys S3 hx ⟨A3,fs,rfl,hf,fl⟩;obtain⟨rfl,hj⟩:=i3 hx;refine⟨_,rfl,hd A3.tape (by decide) (by decide) λr S4 r0 r1 T4 O4 _=>⟨_,rfl,?_⟩⟩;have A4:=A3.draw T4 O4;refine ifD (λ_=>?_) (λ_=>⟨A4,fs,rfl,hf,by omega⟩);refine⟨_,rfl,_,rfl,by show 2<=big;decide,by rw[S7];show _<100000;omega,A4,fs++[(i,s+j)],?_,λe h=>?_,by simp;omega⟩
   ·rw[SM];simp[pairS]
   ·rcases Sg.mp h with h | h
    ·exact hf e h
    ·rw[Sd.mp h];exact⟨rfl,by show s<=s+j;omega,by show s+j<n;omega⟩
  ·rintro ys S3 ⟨A3,fs,rfl,hf,fl⟩;rw[i4]at fl;have A4:=A3.push (o := .lst (fs.map pairS));have hx6:i * (n - s)<=6 * 12:=VC (by omega) (by omega);refine⟨_,_,A4.at',c4,by simp;show _<=100000;omega,?_⟩;refine⟨es++fs,_,rfl,A4.ext (j:=S3.length) c4,λe h=>?_,?_⟩
   ·rcases Sg.mp h with h | h
    ·have:=he e h;exact⟨by omega,this.2⟩
    ·have:=hf e h;exact⟨by omega,this.2⟩
   ·rw[SA,VL];omega
 ·rintro ρ S2 ⟨es,p7,rfl,A2,he,hl⟩;rw[i4]at he hl;have e0:((s:Int) - 0).toNat=s:=by omega
  rw[e0]at he hl;have h35:s * (n - s)<=7 * 5:=VC (by omega) (by omega);refine q n es l S2 _ _ _ _ ⟨λe h=>?_,by omega,hn⟩ A2;have:=he e h;omega
theorem Rx(hΔ:∀ f,MonoN (Δ f))(hd:i7 (Δ kd)){t l n:Nat}{S0 S:Sto}{D:EndsS}{g:SV}{o5 o6 o7 o8:Option SV}(A:Ah t S0 S l [])(hn:n<=12)(q:PQ t g 7 S0 D):
 wSt Δ (q9 kd) D [some (.loc t),some g,some (.int 7),some (.int n),some (.loc l),o5,o6,o7,o8] S:=by
 refine⟨_,rfl,_,rfl,ifT rfl ?_⟩;obtain⟨m,em,hm⟩:∃ m:Nat,3+(n:Int) / 3=m/\m=3+n / 3:=⟨3+n / 3,by omega,rfl⟩
 suffices key:∀ z:Int,z=m->wSs Δ [q9l kd] D [some (.loc t),some g,some (.int 7),some (.int z),some (.loc l),o5,o6,o7,o8] S from ⟨_,rfl,⟨by decide,by decide⟩,key _ em⟩
 rintro _ rfl;refine⟨3,rfl,⟨by decide,by decide⟩,?_⟩
 refine i0 (f7 hΔ _) (λi ρ S2=>∃(es:EE) (o7:Option SV),ρ=[some (.loc t),some g,some (.int 7),some (.int m),some (.loc l),o5,o6,o7,o8]/\Ah t S0 S2 l es/\(∀ e∈es,e.1<3/\e.2<3/\e.1≠e.2)/\es.length<=i * 3)
  ⟨[],o7,rfl,A,(λ_ h=>nomatch h),by simp⟩ (λ_ _ _ _=>trivial) ?_ ?_
 ·rintro i x ρ S2 hx ⟨es,p7,rfl,A2,he,hl⟩;obtain⟨rfl,hi⟩:=i3 hx;refine⟨_,rfl,⟨l,_,rfl,A2.at'⟩,_,rfl,_,rfl,show(0:Int)<3 by decide,by show 2<=big;decide,by show 1<=big;decide,?_⟩;have A3:=A2.push (o := .lst [.tup [.int (0+(i:Int)),.int ((0+(i:Int)+1) % 3)]]);refine⟨_,rfl,hd A3.tape (by decide) (by decide) λr S4 r0 r1 T4 O4 L4=>?_⟩;have A4:=A3.draw T4 O4;have ht:=A2.t0;have hlen:=A2.on.len;have at1:S4[S2.length]?=some (.lst [.tup [.int (0+(i:Int)),.int ((0+(i:Int)+1) % 3)]]):=O4.keep _ _ (by omega) c4;refine⟨_,at1,⟨by omega,by omega⟩,by simp;show _<=100000;omega,?_⟩
  have e1:(SJ (1+r).toNat [SV.tup [.int (0+(i:Int)),.int ((0+(i:Int)+1) % 3)]]).flatten=(SJ (1+r).toNat (i,(i+1) % 3)).map pairS:=by
   induction (1+r).toNat with
   | zero=>rfl
   | succ k ih=>rw[Ss,Ti,ih,Ss];simp[pairS]
  rw[e1];have A5:=A4.push (o := .lst ((SJ (1+r).toNat (i,(i+1) % 3)).map pairS));refine⟨_,_,A5.at',c4,by simp;show _<=100000;omega,?_⟩;refine⟨es++SJ (1+r).toNat (i,(i+1) % 3),_,rfl,A5.ext (j:=S4.length) c4,λe h=>?_,by simp;omega⟩;rcases Sg.mp h with h | h
  ·exact he e h
  ·rw[List.eq_of_mem_replicate h];exact⟨by show i<3;omega,by show(i+1) % 3<3;omega,by show i≠(i+1) % 3;omega⟩
 ·rintro ρ S2 ⟨es,p7,rfl,A2,he,hl⟩;rw[i4]at hl;refine q m es l S2 _ _ _ _ ⟨λe h=>?_,by omega,by omega⟩ A2;have:=he e h;omega
theorem RN{t l:Nat}{way n:Int}{S:Sto}{D:EndsS}{g:SV}{o5 o6 o7 o8:Option SV}(h:¬ way<3)(q:D.nx [some (.loc t),some g,some (.int way),some (.int n),some (.loc l),o5,o6,o7,o8] S):wSt Δ (q4 kd) D [some (.loc t),some g,some (.int way),some (.int n),some (.loc l),o5,o6,o7,o8] S:=⟨_,rfl,_,rfl,ifD (λz=>absurd z h) (λ_=>ifF rfl q)⟩
theorem FD{t l:Nat}{way n:Int}{S:Sto}{D:EndsS}{g:SV}{o5 o6 o7 o8:Option SV}(h:¬ way=3)(q:D.nx [some (.loc t),some g,some (.int way),some (.int n),some (.loc l),o5,o6,o7,o8] S):wSt Δ (q5 kd) D [some (.loc t),some g,some (.int way),some (.int n),some (.loc l),o5,o6,o7,o8] S:=⟨_,rfl,_,rfl,ifD (λz=>absurd z h) (λ_=>ifF rfl q)⟩
theorem FE{t l:Nat}{way n:Int}{S:Sto}{D:EndsS}{g:SV}{o5 o6 o7 o8:Option SV}(h:¬ way=4)(q:D.nx [some (.loc t),some g,some (.int way),some (.int n),some (.loc l),o5,o6,o7,o8] S):wSt Δ (q6 kd) D [some (.loc t),some g,some (.int way),some (.int n),some (.loc l),o5,o6,o7,o8] S:=⟨_,rfl,_,rfl,ifD (λz=>absurd z h) (λ_=>ifF rfl q)⟩
theorem FF{t l:Nat}{way n:Int}{S:Sto}{D:EndsS}{g:SV}{o5 o6 o7 o8:Option SV}(h:¬ way=5)(q:D.nx [some (.loc t),some g,some (.int way),some (.int n),some (.loc l),o5,o6,o7,o8] S):wSt Δ (q7 kd) D [some (.loc t),some g,some (.int way),some (.int n),some (.loc l),o5,o6,o7,o8] S:=⟨_,rfl,_,rfl,ifD (λz=>absurd z h) (λ_=>q)⟩
theorem FG{t l:Nat}{way n:Int}{S:Sto}{D:EndsS}{g:SV}{o5 o6 o7 o8:Option SV}(h:¬ way=6)(q:D.nx [some (.loc t),some g,some (.int way),some (.int n),some (.loc l),o5,o6,o7,o8] S):wSt Δ (q8 kd) D [some (.loc t),some g,some (.int way),some (.int n),some (.loc l),o5,o6,o7,o8] S:=⟨_,rfl,_,rfl,ifD (λz=>absurd z h) (λ_=>q)⟩
theorem FH{t l:Nat}{way n:Int}{S:Sto}{D:EndsS}{g:SV}{o5 o6 o7 o8:Option SV}(h:¬ way=7)(q:D.nx [some (.loc t),some g,some (.int way),some (.int n),some (.loc l),o5,o6,o7,o8] S):wSt Δ (q9 kd) D [some (.loc t),some g,some (.int way),some (.int n),some (.loc l),o5,o6,o7,o8] S:=⟨_,rfl,_,rfl,ifD (λz=>absurd z h) (λ_=>q)⟩
theorem NR(hΔ:∀ f,MonoN (Δ f))(hd:i7 (Δ kd)){t l n:Nat}{b:Bool}{w:Int}{S0 S:Sto}{Q:QE}(w0:0<=w)(w1:w<8)(A:Ah t S0 S l [])(hn:n<=12)
 (q:∀(n:Nat) (es:EE) (l:Nat) (S':Sto),Prs n es->Ah t S0 S' l es->Q (.tup [.int n,.loc l]) S'):
 wSs Δ [q4 kd,q5 kd,q6 kd,q7 kd,q8 kd,q9 kd,q10 kd] (l6 Q) [some (.loc t),some (.bl b),some (.int w),some (.int n),some (.loc l),none,none,none,none] S:=by
 have fin:∀(n:Nat) (es:EE) (l:Nat) (S':Sto) (o5 o6 o7 o8:Option SV),Prs n es->Ah t S0 S' l es->wSs Δ [q10 kd] (l6 Q) [some (.loc t),some (.bl b),some (.int w),some (.int n),some (.loc l),o5,o6,o7,o8] S':=λn es l S' o5 o6 o7 o8 P A'=>⟨_,rfl,_,rfl,by show 2<=big;decide,q n es l S' P A'⟩
 have nil:=Dy hn;by_cases h:w<3
 ·exact Rs hΔ hd A hn λes S' o5 o6 P A'=>FD (by omega) (FE (kd:=kd) (by omega) (FF (kd:=kd) (by omega) (FG (by omega) (FH (by omega) (fin n es l S' _ _ _ _ P A')))))
 refine RN h ?_;have:w=3\/w=4\/w=5\/w=6\/w=7:=by omega
 rcases this with rfl | rfl | rfl | rfl | rfl
 ·exact Rt hΔ hd A hn λn es l S' o5 o6 o7 o8 P A'=>FE (kd:=kd) (by omega) (FF (kd:=kd) (by omega) (FG (by omega) (FH (by omega) (fin n es l S' _ _ _ _ P A'))))
 ·exact FD (by omega) (Ru (kd:=kd) hΔ A hn λn es l S' o5 o6 o7 o8 P A'=>FF (kd:=kd) (by omega) (FG (by omega) (FH (by omega) (fin n es l S' _ _ _ _ P A'))))
 ·exact FD (by omega) (FE (kd:=kd) (by omega) (Rv (kd:=kd) hΔ A hn λn es l S' o5 o6 o7 o8 P A'=>FG (by omega) (FH (by omega) (fin n es l S' _ _ _ _ P A'))))
 ·exact FD (by omega) (FE (kd:=kd) (by omega) (FF (kd:=kd) (by omega) (Rw hΔ hd A hn λn es l S' o5 o6 o7 o8 P A'=>FH (by omega) (fin n es l S' _ _ _ _ P A'))))
 ·exact FD (by omega) (FE (kd:=kd) (by omega) (FF (kd:=kd) (by omega) (FG (by omega) (Rx hΔ hd A hn λn es l S' o5 o6 o7 o8 P A'=>fin n es l S' _ _ _ _ P A'))))
theorem LP(hΔ:∀ f,MonoN (Δ f))(hd:i7 (Δ kd)){D:Df}(hb:D.body=LO kd)(hN:D.N.length=9)(hp:D.ps.length=2):Dx (i5 Δ D):=by
 intro t g S Q T q;unfold i5;rw[hb,hN];refine⟨hp.symm,?_⟩;have t0:=T.lt;refine⟨_,rfl,hd T (by decide) (by decide) λw S1 w0 w1 T1 O1 _=>?_⟩;refine⟨_,rfl,hd T1 (by decide) (by decide) λr1 S2 a0 a1 T2 O2 _=>⟨_,rfl,hd T2 (by decide) (by decide) λr2 S3 b0 b1 T3 O3 _=>⟨by show 2<=big;decide,_,rfl,_,(if g=true then .int (7+r2) else .int r1),a6 c4,?_⟩⟩⟩;have O:=((O1.trans O2).trans O3).push (o := .lst [.int r1,.int (7+r2)])
 have key:∀(z:Int) (n:Nat),z=n->n<=12->wSs Δ [q3 kd,q4 kd,q5 kd,q6 kd,q7 kd,q8 kd,q9 kd,q10 kd] (l6 Q) [some (.loc t),some (.bl g),some (.int w),some (.int z),none,none,none,none,none] (S3++[SO.lst [.int r1,.int (7+r2)]]):=by
  rintro _ n rfl hn;refine⟨by show 0<=big;decide,?_⟩;have A:Ah t S ((S3++[SO.lst [.int r1,.int (7+r2)]])++[SO.lst []]) (S3++[SO.lst [.int r1,.int (7+r2)]]).length []:=⟨T3.push.push,O.push,c4,O.len,t0⟩
  have r:=NR (b:=g) hΔ hd w0 w1 A hn (Q:=Q) λn es l S' P A=>q n es l S' P A.at' A.new A.tape A.on;exact r
 cases g with
 | false=>exact⟨rfl,key r1 r1.toNat (by omega) (by omega)⟩
 | true=>exact⟨rfl,key (7+r2) (7+r2).toNat (by omega) (by omega)⟩
end
noncomputable def u1(kd kp:Nat):Stm:=(.asg (.tup (.cons (.nm 2) (.cons (.nm 3) .nil))) (.call kp (.cons (.var 0) (.cons (.var 1) .nil))))
noncomputable def u2(kd kp:Nat):Stm:=(.iff (.cmp .Eq (.var 3) (.lst .nil)) [(.asg (.tup (.cons (.nm 2) (.cons (.nm 3) .nil))) (.call kp (.cons (.var 0) (.cons (.var 1) .nil))))] [])
noncomputable def u3(kd kp:Nat):Stm:=(.iff (.and (.cmp .NotEq (.var 3) (.lst .nil)) (.cmp .Eq (.call kd (.cons (.var 0) (.cons (.c (.int 4)) .nil))) (.c (.int 0)))) [(.asg (.nm 3) (.op .Add (.var 3) (.comp ["_law_turn"] ["_law_pairs","_law_tape_here"] [3,0] (.nm 0) (.rng1 (.op .Add (.c (.int 1)) (.call kd (.cons (.var 0) (.cons (.c (.int 3)) .nil))))) .no (.ix (.var 1) (.call kd (.cons (.var 2) (.cons (.bi .len (.cons (.var 1) .nil)) .nil)))))))] [])
noncomputable def u4(kd kp:Nat):Stm:=(.asg (.nm 4) (.lst .nil))
noncomputable def u5(kd kp:Nat):Stm:=(.loop (.tup (.cons (.nm 5) (.cons (.nm 6) .nil))) (.seq (.var 3)) [(.expr (.mt .insert (.var 4) (.cons (.call kd (.cons (.var 0) (.cons (.op .Add (.bi .len (.cons (.var 4) .nil)) (.c (.int 1))) .nil))) (.cons (.tup (.cons (.bi .min (.cons (.var 5) (.cons (.var 6) .nil))) (.cons (.bi .max (.cons (.var 5) (.cons (.var 6) .nil))) .nil))) .nil))))])
noncomputable def u6(kd kp:Nat):Stm:=(.ret (.tup (.cons (.var 2) (.cons (.bi .tuple (.cons (.var 4) .nil)) .nil))))
noncomputable def RO(kd kp:Nat):List Stm:=[u1 kd kp,u2 kd kp,u3 kd kp,u4 kd kp,u5 kd kp,u6 kd kp]
noncomputable def c5(n:Nat)(es:EE):SV := .tup [.int n,.tup (es.map pairS)]
structure Web(n:Nat)(es:EE):Prop where
 en:∀ e∈es,e.1<e.2/\e.2<n
 len:es.length<=39
 few:n<=12
noncomputable def DS(s:Sn):Prop:=∀{t:Nat} {g:Bool} {S:Sto} {Q:QE},TapeS S t->(∀(n:Nat) (es:EE) (S':Sto),Web n es->TapeS S' t->On t S S'->Q (c5 n es) S')->s [.loc t,.bl g] S Q
theorem FI{xs:List SV}:ES xs []=xs.isEmpty:=by cases xs<;>rfl
section
variable{Δ:Nat->Sn}{kd kp:Nat}
theorem Cm(hΔ:∀ f,MonoN (Δ f))(hd:i7 (Δ kd)){t n l:Nat}{g:SV}{S0 S:Sto}{es:EE}{Q:QE}{o4 o5 o6:Option SV}(he:∀ e∈es,e.1<n/\e.2<n/\e.1≠e.2)(hl:es.length<=39)(hn:n<=12)(A:Ah t S0 S l es)
 (q:∀(es:EE) (S':Sto),Web n es->TapeS S' t->On t S0 S'->Q (c5 n es) S'):wSs Δ [u4 kd kp,u5 kd kp,u6 kd kp] (l6 Q) [some (.loc t),some g,some (.int n),some (.loc l),o4,o5,o6] S:=by
 refine⟨by show 0<=big;decide,?_⟩;have hlt:=DR A.at';have htl:=A.tape.lt;refine⟨_,rfl,_,a6 A.push.at',?_⟩
 refine i0 (f7 hΔ _) (λi ρ S2=>∃(fs:EE) (o5 o6:Option SV),ρ=[some (.loc t),some g,some (.int n),some (.loc l),some (.loc S.length),o5,o6]/\Ah t S0 S2 S.length fs/\S2[l]?=some (.lst (es.map pairS))/\(∀ e∈fs,e.1<e.2/\e.2<n)/\fs.length=i)
  ⟨[],o5,o6,rfl,⟨A.tape.push,A.on.push,c4,A.on.len,A.t0⟩,A.push.at',(λ_ h=>nomatch h),rfl⟩ (λi ρ S2 h=>?_) ?_ ?_
 ·obtain⟨fs,_,_,_,_,h2,_⟩:=h;exact h2.trans A.push.at'.symm
 ·rintro i x ρ S2 hx ⟨fs,p5,p6,rfl,A2,h2,hf,fl⟩;rw[SL]at hx;cases hei:es[i]? with
  | none=>rw[hei]at hx;cases hx
  | some e=>
    rw[hei]at hx;have hx:pairS e=x:=oj hx;subst hx;have hil:=(gM hei).1;have hee:=he e (SB hei);refine⟨_,rfl,⟨_,_,rfl,A2.at'⟩,_,rfl,_,rfl,_,a6 A2.at',hd A2.tape (by omega) (by rw[S7];omega) λr S3 r0 r1 T3 O3 _=>?_⟩;have A3:=A2.draw T3 O3;rw[S7]at r1;refine⟨_,rfl,_,rfl,_,rfl,_,rfl,by show 2<=big;decide,?_⟩;refine⟨_,A3.at',⟨r0,by rw[S7];omega⟩,by rw[S7];show _<100000;omega,?_⟩
    have key:∀(a b:Nat) (z1 z2:Int),z1=a->z2=b->a<b->b<n->∃(fs':EE) (o5 o6:Option SV),([some (.loc t),some g,some (.int n),some (.loc l),some (.loc S.length),some (.int e.1),some (.int e.2)]:EnvS)=[some (.loc t),some g,some (.int n),some (.loc l),some (.loc S.length),o5,o6]/\Ah t S0 (S3.set S.length (.lst ((fs.map pairS).take r.toNat ++ .tup [.int z1,.int z2]::(fs.map pairS).drop r.toNat))) S.length fs'/\(S3.set S.length (.lst ((fs.map pairS).take r.toNat ++ .tup [.int z1,.int z2]::(fs.map pairS).drop r.toNat)))[l]?=some (.lst (es.map pairS))/\(∀ e∈fs',e.1<e.2/\e.2<n)/\fs'.length=i+1:=by
     rintro a b _ _ rfl rfl hab hbn
     have e1:(fs.map pairS).take r.toNat++SV.tup [.int a,.int b]::(fs.map pairS).drop r.toNat=(fs.take r.toNat++(a,b)::fs.drop r.toNat).map pairS:=by
      rw[SM,Sk,VG,Um];rfl
     rw[e1];refine⟨_,_,_,rfl,A3.put,?_,λe' h=>?_,?_⟩
     ·rw[AB (by omega)];exact O3.keep _ _ A.ne h2
     ·rcases Sg.mp h with h | h
      ·exact hf e' (Uh h)
      ·rcases SU.mp h with h | h
       ·rw[h];exact⟨hab,hbn⟩
       ·exact hf e' (Ui h)
     ·rw[SA,T7,Sv,Sw];omega
    by_cases hc:e.1<e.2
    ·exact key e.1 e.2 _ _ (by rw[iG (by omega)]) (by rw[iP (by omega)]) hc hee.2.1
    ·exact key e.2 e.1 _ _ (by rw[iP (by omega)]) (by rw[iG (by omega)]) (by omega) hee.1
 ·rintro ρ S2 ⟨fs,p5,p6,rfl,A2,h2,hf,fl⟩;rw[S7]at fl;exact⟨_,rfl,_,rfl,_,a6 A2.at',by show 2<=big;decide,q fs S2 ⟨hf,by omega,hn⟩ A2.tape A2.on⟩
theorem FJ(hΔ:∀ f,MonoN (Δ f))(hd:i7 (Δ kd)){t n l:Nat}{g:SV}{S0 S:Sto}{es:EE}{Q:QE}{o4 o5 o6:Option SV}(P:Prs n es)(A:Ah t S0 S l es)
 (q:∀(es:EE) (S':Sto),Web n es->TapeS S' t->On t S0 S'->Q (c5 n es) S'):wSs Δ [u3 kd kp,u4 kd kp,u5 kd kp,u6 kd kp] (l6 Q) [some (.loc t),some g,some (.int n),some (.loc l),o4,o5,o6] S:=by
 refine⟨_,rfl,by show 0<=big;decide,?_⟩;have A1:=A.push (o:=SO.lst []);refine⟨_,_,A1.at',c4,.inr (.inr rfl),_,rfl,?_⟩;rw[FI];refine ifB (λh1=>?_) (λh1=>ifF rfl (Cm hΔ hd P.en (by have:=P.len;omega) P.few A1 q))
 have hpos:0<es.length:=by
  cases es with
  | nil=>cases h1
  | cons _ _=>simp
 refine⟨_,rfl,hd A1.tape (by decide) (by decide) λr S2 r0 r1 T2 O2 _=>⟨_,rfl,?_⟩⟩;have A2:=A1.draw T2 O2;refine ifD (λ_=>?_) (λ_=>Cm hΔ hd P.en (by have:=P.len;omega) P.few A2 q);refine⟨_,rfl,_,rfl,hd A2.tape (by decide) (by decide) λr3 S3 a0 a1 T3 O3 _=>⟨_,rfl,⟨by omega,by omega⟩,?_⟩⟩;have A3:=A2.draw T3 O3;refine c8 (c9 hΔ _).2 (a4 hΔ _).1 (λi ys S4=>Ah t S0 S4 l es/\∃ fs:EE,ys=fs.map pairS/\(∀ e∈fs,e∈es)/\fs.length=i) ⟨A3,[],rfl,(λ_ h=>nomatch h),rfl⟩ (λ_ _ _ _=>trivial) ?_ ?_
 ·rintro i x ys S4 hx ⟨A4,fs,rfl,hf,fl⟩;obtain⟨rfl,hi⟩:=i3 hx;refine⟨_,rfl,_,rfl,_,rfl,_,a6 A4.at',hd A4.tape (by rw[S7];omega) (by rw[S7];have:=P.len;omega) λr5 S5 b0 b1 T5 O5 _=>?_⟩;have A5:=A4.draw T5 O5;rw[S7]at b1;have hr:r5.toNat<es.length:=by omega
  refine⟨_,pairS es[r5.toNat],a6 A5.at',?_,by rw[S7];show _<100000;omega,A5,fs++[es[r5.toNat]],?_,λe h=>?_,by simp[fl]⟩
  ·have:=j5 (xs:=es.map pairS) (j:=r5.toNat) (v:=pairS es[r5.toNat]) (by rw[SL,SC hr];rfl)
   rwa [Tw b0]at this
  ·rw[SM];rfl
  ·rcases Sg.mp h with h | h
   ·exact hf e h
   ·rw[Sd.mp h];exact U7 hr
 ·rintro ys S4 ⟨A4,fs,rfl,hf,fl⟩;rw[i4]at fl;have A5:=A4.push (o := .lst (fs.map pairS));have hPl:=P.len;refine⟨_,_,A5.at',c4,by simp;show _<=100000;omega,?_⟩;rw[<-SM];refine Cm hΔ hd (es:=es++fs) (λe h=>?_) (by rw[SA];omega) P.few ⟨A5.tape.push,A5.on.push,c4,?_,A.t0⟩ q
  ·rcases Sg.mp h with h | h
   ·exact P.en e h
   ·exact P.en e (hf e h)
  ·have:=A5.on.len;exact this
theorem Pv(hΔ:∀ f,MonoN (Δ f))(hd:i7 (Δ kd))(hp:Dx (Δ kp)){D:Df}(hb:D.body=RO kd kp)(hN:D.N.length=7)(hps:D.ps.length=2):DS (i5 Δ D):=by
 intro t g S Q T q;unfold i5;rw[hb,hN];refine⟨hps.symm,?_⟩;have t0:=T.lt;refine⟨_,rfl,_,rfl,hp T λn es l S1 P h1 hl T1 O1=>?_⟩;have A1:Ah t S S1 l es:=⟨T1,O1,h1,hl,t0⟩
 refine⟨_,rfl,by show 0<=big;decide,?_⟩;have A2:=A1.push (o:=SO.lst []);refine⟨_,_,A2.at',c4,.inr (.inr rfl),_,rfl,?_⟩;rw[FI];refine ifB (λ_=>?_) (λ_=>FJ hΔ hd P A2 λes S' W T' O'=>q n es S' W T' O');refine⟨_,rfl,_,rfl,hp A2.tape λn es l S3 P3 h3 hl3 T3 O3=>?_⟩;exact FJ hΔ hd P3 ⟨T3,A2.on.trans O3,h3,by have:=A2.on.len;omega,t0⟩ λes S' W T' O'=>q n es S' W T' O'
end
noncomputable def LQ:List Stm:=[(.ret (.and (.bi .isi (.cons (.var 0) (.cons (.tyc .int) .nil))) (.not (.bi .isi (.cons (.var 0) (.cons (.tyc .bool) .nil))))))]
noncomputable def DT(k:Nat):List Stm:=[(.ret (.and (.call k (.cons (.var 1) .nil)) (.chn .LtE .Lt (.c (.int 0)) (.var 1) (.ix (.var 0) (.c (.int 0))))))]
noncomputable def Hs(k:Nat):List Stm:=[(.ret (.and (.call k (.cons (.var 1) .nil)) (.chn .LtE .Lt (.c (.int 0)) (.var 1) (.bi .len (.cons (.ix (.var 0) (.c (.int 1))) .nil)))))]
noncomputable def Dz(k:Nat):List Stm:=[(.iff (.not (.call k (.cons (.var 0) (.cons (.var 1) .nil)))) [.no] [])]
noncomputable def Ht(k:Nat):List Stm:=[(.expr (.call k (.cons (.var 0) (.cons (.var 1) .nil)))),(.ret (.comp ["tie","ends"] ["place"] [1] (.tup (.cons (.nm 0) (.cons (.nm 1) .nil))) (.enum (.ix (.var 0) (.c (.int 1)))) (.yes (.cmp .In (.var 2) (.var 1))) (.var 0)))]
noncomputable def Hu(k:Nat):List Stm:=[(.expr (.call k (.cons (.var 0) (.cons (.var 1) .nil)))),(.asg (.tup (.cons (.nm 3) (.cons (.nm 4) .nil))) (.ix (.ix (.var 0) (.c (.int 1))) (.var 1))),(.iff (.cmp .Eq (.var 2) (.var 3)) [(.ret (.var 4))] []),(.iff (.cmp .Eq (.var 2) (.var 4)) [(.ret (.var 3))] []),.no]
noncomputable def CG(s:Sn):Prop:=∀{i:Int} {S:Sto} {Q:QE},Q (.bl true) S->s [.int i] S Q
noncomputable def BN(s:Sn):Prop:=∀{n p:Nat} {es:EE} {S:Sto} {Q:QE},p<n->Q (.bl true) S->s [c5 n es,.int p] S Q
noncomputable def Cn(s:Sn):Prop:=∀{n j:Nat} {es:EE} {S:Sto} {Q:QE},j<es.length->Q (.bl true) S->s [c5 n es,.int j] S Q
noncomputable def AX(s:Sn):Prop:=∀{n p:Nat} {es:EE} {S:Sto} {Q:QE},p<n->Q .non S->s [c5 n es,.int p] S Q
noncomputable def AY(s:Sn):Prop:=∀{n j:Nat} {es:EE} {S:Sto} {Q:QE},j<es.length->Q .non S->s [c5 n es,.int j] S Q
noncomputable def e5(es:EE)(p:Nat)(i:Nat):List Nat:=(SE i).filter λj=>match es[j]? with | some e=>decide (e.1=p)||decide (e.2=p) | none=>false
noncomputable def natS(xs:List Nat):List SV:=xs.map λ(i:Nat)=>SV.int i
noncomputable def Av(s:Sn):Prop:=∀{n p:Nat} {es:EE} {S:Sto} {Q:QE},es.length<=5000->p<n->Q (.loc S.length) (S++[.lst (natS (e5 es p es.length))])->s [c5 n es,.int p] S Q
noncomputable def E1(e:Nat×Nat)(p:Nat):Nat:=if p=e.1 then e.2 else e.1
noncomputable def BY(s:Sn):Prop:=∀{n p j:Nat} {es:EE} {e:Nat×Nat} {S:Sto} {Q:QE},es[j]?=some e->(p=e.1\/p=e.2)->Q (.int (E1 e p)) S->s [c5 n es,.int j,.int p] S Q
section
variable{Δ:Nat->Sn}
theorem LR{D:Df}(hb:D.body=LQ)(hN:D.N.length=1)(hp:D.ps.length=1):CG (i5 Δ D):=by
 intro i S Q q;unfold i5;rw[hb,hN];exact⟨hp.symm,_,rfl,_,nofun,rfl,_,rfl,ifT rfl ⟨_,rfl,_,nofun,rfl,_,rfl,q⟩⟩
theorem FK{k:Nat}(h0:CG (Δ k)){D:Df}(hb:D.body=DT k)(hN:D.N.length=2)(hp:D.ps.length=2):BN (i5 Δ D):=by
 intro n p es S Q h q;unfold i5;rw[hb,hN];refine⟨hp.symm,_,rfl,h0 ⟨_,rfl,ifT rfl ⟨_,rfl,_,rfl,ifT (decide_eq_true (Us p)) ⟨_,rfl,_,_,rfl,rfl,?_⟩⟩⟩⟩;show Q (.bl (decide ((p:Int)<n))) S;rw[decide_eq_true (by omega)];exact q
theorem JJ{k:Nat}(h0:CG (Δ k)){D:Df}(hb:D.body=Hs k)(hN:D.N.length=2)(hp:D.ps.length=2):Cn (i5 Δ D):=by
 intro n p es S Q h q;unfold i5;rw[hb,hN];refine⟨hp.symm,_,rfl,h0 ⟨_,rfl,ifT rfl ⟨_,rfl,_,rfl,ifT (decide_eq_true (Us p)) ⟨_,rfl,_,_,rfl,rfl,_,rfl,?_⟩⟩⟩⟩;show Q (.bl (decide ((p:Int)<(es.map pairS).length))) S;rw[decide_eq_true (by rw[S7];omega)];exact q
theorem D3{k:Nat}(h0:BN (Δ k)){D:Df}(hb:D.body=Dz k)(hN:D.N.length=2)(hp:D.ps.length=2):AX (i5 Δ D):=by
 intro n p es S Q h q;unfold i5;rw[hb,hN];exact⟨hp.symm,_,rfl,_,rfl,h0 h ⟨_,rfl,ifF rfl q⟩⟩
theorem FL{k:Nat}(h0:Cn (Δ k)){D:Df}(hb:D.body=Dz k)(hN:D.N.length=2)(hp:D.ps.length=2):AY (i5 Δ D):=by
 intro n p es S Q h q;unfold i5;rw[hb,hN];exact⟨hp.symm,_,rfl,_,rfl,h0 h ⟨_,rfl,ifF rfl q⟩⟩
theorem LS{xs:List SV}{i:Nat}{x:SV}(h:(Ap xs)[i]?=some x):∃ y,xs[i]?=some y/\x = .tup [.int i,y]:=by
 unfold Ap at h;rw[Uc]at h;cases hy:xs[i]? with
 | none=>rw[hy]at h;revert h;cases(SE xs.length)[i]?<;>exact nofun
 | some y=>
   have hi:=(gM hy).1;rw[hy,TZ hi]at h;exact⟨y,rfl,(oj h).symm⟩
theorem Hv{xs:List SV}:(Ap xs).length=xs.length:=by unfold Ap;simp
theorem v5{es:EE}{i:Nat}{x:SV}(h:(es.map pairS)[i]?=some x):∃ e,es[i]?=some e/\x=pairS e:=by
 rw[SL]at h;cases he:es[i]? with
 | none=>rw[he]at h;cases h
 | some e=>rw[he]at h;exact⟨e,rfl,(oj h).symm⟩
theorem NS(p:Nat)(e:Nat×Nat):inS (.int p) [.int e.1,.int e.2]=(decide (e.1=p)||decide (e.2=p)):=by
 have k:∀ a:Nat,((a:Int) == (p:Int))=decide (a=p):=λa=>by
  rw[TC];simp[T6]
 unfold inS;simp only[TU,V3,Ul,eqF,k]
theorem C6(es:EE)(p i:Nat){e:Nat×Nat}(h:es[i]?=some e):e5 es p (i+1)=e5 es p i++if (decide (e.1=p)||decide (e.2=p))=true then [i] else []:=by
 unfold e5;rw[TL,U0]
 congr 1
 rw[Sl,h];rfl
theorem Gc(es:EE)(p i:Nat):(e5 es p i).length<=i:=by
 have:=Sy (λj=>match es[j]? with | some e=>decide (e.1=p)||decide (e.2=p) | none=>false) (SE i);rw[T9]at this;exact this
theorem mem_tiesAt{es:EE}{p j:Nat}:j∈e5 es p es.length↔∃ e,es[j]?=some e/\(e.1=p\/e.2=p):=by
 unfold e5;rw[Sm,SX];constructor
 ·rintro⟨h,h2⟩;rw[SC h]at h2;exact⟨_,SC h,by simpa using h2⟩
 ·rintro⟨e,h,h2⟩;refine⟨(gM h).1,?_⟩;rw[h];simpa using h2
theorem JK{k:Nat}(hΔ:∀ f,MonoN (Δ f))(h0:AX (Δ k)){D:Df}(hb:D.body=Ht k)(hN:D.N.length=2)(hp:D.ps.length=2):Av (i5 Δ D):=by
 intro n p es S Q hl h q;unfold i5;rw[hb,hN];refine⟨hp.symm,_,rfl,_,rfl,h0 h ⟨_,rfl,_,_,rfl,rfl,_,rfl,?_⟩⟩;refine c8 (c9 hΔ _).2 (a4 hΔ _).1 (λi ys S'=>S'=S/\ys=natS (e5 es p i)) ⟨rfl,rfl⟩ (λ_ _ _ _=>trivial) ?_ ?_
 ·rintro i x ys S' hx ⟨rfl,rfl⟩;obtain⟨y,hy,rfl⟩:=LS hx;obtain⟨e,he,rfl⟩:=v5 hy;have hi:=(gM he).1;have ht:=Gc es p i;refine⟨_,rfl,_,rfl,rfl,_,rfl,rfl,_,rfl,?_⟩;show if inS (.int p) [.int e.1,.int e.2]=true then _ else _
  rw[NS];refine ifB (λh=>?_) (λh=>?_)
  ·refine⟨_,rfl,by show(natS _).length<100000;unfold natS;rw[S7];omega,rfl,?_⟩;rw[C6 es p i he,iP h];unfold natS;rw[SM];rfl
  ·refine⟨rfl,?_⟩;rw[C6 es p i he,iG (by rw[h];decide),Su]
 ·rintro ys S' ⟨rfl,rfl⟩;rw[Hv,S7];exact q
theorem JL{k:Nat}(h0:AY (Δ k)){D:Df}(hb:D.body=Hu k)(hN:D.N.length=5)(hp:D.ps.length=3):BY (i5 Δ D):=by
 intro n p j es e S Q he h q;unfold i5;rw[hb,hN];refine⟨hp.symm,_,rfl,_,rfl,h0 (gM he).1 ⟨_,rfl,_,_,rfl,rfl,_,rfl,_,pairS e,rfl,j5 (by rw[SL,he];rfl),?_⟩⟩;refine⟨_,rfl,_,rfl,_,rfl,?_⟩;refine ifD (λh1=>⟨_,rfl,?_⟩) (λh1=>⟨_,rfl,_,rfl,_,rfl,ifD (λh2=>⟨_,rfl,?_⟩) (λh2=>?_)⟩)
 ·have h1:p=e.1:=T6.mp h1;unfold E1 at q;rw[iP h1]at q;exact q
 ·have h1:¬ p=e.1:=λz=>h1 (congrArg _ z);unfold E1 at q;rw[iG h1]at q;exact q
 ·rcases h with h | h
  ·exact absurd (congrArg Nat.cast h) h1
  ·exact absurd (congrArg Nat.cast h) h2
end
theorem j7{xs:List Nat}:(natS xs).length=xs.length:=by unfold natS;rw[S7]
theorem m8{xs:List Nat}{i x:Nat}(h:xs[i]?=some x):(natS xs)[i]?=some (.int x):=by unfold natS;rw[SL,h];rfl
theorem AS{xs ys:List Nat}:natS (xs++ys)=natS xs++natS ys:=by unfold natS;rw[SM]
theorem NT(m:Nat):Ao 0 (m:Int)=natS (SE m):=by
 unfold Ao natS;simp
structure Gw(S S':Sto):Prop where
 len:S.length<=S'.length
 keep:∀(k:Nat) (o:SO),S[k]?=some o->S'[k]?=some o
theorem Gw.refl(S:Sto):Gw S S:=⟨SK _,λ_ _ h=>h⟩
theorem Gw.push{S S':Sto}{o:SO}(h:Gw S S'):Gw S (S'++[o]):=⟨by rw[SA];have:=h.len;omega,λk u z=>f6 (h.keep k u z)⟩
theorem Gw.put{S S':Sto}{o:SO}{k:Nat}(h:Gw S S')(hk:S.length<=k):Gw S (S'.set k o):=⟨by rw[Sq];exact h.len,λj u z=>by
 rw[AB (λe=>by have:=DR z;omega)];exact h.keep j u z⟩
theorem Gw.trans{S S' S'':Sto}(a:Gw S S')(b:Gw S' S''):Gw S S'':=⟨Sj a.len b.len,λk o h=>b.keep k o (a.keep k o h)⟩
theorem DU(xs:List Nat):(natS xs).all v0=true:=by
 unfold natS;rw[V0,SZ];exact λ_ _=>rfl
noncomputable def g1':Stm:=(.asg (.nm 1) (.lrng1 (.ix (.var 0) (.c (.int 0)))))
noncomputable def g2':Stm:=(.loop (.tup (.cons (.nm 2) (.cons (.nm 3) .nil))) (.seq (.ix (.var 0) (.c (.int 1)))) [(.asg (.nm 4) (.bi .min (.cons (.ix (.var 1) (.var 2)) (.cons (.ix (.var 1) (.var 3)) .nil)))),(.asg (.nm 5) (.bi .max (.cons (.ix (.var 1) (.var 2)) (.cons (.ix (.var 1) (.var 3)) .nil)))),(.asg (.nm 1) (.comp ["first"] ["high","low"] [5,4] (.nm 0) (.seq (.var 1)) .no (.ife (.cmp .Eq (.var 0) (.var 1)) (.var 2) (.var 0))))])
noncomputable def g3':Stm:=(.ret (.comp ["first"] ["least","web"] [1,0] (.nm 0) (.rng1 (.ix (.var 0) (.c (.int 0)))) (.yes (.cmp .Eq (.ix (.var 1) (.var 0)) (.var 0))) (.comp ["place"] ["least","first"] [1,0] (.nm 0) (.rng1 (.ix (.var 2) (.c (.int 0)))) (.yes (.cmp .Eq (.ix (.var 1) (.var 0)) (.var 2))) (.var 0))))
noncomputable def LU:List Stm:=[g1',g2',g3']
noncomputable def D4(a b x:Nat):Nat:=if x=max a b then min a b else x
theorem E2(a b:Nat):(if (b:Int)<a then (b:Int) else a)=((min a b:Nat):Int):=by split<;>omega
theorem Hw(a b:Nat):(if (b:Int)>a then (b:Int) else a)=((max a b:Nat):Int):=by split<;>omega
noncomputable def gc':Stm:=(.asg (.nm 1) (.comp ["first"] ["high","low"] [5,4] (.nm 0) (.seq (.var 1)) .no (.ife (.cmp .Eq (.var 0) (.var 1)) (.var 2) (.var 0))))
theorem LV{Δ:Nat->Sn}(hΔ:∀ f,MonoN (Δ f)){D:EndsS}{a b k:Nat}{z1 z2:Int}{w o2 o3:Option SV}{ms:List Nat}{S:Sto}(e1:z1=((min a b:Nat):Int))(e2:z2=((max a b:Nat):Int))(hl:ms.length<=1000)(hk:S[k]?=some (.lst (natS ms)))
 (q:D.nx [w,some (.loc S.length),o2,o3,some (.int z1),some (.int z2)] (S++[.lst (natS (ms.map (D4 a b)))])):wSs Δ [gc'] D [w,some (.loc k),o2,o3,some (.int z1),some (.int z2)] S:=by
 subst e1 e2;refine⟨_,rfl,_,a6 hk,?_⟩;refine c8 (c9 hΔ _).2 (a4 hΔ _).1 (λj ys S2=>S2=S/\ys=natS ((ms.take j).map (D4 a b))) ⟨rfl,rfl⟩ (λ_ _ _ h=>by rw[h.1];exact rfl) ?_ ?_
 ·rintro j y ys S2 hy ⟨rfl,rfl⟩;have hj:j<ms.length:=by have:=(gM hy).1;rwa [j7]at this
  rw[m8 (SC hj)]at hy;have hy:=oj hy;subst hy
  have fin:∀ z:Int,z=D4 a b ms[j]->(natS ((ms.take j).map (D4 a b))).length<big/\S2=S2/\natS ((ms.take j).map (D4 a b))++[.int z]=natS ((ms.take (j+1)).map (D4 a b)):=by
   rintro _ rfl;refine⟨by rw[j7,S7,Sv];show _<100000;omega,rfl,?_⟩;rw[TX,SC hj,SM,AS];rfl
  refine⟨_,rfl,_,rfl,_,rfl,ifD (λh=>⟨_,rfl,fin _ ?_⟩) (λh=>⟨_,rfl,fin _ ?_⟩)⟩
  ·have h:ms[j]=max a b:=T6.mp h;unfold D4;rw[iP h]
  ·have h:¬ ms[j]=max a b:=λz=>h (congrArg _ z);unfold D4;rw[iG h]
 ·rintro ys S2 ⟨rfl,rfl⟩;rw[j7,TH];exact q
theorem LW(b:Bool)(n:Nat):blS (SJ n (.bl b))=some (SJ n b):=by
 induction n with
 | zero=>rfl
 | succ n ih=>rw[Ss,Ss];simp[blS,ih]
theorem FM{Δ:Nat->Sn}(hΔ:∀ f,MonoN (Δ f)){e:Ex}{keep:Sto->Prop}{g:Tg}{ρ:EnvS}{Q:List SV->Sto->Prop}{b:Bool}{xs:List SV}{S:Sto}(hl:xs.length<=1000)(hk:∀ S',Gw S S'->keep S')
 (hs:∀(i:Nat) (x:SV) (S':Sto),xs[i]?=some x->Gw S S'->wTg g x ρ λρ2=>(wEx Δ e).1 ρ2 S' λy S2=>y = .bl b/\Gw S S2)
 (q:∀ S',Gw S S'->Q (SJ xs.length (.bl b)) S'):m5 keep g (wEo Δ .no).2 (wEx Δ e).1 ρ Q xs [] S:=by
 refine c8 (c9 hΔ _).2 (a4 hΔ _).1 (λi ys S'=>Gw S S'/\ys=SJ i (.bl b)) ⟨Gw.refl S,rfl⟩ (λ_ _ _ h=>hk _ h.1) ?_ ?_
 ·rintro i x ys S' hx ⟨G,rfl⟩;have hi:=(gM hx).1;refine j0 g (λρ2 h=>?_) (hs i x S' hx G);refine(a4 hΔ e).1 _ _ _ _ (λy S2 h=>⟨by rw[U2];show _<100000;omega,h.2,?_⟩) h;rw[h.1,List.replicate_succ']
 ·rintro ys S' ⟨G,rfl⟩;exact q S' G
section
variable{Δ:Nat->Sn}
theorem NU(n:Nat):(SJ n true).all id=true:=by simp
theorem NV(n:Nat):(SJ n false).any id=false:=by simp
end
end Rf
namespace Hue
noncomputable def lowO(ms:List Nat)(e:Nat×Nat):Nat:=min (ms.getD e.1 0) (ms.getD e.2 0)
noncomputable def highO(ms:List Nat)(e:Nat×Nat):Nat:=max (ms.getD e.1 0) (ms.getD e.2 0)
noncomputable def bring(ms:List Nat)(e:Nat×Nat):List Nat:=ms.map λx=>if x=highO ms e then lowO ms e else x
noncomputable def BZ(n:Nat)(es:EE):List Nat:=es.foldl bring (SE n)
structure Mk(n:Nat)(ms:List Nat):Prop where
 len:ms.length=n
 le:∀ i (h:i<ms.length),ms[i]<=i
 fix:∀ i (h:i<ms.length),ms[ms[i]]?=some ms[i]
theorem FN(n:Nat):Mk n (SE n):=⟨by simp,λi h=>by simp,λi h=>by
 have hi:i<n:=by simpa using h
 simp[TZ,hi]⟩
theorem LX{n:Nat}{ms:List Nat}(M:Mk n ms){e:Nat×Nat}(h1:e.1<n)(h2:e.2<n):Mk n (bring ms e):=by
 have l1:e.1<ms.length:=by rw[M.len];exact h1
 have l2:e.2<ms.length:=by rw[M.len];exact h2
 have g1:ms.getD e.1 0=ms[e.1]:=by simp[TY,l1]
 have g2:ms.getD e.2 0=ms[e.2]:=by simp[TY,l2]
 have fl:ms[lowO ms e]?=some (lowO ms e):=by
  unfold lowO;rw[g1,g2];rcases VP ms[e.1] ms[e.2] with z | z
  ·rw[V9 z];exact M.fix _ l1
  ·rw[V7 z];exact M.fix _ l2
 have hlh:lowO ms e<=highO ms e:=by unfold lowO highO;omega
 have at':∀ i (h:i<(bring ms e).length),(bring ms e)[i]=if ms[i]'(by simpa[bring] using h)=highO ms e then lowO ms e else ms[i]'(by simpa[bring] using h):=λi h=>by simp[bring]
 refine⟨by rw[bring,S7,M.len],λi h=>?_,λi h=>?_⟩
 ·rw[at' i h];have hi:i<ms.length:=by simpa[bring] using h
  have:=M.le i hi;split
  ·rename_i q;omega
  ·exact this
 ·have hi:i<ms.length:=by simpa[bring] using h
  have key:∀ v,ms[v]?=some v->(v≠highO ms e\/v=lowO ms e)->(bring ms e)[v]?=some v:=by
   intro v hv q;unfold bring;rw[SL,hv];show some (if v=highO ms e then lowO ms e else v)=some v;rcases q with q | q
   ·rw[iG q]
   ·split
    ·rw[<-q]
    ·rfl
  rw[at' i h];split
  ·exact key _ fl (.inr rfl)
  ·rename_i q;exact key _ (M.fix i hi) (.inl q)
theorem Co{n:Nat}:∀{es:EE} {ms:List Nat},Mk n ms->(∀ e∈es,e.1<n/\e.2<n)->Mk n (es.foldl bring ms)
 | [],_,M,_=>M
 | e::es,ms,M,h=>Co (es:=es) (ms:=bring ms e) (LX M (h e (SI ..)).1 (h e (SI ..)).2) λf hf=>h f (SG _ hf)
noncomputable def Cl(es:EE)(C:Nat->Prop):Prop:=∀ e∈es,C e.1↔C e.2
theorem Aw{ms:List Nat}{e:Nat×Nat}{p:Nat}(h:p<ms.length):(bring ms e).getD p 0=if ms.getD p 0=highO ms e then lowO ms e else ms.getD p 0:=by
 unfold bring;simp[TY,h]
theorem B7{ms:List Nat}{e:Nat×Nat}:(bring ms e).length=ms.length:=by simp[bring]
theorem FO(ms:List Nat)(e:Nat×Nat):(lowO ms e=ms.getD e.1 0/\highO ms e=ms.getD e.2 0)\/(lowO ms e=ms.getD e.2 0/\highO ms e=ms.getD e.1 0):=by
 unfold lowO highO;rcases VP (ms.getD e.1 0) (ms.getD e.2 0) with z | z
 ·exact .inl ⟨V9 z,Nat.max_eq_right z⟩
 ·exact .inr ⟨V7 z,Nat.max_eq_left z⟩
theorem FP{n:Nat}{C:Nat->Prop}:∀{es:EE} {ms:List Nat},ms.length=n->(∀ e∈es,e.1<n/\e.2<n)->Cl es C->(∀ p,p<n->(C p↔C (ms.getD p 0)))->∀ p,p<n->(C p↔C ((es.foldl bring ms).getD p 0))
 | [],_,_,_,_,h=>h
 | e::es,ms,hl,hn,hc,h=>by
   refine FP (es:=es) (ms:=bring ms e) (by rw[B7,hl]) (λf hf=>hn f (SG _ hf)) (λf hf=>hc f (SG _ hf)) λp hp=>?_;have he:=hn e (SI ..);have c1:=h e.1 he.1;have c2:=h e.2 he.2;have c0:=hc e (SI ..);have hp0:=h p hp;rw[Aw (by omega)];split
   ·rename_i z;rw[z]at hp0;rcases FO ms e with⟨a,b⟩ | ⟨a,b⟩
    ·rw[a];rw[b]at hp0;exact hp0.trans (c2.symm.trans (c0.symm.trans c1))
    ·rw[a];rw[b]at hp0;exact hp0.trans (c1.symm.trans (c0.trans c2))
   ·exact hp0
theorem LY{n:Nat}{es:EE}{C:Nat->Prop}(hn:∀ e∈es,e.1<n/\e.2<n)(hc:Cl es C){p:Nat}(hp:p<n):C p↔C ((BZ n es).getD p 0):=by
 refine FP (ms:=SE n) (by simp) hn hc (λq hq=>?_) p hp;simp[TY,hq]
theorem FQ{n:Nat}{a b:Nat}:∀{es:EE} {ms:List Nat},ms.length=n->a<n->b<n->ms.getD a 0=ms.getD b 0->(es.foldl bring ms).getD a 0=(es.foldl bring ms).getD b 0
 | [],_,_,_,_,h=>h
 | e::es,ms,hl,ha,hb,h=>by
   refine FQ (es:=es) (ms:=bring ms e) (by rw[B7,hl]) ha hb ?_;rw[Aw (by omega),Aw (by omega),h]
theorem DV{n:Nat}:∀{es:EE} {ms:List Nat},ms.length=n->(∀ e∈es,e.1<n/\e.2<n)->∀ e∈es,(es.foldl bring ms).getD e.1 0=(es.foldl bring ms).getD e.2 0
 | f::es,ms,hl,hn,e,he=>by
   rcases SU.mp he with rfl | he
   ·have hb:=hn e (SI ..);refine FQ (es:=es) (ms:=bring ms e) (by rw[B7,hl]) hb.1 hb.2 ?_;rw[Aw (by omega),Aw (by omega)];rcases FO ms e with⟨a,b⟩ | ⟨a,b⟩
    ·rw[a,b];simp
    ·rw[a,b];simp
   ·exact DV (es:=es) (ms:=bring ms f) (by rw[B7,hl]) (λg hg=>hn g (SG _ hg)) e he
theorem Gd{n:Nat}{es:EE}(hn:∀ e∈es,e.1<n/\e.2<n):∀ e∈es,(BZ n es).getD e.1 0=(BZ n es).getD e.2 0:=DV (by simp) hn
end Hue
namespace Rf
open PySem L2
section
variable{Δ:Nat->Sn}
theorem y6{D:EndsS}{ρ:EnvS}{S:Sto}(h:D.nx ρ S):wSs Δ [] D ρ S:=h
end
end Rf
namespace Hue
theorem len_split{α:Type}(p q:α->Bool):∀ l:List α,(l.filter p).length=(l.filter λa=>p a&&q a).length+(l.filter λa=>p a&&!q a).length
 | []=>rfl
 | a::l=>by
   have ih:=len_split p q l;rw[Sl,Sl,Sl];cases p a<;>cases q a<;>simp<;>omega
theorem FR{α:Type}{p q:α->Bool}:∀{l:List α},(∀ a∈l,q a=true->p a=true)->(∃ a∈l,p a=true/\q a=false)->(l.filter q).length<(l.filter p).length
 | c::l,h,⟨a,ha,h1,h2⟩=>by
   have le:∀{l:List α},(∀ a∈l,q a=true->p a=true)->(l.filter q).length<=(l.filter p).length:=by
    intro l
    induction l with
    | nil=>intro _;exact SK _
    | cons c l ih=>
      intro h;have i:=ih λa ha=>h a (SG _ ha);have hc:=h c (SI ..);rw[Sl,Sl];cases hq:q c<;>cases hp:p c<;>simp<;>first | omega | (rw[hq,hp]at hc;exact absurd (hc rfl) (by decide))
   have h':∀ a∈l,q a=true->p a=true:=λa ha=>h a (SG _ ha);rw[Sl,Sl];rcases SU.mp ha with rfl | ha'
   ·rw[h1,h2];have:=le h';simp;omega
   ·have i:=FR h' ⟨a,ha',h1,h2⟩;have hc:=h c (SI ..);cases hq:q c<;>cases hp:p c<;>simp<;>first | omega | (rw[hq,hp]at hc;exact absurd (hc rfl) (by decide))
noncomputable def mk(n:Nat)(es:EE)(p:Nat):Nat:=(BZ n es).getD p 0
noncomputable def off(x:Nat)(es:EE):EE:=es.filter λe=>!(decide (e.1=x)||decide (e.2=x))
section
variable{n:Nat}{es:EE}(hn:∀ e∈es,e.1<n/\e.2<n)
include hn
theorem mk_le{p:Nat}(hp:p<n):mk n es p<=p:=by
 have M:Mk n (BZ n es):=Co (FN n) hn;have hpm:p<(BZ n es).length:=by rw[M.len];exact hp
 have:=M.le p hpm;unfold mk;simpa[TY,hpm] using this
theorem mk_lt{p:Nat}(hp:p<n):mk n es p<n:=UB (mk_le hn hp) hp
theorem mk_mk{p:Nat}(hp:p<n):mk n es (mk n es p)=mk n es p:=by
 have M:Mk n (BZ n es):=Co (FN n) hn;have hpm:p<(BZ n es).length:=by rw[M.len];exact hp
 have:=M.fix p hpm;have e:mk n es p=(BZ n es)[p]:=by unfold mk;simp[TY,hpm]
 rw[e];unfold mk;rw[SQ,this];rfl
theorem LZ{C:Nat->Prop}(hc:Cl es C){p:Nat}(hp:p<n):C p↔C (mk n es p):=LY hn hc hp
theorem mk_ends:∀ e∈es,mk n es e.1=mk n es e.2:=Gd hn
theorem E3{C:Nat->Prop}(hc:Cl es C){p q:Nat}(hp:p<n)(hq:q<n)(h:mk n es p=mk n es q):C p↔C q:=by
 rw[LZ hn hc hp,h];exact(LZ hn hc hq).symm
end
section
variable{n x:Nat}{es:EE}
theorem off_mem{e:Nat×Nat}:e∈off x es↔e∈es/\e.1≠x/\e.2≠x:=by
 unfold off;rw[Sm];simp
theorem off_hn(hn:∀ e∈es,e.1<n/\e.2<n):∀ e∈off x es,e.1<n/\e.2<n:=λe he=>hn e (off_mem.mp he).1
variable(hn:∀ e∈es,e.1<n/\e.2<n)
include hn
theorem NW{p q:Nat}(hp:p<n)(hq:q<n)(h:mk n (off x es) p=mk n (off x es) q):mk n es p=mk n es q:=by
 refine(E3 (C:=λr=>mk n es r=mk n es q) (off_hn hn) (λe he=>?_) hp hq h).mpr rfl;show mk n es e.1=_↔mk n es e.2=_;rw[mk_ends hn e (off_mem.mp he).1]
end
noncomputable def dn(L:Nat->Nat)(e:Nat×Nat):Nat->Nat:=λp=>if p=e.2 then min (L e.1) (L e.2) else if p=e.1 then min (L e.1) (L e.2) else L p
noncomputable def dnR(es:EE)(L:Nat->Nat):Nat->Nat:=es.foldl dn L
noncomputable def dnN(es:EE):Nat->(Nat->Nat)->Nat->Nat
 | 0,L=>L
 | k+1,L=>dnR es (dnN es k L)
theorem OH{n:Nat}{N L:Nat->Nat}{e:Nat×Nat}(hm:N e.1=N e.2)(h1:e.1<n)(h2:e.2<n)(h:∀ p,p<n->N p<=L p):∀ p,p<n->N p<=dn L e p:=by
 intro p hp;have a:=h e.1 h1;have b:=h e.2 h2;unfold dn;split
 ·rename_i z;rw[z];omega
 ·split
  ·rename_i z;rw[z];omega
  ·exact h p hp
theorem E4{n:Nat}{N L:Nat->Nat}{e:Nat×Nat}(hm:N e.1=N e.2)(h1:e.1<n)(h2:e.2<n)(h:∀ p,p<n->N p<=L p){p:Nat}(hp:L p=N p):dn L e p=N p:=by
 have a:=h e.1 h1;have b:=h e.2 h2;unfold dn;split
 ·rename_i z;rw[z]at hp ⊢;omega
 ·split
  ·rename_i z;rw[z]at hp ⊢;omega
  ·exact hp
theorem Cp{n:Nat}{N:Nat->Nat}:∀{es:EE} {L:Nat->Nat},(∀ e∈es,N e.1=N e.2)->(∀ e∈es,e.1<n/\e.2<n)->(∀ p,p<n->N p<=L p)->(∀ p,p<n->N p<=dnR es L p)/\∀ p,L p=N p->dnR es L p=N p
 | [],L,_,_,h=>⟨h,λ_ z=>z⟩
 | e::es,L,hm,hn,h=>by
   have m:=hm e (SI ..);have b:=hn e (SI ..);have ih:=Cp (es:=es) (L:=dn L e) (λf hf=>hm f (SG _ hf)) (λf hf=>hn f (SG _ hf)) (OH m b.1 b.2 h);exact⟨ih.1,λp hp=>ih.2 p (E4 m b.1 b.2 h hp)⟩
theorem Cq{n:Nat}{N:Nat->Nat}:∀{es:EE} {L:Nat->Nat},(∀ e∈es,N e.1=N e.2)->(∀ e∈es,e.1<n/\e.2<n)->(∀ p,p<n->N p<=L p)->∀ e∈es,(L e.1=N e.1\/L e.2=N e.2)->dnR es L e.1=N e.1/\dnR es L e.2=N e.2
 | f::es,L,hm,hn,h,e,he,q=>by
   have m:=hm f (SI ..);have b:=hn f (SI ..);have hm':∀ e∈es,N e.1=N e.2:=λf hf=>hm f (SG _ hf);have hn':∀ e∈es,e.1<n/\e.2<n:=λf hf=>hn f (SG _ hf);have g:=OH m b.1 b.2 h;have kp:=Cp hm' hn' g;rcases SU.mp he with rfl | he'
   ·have a1:=h e.1 b.1;have a2:=h e.2 b.2
    have z1:dn L e e.1=N e.1:=by
     unfold dn;split
     ·omega
     ·rw[iP rfl];omega
    have z2:dn L e e.2=N e.2:=by
     unfold dn;rw[iP rfl];omega
    exact⟨kp.2 _ z1,kp.2 _ z2⟩
   ·exact Cq hm' hn' g e he' (q.imp (E4 m b.1 b.2 h) (E4 m b.1 b.2 h))
noncomputable def Cr(n:Nat)(N L:Nat->Nat):Nat:=((SE n).filter λp=>decide (L p≠N p)).length
theorem La{n:Nat}{es:EE}(hn:∀ e∈es,e.1<n/\e.2<n):∀ k,(∀ p,p<n->mk n es p<=dnN es k (λp=>p) p)/\(∀ p,p<n->mk n es p=p->dnN es k (λp=>p) p=mk n es p)/\(Cr n (mk n es) (dnN es k λp=>p)=0\/Cr n (mk n es) (dnN es k λp=>p)+k<=n)
 | 0=>⟨λp hp=>mk_le hn hp,λp _ h=>h.symm,.inr (by
    have:=Sy (λp=>decide (dnN es 0 (λp=>p) p≠mk n es p)) (SE n);rw[T9]at this;unfold Cr;omega)⟩
 | k+1=>by
   obtain⟨ge,rt,bd⟩:=La hn k;have hm:=mk_ends hn;show(∀ p,p<n->_<=dnR es (dnN es k λp=>p) p)/\(∀ p,p<n->_->dnR es (dnN es k λp=>p) p=_)/\(Cr n (mk n es) (dnR es (dnN es k λp=>p))=0\/Cr n (mk n es) (dnR es (dnN es k λp=>p))+(k+1)<=n);generalize dnN es k (λp=>p)=L at *;have kp:=Cp hm hn ge;refine⟨kp.1,λp hp h=>kp.2 p (rt p hp h),?_⟩;by_cases hz:Cr n (mk n es) L=0
   ·left;have e:(SE n).filter (λp=>decide (L p≠mk n es p))=[]:=TR.mp hz;rw[U1]at e;unfold Cr;rw[TR,U1];intro p hp z;have:=e p hp;simp only[dQ,ne_eq,Decidable.not_not]at this z;exact z (kp.2 p this)
   ·right;have ⟨p,hp⟩:∃ p,p∈(SE n).filter (λp=>decide (L p≠mk n es p)):=List.exists_mem_of_ne_nil _ λz=>hz (by unfold Cr;rw[z];rfl);rw[Sm,SX]at hp;simp only[dQ]at hp;obtain⟨hp,hb⟩:=hp
    have cr:∃ e∈es,((L e.1=mk n es e.1/\mk n es e.1=mk n es p)/\L e.2≠mk n es e.2)\/((L e.2=mk n es e.2/\mk n es e.2=mk n es p)/\L e.1≠mk n es e.1):=by
     refine Classical.byContradiction λno=>hb ?_
     have cl:Cl es λq=>L q=mk n es q/\mk n es q=mk n es p:=λe he=>by
      constructor
      ·rintro⟨a,b⟩;refine Classical.byContradiction λz=>no ⟨e,he,.inl ⟨⟨a,b⟩,λy=>z ⟨y,by rw[<-hm e he];exact b⟩⟩⟩
      ·rintro⟨a,b⟩;refine Classical.byContradiction λz=>no ⟨e,he,.inr ⟨⟨a,b⟩,λy=>z ⟨y,by rw[hm e he];exact b⟩⟩⟩
     exact((LZ hn cl hp).mpr ⟨rt _ (mk_lt hn hp) (mk_mk hn hp),mk_mk hn hp⟩).1
    obtain⟨e,he,cr⟩:=cr;have be:=hn e he
    have less:Cr n (mk n es) (dnR es L)<Cr n (mk n es) L:=by
     refine FR (λa _ h=>?_) ?_
     ·simp only[dQ]at h ⊢;exact λz=>h (kp.2 a z)
     ·rcases cr with⟨⟨a,_⟩,b⟩ | ⟨⟨a,_⟩,b⟩
      ·exact⟨e.2,SX.mpr be.2,by simpa using b,by simpa using (Cq hm hn ge e he (.inl a)).2⟩
      ·exact⟨e.1,SX.mpr be.1,by simpa using b,by simpa using (Cq hm hn ge e he (.inr a)).1⟩
    rcases bd with bd | bd
    ·exact absurd bd hz
    ·omega
theorem dn_marks{n:Nat}{es:EE}(hn:∀ e∈es,e.1<n/\e.2<n){p:Nat}(hp:p<n):dnN es n (λp=>p) p=mk n es p:=by
 obtain⟨_,_,h⟩:=La hn n;have hz:Cr n (mk n es) (dnN es n λp=>p)=0:=by omega
 have e:(SE n).filter (λp=>decide (dnN es n (λp=>p) p≠mk n es p))=[]:=TR.mp hz;rw[U1]at e;have:=e p (SX.mpr hp);simpa using this
end Hue
namespace Rf
open PySem L2
theorem JM{ms:List Nat}{e:Nat×Nat}{a b:Nat}(ha:ms[e.1]?=some a)(hb:ms[e.2]?=some b):Hue.bring ms e=ms.map (D4 a b):=by
 have g1:ms.getD e.1 0=a:=by rw[SQ,ha];rfl
 have g2:ms.getD e.2 0=b:=by rw[SQ,hb];rfl
 unfold Hue.bring Hue.highO Hue.lowO;rw[g1,g2];rfl
noncomputable def OI(k:Nat):List Stm:=[(.loop (.nm 2) (.seq (.var 1)) [(.expr (.call k (.cons (.var 0) (.cons (.var 2) .nil))))]),(.ret (.tup (.cons (.ix (.var 0) (.c (.int 0))) (.cons (.bi .tuple (.cons (.comp ["tie"] ["web"] [0] (.nm 0) (.seq (.var 1)) .no (.ix (.ix (.var 1) (.c (.int 1))) (.var 0))) .nil)) .nil))))]
noncomputable def Ge(s:Sn):Prop:=∀{n k:Nat} {es:EE} {js:List Nat} {S:Sto} {Q:QE},S[k]?=some (.lst (natS js))->js.length<=1000->(∀ j∈js,j<es.length)->(∀(S':Sto),Gw S S'->Q (c5 n (js.map λj=>es.getD j (0,0))) S')->s [c5 n es,.loc k] S Q
theorem Ba{xs:List Nat}{i:Nat}{x:SV}(h:(natS xs)[i]?=some x):∃ j,xs[i]?=some j/\x = .int j:=by
 unfold natS at h;rw[SL]at h;cases hx:xs[i]? with
 | none=>rw[hx]at h;cases h
 | some j=>rw[hx]at h;exact⟨j,rfl,(oj h).symm⟩
theorem NX{Δ:Nat->Sn}(hΔ:∀ f,MonoN (Δ f)){kc:Nat}(hc:AY (Δ kc)){D:Df}(hb:D.body=OI kc)(hN:D.N.length=3)(hp:D.ps.length=2):Ge (i5 Δ D):=by
 intro n k es js S Q hk hl hj q;unfold i5;rw[hb,hN];refine⟨hp.symm,_,rfl,_,a6 hk,?_⟩;refine i0 (f7 hΔ _) (λi ρ S'=>∃ o,ρ=[some (c5 n es),some (.loc k),o]/\S'=S) ⟨none,rfl,rfl⟩ (λ_ _ _ ⟨_,_,h⟩=>by rw[h];exact rfl) ?_ ?_
 ·rintro i x ρ S' hx ⟨o,rfl,rfl⟩;obtain⟨j,hji,rfl⟩:=Ba hx;exact⟨_,rfl,_,rfl,hc (hj j (SB hji)) ⟨_,rfl,rfl⟩⟩
 ·rintro ρ S' ⟨o,rfl,rfl⟩;refine⟨_,rfl,_,_,rfl,rfl,_,rfl,_,a6 hk,?_⟩;refine c8 (c9 hΔ _).2 (a4 hΔ _).1 (λi ys S2=>S2=S'/\ys=((js.take i).map λj=>es.getD j (0,0)).map pairS) ⟨rfl,rfl⟩ (λ_ _ _ h=>by rw[h.1];exact rfl) ?_ ?_
  ·rintro i x ys S2 hx ⟨rfl,rfl⟩;obtain⟨j,hji,rfl⟩:=Ba hx;have hjl:=hj j (SB hji);have hil:=(gM hji).1;have he:=SC hjl;refine⟨_,rfl,_,_,rfl,rfl,_,rfl,_,pairS es[j],rfl,j5 (by rw[SL,he];rfl),?_⟩;refine⟨by rw[S7,S7,Sv];show _<100000;omega,rfl,?_⟩;rw[TX,hji,SM,SM]
   congr 1
   show[pairS es[j]]=[pairS (es.getD j (0,0))]
   rw[SQ,he];rfl
  ·rintro ys S2 ⟨rfl,rfl⟩;rw[j7,TH];exact⟨_,a6 c4,by show 2<=big;decide,q _ (Gw.refl S2).push⟩
noncomputable def FS(kt ko:Nat):List Stm:=[(.asg (.nm 2) (.call kt (.cons (.var 0) (.cons (.var 1) .nil)))),(.ret (.call ko (.cons (.var 0) (.cons (.comp ["tie"] ["around"] [2] (.nm 0) (.rng1 (.bi .len (.cons (.ix (.var 0) (.c (.int 1))) .nil))) (.yes (.cmp .NotIn (.var 0) (.var 1))) (.var 0)) .nil))))]
noncomputable def Bw(s:Sn):Prop:=∀{n p:Nat} {es:EE} {S:Sto} {Q:QE},es.length<=1000->p<n->(∀(S':Sto),Gw S S'->Q (c5 n (Hue.off p es)) S')->s [c5 n es,.int p] S Q
noncomputable def B9(es:EE)(p i:Nat):List Nat:=(SE i).filter λj=>!(match es[j]? with | some e=>decide (e.1=p)||decide (e.2=p) | none=>false)
theorem Gf(es:EE):(SE es.length).map (λj=>es.getD j (0,0))=es:=by
 apply V6
 ·simp
 ·intro i h1 h2;simp[SC h2]
theorem JN(es:EE)(p:Nat):(B9 es p es.length).map (λj=>es.getD j (0,0))=Hue.off p es:=by
 have e:B9 es p es.length=(SE es.length).filter ((λe:Nat×Nat=>!(decide (e.1=p)||decide (e.2=p)))∘λj=>es.getD j (0,0)):=by
  unfold B9;refine UU λj hj=>?_;have hj:=SX.mp hj;show _=!(decide ((es.getD j (0,0)).1=p)||decide ((es.getD j (0,0)).2=p));rw[SQ,SC hj];rfl
 rw[e,<-List.filter_map,Gf];rfl
theorem Lb(p:Nat)(xs:List Nat):inS (.int p) (natS xs)=decide (p∈xs):=by
 rw[TC,dQ];unfold inS natS;rw[V1,Tn];constructor
 ·rintro⟨a,ha,h⟩;have h:((a:Int) == (p:Int))=true:=h;rw[beq_iff_eq]at h;have:=T6.mp h;rw[<-this];exact ha
 ·intro h;exact⟨p,h,by show((p:Int) == (p:Int))=true;simp⟩
theorem Gg{Δ:Nat->Sn}(hΔ:∀ f,MonoN (Δ f)){kt ko:Nat}(ht:Av (Δ kt))(ho:Ge (Δ ko)){D:Df}(hb:D.body=FS kt ko)(hN:D.N.length=3)(hp:D.ps.length=2):Bw (i5 Δ D):=by
 intro n p es S Q hl hpn q;unfold i5;rw[hb,hN];refine⟨hp.symm,_,rfl,_,rfl,ht (by omega) hpn ?_⟩;have h1:(S++[SO.lst (natS (e5 es p es.length))])[S.length]?=some (.lst (natS (e5 es p es.length))):=c4;have G1:Gw S (S++[SO.lst (natS (e5 es p es.length))]):=(Gw.refl S).push;generalize S++[SO.lst (natS (e5 es p es.length))]=S1 at *;generalize S.length=l at *;refine⟨_,rfl,_,rfl,_,_,rfl,rfl,_,rfl,_,rfl,⟨by rw[S7];omega,by rw[S7];omega⟩,?_⟩;refine c8 (c9 hΔ _).2 (a4 hΔ _).1 (λi ys S2=>S2=S1/\ys=natS (B9 es p i)) ⟨rfl,rfl⟩ (λ_ _ _ _=>trivial) ?_ ?_
 ·rintro i x ys S2 hx ⟨rfl,rfl⟩;obtain⟨rfl,hi⟩:=i3 hx;rw[Tu]at hi ⊢;rw[S7]at hi;have hi:i<es.length:=by omega
  have he:=SC hi
  have hlen:(B9 es p i).length<=i:=by
   have:=Sy (λj=>!(match es[j]? with | some e=>decide (e.1=p)||decide (e.2=p) | none=>false)) (SE i);rw[T9]at this;exact this
  have hs:B9 es p (i+1)=B9 es p i++if (i∈e5 es p es.length) then [] else [i]:=by
   unfold B9;rw[TL,U0]
   congr 1
   rw[Sl,he]
   have hm:i∈e5 es p es.length↔(es[i].1=p\/es[i].2=p):=by
    rw[mem_tiesAt,he];exact⟨λ⟨e,z,y⟩=>by cases z;exact y,λy=>⟨_,rfl,y⟩⟩
   by_cases hc:es[i].1=p\/es[i].2=p
   ·rw[iP (hm.mpr hc),iG (by rcases hc with h | h<;>simp[h])];rfl
   ·rw[iG (λz=>hc (hm.mp z)),iP (by simpa using hc)];rfl
  refine⟨_,rfl,_,rfl,?_⟩;show match CQ (.loc l) S2 with | some ms=>_ | none=>_
  rw[FB h1];refine⟨rfl,_,a6 h1,DU _,_,rfl,?_⟩;show if (!inS (.int i) (natS (e5 es p es.length)))=true then _ else _
  rw[Lb];by_cases hm:i∈e5 es p es.length
  ·rw[iP hm,Su]at hs;exact ifF (by simpa using hm) ⟨rfl,by rw[hs]⟩
  ·rw[iG hm]at hs;exact ifT (by simpa using hm) ⟨_,rfl,by rw[j7];show _<100000;omega,rfl,by rw[hs,AS];rfl⟩
 ·rintro ys S2 ⟨rfl,rfl⟩;have e:(Ao 0 ((es.map pairS).length:Int)).length=es.length:=by rw[i4,S7];omega
  rw[e]
  have hle:(B9 es p es.length).length<=es.length:=by
   have:=Sy (λj=>!(match es[j]? with | some e=>decide (e.1=p)||decide (e.2=p) | none=>false)) (SE es.length);rw[T9]at this;exact this
  refine ho c4 (by omega) (λj hj=>?_) λS3 G3=>?_
  ·unfold B9 at hj;exact SX.mp (Sm.mp hj).1
  ·rw[JN];exact q S3 (G1.push.trans G3)
structure WebC(n:Nat)(es:EE):Prop where
 en:∀ e∈es,e.1<e.2/\e.2<n
 len:es.length<=400
 few:n<=100
theorem NY(x:Nat)(es:EE):(Hue.off x es).length<=es.length:=Sy _ _
end Rf
namespace Hue
noncomputable def oth(e:Nat×Nat)(x:Nat):Nat:=if e.1=x then e.2 else e.1
noncomputable def sg(n:Nat)(es:EE)(x:Nat)(e:Nat×Nat):Nat:=mk n (off x es) (oth e x)
noncomputable def Adj(es:EE)(p q:Nat):Prop:=∃ e∈es,(e.1=p/\e.2=q)\/(e.1=q/\e.2=p)
noncomputable def Ch(es:EE):Nat->List Nat->Prop
 | _,[]=>True
 | p,q::l=>Adj es p q/\Ch es q l
noncomputable def Ac:Nat->List Nat->Nat
 | p,[]=>p
 | _,q::l=>Ac q l
theorem DW:∀(l:List Nat) (p:Nat),Ac p l∈p::l
 | [],p=>SI ..
 | q::l,p=>SG _ (DW l q)
theorem Lh{es:EE}{a:Nat}:∀(l:List Nat) (b:Nat),Ch es b l->(b::l).Nodup->a∈b::l->∃ l',Ch es a l'/\Ac a l'=Ac b l/\(a::l').Nodup
 | [],b,_,_,h=>by
   have:a=b:=by simpa using h
   subst this;exact⟨[],True.intro,rfl,by simp⟩
 | q::l,b,c,nd,h=>by
   rcases SU.mp h with rfl | h
   ·exact⟨q::l,c,rfl,nd⟩
   ·exact Lh l q c.2 (TK.mp nd).2 h
section
variable{n:Nat}{es:EE}(hn:∀ e∈es,e.1<n/\e.2<n)
include hn
theorem E5{e:Nat×Nat}{x p:Nat}(he:e∈es)(hp:e.1=p\/e.2=p)(ne:p≠x):sg n es x e=mk n (off x es) p:=by
 unfold sg oth;split
 ·rename_i h;rcases hp with hp | hp
  ·exact absurd (hp.symm.trans h) ne
  ·rw[hp]
 ·rename_i h;rcases hp with hp | hp
  ·rw[hp]
  ·rw[<-hp];exact mk_ends (off_hn hn) e (off_mem.mpr ⟨he,h,λz=>ne (hp.symm.trans z)⟩)
theorem NZ{p q:Nat}(hp:p<n)(hq:q<n)(h:mk n es p=mk n es q):∃ l,Ch es p l/\Ac p l=q/\(p::l).Nodup:=by
 have st:∀ a b,Adj es a b->(∃ l,Ch es b l/\Ac b l=q/\(b::l).Nodup)->∃ l,Ch es a l/\Ac a l=q/\(a::l).Nodup:=by
  rintro a b ad ⟨l,c,e,nd⟩;by_cases ha:a∈b::l
  ·obtain⟨l',c',e',nd'⟩:=Lh l b c nd ha;exact⟨l',c',e'.trans e,nd'⟩
  ·exact⟨b::l,⟨ad,c⟩,e,TK.mpr ⟨ha,nd⟩⟩
 refine(E3 hn (C:=λr=>∃ l,Ch es r l/\Ac r l=q/\(r::l).Nodup) (λe he=>⟨st _ _ ⟨e,he,.inr ⟨rfl,rfl⟩⟩,st _ _ ⟨e,he,.inl ⟨rfl,rfl⟩⟩⟩) hp hq h).mpr ⟨[],True.intro,rfl,by simp⟩
theorem OJ{v:Nat}:∀(l:List Nat) (a:Nat),Ch es a l->v∉a::l->mk n (off v es) a=mk n (off v es) (Ac a l)
 | [],_,_,_=>rfl
 | b::l,a,⟨⟨e,he,ad⟩,c⟩,h=>by
   have h1:a≠v:=λz=>h (z▸SI ..);have h2:v∉b::l:=λz=>h (SG _ z);have h3:b≠v:=λz=>h2 (z▸SI ..);have ih:=OJ l b c h2;show mk n (off v es) a=mk n (off v es) (Ac b l);rw[<-ih];rcases ad with⟨rfl,rfl⟩ | ⟨rfl,rfl⟩
   ·exact mk_ends (off_hn hn) e (off_mem.mpr ⟨he,h1,h3⟩)
   ·exact(mk_ends (off_hn hn) e (off_mem.mpr ⟨he,h3,h1⟩)).symm
end
structure Cps(n:Nat)(es cs:EE):Prop where
 up:∀ c∈cs,c.1<c.2/\c.2<es.length
 so:∀ c∈cs,∃ v e f,es[c.1]?=some e/\es[c.2]?=some f/\(e.1=v\/e.2=v)/\(f.1=v\/f.2=v)/\sg n es v e=sg n es v f
 co:∀ t u e f v,v<n->es[t]?=some e->es[u]?=some f->(e.1=v\/e.2=v)->(f.1=v\/f.2=v)->sg n es v e=sg n es v f->mk es.length cs t=mk es.length cs u
noncomputable def FT(n:Nat)(es:EE)(t u:Nat):Prop:=∀ e f,es[t]?=some e->es[u]?=some f->∀ x,x<n->sg n es x e=sg n es x f
section
variable{n:Nat}{es cs:EE}(hn:∀ e∈es,e.1<n/\e.2<n)(H:Cps n es cs)
include hn H
theorem Cps.hn':∀ c∈cs,c.1<es.length/\c.2<es.length:=λc hc=>let ⟨a,b⟩:=H.up c hc;⟨Tz a b,b⟩
theorem Li{t u:Nat}(ht:t<es.length)(hu:u<es.length)(h:mk es.length cs t=mk es.length cs u):FT n es t u:=by
 intro e f he hf x hx;have:=(E3 (H.hn' hn) (C:=λr=>∀ g,es[r]?=some g->sg n es x g=sg n es x f) (λc hc=>?_) ht hu h).mpr (λg hg=>by rw[hf]at hg;cases hg;rfl)
 ·exact this e he
 ·obtain⟨v,e1,f1,h1,h2,h3,h4,h5⟩:=H.so c hc
  have key:sg n es x e1=sg n es x f1:=by
   by_cases hxv:v=x
   ·rw[<-hxv];exact h5
   ·rw[E5 hn (SB h1) h3 hxv,E5 hn (SB h2) h4 hxv]
  constructor
  ·intro z g hg;rw[h2]at hg;cases hg;rw[<-key];exact z e1 h1
  ·intro z g hg;rw[h1]at hg;cases hg;rw[key];exact z f1 h2
theorem FU{u q:Nat}{f:Nat×Nat}(hf:es[u]?=some f)(hq:f.1=q\/f.2=q):∀(l:List Nat) (p t:Nat) (e:Nat×Nat),es[t]?=some e->(e.1=p\/e.2=p)->Ch es p l->(p::l).Nodup->Ac p l=q->FT n es t u->mk es.length cs t=mk es.length cs u
 | [],p,t,e,he,hp,_,_,hl,hs=>by
   have hl:p=q:=hl;subst hl;have pn:p<n:=by have:=hn e (SB he);rcases hp with rfl | rfl<;>omega
   exact H.co t u e f p pn he hf hp hq (hs e f he hf p pn)
 | b::l,p,t,e,he,hp,⟨⟨g,hg,ad⟩,c⟩,nd,hl,hs=>by
   have pn:p<n:=by have:=hn e (SB he);rcases hp with rfl | rfl<;>omega
   have nd':=TK.mp nd;have hl:Ac b l=q:=hl;obtain⟨j,hj⟩:=TB hg;have bp:b≠p:=λz=>nd'.1 (z▸SI ..);have qp:q≠p:=λz=>nd'.1 (by rw[<-z,<-hl];exact DW l b);have gp:g.1=p\/g.2=p:=ad.elim (λh => .inl h.1) λh => .inr h.2;have gb:g.1=b\/g.2=b:=ad.elim (λh => .inr h.2) λh => .inl h.1
   have e1:sg n es p e=sg n es p g:=by
    rw[hs e f he hf p pn,E5 hn (SB hf) hq qp,E5 hn hg gb bp,<-hl];exact(OJ hn l b c nd'.1).symm
   have r1:=H.co t j e g p pn he hj hp gp e1;have jl:=(gM hj).1;have tl:=(gM he).1;have s1:=Li hn H tl jl r1;rw[r1];refine FU hf hq l b j g hj gb c nd'.2 hl λg' f' hg' hf' x hx=>?_;rw[<-s1 e g' he hg' x hx];exact hs e f' he hf' x hx
theorem blk_iff{t u:Nat}(ht:t<es.length)(hu:u<es.length):mk es.length cs t=mk es.length cs u↔FT n es t u:=by
 refine⟨Li hn H ht hu,λhs=>?_⟩;have he:=SC ht;have hf:=SC hu;generalize es[t]=e at he;generalize es[u]=f at hf;have b1:=hn e (SB he);have b2:=hn f (SB hf);have h0:=hs e f he hf 0 (by omega);have o1:e.1=oth e 0\/e.2=oth e 0:=by unfold oth;split<;>simp
 have o2:f.1=oth f 0\/f.2=oth f 0:=by unfold oth;split<;>simp
 have l1:oth e 0<n:=by rcases o1 with z | z<;>omega
 have l2:oth f 0<n:=by rcases o2 with z | z<;>omega
 obtain⟨l,c,el,nd⟩:=NZ hn l1 l2 (NW hn l1 l2 h0);exact FU hn H hf o2 l _ t e he o1 c nd el hs
end
end Hue
namespace Rf
open PySem L2
theorem v6(P:Nat->Bool)(i:Nat):(SE (i+1)).filter P=(SE i).filter P++if P i=true then [i] else []:=by
 rw[TL,U0,Sl];cases P i<;>rfl
theorem t3(P:Nat->Bool)(i:Nat):((SE i).filter P).length<=i:=by
 have:=Sy P (SE i)
 rwa [T9]at this
noncomputable def rootsL(m:Nat->Nat)(n:Nat):List Nat:=(SE n).filter λf=>decide (m f=f)
noncomputable def clsF(m:Nat->Nat)(n f:Nat):List Nat:=(SE n).filter λt=>decide (m t=f)
structure Cls(S:Sto)(l:Nat)(ls:List Nat)(cs:List (List Nat)):Prop where
 top:S[l]?=some (.lst (ls.map SV.loc))
 len:ls.length=cs.length
 row:∀(i k:Nat) (c:List Nat),ls[i]?=some k->cs[i]?=some c->S[k]?=some (.lst (natS c))
noncomputable def Ax(m:Nat->Nat)(n:Nat):List (List Nat):=(rootsL m n).map (clsF m n)
noncomputable def Bb(s:Sn):Prop:=∀{n:Nat} {es:EE} {S:Sto} {Q:QE},(∀ e∈es,e.1<e.2/\e.2<n)->es.length<=1000->n<=1000->
 (∀(l:Nat) (ls:List Nat) (S':Sto),Gw S S'->S.length<=l->Cls S' l ls (Ax (Hue.mk n es) n)->ls.Pairwise (·<·)->(∀ k∈ls,S.length<=k/\k<l)->Q (.loc l) S')->s [c5 n es] S Q
theorem C7{α:Type}{xs:List α}{a b:α}{j:Nat}(h:(xs++[a])[j]?=some b):(j=xs.length/\b=a)\/xs[j]?=some b:=by
 rcases Uy j xs.length with z | z
 ·rw[SY z]at h;exact .inr h
 ·have e:j=xs.length:=by
   have:=(gM h).1;rw[SA,Sr]at this;omega
  subst e;rw[So (SK _),Nat.sub_self]at h;cases h;exact .inl ⟨rfl,rfl⟩
structure RwsTo(S0 S:Sto)(ls:List Nat)(cs:List (List Nat)):Prop where
 len:ls.length=cs.length
 row:∀(i k:Nat) (c:List Nat),ls[i]?=some k->cs[i]?=some c->S[k]?=some (.lst (natS c))
 up:ls.Pairwise (·<·)
 new:∀ k∈ls,S0.length<=k/\k<S.length
theorem RwsTo.nil(S0 S:Sto):RwsTo S0 S [] []:=⟨rfl,λi k c h=>by simp at h,.nil,λ_ h=>nomatch h⟩
theorem RwsTo.push{S0 S:Sto}{ls:List Nat}{cs:List (List Nat)}(h:RwsTo S0 S ls cs)(hS:S0.length<=S.length)(c:List Nat):RwsTo S0 (S++[.lst (natS c)]) (ls++[S.length]) (cs++[c]):=by
 refine⟨by rw[SA,SA,h.len];rfl,λi k c' h1 h2=>?_,?_,λk hk=>?_⟩
 ·rcases C7 h1 with⟨e1,rfl⟩ | h1
  ·rcases C7 h2 with⟨_,rfl⟩ | h2
   ·exact c4
   ·have:=(gM h2).1;have:=h.len;omega
  ·rcases C7 h2 with⟨e,_⟩ | h2
   ·have:=(gM h1).1;have:=h.len;omega
   ·exact f6 (h.row i k c' h1 h2)
 ·rw[Uj];exact⟨h.up,by simp,λa ha b hb=>by rw[Sd.mp hb];exact(h.new a ha).2⟩
 ·rw[SA,Sr];rcases Sg.mp hk with hk | hk
  ·have:=h.new k hk;omega
  ·rw[Sd.mp hk];omega
theorem Gh{Δ:Nat->Sn}(hΔ:∀ f,MonoN (Δ f)){n k:Nat}{es:EE}{S0 S:Sto}{Q:QE}{ms:List Nat}{o2 o3 o4 o5:Option SV}(hn:n<=1000)(hm:ms.length=n)(G:Gw S0 S)(hk:S[k]?=some (.lst (natS ms)))
 (q:∀(l:Nat) (ls:List Nat) (S':Sto),Gw S0 S'->S0.length<=l->Cls S' l ls (Ax (λp=>ms.getD p 0) n)->ls.Pairwise (·<·)->(∀ k∈ls,S0.length<=k/\k<l)->Q (.loc l) S'):wSs Δ [g3'] (l6 Q) [some (c5 n es),some (.loc k),o2,o3,o4,o5] S:=by
 refine⟨_,rfl,_,_,rfl,rfl,_,rfl,⟨by omega,by omega⟩,?_⟩;refine c8 (c9 hΔ _).2 (a4 hΔ _).1 (λi ys S'=>Gw S S'/\∃ ls:List Nat,ys=ls.map SV.loc/\RwsTo S0 S' ls ((rootsL (λp=>ms.getD p 0) i).map (clsF (λp=>ms.getD p 0) n))) ⟨Gw.refl S,[],rfl,RwsTo.nil S0 S⟩ (λ_ _ _ _=>trivial) ?_ ?_
 ·rintro i x ys S' hx ⟨G',ls,rfl,R⟩;obtain⟨rfl,hi⟩:=i3 hx;rw[Tu]at hi ⊢;have hil:i<ms.length:=by rw[hm];omega
  have hmi:=SC hil;have hg:ms.getD i 0=ms[i]:=by rw[SQ,hmi];rfl
  have hs:rootsL (λp=>ms.getD p 0) (i+1)=rootsL (λp=>ms.getD p 0) i++if ms[i]=i then [i] else []:=by
   unfold rootsL;rw[v6];simp only[hg,dQ]
  have hle:ls.length<=i:=by rw[R.len,S7];exact t3 _ _
  refine⟨_,rfl,_,rfl,_,_,a6 (G'.keep _ _ hk),j5 (m8 hmi),_,rfl,_,rfl,ifD (λh=>?_) (λh=>?_)⟩
  ·have h:ms[i]=i:=T6.mp h;rw[iP h]at hs;refine⟨_,rfl,_,_,rfl,rfl,_,rfl,⟨by omega,by omega⟩,?_⟩;refine c8 (c9 hΔ _).2 (a4 hΔ _).1 (λj zs S2=>S2=S'/\zs=natS (clsF (λp=>ms.getD p 0) j i)) ⟨rfl,rfl⟩ (λ_ _ _ _=>trivial) ?_ ?_
   ·rintro j y zs S2 hy ⟨rfl,rfl⟩;obtain⟨rfl,hj⟩:=i3 hy;rw[Tu]at hj ⊢;have hjl:j<ms.length:=by rw[hm];omega
    have hmj:=SC hjl;have hgj:ms.getD j 0=ms[j]:=by rw[SQ,hmj];rfl
    have hc:clsF (λp=>ms.getD p 0) (j+1) i=clsF (λp=>ms.getD p 0) j i++if ms[j]=i then [j] else []:=by
     unfold clsF;rw[v6];simp only[hgj,dQ]
    have hcl:(clsF (λp=>ms.getD p 0) j i).length<=j:=t3 _ _;refine⟨_,rfl,_,rfl,_,_,a6 (G'.keep _ _ hk),j5 (m8 hmj),_,rfl,_,rfl,ifD (λh=>?_) (λh=>⟨rfl,?_⟩)⟩
    ·have h:ms[j]=i:=T6.mp h;rw[iP h]at hc;exact⟨_,rfl,by rw[j7];show _<100000;omega,rfl,by rw[hc,AS];rfl⟩
    ·have h:¬ ms[j]=i:=λz=>h (congrArg _ z);rw[iG h,Su]at hc;rw[hc]
   ·rintro zs S2 ⟨rfl,rfl⟩;rw[i4];refine⟨by rw[S7];show _<100000;omega,G'.push,ls++[S2.length],by rw[SM];rfl,?_⟩;rw[hs,SM];exact R.push (Sj G.len G'.len) _
  ·have h:¬ ms[i]=i:=λz=>h (congrArg _ z);rw[iG h,Su]at hs;exact⟨G',ls,rfl,by rw[hs];exact R⟩
 ·rintro ys S' ⟨G',ls,rfl,R⟩;rw[i4]at R;exact q _ ls _ (G.trans G').push (G.trans G').len ⟨c4,R.len,λi k c a b=>f6 (R.row i k c a b)⟩ R.up R.new
theorem JO{Δ:Nat->Sn}(hΔ:∀ f,MonoN (Δ f)){D:Df}(hb:D.body=LU)(hN:D.N.length=6)(hp:D.ps.length=1):Bb (i5 Δ D):=by
 intro n es S Q hen hel hn q;unfold i5;rw[hb,hN];refine⟨hp.symm,_,rfl,_,_,rfl,rfl,_,rfl,⟨by omega,by omega⟩,?_⟩;rw[NT];refine⟨_,rfl,_,_,rfl,rfl,_,rfl,?_⟩
 refine i0 (f7 hΔ _) (λi ρ S'=>∃(ms:List Nat) (k:Nat) (o2 o3 o4 o5:Option SV),ρ=[some (c5 n es),some (.loc k),o2,o3,o4,o5]/\ms=(es.take i).foldl Hue.bring (SE n)/\ms.length=n/\Gw S S'/\S'[k]?=some (.lst (natS ms)))
  ⟨SE n,S.length,none,none,none,none,rfl,rfl,T9,(Gw.refl S).push,c4⟩ (λ_ _ _ _=>trivial) ?_ ?_
 ·rintro i x ρ S' hx ⟨ms,k,o2,o3,o4,o5,rfl,e0,hm,G,hk⟩;obtain⟨e,he,rfl⟩:=v5 hx;have hee:=hen e (SB he);have h1:=SC (show e.1<ms.length by rw[hm];omega);have h2:=SC (show e.2<ms.length by rw[hm];omega);generalize ms[e.1]'(by rw[hm];omega)=a at *;generalize ms[e.2]'(by rw[hm];omega)=b at *
  have e1:ms.map (D4 a b)=(es.take (i+1)).foldl Hue.bring (SE n):=by
   rw[<-JM h1 h2,TX,he,UT,<-e0];rfl
  refine⟨_,rfl,_,rfl,_,_,a6 hk,j5 (m8 h1),_,rfl,_,rfl,_,_,a6 hk,j5 (m8 h2),⟨_,rfl,_,rfl,_,_,a6 hk,j5 (m8 h1),_,rfl,_,rfl,_,_,a6 hk,j5 (m8 h2),LV hΔ (E2 a b) (Hw a b) (by rw[hm];exact hn) hk ?_⟩⟩;exact⟨_,_,_,_,_,_,rfl,e1,by rw[S7,hm],G.push,c4⟩
 ·rintro ρ S' ⟨ms,k,o2,o3,o4,o5,rfl,e0,hm,G,hk⟩;rw[S7,TH]at e0;exact Gh hΔ hn hm G hk λl ls S2 h1 h0 h2 h3 h4=>q l ls S2 h1 h0 (by rw[e0]at h2;exact h2) h3 h4
theorem E6{k:Nat}{S:Sto}{kvs:List (Int×SV)}(h:S[k]?=some (.dct kvs)):Ke (.loc k) S=some kvs:=by simp only[Ke,h]
noncomputable def kvL(ks:List Nat)(L:Nat->Nat):List (Int×SV):=ks.map λ(p:Nat)=>((p:Int),SV.int (L p))
theorem E7:∀{ks:List Nat} {L:Nat->Nat} {i:Nat},i∈ks->Dr (kvL ks L) i=some (.int (L i))
 | k::ks,L,i,h=>by
   unfold Dr kvL;rw[Sk,TF];by_cases hk:k=i
   ·subst hk;simp
   ·have hk':¬ ((k:Int)=(i:Int)):=λz=>hk (T6.mp z);rw[decide_eq_false hk'];rcases SU.mp h with h | h
    ·exact absurd h.symm hk
    ·exact E7 h
theorem Lj{ks:List Nat}{L:Nat->Nat}{i v:Nat}(h:i∈ks):y0 (kvL ks L) i (.int v)=kvL ks λp=>if p=i then v else L p:=by
 unfold y0 kvL;rw[iP (by rw[V1,Tn];exact⟨i,h,by simp⟩),UO];refine U9 λp _=>?_;show(if (p:Int)=i then ((p:Int),SV.int v) else ((p:Int),SV.int (L p)))=((p:Int),SV.int ((if p=i then v else L p:Nat):Int))
 by_cases hp:p=i
 ·subst hp;rw[iP rfl,iP rfl]
 ·rw[iG (λz=>hp (T6.mp z)),iG hp]
theorem Gi{ks:List Nat}{L:Nat->Nat}:(kvL ks L).length=ks.length:=by unfold kvL;rw[S7]
theorem DX:∀(more acc:List (Int×SV)),((acc++more).map (·.1)).Nodup->more.foldl (λacc p=>y0 acc p.1 p.2) acc=acc++more
 | [],acc,_=>by simp
 | p::more,acc,h=>by
   have fresh:¬ (acc.any λq=>decide (q.1=p.1))=true:=by
    rw[Tn];rintro⟨q,hq,e⟩;rw[SM,Sk,UD]at h;exact h.2.2 q.1 (Te.mpr ⟨q,hq,rfl⟩) p.1 (SI ..) (of_decide_eq_true e)
   show more.foldl (λacc p=>y0 acc p.1 p.2) (y0 acc p.1 p.2)=_;have e:y0 acc p.1 p.2=acc++[p]:=by unfold y0;rw[iG fresh]
   rw[e,DX more (acc++[p]) (by simpa using h)];simp
theorem Lk{ks:List Nat}{L:Nat->Nat}(nd:ks.Nodup):HV (kvL ks L)=kvL ks L:=by
 unfold HV;rw[DX _ [] ?_]
 ·rfl
 ·unfold kvL;rw[UK,UO];exact List.Pairwise.map _ (λa b (h:a≠b) (z:(a:Int)=(b:Int))=>h (T6.mp z)) nd
noncomputable def keysI(z:Int)(i:Nat):List Nat:=(SE i).filter λp=>!decide ((p:Int)=z)
noncomputable def D5(z:Int)(es:EE):EE:=es.filter λe=>!(decide ((e.1:Int)=z)||decide ((e.2:Int)=z))
theorem Gj(z:Int)(i:Nat):keysI z (i+1)=keysI z i++if (i:Int)=z then [] else [i]:=by
 unfold keysI;rw[TL,U0]
 congr 1
 rw[Sl];by_cases h:(i:Int)=z
 ·rw[iP h,iG (by simpa using h)];rfl
 ·rw[iG h,iP (by simpa using h)];rfl
theorem Bx(z:Int)(i:Nat):(keysI z i).length<=i:=by
 have:=Sy (λp:Nat=>!decide ((p:Int)=z)) (SE i);rw[T9]at this;exact this
theorem Ll(z:Int)(i:Nat):(keysI z i).Nodup:=UI.filter _
theorem mem_keysI{z:Int}{i p:Nat}:p∈keysI z i↔p<i/\(p:Int)≠z:=by
 unfold keysI;rw[Sm,SX];simp
theorem offI_mem{z:Int}{es:EE}{e:Nat×Nat}:e∈D5 z es↔e∈es/\(e.1:Int)≠z/\(e.2:Int)≠z:=by
 unfold D5;rw[Sm];simp
theorem Lm(x:Nat)(es:EE):D5 x es=Hue.off x es:=by
 unfold D5 Hue.off;refine UU λe _=>?_;have k:∀ a:Nat,decide ((a:Int)=(x:Int))=decide (a=x):=λa=>by rw[decide_eq_decide];exact T6
 rw[k,k]
noncomputable def C8(z:Int)(L:Nat->Nat)(e:Nat×Nat):Nat->Nat:=if (e.1:Int)=z\/(e.2:Int)=z then L else Hue.dn L e
theorem Cs(z:Int):∀(es:EE) (L:Nat->Nat),es.foldl (C8 z) L=Hue.dnR (D5 z es) L
 | [],_=>rfl
 | e::es,L=>by
   have ih:=Cs z es;show es.foldl (C8 z) (C8 z L e)=_;rw[ih];unfold D5 C8;rw[Sl];by_cases h:(e.1:Int)=z\/(e.2:Int)=z
   ·rw[iP h,iG (by rcases h with h | h<;>simp[h])]
   ·rw[iG h,iP (by simpa using h)];rfl
noncomputable def bsA:Stm:=(.asg (.nm 2) (.dctl (.comp ["_law_place"] ["_law_out"] [1] (.nm 0) (.rng1 (.ix (.var 0) (.c (.int 0)))) (.yes (.cmp .NotEq (.var 0) (.var 1))) (.tup (.cons (.var 0) (.cons (.var 0) .nil))))))
noncomputable def bsI:Stm:=(.iff (.cmp .NotIn (.var 1) (.tup (.cons (.var 4) (.cons (.var 5) .nil)))) [(.asg (.nm 6) (.bi .min (.cons (.dget (.var 2) (.var 4)) (.cons (.dget (.var 2) (.var 5)) .nil)))),(.dput (.var 2) (.var 4) (.var 6)),(.dput (.var 2) (.var 5) (.var 6))] [])
noncomputable def bsL:Stm:=(.loop (.tup (.cons (.nm 4) (.cons (.nm 5) .nil))) (.seq (.ix (.var 0) (.c (.int 1)))) [bsI])
noncomputable def bsR:Stm:=(.loop (.nm 3) (.rng1 (.ix (.var 0) (.c (.int 0)))) [bsL])
noncomputable def Hx:List Stm:=[bsA,bsR,(.ret (.var 2))]
theorem Ln(z:Int)(e:Nat×Nat):inS (.int z) [.int e.1,.int e.2]=(decide ((e.1:Int)=z)||decide ((e.2:Int)=z)):=by
 have k:∀ a:Int,(a == z)=decide (a=z):=λa=>by rw[TC];simp
 unfold inS;simp only[TU,V3,Ul,eqF,k]
section
variable{Δ:Nat->Sn}
theorem FV{D:EndsS}{m:Nat}{z:Int}{e:Nat×Nat}{ks:List Nat}{L:Nat->Nat}{S0 S:Sto}{w:SV}{o3 o6:Option SV}(hm:S[m]?=some (.dct (kvL ks L)))(hk:ks.length<=1000)(he:(e.1:Int)≠z->(e.2:Int)≠z->e.1∈ks/\e.2∈ks)(G:Gw S0 S)(hS:S0.length<=m)
 (q:∀(o6:Option SV) (S':Sto),S'[m]?=some (.dct (kvL ks (C8 z L e)))->Gw S0 S'->D.nx [some w,some (.int z),some (.loc m),o3,some (.int e.1),some (.int e.2),o6] S'):
 wSs Δ [bsI] D [some w,some (.int z),some (.loc m),o3,some (.int e.1),some (.int e.2),o6] S:=by
 refine⟨_,rfl,_,rfl,_,rfl,by show 2<=big;decide,rfl,_,rfl,rfl,_,rfl,?_⟩;show if (!inS (.int z) [.int e.1,.int e.2])=true then _ else _
 rw[Ln];by_cases h:(e.1:Int)=z\/(e.2:Int)=z
 ·refine ifF (by rcases h with h | h<;>simp[h]) (q _ S ?_ G);unfold C8;rw[iP h];exact hm
 ·have h1:(e.1:Int)≠z:=λy=>h (.inl y);have h2:(e.2:Int)≠z:=λy=>h (.inr y);obtain⟨m1,m2⟩:=he h1 h2;have kb:∀ L,(kvL ks L).length<big:=λL=>by rw[Gi];show _<100000;omega
  refine ifT (by simp[h1,h2]) ?_;refine⟨_,rfl,_,rfl,_,_,_,E6 hm,rfl,E7 m1,_,rfl,_,rfl,_,_,_,E6 hm,rfl,E7 m2,?_⟩
  have key:∀ v:Int,v=((min (L e.1) (L e.2):Nat):Int)->wSs Δ [(.dput (.var 2) (.var 4) (.var 6)),(.dput (.var 2) (.var 5) (.var 6))] D [some w,some (.int z),some (.loc m),o3,some (.int e.1),some (.int e.2),some (.int v)] S:=by
   rintro _ rfl;refine⟨_,rfl,_,rfl,_,rfl,_,_,_,rfl,rfl,.inl hm,kb _,?_⟩;rw[Lj m1];refine⟨_,rfl,_,rfl,_,rfl,_,_,_,rfl,rfl,.inl (l7 hm),kb _,?_⟩;rw[Lj m2];refine q _ _ ?_ ((G.put hS).put hS);rw[l7 (l7 hm)];unfold C8;rw[iG h];rfl
  exact key _ (E2 _ _)
noncomputable def Bc(s:Sn):Prop:=∀{n:Nat} {es:EE} {z:Int} {S:Sto} {Q:QE},WebC n es->(∀(l:Nat) (S':Sto),Gw S S'->S.length<=l->S'[l]?=some (.dct (kvL (keysI z n) (Hue.mk n (D5 z es))))->Q (.loc l) S')->s [c5 n es,.int z] S Q
theorem D6(hΔ:∀ f,MonoN (Δ f)){n m:Nat}{es:EE}{z:Int}{S0 S:Sto}{Q:QE}(H:WebC n es)(hm:S[m]?=some (.dct (kvL (keysI z n) λp=>p)))(G:Gw S0 S)(hS:S0.length<=m)
 (q:∀(S':Sto),Gw S0 S'->S'[m]?=some (.dct (kvL (keysI z n) (Hue.mk n (D5 z es))))->Q (.loc m) S'):wSs Δ [bsR,(.ret (.var 2))] (l6 Q) [some (c5 n es),some (.int z),some (.loc m),none,none,none,none] S:=by
 have hf:=H.few;have hkl:(keysI z n).length<=1000:=by have:=Bx z n;omega
 refine⟨_,rfl,_,_,rfl,rfl,_,rfl,⟨by omega,by omega⟩,?_⟩;refine i0 (f7 hΔ _) (λi ρ S'=>∃ o3 o4 o5 o6,ρ=[some (c5 n es),some (.int z),some (.loc m),o3,o4,o5,o6]/\Gw S0 S'/\S'[m]?=some (.dct (kvL (keysI z n) (Hue.dnN (D5 z es) i λp=>p)))) ⟨none,none,none,none,rfl,G,hm⟩ (λ_ _ _ _=>trivial) ?_ ?_
 ·rintro i x ρ S1 hx ⟨o3,o4,o5,o6,rfl,G1,h1⟩;refine⟨_,rfl,_,_,rfl,rfl,_,rfl,?_⟩;refine i0 (f7 hΔ _) (λj ρ S'=>∃ o4 o5 o6,ρ=[some (c5 n es),some (.int z),some (.loc m),some x,o4,o5,o6]/\Gw S0 S'/\S'[m]?=some (.dct (kvL (keysI z n) ((es.take j).foldl (C8 z) (Hue.dnN (D5 z es) i λp=>p))))) ⟨o4,o5,o6,rfl,G1,h1⟩ (λ_ _ _ _=>trivial) ?_ ?_
  ·rintro j y ρ S2 hy ⟨p4,p5,p6,rfl,G2,h2⟩;obtain⟨e,he,rfl⟩:=v5 hy;have hee:=H.en e (SB he);refine FV h2 hkl (λn1 n2=>⟨mem_keysI.mpr ⟨by omega,n1⟩,mem_keysI.mpr ⟨by omega,n2⟩⟩) G2 hS λo6 S3 h3 G3=>⟨_,_,_,rfl,G3,?_⟩
   rw[TX,he,UT];exact h3
  ·rintro ρ S2 ⟨p4,p5,p6,rfl,G2,h2⟩;rw[S7,TH,Cs]at h2;exact⟨_,_,_,_,rfl,G2,h2⟩
 ·rintro ρ S1 ⟨o3,o4,o5,o6,rfl,G1,h1⟩;rw[i4,show((n:Int) - 0).toNat=n by omega]at h1;refine⟨_,rfl,q S1 G1 ?_⟩;rw[h1]
  congr 2
  unfold kvL;refine U9 λp hp=>?_;rw[Hue.dn_marks (λe he=>?_) (mem_keysI.mp hp).1];have:=H.en e (offI_mem.mp he).1;exact⟨by omega,by omega⟩
theorem JP(hΔ:∀ f,MonoN (Δ f)){D:Df}(hb:D.body=Hx)(hN:D.N.length=7)(hp:D.ps.length=2):Bc (i5 Δ D):=by
 intro n es z S Q H q;have hf:=H.few;unfold i5;rw[hb,hN];refine⟨hp.symm,_,rfl,_,_,rfl,rfl,_,rfl,⟨by omega,by omega⟩,?_⟩;refine c8 (c9 hΔ _).2 (a4 hΔ _).1 (λi ys S2=>S2=S/\ys=(kvL (keysI z i) λp=>p).map λp=>SV.tup [.int p.1,p.2]) ⟨rfl,by simp[keysI,kvL]⟩ (λ_ _ _ _=>trivial) ?_ ?_
 ·rintro i x ys S2 hx ⟨rfl,rfl⟩;obtain⟨rfl,hi⟩:=i3 hx;rw[Tu]at hi ⊢;have hs:=Gj z i;have hkl:=Bx z i;refine⟨_,rfl,_,rfl,_,rfl,?_⟩;show if (!((i:Int) == z))=true then _ else _
  by_cases h:(i:Int)=z
  ·rw[iP h,Su]at hs;exact ifF (by simp[h]) ⟨rfl,by rw[hs]⟩
  ·rw[iG h]at hs;refine ifT (by simp[h]) ⟨_,rfl,_,rfl,by show 2<=big;decide,by rw[S7,Gi];show _<100000;omega,rfl,?_⟩;rw[hs];unfold kvL;rw[SM,SM];rfl
 ·rintro ys S2 ⟨rfl,rfl⟩;rw[i4,show((n:Int) - 0).toNat=n by omega];have hkl:=Bx z n;refine⟨_,_,rfl,c4,by rw[Gi];omega,?_⟩;rw[Lk (Ll z n)];refine D6 hΔ H c4 (Gw.refl S2).push.push (by rw[SA];omega) λS' G h=>q _ S' G (by rw[SA];omega) h
theorem FW{α:Type}{P:α->Bool}{xs:List α}{j:Nat}{x:α}(h:xs[j]?=some x):(xs.take (j+1)).filter P=(xs.take j).filter P++if P x=true then [x] else []:=by
 rw[TX,h,U0]
 congr 1
 show List.filter P [x]=_;rw[Sl];rfl
structure WebK(n:Nat)(es:EE):Prop where
 en:∀ e∈es,e.1<e.2/\e.2<n
 len:es.length<=100
 few:n<=31
noncomputable def OK(kd kw:Nat):List Stm:=[(.ret (.call kw (.cons (.var 0) (.cons (.cmp .Eq (.call kd (.cons (.var 0) (.cons (.c (.int 8)) .nil))) (.c (.int 0))) .nil))))]
noncomputable def Lo(s:Sn):Prop:=∀{t:Nat} {S:Sto} {Q:QE},TapeS S t->(∀(n:Nat) (es:EE) (S':Sto),Web n es->TapeS S' t->On t S S'->Q (c5 n es) S')->s [.loc t] S Q
theorem Na{kd kw:Nat}(hd:i7 (Δ kd))(hw:DS (Δ kw)){D:Df}(hb:D.body=OK kd kw)(hN:D.N.length=1)(hp:D.ps.length=1):Lo (i5 Δ D):=by
 intro t S Q T q;unfold i5;rw[hb,hN];exact⟨hp.symm,_,rfl,_,rfl,hd T (by decide) (by decide) λr S2 r0 r1 T2 O2 _=>hw T2 λn es S3 W T3 O3=>q n es S3 W T3 (O2.trans O3)⟩
noncomputable def x1'(kd:Nat):Stm:=(.par 1 2 (.op .Add (.c (.int 20)) (.call kd (.cons (.var 0) (.cons (.c (.int 11)) .nil)))) (.call kd (.cons (.var 0) (.cons (.c (.int 2)) .nil))))
noncomputable def x2':Stm:=(.asg (.nm 3) (.lst .nil))
noncomputable def y1'(kd:Nat):Stm:=(.par 5 6 (.call kd (.cons (.var 0) (.cons (.var 1) .nil))) (.call kd (.cons (.var 0) (.cons (.op .Sub (.var 1) (.c (.int 1))) .nil))))
noncomputable def y2':Stm:=(.asg (.nm 7) (.op .Mod (.op .Add (.op .Add (.var 5) (.c (.int 1))) (.var 6)) (.var 1)))
noncomputable def y3':Stm:=(.iff (.cmp .Eq (.var 2) (.c (.int 0))) [(.asg (.nm 5) (.op .Mod (.var 5) (.op .FloorDiv (.var 1) (.c (.int 2))))),(.asg (.nm 7) (.op .Add (.op .FloorDiv (.var 1) (.c (.int 2))) (.op .Mod (.var 6) (.op .Sub (.var 1) (.op .FloorDiv (.var 1) (.c (.int 2)))))))] [])
noncomputable def y4':Stm:=(.expr (.mt .append (.var 3) (.cons (.tup (.cons (.bi .min (.cons (.var 5) (.cons (.var 7) .nil))) (.cons (.bi .max (.cons (.var 5) (.cons (.var 7) .nil))) .nil))) .nil)))
noncomputable def x3'(kd:Nat):Stm:=(.loop (.nm 4) (.rng1 (.op .Add (.c (.int 30)) (.call kd (.cons (.var 0) (.cons (.c (.int 61)) .nil))))) [y1' kd,y2',y3',y4'])
noncomputable def x4':Stm:=(.ret (.tup (.cons (.var 1) (.cons (.bi .tuple (.cons (.var 3) .nil)) .nil))))
noncomputable def OL(kd:Nat):List Stm:=[x1' kd,x2',x3' kd,x4']
noncomputable def Lp(s:Sn):Prop:=∀{t:Nat} {S:Sto} {Q:QE},TapeS S t->(∀(n:Nat) (es:EE) (S':Sto),WebK n es->TapeS S' t->On t S S'->Q (c5 n es) S')->s [.loc t] S Q
theorem OM{t n l:Nat}{x y:Int}{S0 S:Sto}{es:EE}{D:EndsS}{o0 o1 o2 o4 o6:Option SV}(A:Ah t S0 S l es)(hel:es.length<=1000)(hx:0<=x/\x<n)(hy:0<=y/\y<n)(hxy:x≠y)
 (q:∀(e:Nat×Nat) (S':Sto),e.1<e.2->e.2<n->Ah t S0 S' l (es++[e])->D.nx [o0,o1,o2,some (.loc l),o4,some (.int x),o6,some (.int y)] S'):wSs Δ [y4'] D [o0,o1,o2,some (.loc l),o4,some (.int x),o6,some (.int y)] S:=by
 refine⟨_,rfl,⟨_,_,rfl,A.at'⟩,_,rfl,_,rfl,_,rfl,_,rfl,by show 2<=big;decide,_,A.at',by rw[S7];show _<100000;omega,?_⟩
 have key:∀(a b:Nat) (z1 z2:Int),z1=a->z2=b->a<b->b<n->D.nx [o0,o1,o2,some (.loc l),o4,some (.int x),o6,some (.int y)] (S.set l (.lst (es.map pairS++[.tup [.int z1,.int z2]]))):=by
  rintro a b _ _ rfl rfl hab hbn;have e1:es.map pairS++[SV.tup [.int a,.int b]]=(es++[(a,b)]).map pairS:=by rw[SM];rfl
  rw[e1];exact q (a,b) _ hab hbn A.put
 by_cases hc:x<y
 ·exact key x.toNat y.toNat _ _ (by rw[iG (by omega)];omega) (by rw[iP (by omega)];omega) (by omega) (by omega)
 ·exact key y.toNat x.toNat _ _ (by rw[iP (by omega)];omega) (by rw[iG (by omega)];omega) (by omega) (by omega)
theorem JQ(hΔ:∀ f,MonoN (Δ f)){kd:Nat}(hd:i7 (Δ kd)){t n:Nat}{z h:Int}{S0 S:Sto}{Q:QE}(hz:z=n)(hn:20<=n/\n<=30)(T:TapeS S t)(O:On t S0 S)(t0:t<S0.length)
 (q:∀(es:EE) (S':Sto),WebK n es->TapeS S' t->On t S0 S'->Q (c5 n es) S'):wSs Δ [x2',x3' kd,x4'] (l6 Q) [some (.loc t),some (.int z),some (.int h),none,none,none,none,none] S:=by
 subst hz;refine⟨by show 0<=big;decide,?_⟩;have A0:Ah t S0 (S++[SO.lst []]) S.length []:=⟨T.push,O.push,c4,O.len,t0⟩
 generalize S.length=l at *;generalize S++[SO.lst []]=S1 at *;refine⟨_,rfl,hd A0.tape (by decide) (by decide) λr S2 r0 r1 T2 O2 _=>⟨_,rfl,⟨by omega,by omega⟩,?_⟩⟩;have A2:=A0.draw T2 O2;refine i0 (f7 hΔ _) (λi ρ S'=>∃ es o4 o5 o6 o7,ρ=[some (.loc t),some (.int (n:Nat)),some (.int h),some (.loc l),o4,o5,o6,o7]/\Ah t S0 S' l es/\(∀ e∈es,e.1<e.2/\e.2<n)/\es.length=i) ⟨[],none,none,none,none,rfl,A2,(λ_ h=>nomatch h),rfl⟩ (λ_ _ _ _=>trivial) ?_ ?_
 ·rintro i x ρ S3 hx ⟨es,o4,o5,o6,o7,rfl,A3,he,hl⟩;obtain⟨rfl,hi⟩:=i3 hx;refine⟨_,rfl,_,rfl,hd A3.tape (by omega) (by omega) λa S4 a0 a1 T4 O4 _=>⟨_,rfl,_,rfl,hd (A3.draw T4 O4).tape (by omega) (by omega) λb S5 b0 b1 T5 O5 _=>?_⟩⟩;have A5:=(A3.draw T4 O4).draw T5 O5;have m0:0<=(a+1+b) % n:=Tb _ (by omega);have m1:(a+1+b) % n<n:=TJ _ (by omega)
  have hne:a≠(a+1+b) % n:=by
   by_cases hb:a+1+b<n
   ·rw[UF (by omega) hb];omega
   ·rw[<-Ur,UF (by omega) (by omega)];omega
  have fin:∀{e:Nat×Nat},e.1<e.2->e.2<n->(∀ f∈es++[e],f.1<f.2/\f.2<n)/\(es++[e]).length=i+1:=λ{e} h1 h2=>⟨λf hf=>by
   rcases Sg.mp hf with hf | hf
   ·exact he f hf
   ·rw[Sd.mp hf];exact⟨h1,h2⟩,by rw[SA,hl];rfl⟩
  refine⟨_,rfl,_,rfl,_,rfl,(show(0:Int)<n by omega),?_⟩;refine⟨_,rfl,_,rfl,ifD (λh=>?_) (λh=>y6 ?_)⟩
  ·have d0:(0:Int)<(n:Int) / 2:=by omega
   have d1:(0:Int)<(n:Int) - (n:Int) / 2:=by omega
   have p0:=Tb a (show(n:Int) / 2≠0 by omega);have p1:=TJ a d0;have p2:=Tb b (show(n:Int) - (n:Int) / 2≠0 by omega);have p3:=TJ b d1;refine⟨_,rfl,_,rfl,⟨by decide,by decide⟩,d0,?_⟩;refine⟨_,rfl,⟨by decide,by decide⟩,_,rfl,_,rfl,_,rfl,⟨by decide,by decide⟩,d1,?_⟩;dsimp only[UR];refine OM (n:=n) A5 (by omega) ⟨p0,by omega⟩ ⟨by omega,by omega⟩ (by omega) λe S6 h1 h2 A6=>⟨_,_,_,_,_,rfl,A6,fin h1 h2⟩
  ·dsimp only[UR];refine OM (n:=n) A5 (by omega) ⟨a0,a1⟩ ⟨m0,m1⟩ hne λe S6 h1 h2 A6=>⟨_,_,_,_,_,rfl,A6,fin h1 h2⟩
 ·rintro ρ S3 ⟨es,o4,o5,o6,o7,rfl,A3,he,hl⟩;rw[i4]at hl;exact⟨_,rfl,_,rfl,_,a6 A3.at',by show 2<=big;decide,q es S3 ⟨he,by omega,by omega⟩ A3.tape A3.on⟩
theorem Nb(hΔ:∀ f,MonoN (Δ f)){kd:Nat}(hd:i7 (Δ kd)){D:Df}(hb:D.body=OL kd)(hN:D.N.length=8)(hp:D.ps.length=1):Lp (i5 Δ D):=by
 intro t S Q T q;unfold i5;rw[hb,hN];refine⟨hp.symm,_,rfl,hd T (by decide) (by decide) λr S2 r0 r1 T2 O2 _=>⟨_,rfl,hd T2 (by decide) (by decide) λh S3 h0 h1 T3 O3 _=>?_⟩⟩;dsimp only[UR,Hq,Ug,SJ,List.append,HAppend.hAppend,Append.append];exact JQ hΔ hd (n:=(20+r).toNat) (by omega) ⟨by omega,by omega⟩ T3 (O2.trans O3) T.lt λes S' W T' O'=>q _ es S' W T' O'
end
theorem DY(fs:EE)(k:Nat)(e:Nat×Nat):(fs.map pairS).take k++pairS e::(fs.map pairS).drop k=(fs.take k++e::fs.drop k).map pairS:=by
 rw[SM,Sk,VG,Um]
theorem Hy{fs:EE}{k:Nat}{e:Nat×Nat}{P:Nat×Nat->Prop}(h:∀ f∈fs,P f)(he:P e):∀ f∈fs.take k++e::fs.drop k,P f:=λf hf=>by
 rcases Sg.mp hf with hf | hf
 ·exact h f (Uh hf)
 ·rcases SU.mp hf with hf | hf
  ·rw[hf];exact he
  ·exact h f (Ui hf)
theorem Hz(fs:EE)(k:Nat)(e:Nat×Nat):(fs.take k++e::fs.drop k).length=fs.length+1:=by
 rw[SA,T7,Sv,Sw];omega
noncomputable abbrev En(n:Nat)(es:EE):Prop:=∀ e∈es,e.1<e.2/\e.2<n
noncomputable def jn1:Stm:=(.iff (.or (.cmp .Eq (.ix (.var 1) (.c (.int 0))) (.c (.int 0))) (.cmp .Eq (.ix (.var 2) (.c (.int 0))) (.c (.int 0)))) [(.ret (.ix (.lst (.cons (.var 1) (.cons (.var 2) .nil))) (.bi .int (.cons (.cmp .Eq (.ix (.var 1) (.c (.int 0))) (.c (.int 0))) .nil))))] [])
noncomputable def jn3(kd:Nat):Stm:=(.asg (.nm 3) (.call kd (.cons (.var 0) (.cons (.ix (.var 1) (.c (.int 0))) .nil))))
noncomputable def jn4(kd:Nat):Stm:=(.asg (.nm 4) (.call kd (.cons (.var 0) (.cons (.ix (.var 2) (.c (.int 0))) .nil))))
noncomputable def jn5:Stm:=(.asg (.nm 5) (.comp ["_law_place"] ["_law_spot","_law_at","_law_one"] [4,3,1] (.nm 0) (.rng1 (.ix (.var 2) (.c (.int 0)))) .no (.ife (.cmp .Eq (.var 0) (.var 1)) (.var 2) (.op .Sub (.op .Add (.ix (.var 3) (.c (.int 0))) (.var 0)) (.bi .int (.cons (.cmp .Gt (.var 0) (.var 1)) .nil))))))
noncomputable def jn6:Stm:=(.asg (.nm 6) (.bi .list (.cons (.ix (.var 1) (.c (.int 1))) .nil)))
noncomputable def jnA:Stm:=(.asg (.nm 8) (.tup (.cons (.bi .min (.cons (.ix (.var 5) (.ix (.var 7) (.c (.int 0)))) (.cons (.ix (.var 5) (.ix (.var 7) (.c (.int 1)))) .nil))) (.cons (.bi .max (.cons (.ix (.var 5) (.ix (.var 7) (.c (.int 0)))) (.cons (.ix (.var 5) (.ix (.var 7) (.c (.int 1)))) .nil))) .nil))))
noncomputable def jnB(kd:Nat):Stm:=(.expr (.mt .insert (.var 6) (.cons (.call kd (.cons (.var 0) (.cons (.op .Add (.bi .len (.cons (.var 6) .nil)) (.c (.int 1))) .nil))) (.cons (.var 8) .nil))))
noncomputable def jn7(kd:Nat):Stm:=(.loop (.nm 7) (.seq (.ix (.var 2) (.c (.int 1)))) [jnA,jnB kd])
noncomputable def jn8:Stm:=(.ret (.tup (.cons (.op .Sub (.op .Add (.ix (.var 1) (.c (.int 0))) (.ix (.var 2) (.c (.int 0)))) (.c (.int 1))) (.cons (.bi .tuple (.cons (.var 6) .nil)) .nil))))
noncomputable def I0(kd:Nat):List Stm:=[jn1,jn3 kd,jn4 kd,jn5,jn6,jn7 kd,jn8]
section
variable{Δ:Nat->Sn}{kd:Nat}
theorem Nc(hΔ:∀ f,MonoN (Δ f))(hd:i7 (Δ kd)){t ln n1 n2:Nat}{es1 es2:EE}{nm:Nat->Nat}{S0 S:Sto}{Q:QE}{o3 o4:Option SV}(T:TapeS S t)(O:On t S0 S)(t0:t<S0.length)(hln:S[ln]?=some (.lst (natS ((SE n2).map nm))))(nlt:ln≠t)(h1:0<n1)
 (hnm:∀ p,p<n2->nm p<n1+n2 - 1) (inj:∀ p q,p<n2->q<n2->p≠q->nm p≠nm q) (e1:En (n1+n2 - 1) es1) (e2:En n2 es2) (l1:es1.length<=400) (l2:es2.length<=400)
 (q:∀(es:EE) (S':Sto),En (n1+n2 - 1) es->es.length=es1.length+es2.length->TapeS S' t->On t S0 S'->Q (c5 (n1+n2 - 1) es) S'):
 wSs Δ [jn6,jn7 kd,jn8] (l6 Q) [some (.loc t),some (c5 n1 es1),some (c5 n2 es2),o3,o4,some (.loc ln),none,none,none] S:=by
 refine⟨_,rfl,_,_,rfl,rfl,_,rfl,?_⟩;have A0:Ah t S0 (S++[SO.lst (es1.map pairS)]) S.length es1:=⟨T.push,O.push,c4,O.len,t0⟩
 have hl0:(S++[SO.lst (es1.map pairS)])[ln]?=some (.lst (natS ((SE n2).map nm))):=f6 hln;have nll:ln≠S.length:=SS (DR hln);generalize S.length=l at *;generalize S++[SO.lst (es1.map pairS)]=S1 at *;refine⟨_,rfl,_,_,rfl,rfl,_,rfl,?_⟩
 refine i0 (f7 hΔ _) (λi ρ S'=>∃(fs:EE) (o7 o8:Option SV),ρ=[some (.loc t),some (c5 n1 es1),some (c5 n2 es2),o3,o4,some (.loc ln),some (.loc l),o7,o8]/\Ah t S0 S' l fs/\S'[ln]?=some (.lst (natS ((SE n2).map nm)))/\En (n1+n2 - 1) fs/\fs.length=es1.length+i)
  ⟨es1,none,none,rfl,A0,hl0,e1,rfl⟩ (λ_ _ _ _=>trivial) ?_ ?_
 ·rintro i x ρ S2 hx ⟨fs,o7,o8,rfl,A2,h2,hf,fl⟩;obtain⟨e,he,rfl⟩:=v5 hx;have hil:=(gM he).1;have hee:=e2 e (SB he);have g:∀ p,p<n2->((SE n2).map nm)[p]?=some (nm p):=λp hp=>by rw[SL,TZ hp];rfl
  have g1:=m8 (g e.1 (by omega));have g2:=m8 (g e.2 (by omega));refine⟨_,rfl,_,rfl,_,_,rfl,rfl,_,_,a6 h2,j5 g1,_,rfl,_,rfl,_,_,rfl,rfl,_,_,a6 h2,j5 g2,_,rfl,_,rfl,_,_,rfl,rfl,_,_,a6 h2,j5 g1,_,rfl,_,rfl,_,_,rfl,rfl,_,_,a6 h2,j5 g2,by show 2<=big;decide,?_⟩;have ne:=inj e.1 e.2 (by omega) (by omega) (by omega);have b1:=hnm e.1 (by omega);have b2:=hnm e.2 (by omega);generalize nm e.1=a at *;generalize nm e.2=b at *
  have key:∀ z1 z2:Int,z1=((min a b:Nat):Int)->z2=((max a b:Nat):Int)->wSs Δ [jnB kd] {(l6 Q) with nx:=λρ S'=>∃(fs:EE) (o7 o8:Option SV),ρ=[some (.loc t),some (c5 n1 es1),some (c5 n2 es2),o3,o4,some (.loc ln),some (.loc l),o7,o8]/\Ah t S0 S' l fs/\S'[ln]?=some (.lst (natS ((SE n2).map nm)))/\En (n1+n2 - 1) fs/\fs.length=es1.length+(i+1)} [some (.loc t),some (c5 n1 es1),some (c5 n2 es2),o3,o4,some (.loc ln),some (.loc l),some (pairS e),some (.tup [.int z1,.int z2])] S2:=by
   rintro _ _ rfl rfl;refine⟨_,rfl,⟨_,_,rfl,A2.at'⟩,_,rfl,_,rfl,_,a6 A2.at',hd A2.tape (by omega) (by rw[S7];omega) λr S3 r0 r1 T3 O3 _=>?_⟩;have A3:=A2.draw T3 O3;rw[S7]at r1;refine⟨_,rfl,_,A3.at',⟨r0,by rw[S7];omega⟩,by rw[S7];show _<100000;omega,?_⟩;have ip:=DY fs r.toNat (min a b,max a b);have ip:(fs.map pairS).take r.toNat++SV.tup [.int ((min a b:Nat):Int),.int ((max a b:Nat):Int)]::(fs.map pairS).drop r.toNat=(fs.take r.toNat++(min a b,max a b)::fs.drop r.toNat).map pairS:=ip;rw[ip];exact⟨_,_,_,rfl,A3.put,by rw[AB (Ne.symm nll)];exact O3.keep _ _ nlt h2,Hy hf ⟨by show min a b<max a b;omega,by show max a b<_;omega⟩,by rw[Hz,fl];omega⟩
  exact key _ _ (E2 a b) (Hw a b)
 ·rintro ρ S2 ⟨fs,o7,o8,rfl,A2,h2,hf,fl⟩;rw[S7]at fl;refine⟨_,rfl,_,_,rfl,rfl,_,rfl,_,_,rfl,rfl,_,rfl,_,a6 A2.at',by show 2<=big;decide,?_⟩
  have fin:∀ z:Int,z=((n1+n2 - 1:Nat):Int)->Q (.tup [.int z,.tup (fs.map pairS)]) S2:=by
   rintro _ rfl;exact q fs S2 hf fl A2.tape A2.on
  exact fin _ (by omega)
noncomputable def Bd(s:Sn):Prop:=∀{t n1 n2:Nat} {es1 es2:EE} {S:Sto} {Q:QE},TapeS S t->En n1 es1->En n2 es2->n1<=100->n2<=100->es1.length<=400->es2.length<=400->
 (∀(n:Nat) (es:EE) (S':Sto),En n es->n<=n1+n2->es.length<=es1.length+es2.length->TapeS S' t->On t S S'->Q (c5 n es) S')->s [.loc t,c5 n1 es1,c5 n2 es2] S Q
noncomputable def nmJ(n1 a sp p:Nat):Nat:=if p=sp then a else if sp<p then n1+p - 1 else n1+p
theorem JR(hΔ:∀ f,MonoN (Δ f))(hd:i7 (Δ kd)){D:Df}(hb:D.body=I0 kd)(hN:D.N.length=9)(hp:D.ps.length=3):Bd (i5 Δ D):=by
 intro t n1 n2 es1 es2 S Q T e1 e2 b1 b2 l1 l2 q;unfold i5;rw[hb,hN];have t0:=T.lt
 have ret:∀ v,atI [c5 n1 es1,c5 n2 es2] (if decide ((n1:Int)=0)=true then 1 else 0)=some v->Q v (S++[SO.lst [c5 n1 es1,c5 n2 es2]])->wSs Δ [(.ret (.ix (.lst (.cons (.var 1) (.cons (.var 2) .nil))) (.bi .int (.cons (.cmp .Eq (.ix (.var 1) (.c (.int 0))) (.c (.int 0))) .nil))))] (l6 Q) [some (.loc t),some (c5 n1 es1),some (c5 n2 es2),none,none,none,none,none,none] S:=by
  intro v hv h;exact⟨_,rfl,_,rfl,by show 2<=big;decide,_,rfl,_,_,rfl,rfl,_,v,a6 c4,hv,h⟩
 refine⟨hp.symm,_,rfl,_,_,rfl,rfl,_,rfl,ifD (λh=>ifT rfl (ret _ (by rw[decide_eq_true h];rfl) (q n2 es2 _ e2 (by omega) (by omega) T.push (On.refl t S).push))) (λh=>⟨_,rfl,_,_,rfl,rfl,_,rfl,ifD (λh'=>ret _ (by rw[decide_eq_false h];rfl) (q n1 es1 _ e1 (by omega) (by omega) T.push (On.refl t S).push)) (λh'=>?_)⟩)⟩;have h1:0<n1:=by omega
 have h2:0<n2:=by omega
 refine⟨_,rfl,_,rfl,_,_,rfl,rfl,hd T (by omega) (by omega) λa S1 a0 a1 T1 O1 _=>⟨_,rfl,_,rfl,_,_,rfl,rfl,hd T1 (by omega) (by omega) λsp S2 s0 s1 T2 O2 _=>?_⟩⟩;obtain⟨a',rfl⟩:∃ k:Nat,a=k:=⟨a.toNat,by omega⟩
 obtain⟨sp',rfl⟩:∃ k:Nat,sp=k:=⟨sp.toNat,by omega⟩
 refine⟨_,rfl,_,_,rfl,rfl,_,rfl,⟨by omega,by omega⟩,?_⟩;refine c8 (c9 hΔ _).2 (a4 hΔ _).1 (λi ys S3=>S3=S2/\ys=natS ((SE i).map (nmJ n1 a' sp'))) ⟨rfl,rfl⟩ (λ_ _ _ _=>trivial) ?_ ?_
 ·rintro i x ys S3 hx ⟨rfl,rfl⟩;obtain⟨rfl,hi⟩:=i3 hx;rw[Tu]at hi ⊢
  have fin:∀ z:Int,z=nmJ n1 a' sp' i->(natS ((SE i).map (nmJ n1 a' sp'))).length<big/\S3=S3/\natS ((SE i).map (nmJ n1 a' sp'))++[.int z]=natS ((SE (i+1)).map (nmJ n1 a' sp')):=by
   rintro _ rfl;refine⟨by rw[j7,S7,T9];show _<100000;omega,rfl,?_⟩;rw[TL,SM,AS];rfl
  refine⟨_,rfl,_,rfl,_,rfl,ifD (λh=>⟨_,rfl,fin _ ?_⟩) (λh=>⟨_,rfl,_,_,rfl,rfl,_,rfl,_,rfl,_,rfl,fin _ ?_⟩)⟩
  ·have h:i=sp':=T6.mp h;unfold nmJ;rw[iP h]
  ·have h:¬ i=sp':=λz=>h (congrArg _ z);unfold nmJ;rw[iG h];show(n1:Int)+i - (if decide ((sp':Int)<i)=true then 1 else 0)=_;by_cases hs:sp'<i
   ·rw[iP (decide_eq_true (by omega)),iP hs];omega
   ·rw[iG (by simpa using hs),iG hs];omega
 ·rintro ys S3 ⟨rfl,rfl⟩;rw[i4,show((n2:Int) - 0).toNat=n2 by omega];have O:=(O1.trans O2)
  have hlt:t<S3.length:=T2.lt;refine Nc hΔ hd (nm:=nmJ n1 a' sp') T2.push O.push t0 c4 (by omega) h1 (λp hp=>?_) (λp q' hp hq ne=>?_) (λe he=>by have:=e1 e he;exact⟨this.1,by omega⟩) e2 l1 l2 λes S' he hl T' O'=>q _ es S' he (by omega) (by omega) T' O'
  ·unfold nmJ;split
   ·omega
   ·split<;>omega
  ·unfold nmJ;split<;>split<;>first | omega | (split<;>first | omega | (split<;>omega))
end
theorem Gk{keep:Sto->Prop}{g g2:Tg}{t t2:WT}{i2:WI}{e:WE}{ρ:EnvS}{Q:List SV->Sto->Prop}(mt:MonoT t)(mi2:MonoI i2)(mt2:MonoT t2)(me:Mono e)(I:Nat->List SV->Sto->Prop){xs:List SV}{S:Sto}(h0:I 0 [] S)(hk:∀ i ys S,I i ys S->keep S)
 (hs:∀ i x ys S,xs[i]?=some x->I i ys S->wTg g x ρ λρ2=>t ρ2 S λb S1=>if b=true then i2 ρ2 S1 λkeep2 xs2 S2=>j6 keep2 g2 t2 e (I (i+1)) xs2 ρ2 ys S2 else I (i+1) ys S1) (hd:∀ ys S,I xs.length ys S->Q ys S):i9 keep g t g2 i2 t2 e ρ Q xs [] S:=by
 have go:∀(zs:List SV) (i:Nat) (ys:List SV) (S:Sto),xs.drop i=zs->i<=xs.length->I i ys S->i9 keep g t g2 i2 t2 e ρ Q zs ys S:=by
  intro zs
  induction zs with
  | nil=>
    intro i ys S e' hi h
    have:i=xs.length:=by
     have:=congrArg UC e';rw[Sw,Tr]at this;omega
    subst this;unfold i9;exact⟨hk _ _ _ h,hd _ _ h⟩
  | cons y zs ih=>
    intro i ys S e' hi h;have hy:xs[i]?=some y:=by rw[<-UL,e'];rfl
    have hlt:=(gM hy).1;have e2:xs.drop (i+1)=zs:=by rw[<-UQ,e'];rfl
    unfold i9;refine⟨hk _ _ _ h,j0 g (λρ2 q=>mt _ _ _ _ (λb S1 q=>g8 (λq=>mi2 _ _ _ _ (λk2 x2 S2 q=>AA mt2 me (λys' S3 q=>ih (i+1) ys' S3 e2 hlt q) _ _ _ _ q) q) (λq=>ih (i+1) _ S1 e2 hlt q) q) q) (hs i y ys S hy h)⟩
 exact go xs 0 [] S rfl (Tf _) h0
theorem Gm{keep:Sto->Prop}{g:Tg}{t:WT}{e:WE}{Q:List SV->Sto->Prop}(mt:MonoT t)(me:Mono e)(I:Nat->EnvS->List SV->Sto->Prop){xs:List SV}{ρ:EnvS}{ys:List SV}{S:Sto}(h0:I 0 ρ ys S)(hk:∀ i ρ ys S,I i ρ ys S->keep S)
 (hs:∀ i x ρ ys S,xs[i]?=some x->I i ρ ys S->wTg g x ρ λρ2=>t ρ2 S λb S1=>if b=true then e ρ2 S1 λy S2=>ys.length<big/\I (i+1) ρ2 (ys++[y]) S2 else I (i+1) ρ2 ys S1) (hd:∀ ρ ys S,I xs.length ρ ys S->Q ys S):j6 keep g t e Q xs ρ ys S:=by
 have go:∀(zs:List SV) (i:Nat) (ρ:EnvS) (ys:List SV) (S:Sto),xs.drop i=zs->i<=xs.length->I i ρ ys S->j6 keep g t e Q zs ρ ys S:=by
  intro zs
  induction zs with
  | nil=>
    intro i ρ ys S e' hi h
    have:i=xs.length:=by
     have:=congrArg UC e';rw[Sw,Tr]at this;omega
    subst this;unfold j6;exact⟨hk _ _ _ _ h,hd _ _ _ h⟩
  | cons y zs ih=>
    intro i ρ ys S e' hi h;have hy:xs[i]?=some y:=by rw[<-UL,e'];rfl
    have hlt:=(gM hy).1;have e2:xs.drop (i+1)=zs:=by rw[<-UQ,e'];rfl
    unfold j6;refine⟨hk _ _ _ _ h,j0 g (λρ2 q=>mt _ _ _ _ (λb S1 q=>g8 (λq=>me _ _ _ _ (λv S2 q=>⟨q.1,ih (i+1) _ _ S2 e2 hlt q.2⟩) q) (λq=>ih (i+1) _ _ S1 e2 hlt q) q) q) (hs i y ρ ys S hy h)⟩
 exact go xs 0 ρ ys S rfl (Tf _) h0
noncomputable def rgA(kd:Nat):Stm:=(.asg (.nm 4) (.op .Add (.c (.int 1)) (.bi .int (.cons (.cmp .Gt (.call kd (.cons (.var 0) (.cons (.c (.int 4)) .nil))) (.c (.int 0))) .nil))))
noncomputable def rgB:Stm:=(.asg (.nm 5) (.lst (.cons (.tup (.cons (.var 2) (.cons (.op .Add (.var 2) (.c (.int 1))) .nil))) (.cons (.tup (.cons (.var 2) (.cons (.op .Add (.var 2) (.var 4)) .nil))) .nil))))
noncomputable def rgC:Stm:=(.iff (.cmp .Gt (.var 4) (.c (.int 1))) [(.expr (.mt .append (.var 5) (.cons (.tup (.cons (.op .Add (.var 2) (.c (.int 1))) (.cons (.op .Add (.var 2) (.c (.int 2))) .nil))) .nil)))] [])
noncomputable def rgI(kd:Nat):Stm:=(.expr (.mt .insert (.var 1) (.cons (.call kd (.cons (.var 0) (.cons (.op .Add (.bi .len (.cons (.var 1) .nil)) (.c (.int 1))) .nil))) (.cons (.var 6) .nil))))
noncomputable def rgD(kd:Nat):Stm:=(.loop (.nm 6) (.seq (.var 5)) [rgI kd])
noncomputable def rgE:Stm:=(.asg (.nm 2) (.op .Add (.var 2) (.var 4)))
noncomputable def rg1:Stm:=(.par 1 2 (.lst .nil) (.c (.int 0)))
noncomputable def rg2(kd:Nat):Stm:=(.loop (.nm 3) (.rng1 (.op .Add (.c (.int 4)) (.call kd (.cons (.var 0) (.cons (.c (.int 5)) .nil))))) [rgA kd,rgB,rgC,rgD kd,rgE])
noncomputable def rg3:Stm:=(.ret (.tup (.cons (.op .Add (.var 2) (.c (.int 1))) (.cons (.bi .tuple (.cons (.var 1) .nil)) .nil))))
noncomputable def Lq(kd:Nat):List Stm:=[rg1,rg2 kd,rg3]
section
variable{Δ:Nat->Sn}{kd:Nat}
theorem Lr(hΔ:∀ f,MonoN (Δ f))(hd:i7 (Δ kd)){D:EndsS}{t l lr n z m:Nat}{S0 S:Sto}{fs rs:EE}{o3 o6:Option SV}(A:Ah t S0 S l fs)(hr:S[lr]?=some (.lst (rs.map pairS)))(nt:lr≠t)(nl:lr≠l)(hf:En n fs)(he:En n rs)(fl:fs.length<=100)(rl:rs.length<=3)
 (q:∀(fs':EE) (o6:Option SV) (S':Sto),Ah t S0 S' l fs'->En n fs'->fs'.length=fs.length+rs.length->D.nx [some (.loc t),some (.loc l),some (.int ((z+m:Nat):Int)),o3,some (.int m),some (.loc lr),o6] S'):
 wSs Δ [rgD kd,rgE] D [some (.loc t),some (.loc l),some (.int z),o3,some (.int m),some (.loc lr),o6] S:=by
 refine⟨_,rfl,_,a6 hr,?_⟩;refine i0 (f7 hΔ _) (λi ρ S'=>∃(fs':EE) (o6:Option SV),ρ=[some (.loc t),some (.loc l),some (.int z),o3,some (.int m),some (.loc lr),o6]/\Ah t S0 S' l fs'/\S'[lr]?=some (.lst (rs.map pairS))/\En n fs'/\fs'.length=fs.length+i) ⟨fs,o6,rfl,A,hr,hf,rfl⟩ (λ_ _ S' ⟨_,_,_,_,h,_⟩=>h.trans hr.symm) ?_ ?_
 ·rintro i x ρ S2 hx ⟨gs,p6,rfl,A2,h2,hg,gl⟩;obtain⟨e,hei,rfl⟩:=v5 hx;have hil:=(gM hei).1;refine⟨_,rfl,⟨_,_,rfl,A2.at'⟩,_,rfl,_,rfl,_,a6 A2.at',hd A2.tape (by omega) (by rw[S7];omega) λr S3 r0 r1 T3 O3 _=>?_⟩;have A3:=A2.draw T3 O3;rw[S7]at r1;refine⟨_,rfl,_,A3.at',⟨r0,by rw[S7];omega⟩,by rw[S7];show _<100000;omega,?_⟩;rw[DY];exact⟨_,_,rfl,A3.put,by rw[AB (Ne.symm nl)];exact O3.keep _ _ nt h2,Hy hg (he e (SB hei)),by rw[Hz,gl];omega⟩
 ·rintro ρ S2 ⟨gs,p6,rfl,A2,h2,hg,gl⟩;rw[S7]at gl;have q:=q gs p6 S2 A2 hg gl;rw[Ub]at q;exact⟨_,rfl,_,rfl,q⟩
theorem IA(hΔ:∀ f,MonoN (Δ f))(hd:i7 (Δ kd)){D:EndsS}{t l z m:Nat}{S0 S:Sto}{fs:EE}{o3 o5 o6:Option SV}(A:Ah t S0 S l fs)(hf:En (z+1) fs)(fl:fs.length<=100)(hm:m=1\/m=2)
 (q:∀(fs':EE) (o5 o6:Option SV) (S':Sto),Ah t S0 S' l fs'->En (z+m+1) fs'->fs'.length<=fs.length+3->D.nx [some (.loc t),some (.loc l),some (.int ((z+m:Nat):Int)),o3,some (.int m),o5,o6] S'):
 wSs Δ [rgB,rgC,rgD kd,rgE] D [some (.loc t),some (.loc l),some (.int z),o3,some (.int m),o5,o6] S:=by
 have b2:2<=big:=by decide
 refine⟨_,rfl,_,rfl,b2,_,rfl,_,rfl,_,rfl,b2,b2,?_⟩;have A5:=A.push (o:=SO.lst [.tup [.int z,.int ((z:Int)+1)],.tup [.int z,.int ((z:Int)+m)]])
 have h5:(S++[SO.lst [.tup [.int z,.int ((z:Int)+1)],.tup [.int z,.int ((z:Int)+m)]]])[S.length]?=some (.lst ([(z,z+1),(z,z+m)].map pairS)):=by
  rw[c4];show _=some (SO.lst [.tup [.int z,.int ((z+1:Nat):Int)],.tup [.int z,.int ((z+m:Nat):Int)]]);rw[Ub,Ub];rfl
 have ntt:S.length≠t:=by have:=A.tape.lt;omega
 have hlr:l<S.length:=DR A.at';generalize S.length=lr at *;generalize S++[SO.lst [.tup [.int z,.int ((z:Int)+1)],.tup [.int z,.int ((z:Int)+m)]]]=S5 at *;have up:En (z+m+1) fs:=λe he=>by have:=hf e he;exact⟨this.1,by omega⟩
 refine⟨_,rfl,_,rfl,ifD (λh=>?_) (λh=>y6 ?_)⟩
 ·have hm2:m=2:=by omega
  subst hm2;refine⟨_,rfl,⟨_,_,rfl,h5⟩,_,rfl,_,rfl,b2,_,h5,by show 2<100000;omega,?_⟩;have e6:[(z,z+1),(z,z+2)].map pairS++[SV.tup [.int ((z:Int)+1),.int ((z:Int)+2)]]=[(z,z+1),(z,z+2),(z+1,z+2)].map pairS:=rfl;rw[e6];have h6:(S5.set lr (.lst ([(z,z+1),(z,z+2),(z+1,z+2)].map pairS)))[lr]?=some (.lst ([(z,z+1),(z,z+2),(z+1,z+2)].map pairS)):=l7 h5;have A6:Ah t S0 (S5.set lr (.lst ([(z,z+1),(z,z+2),(z+1,z+2)].map pairS))) l fs:=⟨A5.tape.other ntt,A5.on.new (by have:=A5.new;omega),by rw[AB (by omega)];exact A5.at',A5.new,A5.t0⟩
  dsimp only[UR];refine Lr hΔ hd (n:=z+2+1) A6 h6 ntt (by omega) up (λe he=>?_) fl (by simp) λfs' o6 S' A' hf' fl'=>q fs' _ o6 S' A' hf' (by simp at fl';omega);simp at he;rcases he with rfl | rfl | rfl<;>simp
 ·dsimp only[UR];refine Lr hΔ hd (n:=z+m+1) A5 h5 ntt (by omega) up (λe he=>?_) fl (by simp) λfs' o6 S' A' hf' fl'=>q fs' _ o6 S' A' hf' (by simp at fl';omega);simp at he;rcases he with rfl | rfl
  ·exact⟨by show z<z+1;omega,by show z+1<z+m+1;omega⟩
  ·exact⟨by show z<z+m;omega,by show z+m<z+m+1;omega⟩
noncomputable def E8(s:Sn):Prop:=∀{t:Nat} {S:Sto} {Q:QE},TapeS S t->(∀(n:Nat) (es:EE) (S':Sto),En n es->n<=17->es.length<=24->TapeS S' t->On t S S'->Q (c5 n es) S')->s [.loc t] S Q
theorem Ls(hΔ:∀ f,MonoN (Δ f))(hd:i7 (Δ kd)){D:Df}(hb:D.body=Lq kd)(hN:D.N.length=7)(hp:D.ps.length=1):E8 (i5 Δ D):=by
 intro t S Q T q;unfold i5;rw[hb,hN];refine⟨hp.symm,by show 0<=big;decide,?_⟩;have t0:=T.lt;have A0:Ah t S (S++[SO.lst []]) S.length []:=⟨T.push,(On.refl t S).push,c4,SK _,t0⟩
 generalize S.length=l at *;generalize S++[SO.lst []]=S1 at *;refine⟨_,rfl,hd A0.tape (by decide) (by decide) λr S2 r0 r1 T2 O2 _=>⟨_,rfl,⟨by omega,by omega⟩,?_⟩⟩;refine i0 (f7 hΔ _) (λi ρ S'=>∃(z:Nat) (fs:EE) (o3 o4 o5 o6:Option SV),ρ=[some (.loc t),some (.loc l),some (.int z),o3,o4,o5,o6]/\Ah t S S' l fs/\En (z+1) fs/\z<=2 * i/\fs.length<=3 * i) ⟨0,[],none,none,none,none,rfl,A0.draw T2 O2,(λ_ h=>nomatch h),SK _,SK _⟩ (λ_ _ _ _=>trivial) ?_ ?_
 ·rintro i x ρ S3 hx ⟨z,fs,o3,o4,o5,o6,rfl,A3,hf,hz,fl⟩;obtain⟨rfl,hi⟩:=i3 hx;refine⟨_,rfl,hd A3.tape (by decide) (by decide) λu S4 u0 u1 T4 O4 _=>?_⟩;have A4:=A3.draw T4 O4;by_cases hu:0<u
  ·show wSs Δ [rgB,rgC,rgD kd,rgE] _ [some (.loc t),some (.loc l),some (.int z),_,some (.int (1+if decide (0<u)=true then 1 else 0)),o5,o6] S4;rw[decide_eq_true hu];exact IA (m:=2) hΔ hd A4 hf (by omega) (.inr rfl) λfs' o5 o6 S' A' hf' fl'=>⟨_,fs',_,_,_,_,rfl,A',hf',by omega,by omega⟩
  ·show wSs Δ [rgB,rgC,rgD kd,rgE] _ [some (.loc t),some (.loc l),some (.int z),_,some (.int (1+if decide (0<u)=true then 1 else 0)),o5,o6] S4;rw[decide_eq_false hu];exact IA (m:=1) hΔ hd A4 hf (by omega) (.inl rfl) λfs' o5 o6 S' A' hf' fl'=>⟨_,fs',_,_,_,_,rfl,A',hf',by omega,by omega⟩
 ·rintro ρ S3 ⟨z,fs,o3,o4,o5,o6,rfl,A3,hf,hz,fl⟩;rw[i4]at hz fl;refine⟨_,rfl,_,rfl,_,a6 A3.at',by show 2<=big;decide,?_⟩;have q:=q (z+1) fs S3 hf (by omega) (by omega) A3.tape A3.on;exact q
end
noncomputable def jw1(kw:Nat):Stm:=(.asg (.nm 1) (.call kw (.cons (.var 0) (.cons (.c (.bl false)) .nil))))
noncomputable def jw2(kd kr:Nat):Stm:=(.iff (.cmp .Eq (.call kd (.cons (.var 0) (.cons (.c (.int 6)) .nil))) (.c (.int 0))) [(.asg (.nm 1) (.call kr (.cons (.var 0) .nil)))] [])
noncomputable def jw3(kd kw kj:Nat):Stm:=(.loop (.nm 2) (.rng1 (.op .Mult (.call kd (.cons (.var 0) (.cons (.c (.int 3)) .nil))) (.bi .int (.cons (.cmp .Lt (.ix (.var 1) (.c (.int 0))) (.c (.int 8))) .nil)))) [(.asg (.nm 1) (.call kj (.cons (.var 0) (.cons (.var 1) (.cons (.call kw (.cons (.var 0) (.cons (.c (.bl false)) .nil))) .nil)))))])
noncomputable def jwT:Stm:=(.asg (.nm 1) (.tup (.cons (.op .Add (.ix (.var 1) (.c (.int 0))) (.ix (.var 3) (.c (.int 0)))) (.cons (.op .Add (.ix (.var 1) (.c (.int 1))) (.bi .tuple (.cons (.comp ["_law_one","_law_other"] ["_law_web_here"] [1] (.tup (.cons (.nm 0) (.cons (.nm 1) .nil))) (.seq (.ix (.var 3) (.c (.int 1)))) .no (.tup (.cons (.op .Add (.var 0) (.ix (.var 2) (.c (.int 0)))) (.cons (.op .Add (.var 1) (.ix (.var 2) (.c (.int 0)))) .nil)))) .nil))) .nil))))
noncomputable def jw4(kd kw:Nat):Stm:=(.iff (.cmp .Eq (.call kd (.cons (.var 0) (.cons (.c (.int 8)) .nil))) (.c (.int 0))) [(.asg (.nm 3) (.call kw (.cons (.var 0) (.cons (.c (.bl false)) .nil)))),jwT] [])
noncomputable def jw5:Stm:=(.ret (.var 1))
noncomputable def Ct(kd kw kj kr:Nat):List Stm:=[jw1 kw,jw2 kd kr,jw3 kd kw kj,jw4 kd kw,jw5]
noncomputable def RP(s:Sn):Prop:=∀{t:Nat} {S:Sto} {Q:QE},TapeS S t->(∀(n:Nat) (es:EE) (S':Sto),WebC n es->TapeS S' t->On t S S'->Q (c5 n es) S')->s [.loc t] S Q
section
variable{Δ:Nat->Sn}{kd kw kj kr:Nat}
noncomputable def shE(k:Nat)(e:Nat×Nat):Nat×Nat:=(e.1+k,e.2+k)
theorem Nd(hΔ:∀ f,MonoN (Δ f))(hd:i7 (Δ kd))(hw:DS (Δ kw)){t n:Nat}{es:EE}{S0 S:Sto}{Q:QE}{o2 o3:Option SV}(T:TapeS S t)(O:On t S0 S)(he:En n es)(hn:n<=60)(hl:es.length<=300)
 (q:∀(n:Nat) (es:EE) (S':Sto),WebC n es->TapeS S' t->On t S0 S'->Q (c5 n es) S'):wSs Δ [jw4 kd kw,jw5] (l6 Q) [some (.loc t),some (c5 n es),o2,o3] S:=by
 refine⟨_,rfl,hd T (by decide) (by decide) λr S2 r0 r1 T2 O2 _=>⟨_,rfl,ifD (λh=>?_) (λh=>y6 ⟨_,rfl,q n es S2 ⟨he,by omega,by omega⟩ T2 (O.trans O2)⟩)⟩⟩;refine⟨_,rfl,hw T2 λm fs S3 W T3 O3=>?_⟩;have hm:=W.few;have hfl:=W.len;refine⟨_,rfl,_,_,rfl,rfl,_,rfl,_,_,rfl,rfl,_,rfl,_,_,rfl,rfl,_,rfl,_,_,rfl,rfl,_,rfl,?_⟩;refine c8 (c9 hΔ _).2 (a4 hΔ _).1 (λi ys S4=>S4=S3/\ys=((fs.take i).map (shE n)).map pairS) ⟨rfl,rfl⟩ (λ_ _ _ _=>trivial) ?_ ?_
 ·rintro i x ys S4 hx ⟨rfl,rfl⟩;obtain⟨e,hei,rfl⟩:=v5 hx;have hil:=(gM hei).1;refine⟨_,rfl,_,rfl,_,_,rfl,rfl,_,rfl,_,rfl,_,_,rfl,rfl,by show 2<=big;decide,by rw[S7,S7,Sv];show _<100000;omega,rfl,?_⟩;rw[TX,hei,SM,SM];rfl
 ·rintro ys S4 ⟨rfl,rfl⟩;rw[S7,TH];refine⟨_,a6 c4,by rw[S7,S7,S7];show _<=100000;omega,by show 2<=big;decide,?_⟩;rw[<-SM];refine⟨_,rfl,q (n+m) (es++fs.map (shE n)) _ ⟨λe h=>?_,by rw[SA,S7];omega,by omega⟩ T3.push ((O.trans O2).trans O3).push⟩;rcases Sg.mp h with h | h
  ·have:=he e h;exact⟨this.1,by omega⟩
  ·obtain⟨f,hf,rfl⟩:=Te.mp h;have:=W.en f hf;exact⟨by show f.1+n<f.2+n;omega,by show f.2+n<n+m;omega⟩
theorem IB(hΔ:∀ f,MonoN (Δ f))(hd:i7 (Δ kd))(hw:DS (Δ kw))(hj:Bd (Δ kj)){t n:Nat}{es:EE}{S0 S:Sto}{Q:QE}(T:TapeS S t)(O:On t S0 S)(he:En n es)(hn:n<=17)(hl:es.length<=61)
 (q:∀(n:Nat) (es:EE) (S':Sto),WebC n es->TapeS S' t->On t S0 S'->Q (c5 n es) S'):wSs Δ [jw3 kd kw kj,jw4 kd kw,jw5] (l6 Q) [some (.loc t),some (c5 n es),none,none] S:=by
 refine⟨_,rfl,hd T (by decide) (by decide) λr S2 r0 r1 T2 O2 _=>⟨_,rfl,_,_,rfl,rfl,.inl ⟨by omega,by omega⟩,?_⟩⟩
 have hz:∃ m:Nat,r * (if decide ((n:Int)<8)=true then 1 else 0)=(m:Int)/\m<=2:=by
  by_cases h:(n:Int)<8
  ·rw[decide_eq_true h];exact⟨r.toNat,by rw[iP rfl];omega,by omega⟩
  ·rw[decide_eq_false h];exact⟨0,by simp,by omega⟩
 obtain⟨m,em,hm⟩:=hz;refine⟨_,congrArg SV.int em,⟨by omega,by omega⟩,?_⟩;refine i0 (f7 hΔ _) (λi ρ S'=>∃(n:Nat) (es:EE) (o2:Option SV),ρ=[some (.loc t),some (c5 n es),o2,none]/\TapeS S' t/\On t S0 S'/\En n es/\n<=17+12 * i/\es.length<=61+61 * i) ⟨n,es,none,rfl,T2,O.trans O2,he,by omega,by omega⟩ (λ_ _ _ _=>trivial) ?_ ?_
 ·rintro i x ρ S3 hx ⟨n',es',o2,rfl,T3,O3,he',hn',hl'⟩;obtain⟨rfl,hi⟩:=i3 hx;refine⟨_,rfl,_,rfl,_,rfl,hw T3 λm' fs S4 W T4 O4=>?_⟩;have hm':=W.few;have hfl:=W.len;refine hj T4 he' W.en (by omega) (by omega) (by omega) (by omega) λn'' es'' S5 he'' hn'' hl'' T5 O5=>⟨n'',es'',_,rfl,T5,(O3.trans O4).trans O5,he'',by omega,by omega⟩
 ·rintro ρ S3 ⟨n',es',o2,rfl,T3,O3,he',hn',hl'⟩;rw[i4]at hn' hl';exact Nd hΔ hd hw T3 O3 he' (by omega) (by omega) q
theorem E9(hΔ:∀ f,MonoN (Δ f))(hd:i7 (Δ kd))(hw:DS (Δ kw))(hj:Bd (Δ kj))(hr:E8 (Δ kr)){D:Df}(hb:D.body=Ct kd kw kj kr)(hN:D.N.length=4)(hp:D.ps.length=1):RP (i5 Δ D):=by
 intro t S Q T q;unfold i5;rw[hb,hN];refine⟨hp.symm,_,rfl,hw T λn es S2 W T2 O2=>?_⟩;have hm:=W.few;have hl:=W.len;refine⟨_,rfl,hd T2 (by decide) (by decide) λr S3 r0 r1 T3 O3 _=>⟨_,rfl,ifD (λh=>?_) (λh=>y6 ?_)⟩⟩
 ·refine⟨_,rfl,hr T3 λn' es' S4 he' hn' hl' T4 O4=>?_⟩;exact IB hΔ hd hw hj T4 ((O2.trans O3).trans O4) he' (by omega) (by omega) q
 ·exact IB hΔ hd hw hj T3 (O2.trans O3) W.en (by omega) (by omega) q
end
noncomputable def rc1(kt kf:Nat):Stm:=(.asg (.nm 4) (.comp ["tie"] ["web","place","part"] [0,1,3] (.nm 0) (.seq (.call kt (.cons (.var 0) (.cons (.var 1) .nil)))) (.yes (.cmp .In (.call kf (.cons (.var 1) (.cons (.var 0) (.cons (.var 2) .nil)))) (.var 3))) (.var 0)))
noncomputable def rc2:Stm:=(.expr (.mt .extend (.var 2) (.cons (.comp ["tie"] ["ties"] [4] (.nm 0) (.seq (.slc (.var 4) (.yes (.c (.int 1))) .no)) .no (.tup (.cons (.ix (.var 1) (.c (.int 0))) (.cons (.var 0) .nil)))) .nil)))
noncomputable def RQ(kt kf kp kw:Nat):List Stm:=[(.asg (.nm 2) (.lst .nil)),(.loop (.nm 3) (.seq (.call kp (.cons (.call kw (.cons (.var 0) (.cons (.var 1) .nil))) .nil))) [rc1 kt kf,rc2]),(.ret (.var 2))]
noncomputable def By(n:Nat)(es:EE)(p t:Nat):Nat:=Hue.mk n (Hue.off p es) (E1 (es.getD t (0,0)) p)
noncomputable def tsF(n:Nat)(es:EE)(p f:Nat):List Nat:=(e5 es p es.length).filter λt=>decide (By n es p t=f)
noncomputable def cpH(ts:List Nat):EE:=(ts.drop 1).map λt=>(ts.getD 0 0,t)
noncomputable def cpT(n:Nat)(es:EE)(p:Nat)(fs:List Nat):EE:=fs.flatMap λf=>cpH (tsF n es p f)
noncomputable def cpR(n:Nat)(es:EE)(p:Nat):EE:=cpT n es p (rootsL (Hue.mk n (Hue.off p es)) n)
noncomputable def cpA(n:Nat)(es:EE)(k:Nat):EE:=(SE k).flatMap (cpR n es)
theorem Be{α:Type}{g:α->Nat}:∀{fs:List Nat} {ts:List α},fs.Nodup->(fs.flatMap λf=>ts.filter λt=>decide (g t=f)).length<=ts.length
 | [],ts,_=>by simp
 | f::fs,ts,nd=>by
   obtain⟨nf,nd⟩:=TK.mp nd;have ih:=Be (g:=g) (ts:=ts.filter λt=>!decide (g t=f)) nd
   have e:(fs.flatMap λf'=>(ts.filter λt=>!decide (g t=f)).filter λt=>decide (g t=f'))=fs.flatMap λf'=>ts.filter λt=>decide (g t=f'):=by
    rw[V8,V8]
    congr 1
    refine U9 λf' hf'=>?_;rw[List.filter_filter];refine UU λt _=>?_;by_cases z:g t=f'
    ·have:¬ g t=f:=λy=>nf (by rw[<-y,z];exact hf');simp[z,this];intro y;exact this (z.trans y)
    ·simp[z]
   rw[e]at ih;have s:=Hue.len_split (λ_=>true) (λt=>decide (g t=f)) ts;simp only[VF]at s;have z:ts.filter (λ_=>true)=ts:=List.filter_eq_self.mpr λ_ _=>rfl;rw[z]at s;rw[Tv,SA];omega
theorem Bf{α β:Type}{g:Nat->List α}{h:Nat->List β}:∀{fs:List Nat},(∀ f∈fs,(g f).length<=(h f).length)->(fs.flatMap g).length<=(fs.flatMap h).length
 | [],_=>by simp
 | f::fs,z=>by
   have:=Bf λf' hf'=>z f' (SG _ hf');have:=z f (SI ..);rw[Tv,Tv,SA,SA];omega
theorem Nf(ts:List Nat):(cpH ts).length<=ts.length:=by unfold cpH;rw[S7,Sw];omega
theorem EA(n:Nat)(es:EE)(p:Nat){fs:List Nat}(nd:fs.Nodup):(cpT n es p fs).length<=(e5 es p es.length).length:=
 Sj (Bf (g:=λf=>cpH (tsF n es p f)) (h:=λf=>(e5 es p es.length).filter λt=>decide (By n es p t=f)) λf _=>Nf _) (Be nd)
theorem y8(m:Nat->Nat)(n:Nat):(rootsL m n).Nodup:=UI.filter _
theorem Lu{α:Type}{A B C:α->Bool}(h:∀ a,A a=true->B a=true\/C a=true):∀ l:List α,(l.filter A).length<=(l.filter B).length+(l.filter C).length
 | []=>by simp
 | a::l=>by
   have ih:=Lu h l;have ha:=h a;rw[Sl,Sl,Sl];cases hA:A a<;>cases hB:B a<;>cases hC:C a<;>simp[hA,hB,hC]at ha ⊢<;>omega
theorem Lv(es:EE)(k:Nat):((SE k).flatMap λp=>e5 es p es.length).length<=2 * es.length:=by
 have a:=Be (g:=λt=>(es.getD t (0,0)).1) (fs:=SE k) (ts:=SE es.length) UI;have b:=Be (g:=λt=>(es.getD t (0,0)).2) (fs:=SE k) (ts:=SE es.length) UI;rw[T9]at a b
 have c:((SE k).flatMap λp=>e5 es p es.length).length<=((SE k).flatMap λp=>((SE es.length).filter λt=>decide ((es.getD t (0,0)).1=p))++((SE es.length).filter λt=>decide ((es.getD t (0,0)).2=p))).length:=by
  refine Bf λp _=>?_;rw[SA];unfold e5;refine Lu (λj hj=>?_) _;rw[SQ];cases hz:es[j]? with
  | none=>rw[hz]at hj;cases hj
  | some e=>
    rw[hz]at hj;have hj:(decide (e.1=p)||decide (e.2=p))=true:=hj;rw[Sz]at hj;exact hj
 have d:∀(fs:List Nat) (g h:Nat->List Nat),(fs.flatMap λp=>g p++h p).length=(fs.flatMap g).length+(fs.flatMap h).length:=by
  intro fs g h
  induction fs with
  | nil=>rfl
  | cons f fs ih=>rw[Tv,Tv,Tv,SA,SA,SA,SA,ih];omega
 rw[d]at c;omega
theorem IC(n:Nat)(es:EE)(k:Nat):(cpA n es k).length<=2 * es.length:=
 Sj (Bf (g:=cpR n es) (h:=λp=>e5 es p es.length) λp _=>EA n es p (y8 _ _)) (Lv es k)
section
variable{Δ:Nat->Sn}
theorem Ng(n:Nat)(es:EE)(p f:Nat):(tsF n es p f).length<=es.length:=by
 have a:=Sy (λt=>decide (By n es p t=f)) (e5 es p es.length);have b:(e5 es p es.length).length<=es.length:=t3 _ _;exact Sj a b
theorem ID{m:Nat->Nat}{n f x:Nat}:x∈clsF m n f↔x<n/\m x=f:=by
 unfold clsF;rw[Sm,SX,dQ]
theorem Pw(hΔ:∀ f,MonoN (Δ f)){kt kf:Nat}(ht:Av (Δ kt))(hf:BY (Δ kf)){D:EndsS}{rest:List Stm}{n p f lp:Nat}{es:EE}{S:Sto}{o2 o4:Option SV}(H:WebC n es)(hp:p<n)(hpart:S[lp]?=some (.lst (natS (clsF (Hue.mk n (Hue.off p es)) n f))))
 (q:∀(l:Nat) (S':Sto),Gw S S'->S.length<=l->S'[l]?=some (.lst (natS (tsF n es p f)))->wSs Δ rest D [some (c5 n es),some (.int (p:Nat)),o2,some (.loc lp),some (.loc l)] S'):wSs Δ (rc1 kt kf::rest) D [some (c5 n es),some (.int (p:Nat)),o2,some (.loc lp),o4] S:=by
 have hl:=H.len;refine⟨_,rfl,_,rfl,ht (by omega) hp ⟨_,a6 c4,?_⟩⟩;have hp1:=f6 (o:=SO.lst (natS (e5 es p es.length))) hpart;have G1:Gw S (S++[SO.lst (natS (e5 es p es.length))]):=(Gw.refl S).push;generalize S++[SO.lst (natS (e5 es p es.length))]=S1 at *;have tl:(e5 es p es.length).length<=es.length:=t3 _ _;refine c8 (c9 hΔ _).2 (a4 hΔ _).1 (λj ys S2=>S2=S1/\ys=natS (((e5 es p es.length).take j).filter λt=>decide (By n es p t=f))) ⟨rfl,rfl⟩ (λ_ _ _ h=>by rw[h.1];exact rfl) ?_ ?_
 ·rintro j x ys S2 hx ⟨rfl,rfl⟩;obtain⟨t,htj,rfl⟩:=Ba hx;obtain⟨e,he,hep⟩:=mem_tiesAt.mp (SB htj);have hjl:=(gM htj).1;have hs:=FW (P:=λt=>decide (By n es p t=f)) htj
  have hlen:(((e5 es p es.length).take j).filter λt=>decide (By n es p t=f)).length<=j:=by
   have:=Sy (λt=>decide (By n es p t=f)) ((e5 es p es.length).take j);rw[Sv]at this;omega
  have hen:=H.en e (SB he);have fl:E1 e p<n:=by unfold E1;split<;>omega
  have hfm:By n es p t=Hue.mk n (Hue.off p es) (E1 e p):=by unfold By;rw[SQ,he];rfl
  refine⟨_,rfl,_,rfl,_,rfl,hf he (hep.imp Eq.symm Eq.symm) ⟨_,rfl,?_⟩⟩;show match CQ (.loc lp) S2 with | some ms=>_ | none=>_
  rw[FB hp1];refine⟨rfl,_,a6 hp1,DU _,_,rfl,?_⟩;show if inS (.int (E1 e p:Nat)) (natS (clsF (Hue.mk n (Hue.off p es)) n f))=true then _ else _
  rw[Lb];by_cases hm:By n es p t=f
  ·rw[iP (by simpa using hm)]at hs;exact ifT (by rw[dQ,ID];exact⟨fl,hfm▸hm⟩) ⟨_,rfl,by rw[j7];show _<100000;omega,rfl,by rw[hs,AS];rfl⟩
  ·rw[iG (by simpa using hm),Su]at hs;exact ifF (by rw[decide_eq_false_iff_not,ID];exact λz=>hm (hfm.trans z.2)) ⟨rfl,by rw[hs]⟩
 ·rintro ys S2 ⟨rfl,rfl⟩;rw[j7,TH];exact q _ _ G1.push G1.len c4
theorem Ry(ts:List Nat):CB (natS ts) (some (1:Int)) none=natS (ts.drop 1):=by
 unfold CB;rw[show(1:Int)=((1:Nat):Int) from rfl,HT.sIx_nat,HT.sIx_none];unfold natS;rw[<-Um];cases ts with
 | nil=>rfl
 | cons a ts=>
   rw[VH,VD,Sk,T7,show min 1 ((ts.map λ(i:Nat)=>SV.int i).length+1)=1 by omega,VH,VD,Nat.add_sub_cancel,TH]
theorem Px(hΔ:∀ f,MonoN (Δ f)){D:EndsS}{lt kc:Nat}{ts:List Nat}{acc:EE}{S:Sto}{o0 o1 o3:Option SV}(hc:S[kc]?=some (.lst (acc.map pairS)))(ht:S[lt]?=some (.lst (natS ts)))(hl:acc.length+ts.length<=10000)
 (q:∀ S':Sto,On kc S S'->S'[kc]?=some (.lst ((acc++cpH ts).map pairS))->D.nx [o0,o1,some (.loc kc),o3,some (.loc lt)] S'):wSs Δ [rc2] D [o0,o1,some (.loc kc),o3,some (.loc lt)] S:=by
 refine⟨_,rfl,⟨_,_,rfl,hc⟩,_,rfl,_,rfl,_,ht,?_⟩;rw[Ry];refine⟨_,a6 c4,?_⟩;have hc1:=f6 (o:=SO.lst (natS (ts.drop 1))) hc;have ht1:=f6 (o:=SO.lst (natS (ts.drop 1))) ht;have O1:On kc S (S++[SO.lst (natS (ts.drop 1))]):=(On.refl kc S).push;generalize S++[SO.lst (natS (ts.drop 1))]=S1 at *;refine c8 (c9 hΔ _).2 (a4 hΔ _).1 (λj ys S2=>S2=S1/\ys=(((ts.drop 1).take j).map λt=>(ts.getD 0 0,t)).map pairS) ⟨rfl,rfl⟩ (λ_ _ _ h=>by rw[h.1];exact rfl) ?_ ?_
 ·rintro j x ys S2 hx ⟨rfl,rfl⟩;obtain⟨t,htj,rfl⟩:=Ba hx;have hjl:=(gM htj).1;rw[Sw]at hjl
  have h0:ts[0]?=some (ts.getD 0 0):=by cases ts with
   | nil=>simp at hjl
   | cons a ts=>rfl
  refine⟨_,rfl,_,_,a6 ht1,j5 (j:=0) (m8 h0),_,rfl,by show 2<=100000;decide,by rw[S7,S7,Sv,Sw];show _<100000;omega,rfl,?_⟩;rw[TX,htj];simp[pairS]
 ·rintro ys S2 ⟨rfl,rfl⟩;rw[j7,TH];have hlt:kc≠S2.length:=SS (gM hc1).1;refine⟨_,_,f6 hc1,c4,by rw[S7,S7,S7,Sw];show _<=100000;omega,?_⟩;refine q _ (O1.push.tape) ?_;rw[l7 (f6 hc1),<-SM];rfl
theorem RS{t:Nat}{S S':Sto}(G:Gw S S'):On t S S':=⟨G.len,λk o _ h=>G.keep k o h⟩
noncomputable def Lw(s:Sn):Prop:=∀{n p:Nat} {es:EE} {S:Sto} {Q:QE},WebC n es->p<n->(∀(l:Nat) (S':Sto),Gw S S'->S.length<=l->S'[l]?=some (.lst ((cpR n es p).map pairS))->Q (.loc l) S')->s [c5 n es,.int (p:Nat)] S Q
theorem Py(hΔ:∀ f,MonoN (Δ f)){kt kf kp kw:Nat}(ht:Av (Δ kt))(hf:BY (Δ kf))(hpa:Bb (Δ kp))(hw:Bw (Δ kw)){D:Df}(hb:D.body=RQ kt kf kp kw)(hN:D.N.length=5)(hp':D.ps.length=2):Lw (i5 Δ D):=by
 intro n p es S Q H hp q;have hl:=H.len;have hfw:=H.few;unfold i5;rw[hb,hN];refine⟨hp'.symm,by show 0<=100000;decide,?_⟩;show wSs Δ [(.loop (.nm 3) (.seq (.call kp (.cons (.call kw (.cons (.var 0) (.cons (.var 1) .nil))) .nil))) [rc1 kt kf,rc2]),(.ret (.var 2))] (l6 Q) [some (c5 n es),some (.int (p:Nat)),some (.loc S.length),none,none] (S++[.lst []]);refine⟨_,rfl,_,rfl,hw (by omega) hp λS1 G1=>hpa (λe he=>H.en e (Hue.off_mem.mp he).1) (by have:=NY p es;omega) (by omega) λl ls S2 G2 l0 C up new=>⟨_,a6 C.top,?_⟩⟩;have hk2:S2[S.length]?=some (.lst []):=G2.keep _ _ (G1.keep _ _ c4);have GS:Gw S S2:=(Gw.refl S).push.trans (G1.trans G2);have lenS1:S.length<S1.length:=by have:=G1.len;rw[SA,Sr]at this;omega
 have ll:l≠S.length:=by omega
 have hrl:ls.length=(rootsL (Hue.mk n (Hue.off p es)) n).length:=by rw[C.len];unfold Ax;rw[S7]
 have tl:(e5 es p es.length).length<=es.length:=t3 _ _;refine i0 (f7 hΔ _) (λi ρ S'=>∃ o3 o4:Option SV,ρ=[some (c5 n es),some (.int (p:Nat)),some (.loc S.length),o3,o4]/\On S.length S2 S'/\S'[S.length]?=some (.lst ((cpT n es p ((rootsL (Hue.mk n (Hue.off p es)) n).take i)).map pairS))) ⟨none,none,rfl,On.refl _ _,hk2⟩ (λi ρ S' h=>?_) ?_ ?_
 ·obtain⟨o3,o4,e,O,h⟩:=h;show S'[l]?=S2[l]?;rw[C.top];exact O.keep _ _ ll C.top
 ·rintro i x ρ S' hx ⟨o3,o4,rfl,O,hk⟩;rw[SL]at hx;obtain⟨lp,hlp,rfl⟩:=Sx.mp hx;have hi:=(gM hlp).1;have hfi:=SC (show i<(rootsL (Hue.mk n (Hue.off p es)) n).length by omega);generalize (rootsL (Hue.mk n (Hue.off p es)) n)[i]'(by omega)=f at hfi;have row:=C.row i lp (clsF (Hue.mk n (Hue.off p es)) n f) hlp (by unfold Ax;rw[SL,hfi];rfl);have ne:lp≠S.length:=by have:=new lp (SB hlp);omega
  have b1:=EA n es p (((Uu i _).nodup) (y8 (Hue.mk n (Hue.off p es)) n));have b2:=Ng n es p f
  have e:cpT n es p ((rootsL (Hue.mk n (Hue.off p es)) n).take (i+1))=cpT n es p ((rootsL (Hue.mk n (Hue.off p es)) n).take i)++cpH (tsF n es p f):=by
   unfold cpT;rw[TX,hfi,Uk];simp
  refine Pw hΔ ht hf H hp (O.keep _ _ ne row) λlt S3 G3 hlt h3=>?_;refine Px hΔ (G3.keep _ _ hk) h3 (by omega) λS4 O4 h4=>?_;exact⟨_,_,rfl,O.trans ((RS G3).trans O4),by rw[h4,e]⟩
 ·rintro ρ S' ⟨o3,o4,rfl,O,hk⟩;rw[S7,hrl,TH]at hk;exact⟨_,rfl,q S.length S' ⟨Sj GS.len O.len,λk o h=>O.keep k o (SS (gM h).1) (GS.keep k o h)⟩ (SK _) hk⟩
noncomputable def IE(kc kp:Nat):List Stm:=[(.asg (.nm 1) (.comp2 ["place","couple"] ["web"] [0] (.nm 0) (.rng1 (.ix (.var 0) (.c (.int 0)))) .no (.nm 1) (.seq (.call kc (.cons (.var 2) (.cons (.var 0) .nil)))) .no (.var 1))),(.ret (.call kp (.cons (.tup (.cons (.bi .len (.cons (.ix (.var 0) (.c (.int 1))) .nil)) (.cons (.bi .tuple (.cons (.var 1) .nil)) .nil))) .nil)))]
noncomputable def D7(n:Nat)(es:EE):List (List Nat):=Ax (Hue.mk es.length (cpA n es n)) es.length
noncomputable def FX(s:Sn):Prop:=∀{n:Nat} {es:EE} {S:Sto} {Q:QE},WebC n es->(∀(l:Nat) (ls:List Nat) (S':Sto),Gw S S'->S.length<=l->Cls S' l ls (D7 n es)->ls.Pairwise (·<·)->(∀ k∈ls,S.length<=k/\k<l)->Q (.loc l) S')->s [c5 n es] S Q
theorem Lx(n:Nat)(es:EE)(p f:Nat):(tsF n es p f).Pairwise (·<·):=List.Pairwise.filter _ (List.Pairwise.filter _ UG)
theorem IF{ts:List Nat}{c:Nat×Nat}(up:ts.Pairwise (·<·))(h:c∈cpH ts):c.1∈ts/\c.2∈ts/\c.1<c.2:=by
 cases ts with
 | nil=>simp[cpH]at h
 | cons a ts=>
   unfold cpH at h;obtain⟨t,ht,rfl⟩:=Te.mp h;have ht:t∈ts:=ht;exact⟨SI ..,SG _ ht,(UA.mp up).1 t ht⟩
theorem mem_tsF{n p f t:Nat}{es:EE}:t∈tsF n es p f↔t∈e5 es p es.length/\By n es p t=f:=by
 unfold tsF;rw[Sm,dQ]
theorem mem_cpA{n:Nat}{es:EE}{c:Nat×Nat}:c∈cpA n es n↔∃ p f,p<n/\(f<n/\Hue.mk n (Hue.off p es) f=f)/\c∈cpH (tsF n es p f):=by
 unfold cpA cpR cpT rootsL;simp only[List.mem_flatMap,SX,Sm,dQ];constructor
 ·rintro⟨p,hp,f,hf,h⟩;exact⟨p,f,hp,hf,h⟩
 ·rintro⟨p,f,hp,hf,h⟩;exact⟨p,hp,f,hf,h⟩
theorem EB{n:Nat}{es:EE}:∀ c∈cpA n es n,c.1<c.2/\c.2<es.length:=λc hc=>by
 obtain⟨p,f,hp,hf,h⟩:=mem_cpA.mp hc;obtain⟨h1,h2,h3⟩:=IF (Lx n es p f) h;obtain⟨e,he,_⟩:=mem_tiesAt.mp (mem_tsF.mp h2).1;exact⟨h3,(gM he).1⟩
theorem JS(hΔ:∀ f,MonoN (Δ f)){kc kp:Nat}(hc:Lw (Δ kc))(hpa:Bb (Δ kp)){D:Df}(hb:D.body=IE kc kp)(hN:D.N.length=2)(hp':D.ps.length=1):FX (i5 Δ D):=by
 intro n es S Q H q;have hl:=H.len;have hfw:=H.few;unfold i5;rw[hb,hN];refine⟨hp'.symm,_,rfl,_,_,rfl,rfl,_,rfl,⟨by omega,by omega⟩,?_⟩;refine Gk (c9 hΔ _).2 (Au hΔ _) (c9 hΔ _).2 (a4 hΔ _).1 (λi ys S1=>Gw S S1/\i<=n/\ys=(cpA n es i).map pairS) ⟨Gw.refl S,Tf _,rfl⟩ (λ_ _ _ _=>trivial) ?_ ?_
 ·rintro i x ys S1 hx ⟨G1,_,rfl⟩;obtain⟨rfl,hi⟩:=i3 hx;rw[Tu]at hi ⊢;have hi:i<n:=by omega
  refine⟨_,rfl,_,rfl,hc H hi λl S2 G2 hl2 h2=>⟨_,a6 h2,?_⟩⟩;refine Gm (c9 hΔ _).2 (a4 hΔ _).1 (λj ρ ys S3=>∃ o,ρ=[some (.int (i:Int)),o,some (c5 n es)]/\S3=S2/\ys=(cpA n es i++(cpR n es i).take j).map pairS) ⟨none,rfl,rfl,by simp⟩ (λ_ _ _ _ h=>by obtain⟨_,_,h,_⟩:=h;rw[h];exact rfl) ?_ ?_
  ·rintro j x ρ ys S3 hx ⟨o,rfl,rfl,rfl⟩;obtain⟨e,he,rfl⟩:=v5 hx;have b1:=IC n es i;have b2:=EA n es i (y8 (Hue.mk n (Hue.off i es)) n);have b3:(e5 es i es.length).length<=es.length:=t3 _ _;have b4:=(gM he).1;have b5:(cpR n es i).length<=es.length:=Sj b2 b3;refine⟨_,rfl,by rw[S7,SA,Sv];show _<100000;omega,_,rfl,rfl,?_⟩;rw[TX,he];simp
  ·rintro ρ ys S3 ⟨o,rfl,rfl,rfl⟩;refine⟨G1.trans G2,hi,?_⟩;rw[S7,TH];unfold cpA;rw[TL,Uk];simp
 ·rintro ys S1 ⟨G1,_,rfl⟩;rw[i4,show((n:Int) - 0).toNat=n by omega];have b1:=IC n es n;refine⟨_,rfl,_,_,rfl,rfl,_,rfl,_,rfl,_,a6 c4,by show 2<=100000;decide,?_⟩
  have fin:∀ z:SV,z=c5 es.length (cpA n es n)->Δ kp [z] (S1++[.lst ((cpA n es n).map pairS)]) Q:=by
   rintro _ rfl;exact hpa EB (by omega) (by omega) λl ls S2 G2 l0 C up new=>q l ls S2 (G1.push.trans G2) (Sj (G1.push (o:=SO.lst ((cpA n es n).map pairS))).len l0) C up λk hk=>⟨Sj (G1.push (o:=SO.lst ((cpA n es n).map pairS))).len (new k hk).1,(new k hk).2⟩
  exact fin _ (by unfold c5;rw[S7])
end
theorem EC{n p t:Nat}{es:EE}{e:Nat×Nat}(he:es[t]?=some e):By n es p t=Hue.sg n es p e:=by
 unfold By Hue.sg E1 Hue.oth;rw[SQ,he];show Hue.mk n (Hue.off p es) (if p=e.1 then e.2 else e.1)=_;by_cases z:p=e.1
 ·rw[iP z,iP z.symm]
 ·rw[iG z,iG (λy=>z y.symm)]
theorem Ly{E:Nat}{cs:EE}(hn:∀ c∈cs,c.1<E/\c.2<E){ts:List Nat}(h:∀ c∈cpH ts,c∈cs):∀ t∈ts,Hue.mk E cs t=Hue.mk E cs (ts.getD 0 0):=by
 cases ts with
 | nil=>intro t ht;cases ht
 | cons a ts=>
   intro t ht;rcases SU.mp ht with rfl | ht
   ·rfl
   ·exact(Hue.mk_ends hn _ (h (a,t) (Te.mpr ⟨t,ht,rfl⟩))).symm
theorem Pz{n:Nat}{es:EE}(hen:∀ e∈es,e.1<e.2/\e.2<n):Hue.Cps n es (cpA n es n):=by
 have hn:∀ e∈es,e.1<n/\e.2<n:=λe he=>let ⟨a,b⟩:=hen e he;⟨Tz a b,b⟩
 have hc:∀ c∈cpA n es n,c.1<es.length/\c.2<es.length:=λc h=>let ⟨a,b⟩:=EB c h;⟨Tz a b,b⟩
 refine⟨EB,λc h=>?_,λt u e f v hv he hf h1 h2 hs=>?_⟩
 ·obtain⟨p,f,hp,hf,h⟩:=mem_cpA.mp h;obtain⟨h1,h2,h3⟩:=IF (Lx n es p f) h;obtain⟨m1,z1⟩:=mem_tsF.mp h1;obtain⟨m2,z2⟩:=mem_tsF.mp h2;obtain⟨e1,he1,p1⟩:=mem_tiesAt.mp m1;obtain⟨e2,he2,p2⟩:=mem_tiesAt.mp m2;rw[EC he1]at z1;rw[EC he2]at z2;exact⟨p,e1,e2,he1,he2,p1,p2,z1.trans z2.symm⟩
 ·have ol:Hue.oth e v<n:=by
   have:=hn e (SB he);unfold Hue.oth;split<;>omega
  have g1:t∈tsF n es v (Hue.sg n es v e):=mem_tsF.mpr ⟨mem_tiesAt.mpr ⟨e,he,h1⟩,EC he⟩;have g2:u∈tsF n es v (Hue.sg n es v e):=mem_tsF.mpr ⟨mem_tiesAt.mpr ⟨f,hf,h2⟩,(EC hf).trans hs.symm⟩;have all:=Ly hc (ts:=tsF n es v (Hue.sg n es v e)) λc h=>mem_cpA.mpr ⟨v,_,hv,⟨Hue.mk_lt (Hue.off_hn hn) ol,Hue.mk_mk (Hue.off_hn hn) ol⟩,h⟩;rw[all t g1,all u g2]
noncomputable def keyL(n:Nat)(es:EE)(t:Nat):List Int:=(SE n).map λx=>((Hue.sg n es x (es.getD t (0,0)):Nat):Int)
structure Lst(E:Nat)(M:Nat->Nat)(k:Nat->List Int):Prop where
 le:∀ t,t<E->M t<=t
 fix:∀ t,t<E->M (M t)=M t
 key:∀ t u,t<E->u<E->(k t=k u↔M t=M u)
theorem Nh{n:Nat}{es:EE}(hen:∀ e∈es,e.1<e.2/\e.2<n):Lst es.length (Hue.mk es.length (cpA n es n)) (keyL n es):=by
 have hn:∀ e∈es,e.1<n/\e.2<n:=λe he=>let ⟨a,b⟩:=hen e he;⟨Tz a b,b⟩
 have hc:∀ c∈cpA n es n,c.1<es.length/\c.2<es.length:=λc h=>let ⟨a,b⟩:=EB c h;⟨Tz a b,b⟩
 refine⟨λt ht=>Hue.mk_le hc ht,λt ht=>Hue.mk_mk hc ht,λt u ht hu=>?_⟩;rw[Hue.blk_iff hn (Pz hen) ht hu];have he:=SC ht;have hf:=SC hu;have ge:es.getD t (0,0)=es[t]:=by rw[SQ,he];rfl
 have gf:es.getD u (0,0)=es[u]:=by rw[SQ,hf];rfl
 unfold keyL;rw[ge,gf];constructor
 ·intro h e f he' hf' x hx;rw[he]at he';rw[hf]at hf';cases he';cases hf';have:=congrArg (λl=>l[x]?) h;simp only[SL,TZ hx,Ta]at this;exact T6.mp (oj this)
 ·intro h;exact U9 λx hx=>congrArg _ (h _ _ he hf x (SX.mp hx))
noncomputable def kvZ(k:Nat->List Int)(fs ls:List Nat):List (List Int×SV):=(fs.zip ls).map λp=>(k p.1,SV.loc p.2)
theorem Ni{k:Nat->List Int}{fs ls:List Nat}:(kvZ k fs ls).length<=fs.length:=by
 unfold kvZ;rw[S7,VA];omega
theorem Lz{k:Nat->List Int}{q:List Int}:∀{fs ls:List Nat},(∀ f∈fs,k f≠q)->Aq (kvZ k fs ls) q=none
 | [],_,_=>rfl
 | _::_,[],_=>rfl
 | f::fs,l::ls,h=>by
   have ih:=Lz (ls:=ls) λf' hf'=>h f' (SG _ hf');show Aq ((k f,SV.loc l)::kvZ k fs ls) q=none;unfold Aq at ih ⊢;rw[TF,decide_eq_false (h f (SI ..))];exact ih
theorem ED{k:Nat->List Int}{q:List Int}:∀{fs ls:List Nat} {j f l:Nat},fs[j]?=some f->ls[j]?=some l->k f=q->(∀ f'∈fs,k f'=q->f'=f)->fs.Nodup->Aq (kvZ k fs ls) q=some (.loc l)
 | [],_,_,_,_,h,_,_,_,_=>by simp at h
 | _::_,[],_,_,_,_,h,_,_,_=>by simp at h
 | g::fs,m::ls,0,f,l,h1,h2,e,_,_=>by
   simp at h1 h2;subst h1 h2;show Aq ((k g,SV.loc m)::kvZ k fs ls) q=_;unfold Aq;rw[TF,decide_eq_true e];rfl
 | g::fs,m::ls,j+1,f,l,h1,h2,e,u,nd=>by
   have h1:fs[j]?=some f:=by simpa using h1
   have h2:ls[j]?=some l:=by simpa using h2
   obtain⟨n1,n2⟩:=TK.mp nd;have ih:=ED h1 h2 e (λf' hf'=>u f' (SG _ hf')) n2;have ne:k g≠q:=λz=>n1 (by rw[u g (SI ..) z];exact SB h1);show Aq ((k g,SV.loc m)::kvZ k fs ls) q=_;unfold Aq at ih ⊢;rw[TF,decide_eq_false ne];exact ih
theorem M0{k:Nat->List Int}{fs ls:List Nat}{f l:Nat}(h:fs.length=ls.length):kvZ k (fs++[f]) (ls++[l])=kvZ k fs ls++[(k f,.loc l)]:=by
 unfold kvZ;rw[List.zip_append h,SM];rfl
section
variable{E:Nat}{M:Nat->Nat}{k:Nat->List Int}(L:Lst E M k)
include L
theorem Lst.new{i:Nat}(hi:i<E)(h:M i=i):rootsL M (i+1)=rootsL M i++[i]/\(∀ f∈rootsL M i,k f≠k i)/\clsF M (i+1) i=[i]/\∀ f∈rootsL M i,clsF M (i+1) f=clsF M i f:=by
 have low:∀ f∈rootsL M i,f<i/\M f=f:=λf hf=>by
  unfold rootsL at hf;rw[Sm,SX,dQ]at hf;exact hf
 refine⟨by unfold rootsL;rw[v6,iP (by simpa using h)],λf hf z=>?_,?_,λf hf=>?_⟩
 ·have:=low f hf;have:=(L.key f i (by omega) hi).mp z;omega
 ·unfold clsF;rw[v6,iP (by simpa using h),U1.mpr,UK];intro t ht z;have ht:=SX.mp ht;have:=L.le t (by omega);simp at z;omega
 ·have:=low f hf;unfold clsF;rw[v6,iG (by simp;omega),Su]
theorem Lst.old{i:Nat}(hi:i<E)(h:M i≠i):rootsL M (i+1)=rootsL M i/\M i∈rootsL M i/\k (M i)=k i/\(∀ f∈rootsL M i,k f=k i->f=M i)/\clsF M (i+1) (M i)=clsF M i (M i)++[i]/\∀ f∈rootsL M i,f≠M i->clsF M (i+1) f=clsF M i f:=by
 have low:∀ f∈rootsL M i,f<i/\M f=f:=λf hf=>by
  unfold rootsL at hf;rw[Sm,SX,dQ]at hf;exact hf
 have le:=L.le i hi;have fx:=L.fix i hi;refine⟨by unfold rootsL;rw[v6,iG (by simpa using h),Su],by unfold rootsL;rw[Sm,SX,dQ];exact⟨by omega,fx⟩,(L.key _ _ (by omega) hi).mpr fx,λf hf z=>?_,?_,λf hf ne=>?_⟩
 ·have:=low f hf;have:=(L.key f i (by omega) hi).mp z;omega
 ·unfold clsF;rw[v6,iP (by simp)]
 ·unfold clsF;rw[v6,iG (by simpa using λz=>ne z.symm),Su]
theorem Lst.head{n f:Nat}(hn:n<=E)(hf:f∈rootsL M n):∃ r,clsF M n f=f::r:=by
 unfold rootsL at hf;rw[Sm,SX,dQ]at hf;obtain⟨hl,h⟩:=hf;unfold clsF;have up:((SE n).filter λt=>decide (M t=f)).Pairwise (·<·):=List.Pairwise.filter _ UG;have mem:f∈(SE n).filter λt=>decide (M t=f):=by rw[Sm,SX,dQ];exact⟨hl,h⟩
 cases hz:(SE n).filter λt=>decide (M t=f) with
 | nil=>rw[hz]at mem;cases mem
 | cons a r=>
   rw[hz]at mem up;have ha:a∈(SE n).filter λt=>decide (M t=f):=by rw[hz];exact SI ..
   rw[Sm,SX,dQ]at ha;have:=L.le a (by omega);rcases SU.mp mem with e | e
   ·exact⟨r,by rw[e]⟩
   ·have:=(UA.mp up).1 f e;omega
end
theorem M1(M:Nat->Nat)(n:Nat):(rootsL M n).Pairwise (·<·):=List.Pairwise.filter _ UG
noncomputable def lb2(kb:Nat):Stm:=(.asg (.nm 2) (.comp ["_law_out"] ["_law_web_here"] [0] (.nm 0) (.rng1 (.ix (.var 0) (.c (.int 0)))) .no (.call kb (.cons (.var 1) (.cons (.var 0) .nil)))))
noncomputable def RT:Stm:=(.asg (.nm 7) (.ife (.cmp .NotEq (.ix (.var 4) (.c (.int 0))) (.var 6)) (.ix (.var 4) (.c (.int 0))) (.ix (.var 4) (.c (.int 1)))))
noncomputable def Q0:Stm:=(.expr (.mt .append (.var 5) (.cons (.dget (.ix (.var 2) (.var 6)) (.var 7)) .nil)))
noncomputable def lb4:Stm:=(.loop (.nm 6) (.rng1 (.ix (.var 0) (.c (.int 0)))) [RT,Q0])
noncomputable def lb5:Stm:=(.expr (.mt .append (.setdl (.var 1) (.bi .tuple (.cons (.var 5) .nil)) (.lst .nil)) (.cons (.var 3) .nil)))
noncomputable def lb6:Stm:=(.ret (.srtu (.comp ["_law_signs"] ["_law_told"] [1] (.nm 0) (.dtk (.var 1)) .no (.dgetl (.var 1) (.var 0)))))
noncomputable def ON(kb:Nat):List Stm:=[(.asg (.nm 1) .dnewl),lb2 kb,(.loop (.tup (.cons (.nm 3) (.cons (.nm 4) .nil))) (.enum (.ix (.var 0) (.c (.int 1)))) [(.asg (.nm 5) (.lst .nil)),lb4,lb5]),lb6]
structure RowsB(S:Sto)(n:Nat)(es:EE)(kr:Nat)(ks:List Nat):Prop where
 top:S[kr]?=some (.lst (ks.map SV.loc))
 len:ks.length=n
 row:∀ x k:Nat,ks[x]?=some k->S[k]?=some (.dct (kvL (keysI (x:Nat) n) (Hue.mk n (Hue.off x es))))
theorem RowsB.keep{S S':Sto}{n kr:Nat}{es:EE}{ks:List Nat}(R:RowsB S n es kr ks)(h:∀(k:Nat) (o:SO),(k=kr\/k∈ks)->S[k]?=some o->S'[k]?=some o):RowsB S' n es kr ks:=
 ⟨h _ _ (.inl rfl) R.top,R.len,λx k e=>h _ _ (.inr (SB e)) (R.row x k e)⟩
section
variable{Δ:Nat->Sn}
theorem Q1(hΔ:∀ f,MonoN (Δ f)){kb:Nat}(hbs:Bc (Δ kb)){D:EndsS}{rest:List Stm}{n:Nat}{es:EE}{S:Sto}{o1 o2 o3 o4 o5 o6 o7:Option SV}(H:WebC n es)
 (q:∀(kr:Nat) (ks:List Nat) (S':Sto),Gw S S'->S.length<=kr->(∀ k∈ks,S.length<=k)->RowsB S' n es kr ks->wSs Δ rest D [some (c5 n es),o1,some (.loc kr),o3,o4,o5,o6,o7] S'):wSs Δ (lb2 kb::rest) D [some (c5 n es),o1,o2,o3,o4,o5,o6,o7] S:=by
 have hf:=H.few;refine⟨_,rfl,_,_,rfl,rfl,_,rfl,⟨by omega,by omega⟩,?_⟩;refine c8 (c9 hΔ _).2 (a4 hΔ _).1 (λi ys S2=>Gw S S2/\∃ ks:List Nat,ys=ks.map SV.loc/\ks.length=i/\(∀ k∈ks,S.length<=k)/\∀ x k:Nat,ks[x]?=some k->S2[k]?=some (.dct (kvL (keysI (x:Nat) n) (Hue.mk n (Hue.off x es))))) ⟨Gw.refl S,[],rfl,rfl,(λ_ h=>nomatch h),λx k h=>by simp at h⟩ (λ_ _ _ _=>trivial) ?_ ?_
 ·rintro i x ys S2 hx ⟨G,ks,rfl,hl,hk,hr⟩;obtain⟨rfl,hi⟩:=i3 hx;rw[Tu]at hi ⊢;refine⟨_,rfl,_,rfl,hbs H λl S3 G3 l3 h3=>⟨by rw[S7];show _<100000;omega,G.trans G3,ks++[l],by rw[SM];rfl,by rw[SA,hl];rfl,λk hk'=>?_,λx k e=>?_⟩⟩
  ·rcases Sg.mp hk' with z | z
   ·exact hk k z
   ·rw[Sd.mp z];exact Sj G.len l3
  ·rcases C7 e with⟨e1,e2⟩ | e
   ·rw[e2,h3,e1,hl,Lm]
   ·exact G3.keep _ _ (hr x k e)
 ·rintro ys S2 ⟨G,ks,rfl,hl,hk,hr⟩;rw[i4]at hl;exact q _ ks _ G.push G.len hk ⟨c4,by rw[hl];omega,λx k e=>f6 (hr x k e)⟩
theorem Nj{n x:Nat}{e:Nat×Nat}(he:e.1<e.2/\e.2<n):Hue.oth e x∈keysI (x:Nat) n:=by
 unfold Hue.oth;rw[mem_keysI];split<;>constructor<;>omega
theorem Nk{D:EndsS}{n kr l5 x:Nat}{ks:List Nat}{es:EE}{e:Nat×Nat}{sg:List Int}{S:Sto}{o1 o3 o7:Option SV}(he:e.1<e.2/\e.2<n)(hx:x<n)(R:RowsB S n es kr ks)(hs:S[l5]?=some (.lst (sg.map SV.int)))(hl:sg.length<=1000)
 (q:∀(o7:Option SV) (S':Sto),On l5 S S'->S'[l5]?=some (.lst ((sg++[((Hue.sg n es x e:Nat):Int)]).map SV.int))->D.nx [some (c5 n es),o1,some (.loc kr),o3,some (pairS e),some (.loc l5),some (.int (x:Nat)),o7] S'):wSs Δ [RT,Q0] D [some (c5 n es),o1,some (.loc kr),o3,some (pairS e),some (.loc l5),some (.int (x:Nat)),o7] S:=by
 have hk:=SC (show x<ks.length by rw[R.len];exact hx)
 have go:∀ z:Int,z=(Hue.oth e x:Nat)->wSs Δ [Q0] D [some (c5 n es),o1,some (.loc kr),o3,some (pairS e),some (.loc l5),some (.int (x:Nat)),some (.int z)] S:=by
  rintro _ rfl;refine⟨_,rfl,⟨_,_,rfl,hs⟩,_,rfl,_,rfl,_,_,a6 R.top,j5 (by rw[SL,hk];rfl),_,rfl,_,_,_,E6 (R.row x _ hk),rfl,E7 (Nj he),_,hs,by rw[S7];show _<100000;omega,?_⟩;refine q _ _ (On.refl _ _).tape ?_;rw[l7 hs,SM];rfl
 refine⟨_,rfl,_,_,rfl,rfl,_,rfl,_,rfl,?_⟩;show if (!decide ((e.1:Int)=((x:Nat):Int)))=true then _ else _
 by_cases h:e.1=x
 ·exact ifF (by rw[h];simp) ⟨_,rfl,_,_,rfl,rfl,go _ (by unfold Hue.oth;rw[iP h])⟩
 ·exact ifT (by simpa using λz=>h (T6.mp z)) ⟨_,rfl,_,_,rfl,rfl,go _ (by unfold Hue.oth;rw[iG h])⟩
theorem Q2(hΔ:∀ f,MonoN (Δ f)){D:EndsS}{rest:List Stm}{n kr l5:Nat}{ks:List Nat}{es:EE}{e:Nat×Nat}{S:Sto}{o1 o3 o6 o7:Option SV}(he:e.1<e.2/\e.2<n)(hn:n<=100)(R:RowsB S n es kr ks)(h5:S[l5]?=some (.lst []))(n5:l5≠kr)(n5':l5∉ks)
 (q:∀(o6 o7:Option SV) (S':Sto),On l5 S S'->S'[l5]?=some (.lst (((SE n).map λx=>((Hue.sg n es x e:Nat):Int)).map SV.int))->wSs Δ rest D [some (c5 n es),o1,some (.loc kr),o3,some (pairS e),some (.loc l5),o6,o7] S'):wSs Δ (lb4::rest) D [some (c5 n es),o1,some (.loc kr),o3,some (pairS e),some (.loc l5),o6,o7] S:=by
 refine⟨_,rfl,_,_,rfl,rfl,_,rfl,⟨by omega,by omega⟩,?_⟩;refine i0 (f7 hΔ _) (λx ρ S'=>∃ o6 o7:Option SV,ρ=[some (c5 n es),o1,some (.loc kr),o3,some (pairS e),some (.loc l5),o6,o7]/\On l5 S S'/\S'[l5]?=some (.lst (((SE x).map λx=>((Hue.sg n es x e:Nat):Int)).map SV.int))) ⟨o6,o7,rfl,On.refl _ _,h5⟩ (λ_ _ _ _=>trivial) ?_ ?_
 ·rintro x y ρ S' hy ⟨o6,o7,rfl,O,hs⟩;obtain⟨rfl,hx⟩:=i3 hy;rw[Tu]at hx ⊢;have hx:x<n:=by omega
  have R':=R.keep (S':=S') λk o hk z=>O.keep k o (λw=>by rcases hk with hk | hk;exact n5 (w▸hk);exact n5' (w▸hk)) z;exact Nk he hx R' hs (by rw[S7,T9];omega) λo7 S2 O2 h2=>⟨_,_,rfl,O.trans O2,by rw[h2,TL,SM (l₂:=[x])];rfl⟩
 ·rintro ρ S' ⟨o6,o7,rfl,O,hs⟩;rw[i4,show((n:Int) - 0).toNat=n by omega]at hs;exact q _ _ S' O hs
structure Told(S:Sto)(kt b0 n:Nat)(es:EE)(M:Nat->Nat)(i:Nat)(ls:List Nat):Prop where
 top:S[kt]?=some (.dtl (kvZ (keyL n es) (rootsL M i) ls))
 len:ls.length=(rootsL M i).length
 row:∀ j l f:Nat,ls[j]?=some l->(rootsL M i)[j]?=some f->S[l]?=some (.lst (natS (clsF M i f)))
 up:ls.Pairwise (·<·)
 new:∀ l∈ls,b0<=l/\l<S.length
theorem Q3{D:EndsS}{n kt kr b0 l5 i:Nat}{es:EE}{M:Nat->Nat}{ls:List Nat}{S:Sto}{o0 o2 o4 o6 o7:Option SV}(L:Lst es.length M (keyL n es))(hi:i<es.length)(hel:es.length<=1000)(T:Told S kt b0 n es M i ls)(h5:S[l5]?=some (.lst ((keyL n es i).map SV.int)))(n5:l5∉ls)(kb:kt<b0)(bl:b0<=S.length)
 (q:∀(ls:List Nat) (S':Sto),S.length<=S'.length->(∀(k:Nat) (o:SO),k<b0->k≠kt->S[k]?=some o->S'[k]?=some o)->Told S' kt b0 n es M (i+1) ls->D.nx [o0,some (.loc kt),o2,some (.int (i:Nat)),o4,some (.loc l5),o6,o7] S'):wSs Δ [lb5] D [o0,some (.loc kt),o2,some (.int (i:Nat)),o4,some (.loc l5),o6,o7] S:=by
 have rl:(rootsL M i).length<=i:=t3 _ _;have kl:=Ni (k:=keyL n es) (fs:=rootsL M i) (ls:=ls);refine⟨_,rfl,_,_,rfl,T.top,_,rfl,_,a6 h5,by show 0<=100000;decide,keyL n es i,_,rfl,f6 T.top,by show _<100000;omega,λw hw=>?_,λhno=>?_⟩
 ·by_cases hM:M i=i
  ·obtain⟨_,no,_⟩:=L.new hi hM;rw[Lz no]at hw;cases hw
  ·obtain⟨e1,mem,ke,un,c1,c2⟩:=L.old hi hM;obtain⟨j,hj⟩:=TB mem;have jl:=(gM hj).1;have hl:=SC (show j<ls.length by rw[T.len];exact jl);generalize ls[j]'(by rw[T.len];exact jl)=l at hl;rw[ED hj hl ke un (y8 M i)]at hw;cases hw;have row:=T.row j l _ hl hj;have cl:(clsF M i (M i)).length<=i:=t3 _ _;have ln:=T.new l (SB hl);refine⟨⟨_,_,rfl,f6 row⟩,_,rfl,_,f6 row,by rw[j7];show _<100000;omega,?_⟩;have kp:∀(k:Nat) (o:SO),k≠l->S[k]?=some o->((S++[SO.lst []]).set l (.lst (natS (clsF M i (M i))++[.int (i:Nat)])))[k]?=some o:=λk o ne h=>by rw[AB (Ne.symm ne)];exact f6 h
   refine q ls _ (by rw[Sq,SA];omega) (λk o kb' _ h=>kp k o (by omega) h) ⟨?_,by rw[e1];exact T.len,λj' l' f' a b=>?_,T.up,λl' hl'=>?_⟩
   ·rw[e1];exact kp _ _ (by omega) T.top
   ·rw[e1]at b;by_cases hjj:j'=j
    ·subst hjj;rw[hl]at a;cases a;rw[hj]at b;cases b;rw[l7 (f6 row),c1,AS];rfl
    ·have ne:l'≠l:=λz=>hjj (by
      subst z;have nd:ls.Nodup:=T.up.imp λh=>SS h;exact(UE (gM a).1 nd).mp (a.trans hl.symm))
     have nf:f'≠M i:=λz=>hjj (by
      subst z;exact(UE (gM b).1 (y8 M i)).mp (b.trans hj.symm))
     rw[c2 f' (SB b) nf];exact kp _ _ ne (T.row j' l' f' a b)
   ·rw[Sq,SA];have:=T.new l' hl';exact⟨this.1,by omega⟩
 ·by_cases hM:M i=i
  ·obtain⟨e1,no,c0,c1⟩:=L.new hi hM;have kt2:kt≠S.length:=by omega
   have hn:((S++[SO.lst []]).set kt (.dtl (kvZ (keyL n es) (rootsL M i) ls++[(keyL n es i,.loc S.length)])))[S.length]?=some (.lst []):=by rw[AB kt2];exact c4
   refine⟨⟨_,_,rfl,hn⟩,_,rfl,_,hn,by show 0<100000;decide,?_⟩
   have kp:∀(k:Nat) (o:SO),k≠kt->S[k]?=some o->(((S++[SO.lst []]).set kt (.dtl (kvZ (keyL n es) (rootsL M i) ls++[(keyL n es i,.loc S.length)]))).set S.length (.lst ([]++[.int (i:Nat)])))[k]?=some o:=λk o ne h=>by
    have:=(gM h).1;rw[AB (by omega),AB (Ne.symm ne)];exact f6 h
   refine q (ls++[S.length]) _ (by rw[Sq,Sq,SA];omega) (λk o kb' ne h=>kp k o ne h) ⟨?_,by rw[e1,SA,SA,T.len];rfl,λj' l' f' a b=>?_,?_,λl' hl'=>?_⟩
   ·rw[AB (Ne.symm kt2),l7 (f6 T.top),e1,M0 T.len.symm]
   ·rw[e1]at b;rcases C7 a with⟨ea,rfl⟩ | a
    ·rcases C7 b with⟨_,rfl⟩ | b
     ·rw[l7 hn,c0];rfl
     ·have:=(gM b).1;have:=T.len;omega
    ·rcases C7 b with⟨eb,_⟩ | b
     ·have:=(gM a).1;have:=T.len;omega
     ·rw[c1 f' (SB b)];have:=T.new l' (SB a);exact kp _ _ (by omega) (T.row j' l' f' a b)
   ·rw[Uj];exact⟨T.up,by simp,λa ha b hb=>by rw[Sd.mp hb];exact(T.new a ha).2⟩
   ·rw[Sq,Sq,SA,Sr];rcases Sg.mp hl' with hl' | hl'
    ·have:=T.new l' hl';omega
    ·rw[Sd.mp hl'];omega
  ·obtain⟨e1,mem,ke,un,c1,c2⟩:=L.old hi hM;obtain⟨j,hj⟩:=TB mem;have jl:=(gM hj).1;have hl:=SC (show j<ls.length by rw[T.len];exact jl);rw[ED hj hl ke un (y8 M i)]at hno;cases hno
end
theorem Nl{k:Nat->List Int}:∀{fs ls:List Nat} {j:Nat} {p:List Int×SV},(kvZ k fs ls)[j]?=some p->∃ f l,fs[j]?=some f/\ls[j]?=some l/\p=(k f,.loc l):=by
 intro fs ls j p h;unfold kvZ at h;rw[SL]at h;obtain⟨⟨f,l⟩,hz,rfl⟩:=Sx.mp h;rw[List.getElem?_zip_eq_some]at hz;exact⟨f,l,hz.1,hz.2,rfl⟩
theorem Told.stay{S S':Sto}{kt b0 n i:Nat}{es:EE}{M:Nat->Nat}{ls:List Nat}(T:Told S kt b0 n es M i ls)(hl:S.length<=S'.length)(h:∀(k:Nat) (o:SO),k<S.length->S[k]?=some o->S'[k]?=some o):Told S' kt b0 n es M i ls:=
 ⟨h _ _ (gM T.top).1 T.top,T.len,λj l f a b=>h _ _ (T.new l (SB a)).2 (T.row j l f a b),T.up,λl hl'=>let ⟨a,b⟩:=T.new l hl';⟨a,Se b hl⟩⟩
section
variable{Δ:Nat->Sn}
theorem Q4(hΔ:∀ f,MonoN (Δ f)){n kt b0 E:Nat}{es:EE}{M:Nat->Nat}{ls:List Nat}{S:Sto}{Q:QE}{o0 o2 o3 o4 o5 o6 o7:Option SV}(L:Lst E M (keyL n es))(hE:E<=1000)(T:Told S kt b0 n es M E ls)(kb:kt<b0)
 (q:∀(l:Nat) (S':Sto),(∀(k:Nat) (o:SO),k≠kt->S[k]?=some o->S'[k]?=some o)->S.length<=S'.length->S.length<=l->S'[l]?=some (.lst (ls.map SV.loc))->Q (.loc l) S'):wSs Δ [lb6] (l6 Q) [o0,some (.loc kt),o2,o3,o4,o5,o6,o7] S:=by
 have fl:(rootsL M E).length<=E:=t3 _ _;refine⟨_,rfl,_,_,rfl,T.top,λo us=>?_⟩;have h2:(S.set kt (.dtf o us (kvZ (keyL n es) (rootsL M E) ls)))[kt]?=some (.dtf o us (kvZ (keyL n es) (rootsL M E) ls)):=l7 T.top;have k2:∀(k:Nat) (u:SO),k≠kt->S[k]?=some u->(S.set kt (.dtf o us (kvZ (keyL n es) (rootsL M E) ls)))[k]?=some u:=λk u ne h=>by rw[AB (Ne.symm ne)];exact h
 have l2:(S.set kt (.dtf o us (kvZ (keyL n es) (rootsL M E) ls))).length=S.length:=Sq ..;generalize S.set kt (.dtf o us (kvZ (keyL n es) (rootsL M E) ls))=S2 at *
 have low:∀ f∈rootsL M E,f<E/\M f=f:=λf hf=>by
  unfold rootsL at hf;rw[Sm,SX,dQ]at hf;exact hf
 refine c8 (c9 hΔ _).2 (a4 hΔ _).1 (λj ys S3=>S3=S2/\ys=(ls.take j).map SV.loc) ⟨rfl,rfl⟩ (λ_ _ _ h=>by rw[h.1];exact h2) ?_ ?_
 ·rintro j x ys S3 hx ⟨rfl,rfl⟩;rw[SL]at hx;obtain⟨p,hp,rfl⟩:=Sx.mp hx;obtain⟨f,l,hf,hl,rfl⟩:=Nl hp;have hjl:=(gM hl).1;have lf:=low f (SB hf);refine⟨_,rfl,_,rfl,_,_,keyL n es f,_,rfl,.inr ⟨_,_,h2⟩,rfl,ED hf hl rfl (λf' hf' z=>?_) (y8 M E),by rw[S7,Sv];show _<100000;have:=T.len;omega,rfl,?_⟩
  ·have lf':=low f' hf';have:=(L.key f' f lf'.1 lf.1).mp z;rw[<-lf.2,<-lf'.2,this]
  ·rw[TX,hl,SM];rfl
 ·rintro ys S3 ⟨rfl,rfl⟩
  have e:(Ug (λp:List Int×SV=>SV.tup (p.1.map SV.int)) (kvZ (keyL n es) (rootsL M E) ls)).length=ls.length:=by
   unfold kvZ;rw[S7,S7,VA,T.len];omega
  rw[e,TH];refine⟨_,ls,λi=>(((rootsL M E).getD i 0:Nat):Int),λi=>natS ((clsF M E ((rootsL M E).getD i 0)).drop 1),rfl,c4,λi l hl=>?_,λi j hij hj=>?_,?_⟩
  ·have hi:=(gM hl).1;have hf:=SC (show i<(rootsL M E).length by rw[<-T.len];exact hi);have hg:(rootsL M E).getD i 0=(rootsL M E)[i]'(by rw[<-T.len];exact hi):=by rw[SQ,hf];rfl
   show(S3++[SO.lst (ls.map SV.loc)])[l]?=some (.lst (.int (((rootsL M E).getD i 0:Nat):Int)::natS ((clsF M E ((rootsL M E).getD i 0)).drop 1)));rw[hg];generalize (rootsL M E)[i]'(by rw[<-T.len];exact hi)=f at *;have row:=T.row i l f hl hf;obtain⟨r,hr⟩:=L.head (SK _) (SB hf);have ln:=T.new l (SB hl);rw[f6 (k2 l _ (by omega) row),hr];rfl
  ·have hj':j<(rootsL M E).length:=by rw[<-T.len];exact hj
   have g1:(rootsL M E).getD i 0=(rootsL M E)[i]'(by omega):=by rw[SQ,SC (show i<(rootsL M E).length by omega)];rfl
   have g2:(rootsL M E).getD j 0=(rootsL M E)[j]'hj':=by rw[SQ,SC hj'];rfl
   show(((rootsL M E).getD i 0:Nat):Int)<(((rootsL M E).getD j 0:Nat):Int);rw[g1,g2];exact Int.ofNat_lt.mpr (List.pairwise_iff_getElem.mp (M1 M E) i j (by omega) hj' hij)
  ·exact q _ _ (λk u ne h=>f6 (f6 (k2 k u ne h))) (by rw[SA,SA,l2];omega) (by rw[SA,l2];omega) c4
noncomputable def FY(s:Sn):Prop:=∀{n:Nat} {es:EE} {S:Sto} {Q:QE},WebC n es->(∀(l:Nat) (ls:List Nat) (S':Sto),Gw S S'->Cls S' l ls (D7 n es)->S.length<=l->(∀ k∈ls,S.length<=k)->Q (.loc l) S')->s [c5 n es] S Q
theorem JT(hΔ:∀ f,MonoN (Δ f)){kb:Nat}(hbs:Bc (Δ kb)){D:Df}(hb:D.body=ON kb)(hN:D.N.length=8)(hp:D.ps.length=1):FY (i5 Δ D):=by
 intro n es S Q H q;have hfw:=H.few;have hel:=H.len;have L:=Nh H.en;unfold D7 at q;generalize Hue.mk es.length (cpA n es n)=M at *;unfold i5;rw[hb,hN];refine⟨hp.symm,?_⟩;show wSs Δ [lb2 kb,(.loop (.tup (.cons (.nm 3) (.cons (.nm 4) .nil))) (.enum (.ix (.var 0) (.c (.int 1)))) [(.asg (.nm 5) (.lst .nil)),lb4,lb5]),lb6] (l6 Q) [some (c5 n es),some (.loc S.length),none,none,none,none,none,none] (S++[.dtl []]);refine Q1 hΔ hbs H λkr ks S2 G2 hkr hks R=>?_;have hkt:S2[S.length]?=some (.dtl []):=G2.keep _ _ c4;have ktl:=(gM hkt).1;have krl:=(gM R.top).1;rw[SA,Sr]at hkr hks
 have ksl:∀ k∈ks,k<S2.length:=λk hk=>by
  obtain⟨x,hx⟩:=TB hk;exact(gM (R.row x k hx)).1
 refine⟨_,rfl,_,_,rfl,rfl,_,rfl,?_⟩
 refine i0 (f7 hΔ _) (λi ρ S'=>∃(o3 o4 o5 o6 o7:Option SV) (ls:List Nat),ρ=[some (c5 n es),some (.loc S.length),some (.loc kr),o3,o4,o5,o6,o7]/\S2.length<=S'.length/\(∀(k:Nat) (o:SO),k<S2.length->k≠S.length->S2[k]?=some o->S'[k]?=some o)/\Told S' S.length S2.length n es M i ls)
  ⟨none,none,none,none,none,[],rfl,SK _,λ_ _ _ _ h=>h,⟨hkt,rfl,λj l f h=>by simp at h,.nil,λ_ h=>nomatch h⟩⟩ (λ_ _ _ _=>trivial) ?_ ?_
 ·rintro i x ρ S' hx ⟨o3,o4,o5,o6,o7,ls,rfl,sl,kp,T⟩;obtain⟨y,hy,rfl⟩:=LS hx;obtain⟨e,he,rfl⟩:=v5 hy;have hi:=(gM he).1;have hee:=H.en e (SB he);refine⟨by show 0<=100000;decide,?_⟩;have RB:RowsB (S'++[SO.lst []]) n es kr ks:=R.keep λk o hk h=>f6 (kp k o (hk.elim (λz=>by omega) λz=>ksl k z) (hk.elim (λz=>by omega) λz=>by have:=hks k z;omega) h);refine Q2 hΔ hee hfw RB c4 (by omega) (λz=>by have:=ksl _ z;omega) λo6 o7 S4 O4 h4=>?_;have T4:Told S4 S.length S2.length n es M i ls:=T.stay (by have:=O4.len;rw[SA]at this;omega) λk o kl h=>O4.keep k o (SS kl) (f6 h);have l4:S'.length<S4.length:=by have:=O4.len;rw[SA,Sr]at this;omega
  have ek:keyL n es i=(SE n).map λx=>((Hue.sg n es x e:Nat):Int):=by
   unfold keyL;rw[SQ,he];rfl
  rw[<-ek]at h4;refine Q3 (kr:=kr) L hi (by omega) T4 h4 (λz=>by have:=T.new _ z;omega) (by omega) (by omega) λls' S5 len5 kp5 T5=>?_;exact⟨_,_,_,_,_,ls',rfl,by omega,λk o kb ne h=>kp5 k o kb ne (O4.keep k o (by omega) (f6 (kp k o kb ne h))),T5⟩
 ·rintro ρ S' ⟨o3,o4,o5,o6,o7,ls,rfl,sl,kp,T⟩;rw[Hv,S7]at T;refine Q4 hΔ L (by omega) T (by omega) λl S5 kp5 len5 l5 h5=>?_;refine q l ls S5 ⟨?_,λk o h=>?_⟩ ⟨h5,by rw[T.len,show(Ax M es.length).length=(rootsL M es.length).length from S7 ..],λj k c a b=>?_⟩ (by omega) λk hk=>by have:=T.new k hk;omega
  ·have:=G2.len;rw[SA]at this;omega
  ·have kl:=(gM h).1;exact kp5 k o (by omega) (kp k o (by omega) (by omega) (G2.keep _ _ (f6 h)))
  ·have kn:=T.new k (SB a);unfold Ax at b;rw[SL]at b;obtain⟨f,hf,rfl⟩:=Sx.mp b;exact kp5 k _ (by omega) (T.row j k f a hf)
end
noncomputable def ll1:Stm:=(.iff (.or (.not (.bi .isi (.cons (.var 0) (.cons (.tyc .list) .nil)))) (.not (.bi .all (.cons (.comp ["_law_row"] [] [] (.nm 0) (.seq (.var 0)) .no (.bi .isi (.cons (.var 0) (.cons (.tyc .list) .nil)))) .nil)))) [(.ret (.c (.bl false)))] [])
noncomputable def ll2:Stm:=(.iff (.like true (.var 0) (.var 1)) [(.ret (.c (.bl false)))] [])
noncomputable def RU:Stm:=(.iff (.bi .any (.cons (.comp ["_law_tie"] [] [] (.nm 0) (.seq (.var 2)) .no (.bi .isi (.cons (.var 0) (.cons (.tyc .bool) .nil)))) .nil)) [(.ret (.c (.bl false)))] [])
noncomputable def RV:Stm:=(.expr (.mt .append (.var 2) (.cons (.neg (.c (.int 1))) .nil)))
noncomputable def ll3:Stm:=(.loop (.nm 2) (.seq (.var 0)) [RU,RV])
noncomputable def ll4:Stm:=(.ret (.like false (.comp ["_law_row"] [] [] (.nm 0) (.seq (.var 0)) .no (.slc (.var 0) .no (.yes (.neg (.c (.int 1)))))) (.var 1)))
noncomputable def M3:List Stm:=[ll1,ll2,ll3,ll4]
noncomputable def IG(s:Sn):Prop:=∀{lf ld:Nat} {lsf lsd:List Nat} {cs:List (List Nat)} {S:Sto} {Q:QE},Cls S lf lsf cs->Cls S ld lsd cs->lsf.Pairwise (·<·)->(∀ k∈lsf,k<lf/\k≠ld/\k∉lsd)->cs.length<=1000->(∀ c∈cs,c.length<=900)->
 (∀ S':Sto,S.length<=S'.length->(∀(k:Nat) (o:SO),k∉lsf->S[k]?=some o->S'[k]?=some o)->Q (.bl true) S')->s [.loc lf,.loc ld] S Q
theorem M4(c:List Nat):natS c=(c.map λ(i:Nat)=>(i:Int)).map SV.int:=by unfold natS;rw[UO];rfl
theorem RW{xs:List SV}{y:SV}:CB (xs++[y]) none (some (-1:Int))=xs:=by
 unfold CB;rw[HT.sIx_none,List.drop_zero]
 have:HT.sIx (xs++[y]).length (xs++[y]).length (some (-1:Int))=xs.length:=by
  rw[SA,Sr];unfold HT.sIx;dsimp only;rw[iP (by decide)];omega
 rw[this,VO,List.take_left]
section
variable{Δ:Nat->Sn}
theorem Cls.fun_row{S:Sto}{l:Nat}{ls:List Nat}{cs:List (List Nat)}(C:Cls S l ls cs)(i t:Nat)(h:ls[i]?=some t):S[t]?=some (.lst (((cs.getD i []).map λ(i:Nat)=>(i:Int)).map SV.int)):=by
 have hi:=(gM h).1;have hc:=SC (show i<cs.length by rw[<-C.len];exact hi);have hg:cs.getD i []=cs[i]'(by rw[<-C.len];exact hi):=by rw[SQ,hc];rfl
 rw[hg,<-M4];exact C.row i t _ h hc
theorem Cls.stay{S S':Sto}{l:Nat}{ls:List Nat}{cs:List (List Nat)}(C:Cls S l ls cs)(h:∀(k:Nat) (o:SO),(k=l\/k∈ls)->S[k]?=some o->S'[k]?=some o):Cls S' l ls cs:=
 ⟨h _ _ (.inl rfl) C.top,C.len,λi k c a b=>h _ _ (.inr (SB a)) (C.row i k c a b)⟩
theorem Nm(hΔ:∀ f,MonoN (Δ f)){D:EndsS}{k:Nat}{c:List Nat}{S:Sto}{o0 o1:Option SV}(hr:S[k]?=some (.lst (natS c)))(hl:c.length<=1000)
 (q:∀ S':Sto,On k S S'->S'[k]?=some (.lst (natS c++[.int (-1)]))->D.nx [o0,o1,some (.loc k)] S'):wSs Δ [RU,RV] D [o0,o1,some (.loc k)] S:=by
 refine⟨_,rfl,_,a6 hr,?_⟩;refine FM hΔ (b:=false) (by rw[j7];omega) (λS' G=>by show S'[k]?=S[k]?;rw[hr,G.keep _ _ hr]) ?_ ?_
 ·intro j y S' hy G;obtain⟨p,_,rfl⟩:=Ba hy;exact⟨_,rfl,_,nofun,rfl,rfl,G⟩
 intro S4 G4;refine⟨_,_,nofun,a6 c4,LW _ _,_,rfl,ifF (NV _) (y6 ?_)⟩;have h4:=f6 (o:=SO.lst (SJ (natS c).length (.bl false))) (G4.keep _ _ hr);refine⟨_,rfl,⟨_,_,rfl,h4⟩,_,h4,by rw[j7];show _<100000;omega,?_⟩;exact q _ (RS G4).push.tape (l7 h4)
theorem M5(hΔ:∀ f,MonoN (Δ f)){D:Df}(hb:D.body=M3)(hN:D.N.length=3)(hp:D.ps.length=2):IG (i5 Δ D):=by
 intro lf ld lsf lsd cs S Q C C' up dis hcl hcc q;unfold i5;rw[hb,hN];have ll:=C.len;have nlf:lf∉lsf:=λz=>Tj _ (dis lf z).1;have nld:ld∉lsf:=λz=>(dis ld z).2.1 rfl;have nd:lsf.Nodup:=up.imp λh=>SS h;refine⟨hp.symm,_,rfl,_,nofun,LM C.top,_,rfl,ifF rfl ⟨_,rfl,_,a6 C.top,?_⟩⟩;refine FM hΔ (b:=true) (by rw[S7];omega) (λS' G=>by show S'[lf]?=S[lf]?;rw[C.top,G.keep _ _ C.top]) ?_ ?_
 ·intro j y S' hy G;rw[SL]at hy;obtain⟨k,hk,rfl⟩:=Sx.mp hy;exact⟨_,rfl,_,nofun,LM (G.keep _ _ (C.fun_row j k hk)),rfl,G⟩
 intro S1 G1;refine⟨_,_,nofun,a6 c4,LW _ _,_,rfl,ifF (by rw[NU];rfl) (y6 ?_)⟩;have G2:Gw S (S1++[SO.lst (SJ (lsf.map SV.loc).length (.bl true))]):=G1.push;generalize S1++[SO.lst (SJ (lsf.map SV.loc).length (.bl true))]=S2 at *;have C2:Cls S2 lf lsf cs:=C.stay λk o _ h=>G2.keep k o h;have C2':Cls S2 ld lsd cs:=C'.stay λk o _ h=>G2.keep k o h;refine⟨_,rfl,_,rfl,lf,ld,lsf,lsd,λi=>(cs.getD i []).map λ(i:Nat)=>(i:Int),rfl,rfl,C2.top,C2'.top,by rw[C.len,C'.len],C2.fun_row,C2'.fun_row,_,rfl,ifF rfl (y6 ?_)⟩;refine⟨_,rfl,_,a6 C2.top,?_⟩;refine i0 (f7 hΔ _) (λi ρ S'=>∃ o2:Option SV,ρ=[some (.loc lf),some (.loc ld),o2]/\S2.length<=S'.length/\(∀(k:Nat) (o:SO),k∉lsf->S2[k]?=some o->S'[k]?=some o)/\∀(j k:Nat) (c:List Nat),lsf[j]?=some k->cs[j]?=some c->S'[k]?=some (.lst (natS c++if j<i then [.int (-1)] else []))) ⟨none,rfl,SK _,λ_ _ _ h=>h,λj k c a b=>by rw[iG (Nat.not_lt_zero _),Su];exact C2.row j k c a b⟩ (λi ρ S' h=>?_) ?_ ?_
 ·obtain⟨o2,_,sl,kp,_⟩:=h;show S'[lf]?=S2[lf]?;rw[C2.top];exact kp _ _ nlf C2.top
 ·rintro i x ρ S' hx ⟨o2,rfl,sl,kp,rows⟩;rw[SL]at hx;obtain⟨k,hk,rfl⟩:=Sx.mp hx;have hi:=(gM hk).1;have hc:=SC (show i<cs.length by omega);generalize cs[i]'(by omega)=c at hc;have row:=rows i k c hk hc;rw[iG (Tj _),Su]at row;have cl:=hcc c (SB hc);refine Nm hΔ row (by omega) λS3 O3 h3=>⟨_,rfl,Sj sl O3.len,λk' o nk h=>O3.keep k' o (λz=>nk (by rw[z];exact SB hk)) (kp k' o nk h),λj k' c' a b=>?_⟩
  by_cases hj:j=i
  ·subst hj;rw[hk]at a;cases a;rw[hc]at b;cases b;rw[iP (V5 _)];exact h3
  ·have ne:k'≠k:=λz=>hj (by
    subst z;exact(UE (gM a).1 nd).mp (a.trans hk.symm))
   have:=O3.keep k' _ ne (rows j k' c' a b);rw[this];by_cases z:j<i
   ·rw[iP z,iP (by omega)]
   ·rw[iG z,iG (by omega)]
 ·rintro ρ S' ⟨o2,rfl,sl,kp,rows⟩;rw[S7]at rows;have top:=kp _ _ nlf C2.top;refine⟨_,rfl,_,a6 top,?_⟩;refine c8 (c9 hΔ _).2 (a4 hΔ _).1 (λi ys S3=>Gw S' S3/\∃ zs:List Nat,ys=zs.map SV.loc/\zs.length=i/\∀(j z:Nat) (c:List Nat),zs[j]?=some z->cs[j]?=some c->S3[z]?=some (.lst (natS c))) ⟨Gw.refl S',[],rfl,rfl,λj z c h=>by simp at h⟩ (λ_ _ S3 h=>by show S3[lf]?=S'[lf]?;rw[top];exact h.1.keep _ _ top) ?_ ?_
  ·rintro i x ys S3 hx ⟨G3,zs,rfl,zl,zr⟩;rw[SL]at hx;obtain⟨k,hk,rfl⟩:=Sx.mp hx;have hi:=(gM hk).1;have hc:=SC (show i<cs.length by omega);generalize cs[i]'(by omega)=c at hc;have row:=G3.keep _ _ (rows i k c hk hc);rw[iP hi]at row;refine⟨_,rfl,_,rfl,_,row,by rw[S7];show _<100000;omega,G3.push,zs++[S3.length],by rw[SM];rfl,by rw[SA,zl];rfl,λj z c' a b=>?_⟩;rw[show CB (natS c++[.int (-1)]) none (some (-(1:Int)))=natS c from RW];rcases C7 a with⟨e1,rfl⟩ | a
   ·rw[e1,zl,hc]at b;cases b;exact c4
   ·exact f6 (zr j z c' a b)
  ·rintro ys S3 ⟨G3,zs,rfl,zl,zr⟩;rw[S7]at zl;have CD:Cls (S3++[SO.lst (zs.map SV.loc)]) ld lsd cs:=C2'.stay λk o hk h=>f6 (G3.keep k o (kp k o (λz=>hk.elim (λy=>nld (y▸z)) λy=>(dis k z).2.2 y) h));have CZ:Cls (S3++[SO.lst (zs.map SV.loc)]) S3.length zs cs:=⟨c4,by omega,λj z c a b=>f6 (zr j z c a b)⟩
   refine⟨_,rfl,S3.length,ld,zs,lsd,λi=>(cs.getD i []).map λ(i:Nat)=>(i:Int),rfl,rfl,CZ.top,CD.top,by rw[CZ.len,CD.len],CZ.fun_row,CD.fun_row,?_⟩;refine q _ ?_ λk o nk h=>f6 (G3.keep k o (kp k o nk (G2.keep k o h)));have:=G2.len;have:=G3.len;rw[SA];omega
end
end Rf
namespace Hue
open PySem L2 Rf
noncomputable def Lc:Stm:=(.iff (.and (.cmp .Eq (.var 1) (.c (.int 0))) (.cmp .Eq (.call 13 (.cons (.var 2) (.cons (.c (.int 16)) .nil))) (.c (.int 0)))) [(.asg (.nm 3) (.call 22 (.cons (.var 2) .nil)))] [])
noncomputable def Ld:Stm:=(.asg (.nm 4) (.call 21 (.cons (.var 3) .nil)))
noncomputable def Le:Stm:=(.iff (.or (.not (.call 23 (.cons (.call 11 (.cons (.var 3) .nil)) (.cons (.var 4) .nil)))) (.not (.call 23 (.cons (.call 11 (.cons (.var 3) .nil)) (.cons (.var 4) .nil))))) [(.ret (.c (.bl false)))] [])
noncomputable def Lf:Stm:=(.asg (.nm 5) (.tup (.cons (.ix (.var 3) (.c (.int 0))) (.cons (.op .Add (.ix (.var 3) (.c (.int 1))) (.op .Mult (.ix (.var 3) (.c (.int 1))) (.bi .int (.cons (.cmp .Lt (.bi .len (.cons (.ix (.var 3) (.c (.int 1))) .nil)) (.c (.int 40))) .nil)))) .nil))))
noncomputable def Lg:Stm:=(.iff (.not (.call 23 (.cons (.call 11 (.cons (.var 5) .nil)) (.cons (.call 21 (.cons (.var 5) .nil)) .nil)))) [(.ret (.c (.bl false)))] [])
noncomputable def top(i:Nat):Stmt:=PySem.Challenge.pw_huedties_k69_blocks.main.body.getD i (.Pass ⟨0,0,0,0⟩)
noncomputable def b0:List Stm:=LQ
noncomputable def d0:Df:=⟨"is_number",top 5,["thing"],["thing"],b0⟩
noncomputable def b1:List Stm:=DT 0
noncomputable def d1:Df:=⟨"has_place",top 7,["web","place"],["web","place"],b1⟩
noncomputable def b2:List Stm:=Hs 0
noncomputable def d2:Df:=⟨"has_tie",top 8,["web","tie"],["web","tie"],b2⟩
noncomputable def b3:List Stm:=Dz 1
noncomputable def d3:Df:=⟨"check_place",top 9,["web","place"],["web","place"],b3⟩
noncomputable def b4:List Stm:=Dz 2
noncomputable def d4:Df:=⟨"check_tie",top 10,["web","tie"],["web","tie"],b4⟩
noncomputable def b5:List Stm:=Ht 3
noncomputable def d5:Df:=⟨"ties_at",top 11,["web","place"],["web","place"],b5⟩
noncomputable def b6:List Stm:=Hu 4
noncomputable def d6:Df:=⟨"far_end",top 12,["web","tie","place"],["web","tie","place","one","other"],b6⟩
noncomputable def b7:List Stm:=LU
noncomputable def d7:Df:=⟨"parts",top 13,["web"],["web","least","one","other","low","high"],b7⟩
noncomputable def b8:List Stm:=OI 4
noncomputable def d8:Df:=⟨"only",top 14,["web","ties"],["web","ties","tie"],b8⟩
noncomputable def b9:List Stm:=FS 5 8
noncomputable def d9:Df:=⟨"without",top 16,["web","place"],["web","place","around"],b9⟩
noncomputable def b10:List Stm:=RQ 5 6 7 9
noncomputable def d10:Df:=⟨"couples_by_rings",top 17,["web","place"],["web","place","couples","part","ties"],b10⟩
noncomputable def b11:List Stm:=IE 10 7
noncomputable def d11:Df:=⟨"blocks",top 18,["web"],["web","couples"],b11⟩
noncomputable def b12:List Stm:=OF
noncomputable def d12:Df:=⟨"_law_tape",top 20,["_law_script","_law_k"],["_law_script","_law_k","_law_cell","_law_digits"],b12⟩
noncomputable def b13:List Stm:=OG
noncomputable def d13:Df:=⟨"_law_draw",top 21,["_law_tape_here","_law_many"],["_law_tape_here","_law_many","_law_found","_law_once"],b13⟩
noncomputable def b14:List Stm:=LO 13
noncomputable def d14:Df:=⟨"_law_pairs_by",top 22,["_law_tape_here","_law_great"],["_law_tape_here","_law_great","_law_way","_law_many","_law_found","_law_turn","_law_one","_law_k","_law_sides"],b14⟩
noncomputable def b15:List Stm:=RO 13 14
noncomputable def d15:Df:=⟨"_law_web",top 23,["_law_tape_here","_law_great"],["_law_tape_here","_law_great","_law_many","_law_pairs","_law_ties","_law_one","_law_other"],b15⟩
noncomputable def b16:List Stm:=OK 13 15
noncomputable def d16:Df:=⟨"_law_some_web",top 24,["_law_tape_here"],["_law_tape_here"],b16⟩
noncomputable def b17:List Stm:=I0 13
noncomputable def d17:Df:=⟨"_law_joined",top 25,["_law_tape_here","_law_one","_law_other"],["_law_tape_here","_law_one","_law_other","_law_at","_law_spot","_law_names","_law_ties","_law_pair","_law_here"],b17⟩
noncomputable def b18:List Stm:=Lq 13
noncomputable def d18:Df:=⟨"_law_rings",top 26,["_law_tape_here"],["_law_tape_here","_law_ties","_law_last","_law_turn","_law_more","_law_row","_law_pair"],b18⟩
noncomputable def b19:List Stm:=Ct 13 15 17 18
noncomputable def d19:Df:=⟨"_law_joined_web",top 27,["_law_tape_here"],["_law_tape_here","_law_web_here","_law_turn","_law_more"],b19⟩
noncomputable def b20:List Stm:=Hx
noncomputable def d20:Df:=⟨"_law_beside_out",top 28,["_law_web_here","_law_out"],["_law_web_here","_law_out","_law_marks","_law_turn","_law_one","_law_other","_law_low"],b20⟩
noncomputable def b21:List Stm:=ON 20
noncomputable def d21:Df:=⟨"_law_blocks",top 29,["_law_web_here"],["_law_web_here","_law_told","_law_rows","_law_tie","_law_pair","_law_signs","_law_out","_law_end"],b21⟩
noncomputable def b22:List Stm:=OL 13
noncomputable def d22:Df:=⟨"_law_wide_web",top 30,["_law_tape_here"],["_law_tape_here","_law_many","_law_half","_law_ties","_law_turn","_law_one","_law_more","_law_other"],b22⟩
noncomputable def b23:List Stm:=M3
noncomputable def d23:Df:=⟨"_law_lists",top 31,["_law_found","_law_due"],["_law_found","_law_due","_law_row"],b23⟩
noncomputable def b24:List Stm:=[(.loop (.nm 1) (.rng1 (.bi .max (.cons (.c (.int 2)) (.cons (.bi .min (.cons (.bi .len (.cons (.var 0) .nil)) (.cons (.c (.int 4)) .nil))) .nil)))) [(.asg (.nm 2) (.call 12 (.cons (.var 0) (.cons (.var 1) .nil)))),(.asg (.nm 3) (.ife (.cmp .Eq (.call 13 (.cons (.var 2) (.cons (.c (.int 2)) .nil))) (.c (.int 0))) (.call 16 (.cons (.var 2) .nil)) (.call 19 (.cons (.var 2) .nil)))),Lc,Ld,Le,Lf,Lg]),(.ret (.c (.bl true)))]
noncomputable def d24:Df:=⟨"law",top 32,["_law_script"],["_law_script","_law_k","_law_tape_here","_law_web_here","_law_due","_law_doubled"],b24⟩
noncomputable def prog:List Df:=[d0,d1,d2,d3,d4,d5,d6,d7,d8,d9,d10,d11,d12,d13,d14,d15,d16,d17,d18,d19,d20,d21,d22,d23,d24]
theorem FZ:prog.all (NO (prog.map (·.name)))=true:=by decide +kernel
theorem hW(d:Nat):∀ f,MonoN (W prog d f):=Ck d
theorem s0(d:Nat):CG (W prog (d+1) 0):=LR (Δ:=W prog d) (D:=d0) rfl rfl rfl
theorem s1(d:Nat):BN (W prog (d+2) 1):=FK (Δ:=W prog (d+1)) (D:=d1) (s0 d) rfl rfl rfl
theorem s2(d:Nat):Cn (W prog (d+2) 2):=JJ (Δ:=W prog (d+1)) (D:=d2) (s0 d) rfl rfl rfl
theorem s3(d:Nat):AX (W prog (d+3) 3):=D3 (Δ:=W prog (d+2)) (D:=d3) (s1 d) rfl rfl rfl
theorem s4(d:Nat):AY (W prog (d+3) 4):=FL (Δ:=W prog (d+2)) (D:=d4) (s2 d) rfl rfl rfl
theorem s5(d:Nat):Av (W prog (d+4) 5):=JK (Δ:=W prog (d+3)) (D:=d5) (hW _) (s3 d) rfl rfl rfl
theorem s6(d:Nat):BY (W prog (d+4) 6):=JL (Δ:=W prog (d+3)) (D:=d6) (s4 d) rfl rfl rfl
theorem s7(d:Nat):Bb (W prog (d+1) 7):=JO (Δ:=W prog d) (D:=d7) (hW _) rfl rfl rfl
theorem s8(d:Nat):Ge (W prog (d+4) 8):=NX (Δ:=W prog (d+3)) (D:=d8) (hW _) (s4 d) rfl rfl rfl
theorem s9(d:Nat):Bw (W prog (d+5) 9):=Gg (Δ:=W prog (d+4)) (D:=d9) (hW _) (s5 d) (s8 d) rfl rfl rfl
theorem s10(d:Nat):Lw (W prog (d+6) 10):=Py (Δ:=W prog (d+5)) (D:=d10) (hW _) (s5 (d+1)) (s6 (d+1)) (s7 (d+4)) (s9 d) rfl rfl rfl
theorem s11(d:Nat):FX (W prog (d+7) 11):=JS (Δ:=W prog (d+6)) (D:=d11) (hW _) (s10 d) (s7 (d+5)) rfl rfl rfl
theorem s12(d:Nat):LN (W prog (d+1) 12):=NQ (Δ:=W prog d) (D:=d12) rfl rfl rfl
theorem s13(d:Nat):i7 (W prog (d+1) 13):=NP (Δ:=W prog d) (D:=d13) rfl rfl rfl
theorem s14(d:Nat):Dx (W prog (d+2) 14):=LP (Δ:=W prog (d+1)) (D:=d14) (hW _) (s13 d) rfl rfl rfl
theorem s15(d:Nat):DS (W prog (d+3) 15):=Pv (Δ:=W prog (d+2)) (D:=d15) (hW _) (s13 (d+1)) (s14 d) rfl rfl rfl
theorem s16(d:Nat):Lo (W prog (d+4) 16):=Na (Δ:=W prog (d+3)) (D:=d16) (s13 (d+2)) (s15 d) rfl rfl rfl
theorem s17(d:Nat):Bd (W prog (d+2) 17):=JR (Δ:=W prog (d+1)) (D:=d17) (hW _) (s13 d) rfl rfl rfl
theorem s18(d:Nat):E8 (W prog (d+2) 18):=Ls (Δ:=W prog (d+1)) (D:=d18) (hW _) (s13 d) rfl rfl rfl
theorem s19(d:Nat):RP (W prog (d+4) 19):=E9 (Δ:=W prog (d+3)) (D:=d19) (hW _) (s13 (d+2)) (s15 d) (s17 (d+1)) (s18 (d+1)) rfl rfl rfl
theorem s20(d:Nat):Bc (W prog (d+1) 20):=JP (Δ:=W prog d) (D:=d20) (hW _) rfl rfl rfl
theorem s21(d:Nat):FY (W prog (d+2) 21):=JT (Δ:=W prog (d+1)) (D:=d21) (hW _) (s20 d) rfl rfl rfl
theorem s22(d:Nat):Lp (W prog (d+2) 22):=Nb (Δ:=W prog (d+1)) (D:=d22) (hW _) (s13 d) rfl rfl rfl
theorem s23(d:Nat):IG (W prog (d+1) 23):=M5 (Δ:=W prog d) (D:=d23) (hW _) rfl rfl rfl
theorem DZ{n:Nat}{es:EE}(H:WebC n es):(D7 n es).length<=1000/\∀ c∈D7 n es,c.length<=900:=by
 have hl:=H.len;unfold D7 Ax;refine⟨?_,λc hc=>?_⟩
 ·rw[S7];have:(rootsL (mk es.length (cpA n es n)) es.length).length<=es.length:=t3 _ _;omega
 ·obtain⟨f,_,rfl⟩:=Te.mp hc;have:(clsF (mk es.length (cpA n es n)) es.length f).length<=es.length:=t3 _ _;omega
theorem Fa{n ld:Nat}{lsd:List Nat}{es:EE}{S:Sto}{Q:QE}(H:WebC n es)(C:Cls S ld lsd (D7 n es))(q:∀ S':Sto,Cls S' ld lsd (D7 n es)->Gw S S'->Q (.bl true) S'):W prog 7 11 [c5 n es] S λx S1=>W prog 7 23 [x,.loc ld] S1 Q:=by
 have ldl:=(gM C.top).1
 have lsl:∀ k∈lsd,k<S.length:=λk hk=>by
  obtain⟨i,hi⟩:=TB hk;exact(gM (C.fun_row i k hi)).1
 obtain⟨b1,b2⟩:=DZ H;refine s11 0 H λlf lsf S2 G2 l0 C2 up new=>?_;have C2':Cls S2 ld lsd (D7 n es):=C.stay λk o _ h=>G2.keep k o h;refine s23 6 C2 C2' up (λk hk=>⟨(new k hk).2,λz=>by have:=(new k hk).1;omega,λz=>by have:=(new k hk).1;have:=lsl k z;omega⟩) b1 b2 λS3 l3 kp=>?_;have kp':∀(k:Nat) (o:SO),k<S.length->S2[k]?=some o->S3[k]?=some o:=λk o kl h=>kp k o (λz=>by have:=(new k z).1;omega) h;exact q S3 (C2'.stay λk o hk h=>kp' k o (hk.elim (λz=>by omega) λz=>lsl k z) h) ⟨Sj G2.len l3,λk o h=>kp' k o (gM h).1 (G2.keep k o h)⟩
theorem Nn{D:EndsS}{n:Nat}{es:EE}{S:Sto}{o0 o1 o2 o3 o4:Option SV}(H:WebC n es)(q:∀ S':Sto,D.nx [o0,o1,o2,o3,o4,some (c5 n es)] S'):wSs (W prog 7) [Lg] D [o0,o1,o2,o3,o4,some (c5 n es)] S:=by
 refine⟨_,rfl,?_⟩;obtain⟨b1,b2⟩:=DZ H;refine s11 0 H λlf lsf S2 G2 l0 C2 up new=>⟨_,rfl,s21 5 H λld lsd S3 G3 C3 d0 d1=>?_⟩
 have C2':Cls S3 lf lsf (D7 n es):=C2.stay λk o _ h=>G3.keep k o h
 have lsl:∀ k∈lsf,k<S2.length:=λk hk=>by
  obtain⟨i,hi⟩:=TB hk;exact(gM (C2.fun_row i k hi)).1
 refine s23 6 C2' C3 up (λk hk=>⟨(new k hk).2,λz=>by have:=lsl k hk;omega,λz=>by have:=lsl k hk;have:=d1 k z;omega⟩) b1 b2 λS4 l4 kp=>⟨_,rfl,ifF rfl (y6 (q S4))⟩
theorem Q5{D:EndsS}{n:Nat}{es:EE}{S:Sto}{o0 o1 o2 o4 o5:Option SV}(H:WebC n es)(q:∀(o4 o5:Option SV) (S':Sto),D.nx [o0,o1,o2,some (c5 n es),o4,o5] S'):wSs (W prog 7) [Lf,Lg] D [o0,o1,o2,some (c5 n es),o4,o5] S:=by
 have hl:=H.len
 have go:∀ fs:EE,WebC n fs->∀ z:SV,z=c5 n fs->wSs (W prog 7) [Lg] D [o0,o1,o2,some (c5 n es),o4,some z] S:=by
  rintro fs Hf _ rfl;exact Nn Hf λS'=>q _ _ S'
 have e1:∀ j:Nat,(es.map pairS)++(SJ j (es.map pairS)).flatten=(es++(SJ j es).flatten).map pairS:=by
  intro j;rw[SM,List.map_flatten,List.map_replicate]
 have key:∀ j:Int,j=(if decide (((es.map pairS).length:Int)<40)=true then 1 else 0)->∃(fs:EE),WebC n fs/\(es.map pairS)++(SJ j.toNat (es.map pairS)).flatten=fs.map pairS/\(0<=j/\j<=1):=by
  intro j hj;rw[e1];rw[S7]at hj;by_cases h:(es.length:Int)<40
  ·rw[iP (decide_eq_true h)]at hj;subst hj;refine⟨_,?_,rfl,by decide⟩;have e:(SJ (1:Int).toNat es).flatten=es:=by simp
   rw[e];exact⟨λe he=>(Sg.mp he).elim (H.en e) (H.en e),by rw[SA];omega,H.few⟩
  ·rw[iG (by simpa using h)]at hj;subst hj;exact⟨_,by simpa using H,rfl,by decide⟩
 have fin:∀ j:Int,j=(if decide (((es.map pairS).length:Int)<40)=true then 1 else 0)->(Ik (.tup (es.map pairS)) (.int j) S λy S1=>Ij (.tup (es.map pairS)) y S1 λy S2=>[SV.int (n:Nat),y].length<=big/\wSs (W prog 7) [Lg] D [o0,o1,o2,some (c5 n es),o4,some (.tup [.int (n:Nat),y])] S2):=by
  intro j hj;obtain⟨fs,Hf,ef,h0,h1⟩:=key j hj;have jl:j.toNat<=1:=by omega
  have fl:=Hf.len;have fl2:=congrArg UC ef;rw[SA,S7]at fl2;refine⟨⟨h0,by omega⟩,?_,?_,by show 2<=100000;decide,?_⟩
  ·have:=Nat.mul_le_mul_left (es.map pairS).length jl;rw[S7,Nat.mul_one]at this;rw[S7];show _<=100000;omega
  ·rw[S7,fl2,S7];show _<=100000;omega
  ·exact go fs Hf _ (by unfold c5;rw[ef])
 have fin:=fin _ rfl;exact⟨_,rfl,_,_,rfl,rfl,_,rfl,_,_,rfl,rfl,_,rfl,_,_,rfl,rfl,_,rfl,_,_,rfl,rfl,_,rfl,fin⟩
theorem EF{D:EndsS}{n:Nat}{es:EE}{S:Sto}{o0 o1 o2 o4 o5:Option SV}(H:WebC n es)(q:∀(o4 o5:Option SV) (S':Sto),D.nx [o0,o1,o2,some (c5 n es),o4,o5] S'):wSs (W prog 7) [Ld,Le,Lf,Lg] D [o0,o1,o2,some (c5 n es),o4,o5] S:=by
 refine⟨_,rfl,s21 5 H λld lsd S1 G1 C1 _ _=>?_⟩;refine⟨_,rfl,hW 7 11 _ _ _ _ (λx S h=>⟨_,rfl,h⟩) (Fa H C1 λS2 C2 _=>⟨_,rfl,ifF rfl ⟨_,rfl,hW 7 11 _ _ _ _ (λx S h=>⟨_,rfl,h⟩) (Fa H C2 λS3 C3 _=>⟨_,rfl,ifF rfl (y6 ?_)⟩)⟩⟩)⟩;exact Q5 H q
theorem Da{D:EndsS}{t n:Nat}{k:Int}{es:EE}{S:Sto}{o0 o4 o5:Option SV}(H:WebC n es)(T:TapeS S t)(q:∀(o3 o4 o5:Option SV) (S':Sto),D.nx [o0,some (.int k),some (.loc t),o3,o4,o5] S'):wSs (W prog 7) [Lc,Ld,Le,Lf,Lg] D [o0,some (.int k),some (.loc t),some (c5 n es),o4,o5] S:=by
 refine⟨_,rfl,_,rfl,ifD (λh=>?_) (λh=>ifF rfl (y6 ?_))⟩
 ·refine⟨_,rfl,s13 6 T (by decide) (by decide) λr S2 r0 r1 T2 O2 _=>⟨_,rfl,ifD (λh=>?_) (λh=>y6 ?_)⟩⟩
  ·refine⟨_,rfl,s22 5 T2 λn' es' S3 H' T3 O3=>?_⟩;dsimp only[UR];have h1:=H'.len;have h2:=H'.few;exact EF ⟨H'.en,by omega,by omega⟩ λo4 o5 S'=>q _ _ _ _
  ·dsimp only;exact EF H λo4 o5 S'=>q _ _ _ _
 ·dsimp only;exact EF H λo4 o5 S'=>q _ _ _ _
theorem law_main(ns:List Int)(h:ns.length<=63):W prog 8 24 [.ro (ns.map SV.int)] [] λx _=>x = .bl true:=by
 show i5 (W prog 7) d24 _ _ _
 have hj:∃ m:Nat,(if (if (4:Int)<((ns.map SV.int).length:Int) then 4 else ((ns.map SV.int).length:Int))>2 then (if (4:Int)<((ns.map SV.int).length:Int) then 4 else ((ns.map SV.int).length:Int)) else 2)=(m:Int)/\m<=4:=by
  rw[S7];generalize ns.length=k;refine⟨max 2 (min k 4),?_,by omega⟩;split<;>split<;>omega
 obtain⟨m,hm,hm4⟩:=hj;refine⟨rfl,_,rfl,_,rfl,m,congrArg SV.int hm,⟨by omega,by omega⟩,?_⟩;refine i0 (f7 (hW _) _) (λi ρ S'=>∃ o1 o2 o3 o4 o5,ρ=[some (.ro (ns.map SV.int)),o1,o2,o3,o4,o5]) ⟨none,none,none,none,none,rfl⟩ (λ_ _ _ _=>trivial) ?_ ?_
 ·rintro i x ρ S hx ⟨o1,o2,o3,o4,o5,rfl⟩;obtain⟨rfl,hi⟩:=i3 hx;rw[Tu]at hi ⊢;refine⟨_,rfl,_,rfl,s12 6 h (by omega) λa b ha hb hb2=>?_⟩;have T1:TapeS (S++[SO.lst [.int a,.int b]]) S.length:=⟨a,b,c4,ha,hb,hb2⟩
  refine⟨_,rfl,s13 6 T1 (by decide) (by decide) λr S2 r0 r1 T2 O2 _=>⟨_,rfl,ifD (λhr=>?_) (λhr=>?_)⟩⟩
  ·refine⟨_,rfl,s16 3 T2 λn es S3 Wb T3 O3=>?_⟩;have h1:=Wb.len;have h2:=Wb.few;dsimp only[UR];exact Da ⟨Wb.en,by omega,by omega⟩ T3 λo3 o4 o5 S'=>⟨_,_,_,_,_,rfl⟩
  ·refine⟨_,rfl,s19 3 T2 λn es S3 H T3 O3=>?_⟩;dsimp only[UR];exact Da H T3 λo3 o4 o5 S'=>⟨_,_,_,_,_,rfl⟩
 ·rintro ρ S ⟨o1,o2,o3,o4,o5,rfl⟩;exact rfl
end Hue
namespace PySem.W.Fast
theorem tw4084076581522494913:True:=⟨⟩
theorem tw2892375665139770391:True:=⟨⟩
theorem tw9664121277098890044:True:=⟨⟩
theorem tw3472978199372500885:True:=⟨⟩
theorem tw1329065775234130913:True:=⟨⟩
theorem tw15631374644148371687:True:=⟨⟩
theorem tw7699234716905305960:True:=⟨⟩
theorem tw8425630819981140726:True:=⟨⟩
end PySem.W.Fast
namespace Hue
open PySem L2 Rf
noncomputable def t8(K:Rz)(nm:Str)(i:Nat):Prop:=∃(f:VU) (od an:Option VU) (sl:Array (Option VS)) (oc kV dc pm cd ct:VS),PySem.W.nsIn K Va nm=some (some (.ref f))/\K.lookup f=some ⟨oc,od,.func (PySem.W.fnOf nm nm (defArgs (top i)) (defBody (top i)) (defScope (top i)) .none kV dc pm an cd ct),sl⟩/\PySem.W.codeIn K cd nm=true/\PySem.W.keepIn K (.ref f)=true
theorem lnkK_mk{K:Rz}{nm:Str}{i:Nat}{f:VU}{od an:Option VU}{sl:Array (Option VS)}{oc kV dc pm cd ct:VS}(a:PySem.W.nsIn K Va nm=some (some (.ref f)))(l:K.lookup f=some ⟨oc,od,.func (PySem.W.fnOf nm nm (defArgs (top i)) (defBody (top i)) (defScope (top i)) .none kV dc pm an cd ct),sl⟩)(c:PySem.W.codeIn K cd nm=true)(k:PySem.W.keepIn K (.ref f)=true):t8 K nm i:=⟨f,od,an,sl,oc,kV,dc,pm,cd,ct,a,l,c,k⟩
theorem i6{K:Rz}{h:Heap}{mg:Str->Option VS}(X:K.In h)(G:h.Ns Va mg)(D:Df){i:Nat}(x:t8 K D.name i)(e:D.st=top i)(b:∀(kV doc pm:VS) (an:Option VU) (cdv ct:VS) (us:List VS),us.length=D.ps.length->bindArgs (PySem.W.fnOf D.name D.name (defArgs (top i)) (defBody (top i)) (defScope (top i)) .none kV doc pm an cdv ct) ⟨us,[]⟩=pure (D.ps.zip us)):PIn K mg D:=by
 obtain⟨_,_,_,_,_,_,_,_,_,_,a,l,c,k⟩:=x;exact⟨_,_,e▸Fn (st:=top i) l c k,PySem.W.mg_of X G a,k,(Fn (st:=top i) l c k).binds (ps:=D.ps) b⟩
theorem j8{P:Df->Prop}{D:Df}{l:List Df}(a:P D)(b:∀ x∈l,P x):∀ x∈D::l,P x:=List.forall_mem_cons.mpr ⟨a,b⟩
theorem all_mk{l:PySem.W.OpenLaw}{w:Vc}{K:Rz}{h:Heap}{mg:Str->Option VS}{fa:VU}(X:K.In h)(G:h.Ns Va mg)(hfa:mg "law"=some (.ref fa))
 (x0:t8 K "is_number" 5)
 (x1:t8 K "has_place" 7)
 (x2:t8 K "has_tie" 8)
 (x3:t8 K "check_place" 9)
 (x4:t8 K "check_tie" 10)
 (x5:t8 K "ties_at" 11)
 (x6:t8 K "far_end" 12)
 (x7:t8 K "parts" 13)
 (x8:t8 K "only" 14)
 (x9:t8 K "without" 16)
 (x10:t8 K "couples_by_rings" 17)
 (x11:t8 K "blocks" 18)
 (x12:t8 K "_law_tape" 20)
 (x13:t8 K "_law_draw" 21)
 (x14:t8 K "_law_pairs_by" 22)
 (x15:t8 K "_law_web" 23)
 (x16:t8 K "_law_some_web" 24)
 (x17:t8 K "_law_joined" 25)
 (x18:t8 K "_law_rings" 26)
 (x19:t8 K "_law_joined_web" 27)
 (x20:t8 K "_law_beside_out" 28)
 (x21:t8 K "_law_blocks" 29)
 (x22:t8 K "_law_wide_web" 30)
 (x23:t8 K "_law_lists" 31)
 (x24:t8 K "law" 32)
 (z0:PySem.W.nsIn K Va "len"=some none)
 (z1:PySem.W.nsIn K Va "abs"=some none)
 (z2:PySem.W.nsIn K Va "min"=some none)
 (z3:PySem.W.nsIn K Va "max"=some none)
 (z4:PySem.W.nsIn K Va "int"=some none)
 (z5:PySem.W.nsIn K Va "list"=some none)
 (z6:PySem.W.nsIn K Va "tuple"=some none)
 (z7:PySem.W.nsIn K Va "all"=some none)
 (z8:PySem.W.nsIn K Va "any"=some none)
 (z9:PySem.W.nsIn K Va "sorted"=some none)
 (z10:PySem.W.nsIn K Va "isinstance"=some none)
 (z11:PySem.W.nsIn K Va "str"=some none)
 (z12:PySem.W.nsIn K Va "range"=some none)
 (z13:PySem.W.nsIn K Va "enumerate"=some none)
 (z14:PySem.W.nsIn K Va "zip"=some none)
 (z15:PySem.W.nsIn K Va "set"=some none)
 (z16:PySem.W.nsIn K Va "bool"=some none)
 (z17:PySem.W.nsIn K Va "dict"=some none)
 (z18:PySem.W.nsIn K Va "reversed"=some none)
 (z19:PySem.W.nsIn K Va "repr"=some none)
 : ∃ fd:W4,(∀(s:VT) (v:VS),BindsTo s fd ⟨[v],[]⟩ [("_law_script",v)])/\∀ base:Heap,K.In base->base.Ns Va mg->FnOk l.prog w K mg base CX0 8 fa fd ["_law_script"] (spS K (W prog 8 24)):=by
 have y:=x24;obtain⟨f24,od24,an24,sl24,oc24,kV24,dc24,pm24,cd24,ct24,a24,l24,c24,k24⟩:=x24;have e:=hfa.symm.trans (PySem.W.mg_of X G a24);cases e
 have B:Bl mg:=by
  refine⟨λb=>?_,SR X G z12,SR X G z13,SR X G z18,SR X G z14,SR X G z15,SR X G z17,λt ht=>?_⟩
  ·cases b with
   | len=>exact SR X G z0
   | abs=>exact SR X G z1
   | min=>exact SR X G z2
   | max=>exact SR X G z3
   | int=>exact SR X G z4
   | list=>exact SR X G z5
   | tuple=>exact SR X G z6
   | all=>exact SR X G z7
   | any=>exact SR X G z8
   | sorted=>exact SR X G z9
   | isi=>exact SR X G z10
   | str=>exact SR X G z11
   | repr=>exact SR X G z19
  ·cases t with
   | int=>exact SR X G z4
   | bool=>exact SR X G z16
   | str=>exact SR X G z11
   | list=>exact SR X G z5
   | tuple=>exact SR X G z6
   | none=>exact absurd rfl ht
 have hin:∀ D∈prog,PIn K mg D:=j8 (i6 X G d0 x0 rfl λ_ _ _ _ _ _=>D2 λ_=>rfl) (j8 (i6 X G d1 x1 rfl λ_ _ _ _ _ _=>BM λ_ _=>rfl) (j8 (i6 X G d2 x2 rfl λ_ _ _ _ _ _=>BM λ_ _=>rfl) (j8 (i6 X G d3 x3 rfl λ_ _ _ _ _ _=>BM λ_ _=>rfl) (j8 (i6 X G d4 x4 rfl λ_ _ _ _ _ _=>BM λ_ _=>rfl) (j8 (i6 X G d5 x5 rfl λ_ _ _ _ _ _=>BM λ_ _=>rfl) (j8 (i6 X G d6 x6 rfl λ_ _ _ _ _ _=>RM λ_ _ _=>rfl) (j8 (i6 X G d7 x7 rfl λ_ _ _ _ _ _=>D2 λ_=>rfl) (j8 (i6 X G d8 x8 rfl λ_ _ _ _ _ _=>BM λ_ _=>rfl) (j8 (i6 X G d9 x9 rfl λ_ _ _ _ _ _=>BM λ_ _=>rfl) (j8 (i6 X G d10 x10 rfl λ_ _ _ _ _ _=>BM λ_ _=>rfl) (j8 (i6 X G d11 x11 rfl λ_ _ _ _ _ _=>D2 λ_=>rfl) (j8 (i6 X G d12 x12 rfl λ_ _ _ _ _ _=>BM λ_ _=>rfl) (j8 (i6 X G d13 x13 rfl λ_ _ _ _ _ _=>BM λ_ _=>rfl) (j8 (i6 X G d14 x14 rfl λ_ _ _ _ _ _=>BM λ_ _=>rfl) (j8 (i6 X G d15 x15 rfl λ_ _ _ _ _ _=>BM λ_ _=>rfl) (j8 (i6 X G d16 x16 rfl λ_ _ _ _ _ _=>D2 λ_=>rfl) (j8 (i6 X G d17 x17 rfl λ_ _ _ _ _ _=>RM λ_ _ _=>rfl) (j8 (i6 X G d18 x18 rfl λ_ _ _ _ _ _=>D2 λ_=>rfl) (j8 (i6 X G d19 x19 rfl λ_ _ _ _ _ _=>D2 λ_=>rfl) (j8 (i6 X G d20 x20 rfl λ_ _ _ _ _ _=>BM λ_ _=>rfl) (j8 (i6 X G d21 x21 rfl λ_ _ _ _ _ _=>D2 λ_=>rfl) (j8 (i6 X G d22 x22 rfl λ_ _ _ _ _ _=>D2 λ_=>rfl) (j8 (i6 X G d23 x23 rfl λ_ _ _ _ _ _=>BM λ_ _=>rfl) (j8 (i6 X G d24 y rfl λ_ _ _ _ _ _=>D2 λ_=>rfl) (λ_ h=>nomatch h)))))))))))))))))))))))));refine⟨PySem.W.fnOf "law" "law" (defArgs (top 32)) (defBody (top 32)) (defScope (top 32)) .none kV24 dc24 pm24 an24 cd24 ct24,λs v => .of_eq rfl,λbase _ _=>?_⟩
 exact LL (P:=l.prog) (w:=w) (base:=base) (k:=7) (Δ:=W prog 7) (D:=d24) (Fn (st:=top 32) l24 c24 k24) (SZ.mp FZ d24 (SB (show prog[24]?=some d24 from rfl))) B (λg x hx=>by
  rw[SL]at hx;cases hg:prog[g]? with
  | none=>rw[hg]at hx;cases hx
  | some D'=>
    rw[hg]at hx;have:D'.name=x:=by simpa using hx
    subst this;exact⟨D'.ps,Hr FZ B hin 7 g D' hg⟩) (Ck 7)
theorem walkL{l:PySem.W.OpenLaw}{q:VZ}{loose:List Str}{XP:(Str->Option VS)->Heap->Prop}{YP:Vc->Heap->Prop}{d:DefRec}{K:Params->Rz}(hn:l.most=some 63)(hdf:d.params.defaults=[])
 (hY:∀(w:Vc) (h:Heap),YP w h->(K w.params).In h)
 (F:∀(w:Vc) (mg:Str->Option VS) (fa:VU) (h:Heap),(K w.params).In h->h.Ns Va mg->mg d.name=some (.ref fa)->
   ∃ fd:W4,(∀(s:VT) (u:VS),BindsTo s fd ⟨[u],[]⟩ [("_law_script",u)])/\∀ base:Heap,(K w.params).In base->base.Ns Va mg->FnOk l.prog w (K w.params) mg base CX0 8 fa fd ["_law_script"] (spS (K w.params) (W prog 8 24))):
 PySem.W.WalkO q loose XP YP l.row.toRowW d [] (λf vs=>PySem.call f vs):=
 L2.walk_of (n:=63) (k:=8) (x:="_law_script") (CX:=λ_=>CX0) (sp:=λw=>spS (K w.params) (W prog 8 24)) hn (by decide) hdf ⟨rfl,by decide,by decide,rfl⟩ hY F (λ_ _ a ns hl hO hS=>Pu (law_main ns hl) hO hS) λ_ _ _ _ _ z=>z
end Hue
open PySem PySem.W PyProof.Rows
set_option maxRecDepth 100000 in
set_option maxHeartbeats 0 in
theorem PySem.Challenge.cw_huedties_k69_blocks_holds : PySem.Challenge.rw_huedties_k69_blocks.Holds := by
 w_on;o_law;k_head;(case hw=>w_witness2)
 k_fill
 refine Hue.walkL (l:=PySem.Challenge.rw_huedties_k69_blocks) rfl rfl (λw h Y=>PySem.W.kIn_of Y) ?F
 case F=>
  intro w mg fa h KX G hmg;refine' Hue.all_mk KX G hmg ?_ ?_ ?_ ?_ ?_ ?_ ?_ ?_ ?_ ?_ ?_ ?_ ?_ ?_ ?_ ?_ ?_ ?_ ?_ ?_ ?_ ?_ ?_ ?_ ?_ ?_ ?_ ?_ ?_ ?_ ?_ ?_ ?_ ?_ ?_ ?_ ?_ ?_ ?_ ?_ ?_ ?_ ?_ ?_ ?_
  all_goals first | exact Hue.lnkK_mk (by k_is) (by k_is) (by k_is) (by k_is) | k_is
