import PyProof.Rows.All
import Wide.All
import OpenK.AllK
import PySem.Challenge.RW_huedties_k39_trees
set_option Elab.async false
set_option linter.all false
set_option maxRecDepth 100000
open PySem.W renaming Frag->Qo,mg_none_of->R7
open Bool renaming and_eq_true->Qp,false_ne_true->Qz,not_eq_true'->RG,false_eq_true->RN,or_eq_true->RU,eq_iff_iff->RZ,not_true->T6,noConfusion->TL,or_eq_false_iff->Ti,false_and->U7,and_false->U9,not_false->UA,false_or->UD,true_and->UE
open PySem.Heap renaming get?_push_of_some->Qq,lt_size->Qw,get?_push_size->Qx,size_push->RT,SameBut->Rk,get?_update_other->Se,get?_update_self->Si,get?_none_of_le->TZ,IsTuple->UG,DictAt->UQ
open List renaming length_map->Qr,size_toArray->Qt,mem_singleton->Qu,length_append->Qv,range->Qy,mem_cons->R0,mem_of_getElem?->R1,mem_cons_of_mem->R3,getElem?_eq_getElem->R4,getElem?_append_left->R6,getElem?_map->R8,map_append->R9,replicate->RA,all_eq_true->RB,mem_cons_self->RD,mem_append->RF,prefix_refl->RH,mem_map->RI,getElem?_concat_length->RJ,map_cons->RK,length_take->RL,getElem?_append_right->RM,isEmpty_iff->RO,mem_range->RP,mem_append_right->RQ,length_singleton->RS,take_length->RV,replicate_succ->RX,length_filter_le->RY,getElem?_set_self->Ra,length_range->Rb,all_cons->Re,append_nil->Rg,getElem?_replicate->Rh,lookup_cons->Ri,length_cons->Rj,length_set->Rm,getElem_mem->Rn,getElem?_set_ne->Rq,mem_iff_getElem->Rr,flatten_cons->Rt,nodup_cons->Ru,of_mem_zip->Rv,any_cons->Ry,prefix_append->SA,find?_cons->SC,length_nil->SD,length_drop->SH,take_succ->SJ,mem_filter->SL,range_succ->SN,getD->SQ,getElem?_of_mem->SR,any_eq_true->SW,forIn_cons->SY,pairwise_cons->SZ,length_eq_zero_iff->Sb,map_map->Sf,nodup_append->Sg,length_replicate->Sh,mem_append_left->Sl,mem_of_mem_take->Sm,filterMap_cons->So,getElem?_range->Sq,filter_append->Ss,drop_eq_getElem_cons->Su,filter_cons_of_neg->TC,filter_cons_of_pos->TF,cons_ne_nil->TJ,not_mem_nil->TK,take_of_length_le->TQ,find?_cons_of_pos->TU,find?_cons_of_neg->TV,getElem?_zipWith->TY,length->Ta,lookup->Tb,forIn_nil->Tc,nodup_nil->Tf,map_take->Tj,mem_filterMap->To,filterMap_map->Tq,filter_filter->Tt,mapM_toArray->Tv,map->Tw,all_map->Tx,getElem_drop->Tz,forIn'_cons->U0,zipIdx_cons->U2,drop_length->U3,cons_append->U4,zipIdx_nil->U5,head?_drop->U6,foldl->U8,tail_drop->UB,map_nil->UF,zipWith->UI,any_map->UK,zipIdx->UO
open Nat renaming le_refl->Qs,ne_of_lt->R5,lt_of_lt_of_le->RC,le_trans->RE,lt_irrefl->Rx,zero_le->Rz,lt_succ_of_lt->SG,le_add_right->SI,not_lt_zero->SM,lt_or_ge->SU,le_succ->Sa,lt_succ_self->Sk,ne_of_gt->Sr,le_succ_of_le->Sx,le_of_lt->TM,zero_add->TR,mul_le_mul_right->Th,succ_mul->Tu,mul_le_mul->UC,lt_trans->UH,sub_zero->UJ,sub_self->UL
open Array renaming length_toList->RW,perm_iff_toList_perm->SS,getElem?_toList->Sj,toList->TN,getElem_toList->Td,toArray_toList->Te,append_assoc->Tn,toList_map->U1,Perm->UR
open Option renaming isSome_iff_exists->Rc,toList_some->Rp,map_some->SB,isNone_iff_eq_none->Sv,isSome_map->Sw,getD_none->TB,bind_some->TH,map_eq_some_iff->TX,isSome_some->Tr,none->UN
open Int renaming emod_lt_of_pos->Ro,emod_nonneg->SE,natCast_inj->SF,eq_ofNat_of_zero_le->SK,toNat_of_nonneg->SX,toNat_natCast->Sd,emod_eq_of_lt->Sy,mul_one->UM,le_refl->UP
open PySem renaming wpAny_bind->US,Value->UT,Shared->UU,Addr->UV,wpAny_pure->UW,wpAny->UX,sizeLine->UY,model->UZ,Program->Ua,mainGlobals->Ub,bootBuiltins->Uc,World->Ud,starEach->Ue,Scope->Ug,compareOp->Ui,Around->Uj,wpAny_truthy_bool->Uk,wpAny_field->Ul,wpAny_callSpecial?_slot->Uo,wpAny_holding->Uq,NameKind->Ur,cellsFrom->Us,wpAny_newObj_type->Ut,assignEach->Uu,binaryOp->Uv,wpAny_call_entry->Uw,scanBound->Ux,wpAny_Call_Name_kw->Uy,wpAny_pyIter_tuple->Uz,SetTable->V0,wpAny_passesOwn->V1,swapsWith->V2,FuncData->V3,wpAny_seqItems->V4,sysModules->V5,wpAny_mono->V6,wpAny_setField_rec->V7,wpAny_pyIter_list->V9,wpAny_rule->VA,codeAny_mono->VC,attributeBase->VD,letOwnedTupleGo->VE,codeAny_builtin->VF,sliceBounds->VG,wpAny_Call_method0_late->VI,foldedSetIterable->VJ,wpAny_pyIter_enum->VL,behindInMarks->VO,swapsWithSole->VP,swappedStores->VQ,call_meets->VR,newFunctionEnv->VS,wpAny_letOwnedTupleGo_enum->VT,tupleKind_room_in1->VU,wpAny_comprehension_free->VX,Operator->VY,noFill_tuple_add->VZ,compEnvC->Va,wpAny_pyNext_enum_itemD->Vb,wpAny_typeOf->Vd,wpAny_pyNext_enum_endD->Vf,wpAny_execs_nil->Vg,pushCells_keeps->Vh,codeAny_of_tree->Vi,wpAny_isTrue_Compare1->Vj,weight_type_call_type->Vk,GenState->Vl,sizeLine_eq->Vm,relayAll->Vn,codeAny_call_builtin->Vo,wpAny_updateSeq_pair->Vr,tupleKind->Vs,wpAny_standAt->Vu,seq_tuple_add->Vv,wpAny_attempt->Vw,wpAny_onRaise->Vy,builtinsNs->Vz,wpAny_assign_Name->W3,concat_meets->W6,wpAny_sequenceKey->W7,seqIndex_neg->W8,wpAny_storeSet_of->W9,fits_of_scanBound->WB,PassesOwn->WC,pushCells->WD,check_set_init_1->WG,wpAny_pyIter_zip->WH,seqIndex_of->WJ,wpAny_letGo->WK,wpAny_Name->WM,wpAny_Compare1->WN,recursionLimit->WQ,wpAny_call->WR,typeIs_int->WV,fitsIndex_both->WW,wpAny_setField->WX,firstArgMember->WY,intKind_is->WZ,wpAny_runValue->Wa,wpAny_newTuple->We,lastMarks->Wf,DictEntry->Wg
open PyProof.Rows renaming wpS_bind->Uh,wpS_pure->Um,firstMet->VB,listItems_at->VM,wpS_forRange->VN,SortKind->VV,step_dedup->VW,pendingOf->Vc,subscriptTail_builtinR->Ve,wpS_reverse->Vp,mirror_perm->Vq,entry_tuple_getitem->Vt,listUpdate_at->Vx,args_tuple_getitem->W0,seqEpoch_at->WL,slicePart_none->WU,failedOf->Wb,wpS_mono->Wc,wpS_modify->Wd
abbrev EE:=List (Nat×Nat)
theorem gM{α:Type}{l:List α}{i:Nat}{a:α}(h:l[i]?=some a):∃h:i<l.length,l[i]=a:=List.getElem?_eq_some_iff.mp h
theorem oj{α:Type}{a b:α}(h:some a=some b):a=b:=Option.some.inj h
theorem dQ{p:Prop}[Decidable p]:(decide p=true)=p:=decide_eq_true_eq
theorem iG{c:Prop}{h:Decidable c}(k:¬c){α:Sort u}{t e:α}:ite c t e=e:=if_neg k
theorem iP{c:Prop}{h:Decidable c}(k:c){α:Sort u}{t e:α}:ite c t e=t:=if_pos k
theorem bQ{α:Type u}[BEq α][LawfulBEq α]{a b:α}:a==b↔a=b:=beq_iff_eq
namespace L2
open PySem PySem.Spec PyProof.Rows
noncomputable abbrev Key:=Sum Int Str
noncomputable def BB:Key->UT->Bool
 | .inl k,v=>Value.isInt k v
 | .inr x,v=>Value.isStrOf x v
noncomputable def QO(w:Ud):Key->Int
 | .inl k=>hashInt k
 | .inr x=>hashStr w x
theorem j4:∀{k:Key} {v:UT},BB k v=true->(∃ i t,k=Sum.inl i/\v=Value.int i t)\/(∃ x t,k=Sum.inr x/\v=Value.str x t)
 | .inl i,v,h=>by
   obtain⟨t,e⟩:=Value.isInt_shape (k:=i) (v:=v) h;exact .inl ⟨i,t,rfl,e⟩
 | .inr x,v,h=>by
   obtain⟨t,e⟩:=Value.isStrOf_shape (x:=x) (v:=v) h;exact .inr ⟨x,t,rfl,e⟩
theorem HN(i:Int)(t:Tok):BB (.inl i) (.int i t)=true:=by simp[BB,Value.isInt]
theorem HP(x:Str)(t:Tok):BB (.inr x) (.str x t)=true:=by simp[BB,Value.isStrOf]
theorem NH(a b:Int):decide ((Sum.inl a:Key)=Sum.inl b)=(a == b):=by
 by_cases e:a=b
 ·subst e;simp
 ·have h:¬ (Sum.inl a:Key)=Sum.inl b:=λq=>e (Sum.inl.inj q);rw[decide_eq_false h];exact(beq_eq_false_iff_ne.mpr e).symm
theorem NI(a b:Str):decide ((Sum.inr a:Key)=Sum.inr b)=decide (a=b):=by
 by_cases e:a=b
 ·subst e;simp
 ·have h:¬ (Sum.inr a:Key)=Sum.inr b:=λq=>e (Sum.inr.inj q);rw[decide_eq_false h,decide_eq_false e]
theorem NJ(a:Int)(b:Str):decide ((Sum.inl a:Key)=Sum.inr b)=false:=decide_eq_false (λq=>nomatch q)
theorem NK(a:Str)(b:Int):decide ((Sum.inr a:Key)=Sum.inl b)=false:=decide_eq_false (λq=>nomatch q)
noncomputable def g9(prog:Ua)(w:Ud):PySem.KeyKind prog w Key where
 is:=BB
 hash:=QO w
 inj:=λv a b ha hb=>by
  rcases j4 ha with⟨i,t,rfl,rfl⟩ | ⟨x,t,rfl,rfl⟩
  ·rcases j4 hb with⟨j,u,rfl,e⟩ | ⟨y,u,rfl,e⟩
   ·injection e with e1 _;rw[e1]
   ·exact nomatch e
  ·rcases j4 hb with⟨j,u,rfl,e⟩ | ⟨y,u,rfl,e⟩
   ·exact nomatch e
   ·injection e with e1 _;rw[e1]
 byValue:=λk v h=>by
   rcases j4 h with⟨i,t,rfl,rfl⟩ | ⟨x,t,rfl,rfl⟩<;>rfl
 pyHash:=λhv h=>by
  rcases j4 hv with⟨i,t,rfl,rfl⟩ | ⟨x,t,rfl,rfl⟩
  ·exact wpAny_pyHash_int h
  ·exact wpAny_pyHash_str h
 eqBool:=λhu hv h=>by
  rcases j4 hu with⟨i,t,rfl,rfl⟩ | ⟨x,t,rfl,rfl⟩
  ·rcases j4 hv with⟨j,u,rfl,rfl⟩ | ⟨y,u,rfl,rfl⟩
   ·rw[NH]at h;exact wpAny_eqBool_int h
   ·rw[NJ]at h;exact SeqAt.EqAt.int_str i t y u _ _ _ _ h
  ·rcases j4 hv with⟨j,u,rfl,rfl⟩ | ⟨y,u,rfl,rfl⟩
   ·rw[NK]at h;exact SeqAt.EqAt.str_int x t j u _ _ _ _ h
   ·rw[NI]at h;exact wpAny_eqBool_str h
 «strs»:=λk x t v h=>by
  rcases j4 h with⟨i,u,rfl,e⟩ | ⟨y,u,rfl,e⟩
  ·exact nomatch e
  ·injection e with e1 _;subst e1;cases v<;>rfl
theorem F3(prog:Ua)(w:Ud)(k:Key)(v:UT):(g9 prog w).is k v=BB k v:=rfl
theorem Dk(prog:Ua)(w:Ud)(i:Int)(t:Tok):(g9 prog w).is (.inl i) (.int i t)=true:=HN i t
theorem Dl(prog:Ua)(w:Ud)(x:Str)(t:Tok):(g9 prog w).is (.inr x) (.str x t)=true:=HP x t
inductive V where
 | non | bl (b:Bool) | int (i:Int) | str (x:Str) | byt (b:Array UInt8) | flt (b:UInt64) | ref (a:UV) | ty (n:String)
 deriving DecidableEq
noncomputable def RelV:V->UT->Prop
 | .non,u=>u=Value.none
 | .bl b,u=>u=Value.bool b
 | .int i,u=>∃ t,u=Value.int i t
 | .str x,u=>∃ t,u=Value.str x t
 | .byt b,u=>∃ t,u=Value.bytes b t
 | .flt b,u=>∃ t,u=Value.float b t
 | .ref a,u=>u=Value.ref a
 | .ty n,u=>u=Value.type n
noncomputable abbrev Vals:List V->List UT->Prop:=Paired RelV
theorem Vals.length{xs:List V}{us:List UT}(r:Vals xs us):xs.length=us.length:=Paired.length r
theorem Vals.get:∀{xs:List V} {us:List UT} {i:Nat} {x:V},Vals xs us->xs[i]?=some x->∃ u,us[i]?=some u/\RelV x u
 | _,_,_,_,.nil,e=>by simp at e
 | _,_,0,_,.cons r _,e=>by simp at e;subst e;exact⟨_,rfl,r⟩
 | _,_,i+1,x,.cons _ t,e=>by
   obtain⟨u,h1,h2⟩:=Vals.get (i:=i) (x:=x) t (by simpa using e);exact⟨u,by simpa using h1,h2⟩
theorem Vals.set{x:V}{u:UT}(r:RelV x u):∀{xs:List V} {us:List UT} (i:Nat),Vals xs us->Vals (xs.set i x) (us.set i u)
 | _,_,_,.nil => .nil
 | _,_,0,.cons _ t => .cons r t
 | _,_,i+1,.cons q t => .cons q (Vals.set r i t)
theorem Vals.append:∀{xs ys:List V} {us ws:List UT},Vals xs us->Vals ys ws->Vals (xs++ys) (us++ws)
 | _,_,_,_,.nil,s=>s
 | _,_,_,_,.cons r t,s => .cons r (Vals.append t s)
theorem Vals.take:∀{xs:List V} {us:List UT} (n:Nat),Vals xs us->Vals (xs.take n) (us.take n)
 | _,_,0,_ => .nil
 | _,_,_+1,.nil => .nil
 | _,_,n+1,.cons r t => .cons r (Vals.take n t)
theorem Vals.drop:∀{xs:List V} {us:List UT} (n:Nat),Vals xs us->Vals (xs.drop n) (us.drop n)
 | _,_,0,r=>r
 | _,_,_+1,.nil => .nil
 | _,_,n+1,.cons _ t=>Vals.drop n t
noncomputable def RelO:Option V->Option UT->Prop
 | some v,some u=>RelV v u
 | none,none=>True
 | _,_=>False
noncomputable def KV{κ:Type}:List (κ×V)->List (κ×UT)->Prop:=Paired λ(p:κ×V) (q:κ×UT)=>p.1=q.1/\RelV p.2 q.2
noncomputable def kV:Key->V
 | .inl i => .int i
 | .inr x => .str x
inductive HO where
 | lst (xs:List V)
 | tup (xs:List V)
 | dK (kvs:List (Key×V)) | dT (kvs:List (List Key×V))
 | set (S:Int->Bool) (n:Nat)
 | ins (C dx:UV) (fs:List (Str×V))
 | own (x:UV)
 | xd (fs:List (Str×V))
 | met (f x:UV)
 | rng (lo hi:Int)
 | frz (o:Obj) (u:HO)
 | tbl (ps:Array UT)
 | ext (φ:Heap->Prop)
noncomputable abbrev Hp:=UV->Option HO
noncomputable def upd(H:Hp)(a:UV)(o:HO):Hp:=λb=>if b=a then some o else H b
theorem f8{H:Hp}{a:UV}{o:HO}:upd H a o a=some o:=by unfold upd;rw[iP rfl]
theorem e6{H:Hp}{a b:UV}{o:HO}(h:b≠a):upd H a o b=H b:=by unfold upd;rw[iG h]
theorem Mm{H:Hp}{a b:UV}{o u:HO}(h:H a=some o)(h':H b=some u)(d:o≠u):a≠b:=by
 intro e;subst e;rw[h]at h';exact d (oj h')
theorem f9{H:Hp}{a b:UV}{o:HO}(h:H a=some o)(h':H b=none):a≠b:=by
 intro e;subst e;rw[h]at h';cases h'
section
variable(P:Ua)(w:Ud)
noncomputable def ObjOk(H:Hp)(h:Heap)(a:UV):HO->Prop
 | .lst xs=>xs.length<=UY/\∃(its:List UT) (n:Nat),Vals xs its/\h.get? a=some {cls := .type "list",data := .seq its.toArray n}
 | .tup xs=>xs.length<=UY/\∃ its:List UT,Vals xs its/\IsTup h a its.toArray
 | .dK kvs=>kvs.length<=UY/\(a == V5)=false/\∃ vs,KV kvs vs/\h.DictOf (g9 P w) a vs
 | .dT kvs=>kvs.length<=UY/\(a == V5)=false/\∃ xs:List (List Key×UV×UT),
    Paired (λ(p:List Key×V) (q:List Key×UV×UT)=>p.1=q.1/\H q.2.1=some (.tup (p.1.map kV))/\RelV p.2 q.2.2) kvs xs/\
    ∃ o es ep,h.get? a=some o/\o.ExactDict/\o.data = .dict es ep/\es.toList=xs.map (entryOfKey (Vs (g9 P w)))/\(xs.map (·.1)).Nodup
 | .set S n=>h.SetOf (intKind P w) a S n
 | .ins C dx fs=>H dx=some (.own a)/\fs.length<=1000/\dx≠a/\h.get? a=some (PySem.W.instObj C dx)/\
    ∃ mA,h.Ns1 dx mA/\(∀ f,RelO (fs.lookup f) (mA f))/\PySem.Within mA (fs.map (·.1))
 | .own _=>∃ o,h.get? a=some o
 | .xd fs=>∃ mA,h.Ns1 a mA/\∀ f,RelO (fs.lookup f) (mA f)
 | .rng lo hi=>∃ t u v,h.get? a=some {cls := .type "range",data := .fields #[.int lo t,.int hi u,.int 1 v]}
 | .frz o u=>h.get? a=some o/\ObjOk H h a u
 | .tbl ps=>h.get? a=some {cls := .none,data := .fields ps}
 | .met f x=>h.get? a=some (PySem.W.methodObj (.ref f) (.ref x))
 | .ext φ=>φ h/\(∃ o,h.get? a=some o)/\∀ h1 h2:Heap,φ h1->(∀ o,h1.get? a=some o->h2.get? a=some o)->φ h2
noncomputable def HOk(H:Hp)(h:Heap):Prop:=∀ a o,H a=some o->ObjOk P w H h a o
end
section
variable{P:Ua}{w:Ud}{H H':Hp}{h h':Heap}{a:UV}{o:HO}
theorem ObjOk.lt(x:ObjOk P w H h a o):a<h.objs.size:=by
 cases o with
 | lst xs=>obtain⟨_,_,_,_,e⟩:=x;exact Qw e
 | tup xs=>obtain⟨_,_,_,p⟩:=x;exact p.lt
 | dK kvs=>obtain⟨_,_,_,_,o,_,_,e,_⟩:=x;exact Qw e
 | dT kvs=>obtain⟨_,_,_,_,o,_,_,e,_⟩:=x;exact Qw e
 | set S n=>obtain⟨o,_,_,_,e,_⟩:=x;exact Qw e
 | ins C dx fs=>obtain⟨_,_,_,e,_⟩:=x;exact Qw e
 | own y=>obtain⟨_,e⟩:=x;exact Qw e
 | xd fs=>obtain⟨_,⟨_,_,_,e,_⟩,_⟩:=x;exact Qw e
 | rng lo hi=>obtain⟨_,_,_,e⟩:=x;exact Qw e
 | frz ob u=>obtain⟨e,_⟩:=x;exact Qw e
 | tbl ps=>exact Qw (show h.get? a=some _ from x)
 | met f y=>exact Qw (show h.get? a=some _ from x)
 | ext φ=>obtain⟨_,⟨_,e⟩,_⟩:=x;exact Qw e
theorem Paired.mapP{α β:Type}{F G:α->β->Prop}:∀{l₁:List α} {l₂:List β},Paired F l₁ l₂->(∀ a b,F a b->G a b)->Paired G l₁ l₂
 | _,_,.nil,_ => .nil
 | _,_,.cons r t,f => .cons (f _ _ r) (Paired.mapP t f)
theorem ObjOk.stay(x:ObjOk P w H h a o)(k:∀ b u,(b=a\/H b=some (.own a))->h.get? b=some u->h'.get? b=some u)
 (ho:∀ b,H b=some (.own a)->H' b=some (.own a)) (ht:∀ b xs,H b=some (.tup xs)->H' b=some (.tup xs)):ObjOk P w H' h' a o:=by
 induction o with
 | lst xs=>obtain⟨z,its,n,r,e⟩:=x;exact⟨z,its,n,r,k _ _ (.inl rfl) e⟩
 | tup xs=>obtain⟨z,its,r,ob,e,c⟩:=x;exact⟨z,its,r,ob,k _ _ (.inl rfl) e,c⟩
 | dK kvs=>obtain⟨z,y,vs,r,ob,es,ep,e,c⟩:=x;exact⟨z,y,vs,r,ob,es,ep,k _ _ (.inl rfl) e,c⟩
 | dT kvs=>
   obtain⟨z,y,xs,r,ob,es,ep,e,c⟩:=x;exact⟨z,y,xs,Paired.mapP r λp q z=>⟨z.1,ht _ _ z.2.1,z.2.2⟩,ob,es,ep,k _ _ (.inl rfl) e,c⟩
 | set S n=>obtain⟨ob,es,ep,t,e,c⟩:=x;exact⟨ob,es,ep,t,k _ _ (.inl rfl) e,c⟩
 | ins C dx fs=>
   obtain⟨d,z,ne,e,mA,⟨od,es,ep,e2,c⟩,r⟩:=x;exact⟨ho _ d,z,ne,k _ _ (.inl rfl) e,mA,⟨od,es,ep,k _ _ (.inr d) e2,c⟩,r⟩
 | own y=>obtain⟨ob,e⟩:=x;exact⟨ob,k _ _ (.inl rfl) e⟩
 | xd fs=>obtain⟨mA,⟨od,es,ep,e,c⟩,r⟩:=x;exact⟨mA,⟨od,es,ep,k _ _ (.inl rfl) e,c⟩,r⟩
 | rng lo hi=>obtain⟨t,u,v,e⟩:=x;exact⟨t,u,v,k _ _ (.inl rfl) e⟩
 | frz ob u ih=>obtain⟨e,q⟩:=x;exact⟨k _ _ (.inl rfl) e,ih q⟩
 | tbl ps=>
   have e:h.get? a=some {cls := .none,data := .fields ps}:=x;show h'.get? a=some {cls := .none,data := .fields ps};exact k a _ (.inl rfl) e
 | met f y=>
   have e:h.get? a=some (PySem.W.methodObj (.ref f) (.ref y)):=x;show h'.get? a=some (PySem.W.methodObj (.ref f) (.ref y));exact k a _ (.inl rfl) e
 | ext φ=>obtain⟨p,⟨o,e⟩,st⟩:=x;exact⟨st _ _ p λo q=>k _ _ (.inl rfl) q,⟨o,k _ _ (.inl rfl) e⟩,st⟩
theorem HOk.lt(x:HOk P w H h)(e:H a=some o):a<h.objs.size:=(x a o e).lt
theorem HOk.fresh(x:HOk P w H h)(e:h.objs.size<=a):H a=none:=by
 cases q:H a with
 | none=>rfl
 | some u=>exact absurd (RC (x.lt q) e) (Rx _)
theorem HOk.kept(x:HOk P w H h)(k:∀ b u,h.get? b=some u->h'.get? b=some u):HOk P w H h':=λa o e=>
 (x a o e).stay (λb u _ q=>k b u q) (λ_ q=>q) λ_ _ q=>q
theorem HOk.laid(x:HOk P w H h)(k:∀ b u,h.get? b=some u->h'.get? b=some u)(hp:h.objs.size<=a)(new:ObjOk P w (upd H a o) h' a o):HOk P w (upd H a o) h':=λb u e=>by
 have hn:=x.fresh hp;by_cases hb:b=a
 ·subst hb;rw[f8]at e;cases e;exact new
 ·rw[e6 hb]at e;exact(x b u e).stay (λc v _ q=>k c v q) (λc q=>by rw[e6 (f9 q hn)];exact q) λc xs q=>by rw[e6 (f9 q hn)];exact q
end
noncomputable def Rd(H:Hp)(a:UV)(u:HO):Prop:=H a=some u\/∃ o,H a=some (.frz o u)
theorem Rd.ok{P:Ua}{w:Ud}{H:Hp}{h:Heap}{a:UV}{u:HO}(r:Rd H a u)(x:HOk P w H h):ObjOk P w H h a u:=by
 rcases r with r | ⟨o,r⟩
 ·exact x a u r
 ·obtain⟨_,q⟩:=x a _ r;exact q
noncomputable def Mut:Option HO->Prop
 | some (.lst _)=>True
 | some (.dK _)=>True
 | some (.dT _)=>True
 | some (.set _ _)=>True
 | some (.ins _ _ _)=>True
 | some (.ext _)=>True
 | _=>False
section
variable{P:Ua}{w:Ud}{H:Hp}{h h':Heap}{x e:UV}{o':HO}
theorem HOk.write(ok:HOk P w H h)(mu:Mut (H x))(he:e=x\/H e=some (.own x))(k:∀ b u,b≠e->h.get? b=some u->h'.get? b=some u)(heo:∃ u,h'.get? e=some u)
 (new:ObjOk P w (upd H x o') h' x o'):HOk P w (upd H x o') h':=λb u q=>by
 have nown:∀ c y,H c=some (.own y)->c≠x:=λc y r z=>by subst z;rw[r]at mu;exact mu
 have ntup:∀ c xs,H c=some (.tup xs)->c≠x:=λc xs r z=>by subst z;rw[r]at mu;exact mu
 by_cases hb:b=x
 ·subst hb;rw[f8]at q;cases q;exact new
 ·rw[e6 hb]at q;by_cases hbe:b=e
  ·have q':H b=some (.own x):=by
    rcases he with z | z
    ·exact absurd (hbe.trans z) hb
    ·rw[hbe];exact z
   rw[q]at q';cases q';obtain⟨v,hv⟩:=heo;exact⟨v,by rw[hbe];exact hv⟩
  ·refine(ok b u q).stay (λc v hc r=>k c v ?_ r) (λc r=>by rw[e6 (nown c b r)];exact r) λc xs r=>by rw[e6 (ntup c xs r)];exact r
   rcases hc with rfl | hc
   ·exact hbe
   ·rintro rfl;rcases he with z | z
    ·exact nown c b hc z
    ·rw[hc]at z;cases z;exact hb rfl
end
structure Un(fs ex:List UV)(H H':Hp)(h h':Heap):Prop where
 keep:∀ b o,h.get? b=some o->H b=none->b∉fs->b∉ex->h'.get? b=some o
 slot:∀ b o,h.get? b=some o->H b=none->b∈fs->b∉ex->∃ sl,h'.get? b=some {o with slots:=sl}
 free:∀ b o,h.get? b=some o->H b=none->b∉ex->H' b=none
 there:∀ b o,h.get? b=some o->b∉ex->∃ o',h'.get? b=some o'
 tups:∀ b xs,H b=some (.tup xs)->H' b=some (.tup xs)
 frzs:∀ b o u,H b=some (.frz o (.lst u))->H' b=some (.frz o (.lst u))
 tbls:∀ b ps,H b=some (.tbl ps)->∃ more,H' b=some (.tbl (ps++more))
section
variable{fs fs' ex ex':List UV}{H H1 H2:Hp}{h h1 h2 h':Heap}{a x e:UV}{o:HO}
theorem Un.any(u:Un fs ex H H1 h h1){b:UV}{ob:Obj}(q:h.get? b=some ob)(n:H b=none)(hx:b∉ex):∃ sl,h1.get? b=some {ob with slots:=sl}:=by
 by_cases hb:b∈fs
 ·exact u.slot b ob q n hb hx
 ·exact⟨ob.slots,u.keep b ob q n hb hx⟩
theorem Un.trans(a:Un fs ex H H1 h h1)(b:Un fs ex H1 H2 h1 h2):Un fs ex H H2 h h2 where
 keep:=λc ob q n hc hx=>b.keep c ob (a.keep c ob q n hc hx) (a.free c ob q n hx) hc hx
 slot:=λc ob q n hc hx=>by
  obtain⟨sl,e1⟩:=a.slot c ob q n hc hx;obtain⟨sl',e2⟩:=b.slot c _ e1 (a.free c ob q n hx) hc hx;exact⟨sl',e2⟩
 free:=λc ob q n hx=>by
  obtain⟨o',e1⟩:=a.there c ob q hx;exact b.free c o' e1 (a.free c ob q n hx) hx
 there:=λc ob q hx=>by
  obtain⟨o',e1⟩:=a.there c ob q hx;exact b.there c o' e1 hx
 tups:=λc xs q=>b.tups c xs (a.tups c xs q)
 frzs:=λc ob xs q=>b.frzs c ob xs (a.frzs c ob xs q)
 tbls:=λc ps q=>by
  obtain⟨m1,e1⟩:=a.tbls c ps q;obtain⟨m2,e2⟩:=b.tbls c _ e1;exact⟨m1++m2,by rw[e2,Tn]⟩
theorem Un.kept(k:∀ b u,h.get? b=some u->h'.get? b=some u):Un fs ex H H h h':=
 ⟨λb ob q _ _ _=>k b ob q,λb ob q _ _ _=>⟨ob.slots,k b ob q⟩,λ_ _ _ n _=>n,λb ob q _=>⟨ob,k b ob q⟩,λ_ _ q=>q,λ_ _ _ q=>q,λ_ ps q=>⟨#[],by rw[q];simp⟩⟩
theorem Un.refl:Un fs ex H H h h:=Un.kept λ_ _ q=>q
theorem Un.laid(k:∀ b u,h.get? b=some u->h'.get? b=some u)(hp:h.objs.size<=a)(hn:H a=none):Un fs ex H (upd H a o) h h' where
 keep:=λb u q _ _ _=>k b u q
 slot:=λb u q _ _ _=>⟨u.slots,k b u q⟩
 free:=λb u q n _=>by rw[e6 (R5 (RC (Qw q) hp))];exact n
 there:=λb u q _=>⟨u,k b u q⟩
 tups:=λb xs q=>by rw[e6 (f9 q hn)];exact q
 frzs:=λb u xs q=>by rw[e6 (f9 q hn)];exact q
 tbls:=λb ps q=>⟨#[],by rw[e6 (f9 q hn),q];simp⟩
theorem Un.write(mu:Mut (H x))(he:e=x\/H e=some (.own x))(k:∀ b u,b≠e->h.get? b=some u->h'.get? b=some u)(heo:∃ u,h'.get? e=some u):Un fs ex H (upd H x o) h h':=by
 have hx:∀ b,H b=none->b≠x:=λb n z=>by subst z;rw[n]at mu;exact mu
 have hb:∀ b,H b=none->b≠e:=λb n z=>by
  subst z;rcases he with r | r
  ·exact hx b n r
  ·rw[n]at r;cases r
 have hm:∀ b u,H b=some u->¬ Mut (some u)->b≠x:=λb u q nm z=>by subst z;rw[q]at mu;exact nm mu
 refine⟨λb u q n _ _=>k b u (hb b n) q,λb u q n _ _=>⟨u.slots,k b u (hb b n) q⟩,λb u q n _=>by rw[e6 (hx b n)];exact n,λb u q _=>?_,
  λb xs q=>by rw[e6 (hm b _ q λz=>z)];exact q,λb u xs q=>by rw[e6 (hm b _ q λz=>z)];exact q,λb ps q=>⟨#[],by rw[e6 (hm b _ q λz=>z),q];simp⟩⟩
 by_cases hbe:b=e
 ·subst hbe;exact heo
 ·exact⟨u,k b u hbe q⟩
theorem Un.mono(u:Un fs ex H H1 h h1)(hs:∀ b∈fs,b∈fs')(hx:∀ b∈ex,b∈ex'):Un fs' ex' H H1 h h1:=
 ⟨λb ob q n hb he=>u.keep b ob q n (λz=>hb (hs b z)) λz=>he (hx b z),λ_ _ q n _ he=>u.any q n λz=>he (hx _ z),λb ob q n he=>u.free b ob q n λz=>he (hx b z),λb ob q he=>u.there b ob q λz=>he (hx b z),u.tups,u.frzs,u.tbls⟩
end
noncomputable def trk(h:Heap)(H:Hp):List UV:=(Qy h.objs.size).filter λa=>(H a).isSome
noncomputable def D6(h:Heap)(H:Hp):Heap:=PySem.W.hideAll h (trk h H)
theorem HQ(h:Heap)(H:Hp):(D6 h H).objs.size=h.objs.size:=PySem.W.hideAll_size _ _
theorem Ia{h:Heap}{H:Hp}{b:UV}{o:Obj}(e:h.get? b=some o)(n:H b=none):(D6 h H).get? b=some o:=
 PySem.W.hideAll_get _ e λhm=>by
  have q:(H b).isSome=true:=(SL.mp hm).2;rw[n]at q;simp at q
theorem LD{h:Heap}{H:Hp}{b:UV}{o:Obj}(e:(D6 h H).get? b=some o):h.get? b=some o/\H b=none:=by
 have e':h.get? b=some o:=PySem.W.of_hideAll (trk h H) e;refine⟨e',?_⟩;cases q:H b with
 | none=>rfl
 | some x=>
   have hm:b∈trk h H:=SL.mpr ⟨RP.mpr (Qw e'),by simp[q]⟩;have z:(D6 h H).get? b=none:=PySem.W.hideAll_none (trk h H) hm;rw[z]at e;cases e
structure Mod(K:Qo)(mg:Str->Option UT)(base:Heap):Prop where
 kin:K.In base
 glob:base.Ns Ub mg
 blt:∃ mb,base.Ns Vz mb/\∀ x:Str,x≠"__name__"->mb x=Uc x
 nolimit:base.NoLimit
structure Cx where
 prog:Ua
 w:Ud
 K:Qo
 mg:Str->Option UT
 base:Heap
 A:Uj
 N:List Str
 s₀:UU
 H₀:Hp
 env:Env
 outer:List Env
 stack:List Env
 ex:List UV
 fn:Str->Bool
 calm:Bool
 pn:List (UV×Obj)
 xe:UT->UU->Prop
noncomputable def frs(l:List Env):List UV:=l.filterMap (·.frame)
noncomputable abbrev Cx.fs(X:Cx):List UV:=frs X.outer
noncomputable def Vis(sc:Ug)(x:Str):Prop:=sc.names.lookup x=some .local\/sc.names.lookup x=some .cell\/sc.names.lookup x=some .free
noncomputable def Loc(sc:Ug)(x:Str):Prop:=sc.names.lookup x=some .local\/sc.names.lookup x=some .cell
noncomputable def Look(env:Env)(h:Heap)(m:Str->Option UT)(x:Str)(u:UT):Prop:=
 (env.kindOf x=some .local/\m x=some u)\/((env.kindOf x=some .cell\/env.kindOf x=some .free)/\∃ c,env.cells.lookup x=some c/\h.IsCell c (some u))
structure Cx.Ok(X:Cx):Prop where
 mod:Mod X.K X.mg X.base
 kind:X.env.scope.kind = .function
 glob:X.env.globals=Ub
 blt:X.env.builtins=Vz
 above:X.s₀.heap.objs.size<=X.env.locals
 inj:∀ x y c,X.env.cells.lookup x=some c->X.env.cells.lookup y=some c->x=y
 has:∀ x,(X.env.kindOf x=some .cell\/X.env.kindOf x=some .free)->∃ c,X.env.cells.lookup x=some c
 cab:∀ x c,X.fn x=true->X.env.cells.lookup x=some c->X.s₀.heap.objs.size<=c
 hd:X.calm=true->X.A.handled=none
 frames:X.A.frames=some X.stack
 stk:X.stack=X.outer\/(X.stack=X.env::X.outer/\X.env.frame=some X.env.locals)
 exf:∀ b∈X.ex,b≠X.env.locals/\∀ x c,X.env.cells.lookup x=some c->c≠b
 bs:∀ b o,X.base.get? b=some o->X.s₀.heap.get? b=some o/\X.H₀ b=none
 bsz:X.base.objs.size<=X.s₀.heap.objs.size
 noex:∀ b o,X.base.get? b=some o->b∉X.ex
 exfs:∀ b∈X.ex,b∉X.fs
 funs:X.s₀.heap.FunFrames X.base X.outer
 frf:∀ b∈X.fs,X.H₀ b=none
structure Inv(X:Cx)(pq:List (UV×Obj))(σ:List (Option V))(H:Hp)(s:UU):Prop where
 ok:X.Ok
 os:s.os=X.s₀.os
 bare:AllBare s.gens
 base:Un X.fs X.ex X.H₀ H X.s₀.heap s.heap
 loc:∃ m,s.heap.Ns X.env.locals m/\∀(i:Nat) (x:Str) (v:V),X.N[i]?=some x->σ[i]?=some (some v)->Vis X.env.scope x->∃ u,RelV v u/\Look X.env s.heap m x u
 cell:∀ x c,X.env.cells.lookup x=some c->∃ v,s.heap.IsCell c v
 free:H X.env.locals=none
 freeC:∀ x c,X.env.cells.lookup x=some c->H c=none
 pin:∀ p∈X.pn++pq,s.heap.get? p.1=some p.2/\H p.1=none/\p.1≠X.env.locals/\p.1∉X.fs/\∀ v,p.2.data ≠ .cell v
 hok:HOk X.prog X.w H s.heap
 len:σ.length=X.N.length
section
variable{X:Cx}{pq:List (UV×Obj)}{σ:List (Option V)}{H H':Hp}{s:UU}{h':Heap}
theorem Cx.Ok.nofr(ok:X.Ok){b:UV}{o:Obj}(e:X.base.get? b=some o):b∉X.fs:=λhb=>by
 have:=(ok.funs.mem hb).1;rw[e]at this;cases this
theorem Inv.bs(I:Inv X pq σ H s):∀ b o,X.base.get? b=some o->s.heap.get? b=some o/\H b=none:=λb o e=>
 ⟨I.base.keep b o (I.ok.bs b o e).1 (I.ok.bs b o e).2 (I.ok.nofr e) (I.ok.noex b o e),I.base.free b o (I.ok.bs b o e).1 (I.ok.bs b o e).2 (I.ok.noex b o e)⟩
theorem Inv.bk(I:Inv X pq σ H s):∀ b o,X.base.get? b=some o->s.heap.get? b=some o:=λb o e=>(I.bs b o e).1
theorem Inv.mod(I:Inv X pq σ H s):Mod X.K X.mg X.base:=I.ok.mod
theorem Inv.kIn(I:Inv X pq σ H s):X.K.In s.heap:=I.ok.mod.kin.keeps I.bk
theorem Inv.lt(I:Inv X pq σ H s):X.env.locals<s.heap.objs.size:=let ⟨_,hn,_⟩:=I.loc;hn.lt
theorem Inv.sz(I:Inv X pq σ H s):X.s₀.heap.objs.size<=s.heap.objs.size:=RE I.ok.above (TM I.lt)
theorem Inv.nofs(I:Inv X pq σ H s){a:UV}(h:s.heap.objs.size<=a):a∉X.fs:=λhb=>by
 obtain⟨_,o,ho,_⟩:=I.ok.funs.mem hb;exact absurd (RC (Qw ho) (RE I.sz h)) (Rx _)
theorem Inv.cne(I:Inv X pq σ H s):∀ x c,X.env.cells.lookup x=some c->c≠X.env.locals:=λx c e z=>by
 obtain⟨v,o,ho,hd⟩:=I.cell x c e;obtain⟨m,⟨o',es,ep,ho',hd',_⟩,_⟩:=I.loc;rw[z,ho']at ho;cases ho;rw[hd']at hd;cases hd
theorem Inv.funs(I:Inv X pq σ H s):s.heap.FunFrames X.base X.outer:=by
 have all:∀(l:List Env),(∀ b∈frs l,b∈X.fs)->X.s₀.heap.FunFrames X.base l->s.heap.FunFrames X.base l:=by
  intro l
  induction l with
  | nil=>intro _ _;trivial
  | cons env r ih=>
    intro hs hl;obtain⟨hk,⟨L,o,hf,hn,ho,hd⟩,hr⟩:=hl;have hL:L∈X.fs:=hs L (by unfold frs;rw[So,hf];exact RD);obtain⟨sl,e⟩:=I.base.slot L o ho (I.ok.frf L hL) hL λz=>I.ok.exfs L z hL;exact⟨hk,⟨L,_,hf,hn,e,hd⟩,ih (λb hb=>hs b (by unfold frs;rw[So,hf];exact R3 _ hb)) hr⟩
 exact all X.outer (λ_ hb=>hb) I.ok.funs
theorem Inv.stack(I:Inv X pq σ H s):s.heap.FunFrames X.base X.stack:=by
 rcases I.ok.stk with e | ⟨e,hf⟩
 ·rw[e];exact I.funs
 ·rw[e];obtain⟨m,hn,_⟩:=I.loc;refine .cons (by rw[I.ok.kind];decide) hf hn ?_ I.funs;exact TZ (RE I.ok.bsz I.ok.above)
theorem Inv.stkSub(I:Inv X pq σ H s):∀ b∈frs X.stack,b∈X.env.locals::X.fs:=λb hb=>by
 rcases I.ok.stk with e | ⟨e,hf⟩
 ·rw[e]at hb;exact R3 _ hb
 ·rw[e]at hb;unfold frs at hb;rw[So,hf]at hb;exact hb
theorem Inv.stkFree(I:Inv X pq σ H s):∀ b∈frs X.stack,H b=none:=λb hb=>by
 rcases R0.mp (I.stkSub b hb) with e | hb
 ·rw[e];exact I.free
 ·obtain⟨_,o,ho,_⟩:=I.ok.funs.mem hb;exact I.base.free b o ho (I.ok.frf b hb) λz=>I.ok.exfs b z hb
theorem Inv.step{g':Array Vl}{t':Nat}{d':Drawn}{ch:List UV}(I:Inv X pq σ H s)
 (hch:∀ b∈ch,(b∈X.ex\/X.s₀.heap.objs.size<=b)/\b≠X.env.locals/\(∀ x c,X.env.cells.lookup x=some c->c≠b)/\∀ p∈X.pn++pq,p.1≠b)
 (keep:∀ b o,b≠X.env.locals->b∉X.fs->b∉ch->s.heap.get? b=some o->H b=none->h'.get? b=some o)
 (slot:∀ b o,b≠X.env.locals->b∈X.fs->b∉ch->s.heap.get? b=some o->H b=none->∃ sl,h'.get? b=some {o with slots:=sl}) (free:∀ b o,b∉ch->s.heap.get? b=some o->H b=none->H' b=none)
 (there:∀ b o,b∉ch->s.heap.get? b=some o->∃ o',h'.get? b=some o')
 (tups:∀ b xs,H b=some (.tup xs)->H' b=some (.tup xs)) (frzs:∀ b o u,H b=some (.frz o (.lst u))->H' b=some (.frz o (.lst u))) (tbls:∀ b ps,H b=some (.tbl ps)->∃ more,H' b=some (.tbl (ps++more)))
 (ns:∀ m,s.heap.Ns X.env.locals m->h'.Ns X.env.locals m) (hok:HOk X.prog X.w H' h') (hg:AllBare g'):
 Inv X pq σ H' {s with heap:=h',gens:=g',drawn:=d',toks:=t'}:=by
 have neL:∀ b o,X.s₀.heap.get? b=some o->b≠X.env.locals:=λb o e=>R5 (RC (Qw e) I.ok.above)
 have neC:∀ b o,X.s₀.heap.get? b=some o->b∉X.ex->b∉ch:=λb o e hx hb=>by
  rcases(hch b hb).1 with z | z
  ·exact hx z
  ·exact absurd (RC (Qw e) z) (Rx _)
 have cellK:∀ x c,X.env.cells.lookup x=some c->∀ v,s.heap.IsCell c v->h'.IsCell c v:=λx c e v ⟨o,ho,hd⟩=>by
  have nch:c∉ch:=λz=>(hch c z).2.2.1 x c e rfl;by_cases hc:c∈X.fs
  ·obtain⟨sl,q⟩:=slot c o (I.cne x c e) hc nch ho (I.freeC x c e);exact⟨_,q,hd⟩
  ·exact⟨o,keep c o (I.cne x c e) hc nch ho (I.freeC x c e),hd⟩
 refine⟨I.ok,I.os,hg,⟨λb o e n hb hx=>?_,λb o e n hb hx=>?_,λb o e n hx=>?_,λb o e hx=>?_,λb xs e=>tups b xs (I.base.tups b xs e),λb o xs e=>frzs b o xs (I.base.frzs b o xs e),λb ps e=>?_⟩,?_,λx c e=>?_,?_,λx c e=>?_,λp hp=>?_,hok,I.len⟩
 ·exact keep b o (neL b o e) hb (neC b o e hx) (I.base.keep b o e n hb hx) (I.base.free b o e n hx)
 ·obtain⟨sl,e1⟩:=I.base.slot b o e n hb hx;obtain⟨sl',e2⟩:=slot b _ (neL b o e) hb (neC b o e hx) e1 (I.base.free b o e n hx);exact⟨sl',e2⟩
 ·obtain⟨o',e1⟩:=I.base.there b o e hx;exact free b o' (neC b o e hx) e1 (I.base.free b o e n hx)
 ·obtain⟨o',e1⟩:=I.base.there b o e hx;exact there b o' (neC b o e hx) e1
 ·obtain⟨m1,e1⟩:=I.base.tbls b ps e;obtain⟨m2,e2⟩:=tbls b _ e1;exact⟨m1++m2,by rw[e2,Tn]⟩
 ·obtain⟨m,hn,hl⟩:=I.loc;refine⟨m,ns m hn,λi x v e1 e2 e3=>?_⟩;obtain⟨u,r,l⟩:=hl i x v e1 e2 e3;refine⟨u,r,?_⟩;rcases l with l | ⟨k,c,e,z⟩
  ·exact .inl l
  ·exact .inr ⟨k,c,e,cellK x c e _ z⟩
 ·obtain⟨v,z⟩:=I.cell x c e;exact⟨v,cellK x c e v z⟩
 ·obtain⟨m,⟨o,_,_,ho,_⟩,_⟩:=I.loc;exact free _ o (λz=>(hch _ z).2.1 rfl) ho I.free
 ·obtain⟨v,o,ho,hd⟩:=I.cell x c e;exact free c o (λz=>(hch c z).2.2.1 x c e rfl) ho (I.freeC x c e)
 ·obtain⟨e,n,ne,nf,d⟩:=I.pin p hp;have nch:p.1∉ch:=λz=>(hch p.1 z).2.2.2 p hp rfl;exact⟨keep p.1 p.2 ne nf nch e n,free p.1 p.2 nch e n,ne,nf,d⟩
theorem Inv.un{t':Nat}(I:Inv X pq σ H s)(u:Un X.fs [] H H' s.heap h')(hok:HOk X.prog X.w H' h'):Inv X pq σ H' {s with heap:=h',toks:=t'}:=by
 obtain⟨m,⟨o,es,ep,ho,r⟩,_⟩:=id I.loc;obtain⟨sl,hL⟩:=u.any ho I.free (by simp)
 exact I.step (g':=s.gens) (d':=s.drawn) (ch:=[]) (λ_ z=>nomatch z) (λb o _ hb _ e n=>u.keep b o e n hb (by simp)) (λb o _ hb _ e n=>u.slot b o e n hb (by simp)) (λb o _ e n=>u.free b o e n (by simp)) (λb o _ e=>u.there b o e (by simp)) u.tups u.frzs u.tbls (λm' hm=>by
  obtain⟨o',es',ep',ho',r'⟩:=hm;rw[ho]at ho';cases ho';exact⟨_,es',ep',hL,r'⟩) hok I.bare
theorem Inv.call{g':Array Vl}{t':Nat}{d':Drawn}{ch:List UV}(I:Inv X pq σ H s)(u:Un (frs X.stack) ch H H' s.heap h')(hok:HOk X.prog X.w H' h')(hg:AllBare g')
 (hch:∀ b∈ch,(b∈X.ex\/X.s₀.heap.objs.size<=b)/\b≠X.env.locals/\(∀ x c,X.env.cells.lookup x=some c->c≠b)/\∀ p∈X.pn++pq,p.1≠b):
 Inv X pq σ H' {s with heap:=h',gens:=g',drawn:=d',toks:=t'}:=by
 obtain⟨m,⟨o,es,ep,ho,r⟩,_⟩:=id I.loc;obtain⟨sl,hL⟩:=u.any ho I.free λz=>(hch _ z).2.1 rfl
 exact I.step (ch:=ch) hch (λb o hL hb hc e n=>u.keep b o e n (λz=>(R0.mp (I.stkSub b z)).elim hL hb) hc) (λb o _ _ hc e n=>u.any e n hc) (λb o hc e n=>u.free b o e n hc) (λb o hc e=>u.there b o e hc) u.tups u.frzs u.tbls (λm' hm=>by
  obtain⟨o',es',ep',ho',r'⟩:=hm;rw[ho]at ho';cases ho';exact⟨_,es',ep',hL,r'⟩) hok hg
theorem Inv.turned{t':Nat}{it:UV}(I:Inv X pq σ H s)(k:∀ b o,b≠it->s.heap.get? b=some o->h'.get? b=some o)(hn:H it=none)(hL:it≠X.env.locals)
 (h1:it∈X.ex\/X.s₀.heap.objs.size<=it) (h2:∀ x c,X.env.cells.lookup x=some c->c≠it) (h3:∀ p∈X.pn++pq,p.1≠it):Inv X pq σ H {s with heap:=h',toks:=t'}:=by
 have nit:∀ b u,H b=some u->b≠it:=λb u e z=>by rw[z,hn]at e;cases e
 refine I.step (g':=s.gens) (d':=s.drawn) (ch:=[it]) (λb hb=>?_) (λb o _ _ hc e _=>k b o (λz=>hc (by simp[z])) e) (λb o _ _ hc e _=>⟨o.slots,k b o (λz=>hc (by simp[z])) e⟩) (λ_ _ _ _ n=>n)
  (λb o hc e=>⟨o,k b o (λz=>hc (by simp[z])) e⟩) (λ_ _ e=>e) (λ_ _ _ e=>e) (λb ps e=>⟨#[],by rw[e];simp⟩) (λm hm=>?_) (λb u e=>?_) I.bare
 ·have e:b=it:=by simpa using hb
  subst e;exact⟨h1,hL,h2,h3⟩
 ·obtain⟨o,es,ep,ho,r⟩:=hm;exact⟨o,es,ep,k _ o (Ne.symm hL) ho,r⟩
 ·refine(I.hok b u e).stay (λc v hc q=>k c v ?_ q) (λ_ q=>q) λ_ _ q=>q;rcases hc with z | z
  ·rw[z];exact nit b u e
  ·exact nit c _ z
theorem Inv.tok(I:Inv X pq σ H s)(t:Nat):Inv X pq σ H {s with toks:=t}:=I.un (h':=s.heap) (t':=t) Un.refl I.hok
theorem Inv.kept{t':Nat}(I:Inv X pq σ H s)(k:∀ b u,s.heap.get? b=some u->h'.get? b=some u):Inv X pq σ H {s with heap:=h',toks:=t'}:=I.un (Un.kept k) (I.hok.kept k)
theorem Inv.laid{a:UV}{o:HO}{t':Nat}(I:Inv X pq σ H s)(k:∀ b u,s.heap.get? b=some u->h'.get? b=some u)(hp:s.heap.objs.size<=a)(new:ObjOk X.prog X.w (upd H a o) h' a o):
 Inv X pq σ (upd H a o) {s with heap:=h',toks:=t'}:=I.un (Un.laid k hp (I.hok.fresh hp)) (I.hok.laid k hp new)
theorem Inv.write{x e:UV}{o:HO}{t':Nat}(I:Inv X pq σ H s)(mu:Mut (H x))(he:e=x\/H e=some (.own x))(k:∀ b u,b≠e->s.heap.get? b=some u->h'.get? b=some u)(heo:∃ u,h'.get? e=some u)
 (new:ObjOk X.prog X.w (upd H x o) h' x o):Inv X pq σ (upd H x o) {s with heap:=h',toks:=t'}:=I.un (Un.write mu he k heo) (I.hok.write mu he k heo new)
theorem Inv.weak{σ':List (Option V)}(I:Inv X pq σ H s)(hl:σ'.length=σ.length)(w:∀(i:Nat) v,σ'[i]?=some (some v)->σ[i]?=some (some v)):Inv X pq σ' H s:=
 ⟨I.ok,I.os,I.bare,I.base,let ⟨m,hn,hl'⟩:=I.loc;⟨m,hn,λi x v e1 e2 e3=>hl' i x v e1 (w i v e2) e3⟩,I.cell,I.free,I.freeC,I.pin,I.hok,hl.trans I.len⟩
theorem Inv.pins_of{pq':List (UV×Obj)}(I:Inv X pq σ H s)(h:∀ p∈pq',s.heap.get? p.1=some p.2/\H p.1=none/\p.1≠X.env.locals/\p.1∉X.fs/\∀ v,p.2.data ≠ .cell v):Inv X pq' σ H s:=
 ⟨I.ok,I.os,I.bare,I.base,I.loc,I.cell,I.free,I.freeC,λp hp=>(RF.mp hp).elim (λz=>I.pin p (Sl _ z)) (h p),I.hok,I.len⟩
theorem Dm{N:List Str}(hN:N.Nodup){i j:Nat}{x:Str}(a:N[i]?=some x)(b:N[j]?=some x):i=j:=by
 obtain⟨h1,e1⟩:=gM a;obtain⟨h2,e2⟩:=gM b;exact(List.getElem_inj hN).mp (e1.trans e2.symm)
theorem Cg{M:Model}{A:Uj}{E:UT->UU->Prop}{i:Nat}{x:Str}{v:V}{u:UT}{Q:Unit->UU->Prop}(I:Inv X pq σ H s)(hN:X.N.Nodup)(hi:X.N[i]?=some x)(hx:Loc X.env.scope x)(r:RelV v u)
 (h:∀ s',Inv X pq (σ.set i (some v)) H s'->(∃ a,Rk a s.heap s'.heap/\(a=X.env.locals\/X.env.cells.lookup x=some a))->Q () s') (hf:X.fn x=true\/X.env.scope.names.lookup x=some .local:=by first | exact .inl rfl | exact .inr rfl | assumption):UX M A (storeName X.env x u) Q E s:=by
 obtain⟨m,hn,hl⟩:=id I.loc;have hcls:(X.env.scope.kind == .class||(X.env.scope.kind == .module&&X.env.locals != X.env.globals))=false:=by rw[I.ok.kind];rfl
 have hiσ:i<σ.length:=by rw[I.len];exact(gM hi).1
 have cne:=I.cne
 have tracked:∀{a:UV} {h':Heap},(∃ o,s.heap.get? a=some o/\H a=none)->Rk a s.heap h'->HOk X.prog X.w H h':=λ{a h'} ha hs b ob e=>by
  obtain⟨_,_,hfree⟩:=ha;refine(I.hok b ob e).stay (λc w' hc q=>(hs.2 c ?_).trans q) (λ_ q=>q) λ_ _ q=>q;rintro rfl;rcases hc with rfl | hc
  ·rw[hfree]at e;cases e
  ·rw[hfree]at hc;cases hc
 rcases hx with hk | hk
 ·refine wpAny_storeName_local hk hn (λh' hn' hs=>?_) hcls;obtain⟨oL,_,_,hoL,_⟩:=id hn;refine h _ ⟨I.ok,I.os,I.bare,⟨λb o e n hb hx=>?_,λb o e n hb hx=>?_,I.base.free,λb o e hx=>?_,I.base.tups,I.base.frzs,I.base.tbls⟩,⟨_,hn',λj y v' e1 e2 e3=>?_⟩,λy c e=>?_,I.free,I.freeC,λp hp=>?_,tracked ⟨oL,hoL,I.free⟩ hs,by simpa using I.len⟩ ⟨_,hs,.inl rfl⟩
  ·exact(hs.2 b (R5 (RC (Qw e) I.ok.above))).trans (I.base.keep b o e n hb hx)
  ·obtain⟨sl,e1⟩:=I.base.slot b o e n hb hx;exact⟨sl,(hs.2 b (R5 (RC (Qw e) I.ok.above))).trans e1⟩
  ·obtain⟨o',e1⟩:=I.base.there b o e hx;exact⟨o',(hs.2 b (R5 (RC (Qw e) I.ok.above))).trans e1⟩
  ·by_cases hj:j=i
   ·subst hj;rw[hi]at e1;cases e1;rw[Ra hiσ]at e2;cases e2;exact⟨u,r,.inl ⟨hk,by simp⟩⟩
   ·rw[Rq (Ne.symm hj)]at e2;obtain⟨u',r',q⟩:=hl j y v' e1 e2 e3;refine⟨u',r',?_⟩;rcases q with⟨k,e⟩ | ⟨k,c,e,z⟩
    ·refine .inl ⟨k,?_⟩;have:y≠x:=λe=>hj (Dm hN e1 (e▸hi));simp[this,e]
    ·exact .inr ⟨k,c,e,z.sameBut hs (cne y c e)⟩
  ·obtain⟨w',z⟩:=I.cell y c e;exact⟨w',z.sameBut hs (cne y c e)⟩
  ·obtain⟨e,n,ne,nf,d⟩:=I.pin p hp;exact⟨(hs.2 p.1 ne).trans e,n,ne,nf,d⟩
 ·have hfn:X.fn x=true:=by
   rcases hf with z | z
   ·exact z
   ·rw[z]at hk;cases hk
  obtain⟨c,hc⟩:=I.ok.has x (.inl hk);obtain⟨w',z⟩:=I.cell x c hc;refine wpAny_storeName_cell I.ok.kind hk hc z (λh' hc' hs=>?_);obtain⟨oc,hoc,hocd⟩:=id z;refine h {s with heap:=h'} ⟨I.ok,I.os,I.bare,⟨λb o e n hb hx=>?_,λb o e n hb hx=>?_,I.base.free,λb o e hx=>?_,I.base.tups,I.base.frzs,I.base.tbls⟩,⟨m,hn.sameBut hs (Ne.symm (cne x c hc)),λj y v' e1 e2 e3=>?_⟩,λy c' e=>?_,I.free,I.freeC,λp hp=>?_,tracked ⟨oc,hoc,I.freeC x c hc⟩ hs,by simpa using I.len⟩ ⟨c,hs,.inr hc⟩
  ·exact(hs.2 b (R5 (RC (Qw e) (I.ok.cab x c hfn hc)))).trans (I.base.keep b o e n hb hx)
  ·obtain⟨sl,e1⟩:=I.base.slot b o e n hb hx;exact⟨sl,(hs.2 b (R5 (RC (Qw e) (I.ok.cab x c hfn hc)))).trans e1⟩
  ·obtain⟨o',e1⟩:=I.base.there b o e hx;exact⟨o',(hs.2 b (R5 (RC (Qw e) (I.ok.cab x c hfn hc)))).trans e1⟩
  ·by_cases hj:j=i
   ·subst hj;rw[hi]at e1;cases e1;rw[Ra hiσ]at e2;cases e2;exact⟨u,r,.inr ⟨.inl hk,c,hc,hc'⟩⟩
   ·rw[Rq (Ne.symm hj)]at e2;obtain⟨u',r',q⟩:=hl j y v' e1 e2 e3;refine⟨u',r',?_⟩;rcases q with q | ⟨k,c',e,z'⟩
    ·exact .inl q
    ·refine .inr ⟨k,c',e,z'.sameBut hs ?_⟩;rintro rfl;exact hj (Dm hN e1 (I.ok.inj _ _ _ e hc▸hi))
  ·by_cases hcc:c'=c
   ·subst hcc;exact⟨_,hc'⟩
   ·obtain⟨w2,z2⟩:=I.cell y c' e;exact⟨w2,z2.sameBut hs hcc⟩
  ·obtain⟨e,n,ne,nf,d⟩:=I.pin p hp;refine⟨(hs.2 p.1 ?_).trans e,n,ne,nf,d⟩;intro q;rw[q,hoc]at e;have q':oc=p.2:=oj e;exact d w' (by rw[<-q'];exact hocd)
theorem Do{M:Model}{A:Uj}{E:UT->UU->Prop}{i:Nat}{x:Str}{v:V}{u:UT}{Q:Unit->UU->Prop}(I:Inv X pq σ H s)(hN:X.N.Nodup)(hi:X.N[i]?=some x)(hx:Loc X.env.scope x)(r:RelV v u)
 (h:∀ s',Inv X pq (σ.set i (some v)) H s'->Q () s') (hf:X.fn x=true\/X.env.scope.names.lookup x=some .local:=by first | exact .inl rfl | exact .inr rfl | assumption):UX M A (storeName X.env x u) Q E s:=
 Cg I hN hi hx r (λs' I' _=>h s' I') hf
theorem Inv.call'{s':UU}{ch:List UV}(I:Inv X pq σ H s)(ho:s'.os=s.os)(u:Un (frs X.stack) ch H H' s.heap s'.heap)(hok:HOk X.prog X.w H' s'.heap)(hg:AllBare s'.gens)
 (hch:∀ b∈ch,(b∈X.ex\/X.s₀.heap.objs.size<=b)/\b≠X.env.locals/\(∀ x c,X.env.cells.lookup x=some c->c≠b)/\∀ p∈X.pn++pq,p.1≠b):Inv X pq σ H' s':=by
 obtain⟨h',g',d',t',o'⟩:=s';have e:o'=s.os:=ho;subst e;exact I.call (g':=g') (t':=t') (d':=d') u hok hg hch
end
noncomputable abbrev XK:=UT->Option UV->Hp->Prop
noncomputable abbrev St:=List (Option V)
noncomputable abbrev VK:=V->Hp->Prop
noncomputable abbrev TE:=St->Hp->VK->Prop
noncomputable abbrev TT:=St->Hp->(Bool->Hp->Prop)->Prop
noncomputable abbrev TA:=St->Hp->(List V->Hp->Prop)->Prop
structure Ends where
 nx:St->Hp->Prop
 rt:VK
 bk:St->Hp->Prop:=λ_ _=>False
 ct:St->Hp->Prop:=λ_ _=>False
noncomputable abbrev TS:=Ends->St->Hp->Prop
noncomputable def EP(X:Cx)(pq:List (UV×Obj))(σ:St)(Q:VK)(u:UT)(s':UU):Prop:=∃ v H',Inv X pq σ H' s'/\RelV v u/\Q v H'
noncomputable def TP(X:Cx)(pq:List (UV×Obj))(σ:St)(Q:Bool->Hp->Prop)(b:Bool)(s':UU):Prop:=∃ H',Inv X pq σ H' s'/\Q b H'
noncomputable def AP(X:Cx)(pq:List (UV×Obj))(σ:St)(Q:List V->Hp->Prop)(us:List UT)(s':UU):Prop:=∃ vs H',Inv X pq σ H' s'/\Vals vs us/\Q vs H'
noncomputable def SP(X:Cx)(pq:List (UV×Obj))(D:Ends)(f:Flow)(s':UU):Prop:=
 match f with
 | .next=>∃ σ' H',Inv X pq σ' H' s'/\D.nx σ' H'
 | .brk=>∃ σ' H',Inv X pq σ' H' s'/\D.bk σ' H'
 | .cont=>∃ σ' H',Inv X pq σ' H' s'/\D.ct σ' H'
 | .ret u=>∃ v σ' H',Inv X pq σ' H' s'/\RelV v u/\D.rt v H'
noncomputable def PE(X:Cx)(e:Expr)(t:TE):Prop:=
 ∀(pq:List (UV×Obj)) (s:UU) (σ:St) (H:Hp) (Q:VK),Inv X pq σ H s->t σ H Q->UX (UZ X.prog X.w) X.A (eval e X.env) (EP X pq σ Q) X.xe s
noncomputable def PT(X:Cx)(e:Expr)(t:TT):Prop:=
 ∀(pq:List (UV×Obj)) (s:UU) (σ:St) (H:Hp) (Q:Bool->Hp->Prop),Inv X pq σ H s->t σ H Q->UX (UZ X.prog X.w) X.A (isTrue e X.env (eval e X.env)) (TP X pq σ Q) X.xe s
noncomputable def PW(X:Cx)(e:Expr)(t:TT):Prop:=
 ∀(whole:Sem UT) (pq:List (UV×Obj)) (s:UU) (σ:St) (H:Hp) (Q:Bool->Hp->Prop),Inv X pq σ H s->t σ H Q->UX (UZ X.prog X.w) X.A (isTrue e X.env whole) (TP X pq σ Q) X.xe s
theorem PW.pt{X:Cx}{e:Expr}{t:TT}(h:PW X e t):PT X e t:=h _
noncomputable def PA(X:Cx)(es:List Expr)(t:TA):Prop:=
 ∀(pos:Pos) (pq:List (UV×Obj)) (s:UU) (σ:St) (H:Hp) (Q:List V->Hp->Prop),Inv X pq σ H s->t σ H Q->UX (UZ X.prog X.w) X.A (spliced (backTo pos (Ue es X.env))) (AP X pq σ Q) X.xe s
noncomputable def PS(X:Cx)(st:Stmt)(t:TS):Prop:=
 ∀(pq:List (UV×Obj)) (s:UU) (σ:St) (H:Hp) (D:Ends),Inv X pq σ H s->t D σ H->UX (UZ X.prog X.w) X.A (exec st X.env) (SP X pq D) X.xe s
noncomputable def PSs(X:Cx)(st:List Stmt)(t:TS):Prop:=
 ∀(pq:List (UV×Obj)) (s:UU) (σ:St) (H:Hp) (D:Ends),Inv X pq σ H s->t D σ H->UX (UZ X.prog X.w) X.A (execs st X.env) (SP X pq D) X.xe s
theorem thn{α:Type}{t:Sem α}{Q Q':α->UU->Prop}{M:Model}{A:Uj}{E:UT->UU->Prop}{s:UU}(h:UX M A t Q E s)(hQ:∀ a s,Q a s->Q' a s):UX M A t Q' E s:=V6 h hQ λ_ _ x=>x
section
variable{X:Cx}
noncomputable def LF(i:Nat):TE:=λσ H Q=>∃ v,σ[i]?=some (some v)/\Q v H
noncomputable def tC(v:V):TE:=λ_ H Q=>Q v H
theorem NL{i:Nat}{x:Str}{pos:Pos}(hN:X.N[i]?=some x)(hv:Vis X.env.scope x)(hd:(x == ("__debug__":Str))=false:=by decide)(hcd:(x == ("__classdict__":Str))=false:=by decide):PE X (.Name x pos) (LF i):=by
 intro pq s σ H Q I h;obtain⟨v,e,h⟩:=h;obtain⟨m,hn,hl⟩:=I.loc;obtain⟨u,r,l⟩:=hl i x v hN e hv;have fin:EP X pq σ Q u s:=⟨v,H,I,r,h⟩
 rcases l with⟨hk,hm⟩ | ⟨hk,c,hc,hcell⟩
 ·exact WM (wpAny_loadName_local I.ok.kind hk hn hm fin) hd
 ·rcases hk with hk | hk
  ·exact WM (wpAny_loadName_cell I.ok.kind hk hc hcell fin) hd
  ·exact WM (wpAny_loadName_free I.ok.kind hk hc hcell fin hcd) hd
theorem NM{i j pos}:PE X (.Constant (.int i) j pos) (tC (.int i)):=λ_ _ _ H _ I h=>wpAny_Constant_int ⟨.int i,H,I.tok _,⟨_,rfl⟩,h⟩
theorem Oy{b j pos}:PE X (.Constant (.bool b) j pos) (tC (.bl b)):=λ_ _ _ H _ I h=>Constant_bool ⟨.bl b,H,I,rfl,h⟩
theorem NN{j pos}:PE X (.Constant .none j pos) (tC .non):=λ_ _ _ H _ I h=>Constant_none ⟨.non,H,I,rfl,h⟩
theorem NO{x j pos}:PE X (.Constant (.str x) j pos) (tC (.str x)):=λ_ _ _ H _ I h=>Calls.Constant_str ⟨.str x,H,I.tok _,⟨_,rfl⟩,h⟩
noncomputable def Gl(X:Cx)(x:Str):Prop:=X.env.kindOf x=some .globalImplicit
theorem LG{E:UT->UU->Prop}{pq:List (UV×Obj)}{s:UU}{σ:St}{H:Hp}{x:Str}{u:UT}{pos:Pos}{Q:UT->UU->Prop}(I:Inv X pq σ H s)(hg:Gl X x)(hm:X.mg x=some u)(h:Q u s)
 (hd:(x == ("__debug__":Str))=false:=by decide):UX (UZ X.prog X.w) X.A (eval (.Name x pos) X.env) Q E s:=
 Calls.Name_function_global I.ok.kind hg (Calls.loadGlobal_global (by rw[I.ok.glob];exact I.mod.glob.keeps I.bk) hm h) hd
theorem AI{E:UT->UU->Prop}{pq:List (UV×Obj)}{s:UU}{σ:St}{H:Hp}{x:Str}{u:UT}{pos:Pos}{Q:UT->UU->Prop}(I:Inv X pq σ H s)(hg:Gl X x)(hm:X.mg x=none)(hv:Uc x=some u)(h:Q u s)
 (hn:x≠"__name__":=by decide) (hd:(x == ("__debug__":Str))=false:=by decide):UX (UZ X.prog X.w) X.A (eval (.Name x pos) X.env) Q E s:=by
 obtain⟨mb,h1,h2⟩:=I.mod.blt;exact Calls.Name_function_global I.ok.kind hg (Calls.loadGlobal_builtin (by rw[I.ok.glob];exact I.mod.glob.keeps I.bk) hm (by rw[I.ok.blt];exact h1.keeps I.bk) ((h2 x hn).trans hv) h) hd
theorem LH{x:Str}{v:V}{u:UT}{pos:Pos}(hg:Gl X x)(hm:X.mg x=none)(hv:Uc x=some u)(r:RelV v u)(hn:x≠"__name__":=by decide)(hd:(x == ("__debug__":Str))=false:=by decide):PE X (.Name x pos) (tC v):=
 λ_ _ _ H _ I h=>AI I hg hm hv ⟨v,H,I,r,h⟩ hn hd
variable{a b:Expr}{ta tb:TE}{pos:Pos}
noncomputable def PC(X:Cx)(op:CmpOp)(a b:Expr)(t:TE):Prop:=
 ∀(pq:List (UV×Obj)) (s:UU) (σ:St) (H:Hp) (Q:VK),Inv X pq σ H s->t σ H Q->
  UX (UZ X.prog X.w) X.A (eval a X.env) (λv s₁=>UX (UZ X.prog X.w) X.A (eval b X.env) (λu s₂=>UX (UZ X.prog X.w) X.A (Ui op v u) (EP X pq σ Q) X.xe s₂) X.xe s₁) X.xe s
noncomputable def tB(t:TE):TT:=λσ H Q=>t σ H λx H1=>∃ c,x = .bl c/\Q c H1
theorem Ib{op:CmpOp}{t:TE}(h:PC X op a b t)(h1:VO op b=false:=by first | exact nobehind _ (by decide) (by decide) | rfl):PE X (.Compare a [op] [b] pos) t:=λpq s σ H Q I hw=>WN (h pq s σ H Q I hw) h1
theorem Ic{op:CmpOp}{t:TE}(h:PC X op a b t)(h1:VO op b=false:=by first | exact nobehind _ (by decide) (by decide) | rfl):PT X (.Compare a [op] [b] pos) (tB t):=by
 intro pq s σ H Q I hw;refine Vj (thn (h pq s σ H _ I hw) λv s1 h1=>thn h1 λu s2 h2=>thn h2 λc s3 ⟨x,H1,I1,r1,q1⟩=>?_) h1;obtain⟨d,rfl,q⟩:=q1;cases r1;exact Uk ⟨H1,I1,q⟩
variable{tA tB':TT}{rest:List Expr}
noncomputable def Oz(t u:TT):TT:=λσ H Q=>t σ H λc H1=>if c=true then u σ H1 Q else Q false H1
noncomputable def tOr(t u:TT):TT:=λσ H Q=>t σ H λc H1=>if c=true then Q true H1 else u σ H1 Q
noncomputable def P0(t:TT):TT:=λσ H Q=>t σ H λc H1=>Q (!c) H1
theorem LI(ha:PT X a tA):PW X (.BoolOp .And [a] pos) tA:=by
 intro wh pq s σ H Q I h;refine isTrue_and (thn (ha pq s σ H Q I h) λc s1 e=>?_);cases c with
 | true=>exact isTrue_and_nil e
 | false=>exact e
theorem NP(ha:PT X a tA):PW X (.BoolOp .Or [a] pos) tA:=by
 intro wh pq s σ H Q I h;refine isTrue_or (thn (ha pq s σ H Q I h) λc s1 e=>?_);cases c with
 | false=>exact isTrue_or_nil e
 | true=>exact e
theorem Id(ha:PT X a tA)(hb:PW X (.BoolOp .And (b::rest) pos) tB'):PW X (.BoolOp .And (a::b::rest) pos) (Oz tA tB'):=by
 intro wh pq s σ H Q I h;refine isTrue_and (thn (ha pq s σ H _ I h) λc s1 ⟨H1,I1,q1⟩=>?_);cases c with
 | true=>exact hb wh pq s1 σ H1 Q I1 q1
 | false=>exact⟨H1,I1,q1⟩
theorem Mn(ha:PT X a tA)(hb:PW X (.BoolOp .Or (b::rest) pos) tB'):PW X (.BoolOp .Or (a::b::rest) pos) (tOr tA tB'):=by
 intro wh pq s σ H Q I h;refine isTrue_or (thn (ha pq s σ H _ I h) λc s1 ⟨H1,I1,q1⟩=>?_);cases c with
 | true=>exact⟨H1,I1,q1⟩
 | false=>exact hb wh pq s1 σ H1 Q I1 q1
theorem NQ(ha:PT X a tA):PT X (.UnaryOp .Not a pos) (P0 tA):=by
 intro pq s σ H Q I h;exact isTrue_not (ha pq s σ H (λc H1=>Q (!c) H1) I h)
noncomputable def Mo(ta tb:TE):TE:=λσ H Q=>ta σ H λx H1=>∃ c,x = .bl c/\if c=true then tb σ H1 Q else Q (.bl false) H1
noncomputable def P3(ta tb:TE):TE:=λσ H Q=>ta σ H λx H1=>∃ c,x = .bl c/\if c=true then Q (.bl true) H1 else tb σ H1 Q
noncomputable def Mp(ta:TE):TE:=λσ H Q=>ta σ H λx H1=>∃ c,x = .bl c/\Q (.bl (!c)) H1
theorem Ie{op}{t:TE}(h:PE X a t):PE X (.BoolOp op [a] pos) t:=λpq s σ H Q I hw=>BoolOp_one (h pq s σ H Q I hw)
theorem Ig(ha:PE X a ta)(hb:PE X (.BoolOp .And (b::rest) pos) tb):PE X (.BoolOp .And (a::b::rest) pos) (Mo ta tb):=by
 intro pq s σ H Q I h;refine BoolOp_and (thn (ha pq s σ H _ I h) λv s1 ⟨x,H1,I1,r1,q1⟩=>?_);obtain⟨c,rfl,q1⟩:=q1;cases r1;refine Uk ?_;cases c with
 | true=>exact hb pq s1 σ H1 Q I1 q1
 | false=>exact⟨.bl false,H1,I1,rfl,q1⟩
theorem Mq(ha:PE X a ta)(hb:PE X (.BoolOp .Or (b::rest) pos) tb):PE X (.BoolOp .Or (a::b::rest) pos) (P3 ta tb):=by
 intro pq s σ H Q I h;refine BoolOp_or (thn (ha pq s σ H _ I h) λv s1 ⟨x,H1,I1,r1,q1⟩=>?_);obtain⟨c,rfl,q1⟩:=q1;cases r1;refine Uk ?_;cases c with
 | false=>exact hb pq s1 σ H1 Q I1 q1
 | true=>exact⟨.bl true,H1,I1,rfl,q1⟩
theorem NR(ha:PE X a ta):PE X (.UnaryOp .Not a pos) (Mp ta):=by
 intro pq s σ H Q I h;refine UnaryOp_ (thn (ha pq s σ H _ I h) λv s1 ⟨x,H1,I1,r1,q1⟩=>?_);obtain⟨c,rfl,q1⟩:=q1;cases r1;exact not_of (Uk ⟨.bl (!c),H1,I1,rfl,q1⟩)
end
noncomputable def SqL(K:Qo)(H:Hp)(a:UV)(xs:List V):Prop:=
 Rd H a (.lst xs)\/
  ∃(o:Obj) (its:Array UT) (n:Nat),K.lookup a=some o/\o.cls = .type "list"/\o.dict=none/\o.data = .seq its n/\its.size<=UY/\Vals xs its.toList
noncomputable def SqT(K:Qo)(H:Hp)(a:UV)(xs:List V):Prop:=
 Rd H a (.tup xs)\/
  ∃(o:Obj) (its:Array UT) (n:Nat),K.lookup a=some o/\o.cls = .type "tuple"/\o.data = .seq its n/\its.size<=UY/\Vals xs its.toList
noncomputable def QP:UT->Option V
 | .none=>some .non
 | .bool b=>some (.bl b)
 | .int i _=>some (.int i)
 | .str x _=>some (.str x)
 | .bytes b _=>some (.byt b)
 | .float b _=>some (.flt b)
 | .ref a=>some (.ref a)
 | .type n=>some (.ty n)
 | _=>none
theorem RelV.abs{x:V}{u:UT}(r:RelV x u):QP u=some x:=by
 cases x with
 | non=>cases r;rfl
 | bl _=>cases r;rfl
 | int _=>obtain⟨t,rfl⟩:=r;rfl
 | str _=>obtain⟨t,rfl⟩:=r;rfl
 | byt _=>obtain⟨t,rfl⟩:=r;rfl
 | flt _=>obtain⟨t,rfl⟩:=r;rfl
 | ref _=>cases r;rfl
 | ty _=>cases r;rfl
theorem RelV.inj{x y:V}{u:UT}(r:RelV x u)(q:RelV y u):x=y:=oj (r.abs.symm.trans q.abs)
theorem Vals.inj:∀{xs ys:List V} {us:List UT},Vals xs us->Vals ys us->xs=ys
 | _,_,_,.nil,.nil=>rfl
 | _,_,_,.cons r t,.cons r' t'=>by rw[r.inj r',Vals.inj t t']
section
variable{X:Cx}{pq:List (UV×Obj)}{σ:St}{H:Hp}{s:UU}{a:UV}{xs ys:List V}
theorem SqL.of{K:Qo}(h:H a=some (.lst xs)):SqL K H a xs := .inl (.inl h)
theorem SqT.of{K:Qo}(h:H a=some (.tup xs)):SqT K H a xs := .inl (.inl h)
theorem Inv.list(I:Inv X pq σ H s)(h:SqL X.K H a xs):∃ its:List UT,Vals xs its/\PlainL s.heap a its.toArray/\xs.length<=UY:=by
 rcases h with h | ⟨o,its,n,hk,hc,hd,hs,hz,r⟩
 ·obtain⟨z,its,n,r,e⟩:=h.ok I.hok;exact⟨its,r,⟨_,n,e,rfl,rfl,rfl⟩,z⟩
 ·refine⟨its.toList,r,⟨o,n,I.kIn a o hk,hc,hd,by simpa using hs⟩,?_⟩;have e:=r.length;simp only[RW]at e;omega
theorem Inv.tuple(I:Inv X pq σ H s)(h:SqT X.K H a xs):∃ its:List UT,Vals xs its/\IsTup s.heap a its.toArray/\xs.length<=UY:=by
 rcases h with h | ⟨o,its,n,hk,hc,hs,hz,r⟩
 ·obtain⟨z,its,r,p⟩:=h.ok I.hok;exact⟨its,r,p,z⟩
 ·refine⟨its.toList,r,⟨o,I.kIn a o hk,hc,n,by simpa using hs⟩,?_⟩;have e:=r.length;simp only[RW]at e;omega
theorem Inv.list_inj(I:Inv X pq σ H s)(h:SqL X.K H a xs)(h':SqL X.K H a ys):xs=ys:=by
 obtain⟨its,r,⟨o,n,e,_,_,d⟩,_⟩:=I.list h;obtain⟨its',r',⟨o',n',e',_,_,d'⟩,_⟩:=I.list h';rw[e]at e';cases e';rw[d]at d';injection d' with d1 _;have:its=its':=by simpa using congrArg TN d1
 subst this;exact r.inj r'
theorem Inv.tuple_inj(I:Inv X pq σ H s)(h:SqT X.K H a xs)(h':SqT X.K H a ys):xs=ys:=by
 obtain⟨its,r,⟨o,e,_,n,d⟩,_⟩:=I.tuple h;obtain⟨its',r',⟨o',e',_,n',d'⟩,_⟩:=I.tuple h';rw[e]at e';cases e';rw[d]at d';injection d' with d1 _;have:its=its':=by simpa using congrArg TN d1
 subst this;exact r.inj r'
end
noncomputable abbrev Cx.wish(X:Cx)(E:UT->UU->Prop):Cx:={X with xe:=E}
noncomputable abbrev Cx.nox(X:Cx):Cx:=X.wish λ_ _=>False
theorem Cx.Ok.wish{X:Cx}(ok:X.Ok)(E:UT->UU->Prop):(X.wish E).Ok:=
 ⟨ok.mod,ok.kind,ok.glob,ok.blt,ok.above,ok.inj,ok.has,ok.cab,ok.hd,ok.frames,ok.stk,ok.exf,ok.bs,ok.bsz,ok.noex,ok.exfs,ok.funs,ok.frf⟩
theorem Cx.Ok.unwish{X:Cx}{E:UT->UU->Prop}(ok:(X.wish E).Ok):X.Ok:=
 ⟨ok.mod,ok.kind,ok.glob,ok.blt,ok.above,ok.inj,ok.has,ok.cab,ok.hd,ok.frames,ok.stk,ok.exf,ok.bs,ok.bsz,ok.noex,ok.exfs,ok.funs,ok.frf⟩
section
variable{X:Cx}{pq:List (UV×Obj)}{σ:St}{H:Hp}{s:UU}{E:UT->UU->Prop}
theorem Inv.wish(I:Inv X pq σ H s)(E:UT->UU->Prop):Inv (X.wish E) pq σ H s:=⟨I.ok.wish E,I.os,I.bare,I.base,I.loc,I.cell,I.free,I.freeC,I.pin,I.hok,I.len⟩
theorem Inv.unwish(I:Inv (X.wish E) pq σ H s):Inv X pq σ H s:=⟨I.ok.unwish,I.os,I.bare,I.base,I.loc,I.cell,I.free,I.freeC,I.pin,I.hok,I.len⟩
theorem SP.unwish{D:Ends}{f:Flow}{s':UU}(h:SP (X.wish E) pq D f s'):SP X pq D f s':=by
 cases f with
 | next=>obtain⟨σ',H',I,q⟩:=h;exact⟨σ',H',I.unwish,q⟩
 | brk=>obtain⟨σ',H',I,q⟩:=h;exact⟨σ',H',I.unwish,q⟩
 | cont=>obtain⟨σ',H',I,q⟩:=h;exact⟨σ',H',I.unwish,q⟩
 | ret u=>obtain⟨v,σ',H',I,r,q⟩:=h;exact⟨v,σ',H',I.unwish,r,q⟩
theorem PSs.nox{st:List Stmt}{t:TS}(h:PSs X.nox st t):PSs X st t:=λpq s σ H D I hw=>
 V6 (h pq s σ H D (I.wish _) hw) (λ_ _ q=>q.unwish) λ_ _ z=>False.elim z
end
section
variable{X:Cx}{st:Stmt}{rest:List Stmt}{t u:TS}{e:Expr}{te:TE}{pos:Pos}
noncomputable def P4:TS:=λD σ H=>D.nx σ H
noncomputable def QQ(t u:TS):TS:=λD σ H=>t {D with nx:=u D} σ H
theorem LJ:PSs X [] P4:=λ_ _ σ H _ I h=>Vg ⟨σ,H,I,h⟩
theorem Ih(h1:PS X st t)(h2:PSs X rest u):PSs X (st::rest) (QQ t u):=by
 intro pq s σ H D I h;refine wpAny_execs_cons (thn (h1 pq s σ H {D with nx:=u D} I h) λf s1 q=>?_);cases f with
 | next=>
   obtain⟨σ',H',I',q⟩:=q;exact h2 pq s1 σ' H' D I' q
 | ret v=>exact q
 | brk=>exact q
 | cont=>exact q
noncomputable def P5:TS:=λD σ H=>D.ct σ H
theorem Dp:PS X (.Continue pos) P5:=λ_ _ σ H _ I h=>wpAny_Continue ⟨σ,H,I,h⟩
theorem Inv.quiet{pq:List (UV×Obj)}{σ:St}{H:Hp}{s:UU}(I:Inv X pq σ H s):interactive X.env=false:=by simp[interactive,I.ok.kind]
noncomputable def P6(te:TE):TS:=λD σ H=>te σ H λ_ H1=>D.nx σ H1
theorem LK(he:PE X e te)(hs:V2 e none pos.line X.env=pure false:=by rfl):PS X (.Expr e pos) (P6 te):=by
 intro pq s σ H D I h;exact wpAny_Expr_any (thn (he pq s σ H _ I h) λv s1 ⟨x,H1,I1,r1,q1⟩=>⟨σ,H1,I1,q1⟩) I.quiet hs
noncomputable def QR(te:TE):TS:=λD σ H=>te σ H D.rt
theorem NS(he:PE X e te):PS X (.Return (some e) pos) (QR te):=by
 intro pq s σ H D I h;exact wpAny_Return_some (thn (he pq s σ H _ I h) λv s1 ⟨x,H1,I1,r1,q1⟩=>⟨x,σ,H1,I1,r1,q1⟩)
noncomputable def P7(c:TT)(t u:TS):TS:=λD σ H=>c σ H λb H1=>if b=true then t D σ H1 else u D σ H1
theorem P8{c:Expr}{a b:List Stmt}{tc:TT}(hc:PT X c tc)(ha:PSs X a t)(hb:PSs X b u):PS X (.If c a b pos) (P7 tc t u):=by
 intro pq s σ H D I h;refine wpAny_If (thn (hc pq s σ H _ I h) λd s1 ⟨H1,I1,q1⟩=>?_);cases d with
 | true=>exact ha pq s1 σ H1 D I1 q1
 | false=>exact hb pq s1 σ H1 D I1 q1
end
noncomputable abbrev TG:=V->St->Hp->(St->Hp->Prop)->Prop
noncomputable abbrev TGs:=List V->St->Hp->(St->Hp->Prop)->Prop
noncomputable def PG(X:Cx)(target:Expr)(t:TG):Prop:=
 ∀(pq:List (UV×Obj)) (s:UU) (σ:St) (H:Hp) (v:V) (u:UT) (Q:St->Hp->Prop),Inv X pq σ H s->RelV v u->t v σ H Q->
  UX (UZ X.prog X.w) X.A (assign target X.env u) (λ_ s'=>∃ σ' H',Inv X pq σ' H' s'/\Q σ' H') X.xe s
noncomputable def PGs(X:Cx)(ts:List Expr)(t:TGs):Prop:=
 ∀(pq:List (UV×Obj)) (s:UU) (σ:St) (H:Hp) (vs:List V) (us:List UT) (Q:St->Hp->Prop),Inv X pq σ H s->Vals vs us->t vs σ H Q->
  UX (UZ X.prog X.w) X.A (assignInOrder ((Uu ts X.env).map (·.2)) us) (λ_ s'=>∃ σ' H',Inv X pq σ' H' s'/\Q σ' H') X.xe s
noncomputable abbrev NT:=V->V->V->Hp->(Hp->Prop)->Prop
noncomputable def P9(X:Cx)(t:NT):Prop:=
 ∀(pq:List (UV×Obj)) (s:UU) (σ:St) (H:Hp) (o i v:V) (ov iv u:UT) (Q:Hp->Prop),Inv X pq σ H s->RelV o ov->RelV i iv->RelV v u->t o i v H Q->
  UX (UZ X.prog X.w) X.A (setItem ov iv u) (λ_ s'=>∃ H',Inv X pq σ H' s'/\Q H') X.xe s
section
variable{X:Cx}{pos:Pos}
noncomputable def G0(i:Nat):TG:=λv σ H Q=>Q (σ.set i (some v)) H
theorem LL{i:Nat}{x:Str}(hN:X.N.Nodup)(hi:X.N[i]?=some x)(hx:Loc X.env.scope x)(hf:X.fn x=true\/X.env.scope.names.lookup x=some .local:=by first | exact .inl rfl | exact .inr rfl | assumption):PG X (.Name x pos) (G0 i):=by
 intro pq s σ H v u Q I r h;exact W3 (Do I hN hi hx r (λs' I'=>⟨_,H,I',h⟩) hf)
noncomputable def QS:TGs:=λvs σ H Q=>vs=[]/\Q σ H
noncomputable def PB(t:TG)(u:TGs):TGs:=λvs σ H Q=>∃ v r,vs=v::r/\t v σ H λσ' H'=>u r σ' H' Q
theorem LM:PGs X [] QS:=by
 intro pq s σ H vs us Q I r h;obtain⟨e,h⟩:=h;subst e;cases r;exact assignInOrder_nil ⟨σ,H,I,h⟩
theorem Ii{e:Expr}{es:List Expr}{t:TG}{u:TGs}(h1:PG X e t)(h2:PGs X es u)
 (hs:(Uu (e::es) X.env).map (·.2)=assign e X.env::(Uu es X.env).map (·.2):=by rfl):PGs X (e::es) (PB t u):=by
 intro pq s σ H vs us Q I r h;obtain⟨v,vr,e1,h⟩:=h;subst e1;cases r with
 | cons r rr=>
   rw[hs];refine assignInOrder_cons (thn (h1 pq s σ H _ _ _ I r h) λ_ s1 ⟨σ1,H1,I1,q1⟩=>?_);exact h2 pq s1 σ1 H1 _ _ Q I1 rr q1
noncomputable def QT(K:Qo)(n:Nat)(t:TGs):TG:=λv σ H Q=>∃ a xs,v = .ref a/\SqT K H a xs/\xs.length=n/\t xs σ H Q
theorem NU{es:List Expr}{k:Nat}{t:TGs}{n:Nat}(hc:X.calm=true)(h:PGs X es t)
 (hn:(Uu es X.env).length=n:=by rfl) (hst:(Uu es X.env).findIdx? (·.1)=none:=by rfl):PG X (.Tuple es k pos) (QT X.K n t):=by
 intro pq s σ H v u Q I r hw;obtain⟨a,xs,e1,hq,hl,hw⟩:=hw;subst e1;cases r;obtain⟨its,rv,ht,hz⟩:=I.tuple hq;refine assign_Tuple_tuple (I.ok.hd hc) ht (by simp[hn,<-hl,rv.length]) hst λh' hx=>?_;have I1:Inv X pq σ H {s with heap:=h'}:=I.kept (t':=s.toks) λb o e=>hx b o (R5 (Qw e)) e;exact h pq _ σ H xs _ Q I1 (by simpa using rv) hw
noncomputable def PD(to ti:TE)(t:NT):TG:=λv σ H Q=>to σ H λo H1=>ti σ H1 λi H2=>t o i v H2 λH3=>Q σ H3
theorem NV{o i:Expr}{to ti:TE}{t:NT}(ho:PE X o to)(hi:PE X i ti)(hs:P9 X t)
 (ha:∀ v,assign (.Subscript o i pos) X.env v=(do
   let ov <- holding [v] (eval o X.env)
   let iv <- holding [v,ov] (eval i X.env)
   standAt pos
   holding [v,ov,iv] (setItem ov iv v)
   release [v,ov,iv] []):=by intro _;rfl):PG X (.Subscript o i pos) (PD to ti t):=by
 intro pq s σ H v u Q I r h;rw[ha];refine US (Uq (thn (ho pq s σ H _ I h) λov s1 ⟨x,H1,I1,r1,q1⟩=>?_));refine US (Uq (thn (hi pq s1 σ H1 _ I1 q1) λiv s2 ⟨y,H2,I2,r2,q2⟩=>?_));refine US (Vu (US (Uq (thn (hs pq s2 σ H2 x y v ov iv u _ I2 r1 r2 r q2) λ_ s3 ⟨H3,I3,q3⟩=>?_))));exact wpAny_release ⟨σ,H3,I3,q3⟩
noncomputable def HR(te:TE)(g:TG):TS:=λD σ H=>te σ H λx H1=>g x σ H1 D.nx
theorem Ij{tg e:Expr}{te:TE}{g:TG}(he:PE X e te)(hg:PG X tg g)(hs:VP [tg] e pos.line X.env=pure false:=by rfl)(hw:VQ [tg] e X.env=pure none:=by rfl)
 (h1:(Uu [tg] X.env).map (·.2)=[assign tg X.env]:=by rfl):PS X (.Assign [tg] e pos) (HR te g):=by
 intro pq s σ H D I h;refine wpAny_Assign_stores (thn (he pq s σ H _ I h) λv s1 ⟨x,H1,I1,r1,q1⟩=>?_) hs hw;rw[h1];exact thn (hg pq s1 σ H1 x v _ I1 r1 q1) λ_ s2 q=>q
theorem NW{i:Nat}{x:Str}{e:Expr}{te:TE}{pos':Pos}(hN:X.N.Nodup)(hi:X.N[i]?=some x)(hx:Loc X.env.scope x)(he:PE X e te)(hs:V2 e (some (.Name x pos')) pos.line X.env=pure false:=by rfl)(hf:X.fn x=true\/X.env.scope.names.lookup x=some .local:=by first | exact .inl rfl | exact .inr rfl | assumption):
 PS X (.Assign [.Name x pos'] e pos) (HR te (G0 i)):=by
 intro pq s σ H D I h;refine wpAny_Assign_Name (thn (he pq s σ H _ I h) λv s1 ⟨y,H1,I1,r1,q1⟩=>?_) hs;exact Do I1 hN hi hx r1 (λs2 I2=>⟨_,H1,I2,q1⟩) hf
noncomputable def Ik(c:TT)(tb:TS):TS:=λD σ H=>∃ W:Nat->St->Hp->Prop,(∃ m,W m σ H)/\∀ m σ H,W m σ H->
 c σ H λb H1=>if b=true then ∃ N:St->Hp->Prop,(∀ σ' H',N σ' H'->∃ m',m'<m/\W m' σ' H')/\tb {D with nx:=N,ct:=N,bk:=D.nx} σ H1 else D.nx σ H1
theorem Il{c:Expr}{body:List Stmt}{tc:TT}{tb:TS}(hp:WC (UZ X.prog X.w) X.A X.env X.xe)(hc:PT X c tc)(hb:PSs X body tb):PS X (.While c body [] pos) (Ik tc tb):=by
 intro pq s σ H D I h;obtain⟨W,⟨m0,w0⟩,turn⟩:=h;refine wpAny_While (codeAny_whileLoop (λn s'=>∃ σ' H',Inv X pq σ' H' s'/\W n σ' H') ?_ m0 ⟨σ,H,I,w0⟩);rintro n s1 ⟨σ1,H1,I1,w1⟩;refine V1 hp (thn (hc pq s1 σ1 H1 _ I1 (turn n σ1 H1 w1)) λb s2 ⟨H2,I2,q2⟩=>?_);cases b with
 | true=>
   obtain⟨N,hN,q2⟩:=q2;rw[iP rfl];refine V1 hp (thn (hb pq s2 σ1 H2 _ I2 q2) λf s3 q3=>?_);cases f with
   | next=>
     obtain⟨σ3,H3,I3,n3⟩:=q3;obtain⟨m',hm,w3⟩:=hN σ3 H3 n3;exact⟨m',hm,σ3,H3,I3,w3⟩
   | cont=>
     obtain⟨σ3,H3,I3,n3⟩:=q3;obtain⟨m',hm,w3⟩:=hN σ3 H3 n3;exact⟨m',hm,σ3,H3,I3,w3⟩
   | brk=>exact q3
   | ret v=>exact q3
 | false=>
   rw[iG Qz];exact Vg ⟨σ1,H2,I2,q2⟩
end
structure It where
 go:Nat->Hp->Prop
 yld:Nat->Hp->V->Hp->Prop
 stop:Nat->Hp->Prop
noncomputable def FpOk(X:Cx)(pq:List (UV×Obj))(H:Hp)(b:UV):Prop:=
 H b=none/\b≠X.env.locals/\b∉X.fs/\(b∈X.ex\/X.s₀.heap.objs.size<=b)/\(∀ x c,X.env.cells.lookup x=some c->c≠b)/\∀ p∈X.pn++pq,p.1≠b
theorem Inv.fpOk{X:Cx}{pq:List (UV×Obj)}{σ:St}{H H':Hp}{s:UU}{b:UV}(I:Inv X pq σ H s)(hb:s.heap.objs.size<=b)(hn:H' b=none):FpOk X pq H' b:=by
 refine⟨hn,Sr (RC I.lt hb),I.nofs hb,.inr (RE I.sz hb),λx c e z=>?_,λp hp z=>?_⟩
 ·obtain⟨v,q⟩:=I.cell x c e;exact absurd (RC q.lt (by rw[z];exact hb)) (Rx _)
 ·exact absurd (RC (Qw (I.pin p hp).1) (by rw[z];exact hb)) (Rx _)
structure Turn(P:Ua)(w:Ud)(K:Qo)(tg:Expr)(J:It)(fp:List UV)(it:UV)(tn:Nat->Heap->Prop):Prop where
 mem:it∈fp
 obj:∀ i h,tn i h->∀ b∈fp,∃ o,h.get? b=some o/\∀ v,o.data ≠ .cell v
 keep:∀ i h h',tn i h->(∀ b∈fp,∀ o,h.get? b=some o->h'.get? b=some o)->tn i h'
 item:∀(X:Cx),X.prog=P->X.w=w->X.K=K->X.calm=true->∀(i:Nat) (pq:List (UV×Obj)) (s:UU) (σ:St) (H:Hp) (E:UT->UU->Prop),Inv X pq σ H s->(∀ b∈fp,FpOk X pq H b)->tn i s.heap->J.go i H->
  UX (UZ P w) X.A (pyNext (.ref it)) (λr s1=>∃ u,r=some u/\
   UX (UZ P w) X.A (VE tg (.ref it) u) (λ_ s2=>∃ x H',Inv X pq σ H' s2/\RelV x u/\J.yld i H x H'/\tn (i+1) s2.heap/\∀ b∈fp,H' b=none) E s1) E s
 done:∀(X:Cx),X.prog=P->X.w=w->X.K=K->X.calm=true->∀(i:Nat) (pq:List (UV×Obj)) (s:UU) (σ:St) (H:Hp) (E:UT->UU->Prop),Inv X pq σ H s->(∀ b∈fp,FpOk X pq H b)->tn i s.heap->J.stop i H->
   UX (UZ P w) X.A (pyNext (.ref it)) (λr s1=>r=none/\Inv X pq σ H s1) E s
 self:∀(A:Uj) (i:Nat) (s:UU) (Q:UT->UU->Prop) (E:UT->UU->Prop),tn i s.heap->Q (.ref it) s->UX (UZ P w) A (pyIter (.ref it)) Q E s
noncomputable abbrev TI:=St->Hp->(It->Hp->Prop)->Prop
noncomputable def PIE(X:Cx)(pq:List (UV×Obj))(σ:St)(tg:Expr)(R:It->Hp->Prop)(itv:UT)(s2:UU):Prop:=
 ∃(it:UV) (fp:List UV) (tn:Nat->Heap->Prop) (J:It) (H':Hp),itv = .ref it/\Inv X pq σ H' s2/\Turn X.prog X.w X.K tg J fp it tn/\tn 0 s2.heap/\(∀ b∈fp,FpOk X pq H' b)/\R J H'
noncomputable def PI(X:Cx)(tg iter:Expr)(wi:TI):Prop:=
 ∀(pq:List (UV×Obj)) (s:UU) (σ:St) (H:Hp) (R:It->Hp->Prop),Inv X pq σ H s->wi σ H R->
  UX (UZ X.prog X.w) X.A (eval iter X.env) (λv s1=>UX (UZ X.prog X.w) X.A (pyIter v) (PIE X pq σ tg R) X.xe s1) X.xe s
theorem Im{M:Model}{A:Uj}{E:UT->UU->Prop}{s:UU}{tg:Expr}{it:UV}{u:UT}{o:Obj}{n:String}{vs:Array UT}{Q:Unit->UU->Prop}(ho:s.heap.get? it=some o)(hc:o.cls = .type n)(hd:o.data = .fields vs)
 (hn:["enumerate","zip","dict_itemiterator","dict_reverseitemiterator","odict_iterator","itertools.zip_longest","itertools.pairwise"].contains n=false) (hQ:Q () s):UX M A (VE tg (.ref it) u) Q E s:=by
 unfold VE
 cases tg<;>first
  | exact UW hQ
  | (cases u<;>first
      | exact UW hQ
      | (refine US (wpAny_load ho ?_)
         rw[hc,hd];show UX M A (if (["enumerate","zip","dict_itemiterator","dict_reverseitemiterator","odict_iterator","itertools.zip_longest","itertools.pairwise"].contains n&&vs[0]? == some (rawInt _))=true then _ else _) Q E s;rw[iG (by intro h;rw[hn,U7]at h;cases h)];exact UW hQ))
noncomputable def Itl(K:Qo)(a:UV):It:=
 ⟨λi H=>∃ xs x,SqL K H a xs/\xs[i]?=some x,λi H x H'=>H'=H/\∀ xs,SqL K H a xs->xs[i]?=some x,λi H=>∃ xs,SqL K H a xs/\xs.length<=i⟩
noncomputable def Itt(K:Qo)(a:UV):It:=
 ⟨λi H=>∃ xs x,SqT K H a xs/\xs[i]?=some x,λi H x H'=>H'=H/\∀ xs,SqT K H a xs->xs[i]?=some x,λi H=>∃ xs,SqT K H a xs/\xs.length<=i⟩
noncomputable def Itr(lo:Int)(n:Nat):It:=⟨λi _=>i<n,λi H x H'=>H'=H/\x = .int (lo+i),λi _=>n<=i⟩
theorem HS{P:Ua}{w:Ud}{K:Qo}{tg:Expr}(a it:UV):Turn P w K tg (Itl K a) [it] it (λi h=>h.IsListIter it a i) where
 mem:=by simp
 obj:=λi h st b hb=>by
  have e:b=it:=by simpa using hb
  subst e;obtain⟨o,e,c,d⟩:=st;exact⟨o,e,λv z=>by rw[d]at z;cases z⟩
 keep:=λi h h' st k=>st.at λo e=>k it (by simp) o e
 item:=by
  intro X hP hw hK hc i pq s σ H E I hf st hg;subst hP hw hK;obtain⟨xs,x,hq,hx⟩:=hg;obtain⟨its,rv,p,hz⟩:=I.list hq;obtain⟨u,hu,ru⟩:=rv.get hx;obtain⟨f0,f1,f2,f3,f4,f5⟩:=hf it (by simp);refine wpAny_pyNext_list_item st p.isList (x:=u) (by simpa using hu) λh' st' sb=>?_;have I1:Inv X pq σ H {s with heap:=h'}:=I.turned (t':=s.toks) (λb o hb e=>(sb.2 b hb).trans e) f0 f1 f3 f4 f5;obtain⟨o,e,c,d⟩:=id st';exact⟨u,rfl,Im (s:={s with heap:=h'}) e c d (by decide) ⟨x,H,I1,ru,⟨rfl,λys hy=>by rw[I.list_inj hy hq];exact hx⟩,st',λb hb=>(hf b hb).1⟩⟩
 done:=by
   intro X hP hw hK hc i pq s σ H E I hf st hg;subst hP hw hK;obtain⟨xs,hq,hx⟩:=hg;obtain⟨its,rv,p,hz⟩:=I.list hq;obtain⟨f0,f1,f2,f3,f4,f5⟩:=hf it (by simp);have hl:=rv.length;exact wpAny_pyNext_list_end (I.ok.hd hc) st p.isList (by simp;omega) λh' eb=>⟨rfl,I.turned (t':=s.toks) (λb o hb e=>eb b o hb e) f0 f1 f3 f4 f5⟩
 self:=λ_ _ _ _ _ st h=>wpAny_pyIter_listiter st h
theorem F4{P:Ua}{w:Ud}{K:Qo}{tg:Expr}(a it:UV):Turn P w K tg (Itt K a) [it] it (λi h=>h.IsTupleIter it a i) where
 mem:=by simp
 obj:=λi h st b hb=>by
  have e:b=it:=by simpa using hb
  subst e;obtain⟨o,e,c,d⟩:=st;exact⟨o,e,λv z=>by rw[d]at z;cases z⟩
 keep:=λi h h' st k=>st.at λo e=>k it (by simp) o e
 item:=by
  intro X hP hw hK hc i pq s σ H E I hf st hg;subst hP hw hK;obtain⟨xs,x,hq,hx⟩:=hg;obtain⟨its,rv,p,hz⟩:=I.tuple hq;obtain⟨u,hu,ru⟩:=rv.get hx;obtain⟨f0,f1,f2,f3,f4,f5⟩:=hf it (by simp);refine wpAny_pyNext_tuple_item st (show s.heap.IsTuple a its.toArray from p) (x:=u) (by simpa using hu) λh' st' sb=>?_;have I1:Inv X pq σ H {s with heap:=h'}:=I.turned (t':=s.toks) (λb o hb e=>(sb.2 b hb).trans e) f0 f1 f3 f4 f5;obtain⟨o,e,c,d⟩:=id st';exact⟨u,rfl,Im (s:={s with heap:=h'}) e c d (by decide) ⟨x,H,I1,ru,⟨rfl,λys hy=>by rw[I.tuple_inj hy hq];exact hx⟩,st',λb hb=>(hf b hb).1⟩⟩
 done:=by
   intro X hP hw hK hc i pq s σ H E I hf st hg;subst hP hw hK;obtain⟨xs,hq,hx⟩:=hg;obtain⟨its,rv,p,hz⟩:=I.tuple hq;obtain⟨f0,f1,f2,f3,f4,f5⟩:=hf it (by simp);have hl:=rv.length;exact wpAny_pyNext_tuple_end (I.ok.hd hc) st (show s.heap.IsTuple a its.toArray from p) (by simp;omega) λh' eb=>⟨rfl,I.turned (t':=s.toks) (λb o hb e=>eb b o hb e) f0 f1 f3 f4 f5⟩
 self:=λ_ _ _ _ _ st h=>wpAny_pyIter_tupleiter st h
theorem F5{P:Ua}{w:Ud}{K:Qo}{tg:Expr}(it:UV)(lo:Int)(n:Nat):Turn P w K tg (Itr lo n) [it] it (λi h=>IsRangeIter h it (lo+(i:Nat) * 1) ((n:Int) - (i:Nat)) 1) where
 mem:=by simp
 obj:=λi h st b hb=>by
  have e:b=it:=by simpa using hb
  subst e
  exact⟨_,st,λv z=>by
   have z':Data.fields _=Data.cell v:=z;cases z'⟩
 keep:=λi h h' st k=>k it (by simp) _ st
 item:=by
  intro X hP hw hK hc i pq s σ H E I hf st hg;subst hP hw hK;obtain⟨f0,f1,f2,f3,f4,f5⟩:=hf it (by simp);have W:=Walks.range (prog:=X.prog) (w:=X.w) (I.ok.hd hc) it lo 1 n;refine W.item i s _ _ hg st λv h' tk hv st' kk=>?_;obtain⟨t,rfl⟩:=hv;have I1:Inv X pq σ H {s with heap:=h',toks:=tk}:=I.turned (λb o hb e=>kk b o (by simpa using hb) e) f0 f1 f3 f4 f5;refine⟨_,rfl,Im (s:={s with heap:=h',toks:=tk}) (n:="range_iterator") st' rfl rfl (by decide) ⟨.int (lo+i),H,I1,⟨t,?_⟩,⟨rfl,rfl⟩,st',λb hb=>(hf b hb).1⟩⟩;rw[UM]
 done:=by
   intro X hP hw hK hc i pq s σ H E I hf st hg;subst hP hw hK;obtain⟨f0,f1,f2,f3,f4,f5⟩:=hf it (by simp);exact wpAny_pyNext_range_end (I.ok.hd hc) st (by have:n<=i:=hg;omega) λh' eb=>⟨rfl,I.turned (t':=s.toks) (λb o hb e=>eb b o hb e) f0 f1 f3 f4 f5⟩
 self:=λ_ _ _ _ _ st h=>wpAny_pyIter_rangeiter st h
section
variable{X:Cx}{tg:Expr}
theorem Dq{pq:List (UV×Obj)}{σ:St}{H:Hp}{s:UU}{R:It->Hp->Prop}{E:UT->UU->Prop}{lo hi:Int}{t u v:Tok}{tk:Nat}(I:Inv X pq σ H s)(h1:-(2 ^ 62)<=lo)(h2:lo<2 ^ 62)(h3:-(2 ^ 62)<=hi)(h4:hi<2 ^ 62)
 (q:R (Itr lo (hi - lo).toNat) H):UX (UZ X.prog X.w) X.A (pyIter (.ref s.heap.objs.size)) (PIE X pq σ tg R) E {s with heap:=s.heap.push {cls := .type "range",data := .fields #[.int lo t,.int hi u,.int 1 v]},toks:=tk}:=by
 refine wpAny_pyIter_range (IsRange.new ..) (small_one h1 h2 h3 h4) ?_;have I1:Inv X pq σ H {s with heap:=s.heap.push {cls := .type "range",data := .fields #[.int lo t,.int hi u,.int 1 v]},toks:=tk}:=I.kept λb o e=>Qq _ e
 refine⟨(s.heap.push {cls := .type "range",data := .fields #[.int lo t,.int hi u,.int 1 v]}).objs.size,[(s.heap.push {cls := .type "range",data := .fields #[.int lo t,.int hi u,.int 1 v]}).objs.size],_,_,H,rfl,
  I1.kept (t':=tk) λb o e=>Qq _ e,F5 _ lo (hi - lo).toNat,?_,λb hb=>?_,q⟩
 ·have e1:lo+((0:Nat):Int) * 1=lo:=by simp
  have e2:(((hi - lo).toNat:Nat):Int) - ((0:Nat):Int)=Builtin.Range.rangeSize lo hi 1:=by rw[rangeSize_one];split<;>omega
  show IsRangeIter _ _ (lo+((0:Nat):Int) * 1) ((((hi - lo).toNat:Nat):Int) - ((0:Nat):Int)) 1;rw[e1,e2];exact Qx _ rfl
 ·have e:b=(s.heap.push {cls := .type "range",data := .fields #[.int lo t,.int hi u,.int 1 v]}).objs.size:=by simpa using hb
  subst e;exact I1.fpOk (Qs _) (I1.hok.fresh (Qs _))
noncomputable def PF(ta:TA):TI:=λσ H R=>ta σ H λvs H1=>∃ j:Int,vs=[.int j] /\ -(2 ^ 62)<=j/\j<2 ^ 62/\R (Itr 0 j.toNat) H1
noncomputable def PH(ta:TA):TI:=λσ H R=>ta σ H λvs H1=>∃ i j:Int,vs=[.int i,.int j]/\(-(2 ^ 62)<=i/\i<2 ^ 62 /\ -(2 ^ 62)<=j/\j<2 ^ 62)/\R (Itr i (j - i).toNat) H1
theorem HU{a:Expr}{ta:TA}{p pos:Pos}(hg:Gl X "range")(hm:X.mg "range"=none)(ha:PA X [a] ta)(hs:Ue [a] X.env=[(false,eval a X.env)]:=by rfl):PI X tg (.Call (.Name "range" p) [a] [] pos) (PF ta):=by
 intro pq s σ H R I h;refine Call_ (AI I hg hm boot_range (PyProof.Rows.callWith_type1 (thn (ha pos pq s σ H _ I h) λus s1 ⟨vs,H1,I1,r1,q1⟩=>?_) hs rfl));obtain⟨j,e,q1,q2,q⟩:=q1;subst e;cases r1 with
 | cons r rr=>
   cases rr;obtain⟨t,rfl⟩:=r;exact call_range_1 (Dq I1 (by omega) (by omega) q1 q2 (by simpa using q))
theorem HV{a b:Expr}{ta:TA}{p pos:Pos}(hg:Gl X "range")(hm:X.mg "range"=none)(ha:PA X [a,b] ta)(hs:Ue [a,b] X.env=[(false,eval a X.env),(false,eval b X.env)]:=by rfl)(hs2:Ue [b] X.env=[(false,eval b X.env)]:=by rfl):
 PI X tg (.Call (.Name "range" p) [a,b] [] pos) (PH ta):=by
 intro pq s σ H R I h;refine Call_ (AI I hg hm boot_range (PyProof.Rows.callWith_type1 (thn (ha pos pq s σ H _ I h) λus s1 ⟨vs,H1,I1,r1,q1⟩=>?_) (by rw[hs,hs2]) (by rw[hs2];rfl)));obtain⟨i,j,e,⟨q1,q2,q3,q4⟩,q⟩:=q1;subst e;cases r1 with
 | cons r rr=>
   cases rr with
   | cons r' rr=>
     cases rr;obtain⟨t,rfl⟩:=r;obtain⟨t',rfl⟩:=r';exact call_range_2 (Dq I1 q1 q2 q3 q4 q)
noncomputable def PJ(wi:TI)(g:TG)(tb:TS):TS:=λD σ H=>wi σ H λJ H1=>∃ W:Nat->Nat->St->Hp->Prop,(∃ m,W 0 m σ H1)/\∀ i m σ H,W i m σ H->
 (J.stop i H/\D.nx σ H)\/(J.go i H/\∃ N:St->Hp->Prop,(∀ σ' H',N σ' H'->∃ m',m'<m/\W (i+1) m' σ' H')/\∀ x H',J.yld i H x H'->g x σ H' λσ2 H2=>tb {D with nx:=N,ct:=N,bk:=D.nx} σ2 H2)
noncomputable def B4(fp:List UV)(h:Heap):List (UV×Obj):=fp.filterMap λb=>(h.get? b).map λo=>(b,o)
theorem Ab{fp:List UV}{h:Heap}{b:UV}{o:Obj}(hb:b∈fp)(e:h.get? b=some o):(b,o)∈B4 fp h:=To.mpr ⟨b,hb,by rw[e];rfl⟩
theorem HW{fp:List UV}{h:Heap}{p:UV×Obj}(hp:p∈B4 fp h):p.1∈fp/\h.get? p.1=some p.2:=by
 obtain⟨b,hb,e⟩:=To.mp hp;cases q:h.get? b with
 | none=>rw[q]at e;cases e
 | some o=>
   rw[q]at e;have e':(b,o)=p:=oj e;subst e';exact⟨hb,q⟩
theorem Inv.pinned{pq:List (UV×Obj)}{σ:St}{H:Hp}{s:UU}{fp:List UV}(I:Inv X pq σ H s)(hf:∀ b∈fp,FpOk X pq H b)(ho:∀ b∈fp,∃ o,s.heap.get? b=some o/\∀ v,o.data ≠ .cell v):Inv X (pq++B4 fp s.heap) σ H s:=
 I.pins_of λp hp=>(RF.mp hp).elim (λz=>I.pin p (RQ _ z)) λz=>by
  obtain⟨hb,e⟩:=HW z;obtain⟨f0,f1,f2,_⟩:=hf p.1 hb;obtain⟨o,e',d⟩:=ho p.1 hb;rw[e]at e';cases e';exact⟨e,f0,f1,f2,d⟩
theorem Inv.unpinned{pq pl:List (UV×Obj)}{σ:St}{H:Hp}{s:UU}(I:Inv X (pq++pl) σ H s):Inv X pq σ H s:=I.pins_of λp hp=>I.pin p (RQ _ (Sl _ hp))
theorem NX{iter:Expr}{body:List Stmt}{wi:TI}{g:TG}{tb:TS}{pos:Pos}(hp:WC (UZ X.prog X.w) X.A X.env X.xe)(hc:X.calm=true)(hi:PI X tg iter wi)(hg:PG X tg g)(hb:PSs X body tb)
 (hs:∀ x,VJ iter X.env x=pure x:=by intro _;rfl):PS X (.For tg iter body [] pos) (PJ wi g tb):=by
 intro pq s σ H D I h;refine wpAny_For (thn (hi pq s σ H _ I h) λv s1 h1=>thn h1 λitv s2 h2=>?_) hs;obtain⟨it,fp,tn,J,H2,e,I2,T,st2,f2,W,⟨m0,w0⟩,turn⟩:=h2;subst e;have stat:∀{H':Hp},(∀ b∈fp,H' b=none)->∀ b∈fp,FpOk X pq H' b:=λhn b hb=>⟨hn b hb,(f2 b hb).2⟩
 refine codeAny_forLoop_any (λn s'=>∃ i σ' H',Inv X pq σ' H' s'/\tn i s'.heap/\(∀ b∈fp,H' b=none)/\W i n σ' H') ?_ m0 ⟨0,σ,H2,I2,st2,λb hb=>(f2 b hb).1,w0⟩;rintro n s3 ⟨i,σ3,H3,I3,st3,fr3,w3⟩;rcases turn i n σ3 H3 w3 with⟨stop,qn⟩ | ⟨go,N,hN,step⟩
 ·refine V1 hp (thn (T.done X rfl rfl rfl hc i pq s3 σ3 H3 X.xe I3 (stat fr3) st3 stop) λr s4 ⟨hr,I4⟩=>?_);subst hr;exact Vg ⟨σ3,H3,I4,qn⟩
 ·refine V1 hp (thn (T.item X rfl rfl rfl hc i pq s3 σ3 H3 X.xe I3 (stat fr3) st3 go) λr s4 ⟨u,hr,h4⟩=>?_);subst hr;refine V1 hp (thn h4 λ_ s5 ⟨x,H5,I5,r5,y5,st5,fr5⟩=>?_);have I5':=I5.pinned (stat fr5) (T.obj _ _ st5);refine V1 hp (thn (hg _ s5 σ3 H5 x u _ I5' r5 (step x H5 y5)) λ_ s6 ⟨σ6,H6,I6,q6⟩=>?_);refine V1 hp (thn (hb _ s6 σ6 H6 _ I6 q6) λf s7 q7=>?_)
  have again:∀{σ7:St} {H7:Hp},Inv X (pq++B4 fp s5.heap) σ7 H7 s7->N σ7 H7->∃ m,m<n/\∃ i σ' H',Inv X pq σ' H' s7/\tn i s7.heap/\(∀ b∈fp,H' b=none)/\W i m σ' H':=λ{σ7 H7} I7 n7=>by
   obtain⟨m',hm,w7⟩:=hN σ7 H7 n7;refine⟨m',hm,i+1,σ7,H7,I7.unpinned,T.keep _ _ _ st5 λb hb o e=>(I7.pin (b,o) (RQ _ (RQ _ (Ab hb e)))).1,λb hb=>?_,w7⟩;obtain⟨o,e,d⟩:=T.obj _ _ st5 b hb;exact(I7.pin (b,o) (RQ _ (RQ _ (Ab hb e)))).2.1
  cases f with
  | next=>obtain⟨σ7,H7,I7,n7⟩:=q7;exact again I7 n7
  | cont=>obtain⟨σ7,H7,I7,n7⟩:=q7;exact again I7 n7
  | brk=>obtain⟨σ7,H7,I7,q7⟩:=q7;exact⟨σ7,H7,I7.unpinned,q7⟩
  | ret v=>obtain⟨x7,σ7,H7,I7,r7,q7⟩:=q7;exact⟨x7,σ7,H7,I7.unpinned,r7,q7⟩
end
noncomputable abbrev R2:=V->V->Hp->VK->Prop
noncomputable def OpR(X:Cx)(f:UT->UT->Sem UT)(r:R2):Prop:=
 ∀(pq:List (UV×Obj)) (s:UU) (σ:St) (H:Hp) (x y:V) (v u:UT) (Q:VK),Inv X pq σ H s->RelV x v->RelV y u->r x y H Q->
  UX (UZ X.prog X.w) X.A (f v u) (EP X pq σ Q) X.xe s
noncomputable def CallR(X:Cx)(f:UT)(r:List V->Hp->VK->Prop):Prop:=
 ∀(pq:List (UV×Obj)) (s:UU) (σ:St) (H:Hp) (xs:List V) (us:List UT) (Q:VK),Inv X pq σ H s->Vals xs us->r xs H Q->
  UX (UZ X.prog X.w) X.A (call f us) (EP X pq σ Q) X.xe s
noncomputable def QU(X:Cx)(r:V->Hp->(Bool->Hp->Prop)->Prop):Prop:=
 ∀(pq:List (UV×Obj)) (s:UU) (σ:St) (H:Hp) (x:V) (v:UT) (Q:Bool->Hp->Prop),Inv X pq σ H s->RelV x v->r x H Q->
  UX (UZ X.prog X.w) X.A (truthy v) (TP X pq σ Q) X.xe s
noncomputable def tOp(r:R2)(ta tb:TE):TE:=λσ H Q=>ta σ H λx H1=>tb σ H1 λy H2=>r x y H2 Q
noncomputable def rI(C:Int->Int->Prop)(g:Int->Int->V):R2:=λx y H Q=>∃ i j,x = .int i/\y = .int j/\C i j/\Q (g i j) H
noncomputable def rI0(g:Int->Int->V):R2:=λx y H Q=>∃ i j,x = .int i/\y = .int j/\Q (g i j) H
section
variable{X:Cx}{a b c:Expr}{ta tb tc:TE}{pos:Pos}
theorem NY(ha:PE X a ta)(hb:PE X b tb){pq:List (UV×Obj)}{s:UU}{σ:St}{H:Hp}{R:V->V->Hp->Prop}(I:Inv X pq σ H s)
 (h:ta σ H λx H1=>tb σ H1 λy H2=>R x y H2) {Q:UT->UU->Prop} {f:UT->UT->Sem UT}
 (hf:∀ v u s2 x y H2,Inv X pq σ H2 s2->RelV x v->RelV y u->R x y H2->UX (UZ X.prog X.w) X.A (f v u) Q X.xe s2):
 UX (UZ X.prog X.w) X.A (eval a X.env) (λv s₁=>UX (UZ X.prog X.w) X.A (eval b X.env) (λu s₂=>UX (UZ X.prog X.w) X.A (f v u) Q X.xe s₂) X.xe s₁) X.xe s:=by
 refine thn (ha pq s σ H _ I h) λv s1 ⟨x,H1,I1,r1,q1⟩=>?_;refine thn (hb pq s1 σ H1 _ I1 q1) λu s2 ⟨y,H2,I2,r2,q2⟩=>?_;exact hf v u s2 x y H2 I2 r1 r2 q2
theorem PK{op:VY}{r:R2}(ho:OpR X (Uv op) r)(ha:PE X a ta)(hb:PE X b tb):PE X (.BinOp a op b pos) (tOp r ta tb):=by
 intro pq s σ H Q I h;exact wpAny_BinOp (NY ha hb I h λv u s2 x y H2 I2 rx ry q=>ho pq s2 σ H2 x y v u Q I2 rx ry q)
theorem opI{f:UT->UT->Sem UT}{C:Int->Int->Prop}{g:Int->Int->Int}
 (rule:∀(i j:Int) (t u:Tok) (s:UU) (Q:UT->UU->Prop) (E:UT->UU->Prop),C i j->Q (.int (g i j) s.toks) {s with toks:=s.toks+1}->UX (UZ X.prog X.w) X.A (f (.int i t) (.int j u)) Q E s):
 OpR X f (rI C λi j => .int (g i j)):=by
 intro pq s σ H x y v u Q I rx ry h;obtain⟨i,j,rfl,rfl,hc,q⟩:=h;obtain⟨t,rfl⟩:=rx;obtain⟨t',rfl⟩:=ry;exact rule i j t t' s _ _ hc ⟨.int (g i j),H,I.tok _,⟨_,rfl⟩,q⟩
theorem PL{f:UT->UT->Sem UT}{g:Int->Int->Int}
 (rule:∀(i j:Int) (t u:Tok) (s:UU) (Q:UT->UU->Prop) (E:UT->UU->Prop),Q (.int (g i j) s.toks) {s with toks:=s.toks+1}->UX (UZ X.prog X.w) X.A (f (.int i t) (.int j u)) Q E s):
 OpR X f (rI0 λi j => .int (g i j)):=by
 intro pq s σ H x y v u Q I rx ry h;obtain⟨i,j,rfl,rfl,q⟩:=h;obtain⟨t,rfl⟩:=rx;obtain⟨t',rfl⟩:=ry;exact rule i j t t' s _ _ ⟨.int (g i j),H,I.tok _,⟨_,rfl⟩,q⟩
theorem LN{f:UT->UT->Sem UT}{g:Int->Int->Bool}
 (rule:∀(i j:Int) (t u:Tok) (s:UU) (Q:UT->UU->Prop) (E:UT->UU->Prop),Q (.bool (g i j)) s->UX (UZ X.prog X.w) X.A (f (.int i t) (.int j u)) Q E s):
 OpR X f (rI0 λi j => .bl (g i j)):=by
 intro pq s σ H x y v u Q I rx ry h;obtain⟨i,j,rfl,rfl,q⟩:=h;obtain⟨t,rfl⟩:=rx;obtain⟨t',rfl⟩:=ry;exact rule i j t t' s _ _ ⟨.bl (g i j),H,I,rfl,q⟩
noncomputable def PM(i j:Int):Prop:=0<j/\j<1073741824
noncomputable def PN(i j:Int):Prop:=0<=j/\j<=1000000/\i.natAbs<2 ^ 64
noncomputable def CMul(i j:Int):Prop:=(-(2 ^ 64)<i/\i<2 ^ 64)\/(-(2 ^ 64)<j/\j<2 ^ 64)
theorem CMul.ok{i j:Int}(h:CMul i j):IntMulOk i j:=by
 rcases h with⟨h1,h2⟩ | ⟨h1,h2⟩
 ·exact .of_left (intBits_le_64 h1 h2)
 ·exact .of_right (intBits_le_64 h1 h2)
theorem op_add:OpR X (Uv .Add) (rI0 λi j => .int (i+j)):=PL λ_ _ _ _ _ _ _ q=>add_int q
theorem NZ:OpR X (Uv .Sub) (rI0 λi j => .int (i - j)):=PL λ_ _ _ _ _ _ _ q=>sub_int q
theorem op_mul:OpR X (Uv .Mult) (rI CMul λi j => .int (i * j)):=opI λ_ _ _ _ _ _ _ hc q=>mul_int q hc.ok
theorem LO:OpR X (Uv .FloorDiv) (rI PM λi j => .int (i / j)):=opI λi j _ _ _ _ _ hc q=>by
 have h1:(0:Int)<j:=hc.1;have h2:j<1073741824:=hc.2;exact floordiv_int (by omega) (by rw[Int.fdiv_eq_ediv_of_nonneg i (by omega)];exact q) (.inl (PyProof.noPylong_small (by omega)))
theorem Na:OpR X (Uv .Mod) (rI (λ_ j=>0<j) λi j => .int (i % j)):=opI λi j _ _ _ _ _ hc q=>by
 have h1:(0:Int)<j:=hc;exact mod_int' (by omega) (by rw[Int.fmod_eq_emod_of_nonneg i (by omega)];exact q)
theorem Nb:OpR X (Uv .Pow) (rI PN λi j => .int (i ^ j.toNat)):=opI λ_ _ _ _ _ _ _ hc q=>pow_int_small hc.1 hc.2.1 hc.2.2 q
end
noncomputable def Nc:V->V->Bool
 | .non,.non=>true | .non,.int _=>true | .int _,.non=>true | .non,.bl _=>true | .bl _,.non=>true | .non,.str _=>true | .str _,.non=>true
 | .int _,.int _=>true | .bl _,.bl _=>true | .str _,.str _=>true | .byt _,.byt _=>true
 | .int _,.str _=>true | .str _,.int _=>true | .bl _,.str _=>true | .str _,.bl _=>true
 | _,_=>false
noncomputable def rEq:R2:=λx y H Q=>Nc x y=true/\Q (.bl (decide (x=y))) H
noncomputable def rNe:R2:=λx y H Q=>Nc x y=true/\Q (.bl (!decide (x=y))) H
theorem G9{i j:Int}:decide (V.int i=V.int j)=(i == j):=by
 rw[RZ];simp
theorem Io{i j:Bool}:decide (V.bl i=V.bl j)=(i == j):=by
 rw[RZ];simp
theorem GA{i j:Str}:decide (V.str i=V.str j)=(i == j):=by
 rw[RZ];simp
theorem GB{i j:Array UInt8}:decide (V.byt i=V.byt j)=(i.toList == j.toList):=by
 rw[RZ];cases i;cases j;simp
section
variable{X:Cx}{a b c:Expr}{ta tb tc:TE}{pos:Pos}
theorem g7{pq:List (UV×Obj)}{σ:St}{H:Hp}{s:UU}{Q:VK}{k k':Bool}(I:Inv X pq σ H s)(q:Q (.bl k) H)(e:k=k'):EP X pq σ Q (.bool k') s:=by
 subst e;exact⟨.bl k,H,I,rfl,q⟩
theorem op_eq:OpR X (Ui .Eq) rEq:=by
 intro pq s σ H x y v u Q I rx ry h;obtain⟨hs,q⟩:=h;cases x with
 | non=>
   cases rx;cases y with
   | non=>cases ry;exact PySem.EqNone.eq_none_none (g7 I q (by simp))
   | bl j=>cases ry;exact PySem.EqNone.eq_none_bool (g7 I q (by simp))
   | int j=>obtain⟨t',rfl⟩:=ry;exact PySem.EqNone.eq_none_int (g7 I q (by simp))
   | str j=>obtain⟨t',rfl⟩:=ry;exact PySem.EqNone.eq_none_str (g7 I q (by simp))
   | _=>exact absurd (show false=true from hs) Qz
 | bl i=>
   cases rx;cases y with
   | non=>cases ry;exact PySem.EqNone.eq_bool_none (g7 I q (by simp))
   | bl j=>cases ry;exact eq_bool (g7 I q Io)
   | str j=>obtain⟨t',rfl⟩:=ry;exact PySem.EqMixed.eq_bool_str (g7 I q (by simp))
   | _=>exact absurd (show false=true from hs) Qz
 | int i=>
   obtain⟨t,rfl⟩:=rx;cases y with
   | non=>cases ry;exact PySem.EqNone.eq_int_none (g7 I q (by simp))
   | int j=>obtain⟨t',rfl⟩:=ry;exact eq_int (g7 I q G9)
   | str j=>obtain⟨t',rfl⟩:=ry;exact PySem.EqMixed.eq_int_str (g7 I q (by simp))
   | _=>exact absurd (show false=true from hs) Qz
 | str i=>
   obtain⟨t,rfl⟩:=rx;cases y with
   | non=>cases ry;exact PySem.EqNone.eq_str_none (g7 I q (by simp))
   | bl j=>cases ry;exact PySem.EqMixed.eq_str_bool (g7 I q (by simp))
   | int j=>obtain⟨t',rfl⟩:=ry;exact PySem.EqMixed.eq_str_int (g7 I q (by simp))
   | str j=>obtain⟨t',rfl⟩:=ry;exact eq_str (g7 I q GA)
   | _=>exact absurd (show false=true from hs) Qz
 | byt i=>
   obtain⟨t,rfl⟩:=rx;cases y with
   | byt j=>obtain⟨t',rfl⟩:=ry;exact PySem.W.eq_bytes (g7 I q GB)
   | _=>exact absurd (show false=true from hs) Qz
 | _=>cases y<;>exact absurd (show false=true from hs) Qz
theorem op_ne:OpR X (Ui .NotEq) rNe:=by
 intro pq s σ H x y v u Q I rx ry h;obtain⟨hs,q⟩:=h;cases x with
 | non=>
   cases rx;cases y with
   | non=>cases ry;exact PySem.EqNone.ne_none_none (g7 I q (by simp))
   | bl j=>cases ry;exact PySem.EqNone.ne_none_bool (g7 I q (by simp))
   | int j=>obtain⟨t',rfl⟩:=ry;exact PySem.EqNone.ne_none_int (g7 I q (by simp))
   | str j=>obtain⟨t',rfl⟩:=ry;exact PySem.EqNone.ne_none_str (g7 I q (by simp))
   | _=>exact absurd (show false=true from hs) Qz
 | bl i=>
   cases rx;cases y with
   | non=>cases ry;exact PySem.EqNone.ne_bool_none (g7 I q (by simp))
   | bl j=>cases ry;exact ne_bool (g7 I q (congrArg not Io))
   | str j=>obtain⟨t',rfl⟩:=ry;exact PySem.EqMixed.ne_bool_str (g7 I q (by simp))
   | _=>exact absurd (show false=true from hs) Qz
 | int i=>
   obtain⟨t,rfl⟩:=rx;cases y with
   | non=>cases ry;exact PySem.EqNone.ne_int_none (g7 I q (by simp))
   | int j=>obtain⟨t',rfl⟩:=ry;exact ne_int (g7 I q (congrArg not G9))
   | str j=>obtain⟨t',rfl⟩:=ry;exact PySem.EqMixed.ne_int_str (g7 I q (by simp))
   | _=>exact absurd (show false=true from hs) Qz
 | str i=>
   obtain⟨t,rfl⟩:=rx;cases y with
   | non=>cases ry;exact PySem.EqNone.ne_str_none (g7 I q (by simp))
   | bl j=>cases ry;exact PySem.EqMixed.ne_str_bool (g7 I q (by simp))
   | int j=>obtain⟨t',rfl⟩:=ry;exact PySem.EqMixed.ne_str_int (g7 I q (by simp))
   | str j=>obtain⟨t',rfl⟩:=ry;exact ne_str (g7 I q (congrArg not GA))
   | _=>exact absurd (show false=true from hs) Qz
 | byt i=>
   obtain⟨t,rfl⟩:=rx;cases y with
   | byt j=>obtain⟨t',rfl⟩:=ry;exact PySem.W.ne_bytes (g7 I q (congrArg not GB))
   | _=>exact absurd (show false=true from hs) Qz
 | _=>cases y<;>exact absurd (show false=true from hs) Qz
theorem PP:OpR X (Ui .Lt) (rI0 λi j => .bl (decide (i<j))):=LN λ_ _ _ _ _ _ _ q=>lt_int q
theorem PR:OpR X (Ui .LtE) (rI0 λi j => .bl (decide (i<=j))):=LN λ_ _ _ _ _ _ _ q=>le_int q
theorem PU:OpR X (Ui .Gt) (rI0 λi j => .bl (decide (j<i))):=LN λ_ _ _ _ _ _ _ q=>gt_int q
theorem PV:OpR X (Ui .GtE) (rI0 λi j => .bl (decide (j<=i))):=LN λ_ _ _ _ _ _ _ q=>ge_int q
theorem Nd:OpR X (Ui .Is) (λx y H Q=>y = .non/\Q (.bl (decide (x = .non))) H):=by
 intro pq s σ H x y v u Q I rx ry h;obtain⟨rfl,q⟩:=h;cases ry;refine is_none_gen (g7 I q ?_)
 cases x<;>first
  | (cases rx;rfl)
  | (obtain⟨t,rfl⟩:=rx;rfl)
theorem op_notN:OpR X (Ui .IsNot) (λx y H Q=>y = .non/\Q (.bl (!decide (x = .non))) H):=by
 intro pq s σ H x y v u Q I rx ry h;obtain⟨rfl,q⟩:=h;cases ry;refine isnot_none_gen (g7 I q ?_)
 cases x<;>first
  | (cases rx;rfl)
  | (obtain⟨t,rfl⟩:=rx;rfl)
theorem OpR.or{f:UT->UT->Sem UT}{r r':R2}(h:OpR X f r)(h':OpR X f r'):OpR X f (λx y H Q=>r x y H Q\/r' x y H Q):=by
 intro pq s σ H x y v u Q I rx ry q;rcases q with q | q
 ·exact h pq s σ H x y v u Q I rx ry q
 ·exact h' pq s σ H x y v u Q I rx ry q
theorem GC{op:CmpOp}{r:R2}(ho:OpR X (Ui op) r)(ha:PE X a ta)(hb:PE X b tb)(hm:VO op b=false):PE X (.Compare a [op] [b] pos) (tOp r ta tb):=by
 intro pq s σ H Q I h;exact WN (NY ha hb I h λv u s2 x y H2 I2 rx ry q=>ho pq s2 σ H2 x y v u Q I2 rx ry q) hm
noncomputable def Mr(t:TE):TT:=λσ H Q=>t σ H λx H'=>∃ k,x = .bl k/\Q k H'
theorem GD{op:CmpOp}{r:R2}(ho:OpR X (Ui op) r)(ha:PE X a ta)(hb:PE X b tb)(hm:VO op b=false):PT X (.Compare a [op] [b] pos) (Mr (tOp r ta tb)):=by
 intro pq s σ H Q I h
 refine Vj (thn (ha pq s σ H _ I h) λv s1 ⟨x,H1,I1,r1,q1⟩=>thn (hb pq s1 σ H1 _ I1 q1) λu s2 ⟨y,H2,I2,r2,q2⟩=>
  thn (ho pq s2 σ H2 x y v u _ I2 r1 r2 q2) λc s3 ⟨z,H3,I3,r3,k,e,q3⟩=>?_) hm
 subst e;cases r3;exact Uk ⟨H3,I3,q3⟩
noncomputable def F6(r r':R2)(ta tb tc:TE):TE:=λσ H Q=>ta σ H λx H1=>tb σ H1 λy H2=>r x y H2 λz H3=>∃ k,z = .bl k/\
 (if k=true then tc σ H3 λw' H4=>r' y w' H4 Q else Q (.bl false) H3)
theorem Ip{op op':CmpOp}{r r':R2}(ho:OpR X (Ui op) r)(ho':OpR X (Ui op') r')(ha:PE X a ta)(hb:PE X b tb)(hc:PE X c tc)
 (hm:Wf [op,op'] [b,c]=false:=by with_unfolding_all rfl):PE X (.Compare a [op,op'] [b,c] pos) (F6 r r' ta tb tc):=by
 intro pq s σ H Q I h
 refine Compare_chain (thn (ha pq s σ H _ I h) λv s1 ⟨x,H1,I1,r1,q1⟩=>chain_link (thn (hb pq s1 σ H1 _ I1 q1) λu s2 ⟨y,H2,I2,r2,q2⟩=>
  thn (ho pq s2 σ H2 x y v u _ I2 r1 r2 q2) λd s3 ⟨z,H3,I3,r3,k,e,q3⟩=>?_)) hm
 subst e;cases r3;refine Uk ?_;cases k with
 | false=>exact ite_ff ⟨.bl false,H3,I3,rfl,q3⟩
 | true=>exact ite_tt (chain_last (thn (hc pq s3 σ H3 _ I3 q3) λw' s4 ⟨z',H4,I4,r4,q4⟩=>ho' pq s4 σ H4 y z' u w' Q I4 r2 r4 q4))
theorem Iq{op op':CmpOp}{r r':R2}(ho:OpR X (Ui op) r)(ho':OpR X (Ui op') r')(ha:PE X a ta)(hb:PE X b tb)(hc:PE X c tc)
 (hm:Wf [op,op'] [b,c]=false:=by with_unfolding_all rfl):PT X (.Compare a [op,op'] [b,c] pos) (Mr (F6 r r' ta tb tc)):=by
 intro pq s σ H Q I h
 refine isTrue_chain (thn (ha pq s σ H _ I h) λv s1 ⟨x,H1,I1,r1,q1⟩=>test_link (thn (hb pq s1 σ H1 _ I1 q1) λu s2 ⟨y,H2,I2,r2,q2⟩=>
  thn (ho pq s2 σ H2 x y v u _ I2 r1 r2 q2) λd s3 ⟨z,H3,I3,r3,k,e,q3⟩=>?_)) hm
 subst e;cases r3;refine Uk ?_;cases k with
 | false=>
   obtain⟨k',e',q'⟩:=q3;cases e';exact ite_ff ⟨H3,I3,q'⟩
 | true=>
   refine ite_tt (test_last (thn (hc pq s3 σ H3 _ I3 q3) λw' s4 ⟨z',H4,I4,r4,q4⟩=>thn (ho' pq s4 σ H4 y z' u w' _ I4 r2 r4 q4) λd' s5 ⟨z2,H5,I5,r5,k2,e2,q5⟩=>?_));subst e2;cases r5;exact Uk ⟨H5,I5,q5⟩
noncomputable def LP(K:Qo)(x:V)(H:Hp)(k:Bool):Prop:=
 match x with
 | .non=>k=false
 | .bl b=>k=b
 | .int i=>k=(i != 0)
 | .str y=>y.length<=UY/\k=((y.length:Int) != 0)
 | .byt y=>y.size<=UY/\k=((y.size:Int) != 0)
 | .ref p=>(∃ xs,SqL K H p xs/\k=!xs.isEmpty)\/(∃ xs,SqT K H p xs/\k=!xs.isEmpty)\/∃ kvs,H p=some (.dK kvs)/\k=!kvs.isEmpty
 | _=>False
theorem F7{κ:Type}{kvs:List (κ×V)}{vs:List (κ×UT)}(r:KV kvs vs):(!vs.isEmpty)=!kvs.isEmpty:=by
 cases r<;>rfl
theorem By{xs:List V}{its:List UT}(r:Vals xs its):(!its.toArray.isEmpty)=!xs.isEmpty:=by
 cases r<;>simp
theorem B5:(UY:Nat)<2 ^ 63:=by rw[Vm];decide
theorem Nf:QU X (λx H Q=>∃ k,LP X.K x H k/\Q k H):=by
 intro pq s σ H x v Q I rx h;obtain⟨k,e,q⟩:=h;have hl:=B5;have hs:UY=16777216:=Vm;cases x with
 | non=>
   cases rx;have e':k=false:=e;subst e';exact truthy_none ⟨H,I,q⟩
 | bl b=>
   cases rx;have e':k=b:=e;subst e';exact Uk ⟨H,I,q⟩
 | int i=>
   obtain⟨t,rfl⟩:=rx;have e':k=(i != 0):=e;subst e';exact PySem.P.truthy_int ⟨H,I,q⟩
 | str y=>
   obtain⟨t,rfl⟩:=rx;obtain⟨hy,e'⟩:y.length<=UY/\k=((y.length:Int) != 0):=e;subst e';exact PySem.P.truthy_str (by omega) ⟨H,I.tok _,q⟩
 | byt y=>
   obtain⟨t,rfl⟩:=rx;obtain⟨hy,e'⟩:y.size<=UY/\k=((y.size:Int) != 0):=e;subst e';exact PySem.W.truthy_bytes (by omega) ⟨H,I.tok _,q⟩
 | ref p=>
   cases rx;have e':(∃ xs,SqL X.K H p xs/\k=!xs.isEmpty)\/(∃ xs,SqT X.K H p xs/\k=!xs.isEmpty)\/∃ kvs,H p=some (.dK kvs)/\k=!kvs.isEmpty:=e;rcases e' with⟨xs,hx,e'⟩ | ⟨xs,hx,e'⟩ | ⟨kvs,hx,e'⟩
   ·subst e';obtain⟨its,r,pl,hz⟩:=I.list hx;have hlen:=r.length;exact wpAny_truthy_list pl.isList (by simp only[Qt];omega) ⟨H,I.tok _,by rw[By r];exact q⟩
   ·subst e';obtain⟨its,r,pl,hz⟩:=I.tuple hx;have hlen:=r.length;exact truthy_tuple pl (by simp only[Qt];omega) ⟨H,I.tok _,by rw[By r];exact q⟩
   ·subst e';obtain⟨hz,hS,vs,r,m⟩:kvs.length<=UY/\(p == V5)=false/\∃ vs,KV kvs vs/\s.heap.DictOf (g9 X.prog X.w) p vs:=I.hok p _ hx;have hlen:kvs.length=vs.length:=Paired.length r;exact wpAny_truthy_dict hS m (by omega) ⟨H,I.tok _,by rw[F7 r];exact q⟩
 | _=>exact(show False from e).elim
theorem Ir(ha:PE X a ta)(he:∀ whole,isTrue a X.env whole=(do let v <- whole;standAt a.pos;holding [v] (truthy v))):
 PT X a (λσ H Q=>ta σ H λx H'=>∃ k,LP X.K x H' k/\Q k H'):=by
 intro pq s σ H Q I h;exact isTrue_plain (thn (ha pq s σ H _ I h) λv s1 ⟨x,H1,I1,r1,q1⟩=>Nf pq s1 σ H1 x v Q I1 r1 q1) (he _)
theorem F8:OpR X (Uv .Add) (λx y H Q=>∃ i j,x = .str i/\y = .str j/\i.length+j.length<=UY/\Q (.str (i++j)) H):=by
 intro pq s σ H x y v u Q I rx ry h;obtain⟨i,j,rfl,rfl,hz,q⟩:=h;obtain⟨t,rfl⟩:=rx;obtain⟨t',rfl⟩:=ry;exact add_str (λt' tk=>⟨.str (i++j),H,I.tok _,⟨_,rfl⟩,q⟩) hz
theorem Af{x:V}{us:List UT}(r:Vals [x] us):∃ u,us=[u]/\RelV x u:=by
 cases r with
 | cons r1 r2=>cases r2;exact⟨_,rfl,r1⟩
theorem Ms{x y:V}{us:List UT}(r:Vals [x,y] us):∃ u w',us=[u,w']/\RelV x u/\RelV y w':=by
 cases r with
 | cons r1 r2=>
   cases r2 with
   | cons r3 r4=>cases r4;exact⟨_,_,rfl,r1,r3⟩
theorem Iu:CallR X (.builtin "abs") (λxs H Q=>∃ i,xs=[.int i]/\Q (.int (if i<0 then -i else i)) H):=by
 intro pq s σ H xs us Q I r h;obtain⟨i,rfl,q⟩:=h;obtain⟨u,rfl,t,rfl⟩:=Af r;exact call_abs_int λu tk=>⟨.int (if i<0 then -i else i),H,I.tok _,⟨_,rfl⟩,q⟩
theorem HX(hc:X.calm=true):CallR X (.builtin "max") (λxs H Q=>∃ i j,xs=[.int i,.int j]/\Q (.int (if j>i then j else i)) H):=by
 intro pq s σ H xs us Q I r h;obtain⟨i,j,rfl,q⟩:=h;obtain⟨u,w',rfl,⟨t,rfl⟩,⟨t',rfl⟩⟩:=Ms r;refine max_two_ints (I.ok.hd hc) λh' tk k=>⟨_,H,I.kept k,?_,q⟩
 by_cases hj:j>i
 ·rw[iP hj,iP hj];exact⟨_,rfl⟩
 ·rw[iG hj,iG hj];exact⟨_,rfl⟩
theorem HY(hc:X.calm=true):CallR X (.builtin "min") (λxs H Q=>∃ i j,xs=[.int i,.int j]/\Q (.int (if j<i then j else i)) H):=by
 intro pq s σ H xs us Q I r h;obtain⟨i,j,rfl,q⟩:=h;obtain⟨u,w',rfl,⟨t,rfl⟩,⟨t',rfl⟩⟩:=Ms r;refine min_two_ints (I.ok.hd hc) λh' tk k=>⟨_,H,I.kept k,?_,q⟩
 by_cases hj:j<i
 ·rw[iP hj,iP hj];exact⟨_,rfl⟩
 ·rw[iG hj,iG hj];exact⟨_,rfl⟩
theorem HZ:CallR X (.type "int") (λxs H Q=>(∃ i,xs=[.int i]/\Q (.int i) H)\/∃ k,xs=[.bl k]/\Q (.int (if k then 1 else 0)) H):=by
 intro pq s σ H xs us Q I r h;rcases h with⟨i,rfl,q⟩ | ⟨k,rfl,q⟩
 ·obtain⟨u,rfl,t,rfl⟩:=Af r;exact call_int_int ⟨.int i,H,I,⟨_,rfl⟩,q⟩
 ·obtain⟨u,rfl,r1⟩:=Af r;cases r1;exact call_int_bool ⟨.int (if k then 1 else 0),H,I.tok _,⟨_,rfl⟩,q⟩
end
structure ObjM(h:Heap)(x dx C:UV)(mA:Str->Option UT):Prop where
 obj:h.get? x=some (PySem.W.instObj C dx)
 ns:h.Ns1 dx mA
 ne:dx≠x
theorem Ha{h:Heap}{dx:UV}{mA:Str->Option UT}(n:h.Ns1 dx mA):∃ od,h.get? dx=some od/\∀ name,PySem.W.lookIn name od=some (mA name):=by
 obtain⟨o,es,ep,ho,hd,hk,_,hm⟩:=n;refine⟨o,ho,λname=>?_⟩;have e:=hm name;unfold nsFind findBy at e;rw[<-Array.find?_toList]at e;unfold PySem.W.lookIn;rw[hd];dsimp only;split
 ·rename_i y q;rw[q]at e;exact congrArg some e
 ·rename_i q;rw[q]at e
  have a:es.toList.any (·.refKey)=false:=by
   rw[List.any_eq_false];intro y hy;obtain⟨z,t,hkey⟩:=hk y (Array.mem_toList_iff.mp hy);simp[DictEntry.refKey,hkey]
  have a':¬ es.toList.any (·.refKey)=true:=by rw[a];exact Qz
  rw[iG a'];exact congrArg some e
theorem ObjM.look{h:Heap}{x dx C:UV}{mA:Str->Option UT}(I:ObjM h x dx C mA):∃ od,PySem.W.InstAt h x (PySem.W.instObj C dx) C (some od)/\∀ name,PySem.W.lookIn name od=some (mA name):=
 let ⟨od,ho,hl⟩:=Ha I.ns
 ⟨od,⟨I.obj,rfl,rfl,ho⟩,hl⟩
section
variable{P:Ua}{w:Ud}{H H':Hp}{h h':Heap}{a C dx:UV}{fs fs':List (Str×V)}
theorem GF(hok:HOk P w H h)(e:H a=some (.ins C dx fs)):∃ mA,ObjM h a dx C mA/\(∀ f,RelO (fs.lookup f) (mA f))/\PySem.Within mA (fs.map (·.1))/\fs.length<=1000/\H dx=some (.own a):=by
 obtain⟨d,z,ne,ob,mA,n,r,q⟩:=(show ObjOk P w H h a (.ins C dx fs) from hok a _ e)
 exact⟨mA,⟨ob,n,ne⟩,r,q,z,d⟩
end
structure Cls(K:Qo)(C:UV):Prop where
 pg:PySem.W.plainGet K C Str.empty=true
 hd:PySem.W.hasDictIn K C=true
 po:PySem.W.plainOver K C=true
 sa:PySem.W.findIn K (.ref C) "__setattr__"=some (some (.builtin "object.__setattr__"))
theorem Cls.get{K:Qo}{C:UV}(c:Cls K C)(f:Str):PySem.W.plainGet K C f=true:=c.pg
section
variable{X:Cx}{pq:List (UV×Obj)}{σ:St}{H:Hp}{s:UU}{A:Uj}{E:UT->UU->Prop}{Q:UT->UU->Prop}{c:UT}{b:Bool}
inductive TyOf(K:Qo)(H:Hp):V->UT->Prop where
 | non:TyOf K H .non (.type "NoneType")
 | bl (x:Bool):TyOf K H (.bl x) (.type "bool")
 | int (i:Int):TyOf K H (.int i) (.type "int")
 | str (x:Str):TyOf K H (.str x) (.type "str")
 | flt (x:UInt64):TyOf K H (.flt x) (.type "float")
 | lst {a:UV} {xs:List V} (e:H a=some (.lst xs)):TyOf K H (.ref a) (.type "list")
 | frz {a:UV} {o:Obj} {xs:List V} (e:H a=some (.frz o (.lst xs))):TyOf K H (.ref a) (.type "list")
 | tup {a:UV} {xs:List V} (e:H a=some (.tup xs)):TyOf K H (.ref a) (.type "tuple")
 | dK {a:UV} {kvs:List (Key×V)} (e:H a=some (.dK kvs)):TyOf K H (.ref a) (.type "dict")
 | dT {a:UV} {kvs:List (List Key×V)} (e:H a=some (.dT kvs)):TyOf K H (.ref a) (.type "dict")
 | ins {a C dx:UV} {fs:List (Str×V)} (e:H a=some (.ins C dx fs)) (cl:Cls K C) (ha:PySem.W.findIn K (.ref C) "__class__"=some (some (.builtin "object.__class__")))
    (hn:PySem.W.specialIn K (.builtin "object.__class__") "__get__"=some (some (.builtin "getset_descriptor.__get__"))) (htk:PySem.W.takesIn K (.builtin "object.__class__")=some true)
    (hm:PySem.W.mroIn K C (.type "object")=some true):TyOf K H (.ref a) (.ref C)
theorem Hb{x:V}{u t:UT}(I:Inv X pq σ H s)(rx:RelV x u)(ty:TyOf X.K H x t)(e:PySem.W.kitOne X.K t c=some b)(h:∀ tk,Q (.bool b) {s with toks:=tk}):
 UX (UZ X.prog X.w) A (call (.builtin "isinstance") [u,c]) Q E s:=by
 cases ty with
 | non=>cases(show u=Value.none from rx);exact PySem.W.kia_one PySem.W.kitx_none I.kIn True.intro e (λz=>nomatch z) h
 | bl y=>cases(show u=Value.bool y from rx);exact PySem.W.kia_one PySem.W.kitx_bool I.kIn True.intro e (λz=>nomatch z) h
 | int i=>obtain⟨t,q⟩:=(show ∃ t,u=Value.int i t from rx);cases q;exact PySem.W.kia_one PySem.W.kitx_int I.kIn True.intro e (λz=>nomatch z) h
 | str y=>obtain⟨t,q⟩:=(show ∃ t,u=Value.str y t from rx);cases q;exact PySem.W.kia_one PySem.W.kitx_str I.kIn True.intro e (λz=>nomatch z) h
 | flt y=>obtain⟨t,q⟩:=(show ∃ t,u=Value.float y t from rx);cases q;exact PySem.W.kia_one PySem.W.kitx_float I.kIn True.intro e (λz=>nomatch z) h
 | @lst a xs ea=>
   cases(show u=Value.ref a from rx);obtain⟨_,_,n,_,h1⟩:=(show ObjOk X.prog X.w H s.heap a (.lst xs) from I.hok a _ ea)
   exact PySem.W.kia_one PySem.W.kitx_list I.kIn ⟨_,h1,rfl⟩ e (λz=>nomatch z) h
 | @frz a ob xs ea=>
   cases(show u=Value.ref a from rx);obtain⟨_,_,_,n,_,h1⟩:=(show ObjOk X.prog X.w H s.heap a (.frz ob (.lst xs)) from I.hok a _ ea)
   exact PySem.W.kia_one PySem.W.kitx_list I.kIn ⟨_,h1,rfl⟩ e (λz=>nomatch z) h
 | @tup a xs ea=>
   cases(show u=Value.ref a from rx);obtain⟨_,_,_,p⟩:=(show ObjOk X.prog X.w H s.heap a (.tup xs) from I.hok a _ ea)
   obtain⟨o,h1,h2,_⟩:=p;exact PySem.W.kia_one PySem.W.kitx_tuple I.kIn ⟨o,h1,h2⟩ e (λz=>nomatch z) h
 | @dK a kvs ea=>
   cases(show u=Value.ref a from rx);obtain⟨_,_,vs,_,p⟩:=(show ObjOk X.prog X.w H s.heap a (.dK kvs) from I.hok a _ ea)
   obtain⟨o,es,ep,h1,h2,_⟩:=p;exact PySem.W.kia_one PySem.W.kitx_dict I.kIn ⟨o,h1,h2.1⟩ e (λz=>nomatch z) h
 | @dT a kvs ea=>
   cases(show u=Value.ref a from rx);obtain⟨_,_,xs,_,o,es,ep,h1,h2,_⟩:=(show ObjOk X.prog X.w H s.heap a (.dT kvs) from I.hok a _ ea)
   exact PySem.W.kia_one PySem.W.kitx_dict I.kIn ⟨o,h1,h2.1⟩ e (λz=>nomatch z) h
 | @ins a C dx fs ea cl ha hn htk hm=>
   cases(show u=Value.ref a from rx);obtain⟨mA,O,_⟩:=GF I.hok ea;obtain⟨od,J,_⟩:=O.look;exact PySem.W.kia_one (PySem.W.kitx_own (cl.get _) cl.hd ha hn htk hm) I.kIn J e (λz=>nomatch z) h
end
structure Room(k:Nat)(A:Uj):Prop where
 hd:A.handled=none
 dp:A.depth+3 * k+5<WQ
 un:A.units+16 * k+200<cLine
 gd:A.guards=some []
theorem Room.mono{j k:Nat}{A:Uj}(r:Room k A)(h:j<=k):Room j A:=⟨r.hd,by have:=r.dp;omega,by have:=r.un;omega,r.gd⟩
theorem Room.deeper{k:Nat}{A:Uj}(r:Room (k+1) A)(env:Env):Room k (A.deeper env):=
 ⟨r.hd,by have:=r.dp;show A.depth+1+3 * k+5<_;omega,by have:=r.un;show A.units+3+16 * k+200<_;omega,r.gd⟩
theorem Room.depth{k:Nat}{A:Uj}(r:Room k A):A.depth<WQ:=by have:=r.dp;omega
noncomputable def QV:TA:=λ_ H Q=>Q [] H
noncomputable def Mt(ta:TE)(tr:TA):TA:=λσ H Q=>ta σ H λx H1=>tr σ H1 λxs H2=>Q (x::xs) H2
section
variable{X:Cx}{e:Expr}{es:List Expr}{te:TE}{t:TA}{pos:Pos}
theorem A0:PA X [] QV:=λ_ _ _ _ H Q I h=>Calls.spliced_nil ⟨[],H,I,.nil,h⟩
theorem l4(ha:PE X e te)(hr:PA X es t)(hs:Ue (e::es) X.env=(false,eval e X.env)::Ue es X.env:=by rfl):PA X (e::es) (Mt te t):=by
 intro pos pq s σ H Q I h;rw[hs];show UX _ _ (spliced ((false,eval e X.env)::backTo pos (Ue es X.env))) _ _ s;refine Calls.spliced_cons (thn (ha pq s σ H _ I h) λu s1 ⟨x,H1,I1,r1,q1⟩=>?_);exact thn (hr pos pq s1 σ H1 _ I1 q1) λus s2 ⟨xs,H2,I2,r2,q2⟩=>⟨x::xs,H2,I2,.cons r1 r2,q2⟩
noncomputable def PX(t:TA):TE:=λσ H Q=>t σ H λxs H1=>xs.length<=UY/\∀ p,H1 p=none->Q (.ref p) (upd H1 p (.tup xs))
noncomputable def PY(t:TA):TE:=λσ H Q=>t σ H λxs H1=>xs.length<=UY/\∀ p,H1 p=none->Q (.ref p) (upd H1 p (.lst xs))
theorem Ng{x1}(h:PA X es t):PE X (.Tuple es x1 pos) (PX t):=by
 intro pq s σ H Q I hq;refine wpAny_Tuple_spliced (thn (h pos pq s σ H _ I hq) λus s1 ⟨xs,H1,I1,r,z,q⟩=>⟨by rw[<-r.length];exact z,?_⟩);have hf:H1 s1.heap.objs.size=none:=I1.hok.fresh (Qs _);refine⟨.ref s1.heap.objs.size,upd H1 s1.heap.objs.size (.tup xs),I1.laid (t':=s1.toks) (λb u e=>Qq _ e) (Qs _) ?_,rfl,q _ hf⟩;exact⟨z,us,r,⟨_,Qx _ rfl,rfl,_,rfl⟩⟩
theorem Nh(h:PA X es t):PE X (.List es pos) (PY t):=by
 intro pq s σ H Q I hq;refine wpAny_List_spliced (thn (h pos pq s σ H _ I hq) λus s1 ⟨xs,H1,I1,r,z,q⟩=>⟨by rw[<-r.length];exact z,?_⟩);have hf:H1 s1.heap.objs.size=none:=I1.hok.fresh (Qs _);refine⟨.ref s1.heap.objs.size,upd H1 s1.heap.objs.size (.lst xs),I1.laid (t':=s1.toks) (λb u e=>Qq _ e) (Qs _) ?_,rfl,q _ hf⟩;exact⟨z,us,0,r,Qx _ rfl⟩
end
noncomputable abbrev Sp:=List V->Hp->VK->XK->Prop
noncomputable abbrev CXT:=List Env->Hp->UU->XK->UT->UU->Prop
structure Env0(P:Ua)(w:Ud)(K:Qo)(mg:Str->Option UT)(base:Heap)(A:Uj)(outer:List Env)(s:UU)(H:Hp):Prop where
 frames:A.frames=some outer
 mod:Mod K mg base
 bs:∀ b o,base.get? b=some o->s.heap.get? b=some o/\H b=none
 bsz:base.objs.size<=s.heap.objs.size
 funs:s.heap.FunFrames base outer
 frf:∀ b∈frs outer,H b=none
 hok:HOk P w H s.heap
 bare:AllBare s.gens
noncomputable def CE(outer:List Env)(P:Ua)(w:Ud)(H:Hp)(s:UU)(Q:VK)(u:UT)(s':UU):Prop:=
 ∃ v H',s'.os=s.os/\AllBare s'.gens/\Un (frs outer) [] H H' s.heap s'.heap/\HOk P w H' s'.heap/\RelV v u/\Q v H'
noncomputable def CR(CX:CXT)(outer:List Env)(P:Ua)(w:Ud)(H:Hp)(s:UU)(Q:VK)(E:XK)(r:Result)(s':UU):Prop:=
 match r with
 | .ok (.ret u)=>CE outer P w H s Q u s'
 | .ok _=>False
 | .error e=>CX outer H s E e s'
structure FnOk(P:Ua)(w:Ud)(K:Qo)(mg:Str->Option UT)(base:Heap)(CX:CXT)(k:Nat)(f:UV)(fd:V3)(ps:List Str)(sp:Sp):Prop where
 len:∀ vs H Q E,sp vs H Q E->vs.length=ps.length
 run:∀(A:Uj) (outer:List Env) (s:UU) (H:Hp) (args:Args) (us:List UT) (vs:List V) (Q:VK) (E:XK),Room k A->Env0 P w K mg base A outer s H->BindsTo s fd args (ps.zip us)->Vals vs us->sp vs H Q E->
  codeAny (UZ P w) A (.call (.ref f) args) (CR CX outer P w H s Q E) s
theorem FnOk.mono{P:Ua}{w:Ud}{K:Qo}{mg:Str->Option UT}{base:Heap}{CX:CXT}{j k:Nat}{f:UV}{fd:V3}{ps:List Str}{sp:Sp}(F:FnOk P w K mg base CX j f fd ps sp)(h:j<=k):
 FnOk P w K mg base CX k f fd ps sp:=⟨F.len,λA outer s H args us vs Q E hr=>F.run A outer s H args us vs Q E (hr.mono h)⟩
theorem FnOk.imp{P:Ua}{w:Ud}{K:Qo}{mg:Str->Option UT}{base:Heap}{CX:CXT}{k:Nat}{f:UV}{fd:V3}{ps:List Str}{sp sp':Sp}(F:FnOk P w K mg base CX k f fd ps sp)
 (h:∀ vs H Q E,sp' vs H Q E->sp vs H Q E):FnOk P w K mg base CX k f fd ps sp':=
 ⟨λvs H Q E q=>F.len vs H Q E (h _ _ _ _ q),λA outer s H args us vs Q E hr he hb hv hs=>F.run A outer s H args us vs Q E hr he hb hv (h _ _ _ _ hs)⟩
section
variable{X:Cx}{pq:List (UV×Obj)}{σ:St}{H:Hp}{s s':UU}
theorem Inv.env0(I:Inv X pq σ H s):Env0 X.prog X.w X.K X.mg X.base X.A X.stack s H:=
 ⟨I.ok.frames,I.ok.mod,I.bs,RE I.ok.bsz I.sz,I.stack,I.stkFree,I.hok,I.bare⟩
theorem Inv.after{Q:VK}{u:UT}(I:Inv X pq σ H s)(h:CE X.stack X.prog X.w H s Q u s'):EP X pq σ Q u s':=by
 obtain⟨v,H',os,bare,un,hok,r,q⟩:=h;obtain⟨hh,g,d,t,os'⟩:=s';obtain rfl:os'=s.os:=os;exact⟨v,H',I.call (h':=hh) (g':=g) (d':=d) (t':=t) (ch:=[]) un hok bare (λb z=>absurd z (by simp)),r,q⟩
end
noncomputable def Mu(sp:Sp)(dvs:List V)(E:XK)(t:TA):TE:=λσ H Q=>t σ H λvs H1=>sp (vs++dvs) H1 Q E
noncomputable def Binds(K:Qo)(fd:V3)(ps:List Str)(ds:List UT):Prop:=
 ∀(s:UU) (us:List UT),K.In s.heap->(us++ds).length=ps.length->BindsTo s fd ⟨us,[]⟩ (ps.zip (us++ds))
theorem Binds.all{K:Qo}{fd:V3}{ps:List Str}(h:∀ us:List UT,us.length=ps.length->bindArgs fd ⟨us,[]⟩=pure (ps.zip us)):Binds K fd ps []:=λs us _ hl=>by
 rw[Rg]at hl ⊢;exact .of_eq (h us hl)
noncomputable def F9(CX:CXT)(X:Cx)(E:XK):Prop:=∀(pq:List (UV×Obj)) (σ:St) (H:Hp) (s:UU) (e:UT) (s':UU),Inv X pq σ H s->CX X.stack H s E e s'->X.xe e s'
section
variable{X:Cx}{CX:CXT}{k:Nat}{f C:UV}{fd:V3}{ps:List Str}{sp:Sp}{dvs:List V}{ds:List UT}{E:XK}{x m:Str}{p pos apos:Pos}{e o:Expr}{es:List Expr}{ta:TE}{t:TA}
theorem Ni{pq:List (UV×Obj)}{σ:St}{H:Hp}{s:UU}{Q:VK}{us:List UT}{vs:List V}(F:FnOk X.prog X.w X.K X.mg X.base CX k f fd ps sp)(hr:Room k X.A)(hb:Binds X.K fd ps ds)(hd:Vals dvs ds)(hx:F9 CX X E)
 (I:Inv X pq σ H s) (r:Vals vs us) (h:sp (vs++dvs) H Q E):UX (UZ X.prog X.w) X.A (call (.ref f) us) (EP X pq σ Q) X.xe s:=by
 have r2:Vals (vs++dvs) (us++ds):=r.append hd;have hl:(us++ds).length=ps.length:=by rw[<-r2.length];exact F.len _ _ _ _ h
 refine WR (VC (F.run X.A X.stack s H ⟨us,[]⟩ (us++ds) (vs++dvs) Q E hr I.env0 (hb s us I.kIn hl) r2 h) λr s' hq=>?_);cases r with
 | error e=>exact hx pq σ H s e s' I hq
 | ok fl=>
   cases fl with
   | ret u=>exact I.after hq
   | next=>exact False.elim hq
   | brk=>exact False.elim hq
   | cont=>exact False.elim hq
theorem LQ(F:FnOk X.prog X.w X.K X.mg X.base CX k f fd ps sp)(hr:Room k X.A)(hg:Gl X x)(hm:X.mg x=some (.ref f))(hk:PySem.W.keepIn X.K (.ref f)=true)(hb:Binds X.K fd ps ds)(hd:Vals dvs ds)(hx:F9 CX X E)
 (ha:PA X (e::es) t) (hdb:(x == ("__debug__":Str))=false:=by decide) (he:Ue (e::es) X.env=(false,eval e X.env)::Ue es X.env:=by rfl) (hpl:(backTo pos (Ue es X.env)).any (·.1)=false:=by rfl):
 PE X (.Call (.Name x p) (e::es) [] pos) (Mu sp dvs E t):=by
 intro pq s σ H Q I h;refine Uy (LG I hg hm ?_ hdb);refine PySem.W.callWith_K (h₀:=X.base) I.ok.mod.kin hk (thn (ha pos pq s σ H _ I h) λus s1 ⟨vs,H1,I1,r,q⟩=>⟨I1.kIn,?_⟩) he hpl;exact Ni F hr hb hd hx I1 r q
end
structure FnScope(N P:List Str)(sc:Ug):Prop where
 kind:sc.kind = .function
 co:sc.isCoroutine=false
 gen:sc.isGenerator=false
 nd:N.Nodup
 pre:N.take P.length=P
 par:∀ x∈P,sc.names.lookup x=some .local\/sc.names.lookup x=some .cell
 nofree:∀ y∈sc.names,y.2 ≠ .free
theorem Ch{kindOf:Str->Option Ur}{x:Str}:∀{binds:List (Str×UT)} {m:Str->Option UT},(∀ v,(x,v)∉binds)->bindL kindOf binds m x=m x
 | [],_,_=>rfl
 | (n,v)::r,m,h=>by
   unfold bindL;rw[Ch λw hw=>h w (R3 _ hw)];split
   ·have:x≠n:=by rintro rfl;exact h v RD
    simp[this]
   ·rfl
theorem Ci{kindOf:Str->Option Ur}{x:Str}:∀{binds:List (Str×UT)} {m:Str->Option UT},(∀ v,(x,v)∉binds)->bindC kindOf binds m x=m x
 | [],_,_=>rfl
 | (n,v)::r,m,h=>by
   unfold bindC;rw[Ci λw hw=>h w (R3 _ hw)];split
   ·rfl
   ·have:x≠n:=by rintro rfl;exact h v RD
    simp[this]
theorem Cj{kindOf:Str->Option Ur}{x:Str}{v:UT}:∀{P:List Str} {vs:List UT} {i:Nat} {m:Str->Option UT},P.Nodup->P[i]?=some x->vs[i]?=some v->kindOf x=some .local->
 bindL kindOf (P.zip vs) m x=some v
 | [],_,_,_,_,h,_,_=>by simp at h
 | _::_,[],_,_,_,_,h,_=>by simp at h
 | p::P,w::vs,0,m,nd,h1,h2,hk=>by
   simp at h1 h2;subst h1;subst h2;show bindL kindOf ((p,w)::P.zip vs) m p=_;unfold bindL;rw[Ch λv hv=>(Ru.mp nd).1 (Rv hv).1,iP hk];simp
 | p::P,w::vs,i+1,m,nd,h1,h2,hk=>by
   show bindL kindOf ((p,w)::P.zip vs) m x=_;unfold bindL;exact Cj (i:=i) (Ru.mp nd).2 (by simpa using h1) (by simpa using h2) hk
theorem Ck{kindOf:Str->Option Ur}{x:Str}{v:UT}:∀{P:List Str} {vs:List UT} {i:Nat} {m:Str->Option UT},P.Nodup->P[i]?=some x->vs[i]?=some v->kindOf x≠some .local->
 bindC kindOf (P.zip vs) m x=some v
 | [],_,_,_,_,h,_,_=>by simp at h
 | _::_,[],_,_,_,_,h,_=>by simp at h
 | p::P,w::vs,0,m,nd,h1,h2,hk=>by
   simp at h1 h2;subst h1;subst h2;show bindC kindOf ((p,w)::P.zip vs) m p=_;unfold bindC;rw[Ci λv hv=>(Ru.mp nd).1 (Rv hv).1,iG hk];simp
 | p::P,w::vs,i+1,m,nd,h1,h2,hk=>by
   show bindC kindOf ((p,w)::P.zip vs) m x=_;unfold bindC;exact Ck (i:=i) (Ru.mp nd).2 (by simpa using h1) (by simpa using h2) hk
noncomputable def start(N:List Str)(vs:List V):St:=vs.map some++RA (N.length - vs.length) none
noncomputable def FA(CX:CXT)(P:Ua)(w:Ud)(K:Qo)(mg:Str->Option UT)(base:Heap)(N:List Str)(qual:Str)(scope:Ug)(f:UV)(cd:UT)(A:Uj)(outer:List Env)(s:UU)(H:Hp)(E:XK):Cx where
 prog:=P
 w:=w
 K:=K
 mg:=mg
 base:=base
 A:=A.deeper (envOfC qual scope s.heap.objs.size f cd)
 N:=N
 s₀:=s
 H₀:=H
 env:=envOfC qual scope s.heap.objs.size f cd
 outer:=outer
 stack:=envOfC qual scope s.heap.objs.size f cd::outer
 ex:=[]
 calm:=true
 fn:=λ_=>true
 pn:=[]
 xe:=λe s'=>UX (UZ P w) (A.deeper (envOfC qual scope s.heap.objs.size f cd)) (leaving (envOfC qual scope s.heap.objs.size f cd) e) (λ_ s''=>CX outer H s E e s'') (λe' s''=>CX outer H s E e' s'') s'
theorem Ds{sc:Ug}{n:Nat}{x:Str}(h:sc.names.lookup x=some .cell):∃ c,(Us n sc.names []).lookup x=some c:=by
 have q:=PySem.W.cellsFrom_some sc.names n [] (.inl h);exact Rc.mp q
theorem Hc{CX:CXT}{P:Ua}{w:Ud}{K:Qo}{mg:Str->Option UT}{base:Heap}{N ps:List Str}{qual:Str}{scope:Ug}{f:UV}{cd:UT}{A:Uj}{outer:List Env}{s s1:UU}{H:Hp}{E:XK}{us:List UT}{vs:List V}
 (S:FnScope N ps scope) (hd:A.handled=none) (e0:Env0 P w K mg base A outer s H) (hl:vs.length=ps.length) (r:Vals vs us)
 (x:InCallC s s.heap.objs.size (bindL (envOfC qual scope s.heap.objs.size f cd).kindOf (ps.zip us) λ_=>none) (Us (s.heap.objs.size+1) scope.names []) (bindC (envOfC qual scope s.heap.objs.size f cd).kindOf (ps.zip us) λ_=>none) s1):
 Inv (FA CX P w K mg base N qual scope f cd A outer s H E) [] (start N vs) H s1:=by
 have hpl:ps.length<=N.length:=by have:=congrArg Ta S.pre;rw[RL]at this;omega
 obtain⟨h1,tk,rfl,hk⟩:=x.done;have noA:∀ b:UV,b∉(FA CX P w K mg base N qual scope f cd A outer s H E).ex:=λb z=>absurd (show b∈([]:List UV) from z) (by simp)
 refine⟨⟨e0.mod,S.kind,rfl,rfl,Qs _,λy z c h1 h2=>?_,λy hy=>?_,λy c _ h=>?_,λ_=>hd,Around.frames_deeper e0.frames,.inr ⟨rfl,rfl⟩,λb z=>absurd z (noA b),e0.bs,e0.bsz,λb _ _=>noA b,λb z=>absurd z (noA b),e0.funs,e0.frf⟩,
  rfl,e0.bare,Un.kept hk,⟨_,x.toInCall.ns,λi y v h1 h2 h3=>?_⟩,λy c h=>⟨_,x.cell y c h⟩,e0.hok.fresh (Qs _),λy c h=>?_,λp hp=>absurd (show p∈([]:List (UV×Obj)) from hp) (by simp),e0.hok.kept hk,?_⟩
 ·exact name_of_addr x.apart (PySem.mem_of_lookup h1) (PySem.mem_of_lookup h2)
 ·have hy:scope.names.lookup y=some .cell\/scope.names.lookup y=some .free:=hy;rcases hy with hy | hy
  ·exact Ds hy
  ·exact absurd rfl (S.nofree _ (PySem.mem_of_lookup hy))
 ·exact TM (x.above y c (PySem.mem_of_lookup h))
 ·have hi:i<vs.length:=by
   unfold start at h2;by_cases hi:i<vs.length
   ·exact hi
   ·rw[RM (by simpa using hi)]at h2;rw[Rh]at h2;split at h2<;>cases h2
  have ha:vs[i]?=some v:=by
   unfold start at h2;rw[R6 (by simpa using hi),R8]at h2;cases e:vs[i]? with
   | none=>rw[e]at h2;cases h2
   | some a=>rw[e]at h2;cases h2;rfl
  obtain⟨u,hu,rv⟩:=r.get ha
  have hp:ps[i]?=some y:=by
   rw[<-S.pre,List.getElem?_take_of_lt (by omega)];exact h1
  have ndP:ps.Nodup:=by rw[<-S.pre];exact S.nd.sublist (List.take_sublist _ _)
  refine⟨u,rv,?_⟩;rcases S.par y (R1 hp) with k | k
  ·exact .inl ⟨k,Cj ndP hp hu k⟩
  ·obtain⟨c,e⟩:=Ds (n:=s.heap.objs.size+1) k;refine .inr ⟨.inl k,c,e,?_⟩;have q:=x.cell y c e;rw[Ck ndP hp hu (by show scope.names.lookup y≠_;rw[k];decide)]at q;exact q
 ·exact e0.hok.fresh (TM (x.above y c (PySem.mem_of_lookup h)))
 ·unfold start;show _=N.length;rw[Qv,Qr,Sh];omega
theorem PZ{CX:CXT}{P:Ua}{w:Ud}{K:Qo}{mg:Str->Option UT}{base:Heap}{k:Nat}{f:UV}{name qual:Str}{params:Arguments}{body:List Stmt}{scope:Ug}{dV kV doc pm cdv ct oc:UT}{an od:Option UV}
 {osl:Array (Option UT)} {N ps:List Str} {sp:Sp} (lk:K.lookup f=some ⟨oc,od,.func (PySem.W.fnOf name qual params body scope dV kV doc pm an cdv ct),osl⟩) (hcd:PySem.W.codeIn K cdv qual=true) (S:FnScope N ps scope)
 (len:∀ vs H Q E,sp vs H Q E->vs.length=ps.length)
 (hbody:∀(A:Uj) (outer:List Env) (s:UU) (H:Hp) (vs:List V) (Q:VK) (E:XK),Room k (A.deeper (envOfC qual scope s.heap.objs.size f cdv))->sp vs H Q E->
   ∃ t,PSs (FA CX P w K mg base N qual scope f cdv A outer s H E) body t/\t {nx:=λ_ H'=>Q .non H',rt:=Q} (start N vs) H):
 FnOk P w K mg base CX (k+1) f (PySem.W.fnOf name qual params body scope dV kV doc pm an cdv ct) ps sp:=by
 refine⟨len,λA outer s H args us vs Q E hr e0 hb r hsp=>?_⟩;have hl:=len _ _ _ _ hsp;have KX:K.In s.heap:=e0.mod.kin.keeps λb o e=>(e0.bs b o e).1;have lim:s.heap.NoLimit:=e0.mod.nolimit.keeps λb o e=>(e0.bs b o e).1
 have hkind:∀ y∈ps.zip us,scope.names.lookup y.1=some .local\/(scope.names.lookup y.1=some .cell/\((Us (s.heap.objs.size+1) scope.names []).lookup y.1).isSome=true):=λ⟨n,v⟩ hy=>by
  rcases S.par n (Rv hy).1 with q | q
  ·exact .inl q
  ·exact .inr ⟨q,PySem.W.cellsFrom_some _ _ _ (.inl q)⟩
 refine codeAny_call_function hr.depth (KX _ _ lk) rfl S.co S.gen rfl (PySem.W.codeRec_of KX hcd) (hb _ _ _ _ ?_);refine wpAny_newFunctionEnv_cells S.kind hkind λenv he s1 x=>?_;subst he;refine⟨lim.keeps x.toInCall.keep,codeAny_func ?_⟩;obtain⟨t,ht,hq⟩:=hbody A outer s H vs Q E (hr.deeper _) hsp;have I:Inv (FA CX P w K mg base N qual scope f cdv A outer s H E) [] (start N vs) H s1:=Hc S hr.hd e0 hl r x;refine V6 (ht [] s1 (start N vs) H _ I hq) (λfl s' hs=>?_) λe s' hs=>hs
 have fin:∀{σ':St} {H':Hp} {v:V} {u:UT},Inv (FA CX P w K mg base N qual scope f cdv A outer s H E) [] σ' H' s'->RelV v u->Q v H'->CE outer P w H s Q u s':=
  λ{σ' H' v u} J rv q=>⟨v,H',J.os,J.bare,J.base,J.hok,rv,q⟩
 cases fl with
 | ret u=>
   obtain⟨v,σ',H',J,rv,q⟩:=hs;exact fin J rv q
 | next=>
   obtain⟨σ',H',J,q⟩:=hs;exact fin (v:=V.non) (u:=Value.none) J rfl q
 | brk=>
   obtain⟨_,_,_,q⟩:=hs;exact False.elim q
 | cont=>
   obtain⟨_,_,_,q⟩:=hs;exact False.elim q
section
variable{X:Cx}{x:Str}{p pos:Pos}{e:Expr}{es:List Expr}{t:TA}{id T:String}{r:List V->Hp->VK->Prop}
noncomputable def tCB(r:List V->Hp->VK->Prop)(t:TA):TE:=λσ H Q=>t σ H λvs H1=>r vs H1 Q
theorem m9(hc:CallR X (.builtin id) r)(hg:Gl X x)(hm:X.mg x=none)(hv:Uc x=some (.builtin id))(ha:PA X (e::es) t)(hn:x≠"__name__":=by decide)(hdb:(x == ("__debug__":Str))=false:=by decide)
 (he:Ue (e::es) X.env=(false,eval e X.env)::Ue es X.env:=by rfl) (hpl:(backTo pos (Ue es X.env)).any (·.1)=false:=by rfl):PE X (.Call (.Name x p) (e::es) [] pos) (tCB r t):=by
 intro pq s σ H Q I h;refine Uy (AI I hg hm hv ?_ hn hdb);exact PyProof.Rows.callWith_builtin1 (thn (ha pos pq s σ H _ I h) λus s1 ⟨vs,H1,I1,r1,q1⟩=>hc pq s1 σ H1 vs us Q I1 r1 q1) he hpl
theorem p9(hc:CallR X (.type T) r)(hg:Gl X x)(hm:X.mg x=none)(hv:Uc x=some (.type T))(ha:PA X (e::es) t)(hn:x≠"__name__":=by decide)(hdb:(x == ("__debug__":Str))=false:=by decide)
 (he:Ue (e::es) X.env=(false,eval e X.env)::Ue es X.env:=by rfl) (hpl:(backTo pos (Ue es X.env)).any (·.1)=false:=by rfl):PE X (.Call (.Name x p) (e::es) [] pos) (tCB r t):=by
 intro pq s σ H Q I h;refine Uy (AI I hg hm hv ?_ hn hdb);exact PyProof.Rows.callWith_type1 (thn (ha pos pq s σ H _ I h) λus s1 ⟨vs,H1,I1,r1,q1⟩=>hc pq s1 σ H1 vs us Q I1 r1 q1) he hpl
end
end L2
namespace HT
open PySem PyProof.Rows
section
variable{prog:Ua}{w:Ud}{A:Uj}{E:UT->UU->Prop}{s:UU}
theorem cat_tup{t b:UV}{vs ws:List UT}{Q:UT->UU->Prop}(ht:IsTup s.heap t vs.toArray)(hb:IsTup s.heap b ws.toArray)(hv:vs≠[])
 (h1:ws=[]->Q (.ref t) s) (h2:ws≠[]->Q (.ref s.heap.objs.size) {s with heap:=s.heap.push {cls := .type "tuple",data := .seq (vs++ws).toArray}})
 (hsz:vs.length+ws.length<=UY):UX (UZ prog w) A (Uv .Add (.ref t) (.ref b)) Q E s:=by
 obtain⟨⟨cls,dd,data,sl⟩,ho,hc,n,hd⟩:=id ht;obtain⟨⟨cls2,dd2,data2,sl2⟩,ho2,hc2,n2,hd2⟩:=id hb;simp only at hc hd hc2 hd2;subst hc hd hc2 hd2;have e:vs.toArray++ws.toArray=(vs++ws).toArray:=by simp
 by_cases hw:ws=[]
 ·exact W6 ⟨_,ho,rfl⟩ ⟨_,ho2,rfl⟩ VZ Vv PySem.F.slot_tuple_add PySem.F.entry_tuple_add (PySem.F.args_tuple_add_2 _ _)
   (tuple_addW1 t b vs.toArray ws.toArray n n2 dd dd2 sl sl2 (by simpa using hv) (by simp[hw])) ⟨ho,ho2,h1 hw⟩
 ·refine W6 ⟨_,ho,rfl⟩ ⟨_,ho2,rfl⟩ VZ Vv PySem.F.slot_tuple_add PySem.F.entry_tuple_add (PySem.F.args_tuple_add_2 _ _)
   (tuple_addW2 t b vs.toArray ws.toArray n n2 dd dd2 sl sl2 (by simpa using hv) (by simpa using hw) (by rw[Qt,Qt];exact hsz)) ⟨ho,ho2,?_⟩
  rw[e];exact h2 hw
noncomputable def sIx(n d:Nat):Option Int->Nat
 | none=>d
 | some v=>if v<0 then (v+(n:Int)).toNat else min v.toNat n
theorem sIx_none(n d:Nat):sIx n d none=d:=rfl
theorem sIx_nat(n d k:Nat):sIx n d (some (k:Int))=min k n:=by
 show(if (k:Int)<0 then ((k:Int)+(n:Int)).toNat else min (k:Int).toNat n)=min k n;rw[iG (by omega),Sd]
theorem Nj(n d:Nat)(hd:d<=n)(o:Option Int):sIx n d o<=n:=by
 cases o with
 | none=>exact hd
 | some v=>
   show(if v<0 then (v+(n:Int)).toNat else min v.toNat n)<=n;by_cases hv:v<0
   ·rw[iP hv];omega
   ·rw[iG hv];exact Nat.min_le_right _ _
theorem GG(v:Int)(n d:Nat):(if v<0 then max (v+(n:Int)) 0 else min v (n:Int))=((sIx n d (some v):Nat):Int):=by
 show(if v<0 then max (v+(n:Int)) 0 else min v (n:Int))=(((if v<0 then (v+(n:Int)).toNat else min v.toNat n):Nat):Int)
 by_cases hv:v<0
 ·simp only[iP hv];omega
 ·simp only[iG hv];omega
theorem FB(lo hi:Option Int)(n:Nat):Builtin.Slice.sliceAdjust lo hi 1 (n:Int)=(((sIx n 0 lo:Nat):Int),((sIx n n hi:Nat):Int)):=by
 have h1:¬ ((1:Int)<0):=by omega
 unfold Builtin.Slice.sliceAdjust;simp only[h1,if_false];refine Prod.ext ?_ ?_
 ·cases lo with
  | none=>rfl
  | some v=>exact GG v n 0
 ·cases hi with
  | none=>rfl
  | some v=>exact GG v n n
theorem FC(i j:Nat):Builtin.Slice.slicePlaces (i:Int) (j:Int) 1=j - i:=by
 unfold Builtin.Slice.slicePlaces;have h1:(1:Int)>0:=by omega
 simp only[h1,if_true,Int.ediv_one];split<;>omega
theorem Bz{v:UT}{o:Option Int}{Q:Option Int->UU->Prop}(p:IsPart v o)(h:Q o s):UX (UZ prog w) A (Builtin.Slice.slicePartIndex v) Q E s:=by
 cases p with
 | none=>exact WU h
 | int i t=>exact slicePart_int h
theorem AQ{sl:UV}{vl vu:UT}{lo hi:Option Int}{n:Nat}{Q:Int×Int×Nat->UU->Prop}(hs:s.heap.IsSliceOf sl vl vu .none)(pl:IsPart vl lo)(pu:IsPart vu hi)
 (h:Q (((sIx n 0 lo:Nat):Int),1,sIx n n hi - sIx n 0 lo) s):UX (UZ prog w) A (Builtin.Slice.sliceApplied (.ref sl) (pure (n:Int))) Q E s:=by
 obtain⟨os,hos,hcs,hds⟩:=id hs;unfold Builtin.Slice.sliceApplied Builtin.Slice.sliceFields;refine US (US (Ul hos hds (x:=vl) rfl (US (Ul hos hds (x:=vu) rfl (US (Ul hos hds (x := .none) rfl (UW ?_)))))));refine US (WU ?_);show UX _ _ (if ((1:Int) == 0)=true then _ else _) _ _ s;rw[iG (by decide)];refine US (Bz pl (US (Bz pu (US (UW ?_)))));show UX _ _ (match Builtin.Slice.sliceAdjust lo hi 1 (n:Int) with | (lo,hi)=>pure (lo,(1:Int),Builtin.Slice.slicePlaces lo hi 1)) _ _ s;rw[FB lo hi n];show UX _ _ (pure (((sIx n 0 lo:Nat):Int),(1:Int),Builtin.Slice.slicePlaces ((sIx n 0 lo:Nat):Int) ((sIx n n hi:Nat):Int) 1)) _ _ s;rw[FC];exact UW h
theorem Iv(xs:Array UT)(i k:Nat):((Qy k).filterMap λ(m:Nat)=>xs[((i:Int)+(m:Int) * 1).toNat]?).toArray=((xs.toList.drop i).take k).toArray:=by
 have e:(λ(m:Nat)=>xs[((i:Int)+(m:Int) * 1).toNat]?)=λm=>xs[i+m]?:=by
  funext m
  have:((i:Int)+(m:Int) * 1).toNat=i+m:=by omega
  rw[this]
 rw[e];have:=pick_run xs i k;rw[Tq]at this;have e2:((λx=>xs[x]?)∘λx=>i+x)=λm=>xs[i+m]?:=rfl;rw[e2]at this;rw[this]
theorem getItem_tuple_cut{t sl:UV}{items:Array UT}{vl vu:UT}{lo hi:Option Int}{Q:UT->UU->Prop}(ht:IsTup s.heap t items)(hs:s.heap.IsSliceOf sl vl vu .none)(pl:IsPart vl lo)(pu:IsPart vu hi)
 (hw:¬ (sIx items.size 0 lo=0/\sIx items.size items.size hi=items.size))
 (h:Q (.ref s.heap.objs.size) {s with heap:=s.heap.push {cls := .type "tuple",data := .seq ((items.toList.drop (sIx items.size 0 lo)).take (sIx items.size items.size hi - sIx items.size 0 lo)).toArray}})
 (hsz:items.size<=UY):UX (UZ prog w) A (getItem (.ref t) (.ref sl)) Q E s:=by
 have htake:sizeOk (.seq ((items.toList.drop (sIx items.size 0 lo)).take (sIx items.size items.size hi - sIx items.size 0 lo)).toArray):=by
  show((items.toList.drop (sIx items.size 0 lo)).take (sIx items.size items.size hi - sIx items.size 0 lo)).toArray.size<=UY;rw[Qt,RL,SH,RW];omega
 have hj:sIx items.size items.size hi<=items.size:=Nj _ _ (Qs _) hi;obtain⟨os,hos,hcs,hds⟩:=id hs;have hTs:s.TypeIs (.ref sl) "slice":=⟨os,hos,hcs⟩
 unfold getItem
 try with_reducible refine Uq ?_
 first | refine US (UW ?_) | skip
 refine US (W7 ht.typeIs (by decide) ?_)
 refine US (Uo (name:=Str.ofString "__getitem__") ht.typeIs PyProof.Rows.slot_tuple_getitem
  (Uw PyProof.Rows.slot_tuple_getitem ht.typeIs Vt ?_ (W0 _ _)))
 show UX _ _ (Builtin.Tuple.tupleItemsOf (.ref t) >>= _) _ _ s;refine US (tupleItemsOf_ ht ?_);refine US (Vd hTs ?_);rw[iP (by decide)];refine US (AQ hs pl pu ?_)
 have hno:¬ ((((sIx items.size 0 lo:Nat):Int) == 0&&(1:Int) == 1&&(sIx items.size items.size hi - sIx items.size 0 lo) == items.size)=true):=by
  intro q;rw[Qp,Qp]at q;have q1:((sIx items.size 0 lo:Nat):Int)=0:=eq_of_beq q.1.1;have q2:sIx items.size items.size hi - sIx items.size 0 lo=items.size:=eq_of_beq q.2;exact hw ⟨by omega,by omega⟩
 show UX _ _ (if (((sIx items.size 0 lo:Nat):Int) == 0&&(1:Int) == 1&&(sIx items.size items.size hi - sIx items.size 0 lo) == items.size)=true then _ else _) _ _ s;rw[iG hno,Iv]
 first
  | exact US (m:=Builtin.Tuple.tupleExact _) (Ut (UW ⟨_,rfl,UW h⟩) htake)
  | exact US (m:=Builtin.Tuple.tupleExact _) (Ut (US (UW (UW ⟨_,rfl,UW h⟩))) htake)
  | exact US (US (m:=Builtin.Tuple.tupleExact _) (Ut (UW (UW ⟨_,rfl,UW h⟩)) htake))
  | exact US (US (m:=Builtin.Tuple.tupleExact _) (Ut (UW ⟨_,rfl,UW h⟩) htake))
end
end HT
namespace L2
open PySem PySem.Spec PyProof.Rows
noncomputable abbrev TO:=St->Hp->(Option Int->Hp->Prop)->Prop
noncomputable def PO(X:Cx)(e:Option Expr)(t:TO):Prop:=
 ∀(pq:List (UV×Obj)) (s:UU) (σ:St) (H:Hp) (Q:Option Int->Hp->Prop),Inv X pq σ H s->t σ H Q->
  UX (UZ X.prog X.w) X.A (evalPart e X.env) (λu s'=>∃ o H',Inv X pq σ H' s'/\IsPart u o/\Q o H') X.xe s
noncomputable def LR:TO:=λ_ H Q=>Q none H
noncomputable def Pa(t:TE):TO:=λσ H Q=>t σ H λx H1=>∃ i,x = .int i/\Q (some i) H1
section
variable{X:Cx}{e:Expr}{te:TE}{lo hi:Option Expr}{tl th:TO}{pos p2:Pos}
theorem LS:PO X none LR:=by
 intro pq s σ H Q I h;rw[evalPart_none];exact UW ⟨none,H,I,.none,h⟩
theorem LU(h:PE X e te):PO X (some e) (Pa te):=by
 intro pq s σ H Q I hw;rw[evalPart_some];refine thn (h pq s σ H _ I hw) λu s1 ⟨x,H1,I1,r1,q1⟩=>?_;obtain⟨i,rfl,q⟩:=q1;obtain⟨t,rfl⟩:=r1;exact⟨some i,H1,I1,.int i t,q⟩
noncomputable def SlR(X:Cx)(r:V->Option Int->Option Int->Hp->VK->Prop):Prop:=
 ∀(pq:List (UV×Obj)) (s:UU) (σ:St) (H:Hp) (x:V) (v vl vu:UT) (lo hi:Option Int) (sl:UV) (Q:VK),Inv X pq σ H s->RelV x v->s.heap.IsSliceOf sl vl vu .none->IsPart vl lo->IsPart vu hi->r x lo hi H Q->
  ∃ T id,typeLookup (.type T) "__getitem__"=pure (some (.builtin id))/\s.TypeIs v T/\UX (UZ X.prog X.w) X.A (getItem v (.ref sl)) (EP X pq σ Q) X.xe s
theorem SlR.or{r r':V->Option Int->Option Int->Hp->VK->Prop}(h:SlR X r)(h':SlR X r'):SlR X (λx lo hi H Q=>r x lo hi H Q\/r' x lo hi H Q):=by
 intro pq s σ H x v vl vu lo hi sl Q I rx hs pl pu q;rcases q with q | q
 ·exact h pq s σ H x v vl vu lo hi sl Q I rx hs pl pu q
 ·exact h' pq s σ H x v vl vu lo hi sl Q I rx hs pl pu q
noncomputable def tSl(r:V->Option Int->Option Int->Hp->VK->Prop)(te:TE)(tl th:TO):TE:=λσ H Q=>te σ H λx H1=>tl σ H1 λl H2=>th σ H2 λu H3=>r x l u H3 Q
theorem Iw{r:V->Option Int->Option Int->Hp->VK->Prop}(hr:SlR X r)(he:PE X e te)(hl:PO X lo tl)(hu:PO X hi th):PE X (.Subscript e (.Slice lo hi none p2) pos) (tSl r te tl th):=by
 intro pq s σ H Q I h;refine Subscript_ (thn (he pq s σ H _ I h) λv s1 ⟨x,H1,I1,r1,q1⟩=>?_);refine wpAny_Slice (thn (hl pq s1 σ H1 _ I1 q1) λvl s2 ⟨l,H2,I2,pl,q2⟩=>thn (hu pq s2 σ H2 _ I2 q2) λvu s3 ⟨u,H3,I3,pu,q3⟩=>?_);rw[evalPart_none];refine UW ?_;have I4:Inv X pq σ H3 {s3 with heap:=s3.heap.push {cls := .type "slice",data := .fields #[vl,vu,.none]}}:=I3.kept (t':=s3.toks) λb ob q=>Qq _ q;obtain⟨T,id,hT,ht,hg⟩:=hr pq {s3 with heap:=s3.heap.push {cls := .type "slice",data := .fields #[vl,vu,.none]}} σ H3 x v vl vu l u s3.heap.objs.size Q I4 r1 (Heap.IsSliceOf.new ..) pl pu q3;show UX (UZ X.prog X.w) X.A (subscriptTail e (.Slice lo hi none p2) v (.ref s3.heap.objs.size)) (EP X pq σ Q) X.xe {s3 with heap:=s3.heap.push {cls := .type "slice",data := .fields #[vl,vu,.none]}};exact tail_any (ops:=[.ref s3.heap.objs.size,v]) ht hT hg (by with_unfolding_all rfl)
noncomputable def Dt(xs:List V)(lo hi:Option Int):List V:=(xs.drop (HT.sIx xs.length 0 lo)).take (HT.sIx xs.length xs.length hi - HT.sIx xs.length 0 lo)
theorem Bh(xs:List V)(lo hi:Option Int):(Dt xs lo hi).length<=xs.length:=by
 unfold Dt;rw[RL,SH];omega
noncomputable def Pb(K:Qo):V->Option Int->Option Int->Hp->VK->Prop:=λx lo hi H Q=>∃ a xs,x = .ref a/\SqT K H a xs/\
 ¬ (HT.sIx xs.length 0 lo=0/\HT.sIx xs.length xs.length hi=xs.length)/\∀ p,H p=none->Q (.ref p) (upd H p (.tup (Dt xs lo hi)))
theorem sl_tup:SlR X (Pb X.K):=by
 intro pq s σ H x v vl vu lo hi sl Q I rx hs pl pu h;obtain⟨a,xs,rfl,hx,hw,q⟩:=h;cases rx;obtain⟨its,r,ht,hz⟩:=I.tuple hx;have hlen:its.toArray.size=xs.length:=by rw[Qt];exact r.length.symm
 refine⟨"tuple",_,PyProof.Rows.slot_tuple_getitem.lookup,ht.typeIs,?_⟩;refine HT.getItem_tuple_cut ht hs pl pu (by rw[hlen];exact hw) ?_ (by rw[hlen];exact hz);rw[hlen];refine⟨.ref s.heap.objs.size,_,I.laid (t':=s.toks) (o := .tup (Dt xs lo hi)) (λb ob q=>Qq _ q) (Qs _) ?_,rfl,q _ (I.hok.fresh (Qs _))⟩;exact⟨RE (Bh xs lo hi) hz,_,(r.drop (HT.sIx xs.length 0 lo)).take (HT.sIx xs.length xs.length hi - HT.sIx xs.length 0 lo),IsTup.new _ _⟩
noncomputable def Ix(K:Qo):R2:=λx y H Q=>∃ a b xs ys,x = .ref a/\y = .ref b/\SqT K H a xs/\SqT K H b ys/\xs≠[]/\xs.length+ys.length<=UY/\
 (ys=[]->Q (.ref a) H)/\(ys≠[]->∀ p,H p=none->Q (.ref p) (upd H p (.tup (xs++ys))))
theorem Vals.nil_iff{xs:List V}{us:List UT}(r:Vals xs us):us=[]↔xs=[]:=by
 cases r with
 | nil=>simp
 | cons _ _=>simp
theorem op_catT:OpR X (Uv .Add) (Ix X.K):=by
 intro pq s σ H x y v u Q I rx ry h;obtain⟨a,b,xs,ys,rfl,rfl,ha,hb,hx,hz,q1,q2⟩:=h;cases rx;cases ry;obtain⟨its,r1,p1,_⟩:=I.tuple ha;obtain⟨its2,r2,p2,_⟩:=I.tuple hb;refine HT.cat_tup p1 p2 (λz=>hx (r1.nil_iff.mp z)) (λz=>⟨.ref a,H,I,rfl,q1 (r2.nil_iff.mp z)⟩) (λz=>?_) (by rw[<-r1.length,<-r2.length];exact hz);refine⟨.ref s.heap.objs.size,_,I.laid (t':=s.toks) (o := .tup (xs++ys)) (λb ob q=>Qq _ q) (Qs _) ?_,rfl,q2 (λw=>z (r2.nil_iff.mpr w)) _ (I.hok.fresh (Qs _))⟩;exact⟨by rw[Qv];exact hz,_,r1.append r2,IsTup.new _ _⟩
end
noncomputable def ixN(n:Nat)(i:Int):Option Nat:=if 0<=i then (if i<n then some i.toNat else none) else if -(n:Int)<=i then some (i+n).toNat else none
noncomputable def atI{α:Type}(xs:List α)(i:Int):Option α:=(ixN xs.length i).bind λj=>xs[j]?
theorem GH{n:Nat}{i:Int}{j:Nat}(h:ixN n i=some j):seqIndex? i n=some j/\j<n /\ -(n:Int)<=i/\i<n:=by
 unfold ixN at h;by_cases h0:0<=i
 ·rw[iP h0]at h;by_cases h1:i<n
  ·rw[iP h1]at h;have e:i.toNat=j:=oj h;exact⟨by rw[WJ h0 h1,e],by omega,by omega,h1⟩
  ·rw[iG h1]at h;cases h
 ·rw[iG h0]at h;by_cases h1:-(n:Int)<=i
  ·rw[iP h1]at h;have e:(i+n).toNat=j:=oj h;exact⟨by rw[W8 (by omega) h1,e],by omega,h1,by omega⟩
  ·rw[iG h1]at h;cases h
theorem GI{α:Type}{xs:List α}{i:Int}{v:α}(h:atI xs i=some v):∃ j,seqIndex? i xs.length=some j/\xs[j]?=some v/\j<xs.length /\ -(xs.length:Int)<=i/\i<xs.length:=by
 unfold atI at h;cases e:ixN xs.length i with
 | none=>rw[e]at h;cases h
 | some j=>
   rw[e]at h;obtain⟨h1,h2,h3,h4⟩:=GH e;exact⟨j,h1,h,h2,h3,h4⟩
theorem l5{α:Type}{xs:List α}{j:Nat}{v:α}(h:xs[j]?=some v):atI xs (j:Int)=some v:=by
 have hj:j<xs.length:=(gM h).1
 have e:ixN xs.length (j:Int)=some j:=by
  unfold ixN;rw[iP (by omega),iP (by omega)];simp
 unfold atI;rw[e];exact h
noncomputable def GJ(b:Expr):Prop:=∀ o i,subscripted b false o i=operate [o,i] (getItem o i)
noncomputable def IxR(X:Cx)(r:R2):Prop:=
 ∀(value slice:Expr) (pq:List (UV×Obj)) (s:UU) (σ:St) (H:Hp) (x y:V) (v u:UT) (Q:VK),Inv X pq σ H s->RelV x v->RelV y u->r x y H Q->
  subscripted slice false v u=operate [v,u] (getItem v u)->UX (UZ X.prog X.w) X.A (subscriptTail value slice v u) (EP X pq σ Q) X.xe s
noncomputable def MtR(X:Cx)(id:String)(r:V->List V->Hp->VK->Prop):Prop:=
 ∀(pq:List (UV×Obj)) (s:UU) (σ:St) (H:Hp) (x:V) (xs:List V) (v:UT) (us:List UT) (Q:VK),Inv X pq σ H s->RelV x v->Vals xs us->r x xs H Q->
  UX (UZ X.prog X.w) X.A (call (.builtin id) (v::us)) (EP X pq σ Q) X.xe s
section
variable{X:Cx}{a b:Expr}{ta tb:TE}{pos:Pos}
theorem IxR.or{r r':R2}(h:IxR X r)(h':IxR X r'):IxR X (λx y H Q=>r x y H Q\/r' x y H Q):=by
 intro value slice pq s σ H x y v u Q I rx ry q hs;rcases q with q | q
 ·exact h value slice pq s σ H x y v u Q I rx ry q hs
 ·exact h' value slice pq s σ H x y v u Q I rx ry q hs
theorem Pc{r:R2}(hr:IxR X r)(ha:PE X a ta)(hb:PE X b tb)(hs:GJ b):PE X (.Subscript a b pos) (tOp r ta tb):=by
 intro pq s σ H Q I h;exact Subscript_ (NY ha hb I h λv u s2 x y H2 I2 rx ry q=>hr a b pq s2 σ H2 x y v u Q I2 rx ry q (hs _ _))
noncomputable def Pd(K:Qo):R2:=λx y H Q=>∃ p xs i v,x = .ref p/\y = .int i/\SqL K H p xs/\atI xs i=some v/\Q v H
noncomputable def Pe(K:Qo):R2:=λx y H Q=>∃ p xs i v,x = .ref p/\y = .int i/\SqT K H p xs/\atI xs i=some v/\Q v H
theorem ix_list:IxR X (Pd X.K):=by
 intro value slice pq s σ H x y v u Q I rx ry h hs;obtain⟨p,xs,i,z,rfl,rfl,hq,he,q⟩:=h;cases rx;obtain⟨t,rfl⟩:=ry;obtain⟨its,r,pl,hz⟩:=I.list hq;obtain⟨j,h1,h2,h3,h4,h5⟩:=GI he;obtain⟨w,ew,rw'⟩:=r.get h2;have hl:=r.length;have hn:=B5;have fin:EP X pq σ Q w s:=⟨z,H,I,rw',q⟩
 by_cases h0:0<=i
 ·have hj:i.toNat=j:=by
   rw[WJ h0 h5]at h1;exact oj h1
  exact item_listR pl.isList h0 (by omega) (by rw[hj];simpa using ew) fin hs
 ·have hj:(i+(its.toArray.size:Int)).toNat=j:=by
   rw[W8 (by omega) h4]at h1;rw[Qt,<-hl];exact oj h1
  exact Ve (x:=w) pl.isList.typeIs slot_list_getitem.lookup
   (wpAny_getItem_list_neg (Q:=λr s'=>r=w/\EP X pq σ Q r s') pl.isList (by omega) (by rw[Qt]<;>omega) (by omega) (by rw[hj];simpa using ew) ⟨rfl,fin⟩) hs
theorem Nk:IxR X (Pe X.K):=by
 intro value slice pq s σ H x y v u Q I rx ry h hs;obtain⟨p,xs,i,z,rfl,rfl,hq,he,q⟩:=h;cases rx;obtain⟨t,rfl⟩:=ry;obtain⟨its,r,pl,hz⟩:=I.tuple hq;obtain⟨j,h1,h2,h3,h4,h5⟩:=GI he;obtain⟨w,ew,rw'⟩:=r.get h2;have hl:=r.length;have hn:=B5;have fin:EP X pq σ Q w s:=⟨z,H,I,rw',q⟩
 exact Ve (x:=w) pl.typeIs slot_tuple_getitem.lookup
  (getItem_tuple (j:=j) (Q:=λr s'=>r=w/\EP X pq σ Q r s') pl (by omega) (by omega) (by rw[Qt,<-hl];exact h1) (by simpa using ew) ⟨rfl,fin⟩) hs
theorem FD(its:List UT)(n j:Nat)(u:UT):Obj.mapSeq (·.setIfInBounds j u) {cls := .type "list",data := .seq its.toArray n}={cls := .type "list",data := .seq (its.set j u).toArray n}:=by
 simp[Obj.mapSeq]
theorem Inv.lst{pq:List (UV×Obj)}{σ:St}{H:Hp}{s:UU}{p:UV}{xs:List V}(I:Inv X pq σ H s)(h:H p=some (.lst xs)):
 ∃(its:List UT) (n:Nat),Vals xs its/\s.heap.get? p=some {cls := .type "list",data := .seq its.toArray n}/\xs.length<=UY:=by
 obtain⟨z,its,n,r,e⟩:=I.hok p _ h;exact⟨its,n,r,e,z⟩
theorem Inv.lstUpd{pq:List (UV×Obj)}{σ:St}{H:Hp}{s:UU}{p:UV}{xs ys:List V}{its its':List UT}{n n':Nat}{f:Obj->Obj}(I:Inv X pq σ H s)(h:H p=some (.lst xs))
 (ho:s.heap.get? p=some {cls := .type "list",data := .seq its.toArray n}) (hf:f {cls := .type "list",data := .seq its.toArray n}={cls := .type "list",data := .seq its'.toArray n'}) (r:Vals ys its') (hz:ys.length<=UY) (t:Nat):
 Inv X pq σ (upd H p (.lst ys)) {s with heap:=s.heap.update p f,toks:=t}:=by
 have e:(s.heap.update p f).get? p=some {cls := .type "list",data := .seq its'.toArray n'}:=by
  rw[Si f ho (by rw[hf]<;>rfl),hf]
 refine I.write (x:=p) (e:=p) (by rw[h];trivial) (.inl rfl) (λb u hb q=>(Se _ _ (Ne.symm hb)).trans q) ⟨_,e⟩ ?_;exact⟨hz,its',n',r,e⟩
noncomputable def Iy:V->V->V->Hp->(Hp->Prop)->Prop:=λo i v H Q=>∃ p xs k j,o = .ref p/\i = .int k/\H p=some (.lst xs)/\ixN xs.length k=some j/\Q (upd H p (.lst (xs.set j v)))
theorem Iz:P9 X Iy:=by
 intro pq s σ H o i v ov iv u Q I ro ri rv h;obtain⟨p,xs,k,j,rfl,rfl,hp,hj,q⟩:=h;cases ro;obtain⟨t,rfl⟩:=ri;obtain⟨its,n,r,ho,hz⟩:=I.lst hp;obtain⟨h1,h2,h3,h4⟩:=GH hj;have hl:=r.length;have hn:=B5
 have I':Inv X pq σ (upd H p (.lst (xs.set j v))) {s with heap:=s.heap.update p (Obj.mapSeq (·.setIfInBounds j u))}:=
  I.lstUpd hp ho (FD its n j u) (r.set rv j) (by rw[Rm];exact hz) s.toks
 by_cases h0:0<=k
 ·have hk:k.toNat=j:=by
   rw[WJ h0 h4]at h1;exact oj h1
  exact PySem.W.ki_setAt ho h0 (by omega) (by rw[Qt,<-hl];exact h4) (by rw[hk];exact⟨_,I',q⟩)
 ·have hk:(k+(its.toArray.size:Int)).toNat=j:=by
   rw[W8 (by omega) h3]at h1;rw[Qt,<-hl];exact oj h1
  exact PySem.W.ki_setBack ho (by omega) (by rw[Qt,<-hl];exact h3) (by omega) (by rw[hk];exact⟨_,I',q⟩)
theorem D7(lo hi:Option Int)(n:Nat):(VG lo hi none n).1=((HT.sIx n 0 lo:Nat):Int)/\(VG lo hi none n).2.1=((HT.sIx n n hi:Nat):Int)/\(VG lo hi none n).2.2=1:=by
 refine⟨?_,?_,rfl⟩
 ·cases lo with
  | none=>simp[VG,HT.sIx]
  | some i=>
    simp only[VG,HT.sIx,TB,show(1:Int)>0 by decide,if_true];by_cases h:i<0
    ·simp only[h,if_true]<;>omega
    ·simp only[h,if_false]<;>omega
 ·cases hi with
  | none=>simp[VG,HT.sIx]
  | some i=>
    simp only[VG,HT.sIx,TB,show(1:Int)>0 by decide,if_true];by_cases h:i<0
    ·simp only[h,if_true]<;>omega
    ·simp only[h,if_false]<;>omega
theorem CT(its:List UT)(lo hi:Option Int):slicePick its.toArray lo hi none=((its.drop (HT.sIx its.length 0 lo)).take (HT.sIx its.length its.length hi - HT.sIx its.length 0 lo)).toArray:=by
 obtain⟨h1,h2,h3⟩:=D7 lo hi its.toArray.size;unfold slicePick;rw[h1,h2,h3];simp only[sliceRange_one,pick_run,Qt]<;>rfl
noncomputable def Pf(K:Qo):V->Option Int->Option Int->Hp->VK->Prop:=λx lo hi H Q=>∃ a xs,x = .ref a/\SqL K H a xs/\∀ p,H p=none->Q (.ref p) (upd H p (.lst (Dt xs lo hi)))
theorem sl_list:SlR X (Pf X.K):=by
 intro pq s σ H x v vl vu lo hi sl Q I rx hs pl pu h;obtain⟨a,xs,rfl,hx,q⟩:=h;cases rx;obtain⟨its,r,ht,hz⟩:=I.list hx;have hlen:=r.length;refine⟨"list",_,slot_list_getitem.lookup,ht.isList.typeIs,?_⟩;refine wpAny_getItem_list_slice ht.isList hs pl pu .none (by simp) ?_ (by rw[Qt]<;>omega);rw[CT,<-hlen];refine⟨.ref s.heap.objs.size,_,I.laid (t':=s.toks) (o := .lst (Dt xs lo hi)) (λb ob q=>Qq _ q) (Qs _) ?_,rfl,q _ (I.hok.fresh (Qs _))⟩;exact⟨RE (Bh xs lo hi) hz,_,0,(r.drop (HT.sIx xs.length 0 lo)).take (HT.sIx xs.length xs.length hi - HT.sIx xs.length 0 lo),Qx _ rfl⟩
noncomputable def q0:V->Bool
 | .non=>true
 | .bl _=>true
 | .int _=>true
 | .str _=>true
 | _=>false
noncomputable def eqV:V->V->Bool
 | .non,.non=>true
 | .bl a,.bl b=>a == b
 | .bl a,.int b=>(if a then 1 else 0) == b
 | .int a,.bl b=>a == (if b then 1 else 0)
 | .int a,.int b=>a == b
 | .str a,.str b=>a == b
 | _,_=>false
theorem J0{A:Uj}{s:UU}{y x:V}{u v:UT}(ry:RelV y u)(rx:RelV x v)(fy:q0 y=true)(fx:q0 x=true):SeqAt.EqAt A s u v (eqV y x):=by
 cases y with
 | non=>
   cases ry;cases x with
   | non=>cases rx;exact SeqAt.EqAt.same _
   | bl b=>cases rx;exact SeqAt.EqAt.none_bool b
   | int b=>obtain⟨t,rfl⟩:=rx;exact SeqAt.EqAt.none_int b t
   | str b=>obtain⟨t,rfl⟩:=rx;exact SeqAt.EqAt.none_str b t
   | _=>exact absurd (show false=true from fx) Qz
 | bl a=>
   cases ry;cases x with
   | non=>cases rx;exact SeqAt.EqAt.bool_none a
   | bl b=>cases rx;exact SeqAt.EqAt.bool_bool a b
   | int b=>obtain⟨t,rfl⟩:=rx;exact SeqAt.EqAt.bool_int a b t
   | str b=>obtain⟨t,rfl⟩:=rx;exact SeqAt.EqAt.bool_str a b t
   | _=>exact absurd (show false=true from fx) Qz
 | int a=>
   obtain⟨t',rfl⟩:=ry;cases x with
   | non=>cases rx;exact SeqAt.EqAt.int_none a t'
   | bl b=>cases rx;exact SeqAt.EqAt.int_bool a t' b
   | int b=>obtain⟨t,rfl⟩:=rx;exact SeqAt.EqAt.int_int a t' b t
   | str b=>obtain⟨t,rfl⟩:=rx;exact SeqAt.EqAt.int_str a t' b t
   | _=>exact absurd (show false=true from fx) Qz
 | str a=>
   obtain⟨t',rfl⟩:=ry;cases x with
   | non=>cases rx;exact SeqAt.EqAt.str_none a t'
   | bl b=>cases rx;exact SeqAt.EqAt.str_bool a t' b
   | int b=>obtain⟨t,rfl⟩:=rx;exact SeqAt.EqAt.str_int a t' b t
   | str b=>obtain⟨t,rfl⟩:=rx;exact SeqAt.EqAt.str_str a t' b t
   | _=>exact absurd (show false=true from fx) Qz
 | _=>exact absurd (show false=true from fy) Qz
noncomputable def eqU(x:V)(u:UT):Bool:=match u with
 | .none=>eqV .non x
 | .bool b=>eqV (.bl b) x
 | .int i _=>eqV (.int i) x
 | .str z _=>eqV (.str z) x
 | _=>false
theorem FE{x y:V}{u:UT}(r:RelV y u)(f:q0 y=true):eqU x u=eqV y x:=by
 cases y with
 | non=>cases r;rfl
 | bl b=>cases r;rfl
 | int i=>obtain⟨t,rfl⟩:=r;rfl
 | str z=>obtain⟨t,rfl⟩:=r;rfl
 | _=>exact absurd (show false=true from f) Qz
theorem BC{x:V}:∀{xs:List V} {us:List UT},Vals xs us->xs.all q0=true->us.any (eqU x)=xs.any λy=>eqV y x
 | _,_,.nil,_=>rfl
 | y::xs,u::us,.cons r t,f=>by
   rw[Re,Qp]at f;rw[Ry,Ry,FE r f.1,BC t f.2]
theorem AR{A:Uj}{s:UU}{x:V}{v:UT}(rx:RelV x v)(fx:q0 x=true):∀{xs:List V} {us:List UT},Vals xs us->xs.all q0=true->∀ u∈us,SeqAt.EqAt A s u v (eqU x u)
 | _,_,.nil,_=>λu hu=>by cases hu
 | y::xs,u::us,.cons r t,f=>λu' hu=>by
   rw[Re,Qp]at f;rcases R0.mp hu with rfl | hu
   ·rw[FE r f.1];exact J0 r rx f.1 fx
   ·exact AR rx fx t f.2 u' hu
noncomputable def inV(x:V)(xs:List V):Bool:=xs.any λy=>eqV y x
noncomputable def rIn(K:Qo)(neg:Bool):R2:=λx y H Q=>∃ p xs,y = .ref p/\(SqL K H p xs\/SqT K H p xs)/\q0 x=true/\xs.all q0=true/\Q (.bl (if neg then !inV x xs else inV x xs)) H
theorem Hd:OpR X (Ui .In) (rIn X.K false):=by
 intro pq s σ H x y v u Q I rx ry h;obtain⟨p,xs,rfl,hq,fx,fs,q⟩:=h;cases ry;rcases hq with hq | hq
 ·obtain⟨its,r,pl,hz⟩:=I.list hq;refine SeqAt.in_listAt (eqU x) pl.isList (λw hw=>AR rx fx r fs w (by simpa using hw)) ⟨.bl _,H,I,rfl,?_⟩;rw[show its.toArray.any (eqU x)=its.any (eqU x) by simp,BC r fs];exact q
 ·obtain⟨its,r,pl,hz⟩:=I.tuple hq;refine SeqAt.in_tupleAt (eqU x) pl (λw hw=>AR rx fx r fs w (by simpa using hw)) ⟨.bl _,H,I,rfl,?_⟩;rw[show its.toArray.any (eqU x)=its.any (eqU x) by simp,BC r fs];exact q
theorem D8:OpR X (Ui .NotIn) (rIn X.K true):=by
 intro pq s σ H x y v u Q I rx ry h;obtain⟨p,xs,rfl,hq,fx,fs,q⟩:=h;cases ry;rcases hq with hq | hq
 ·obtain⟨its,r,pl,hz⟩:=I.list hq;refine SeqAt.notIn_listAt (eqU x) pl.isList (λw hw=>AR rx fx r fs w (by simpa using hw)) ⟨.bl _,H,I,rfl,?_⟩;rw[show its.toArray.any (eqU x)=its.any (eqU x) by simp,BC r fs];exact q
 ·obtain⟨its,r,pl,hz⟩:=I.tuple hq;refine SeqAt.notIn_tupleAt (eqU x) pl (λw hw=>AR rx fx r fs w (by simpa using hw)) ⟨.bl _,H,I,rfl,?_⟩;rw[show its.toArray.any (eqU x)=its.any (eqU x) by simp,BC r fs];exact q
theorem D9:CallR X (.builtin "len") (λxs H Q=>∃ p ys,xs=[.ref p]/\(SqL X.K H p ys\/SqT X.K H p ys)/\Q (.int ys.length) H):=by
 intro pq s σ H xs us Q I r h;obtain⟨p,ys,rfl,hq,q⟩:=h;obtain⟨u,rfl,rx⟩:=Af r;cases rx;have hn:=B5;rcases hq with hq | hq
 ·obtain⟨its,r',pl,hz⟩:=I.list hq;have hlen:=r'.length;exact Calls.call_len_list pl.isList (by simp only[Qt]<;>omega) ⟨.int ys.length,H,I.tok _,⟨s.toks+1,by rw[Qt,hlen]⟩,q⟩
 ·obtain⟨its,r',pl,hz⟩:=I.tuple hq;have hlen:=r'.length;exact len_tuple pl (by simp only[Qt]<;>omega) ⟨.int ys.length,H,I.tok _,⟨s.toks+1,by rw[Qt,hlen]⟩,q⟩
theorem CallR.or{f:UT}{r r':List V->Hp->VK->Prop}(h:CallR X f r)(h':CallR X f r'):CallR X f (λxs H Q=>r xs H Q\/r' xs H Q):=by
 intro pq s σ H xs us Q I rs q;rcases q with q | q
 ·exact h pq s σ H xs us Q I rs q
 ·exact h' pq s σ H xs us Q I rs q
theorem CU:CallR X (.type "tuple") (λxs H Q=>∃ p ys,xs=[.ref p]/\((SqL X.K H p ys/\∀ l,H l=none->Q (.ref l) (upd H l (.tup ys)))\/(SqT X.K H p ys/\Q (.ref p) H))):=by
 intro pq s σ H xs us Q I r h;obtain⟨p,ys,rfl,h⟩:=h;obtain⟨u,rfl,rx⟩:=Af r;cases rx;rcases h with⟨hq,q⟩ | ⟨hq,q⟩
 ·obtain⟨its,r',pl,hz⟩:=I.list hq;have hlen:=r'.length;refine call_tuple_list pl.isList (λh' kp=>?_) (by simp only[Qt]<;>omega);have I1:Inv X pq σ H {s with heap:=h'}:=I.kept (t':=s.toks) kp
  have I2:Inv X pq σ (upd H h'.objs.size (.tup ys)) {s with heap:=h'.push {cls := .type "tuple",data := .seq its.toArray}}:=
   I1.laid (t':=s.toks) (λb o e=>Qq _ e) (Qs _) (show ObjOk X.prog X.w _ _ _ (.tup ys) from ⟨hz,its,r',IsTup.new _ _⟩)
  exact⟨.ref h'.objs.size,_,I2,rfl,q _ (I1.hok.fresh (Qs _))⟩
 ·obtain⟨its,r',pl,hz⟩:=I.tuple hq;exact call_tuple_same pl ⟨.ref p,H,I,rfl,q⟩
noncomputable def tyV(K:Qo)(T:String)(x:V)(H:Hp):Prop:=match x with
 | .str _=>T="str"
 | .int _=>T="int"
 | .ref p=>(T="list"/\∃ xs,SqL K H p xs)\/(T="tuple"/\∃ o,K.lookup p=some o/\o.cls = .type "tuple"/\o.dict=none)\/
    (T="dict"/\((∃ kvs,H p=some (.dK kvs))\/∃ kvs,H p=some (.dT kvs)))\/(T="set"/\∃ S n,H p=some (.set S n))
 | _=>False
theorem J1{pq:List (UV×Obj)}{σ:St}{H:Hp}{s:UU}{T:String}{x:V}{v:UT}(I:Inv X pq σ H s)(r:RelV x v)(ty:tyV X.K T x H):
 s.TypeIs v T/\∀ a,v = .ref a->∃ ob,s.heap.get? a=some ob/\ob.dict=none:=by
 cases x with
 | str z=>
   obtain⟨t,rfl⟩:=r;cases(show T="str" from ty);exact⟨typeIs_str s z t,λ_ e=>nomatch e⟩
 | int i=>
   obtain⟨t,rfl⟩:=r;cases(show T="int" from ty);exact⟨WV s i t,λ_ e=>nomatch e⟩
 | ref p=>
   cases r;rcases ty with⟨rfl,xs,hq⟩ | ⟨rfl,o,hk,hc,hd⟩ | ⟨rfl,hk⟩ | ⟨rfl,S,n,hk⟩
   ·obtain⟨its,_,pl,_⟩:=I.list hq;refine⟨pl.isList.typeIs,λa e=>?_⟩;cases e;obtain⟨o,n,e,c,hd,_⟩:=pl;exact⟨o,e,hd⟩
   ·refine⟨⟨o,I.kIn p o hk,hc⟩,λa e=>?_⟩;cases e;exact⟨o,I.kIn _ o hk,hd⟩
   ·have z:∃ o,s.heap.get? p=some o/\o.ExactDict:=by
     rcases hk with⟨kvs,hk⟩ | ⟨kvs,hk⟩
     ·obtain⟨_,_,_,_,o,_,_,e,ex,_⟩:=I.hok p _ hk;exact⟨o,e,ex⟩
     ·obtain⟨_,_,_,_,o,_,_,e,ex,_⟩:=I.hok p _ hk;exact⟨o,e,ex⟩
    obtain⟨o,e,ex⟩:=z;refine⟨⟨o,e,ex.1⟩,λa e2=>?_⟩;cases e2;exact⟨o,e,ex.2.1⟩
   ·obtain⟨o,_,_,_,e,ex,_⟩:=I.hok p _ hk;refine⟨⟨o,e,ex.1⟩,λa e2=>?_⟩;cases e2;exact⟨o,e,ex.2.1⟩
 | _=>exact False.elim ty
noncomputable def Nl(K:Qo)(T:String)(r:V->List V->Hp->VK->Prop)(to:TE):TE:=λσ H Q=>to σ H λx H1=>tyV K T x H1/\r x [] H1 Q
noncomputable def tBM(K:Qo)(T:String)(r:V->List V->Hp->VK->Prop)(to:TE)(t:TA):TE:=λσ H Q=>to σ H λx H1=>tyV K T x H1/\t σ H1 λxs H2=>r x xs H2 Q
variable{o e:Expr}{es:List Expr}{to:TE}{t:TA}{name:Str}{apos cpos:Pos}{T id:String}{r:V->List V->Hp->VK->Prop}
theorem DA(pa:PlainAttrs T)(slot:Slot T name id)(hty:typeOf (.builtin id)=pure (.type "method_descriptor"))(hm:MtR X id r)(ho:PE X o to)
 (hbase:VD o name X.env (eval o X.env)=eval o X.env:=by rfl) (hline:(apos.endLine == cpos.line)=true:=by rfl):PE X (.Call (.Attribute o name apos) [] [] cpos) (Nl X.K T r to):=by
 intro pq s σ H Q I h;refine VI hbase hline (thn (ho pq s σ H _ I h) λv s1 ⟨x,H1,I1,r1,ty,q1⟩=>?_);obtain⟨h1,h2⟩:=J1 I1 r1 ty;exact⟨T,id,pa,slot,hty,h1,h2,Calls.callWith_builtin rfl (PySem.evalArgs_none (hm pq s1 σ H1 x [] v [] Q I1 r1 .nil q1))⟩
theorem GK(pa:PlainAttrs T)(slot:Slot T name id)(hty:typeOf (.builtin id)=pure (.type "method_descriptor"))(hm:MtR X id r)(ho:PE X o to)(ha:PA X (e::es) t)
 (hbase:VD o name X.env (eval o X.env)=eval o X.env:=by rfl)
 (hfew:((backTo cpos (Ue (e::es) X.env)).all (λx=>!x.1)&&(backToKw cpos (keywordEach [] X.env)).all (λx=>x.1.isSome)
   && decide ((e::es).length+([]:List Keyword).length+(if ([]:List Keyword).isEmpty then 0 else 1)<30))=true:=by rfl)
 (hline:(apos.endLine == cpos.line)=true:=by rfl) (hs:Ue (e::es) X.env=(false,eval e X.env)::Ue es X.env:=by rfl) (hplain:(backTo cpos (Ue es X.env)).any (·.1)=false:=by rfl):
 PE X (.Call (.Attribute o name apos) (e::es) [] cpos) (tBM X.K T r to t):=by
 intro pq s σ H Q I h;refine wpAny_Call_method_late hbase hfew hline rfl (thn (ho pq s σ H _ I h) λv s1 ⟨x,H1,I1,r1,ty,q1⟩=>?_);obtain⟨h1,h2⟩:=J1 I1 r1 ty;refine⟨T,id,pa,slot,hty,h1,h2,?_⟩;have hA:=ha cpos pq s1 σ H1 _ I1 q1;rw[hs]at hA ⊢;refine Calls.callWith_builtin (by show(false||(backTo cpos (Ue es X.env)).any (·.1))=false;rw[hplain]<;>rfl) (Calls.evalArgs_plain ?_);exact thn hA λus s2 ⟨vs,H2,I2,r2,q2⟩=>hm pq s2 σ H2 x vs v us Q I2 r1 r2 q2
end
noncomputable def MtM(X:Cx)(id:String)(r:V->List V->Hp->VK->Prop):Prop:=
 ∀(pq:List (UV×Obj)) (s:UU) (σ:St) (H:Hp) (x:V) (xs:List V) (v:UT) (us:List UT) (Q:VK),Inv X pq σ H s->RelV x v->Vals xs us->r x xs H Q->
  UX (UZ X.prog X.w) X.A (call (.builtin id) (v::us)) (EP X pq σ Q) X.xe s
theorem Vals.one{x:V}{us:List UT}(h:Vals [x] us):∃ u,us=[u]/\RelV x u:=by
 cases h with
 | cons r q=>cases q;exact⟨_,rfl,r⟩
theorem Vals.two{x y:V}{us:List UT}(h:Vals [x,y] us):∃ u v,us=[u,v]/\RelV x u/\RelV y v:=by
 cases h with
 | cons r q=>
   obtain⟨v,rfl,s⟩:=Vals.one q;exact⟨_,v,rfl,r,s⟩
theorem Vals.zero:∀{us:List UT},Vals [] us->us=[]
 | _,.nil=>rfl
theorem Vals.eraseIdx:∀{xs:List V} {us:List UT} (i:Nat),Vals xs us->Vals (xs.eraseIdx i) (us.eraseIdx i)
 | _,_,_,.nil => .nil
 | _,_,0,.cons _ t=>t
 | _,_,i+1,.cons r t => .cons r (Vals.eraseIdx i t)
theorem Vals.rep{xs:List V}{us:List UT}(h:Vals xs us):∀ k:Nat,Vals (RA k xs).flatten (RA k us).flatten
 | 0 => .nil
 | k+1=>by
   rw[RX,RX,Rt,Rt];exact Vals.append h (Vals.rep h k)
theorem Cl(its:List UT):∀(k:Nat) (acc:List UT),
 U8 (λx1 x2=>x1++x2) acc.toArray (RA k its.toArray)=(acc++(RA k its).flatten).toArray
 | 0,acc=>by simp
 | k+1,acc=>by
   have e:acc.toArray++its.toArray=(acc++its).toArray:=by simp
   have e2:(acc++its)++(RA k its).flatten=acc++(RA (k+1) its).flatten:=by
    rw[RX,Rt,List.append_assoc]
   rw[<-e2,<-Cl its k (acc++its),<-e,RX,List.foldl_cons]
section
variable{X:Cx}{pq:List (UV×Obj)}{σ:St}{H:Hp}{s:UU}{l b:UV}{xs ys zs:List V}
theorem Inv.lset{its its':List UT}{n:Nat}{f:Array UT->Array UT}{t':Nat}(I:Inv X pq σ H s)(hH:H l=some (.lst xs))
 (e:s.heap.get? l=some {cls := .type "list",data := .seq its.toArray n}) (hf:f its.toArray=its'.toArray) (hv:Vals ys its') (hz:ys.length<=UY):
 Inv X pq σ (upd H l (.lst ys)) {s with heap:=s.heap.update l (Obj.mapSeq f),toks:=t'}:=by
 have q:=PySem.IsL.update e f;rw[hf]at q;refine I.write (x:=l) (e:=l) (by rw[hH];exact trivial) (.inl rfl) (λb' u hb hu=>(Se s.heap (Obj.mapSeq f) (Ne.symm hb)).trans hu) ⟨_,q⟩ ?_;exact⟨hz,its',_,hv,q⟩
theorem Inv.lnew{its:List UT}{t':Nat}(I:Inv X pq σ H s)(hv:Vals ys its)(hz:ys.length<=UY):
 Inv X pq σ (upd H s.heap.objs.size (.lst ys)) {s with heap:=s.heap.push {cls := .type "list",data := .seq its.toArray},toks:=t'}:=
 I.laid (λ_ _ q=>Qq _ q) (Qs _) ⟨hz,its,0,hv,Qx _ rfl⟩
theorem Inv.fresh(I:Inv X pq σ H s):H s.heap.objs.size=none:=I.hok.fresh (Qs _)
theorem Inv.lstM(I:Inv X pq σ H s)(hH:H l=some (.lst xs)):xs.length<=UY/\∃(its:List UT) (n:Nat),Vals xs its/\xs.length=its.length/\s.heap.get? l=some {cls := .type "list",data := .seq its.toArray n}:=by
 obtain⟨z,its,n,r,e⟩:=I.hok l _ hH;exact⟨z,its,n,r,r.length,e⟩
theorem Du{n:Nat}(h:n<=UY):Builtin.List.listTooLong n=false:=by
 unfold Builtin.List.listTooLong;exact decide_eq_false (by omega)
end
section
variable{X:Cx}
noncomputable def GL:V->List V->Hp->VK->Prop:=λx vs H Q=>∃ l xs y,x = .ref l/\vs=[y]/\H l=some (.lst xs)/\xs.length<UY/\Q .non (upd H l (.lst (xs++[y])))
theorem BU:MtM X "list.append" GL:=by
 intro pq s σ H x vs v us Q I rx rv h;obtain⟨l,xs,y,rfl,rfl,hH,hz,q⟩:=h;cases rx;obtain⟨u,rfl,ru⟩:=rv.one;obtain⟨z,its,n,r,hl,e⟩:=I.lstM hH;refine VR F.slot_list_append ⟨_,e,rfl⟩ F.entry_list_append (F.args_list_append_2 _ _) (PySem.list_append l its.toArray n u (by rw[Qt];omega)) ⟨e,?_⟩;refine⟨.non,_,I.lset (its':=its++[u]) hH e (by simp) (r.append (.cons ru .nil)) ?_,rfl,q⟩;rw[Qv,RS];omega
noncomputable def GM:V->List V->Hp->VK->Prop:=λx vs H Q=>∃ l b xs zs,x = .ref l/\vs=[.ref b]/\H l=some (.lst xs)/\H b=some (.lst zs)/\xs.length+zs.length<=UY/\Q .non (upd H l (.lst (xs++zs)))
theorem Cn:MtM X "list.extend" GM:=by
 intro pq s σ H x vs v us Q I rx rv h;obtain⟨l,b,xs,zs,rfl,rfl,hH,hB,hz,q⟩:=h;cases rx;obtain⟨u,rfl,ru⟩:=rv.one;cases ru;obtain⟨z,its,n,r,hl,e⟩:=I.lstM hH;obtain⟨z2,its2,n2,r2,hl2,e2⟩:=I.lstM hB;have hsz:its.toArray.size+its2.toArray.size<=UY:=by rw[Qt,Qt];omega
 have hlong:¬ (!its.toArray.isEmpty&&Builtin.List.listTooLong (its.toArray.size+its2.toArray.size))=true:=by
  rw[Du hsz,U9];exact Qz
 refine VR F.slot_list_extend ⟨_,e,rfl⟩ F.entry_list_extend (F.args_list_extend_2 _ _)
  (AutoSeq1.list_extend_list_list_0 l its.toArray n b its2.toArray n2 hlong (by rw[Qt];omega) (by omega)) ⟨e,e2,?_⟩
 refine⟨.non,_,I.lset (its':=its++its2) hH e (by simp) (r.append r2) ?_,rfl,q⟩;rw[Qv];omega
noncomputable def Pg:R2:=λx y H Q=>∃ l b xs zs,x = .ref l/\y = .ref b/\H l=some (.lst xs)/\H b=some (.lst zs)/\xs.length+zs.length<=UY/\∀ p,H p=none->Q (.ref p) (upd H p (.lst (xs++zs)))
theorem Nm:OpR X (Uv .Add) Pg:=by
 intro pq s σ H x y v u Q I rx ry h;obtain⟨l,b,xs,zs,rfl,rfl,hH,hB,hz,q⟩:=h;cases rx;cases ry;obtain⟨z,its,n,r,hl,e⟩:=I.lstM hH;obtain⟨z2,its2,n2,r2,hl2,e2⟩:=I.lstM hB;refine PySem.P.add_list e e2 ?_ (by rw[Qt,Qt];omega);have ea:its.toArray++its2.toArray=(its++its2).toArray:=by simp
 rw[ea];exact⟨.ref _,_,I.lnew (t':=s.toks) (r.append r2) (by rw[Qv];omega),rfl,q _ I.fresh⟩
noncomputable def Ph:R2:=λx y H Q=>∃ l k xs,x = .ref l/\y = .int k/\H l=some (.lst xs) /\ -(2 ^ 63)<=k/\k<2 ^ 63/\xs.length * k.toNat<=UY/\
 ∀ p,H p=none->Q (.ref p) (upd H p (.lst (RA k.toNat xs).flatten))
theorem LV{α:Type}(xs:List α)(k:Nat):(RA k xs).flatten.length=k * xs.length:=by
 induction k with
 | zero=>simp
 | succ k ih=>rw[RX,Rt,Qv,ih,Tu,Nat.add_comm]
theorem Nn:OpR X (Uv .Mult) Ph:=by
 intro pq s σ H x y v u Q I rx ry h;obtain⟨l,k,xs,rfl,rfl,hH,h1,h2,hz,q⟩:=h;cases rx;obtain⟨t,rfl⟩:=ry;obtain⟨z,its,n,r,hl,e⟩:=I.lstM hH;have hlen:its.toArray.size * k.toNat<=UY:=by rw[Qt,<-hl];exact hz
 have hcap:¬ its.toArray.size * k.toNat>(2 ^ 63 - 1) / 8:=by
  have:(UY:Nat)<=(2 ^ 63 - 1) / 8:=by decide
  omega
 have hfit:¬ (!Builtin.List.listFitsIndex k)=true:=by
  rw[WW h1 h2];exact Qz
 have hlong:¬ Builtin.List.listTooLong (its.toArray.size * k.toNat)=true:=by
  rw[Du hlen];exact Qz
 have hnew:U8 (λx1 x2=>x1++x2) #[] (RA (if its.toArray.isEmpty=true then 0 else k.toNat) its.toArray)=(RA k.toNat its).flatten.toArray:=by
  have f0:∀ m:Nat,U8 (λx1 x2=>x1++x2) #[] (RA m its.toArray)=(RA m its).flatten.toArray:=λm=>by
   have:=Cl its m [];rw[List.nil_append]at this;exact this
  rw[f0];cases its with
  | nil=>simp
  | cons a r'=>rw[iG (by simp)]
 refine wpAny_binaryOp_repeat_ref (T:="list") (U:="int") (by decide) ⟨_,e,rfl⟩ (λs'=>WV s' k t) noFill_list_mul F.fills_int_mul F.slot_int_rmul repeat_list F.slot_int_index.lookup
  (VR F.slot_int_rmul (WV s k t) F.entry_int_rmul (F.args_int_rmul_2 _ _) (int___rmul___int_list k t l its.toArray n)
    ⟨e,rfl,⟨_,e,rfl⟩,VR F.slot_list_mul ⟨_,e,rfl⟩ F.entry_list_mul (F.args_list_mul_2 _ _) (AutoListH.list___mul___list_int_3 l its.toArray n k t hfit hcap hlong) ⟨e,?_⟩⟩)
 rw[hnew];exact⟨.ref _,_,I.lnew (t':=s.toks) (r.rep k.toNat) (by rw[LV,Nat.mul_comm];exact hz),rfl,q _ I.fresh⟩
end
end L2
namespace Att
open PySem PySem.W PySem.Calls PyProof.Rows
theorem Bm{P:Params}{h:Heap}:∀(ns:List Int) (vs:List UT),WellAll P h vs (ns.map WData.int)->IntsAre vs ns:=by
 intro ns
 induction ns with
 | nil=>
   intro vs w;rw[UF]at w;cases w;exact .nil
 | cons n ns ih=>
   intro vs w;rw[RK]at w;cases w with
   | cons a b=>
     cases a;exact .cons _ _ (ih _ b)
theorem He{l:OpenLaw}{n:Nat}(hn:l.most=some n){P:Params}{h:Heap}{args:List WData}{vals:List UT}
 (hpre:l.row.toRowW.claim.pre args=true) (hwl:WellAll P h vals args):
 ∃ a vs ns,vals=[Value.ref a]/\args=[WData.list (ns.map WData.int)]/\h.get? a=some {cls := .type "list",data := .seq vs.toArray}/\IntsAre vs ns/\ns.length<=n:=by
 have hsh:WShape.hasAll [] args [.list .int]=true:=(pre_splitW hpre).1;have hc:l.pre.holds [] {args:=args}=true:=(pre_splitW hpre).2;obtain⟨d,r,rfl,h1,h2⟩:=hasAllW_cons hsh;obtain rfl:=hasAllW_nil h2;obtain⟨xs,rfl,h3⟩:=hasW_list h1;obtain⟨ns,rfl⟩:=items_int h3
 have hlen:ns.length<=n:=by
  unfold OpenLaw.pre at hc
  have h4:(WTm.not (.lt (.lit (.int (n:Int))) (.len (.arg 0)))).holds [] {args:=[.list (ns.map .int)]}=true:=by
   have h4:=(holds_andW hc).1;rw[hn]at h4;exact h4
  have h5:=condW_of h4 (w_not (w_lt w_lit (w_len_list (w_arg rfl))));rw[Qr]at h5;refine Nat.le_of_not_lt λq=>?_;have q':(n:Int)<((ns.length:Nat):Int):=by omega
  first
   | (rw[decide_eq_true q']at h5;exact absurd h5 (by decide))
   | (simp at h5;omega)
 cases hwl with
 | cons w1 w2=>
   cases w2;cases w1 with
   | list ho hall=>exact⟨_,_,ns,rfl,rfl,ho,Bm ns _ hall,hlen⟩
theorem Hf(l:OpenLaw)(args:List WData):l.row.toRowW.claim.post args (.bool true) args=true:=
 postW_of (r:=l.row.toRowW) (X:=(true == true))
  (show WShape.has [] (.bool true) .bool=true by first | rfl | decide | simp[WShape.has,WShape.arms,WShape.armsAll])
  (show(WTm.eq .res (.lit (.bool true))).value [] {args:=args,res:=some (.bool true),after:=args}=some (.bool (true == true)) from w_eq_bool (w_res rfl) w_lit) rfl
theorem attach_call{l:OpenLaw}{n:Nat}{q:Ua}{loose:List Str}{XP:(Str->Option UT)->Heap->Prop}{YP:Ud->Heap->Prop}{d:DefRec}
 (hn:l.most=some n) (hdf:d.params.defaults=[])
 (call:∀(w:Ud) (s₀ s₁:UU) (mg mb:Str->Option UT) (fa:UV) (o:Obj) (pm cd doc:UT) (a:UV) (vs:List UT) (ns:List Int),
   Ground q loose [] XP w s₀ mg mb s₁.heap->YP w s₁.heap->
   s₁.heap.get? fa=some o->o.data = .func (docDef d.name d.params d.body d.scope pm cd doc)->s₁.heap.CodeRec cd d.name->mg d.name=some (.ref fa)->
   s₁.heap.get? a=some {cls := .type "list",data := .seq vs.toArray}->IntsAre vs ns->ns.length<=n->s₁.gens=#[]->
   codeAny (UZ l.prog w) callerA (.call (.ref fa) ⟨[.ref a],[]⟩) (λr s'=>r = .ok (.ret (.bool true))/\OldK s₁.heap s'.heap/\s'.os=s₁.os/\AllBare s'.gens) s₁):
 WalkO q loose XP YP l.row.toRowW d [] (λf vs=>PySem.call f vs):=by
 intro w s₀ s₁ mg mb G Y fa o pm cd doc dV kV ho hd hcd hD hmg hg args vals as hpre hlay hrd hwl hlo;obtain rfl:dV = .none:=Dflts.none hD hdf;obtain rfl:kV = .none:=Dflts.noKw hD;obtain⟨a,vs,ns,rfl,rfl,hobj,hints,hlen⟩:=He hn hpre hwl;refine enter_call (VC (call w s₀ s₁ mg mb fa o pm cd doc a vs ns G Y ho (fd_plain hd) hcd hmg hobj hints hlen hg) λr s' hq=>?_);obtain⟨rfl,h2,h3,h4⟩:=hq;exact⟨.inl ⟨.bool true,.bool true,[],rfl,λ_=>rfl,.bool true,Hf l _,λ_=>⟨List.Pairwise.nil,λ_ hm=>(nomatch hm)⟩⟩,h2,h3,h4⟩
end Att
namespace L2
open PySem PySem.Spec PyProof.Rows
theorem Co:∀{vs:List UT} {ns:List Int},IntsAre vs ns->Vals (ns.map V.int) vs
 | _,_,.nil => .nil
 | _,_,.cons n t h => .cons ⟨t,rfl⟩ (Co h)
noncomputable def LW(H:Hp):Prop:=∀ b,H b=none\/∃ o xs,H b=some (.frz o (.lst xs))
theorem J2{P:Ua}{w:Ud}{K:Qo}{mg mb:Str->Option UT}{CX:CXT}{k:Nat}{fa a:UV}{fd:V3}{x:Str}{sp:Sp}{s₁:UU}{vs:List UT}{ns:List Int}
 (KX:K.In s₁.heap) (hns:s₁.heap.Ns Ub mg) (hb:s₁.heap.Ns Vz mb) (hbb:∀ x:Str,x≠"__name__"->mb x=Uc x) (hlim:s₁.heap.NoLimit) (hg:s₁.gens=#[])
 (ha:s₁.heap.get? a=some {cls := .type "list",data := .seq vs.toArray}) (hi:IntsAre vs ns) (hl:ns.length<=UY) (hr:Room k callerA)
 (F:∀ base:Heap,K.In base->base.Ns Ub mg->FnOk P w K mg base CX k fa fd [x] sp) (hbind:∀(s:UU) (u:UT),BindsTo s fd ⟨[u],[]⟩ [(x,u)])
 (hsp:∀ H:Hp,LW H->SqL K H a (ns.map V.int)->sp [.ref a] H (λv _=>v = .bl true) λ_ _ _=>False)
 (hCX:∀ H e s',CX [] H s₁ (λ_ _ _=>False) e s'->False):
 codeAny (UZ P w) callerA (.call (.ref fa) ⟨[.ref a],[]⟩) (λr s'=>r = .ok (.ret (.bool true))/\OldK s₁.heap s'.heap/\s'.os=s₁.os/\AllBare s'.gens) s₁:=by
 have rv:=Co hi;have lenV:=hi.length
 have core:∀ H:Hp,LW H->SqL K H a (ns.map V.int)->HOk P w H s₁.heap->(∀ b,H b≠none->b=a)->(H a≠none->K.lookup a=none)->
  codeAny (UZ P w) callerA (.call (.ref fa) ⟨[.ref a],[]⟩) (λr s'=>r = .ok (.ret (.bool true))/\OldK s₁.heap s'.heap/\s'.os=s₁.os/\AllBare s'.gens) s₁:=by
  intro H hO hS hok hA hK;have l7:∀{b:UV} {o:Obj},s₁.heap.get? b=some o->H b=none->(D6 s₁.heap H).get? b=some o:=λe n=>Ia e n
  have noA:∀{b:UV} {o:Obj} {es:Array Wg} {ep:Nat},s₁.heap.get? b=some o->o.data = .dict es ep->H b=none:=λ{b o es ep} e d=>by
   cases q:H b with
   | none=>rfl
   | some u=>
     have e':b=a:=hA b (by rw[q];simp);subst e';rw[ha]at e;cases e;have d':Data.seq vs.toArray _=Data.dict es ep:=d;cases d'
  have nsK:∀{b:UV} {m:Str->Option UT},s₁.heap.Ns b m->(D6 s₁.heap H).Ns b m:=λ{b m} ⟨o,es,ep,e,d,r⟩=>⟨o,es,ep,l7 e (noA e d),d,r⟩
  have hKb:K.In (D6 s₁.heap H):=λb o e=>l7 (KX b o e) (by
   cases q:H b with
   | none=>rfl
   | some u=>
     have e':b=a:=hA b (by rw[q];simp);subst e';rw[hK (by rw[q];simp)]at e;cases e)
  have hM:Mod K mg (D6 s₁.heap H):=⟨hKb,nsK hns,⟨mb,nsK hb,hbb⟩,let ⟨mc,h1,h2⟩:=hlim;⟨mc,nsK h1,h2⟩⟩
  have e0:Env0 P w K mg (D6 s₁.heap H) callerA [] s₁ H:=⟨rfl,hM,λb o e=>LD e,Nat.le_of_eq (HQ _ _),trivial,λb hb=>absurd (show b∈([]:List UV) from hb) (by simp),hok,.of_eq hg⟩
  refine VC ((F _ hKb (nsK hns)).run callerA [] s₁ H ⟨[.ref a],[]⟩ [.ref a] [.ref a] _ _ hr e0 (hbind s₁ (.ref a)) (.cons rfl .nil) (hsp H hO hS)) λr s' h=>?_;cases r with
  | error e=>exact(hCX H e s' h).elim
  | ok fl=>
    cases fl with
    | next=>exact False.elim h
    | brk=>exact False.elim h
    | cont=>exact False.elim h
    | ret u=>
      obtain⟨v,H',os,bare,un,hok',r',q⟩:=h;have q':v = .bl true:=q;subst q';obtain rfl:u=Value.bool true:=r';refine⟨rfl,OldK.of_keep λb o e=>?_,os,bare⟩;cases q:H b with
      | none=>exact un.keep b o e q (by intro z;exact absurd (show b∈([]:List UV) from z) (by simp)) (by simp)
      | some u=>
        rcases hO b with z | ⟨ob,xs,z⟩
        ·rw[q]at z;cases z
        ·have z2:=un.frzs b ob _ z;obtain⟨e1,_⟩:=hok b _ z;obtain⟨e2,_⟩:=hok' b _ z2;rw[e]at e1;cases e1;exact e2
 cases hk:K.lookup a with
 | some o=>
   have e:=KX a o hk;rw[ha]at e;cases e;refine core (λ_=>none) (λ_ => .inl rfl) (.inr ⟨_,vs.toArray,_,hk,rfl,rfl,rfl,by rw[Qt,lenV];exact hl,by simpa using rv⟩) (λb u z=>by have z':(none:Option HO)=some u:=z;cases z') (λb z=>absurd rfl z) λz=>absurd rfl z
 | none=>
   refine core (λb=>if b=a then some (.frz {cls := .type "list",data := .seq vs.toArray} (.lst (ns.map V.int))) else none) (λb=>?_) (.inl (.inr ⟨{cls := .type "list",data := .seq vs.toArray},iP rfl⟩)) (λb u z=>?_) (λb z=>?_) λ_=>hk
   ·by_cases hb:b=a
    ·exact .inr ⟨_,_,iP hb⟩
    ·exact .inl (iG hb)
   ·by_cases hb:b=a
    ·have z':=(iP hb).symm.trans z;cases z';subst hb;exact⟨ha,by rw[Qr];exact hl,vs,_,rv,ha⟩
    ·have z':=(iG hb).symm.trans z;cases z'
   ·by_cases hb:b=a
    ·exact hb
    ·exact absurd (iG hb) z
theorem walk_of{l:PySem.W.OpenLaw}{n k:Nat}{q:Ua}{loose:List Str}{XP:(Str->Option UT)->Heap->Prop}{YP:Ud->Heap->Prop}{d:DefRec}{K:Params->Qo}{CX:Ud->CXT}{sp:Ud->Sp}{x:Str}
 (hn:l.most=some n) (hn2:n<=UY) (hdf:d.params.defaults=[]) (hr:Room k callerA)
 (hY:∀(w:Ud) (h:Heap),YP w h->(K w.params).In h)
 (F:∀(w:Ud) (mg:Str->Option UT) (fa:UV) (h:Heap),(K w.params).In h->h.Ns Ub mg->mg d.name=some (.ref fa)->
   ∃ fd:V3,(∀(s:UU) (u:UT),BindsTo s fd ⟨[u],[]⟩ [(x,u)])/\
    ∀ base:Heap,(K w.params).In base->base.Ns Ub mg->FnOk l.prog w (K w.params) mg base (CX w) k fa fd [x] (sp w))
 (hsp:∀(w:Ud) (H:Hp) (a:UV) (ns:List Int),ns.length<=n->LW H->SqL (K w.params) H a (ns.map V.int)->sp w [.ref a] H (λv _=>v = .bl true) λ_ _ _=>False)
 (hCX:∀(w:Ud) (H:Hp) (s:UU) (e:UT) (s':UU),CX w [] H s (λ_ _ _=>False) e s'->False):
 PySem.W.WalkO q loose XP YP l.row.toRowW d [] (λf vs=>PySem.call f vs):=by
 refine Att.attach_call hn hdf λw s₀ s₁ mg mb fa o pm cd doc a vs ns G Y ho hd hcd hmg hobj hints hlen hg=>?_;have KX:=hY w _ Y;obtain⟨fd,hb,hF⟩:=F w mg fa _ KX G.T.g hmg;exact J2 KX G.T.g G.T.b G.T.builtins G.T.nolimit hg hobj hints (RE hlen hn2) hr hF hb (λH hO hS=>hsp w H a ns hlen hO hS) λH e s'=>hCX w H s₁ e s'
noncomputable def defArgs(s:Stmt):Arguments:=match s with
 | .FunctionDef _ a _ _ _ _ _ _ _ _=>a
 | _=>{posonlyargs:=[],args:=[],vararg:=none,kwonlyargs:=[],kw_defaults:=[],kwarg:=none,defaults:=[]}
noncomputable def defBody(s:Stmt):List Stmt:=match s with
 | .FunctionDef _ _ b _ _ _ _ _ _ _=>b
 | _=>[]
noncomputable def defScope(s:Stmt):Ug:=match s with
 | .FunctionDef _ _ _ _ _ _ sc _ _ _=>sc
 | _=>{kind := .function,names:=[],isGenerator:=false,isCoroutine:=false}
noncomputable abbrev CX0:CXT:=λ_ _ _ _ _ _=>False
noncomputable abbrev E0:XK:=λ_ _ _=>False
theorem Pi{X:Cx}:F9 CX0 X E0:=λ_ _ _ _ _ _ _ h=>h.elim
structure Fun(K:Qo)(x qual:Str)(st:Stmt)(f:UV)(fd:V3):Prop where
 ex:∃(oc:UT) (od:Option UV) (kV doc pm:UT) (an:Option UV) (cdv ct:UT) (osl:Array (Option UT)),
  fd=PySem.W.fnOf x qual (defArgs st) (defBody st) (defScope st) .none kV doc pm an cdv ct/\K.lookup f=some ⟨oc,od,.func fd,osl⟩/\PySem.W.codeIn K cdv qual=true
 kp:PySem.W.keepIn K (.ref f)=true
section
variable{P:Ua}{w:Ud}{K:Qo}{mg:Str->Option UT}{base:Heap}
theorem Fun.ok{x qual:Str}{st:Stmt}{f:UV}{fd:V3}{N ps:List Str}{k:Nat}{sp:Sp}(F:Fun K x qual st f fd)(S:FnScope N ps (defScope st))(len:∀ vs H Q E,sp vs H Q E->vs.length=ps.length)
 (hbody:∀(cdv:UT) (A:Uj) (outer:List Env) (s:UU) (H:Hp) (vs:List V) (Q:VK) (E:XK),Room k (A.deeper (envOfC qual (defScope st) s.heap.objs.size f cdv))->sp vs H Q E->
   ∃ t,PSs (FA CX0 P w K mg base N qual (defScope st) f cdv A outer s H E).nox (defBody st) t/\t {nx:=λ_ H'=>Q .non H',rt:=Q} (start N vs) H):FnOk P w K mg base CX0 (k+1) f fd ps sp:=by
 obtain⟨oc,od,kV,doc,pm,an,cdv,ct,osl,rfl,lk,hcd⟩:=F.ex;refine PZ lk hcd S len λA outer s H vs Q E hr hsp=>?_;obtain⟨t,h,q⟩:=hbody cdv A outer s H vs Q E hr hsp;exact⟨t,h.nox,q⟩
theorem Fun.binds{x qual:Str}{st:Stmt}{f:UV}{fd:V3}{ps:List Str}(F:Fun K x qual st f fd)
 (h:∀(kV doc pm:UT) (an:Option UV) (cdv ct:UT) (us:List UT),us.length=ps.length->bindArgs (PySem.W.fnOf x qual (defArgs st) (defBody st) (defScope st) .none kV doc pm an cdv ct) ⟨us,[]⟩=pure (ps.zip us)):Binds K fd ps []:=by
 obtain⟨oc,od,kV,doc,pm,an,cdv,ct,osl,rfl,lk,hcd⟩:=F.ex;exact .all (h kV doc pm an cdv ct)
theorem FF{x qual:Str}{st:Stmt}{f:UV}{oc:UT}{od an:Option UV}{osl:Array (Option UT)}{kV doc pm cdv ct:UT}(l:K.lookup f=some ⟨oc,od,.func (PySem.W.fnOf x qual (defArgs st) (defBody st) (defScope st) .none kV doc pm an cdv ct),osl⟩)
 (c:PySem.W.codeIn K cdv qual=true) (k:PySem.W.keepIn K (.ref f)=true):Fun K x qual st f (PySem.W.fnOf x qual (defArgs st) (defBody st) (defScope st) .none kV doc pm an cdv ct):=⟨⟨oc,od,kV,doc,pm,an,cdv,ct,osl,rfl,l,c⟩,k⟩
end
noncomputable def Same(H H':Hp):Prop:=∀ b o,H b=some o->H' b=some o
theorem Same.refl(H:Hp):Same H H:=λ_ _ h=>h
theorem Same.trans{H H1 H2:Hp}(a:Same H H1)(b:Same H1 H2):Same H H2:=λc o h=>b c o (a c o h)
theorem Same.free{H H':Hp}(e:Same H H'){l:UV}(h:H' l=UN):H l=UN:=by
 cases q:H l with
 | none=>rfl
 | some o=>
   rw[e l o q]at h;cases h
end L2
set_option maxHeartbeats 4000000
namespace L2
open PySem PySem.Spec PyProof.Rows
noncomputable def r6(env:Env):List (Str×Ur)->List (Str×UV)->List (Str×UV)
 | [],acc=>acc
 | (n,k)::r,acc=>if k == .free then r6 env r ((n,(env.cells.lookup n).getD 0)::acc) else r6 env r acc
theorem AS{env:Env}{scope:Ug}(h:∀ x∈scope.names,x.2 = .free->∃ c,env.cells.lookup x.1=some c):closureFor scope env=pure (r6 env scope.names []):=by
 unfold closureFor
 have go:∀(names:List (Str×Ur)) (acc:List (Str×UV)),(∀ x∈names,x.2 = .free->∃ c,env.cells.lookup x.1=some c)->
  (forIn names acc λx r=>match x with
    | (name,kind)=>if (kind == NameKind.free)=true then do let __do_lift <- cellOf env name;pure (ForInStep.yield ((name,__do_lift)::r)) else pure (ForInStep.yield r):Sem (List (Str×UV)))=pure (r6 env names acc):=by
  intro names
  induction names with
  | nil=>intro acc _;rfl
  | cons x r ih=>
    intro acc hx;obtain⟨n,k⟩:=x;rw[SY];have hr:=λy hy=>hx y (R3 _ hy);by_cases hk:k = .free
    ·subst hk;obtain⟨c,hc⟩:=hx (n,.free) RD rfl;have hc':env.cells.lookup n=some c:=hc;unfold r6;simp only[beq_self_eq_true,if_true,cellOf,hc',Option.getD_some,pure_bind];exact ih _ hr
    ·have hb:(k == NameKind.free)=false:=by simpa using hk
     unfold r6;simp only[hb,RN,if_false,pure_bind];exact ih _ hr
 have:=go scope.names [] h;simp only[this]
 first | rfl | simp
theorem BV{env:Env}:∀(names:List (Str×Ur)) (acc:List (Str×UV)),(∀ x∈names,x.2 = .free->∃ c,env.cells.lookup x.1=some c)->(∀ p∈acc,env.cells.lookup p.1=some p.2)->
 ∀ p∈r6 env names acc,env.cells.lookup p.1=some p.2
 | [],_,_,ha,p,hp=>ha p hp
 | (n,k)::r,acc,h,ha,p,hp=>by
   unfold r6 at hp;have hr:=λy hy=>h y (R3 _ hy);split at hp
   ·rename_i hk;have hk:k = .free:=by simpa using hk
    obtain⟨c,hc⟩:=h (n,k) RD hk;have hc':env.cells.lookup n=some c:=hc;refine BV r _ hr (λq hq=>?_) p hp;rcases R0.mp hq with rfl | hq
    ·show env.cells.lookup n=some ((env.cells.lookup n).getD 0);rw[hc'];rfl
    ·exact ha q hq
   ·exact BV r acc hr ha p hp
theorem BW{env:Env}:∀(names:List (Str×Ur)) (acc:List (Str×UV)),∀ p∈acc,p∈r6 env names acc
 | [],_,_,hp=>hp
 | (n,k)::r,acc,p,hp=>by
   unfold r6;split
   ·exact BW r _ p (R3 _ hp)
   ·exact BW r acc p hp
theorem BX{env:Env}:∀(names:List (Str×Ur)) (acc:List (Str×UV)) (n:Str),(n,NameKind.free)∈names->∃ c,(n,c)∈r6 env names acc
 | (m,k)::r,acc,n,hn=>by
   unfold r6;rcases R0.mp hn with e | hn
   ·cases e;simp only[beq_self_eq_true,if_true];exact⟨_,BW r _ _ RD⟩
   ·split
    ·exact BX r _ n hn
    ·exact BX r _ n hn
theorem Aj{env:Env}:∀(names:List (Str×Ur)) (acc:List (Str×UV)),∀ p∈r6 env names acc,p∈acc\/(p.1,NameKind.free)∈names
 | [],_,_,hp => .inl hp
 | (n,k)::r,acc,p,hp=>by
   unfold r6 at hp;split at hp
   ·rename_i hk;have hk:k = .free:=by simpa using hk
    subst hk;rcases Aj r _ p hp with z | z
    ·rcases R0.mp z with rfl | z
     ·exact .inr RD
     ·exact .inl z
    ·exact .inr (R3 _ z)
   ·rcases Aj r _ p hp with z | z
    ·exact .inl z
    ·exact .inr (R3 _ z)
theorem v4:∀(names:List (Str×Ur)) (n:Nat) (acc:List (Str×UV)),∀ p∈Us n names acc,p∈acc\/(n<=p.2/\(p.1,NameKind.cell)∈names)
 | [],_,_,_,hp => .inl hp
 | (x,k)::r,n,acc,p,hp=>by
   unfold Us at hp;split at hp
   ·rename_i hk;have hk:k = .cell:=by simpa using hk
    subst hk;rcases v4 r (n+1) _ p hp with z | ⟨z,w⟩
    ·rcases R0.mp z with rfl | z
     ·exact .inr ⟨Qs _,RD⟩
     ·exact .inl z
    ·exact .inr ⟨Nat.le_of_succ_le z,R3 _ w⟩
   ·rcases v4 r n acc p hp with z | ⟨z,w⟩
    ·exact .inl z
    ·exact .inr ⟨z,R3 _ w⟩
theorem v5:∀(names:List (Str×Ur)) (n:Nat) (acc:List (Str×UV)),∀ p∈acc,p∈Us n names acc
 | [],_,_,_,hp=>hp
 | (x,k)::r,n,acc,p,hp=>by
   unfold Us;split
   ·exact v5 r _ _ p (R3 _ hp)
   ·exact v5 r _ _ p hp
theorem AJ:∀(names:List (Str×Ur)) (n:Nat) (acc:List (Str×UV)) (x:Str),(x,NameKind.cell)∈names->∃ c,(x,c)∈Us n names acc
 | (y,k)::r,n,acc,x,hx=>by
   unfold Us;rcases R0.mp hx with e | hx
   ·cases e;simp only[beq_self_eq_true,if_true];exact⟨_,v5 r _ _ _ RD⟩
   ·split
    ·exact AJ r _ _ x hx
    ·exact AJ r _ _ x hx
theorem AK:∀(names:List (Str×Ur)) (h:Heap) (acc:List (Str×UV)),∀ p∈Us h.objs.size names acc,p∈acc\/(WD h names).IsCell p.2 none
 | [],_,_,_,hp => .inl hp
 | (x,k)::r,h,acc,p,hp=>by
   unfold Us at hp;unfold WD;split at hp
   ·rename_i hk;rw[iP hk];have:=AK r (h.push {cls := .type "cell",data := .cell none}) ((x,h.objs.size)::acc) p (by rw[RT];exact hp);rcases this with z | z
    ·rcases R0.mp z with rfl | z
     ·exact .inr ⟨_,Vh _ _ _ _ (Qx _ rfl),rfl⟩
     ·exact .inl z
    ·exact .inr z
   ·rename_i hk;rw[iG hk];exact AK r h acc p hp
theorem w5:∀(names:List (Str×Ur)) (n:Nat) (acc:List (Str×UV)),(acc.Pairwise λx y=>x.2≠y.2)->(∀ p∈acc,p.2<n)->(Us n names acc).Pairwise λx y=>x.2≠y.2
 | [],_,_,h,_=>h
 | (x,k)::r,n,acc,h,hl=>by
   unfold Us;split
   ·refine w5 r (n+1) _ (SZ.mpr ⟨λy hy e=>?_,h⟩) λp hp=>?_
    ·have h1:=hl y hy;have e':n=y.2:=e;exact absurd h1 (by rw[<-e'];exact Rx _)
    ·rcases R0.mp hp with rfl | hp
     ·exact Sk _
     ·exact SG (hl p hp)
   ·exact w5 r n acc h hl
theorem Ak{env:Env}(inj:∀ x y c,env.cells.lookup x=some c->env.cells.lookup y=some c->x=y):∀(names:List (Str×Ur)) (acc:List (Str×UV)),(names.map (·.1)).Nodup->
 (∀ x∈names,x.2 = .free->∃ c,env.cells.lookup x.1=some c)->(acc.Pairwise λx y=>x.2≠y.2)->(∀ p∈acc,env.cells.lookup p.1=some p.2/\p.1∉names.map (·.1))->(r6 env names acc).Pairwise λx y=>x.2≠y.2
 | [],_,_,_,h,_=>h
 | (n,k)::r,acc,nd,hf,h,ha=>by
   unfold r6;have nd':=Ru.mp nd;have hr:=λy hy=>hf y (R3 _ hy);split
   ·rename_i hk;have hk:k = .free:=by simpa using hk
    obtain⟨c,hc⟩:=hf (n,k) RD hk;have hc':env.cells.lookup n=some c:=hc;refine Ak inj r _ nd'.2 hr (SZ.mpr ⟨λy hy e=>?_,h⟩) λp hp=>?_
    ·have e':(env.cells.lookup n).getD 0=y.2:=e;rw[hc']at e';have e2:c=y.2:=e';have q:=(ha y hy).1;have:=inj n y.1 c hc' (by rw[e2];exact q);exact(ha y hy).2 (by rw[<-this];exact RD)
    ·rcases R0.mp hp with rfl | hp
     ·refine⟨?_,nd'.1⟩;show env.cells.lookup n=some ((env.cells.lookup n).getD 0);rw[hc'];rfl
     ·exact⟨(ha p hp).1,λz=>(ha p hp).2 (R3 _ z)⟩
   ·exact Ak inj r acc nd'.2 hr h λp hp=>⟨(ha p hp).1,λz=>(ha p hp).2 (R3 _ z)⟩
theorem t3{env:Env}:∀(names:List (Str×Ur)) (x:Str),
 (names.map λ(n,k)=>if (k == NameKind.free&&env.scope.kind == .function&&env.kindOf n == some .cell) then (n,NameKind.cell) else (n,k)).lookup x=
   (names.lookup x).map λk=>if (k == NameKind.free&&env.scope.kind == .function&&env.kindOf x == some .cell) then NameKind.cell else k
 | [],x=>rfl
 | (n,k)::r,x=>by
   have ih:=t3 (env:=env) r x;rw[RK];show Tb x ((if (k == NameKind.free&&env.scope.kind == .function&&env.kindOf n == some .cell)=true then (n,NameKind.cell) else (n,k))::_)=_;split
   ·rename_i hc;rw[Ri,Ri];cases hx:x == n with
    | false=>exact ih
    | true=>
      have e:x=n:=by simpa using hx
      subst e;simp only[SB];rw[iP hc]
   ·rename_i hc;rw[Ri,Ri];cases hx:x == n with
    | false=>exact ih
    | true=>
      have e:x=n:=by simpa using hx
      subst e;simp only[SB];rw[iG hc]
theorem i8{α:Type}:∀{l:List (Str×α)} {n:Str} {c:α},(l.map (·.1)).Nodup->(n,c)∈l->l.lookup n=some c
 | (k,v)::r,n,c,nd,h=>by
   have nd':=Ru.mp nd;rw[Ri];rcases R0.mp h with e | h2
   ·cases e;simp
   ·cases hb:n == k with
    | true=>
      have e:n=k:=by simpa using hb
      exact absurd (RI.mpr ⟨(n,c),h2,e⟩:k∈r.map (·.1)) nd'.1
    | false=>exact i8 nd'.2 h2
theorem B0{α:Type}:∀{l:List (Str×α)} {n:Str} {c:α},(n,c)∈l->∃ d,l.lookup n=some d
 | (k,v)::r,n,c,h=>by
   rw[Ri];cases hb:n == k with
   | true=>exact⟨v,rfl⟩
   | false=>
     rcases R0.mp h with e | h
     ·cases e;simp at hb
     ·exact B0 h
noncomputable abbrev i0(X:Cx)(scope:Ug)(N':List Str)(s2:UU)(H2:Hp)(cs:List (Str×UV))(C:UV)(fp:List UV):Cx where
 prog:=X.prog
 w:=X.w
 K:=X.K
 mg:=X.mg
 base:=X.base
 A:=X.A
 N:=N'
 s₀:=s2
 H₀:=H2
 env:=Va scope cs C X.env
 outer:=X.stack
 stack:=X.stack
 ex:=fp
 fn:=λx=>scope.names.lookup x == some .cell
 calm:=X.calm
 pn:=X.pn
 xe:=λ_ _=>False
noncomputable def v0(sc0 sc:Ug)(own cn N:List Str)(js:List Nat):Bool:=
 (decide (sc.kind = .function))&&(sc.names.all λx=>!decide (x.2 = .free)||decide (sc0.names.lookup x.1=some .cell)||decide (sc0.names.lookup x.1=some .free))
 && decide ((sc.names.map (·.1)).Nodup)&&(own.all λx=>decide (sc.names.lookup x=some .local)||decide (sc.names.lookup x=some .cell))&&(cn.all λx=>decide (sc.names.lookup x=some .free))
 && decide ((own++cn).Nodup)&&decide (js.map (λj=>N[j]?)=cn.map some)
noncomputable def Ag(k:Nat)(js:List Nat)(σ:St):St:=RA k none++js.map λj=>(σ[j]?).join
noncomputable def CV(X:Cx)(ifs:List Expr)(t:TT):Prop:=
 ∀(pq:List (UV×Obj)) (s:UU) (σ:St) (H:Hp) (Q:Bool->Hp->Prop),Inv X pq σ H s->t σ H Q->
  UX (UZ X.prog X.w) X.A (forIn ifs true λc r=>if r=true then do let ok <- isTrue c X.env (eval c X.env);pure (ForInStep.yield ok) else pure (ForInStep.yield r)) (TP X pq σ Q) X.xe s
theorem J3{X:Cx}:CV X [] (λ_ H Q=>Q true H):=λ_ _ _ H _ I h=>wpAny_tests_nil ⟨H,I,h⟩
theorem J4{X:Cx}{c:Expr}{t:TT}(h:PT X c t):CV X [c] t:=λpq s σ H Q I hw=>wpAny_tests_one (h pq s σ H Q I hw)
theorem J5{M:Model}{A:Uj}{E:UT->UU->Prop}{s:UU}{scope:Ug}{env:Env}{cl:List (Str×UV)}{Q:Env->UU->Prop}
 (h:Q (newEnv scope s.heap.objs.size env.globals (Us (s.heap.objs.size+1) scope.names cl) env.qual none .none (some env) Vz) {s with heap:=WD (s.heap.push {cls := .type "dict",data := .dict #[]}) scope.names}):
 UX M A (VS scope env.globals cl [] env.qual none .none (some env)) Q E s:=by
 simp only[VS,Tr,if_true];refine US (wpAny_alloc ?_);refine US (wpAny_layCells _ (λname kind cells=>by cases hkc:kind == NameKind.cell<;>simp[hkc]) _ _ _ _ ?_);rw[show({s with heap:=s.heap.push {cls := .type "dict",data := .dict #[]}}:UU).heap.objs.size=s.heap.objs.size+1 from RT ..];refine US ?_;rw[Tc];exact UW (UW h)
structure CForm(prog:Ua)(w:Ud)(A:Uj)(E tg iter:Expr)(ifs:List Expr)(emit:UT->Env->Sem Unit)(dp:Nat:=0):Prop where
 turn:∀(it:UT) (D:UV) (env:Env),compTurn E dp it (.ref D) env=(do
  standAt iter.pos
  match <- pyNext it with
  | none=>pure (.done .next)
  | some v=>
    VE tg it v
    assign tg env v
    let mut ok:=true
    for c in ifs do
     if ok then ok <- isTrue c env (eval c env)
    if ok then emit (.ref D) env
    again (.compLoop E dp it (.ref D) env))
 und:∀(it acc:UT) (env:Env),A.under (.compLoop E dp it acc env)=A
 den:∀(it acc:UT) (env:Env),(UZ prog w).den (.compLoop E dp it acc env)=(compTurn E dp it acc env).onRaise (λx=>do noteFrame x env;theTreesLotGoes x)
 start:∀{R:Result->UU->Prop} {s:UU} {it acc:UT} {env:Env},codeAny (UZ prog w) A (.compLoop E dp it acc env) R s->UX (UZ prog w) A (pyIter it) (λit' s'=>codeAny (UZ prog w) A (.compLoop E dp it' acc env) R s') (notedBy (UZ prog w) A env λx s'=>R (.error x) s') s->
  codeAny (UZ prog w) A (.compStart E dp it acc env) R s
theorem CForm.loop{prog:Ua}{w:Ud}{A:Uj}{E tg iter:Expr}{ifs:List Expr}{emit:UT->Env->Sem Unit}{dp:Nat}(F:CForm prog w A E tg iter ifs emit dp){R:Result->UU->Prop}{s:UU}{it:UT}{D:UV}{env:Env}(I:Nat->UU->Prop)
 (turn:∀ n s,I n s->UX (UZ prog w) A (pyNext it) (λr s₁=>match r with
   | none=>R (.ok .next) s₁
   | some v=>UX (UZ prog w) A (VE tg it v) (λ_ s₁'=>UX (UZ prog w) A (assign tg env v) (λ_ s₂=>
      UX (UZ prog w) A (forIn ifs true λc r=>if r=true then do let ok <- isTrue c env (eval c env);pure (ForInStep.yield ok) else pure (ForInStep.yield r)) (λok s₃=>
       if ok=true then UX (UZ prog w) A (emit (.ref D) env) (λ_ s₅=>∃ m,m<n/\I m s₅) (λ_ _=>False) s₃
       else ∃ m,m<n/\I m s₃) (λ_ _=>False) s₂) (λ_ _=>False) s₁') (λ_ _=>False) s₁) (λ_ _=>False) s)
 (n:Nat) (h:I n s):
 codeAny (UZ prog w) A (.compLoop E dp it (.ref D) env) R s:=by
 refine codeAny_loop rfl I (λn s hI=>?_) n h;rw[F.und,F.den];refine wpAny_noted ?_;rw[F.turn];refine US (Vu (US (V6 (turn n s hI) (λr s₁ h₁=>?_) λ_ _ h'=>False.elim h')));cases r with
 | none=>exact UW h₁
 | some v=>
   refine US (V6 h₁ (λ_ s₁' h₁'=>?_) λ_ _ h'=>False.elim h');refine US (V6 h₁' (λ_ s₂ h₂=>US (V6 h₂ (λok s₃ h₃=>?_) λ_ _ h'=>False.elim h')) λ_ _ h'=>False.elim h');cases ok with
   | false=>exact UW ⟨rfl,h₃⟩
   | true=>exact US (V6 h₃ (λ_ s₅ h₅=>UW ⟨rfl,h₅⟩) λ_ _ h'=>False.elim h')
noncomputable def No{α:Type}(J:It)(g:TG)(tt:TT)(tem:α->St->Hp->(α->Hp->Prop)->Prop)(σ':St)(Q:Hp->Prop)(W:Nat->Nat->α->Hp->Prop):Prop:=
 ∀ i m a H,W i m a H->(J.stop i H/\Q H)\/(J.go i H/\∃ N:α->Hp->Prop,(∀ a' H',N a' H'->∃ m',m'<m/\W (i+1) m' a' H')/\∀ x H',J.yld i H x H'->g x σ' H' λσ2 H2=>tt σ2 H2 λb H3=>if b=true then tem a σ2 H3 N else N a H3)
noncomputable def Pj(elt:Expr)(acc:UT)(env:Env):Sem Unit:=do
 let x <- eval elt env
 let _ <- call (.builtin "list.append") [acc,x]
theorem FG{prog:Ua}{w:Ud}{A:Uj}{elt tg iter:Expr}{ifs:List Expr}{scope:Ug}{pos:Pos}:CForm prog w A (.ListComp elt [⟨tg,iter,ifs,0⟩] scope pos) tg iter ifs (Pj elt) where
 turn:=λ_ _ _=>compTurn_list ..
 und:=λ_ _ _=>rfl
 den:=λ_ _ _=>rfl
 start:=λh0 h=>codeAny_compStart_list h0 h
noncomputable def QW(te:TE)(D:UV)(ys:List V)(σ:St)(H:Hp)(N:List V->Hp->Prop):Prop:=te σ H λv H4=>H4 D=some (.lst ys)/\ys.length<UY/\N (ys++[v]) (upd H4 D (.lst (ys++[v])))
noncomputable def Mv(J:It)(g:TG)(tt:TT)(te:TE)(D:UV)(σ':St)(Q:List V->Hp->Prop)(W:Nat->Nat->List V->Hp->Prop):Prop:=
 ∀ i m ys H,W i m ys H->(J.stop i H/\Q ys H)\/(J.go i H/\∃ N:List V->Hp->Prop,(∀ ys' H',N ys' H'->∃ m',m'<m/\W (i+1) m' ys' H')/\∀ x H',J.yld i H x H'->g x σ' H' λσ2 H2=>tt σ2 H2 λb H3=>
  if b=true then te σ2 H3 λv H4=>H4 D=some (.lst ys)/\ys.length<UY/\N (ys++[v]) (upd H4 D (.lst (ys++[v]))) else N ys H3)
noncomputable def J6(wi:TI)(g:TG)(tt:TT)(te:TE)(k:Nat)(js:List Nat):TE:=λσ H Q=>wi σ H λJ H1=>∀ D,H1 D=none->
 ∃ W:Nat->Nat->List V->Hp->Prop,(∃ m,W 0 m [] (upd H1 D (.lst [])))/\Mv J g tt te D (Ag k js σ) (λ_ H=>Q (.ref D) H) W
section
variable{X:Cx}{pq:List (UV×Obj)}{σ:St}{H2:Hp}{s2:UU}{tg elt iter:Expr}{ifs:List Expr}{scope:Ug}{pos:Pos}{own cn:List Str}{js:List Nat}{g:TG}{tt:TT}{te:TE}
theorem Dv{α:Type}{E:Expr}{emit:UT->Env->Sem Unit}{mk:Sem UT}{o0:Obj}{u0:HO}{a0:α}{tem:UV->α->St->Hp->(α->Hp->Prop)->Prop}(F:CForm X.prog X.w X.A E tg iter ifs emit)(hmk:∀{Q:UT->UU->Prop},Q (.ref s2.heap.objs.size) {s2 with heap:=s2.heap.push o0}->UX (UZ X.prog X.w) X.A mk Q X.xe s2)(nf0:o0.isFreed=false)(new0:∀(H:Hp) (h:Heap),h.get? s2.heap.objs.size=some o0->ObjOk X.prog X.w H h s2.heap.objs.size u0)(hok:v0 X.env.scope scope own cn X.N js=true)(hc:X.calm=true)
 (hg:∀ s2 H2 cs C fp,PG (i0 X scope (own++cn) s2 H2 cs C fp) tg g) (ht:∀ s2 H2 cs C fp,CV (i0 X scope (own++cn) s2 H2 cs C fp) ifs tt) (hem:∀ D s2 H2 cs C fp pq s σ H (a:α) (N:α->Hp->Prop),Inv (i0 X scope (own++cn) s2 H2 cs C fp) pq σ H s->tem D a σ H N->UX (UZ X.prog X.w) X.A (emit (.ref D) (Va scope cs C X.env)) (λ_ s1=>∃ σ1 a1 H1,Inv (i0 X scope (own++cn) s2 H2 cs C fp) pq σ1 H1 s1/\N a1 H1) (λ_ _=>False) s)
 (I2:Inv X pq σ H2 s2) {it:UV} {fp:List UV} {tn:Nat->Heap->Prop} {J:It} (T:Turn X.prog X.w X.K tg J fp it tn) (st2:tn 0 s2.heap) (f2:∀ b∈fp,FpOk X pq H2 b)
 {Qe:Hp->Prop} (hW:∃ W:Nat->Nat->α->Hp->Prop,(∃ m,W 0 m a0 (upd H2 s2.heap.objs.size u0))/\No J g tt (tem s2.heap.objs.size) (Ag own.length js σ) Qe W)
 {RR:UT->UV->Result->UU->Prop}
 (hRR:∀ C H' s',Inv X pq σ H' s'->FpOk X pq H' C->(∃ m,s'.heap.Ns C m)->Qe H'->RR (.ref s2.heap.objs.size) C (.ok .next) s'):
 UX (UZ X.prog X.w) X.A mk (λacc s₃=>UX (UZ X.prog X.w) X.A (VS scope X.env.globals (r6 X.env scope.names []) [] X.env.qual none .none (some X.env)) (λcenv s₄=>
  codeAny (UZ X.prog X.w) X.A (.compStart E 0 (.ref it) acc {cenv with scope:=relabel scope X.env}) (RR acc cenv.locals) s₄) X.xe s₃) X.xe s2:=by
 unfold v0 at hok;simp only[Qp,dQ,RB,RU,RG,decide_eq_false_iff_not]at hok;obtain⟨⟨⟨⟨⟨⟨k1,k2⟩,k3⟩,k4⟩,k5⟩,k6⟩,k7⟩:=hok
 have hfreeK:∀ x∈scope.names,x.2 = .free->X.env.kindOf x.1=some .cell\/X.env.kindOf x.1=some .free:=λx hx hf=>by
  rcases k2 x hx with(z | z) | z
  ·exact absurd hf z
  ·exact .inl z
  ·exact .inr z
 have hfree:∀ x∈scope.names,x.2 = .free->∃ c,X.env.cells.lookup x.1=some c:=λx hx hf=>I2.ok.has x.1 (hfreeK x hx hf);refine hmk (J5 ?_);have hsz3:(s2.heap.push o0).objs.size=s2.heap.objs.size+1:=RT ..;dsimp only;generalize hh3:s2.heap.push o0=h3 at hsz3 ⊢;have old3:∀ b o,s2.heap.get? b=some o->h3.get? b=some o:=λb o e=>hh3▸Qq _ e;have hD3:h3.get? s2.heap.objs.size=some o0:=hh3▸Qx _ nf0;generalize hcs:Us (h3.objs.size+1) scope.names (r6 X.env scope.names [])=cs;generalize hh4:WD (h3.push {cls := .type "dict",data := .dict #[]}) scope.names=h4;have old4:∀ b o,h3.get? b=some o->h4.get? b=some o:=λb o e=>hh4▸Vh _ _ b o (Qq _ e);have old:∀ b o,s2.heap.get? b=some o->h4.get? b=some o:=λb o e=>old4 b o (old3 b o e);have hD4:h4.get? s2.heap.objs.size=some o0:=old4 _ _ hD3;have hNs:h4.Ns h3.objs.size (λ_=>none):=hh4▸(Heap.Ns.new h3 (.type "dict")).keeps (Vh _ _);generalize hC:h3.objs.size=C at hNs hcs ⊢;have hCD:@Eq Nat C (s2.heap.objs.size+1):=by rw[<-hC];exact hsz3
 have clM:=BV (env:=X.env) scope.names [] hfree (λp hp=>absurd hp (by simp));have cellLt:∀ x c,X.env.cells.lookup x=some c->@LT.lt Nat _ c s2.heap.objs.size:=λx c e=>by obtain⟨v,z⟩:=I2.cell x c e;exact z.lt
 have apart:cs.Pairwise λx y=>x.2≠y.2:=by
  rw[<-hcs];refine w5 _ _ _ (Ak I2.ok.inj scope.names [] k3 hfree List.Pairwise.nil λp hp=>absurd hp (by simp)) λp hp=>?_;have:=cellLt _ _ (clM p hp);show @LT.lt Nat _ p.2 (C+1);omega
 have csM:∀ p∈cs,X.env.cells.lookup p.1=some p.2\/(C+1<=p.2/\(p.1,NameKind.cell)∈scope.names/\h4.IsCell p.2 none):=λp hp=>by
  have hp0:=hp;rw[<-hcs]at hp;rcases v4 _ _ _ p hp with z | ⟨z,y⟩
  ·exact .inl (clM p z)
  ·have e:h3.objs.size+1=(h3.push {cls := .type "dict",data := .dict #[]}).objs.size:=by rw[RT]
   have hp':=hp;rw[<-hC,e]at hp';rcases AK _ _ _ p hp' with q | q
   ·exact .inl (clM p q)
   ·exact .inr ⟨z,y,hh4▸q⟩
 have hX:(i0 X scope (own++cn) s2 H2 cs C fp).Ok:=by
  refine⟨I2.ok.mod,k1,I2.ok.glob,I2.ok.blt,by show @LE.le Nat _ s2.heap.objs.size C;omega,λx y c h1 h2=>name_of_addr apart (PySem.mem_of_lookup h1) (PySem.mem_of_lookup h2),λx hx=>?_,λx c hf hx=>?_,I2.ok.hd,I2.ok.frames,.inl rfl,λb hb=>?_,I2.bs,RE I2.ok.bsz I2.sz,λb o e hb=>?_,λb hb hf=>?_,I2.stack,I2.stkFree⟩
  ·have hx':(relabel scope X.env).names.lookup x=some .cell\/(relabel scope X.env).names.lookup x=some .free:=hx
   have hl:scope.names.lookup x=some .cell\/scope.names.lookup x=some .free:=by
    unfold relabel at hx';dsimp only at hx';rw[t3]at hx';cases e:scope.names.lookup x with
    | none=>rw[e]at hx';simp at hx'
    | some k=>
      rw[e]at hx';cases k<;>simp_all
   have:∃ c,(x,c)∈cs:=by
    rw[<-hcs];rcases hl with hl | hl
    ·exact AJ _ _ _ x (PySem.mem_of_lookup hl)
    ·obtain⟨c,hc'⟩:=BX (env:=X.env) scope.names [] x (PySem.mem_of_lookup hl);exact⟨c,v5 _ _ _ _ hc'⟩
   obtain⟨c,hm⟩:=this;exact B0 hm
  ·have hf':scope.names.lookup x=some .cell:=by simpa using hf
   have hm:=PySem.mem_of_lookup (show cs.lookup x=some c from hx);rcases csM _ hm with z | ⟨z,_⟩
   ·
    rw[<-hcs]at hm;rcases v4 _ _ _ _ hm with q | ⟨q,_⟩
    ·rcases Aj (env:=X.env) scope.names [] _ q with q' | q'
     ·exact absurd q' (by simp)
     ·have:=i8 k3 q';have h2:scope.names.lookup x=some .free:=this;rw[hf']at h2;cases h2
    ·show @LE.le Nat _ s2.heap.objs.size c;have q2:@LE.le Nat _ (C+1) c:=q;omega
   ·show @LE.le Nat _ s2.heap.objs.size c;have z2:@LE.le Nat _ (C+1) c:=z;omega
  ·obtain⟨f0,f1,f2',f3,f4,f5⟩:=f2 b hb;obtain⟨o,ho,_⟩:=T.obj 0 _ st2 b hb;have hb2:@LT.lt Nat _ b s2.heap.objs.size:=Qw ho;refine⟨?_,λx c e=>?_⟩
   ·show @Ne Nat b C;omega
   ·rcases csM _ (PySem.mem_of_lookup (show cs.lookup x=some c from e)) with z | ⟨z,_⟩
    ·exact f4 x c z
    ·have z2:@LE.le Nat _ (C+1) c:=z;show @Ne Nat c b;omega
  ·obtain⟨f0,f1,f2',f3,f4,f5⟩:=f2 b hb;rcases f3 with z | z
   ·exact I2.ok.noex b o e z
   ·exact absurd (RC (Qw e) (RE I2.ok.bsz z)) (Rx _)
  ·obtain⟨f0,f1,f2',_⟩:=f2 b hb;rcases R0.mp (I2.stkSub b hf) with z | z
   ·exact f1 z
   ·exact f2' z
 have hDn:H2 s2.heap.objs.size=none:=I2.fresh;have hCn:H2 C=none:=I2.hok.fresh (show @LE.le Nat _ s2.heap.objs.size C by omega)
 have stkNe:∀ b,b≠X.env.locals->b∉X.fs->b∉frs X.stack:=λb h1 h2 hb=>by
  rcases R0.mp (I2.stkSub b hb) with z | z
  ·exact h1 z
  ·exact h2 z
 have I4:Inv (i0 X scope (own++cn) s2 H2 cs C fp) pq (Ag own.length js σ) (upd H2 s2.heap.objs.size u0) {s2 with heap:=h4}:=by
  refine⟨hX,rfl,I2.bare,Un.laid old (Qs _) hDn,⟨λ_=>none,hNs,λi x v e1 e2 e3=>?_⟩,λx c e=>?_,?_,λx c e=>?_,λp hp=>?_,I2.hok.laid old (Qs _) (new0 _ _ hD4),?_⟩
  ·
   have hi:own.length<=i:=by
    rcases SU i own.length with z | z
    ·exfalso;unfold Ag at e2;rw[R6 (by simpa using z),Rh,iP z]at e2;cases e2
    ·exact z
   have e1':cn[i - own.length]?=some x:=by
    have:(own++cn)[i]?=some x:=e1;rw[RM hi]at this;exact this
   have e2':(js.map λj=>(σ[j]?).join)[i - own.length]?=some (some v):=by
    unfold Ag at e2;rw[RM (by simpa using hi)]at e2;simpa using e2
   rw[R8]at e2';cases hj:js[i - own.length]? with
   | none=>rw[hj]at e2';cases e2'
   | some j=>
     rw[hj]at e2';have e2'':(σ[j]?).join=some v:=by simpa using e2'
     have hσ:σ[j]?=some (some v):=by
      cases q:σ[j]? with
      | none=>rw[q]at e2'';cases e2''
      | some z=>rw[q]at e2'';simp at e2'';rw[e2'']
     have hNx:X.N[j]?=some x:=by
      have:=congrArg (λl=>l[i - own.length]?) k7;simp only[R8,hj,e1',SB]at this;exact oj this
     have hfx:scope.names.lookup x=some .free:=k5 x (R1 e1');have hK:=hfreeK (x,.free) (PySem.mem_of_lookup hfx) rfl;have hK':X.env.kindOf x=some .cell\/X.env.kindOf x=some .free:=hK;obtain⟨m,hn,hl⟩:=I2.loc
     have hvis:Vis X.env.scope x:=by
      rcases hK' with z | z
      ·exact .inr (.inl z)
      ·exact .inr (.inr z)
     obtain⟨u,r,l⟩:=hl j x v hNx hσ hvis;refine⟨u,r,.inr ?_⟩;rcases l with⟨l1,_⟩ | ⟨l1,c,l2,l3⟩
     ·rcases hK' with z | z
      ·rw[z]at l1;cases l1
      ·rw[z]at l1;cases l1
     ·have hrl:(Va scope cs C X.env).kindOf x=some .cell\/(Va scope cs C X.env).kindOf x=some .free:=by
       show(relabel scope X.env).names.lookup x=_\/(relabel scope X.env).names.lookup x=_;unfold relabel;dsimp only;rw[t3,hfx];simp only[SB];split
       ·exact .inl rfl
       ·exact .inr rfl
      refine⟨hrl,c,?_,l3.keeps λb o e=>old b o e⟩;show cs.lookup x=some c;obtain⟨c',hc'⟩:=hX.has x hrl;have hc2:cs.lookup x=some c':=hc';rw[hc2];have hm:=PySem.mem_of_lookup hc2
      have:X.env.cells.lookup x=some c':=by
       rcases csM _ hm with z | ⟨_,z,_⟩
       ·exact z
       ·have:=i8 k3 z;have h2:scope.names.lookup x=some .cell:=this;rw[hfx]at h2;cases h2
      rw[l2]at this;exact this.symm
  ·rcases csM _ (PySem.mem_of_lookup (show cs.lookup x=some c from e)) with z | ⟨_,_,z⟩
   ·obtain⟨v,q⟩:=I2.cell _ _ z;exact⟨v,q.keeps λb o e=>old b o e⟩
   ·exact⟨none,z⟩
  ·show upd H2 s2.heap.objs.size u0 C=none;rw[e6 (show @Ne Nat C s2.heap.objs.size by omega)];exact hCn
  ·have hne:c≠s2.heap.objs.size/\H2 c=none:=by
    rcases csM _ (PySem.mem_of_lookup (show cs.lookup x=some c from e)) with z | ⟨z,_,_⟩
    ·exact⟨R5 (cellLt _ _ z),I2.freeC _ _ z⟩
    ·have z2:@LE.le Nat _ (C+1) c:=z;exact⟨show @Ne Nat c s2.heap.objs.size by omega,I2.hok.fresh (show @LE.le Nat _ s2.heap.objs.size c by omega)⟩
   rw[e6 hne.1];exact hne.2
  ·obtain⟨e,n,ne,nf,d⟩:=I2.pin p hp;have hlt:@LT.lt Nat _ p.1 s2.heap.objs.size:=Qw e;refine⟨old _ _ e,?_,?_,stkNe _ ne nf,d⟩
   ·rw[e6 (R5 hlt)];exact n
   ·show @Ne Nat p.1 C;omega
  ·show(Ag own.length js σ).length=(own++cn).length;unfold Ag;have hl:=congrArg Ta k7;simp only[Qr]at hl;simp[hl]
 have stat:∀{H':Hp},(∀ b∈fp,H' b=none)->∀ b∈fp,FpOk (i0 X scope (own++cn) s2 H2 cs C fp) pq H' b:=λhn b hb=>by
  obtain⟨f0,f1,f2',f3,f4,f5⟩:=f2 b hb;exact⟨hn b hb,(hX.exf b hb).1,stkNe b f1 f2',.inl hb,λx c e=>(hX.exf b hb).2 x c e,f5⟩
 have back:∀{σ':St} {H':Hp} {s':UU},Inv (i0 X scope (own++cn) s2 H2 cs C fp) pq σ' H' s'->Inv X pq σ H' s':=λ{σ' H' s'} J'=>
  I2.call' (ch:=fp) J'.os J'.base J'.hok J'.bare λb hb=>by
   obtain⟨f0,f1,f2',f3,f4,f5⟩:=f2 b hb;exact⟨f3,f1,f4,f5⟩
 obtain⟨W,⟨m0,w0⟩,turn⟩:=hW
 have loop:codeAny (UZ X.prog X.w) X.A (.compLoop E 0 (.ref it) (.ref s2.heap.objs.size) (Va scope cs C X.env)) (RR (.ref s2.heap.objs.size) C) {s2 with heap:=h4}:=by
  refine F.loop (λn s'=>∃ i ys H',Inv (i0 X scope (own++cn) s2 H2 cs C fp) pq (Ag own.length js σ) H' s'/\tn i s'.heap/\(∀ b∈fp,H' b=none)/\W i n ys H') ?_ m0
   ⟨0,a0,_,I4,T.keep _ _ _ st2 λb hb o e=>old b o e,λb hb=>?_,w0⟩
  ·rintro n s3 ⟨i,ys,H3,I3,st3,fr3,w3⟩;rcases turn i n ys H3 w3 with⟨stop,q⟩ | ⟨go,N,hN,step⟩
   ·refine thn (T.done (i0 X scope (own++cn) s2 H2 cs C fp) rfl rfl rfl hc i pq s3 _ H3 _ I3 (stat fr3) st3 stop) λr s4 ⟨hr,I5⟩=>?_;subst hr;obtain⟨m,hn,_⟩:=I5.loc;exact hRR C H3 s4 (back I5) (I2.fpOk (show @LE.le Nat _ s2.heap.objs.size C by omega) I5.free) ⟨m,hn⟩ q
   ·refine thn (T.item (i0 X scope (own++cn) s2 H2 cs C fp) rfl rfl rfl hc i pq s3 _ H3 _ I3 (stat fr3) st3 go) λr s4 ⟨u,hr,h4'⟩=>?_;subst hr;refine thn h4' λ_ s5 ⟨x,H5,I5,r5,y5,st5,fr5⟩=>?_;have I5':=I5.pinned (stat fr5) (T.obj _ _ st5);refine thn (hg s2 H2 cs C fp _ s5 _ H5 x u _ I5' r5 (step x H5 y5)) λ_ s6 ⟨σ6,H6,I6,q6⟩=>?_;refine thn (ht s2 H2 cs C fp _ s6 σ6 H6 _ I6 q6) λb s7 ⟨H7,I7,q7⟩=>?_
    have again:∀{σ8:St} {H8:Hp} {s8:UU} {ys8:α},Inv (i0 X scope (own++cn) s2 H2 cs C fp) (pq++B4 fp s5.heap) σ8 H8 s8->(∀(j:Nat) v,(Ag own.length js σ)[j]?=some (some v)->σ8[j]?=some (some v))->(∃ m',m'<n/\W (i+1) m' ys8 H8)->
     ∃ m,m<n/\∃ i ys H',Inv (i0 X scope (own++cn) s2 H2 cs C fp) pq (Ag own.length js σ) H' s8/\tn i s8.heap/\(∀ b∈fp,H' b=none)/\W i m ys H':=λ{σ8 H8 s8 ys8} I8 hw8 ⟨m',hm,w8⟩=>by
     refine⟨m',hm,i+1,ys8,H8,I8.unpinned.weak (by rw[I8.len,I4.len]) hw8,T.keep _ _ _ st5 λb hb o e=>(I8.pin (b,o) (RQ _ (RQ _ (Ab hb e)))).1,λb hb=>?_,w8⟩;obtain⟨o,e,d⟩:=T.obj _ _ st5 b hb;exact(I8.pin (b,o) (RQ _ (RQ _ (Ab hb e)))).2.1
    have capK:∀{σ8:St} {H8:Hp} {s8:UU},Inv (i0 X scope (own++cn) s2 H2 cs C fp) (pq++B4 fp s5.heap) σ8 H8 s8->Inv (i0 X scope (own++cn) s2 H2 cs C fp) (pq++B4 fp s5.heap) (Ag own.length js σ) H8 s8:=λ{σ8 H8 s8} I8=>by
     have IX:=back I8.unpinned;refine⟨I8.ok,I8.os,I8.bare,I8.base,?_,I8.cell,I8.free,I8.freeC,I8.pin,I8.hok,I4.len⟩;obtain⟨m,hn,_⟩:=I8.loc;refine⟨m,hn,λi x v e1 e2 e3=>?_⟩;obtain⟨mx,hnx,hlx⟩:=IX.loc
     have hi:own.length<=i:=by
      rcases SU i own.length with z | z
      ·exfalso;unfold Ag at e2;rw[R6 (by simpa using z),Rh,iP z]at e2;cases e2
      ·exact z
     have e1':cn[i - own.length]?=some x:=by
      have:(own++cn)[i]?=some x:=e1;rw[RM hi]at this;exact this
     have e2':(js.map λj=>(σ[j]?).join)[i - own.length]?=some (some v):=by
      unfold Ag at e2;rw[RM (by simpa using hi)]at e2;simpa using e2
     rw[R8]at e2';cases hj:js[i - own.length]? with
     | none=>rw[hj]at e2';cases e2'
     | some j=>
       rw[hj]at e2';have e2'':(σ[j]?).join=some v:=by simpa using e2'
       have hσ:σ[j]?=some (some v):=by
        cases q:σ[j]? with
        | none=>rw[q]at e2'';cases e2''
        | some z=>rw[q]at e2'';simp at e2'';rw[e2'']
       have hNx:X.N[j]?=some x:=by
        have:=congrArg (λl=>l[i - own.length]?) k7;simp only[R8,hj,e1',SB]at this;exact oj this
       have hfx:scope.names.lookup x=some .free:=k5 x (R1 e1');have hK':X.env.kindOf x=some .cell\/X.env.kindOf x=some .free:=hfreeK (x,.free) (PySem.mem_of_lookup hfx) rfl
       have hvis:Vis X.env.scope x:=by
        rcases hK' with z | z
        ·exact .inr (.inl z)
        ·exact .inr (.inr z)
       obtain⟨u,r,l⟩:=hlx j x v hNx hσ hvis;refine⟨u,r,.inr ?_⟩;rcases l with⟨l1,_⟩ | ⟨l1,c,l2,l3⟩
       ·rcases hK' with z | z
        ·rw[z]at l1;cases l1
        ·rw[z]at l1;cases l1
       ·have hrl:(Va scope cs C X.env).kindOf x=some .cell\/(Va scope cs C X.env).kindOf x=some .free:=by
         show(relabel scope X.env).names.lookup x=_\/(relabel scope X.env).names.lookup x=_;unfold relabel;dsimp only;rw[t3,hfx];simp only[SB];split
         ·exact .inl rfl
         ·exact .inr rfl
        refine⟨hrl,c,?_,l3⟩;show cs.lookup x=some c;obtain⟨c',hc'⟩:=hX.has x hrl;have hc2:cs.lookup x=some c':=hc';rw[hc2];have hm:=PySem.mem_of_lookup hc2
        have:X.env.cells.lookup x=some c':=by
         rcases csM _ hm with z | ⟨_,z,_⟩
         ·exact z
         ·have:=i8 k3 z;have h2:scope.names.lookup x=some .cell:=this;rw[hfx]at h2;cases h2
        rw[l2]at this;exact this.symm
    cases b with
    | false=>
      rw[iG Qz];rw[iG Qz]at q7;exact again (capK I7) (λ_ _ e=>e) (hN _ _ q7)
    | true=>
      rw[iP rfl];rw[iP rfl]at q7;exact thn (hem _ s2 H2 cs C fp _ s7 σ6 H7 _ _ I7 q7) λ_ s9 ⟨σ9,a9,H9,I9,q9⟩=>again (capK I9) (λ_ _ e=>e) (hN _ _ q9)
  ·obtain⟨f0,_⟩:=f2 b hb;obtain⟨o,ho,_⟩:=T.obj 0 _ st2 b hb;rw[e6 (R5 (Qw ho))];exact f0
 exact F.start loop (T.self _ 0 _ _ _ (T.keep _ _ _ st2 λb hb o e=>old b o e) loop)
theorem C0(hok:v0 X.env.scope scope own cn X.N js=true)(hc:X.calm=true)
 (hg:∀ s2 H2 cs C fp,PG (i0 X scope (own++cn) s2 H2 cs C fp) tg g) (ht:∀ s2 H2 cs C fp,CV (i0 X scope (own++cn) s2 H2 cs C fp) ifs tt) (he:∀ s2 H2 cs C fp,PE (i0 X scope (own++cn) s2 H2 cs C fp) elt te)
 (I2:Inv X pq σ H2 s2) {it:UV} {fp:List UV} {tn:Nat->Heap->Prop} {J:It} (T:Turn X.prog X.w X.K tg J fp it tn) (st2:tn 0 s2.heap) (f2:∀ b∈fp,FpOk X pq H2 b)
 {Qe:Hp->Prop} (hW:∃ W:Nat->Nat->List V->Hp->Prop,(∃ m,W 0 m [] (upd H2 s2.heap.objs.size (.lst [])))/\Mv J g tt te s2.heap.objs.size (Ag own.length js σ) (λ_ H=>Qe H) W)
 {RR:UT->UV->Result->UU->Prop}
 (hRR:∀ C H' s',Inv X pq σ H' s'->FpOk X pq H' C->(∃ m,s'.heap.Ns C m)->Qe H'->RR (.ref s2.heap.objs.size) C (.ok .next) s'):
 UX (UZ X.prog X.w) X.A (newList []) (λacc s₃=>UX (UZ X.prog X.w) X.A (VS scope X.env.globals (r6 X.env scope.names []) [] X.env.qual none .none (some X.env)) (λcenv s₄=>
  codeAny (UZ X.prog X.w) X.A (.compStart (.ListComp elt [⟨tg,iter,ifs,0⟩] scope pos) 0 (.ref it) acc {cenv with scope:=relabel scope X.env}) (RR acc cenv.locals) s₄) X.xe s₃) X.xe s2:=by
 obtain⟨W,w0,hw⟩:=hW;refine Dv (RR:=RR) (a0:=[]) (o0:={cls := .type "list",dict:=none,data := .seq ([]:List UT).toArray}) (u0 := .lst []) (tem:=QW te) FG (λhq=>Ut hq) rfl (λ_ _ hD=>⟨Rz _,[],0,.nil,hD⟩) hok hc hg ht (λD s2 H2 cs C fp pq s σ H ys N I h=>?_) I2 T st2 f2 ⟨W,w0,hw⟩ hRR;refine US (thn (he s2 H2 cs C fp _ s σ H _ I h) λy s8 ⟨v,H8,I8,r8,hD8,hz8,q8⟩=>?_);refine US (thn (BU (X:=i0 X scope (own++cn) s2 H2 cs C fp) _ s8 σ H8 (.ref D) [v] (.ref D) [y] (λ_ H9=>H9=upd H8 D (.lst (ys++[v]))) I8 rfl (.cons r8 .nil) ⟨_,ys,v,rfl,rfl,hD8,hz8,rfl⟩) λ_ s9 ⟨z,H9,I9,r9,e9⟩=>?_);subst e9;exact UW ⟨_,_,_,I9,q8⟩
theorem LX{wi:TI}(own cn:List Str)(js:List Nat)(hi:PI X tg iter wi)(hg:∀ s2 H2 cs C fp,PG (i0 X scope (own++cn) s2 H2 cs C fp) tg g)(ht:∀ s2 H2 cs C fp,CV (i0 X scope (own++cn) s2 H2 cs C fp) ifs tt)
 (he:∀ s2 H2 cs C fp,PE (i0 X scope (own++cn) s2 H2 cs C fp) elt te) (hc:X.calm=true:=by rfl) (hok:v0 X.env.scope scope own cn X.N js=true:=by kernel_rfl)
 (hs:∀ x,VJ iter X.env x=pure x:=by intro _;rfl):PE X (.ListComp elt [⟨tg,iter,ifs,0⟩] scope pos) (J6 wi g tt te own.length js):=by
 intro pq s σ H Q I h;have hok':=hok;unfold v0 at hok';simp only[Qp,dQ,RB,RU,RG,decide_eq_false_iff_not]at hok';obtain⟨⟨⟨⟨⟨⟨k1,k2⟩,k3⟩,k4⟩,k5⟩,k6⟩,k7⟩:=hok'
 have hfree:∀ x∈scope.names,x.2 = .free->∃ c,X.env.cells.lookup x.1=some c:=λx hx hf=>I.ok.has x.1 (by
  rcases k2 x hx with(z | z) | z
  ·exact absurd hf z
  ·exact .inl z
  ·exact .inr z)
 rw[eval_ListComp];refine VX (use:=none) rfl hs (AS hfree) k1 (λx hx hl=>?_) (thn (hi pq s σ H _ I h) λv s1 h1=>thn h1 λitv s2 h2=>?_)
 ·have:=i8 k3 (show(x.1,x.2)∈scope.names from hx);rw[this,hl]
 ·obtain⟨it,fp,tn,J,H2,e,I2,T,st2,f2,q⟩:=h2;subst e;refine C0 (RR:=λacc C=>compPost (UZ X.prog X.w) X.A X.xe none (EP X pq σ Q) acc C) hok hc hg ht he I2 T st2 f2 (q _ I2.fresh) ?_;intro C H' s' I' fC ⟨m,hn⟩ q';obtain⟨f0,f1,f2',f3,f4,f5⟩:=fC;refine⟨m,hn,λh' hs'=>⟨.ref s2.heap.objs.size,H',?_,rfl,q'⟩⟩;exact I'.turned (t':=s'.toks) (λb o hb e=>(hs'.2 b hb).trans e) f0 f1 f3 f4 f5
theorem FH{wi:TI}{i:Nat}{x:Str}{px spos:Pos}(own cn:List Str)(js:List Nat)(hN:X.N.Nodup)(hix:X.N[i]?=some x)(hx:X.env.scope.names.lookup x=some .local)(hi:PI X tg iter wi)
 (hg:∀ s2 H2 cs C fp,PG (i0 X scope (own++cn) s2 H2 cs C fp) tg g) (ht:∀ s2 H2 cs C fp,CV (i0 X scope (own++cn) s2 H2 cs C fp) ifs tt)
 (he:∀ s2 H2 cs C fp,PE (i0 X scope (own++cn) s2 H2 cs C fp) elt te) (hc:X.calm=true:=by rfl) (hok:v0 X.env.scope scope own cn X.N js=true:=by kernel_rfl)
 (hsw:V2 (.ListComp elt [⟨tg,iter,ifs,0⟩] scope pos) (some (.Name x px)) spos.line X.env=pure true:=by rfl)
 (hs:∀ x,VJ iter X.env x=pure x:=by intro _;rfl):PS X (.Assign [.Name x px] (.ListComp elt [⟨tg,iter,ifs,0⟩] scope pos) spos) (HR (J6 wi g tt te own.length js) (G0 i)):=by
 intro pq s σ H D I h;have hok':=hok;unfold v0 at hok';simp only[Qp,dQ,RB,RU,RG,decide_eq_false_iff_not]at hok';obtain⟨⟨⟨⟨⟨⟨k1,k2⟩,k3⟩,k4⟩,k5⟩,k6⟩,k7⟩:=hok'
 have hfree:∀ x∈scope.names,x.2 = .free->∃ c,X.env.cells.lookup x.1=some c:=λx hx hf=>I.ok.has x.1 (by
  rcases k2 x hx with(z | z) | z
  ·exact absurd hf z
  ·exact .inl z
  ·exact .inr z)
 rw[exec_Assign_Name_used _ _ _ _ hsw];refine US (Vu (US ?_));show UX _ X.A (do let _ <- comprehension (.ListComp elt [⟨tg,iter,ifs,0⟩] scope pos) scope X.env _ (newList []) false (eval iter X.env) (some (assign (.Name x px) X.env))) _ _ s
 refine US (V6 (VX (use:=some (assign (.Name x px) X.env)) (Q:=λ_ s'=>SP X pq D .next s') rfl hs (AS hfree) k1 (λx hx hl=>?_)
  (thn (hi pq s σ H _ I h) λv s1 h1=>thn h1 λitv s2 h2=>?_)) (λ_ s' hq=>UW (UW hq)) λ_ _ e=>e)
 ·have:=i8 k3 (show(x.1,x.2)∈scope.names from hx);rw[this,hl]
 ·obtain⟨it,fp,tn,J,H2,e,I2,T,st2,f2,q⟩:=h2;subst e;refine C0 (RR:=λacc C=>compPost (UZ X.prog X.w) X.A X.xe (some (assign (.Name x px) X.env)) (λ_ s'=>SP X pq D .next s') acc C) hok hc hg ht he I2 T st2 f2 (q _ I2.fresh) ?_;intro C H' s' I' fC ⟨m,hn⟩ q';obtain⟨f0,f1,f2',f3,f4,f5⟩:=fC;show UX _ X.A (assign (.Name x px) X.env (.ref s2.heap.objs.size)) _ _ _;refine W3 (Cg I' hN hix (.inl hx) (v := .ref s2.heap.objs.size) rfl (λs3 I3 hch=>?_) (.inr hx));obtain⟨a,hsb,ha⟩:=hch
  have hCa:C≠a:=by
   rcases ha with z | z
   ·rw[z];exact f1
   ·exact λe=>f4 x a z e.symm
  refine⟨m,hn.sameBut hsb hCa,λh' hs'=>?_⟩;exact⟨_,H',I3.turned (t':=s3.toks) (λb o hb e=>(hs'.2 b hb).trans e) f0 f1 f3 f4 f5,q'⟩
end
end L2
namespace PySem
open AutoSeq1 (wpAny_loadPart')
section
variable{prog:Ua}{w:Ud}{A:Uj}{E:UT->UU->Prop}{s:UU}
theorem Ai{it l:UV}{i:Nat}{items}{x:UT}{Q:UT->UU->Prop}(hit:s.heap.IsTupleIter it l i)
 (hl:s.heap.IsTuple l items) (hx:items[i]?=some x)
 (hQ:∀ h',h'.IsTupleIter it l (i+1)->Rk it s.heap h'->Q x {s with heap:=h'}):
 UX (UZ prog w) A (Builtin.SmallTypes.nextOf (.ref it)) Q E s:=by
 obtain⟨o,ho,hc,hd⟩:=id hit;obtain⟨ol,hol,_,nl,hdl⟩:=hl;unfold Builtin.SmallTypes.nextOf
 refine US (Uo (name:=Str.ofString "__next__") hit.typeIs F.slot_tuple_iterator_next
  (Uw F.slot_tuple_iterator_next hit.typeIs F.entry_tuple_iterator_next ?_ (F.args_tuple_iterator_next_1 _)))
 show UX _ _ (field (.ref it) 0 >>= _) _ _ s;refine US (Ul ho hd (x := .ref l) rfl ?_);show UX _ _ (if (Value.ref l == Value.none)=true then _ else _) _ _ s;rw[iG (show ¬ ((Value.ref l == Value.none)=true) from Qz)];show UX _ _ (field (.ref it) 1 >>= _) _ _ s;refine US (Ul ho hd (x := .int i 0) rfl ?_);show UX _ _ (seqItems? (.ref l) >>= _) _ _ s;refine US (V4 hol hdl ?_);simp only[Sd,hx];refine US (WX ho hd (by simp) (UW ⟨x,rfl,UW (hQ _ ?_ (Rk.update ..))⟩))
 exact⟨_,Si _ ho (Obj.isFreed_of_fields (Obj.data_mapFields hd _)),(Obj.cls_mapFields ..).trans hc,by
  rw[Obj.data_mapFields hd];simp[rawInt]⟩
theorem Al{it l:UV}{i:Nat}{items}{Q:UT->UU->Prop}(hh:A.handled=none)
 (hit:s.heap.IsTupleIter it l i) (hl:s.heap.IsTuple l items) (hx:items[i]?=none)
 (hE:∀ h' e,Heap.ExtBut it s.heap h'->(∃ o,h'.get? e=some o/\o.cls = .type "StopIteration")->E (.ref e) {s with heap:=h'}):
 UX (UZ prog w) A (Builtin.SmallTypes.nextOf (.ref it)) Q E s:=by
 obtain⟨o,ho,hc,hd⟩:=id hit;obtain⟨ol,hol,_,nl,hdl⟩:=hl;unfold Builtin.SmallTypes.nextOf
 refine US (Uo (name:=Str.ofString "__next__") hit.typeIs F.slot_tuple_iterator_next
  (Uw F.slot_tuple_iterator_next hit.typeIs F.entry_tuple_iterator_next ?_ (F.args_tuple_iterator_next_1 _)))
 show UX _ _ (field (.ref it) 0 >>= _) _ _ s;refine US (Ul ho hd (x := .ref l) rfl ?_);show UX _ _ (if (Value.ref l == Value.none)=true then _ else _) _ _ s;rw[iG (show ¬ ((Value.ref l == Value.none)=true) from Qz)];show UX _ _ (field (.ref it) 1 >>= _) _ _ s;refine US (Ul ho hd (x := .int i 0) rfl ?_);show UX _ _ (seqItems? (.ref l) >>= _) _ _ s;refine US (V4 hol hdl ?_);simp only[Sd,hx];refine US (VA (US (WX ho hd (by simp) ?_)))
 first
  | refine US (WK ?_)
  | skip
 show UX _ _ (newExc (.type "StopIteration") [] >>= _) _ _ _;refine US ?_;simp only[newExc,newTuple];refine US (Ut ?_ (by size_fits));refine US (m:=WY _ _) (wpAny_of_eq (a:=Value.none) (by first | rfl | (simp only[WY];rfl)) ?_);refine Ut ?_ (by size_fits);simp only[raiseNew];refine US (wpAny_handled ?_)
 first | rw[show A.in1.handled=none from hh] | rw[hh]
 refine US (UW (wpAny_throw ?_));exact hE _ _ (((Rk.update ..).extBut.push _).push _) ⟨_,Qx _ rfl,rfl⟩
end
theorem w6{prog:Ua}{w:Ud}{A:Uj}(hh:A.handled=none)(it l:UV)(hne:l≠it)(items:Array UT):
 Draws prog w A it [it,l] items.size (λi v=>items[i]?=some v) (λi h=>h.IsTupleIter it l i/\h.IsTuple l items) where
 live:=λ_ _ st=>let ⟨o,ho,_⟩:=st.1;⟨o,ho⟩
 frame:=λ_ _ _ st hk=>⟨st.1.at λo e=>hk it (by simp) o e,let ⟨o,ho,r⟩:=st.2;⟨o,hk l (by simp) o ho,r⟩⟩
 item:=λi s Q E hi st hQ=>by
  refine Ai st.1 st.2 (x:=items[i]) (by simp[hi]) λh' hit' hs'=>?_;exact hQ _ h' s.toks (by simp[hi]) ⟨hit',st.2.extBut hs'.extBut hne⟩ hs'
 done:=λs Q E st hE=>Al hh st.1 st.2 (by simp) hE
theorem B6(l:UV)(items:Array UT)(n:Nat)(dct:Option UV)(sl:Array (Option UT)):
 Meets (Builtin.«enumerate.__new__» ⟨[.type "enumerate",.ref l],[]⟩) (λ_ R s=>s.heap.get? l=some {cls := .type "tuple",dict:=dct,data := .seq items n,slots:=sl}/\
  R (.ok (.ret (.ref (s.heap.push {cls := .type "tuple_iterator",data := .fields #[.ref l,.int 0 0]}).objs.size)))
   {s with heap:=(s.heap.push {cls := .type "tuple_iterator",data := .fields #[.ref l,.int 0 0]}).push {cls := .type "enumerate",data := .fields #[.none,.bool false,.ref s.heap.objs.size,rawInt 0,.none,.none]}}):=
 .of_wp λprog w A R s h=>by
  obtain⟨hp,g,d,tk,os⟩:=s;obtain⟨hl,h⟩:=h;have hsub:=sub_enumerate;have hL:UG (Shared.heap ⟨hp,g,d,tk,os⟩) l items:=⟨_,hl,rfl,n,rfl⟩
  wp_walk using wpAny_loadPart' hl
  refine wpAny_stack_any λst=>UW ?_;split
  ·rename_i c _ _ _ _ _;cases(c == Value.type "enumerate")
   ·wp_walk using wpAny_loadPart' hl,Uz hL
    exact⟨_,rfl,h⟩
   ·wp_walk using wpAny_loadPart' hl,Uz hL
    exact⟨_,rfl,h⟩
  ·wp_walk using wpAny_loadPart' hl,Uz hL
   exact⟨_,rfl,h⟩
section
variable{prog:Ua}{w:Ud}{A:Uj}{E:UT->UU->Prop}{s:UU}
theorem AL{l:UV}{items:Array UT}{Q:UT->UU->Prop}(hL:s.heap.IsTuple l items)
 (h:∀ h',IsEnum h' (s.heap.objs.size+1) s.heap.objs.size 0 .none->h'.IsTupleIter s.heap.objs.size l 0->h'.objs.size=s.heap.objs.size+2->
   (∀ b o,s.heap.get? b=some o->h'.get? b=some o)->Q (.ref (s.heap.objs.size+1)) {s with heap:=h'}):
 UX (UZ prog w) A (call (.type "enumerate") [.ref l]) Q E s:=by
 obtain⟨⟨c,dct,dt,sl⟩,hl,hc,n,hd⟩:=hL;replace hc:c = .type "tuple":=hc;replace hd:dt = .seq items n:=hd;subst hc hd
 refine callType_new F.called_enumerate (by decide) (F.typeCall_enumerate_1 _) (F.newCall_enumerate_1 _) (λobj=>F.args_object_init_2 obj _) F.entry_enumerate_new
  (B6 l items n dct sl) ⟨hl,?_⟩
 have hz:(s.heap.push {cls := .type "tuple_iterator",data := .fields #[.ref l,.int 0 0]}).objs.size=s.heap.objs.size+1:=RT ..;show _/\_;rw[hz]
 have he:IsEnum ((s.heap.push {cls := .type "tuple_iterator",data := .fields #[.ref l,.int 0 0]}).push
  {cls := .type "enumerate",data := .fields #[.none,.bool false,.ref s.heap.objs.size,rawInt 0,.none,.none]}) (s.heap.objs.size+1) s.heap.objs.size 0 .none:=by
  have:=Qx (s.heap.push {cls := .type "tuple_iterator",data := .fields #[.ref l,.int 0 0]})
   (o:={cls := .type "enumerate",data := .fields #[.none,.bool false,.ref s.heap.objs.size,rawInt 0,.none,.none]}) rfl
  rw[hz]at this;exact this
 refine⟨⟨_,he,rfl⟩,h _ he ⟨_,Qq _ (Qx _ rfl),rfl,rfl⟩ (by rw[RT,hz]) λb o x=>Qq _ (Qq _ x)⟩
end
end PySem
namespace L2
open PySem PySem.Spec PyProof.Rows
section
variable{X:Cx}{pq:List (UV×Obj)}{σ:St}{H:Hp}{s:UU}{h':Heap}
theorem Inv.turnedL{t':Nat}{ch:List UV}(I:Inv X pq σ H s)(k:∀ b o,b∉ch->s.heap.get? b=some o->h'.get? b=some o)(hf:∀ b∈ch,FpOk X pq H b):Inv X pq σ H {s with heap:=h',toks:=t'}:=by
 have nit:∀ b u,H b=some u->b∉ch:=λb u e z=>by rw[(hf b z).1]at e;cases e
 refine I.step (g':=s.gens) (d':=s.drawn) (ch:=ch) (λb hb=>?_) (λb o _ _ hc e _=>k b o hc e) (λb o _ _ hc e _=>⟨o.slots,k b o hc e⟩) (λ_ _ _ _ n=>n)
  (λb o hc e=>⟨o,k b o hc e⟩) (λ_ _ e=>e) (λ_ _ _ e=>e) (λb ps e=>⟨#[],by rw[e];simp⟩) (λm hm=>?_) (λb u e=>?_) I.bare
 ·obtain⟨f0,f1,f2,f3,f4,f5⟩:=hf b hb;exact⟨f3,f1,f4,f5⟩
 ·obtain⟨o,es,ep,ho,r⟩:=hm;exact⟨o,es,ep,k _ o (λz=>(hf _ z).2.1 rfl) ho,r⟩
 ·refine(I.hok b u e).stay (λc v hc q=>k c v ?_ q) (λ_ q=>q) λ_ _ q=>q;rcases hc with z | z
  ·rw[z];exact nit b u e
  ·exact nit c _ z
theorem Inv.turnLay{t':Nat}{ch:List UV}{o:HO}(I:Inv X pq σ H s)(k:∀ b u,b∉ch->s.heap.get? b=some u->h'.get? b=some u)(hf:∀ b∈ch,FpOk X pq H b)
 (new:ObjOk X.prog X.w (upd H s.heap.objs.size o) h' s.heap.objs.size o):Inv X pq σ (upd H s.heap.objs.size o) {s with heap:=h',toks:=t'}:=by
 have hT:H s.heap.objs.size=none:=I.fresh;have nit:∀ b u,H b=some u->b∉ch:=λb u e z=>by rw[(hf b z).1]at e;cases e
 have lt:∀ b u,s.heap.get? b=some u->b≠s.heap.objs.size:=λb u e=>R5 (Qw e)
 refine I.step (g':=s.gens) (d':=s.drawn) (ch:=ch) (λb hb=>?_) (λb o _ _ hc e _=>k b o hc e) (λb o _ _ hc e _=>⟨o.slots,k b o hc e⟩) (λb u _ e n=>by rw[e6 (lt b u e)];exact n)
  (λb o hc e=>⟨o,k b o hc e⟩) (λb xs e=>by rw[e6 (f9 e hT)];exact e) (λb u xs e=>by rw[e6 (f9 e hT)];exact e) (λb ps e=>⟨#[],by rw[e6 (f9 e hT),e];simp⟩) (λm hm=>?_) (λb u e=>?_) I.bare
 ·obtain⟨f0,f1,f2,f3,f4,f5⟩:=hf b hb;exact⟨f3,f1,f4,f5⟩
 ·obtain⟨o,es,ep,ho,r⟩:=hm;exact⟨o,es,ep,k _ o (λz=>(hf _ z).2.1 rfl) ho,r⟩
 ·by_cases hb:b=s.heap.objs.size
  ·subst hb;rw[f8]at e;cases e;exact new
  ·rw[e6 hb]at e;refine(I.hok b u e).stay (λc v hc q=>k c v ?_ q) (λc q=>by rw[e6 (f9 q hT)];exact q) λc xs q=>by rw[e6 (f9 q hT)];exact q
   rcases hc with z | z
   ·rw[z];exact nit b u e
   ·exact nit c _ z
end
noncomputable def Np(K:Qo)(a:UV):It:=
 ⟨λi H=>∃ xs x,SqL K H a xs/\xs[i]?=some x,λi H x H'=>∃ p v,H p=none/\x = .ref p/\(∀ xs,SqL K H a xs->xs[i]?=some v)/\H'=upd H p (.tup [.int i,v]),λi H=>∃ xs,SqL K H a xs/\xs.length=i⟩
noncomputable def Nq(K:Qo)(a:UV):It:=
 ⟨λi H=>∃ xs x,SqT K H a xs/\xs[i]?=some x,λi H x H'=>∃ p v,H p=none/\x = .ref p/\(∀ xs,SqT K H a xs->xs[i]?=some v)/\H'=upd H p (.tup [.int i,v]),λi H=>∃ xs,SqT K H a xs/\xs.length=i⟩
theorem DB:2<=UY:=by decide
theorem FI{P:Ua}{w:Ud}{K:Qo}{elts:List Expr}{kx:Nat}{tp:Pos}(a e it:UV)(hei:e≠it)(hae:a≠e)(hai:a≠it):Turn P w K (.Tuple elts kx tp) (Np K a) [e,it] e (λi h=>(∃ old,IsEnum h e it i old)/\h.IsListIter it a i) where
 mem:=by simp
 obj:=λi h st b hb=>by
  rcases R0.mp hb with rfl | hb
  ·obtain⟨⟨old,z⟩,_⟩:=st;exact⟨_,z,λv q=>by cases q⟩
  ·have e':b=it:=by simpa using hb
   subst e';obtain⟨o,q,c,d⟩:=st.2;exact⟨o,q,λv z=>by rw[d]at z;cases z⟩
 keep:=λi h h' st k=>⟨let ⟨old,z⟩:=st.1;⟨old,k e (by simp) _ z⟩,st.2.at λo q=>k it (by simp) o q⟩
 item:=by
  intro X hP hw hK hc i pq s σ H E I hf st hg;subst hP hw hK;obtain⟨xs,x,hq,hx⟩:=hg;obtain⟨its,rv,p,hz⟩:=I.list hq;obtain⟨u,hu,ru⟩:=rv.get hx;obtain⟨⟨old,he⟩,hli⟩:=st
  have hil:i<its.toArray.size:=by
   have:=(gM hu).1;simpa using this
  refine Vb (Draws.list (prog:=X.prog) (w:=X.w) (A:=X.A.in1) (show X.A.in1.handled=none from I.ok.hd hc) it a hai its.toArray) he ⟨hli,p.isList⟩ hil hei (by simp[hei,Ne.symm hae]) λy h' tk hy ho hs' hT hsz hk=>?_
  have hyu:y=u:=by
   have:its.toArray[i]?=some u:=by simpa using hu
   rw[this]at hy;exact(oj hy).symm
  subst hyu;refine⟨_,rfl,?_⟩
  have I1:Inv X pq σ (upd H s.heap.objs.size (.tup [.int i,x])) {s with heap:=h',toks:=tk+1}:=
   I.turnLay (ch:=[e,it]) (λb o hb q=>hk b o (λz=>hb (by simp[z])) (λz=>hb (by simp[z])) q) hf ⟨DB,[.int i tk,y],.cons ⟨tk,rfl⟩ (.cons ru .nil),⟨_,hT,rfl,_,rfl⟩⟩
  refine VT ho λh2 he2 hs2=>?_
  have hfp1:∀ b∈[e,it],FpOk X pq (upd H s.heap.objs.size (.tup [.int i,x])) b:=λb hb=>by
   obtain⟨f0,f1⟩:=hf b hb
   have hbl:b≠s.heap.objs.size:=by
    rcases R0.mp hb with rfl | hb
    ·exact R5 (Qw he)
    ·have e':b=it:=by simpa using hb
     subst e';obtain⟨o,q,_⟩:=hli;exact R5 (Qw q)
   exact⟨by rw[e6 hbl];exact f0,f1⟩
  have I2:Inv X pq σ (upd H s.heap.objs.size (.tup [.int i,x])) {s with heap:=h2,toks:=tk+1}:=
   Inv.turnedL (s:={s with heap:=h',toks:=tk+1}) (t':=tk+1) (ch:=[e,it]) I1 (λb o hb q=>(hs2.2 b (λz=>hb (by simp[z]))).trans q) hfp1
  refine⟨.ref s.heap.objs.size,_,I2,rfl,⟨_,x,I.fresh,rfl,λys hy=>by rw[I.list_inj hy hq];exact hx,rfl⟩,⟨⟨y,by simpa using he2⟩,hs'.1.extBut hs2.extBut (Ne.symm hei)⟩,λb hb=>(hfp1 b hb).1⟩
 done:=by
   intro X hP hw hK hc i pq s σ H E I hf st hg;subst hP hw hK;obtain⟨xs,hq,hx⟩:=hg;obtain⟨its,rv,p,hz⟩:=I.list hq;obtain⟨⟨old,he⟩,hli⟩:=st;have hl:=rv.length;have hn:its.toArray.size=i:=by simp;omega
   refine Vf (Draws.list (prog:=X.prog) (w:=X.w) (A:=X.A.in1) (show X.A.in1.handled=none from I.ok.hd hc) it a hai its.toArray) he (by rw[hn];exact⟨hli,p.isList⟩) λh' eb=>⟨rfl,I.turnedL (t':=s.toks) (ch:=[e,it]) (λb o hb q=>eb b o (λz=>hb (by simp[z])) q) hf⟩
 self:=λ_ _ _ _ _ st h=>let ⟨old,z⟩:=st.1;VL z h
theorem FJ{P:Ua}{w:Ud}{K:Qo}{elts:List Expr}{kx:Nat}{tp:Pos}(a e it:UV)(hei:e≠it)(hae:a≠e)(hai:a≠it):Turn P w K (.Tuple elts kx tp) (Nq K a) [e,it] e (λi h=>(∃ old,IsEnum h e it i old)/\h.IsTupleIter it a i) where
 mem:=by simp
 obj:=λi h st b hb=>by
  rcases R0.mp hb with rfl | hb
  ·obtain⟨⟨old,z⟩,_⟩:=st;exact⟨_,z,λv q=>by cases q⟩
  ·have e':b=it:=by simpa using hb
   subst e';obtain⟨o,q,c,d⟩:=st.2;exact⟨o,q,λv z=>by rw[d]at z;cases z⟩
 keep:=λi h h' st k=>⟨let ⟨old,z⟩:=st.1;⟨old,k e (by simp) _ z⟩,st.2.at λo q=>k it (by simp) o q⟩
 item:=by
  intro X hP hw hK hc i pq s σ H E I hf st hg;subst hP hw hK;obtain⟨xs,x,hq,hx⟩:=hg;obtain⟨its,rv,p,hz⟩:=I.tuple hq;obtain⟨u,hu,ru⟩:=rv.get hx;obtain⟨⟨old,he⟩,hli⟩:=st
  have hil:i<its.toArray.size:=by
   have:=(gM hu).1;simpa using this
  refine Vb (w6 (prog:=X.prog) (w:=X.w) (A:=X.A.in1) (show X.A.in1.handled=none from I.ok.hd hc) it a hai its.toArray) he ⟨hli,p⟩ hil hei (by simp[hei,Ne.symm hae]) λy h' tk hy ho hs' hT hsz hk=>?_
  have hyu:y=u:=by
   have:its.toArray[i]?=some u:=by simpa using hu
   rw[this]at hy;exact(oj hy).symm
  subst hyu;refine⟨_,rfl,?_⟩
  have I1:Inv X pq σ (upd H s.heap.objs.size (.tup [.int i,x])) {s with heap:=h',toks:=tk+1}:=
   I.turnLay (ch:=[e,it]) (λb o hb q=>hk b o (λz=>hb (by simp[z])) (λz=>hb (by simp[z])) q) hf ⟨DB,[.int i tk,y],.cons ⟨tk,rfl⟩ (.cons ru .nil),⟨_,hT,rfl,_,rfl⟩⟩
  refine VT ho λh2 he2 hs2=>?_
  have hfp1:∀ b∈[e,it],FpOk X pq (upd H s.heap.objs.size (.tup [.int i,x])) b:=λb hb=>by
   obtain⟨f0,f1⟩:=hf b hb
   have hbl:b≠s.heap.objs.size:=by
    rcases R0.mp hb with rfl | hb
    ·exact R5 (Qw he)
    ·have e':b=it:=by simpa using hb
     subst e';obtain⟨o,q,_⟩:=hli;exact R5 (Qw q)
   exact⟨by rw[e6 hbl];exact f0,f1⟩
  have I2:Inv X pq σ (upd H s.heap.objs.size (.tup [.int i,x])) {s with heap:=h2,toks:=tk+1}:=
   Inv.turnedL (s:={s with heap:=h',toks:=tk+1}) (t':=tk+1) (ch:=[e,it]) I1 (λb o hb q=>(hs2.2 b (λz=>hb (by simp[z]))).trans q) hfp1
  refine⟨.ref s.heap.objs.size,_,I2,rfl,⟨_,x,I.fresh,rfl,λys hy=>by rw[I.tuple_inj hy hq];exact hx,rfl⟩,⟨⟨y,by simpa using he2⟩,hs'.1.extBut hs2.extBut (Ne.symm hei)⟩,λb hb=>(hfp1 b hb).1⟩
 done:=by
   intro X hP hw hK hc i pq s σ H E I hf st hg;subst hP hw hK;obtain⟨xs,hq,hx⟩:=hg;obtain⟨its,rv,p,hz⟩:=I.tuple hq;obtain⟨⟨old,he⟩,hli⟩:=st;have hl:=rv.length;have hn:its.toArray.size=i:=by simp;omega
   refine Vf (w6 (prog:=X.prog) (w:=X.w) (A:=X.A.in1) (show X.A.in1.handled=none from I.ok.hd hc) it a hai its.toArray) he (by rw[hn];exact⟨hli,p⟩) λh' eb=>⟨rfl,I.turnedL (t':=s.toks) (ch:=[e,it]) (λb o hb q=>eb b o (λz=>hb (by simp[z])) q) hf⟩
 self:=λ_ _ _ _ _ st h=>let ⟨old,z⟩:=st.1;VL z h
section
variable{X:Cx}
noncomputable def Pk(K:Qo)(ta:TA):TI:=λσ H R=>ta σ H λvs H1=>∃ a,vs=[.ref a]/\(((∃ xs,SqL K H1 a xs)/\R (Np K a) H1)\/((∃ xs,SqT K H1 a xs)/\R (Nq K a) H1))
theorem C1:Uc "enumerate"=some (.type "enumerate"):=by decide +kernel
theorem J7:Uc "zip"=some (.type "zip"):=by decide +kernel
theorem LY{a:Expr}{ta:TA}{p pos:Pos}{elts:List Expr}{kx:Nat}{tp:Pos}(hg:Gl X "enumerate")(hm:X.mg "enumerate"=none)(ha:PA X [a] ta)(hs:Ue [a] X.env=[(false,eval a X.env)]:=by rfl):
 PI X (.Tuple elts kx tp) (.Call (.Name "enumerate" p) [a] [] pos) (Pk X.K ta):=by
 intro pq s σ H R I h;refine Call_ (AI I hg hm C1 (PyProof.Rows.callWith_type1 (thn (ha pos pq s σ H _ I h) λus s1 ⟨vs,H1,I1,r1,q1⟩=>?_) hs rfl));obtain⟨l,e,q1⟩:=q1;subst e;cases r1 with
 | cons r rr=>
   cases rr;cases r;rcases q1 with⟨⟨xs,hq⟩,q⟩ | ⟨⟨xs,hq⟩,q⟩
   ·obtain⟨its,rv,pl,hz⟩:=I1.list hq;have hlt:@LT.lt Nat _ l s1.heap.objs.size:=by obtain⟨o,n,e,_⟩:=pl;exact Qw e
    refine call_enumerate_list pl.isList λh' he hli hsz hk=>?_;refine VL he ?_;have I2:Inv X pq σ H1 {s1 with heap:=h'}:=I1.kept (t':=s1.toks) hk;refine⟨s1.heap.objs.size+1,[s1.heap.objs.size+1,s1.heap.objs.size],_,_,H1,rfl,I2,FI l _ s1.heap.objs.size (show @Ne Nat _ _ by omega) (show @Ne Nat _ _ by omega) (show @Ne Nat _ _ by omega),⟨⟨_,he⟩,hli⟩,λb hb=>?_,q⟩
    have hb2:@LE.le Nat _ s1.heap.objs.size b:=by
     rcases R0.mp hb with rfl | hb
     ·exact Sa _
     ·have e:b=s1.heap.objs.size:=by simpa using hb
      rw[e];exact Qs _
    exact I1.fpOk hb2 (I1.hok.fresh hb2)
   ·obtain⟨its,rv,pl,hz⟩:=I1.tuple hq;have hlt:@LT.lt Nat _ l s1.heap.objs.size:=by obtain⟨o,e,_⟩:=pl;exact Qw e
    refine AL (show s1.heap.IsTuple l its.toArray from pl) λh' he hli hsz hk=>?_;refine VL he ?_;have I2:Inv X pq σ H1 {s1 with heap:=h'}:=I1.kept (t':=s1.toks) hk;refine⟨s1.heap.objs.size+1,[s1.heap.objs.size+1,s1.heap.objs.size],_,_,H1,rfl,I2,FJ l _ s1.heap.objs.size (show @Ne Nat _ _ by omega) (show @Ne Nat _ _ by omega) (show @Ne Nat _ _ by omega),⟨⟨_,he⟩,hli⟩,λb hb=>?_,q⟩
    have hb2:@LE.le Nat _ s1.heap.objs.size b:=by
     rcases R0.mp hb with rfl | hb
     ·exact Sa _
     ·have e:b=s1.heap.objs.size:=by simpa using hb
      rw[e];exact Qs _
    exact I1.fpOk hb2 (I1.hok.fresh hb2)
end
theorem Hg(its:List UT)(k:Nat)(y:UT):(its.toArray.extract 0 k).push y++its.toArray.extract k=(its.take k++y::its.drop k).toArray:=by
 apply Array.toList_inj.mp;simp
 first
  | done
  | exact TQ (by simp)
section
variable{X:Cx}
noncomputable def GN:V->List V->Hp->VK->Prop:=λx vs H Q=>∃ l xs i y,x = .ref l/\vs=[.int i,y]/\H l=some (.lst xs)/\0<=i/\i<=xs.length/\xs.length<UY/\Q .non (upd H l (.lst (xs.take i.toNat++y::xs.drop i.toNat)))
theorem Cp:MtM X "list.insert" GN:=by
 intro pq s σ H x vs v us Q I rx rv h;obtain⟨l,xs,i,y,rfl,rfl,hH,h0,h1,hz,q⟩:=h;cases rx;obtain⟨u1,u2,rfl,⟨t,rfl⟩,ru⟩:=Vals.two rv;obtain⟨z,its,n,r,hl,e⟩:=I.lstM hH;have hn:=B5;refine VR F.slot_list_insert ⟨_,e,rfl⟩ F.entry_list_insert (F.args_list_insert_3 _ _ _) (AutoSeq1.list_insert_list_int_val_1 l its.toArray n i t u2 (by rw[WW (by omega) (by omega)];exact Qz) (by rw[Qt];omega)) ⟨e,?_⟩;refine⟨.non,_,I.lset (its':=its.take i.toNat++u2::its.drop i.toNat) hH e ?_ (Vals.append (r.take _) (.cons ru (r.drop _))) ?_,rfl,q⟩
 ·have hk:(if i<0 then (i+(its.toArray.size:Int)).toNat else min i.toNat its.toArray.size)=i.toNat:=by
   rw[iG (by omega),Qt];omega
  show(let k:=if i<0 then (i+(its.toArray.size:Int)).toNat else min i.toNat its.toArray.size;(its.toArray.extract 0 k).push u2++its.toArray.extract k)=_;rw[hk];exact Hg its i.toNat u2
 ·rw[Qv,RL,Rj,SH];omega
noncomputable def AM(xs ys:List V):Bool:=xs.length == ys.length&&(xs.zip ys).all λp=>eqV p.1 p.2
noncomputable def LZ(K:Qo)(neg:Bool):R2:=λx y H Q=>∃ a b xs ys,x = .ref a/\y = .ref b/\SqL K H a xs/\SqL K H b ys/\((xs.all q0=true/\ys.all q0=true)\/xs=[]\/ys=[])/\Q (.bl (if neg then !AM xs ys else AM xs ys)) H
theorem C2{xs ys:List V}(hl:xs.length=ys.length):(Qy xs.length).all (λj=>eqV (xs.getD j .non) (ys.getD j .non))=AM xs ys:=by
 have e1:AM xs ys=(xs.zip ys).all λp=>eqV p.1 p.2:=by unfold AM;simp[hl]
 rw[e1,RZ,RB,RB];constructor
 ·intro h p hp;obtain⟨j,hj,e⟩:=Rr.mp hp;have hj1:j<xs.length:=by simp at hj;omega
  have hj2:j<ys.length:=by omega
  have:=h j (RP.mpr hj1);rw[<-e];simpa[SQ,hj1,hj2] using this
 ·intro h j hj;have hj1:j<xs.length:=RP.mp hj;have hj2:j<ys.length:=by omega
  have:=h (xs[j],ys[j]) (Rr.mpr ⟨j,by simp;omega,by simp⟩);simpa[SQ,hj1,hj2] using this
theorem C3{xs ys:List V}{us ws:List UT}{A:Uj}{s:UU}(r1:Vals xs us)(r2:Vals ys ws)(f:(xs.all q0=true/\ys.all q0=true)\/xs=[]\/ys=[]):
 ∀ j (h1:j<us.toArray.size) (h2:j<ws.toArray.size),SeqAt.EqAt A s us.toArray[j] ws.toArray[j] (eqV (xs.getD j .non) (ys.getD j .non)):=by
 intro j h1 h2;have l1:=r1.length;have l2:=r2.length;simp only[Qt]at h1 h2;have hj1:j<xs.length:=by omega
 have hj2:j<ys.length:=by omega
 obtain⟨f1,f2⟩:xs.all q0=true/\ys.all q0=true:=by
  rcases f with f | f | f
  ·exact f
  ·subst f;simp at hj1
  ·subst f;simp at hj2
 obtain⟨u,eu,ru⟩:=r1.get (i:=j) (x:=xs[j]) (by simp[hj1]);obtain⟨w',ew,rw'⟩:=r2.get (i:=j) (x:=ys[j]) (by simp[hj2])
 have e1:us.toArray[j]=u:=by
  have:=gM eu;obtain⟨_,q⟩:=this;simpa using q
 have e2:ws.toArray[j]=w':=by
  obtain⟨_,q⟩:=gM ew;simpa using q
 rw[e1,e2];have g1:xs.getD j .non=xs[j]:=by simp[SQ,hj1]
 have g2:ys.getD j .non=ys[j]:=by simp[SQ,hj2]
 rw[g1,g2];exact J0 ru rw' (RB.mp f1 _ (Rn hj1)) (RB.mp f2 _ (Rn hj2))
theorem Nr(hu:X.A.units<cLine):OpR X (Ui .Eq) (LZ X.K false):=by
 intro pq s σ H x y v u Q I rx ry h;obtain⟨a,b,xs,ys,rfl,rfl,h1,h2,f,q⟩:=h;cases rx;cases ry;obtain⟨its1,r1,p1,_⟩:=I.list h1;obtain⟨its2,r2,p2,_⟩:=I.list h2;have l1:=r1.length;have l2:=r2.length;by_cases hl:xs.length=ys.length
 ·refine SeqAt.eq_listAt p1.isList p2.isList (by simp;omega) hu (C3 r1 r2 f) ⟨.bl _,H,I,rfl,?_⟩;rw[Qt,<-l1,C2 hl];exact q
 ·refine SeqAt.eq_list_lengthsAt p1.isList p2.isList (by simp;omega) hu ⟨.bl false,H,I,rfl,?_⟩;have e:AM xs ys=false:=by unfold AM;simp[hl]
  rw[show(if false=true then !AM xs ys else AM xs ys)=AM xs ys from rfl,e]at q;exact q
theorem Nt(hu:X.A.units<cLine):OpR X (Ui .NotEq) (LZ X.K true):=by
 intro pq s σ H x y v u Q I rx ry h;obtain⟨a,b,xs,ys,rfl,rfl,h1,h2,f,q⟩:=h;cases rx;cases ry;obtain⟨its1,r1,p1,_⟩:=I.list h1;obtain⟨its2,r2,p2,_⟩:=I.list h2;have l1:=r1.length;have l2:=r2.length;by_cases hl:xs.length=ys.length
 ·refine(SeqAt.RcNeAt.lists p1.isList p2.isList (by simp;omega) hu (C3 r1 r2 f)) _ _ _ _ ?_;refine⟨.bl _,H,I,rfl,?_⟩;rw[Qt,<-l1,C2 hl];exact q
 ·refine(SeqAt.RcNeAt.lists_lengths p1.isList p2.isList (by simp;omega) hu) _ _ _ _ ?_;refine⟨.bl true,H,I,rfl,?_⟩;have e:AM xs ys=false:=by unfold AM;simp[hl]
  rw[show(if true=true then !AM xs ys else AM xs ys)=!AM xs ys from rfl,e]at q;exact q
theorem call_isi1:CallR X (.builtin "isinstance") (λxs H Q=>∃ x T t b,xs=[x,.ty T]/\TyOf X.K H x t/\PySem.W.kitOne X.K t (.type T)=some b/\Q (.bl b) H):=by
 intro pq s σ H xs us Q I r h;obtain⟨x,T,t,b,rfl,ty,e,q⟩:=h;obtain⟨u1,u2,rfl,r1,r2⟩:=Vals.two r;cases r2;exact Hb I r1 ty e λtk=>⟨.bl b,H,I.tok tk,rfl,q⟩
theorem FK{pq:List (UV×Obj)}{σ:St}{H:Hp}{s:UU}{A:Uj}{E:UT->UU->Prop}{Q:UT->UU->Prop}{b:Bool}{x:V}{u t:UT}{tp:UV}{dd:Option UV}{its:List UT}{n:Nat}{sl:Array (Option UT)}(I:Inv X pq σ H s)(rx:RelV x u)(ty:TyOf X.K H x t)
 (htp:s.heap.get? tp=some ⟨.type "tuple",dd,.seq its.toArray n,sl⟩) (e:PySem.W.kitAny X.K t its=some b) (h:∀ tk,Q (.bool b) {s with toks:=tk}):
 UX (UZ X.prog X.w) A (call (.builtin "isinstance") [u,.ref tp]) Q E s:=by
 cases ty with
 | non=>cases(show u=Value.none from rx);exact PySem.W.kia_tup PySem.W.kitx_none I.kIn True.intro htp e (λz=>nomatch z) h
 | bl y=>cases(show u=Value.bool y from rx);exact PySem.W.kia_tup PySem.W.kitx_bool I.kIn True.intro htp e (λz=>nomatch z) h
 | int i=>obtain⟨t,q⟩:=(show ∃ t,u=Value.int i t from rx);cases q;exact PySem.W.kia_tup PySem.W.kitx_int I.kIn True.intro htp e (λz=>nomatch z) h
 | str y=>obtain⟨t,q⟩:=(show ∃ t,u=Value.str y t from rx);cases q;exact PySem.W.kia_tup PySem.W.kitx_str I.kIn True.intro htp e (λz=>nomatch z) h
 | flt y=>obtain⟨t,q⟩:=(show ∃ t,u=Value.float y t from rx);cases q;exact PySem.W.kia_tup PySem.W.kitx_float I.kIn True.intro htp e (λz=>nomatch z) h
 | @lst a xs ea=>
   cases(show u=Value.ref a from rx);obtain⟨_,_,n,_,h1⟩:=(show ObjOk X.prog X.w H s.heap a (.lst xs) from I.hok a _ ea)
   exact PySem.W.kia_tup PySem.W.kitx_list I.kIn ⟨_,h1,rfl⟩ htp e (λz=>nomatch z) h
 | @frz a ob xs ea=>
   cases(show u=Value.ref a from rx);obtain⟨_,_,_,n,_,h1⟩:=(show ObjOk X.prog X.w H s.heap a (.frz ob (.lst xs)) from I.hok a _ ea)
   exact PySem.W.kia_tup PySem.W.kitx_list I.kIn ⟨_,h1,rfl⟩ htp e (λz=>nomatch z) h
 | @tup a xs ea=>
   cases(show u=Value.ref a from rx);obtain⟨_,_,_,p⟩:=(show ObjOk X.prog X.w H s.heap a (.tup xs) from I.hok a _ ea)
   obtain⟨o,h1,h2,_⟩:=p;exact PySem.W.kia_tup PySem.W.kitx_tuple I.kIn ⟨o,h1,h2⟩ htp e (λz=>nomatch z) h
 | @dK a kvs ea=>
   cases(show u=Value.ref a from rx);obtain⟨_,_,vs,_,p⟩:=(show ObjOk X.prog X.w H s.heap a (.dK kvs) from I.hok a _ ea)
   obtain⟨o,es,ep,h1,h2,_⟩:=p;exact PySem.W.kia_tup PySem.W.kitx_dict I.kIn ⟨o,h1,h2.1⟩ htp e (λz=>nomatch z) h
 | @dT a kvs ea=>
   cases(show u=Value.ref a from rx);obtain⟨_,_,xs,_,o,es,ep,h1,h2,_⟩:=(show ObjOk X.prog X.w H s.heap a (.dT kvs) from I.hok a _ ea)
   exact PySem.W.kia_tup PySem.W.kitx_dict I.kIn ⟨o,h1,h2.1⟩ htp e (λz=>nomatch z) h
 | @ins a C dx fs ea cl ha hn htk hm=>
   cases(show u=Value.ref a from rx);obtain⟨mA,O,_⟩:=GF I.hok ea;obtain⟨od,J,_⟩:=O.look;exact PySem.W.kia_tup (PySem.W.kitx_own (cl.get _) cl.hd ha hn htk hm) I.kIn J htp e (λz=>nomatch z) h
theorem GO:∀(Ts:List String) {us:List UT},Vals (Ts.map V.ty) us->us=Ts.map Value.type
 | [],_,.nil=>rfl
 | T::r,_,.cons h t=>by cases h;rw[GO r t];rfl
theorem Hh:CallR X (.builtin "isinstance") (λxs H Q=>∃(x:V) (p:UV) (Ts:List String) (t:UT) (b:Bool),xs=[x,.ref p]/\H p=some (.tup (Ts.map V.ty))/\TyOf X.K H x t/\PySem.W.kitAny X.K t (Ts.map Value.type)=some b/\Q (.bl b) H):=by
 intro pq s σ H xs us Q I r h;obtain⟨x,p,Ts,t,b,rfl,hp,ty,e,q⟩:=h;obtain⟨u1,u2,rfl,r1,r2⟩:=Vals.two r;cases r2;obtain⟨_,its,rv,⟨⟨c,dd,dt,sl⟩,h1,h2,n,h3⟩⟩:=(show ObjOk X.prog X.w H s.heap p (.tup (Ts.map V.ty)) from I.hok p _ hp)
 have ei:=GO Ts rv;subst ei;replace h2:c = .type "tuple":=h2;replace h3:dt = .seq (Ts.map Value.type).toArray n:=h3;subst h2 h3;exact FK I r1 ty h1 e λtk=>⟨.bl b,H,I.tok tk,rfl,q⟩
theorem Hi(hc:X.calm=true):CallR X (.builtin "all") (λxs H Q=>∃(a:UV) (bs:List Bool),xs=[.ref a]/\SqL X.K H a (bs.map V.bl)/\Q (.bl (bs.all id)) H):=by
 intro pq s σ H xs us Q I r h;obtain⟨a,bs,rfl,hq,q⟩:=h;obtain⟨u,rfl,ru⟩:=Af r;cases ru;obtain⟨its,rv,pl,hz⟩:=I.list hq;have hl:=rv.length;rw[Qr]at hl;refine call_all_walk (V9 pl.isList ?_);have hlt:a<s.heap.objs.size:=by obtain⟨o,n,e,_⟩:=pl;exact Qw e
 refine⟨s.heap.objs.size,_,_,_,_,_,λi=>bs.getD i false,rfl,Walks.list (by exact I.ok.hd hc) s.heap.objs.size a (R5 hlt) its.toArray,⟨⟨_,Qx _ rfl,rfl,rfl⟩,pl.isList.push _⟩,?_,λh' tk hk=>?_⟩
 ·intro i v s' Q' E' hv hQ';have hv':its[i]?=some v:=by simpa using hv
  have hi:i<its.length:=(gM hv').1;have hb:(bs.map V.bl)[i]?=some (.bl (bs[i]'(by omega))):=by simp
  obtain⟨u',eu,ru'⟩:=rv.get hb;rw[hv']at eu;cases eu;cases ru';have hg:bs.getD i false=bs[i]'(by omega):=by simp[SQ,show i<bs.length by omega]
  have hQ2:Q' (bs.getD i false) s':=hQ';rw[hg]at hQ2;exact Uk hQ2
 ·have I1:Inv X pq σ H {s with heap:=h',toks:=tk}:=I.kept λb o e=>hk b o (by simp;exact R5 (Qw e)) (Qq _ e);refine⟨.bl _,H,I1,rfl,?_⟩
  have e:(Qy its.toArray.size).all (λi=>bs.getD i false)=bs.all id:=by
   rw[Qt,<-hl,RZ,RB,RB];constructor
   ·intro h b hb;obtain⟨j,hj,e⟩:=Rr.mp hb;have:=h j (RP.mpr hj);simpa[SQ,hj,e] using this
   ·intro h j hj;have hj1:j<bs.length:=RP.mp hj;have:=h bs[j] (Rn hj1);simpa[SQ,hj1] using this
  rw[e];exact q
theorem Hj:CallR X (.type "range") (λxs H Q=>∃ b,xs=[.int b]/\∀ p,H p=none->Q (.ref p) (upd H p (.rng 0 b))):=by
 intro pq s σ H xs us Q I r h;obtain⟨b,rfl,q⟩:=h;obtain⟨u1,rfl,⟨t,rfl⟩⟩:=Af r;refine call_range_1 ⟨.ref s.heap.objs.size,_,I.laid (o := .rng 0 b) (λb o e=>Qq _ e) (Qs _) ⟨_,_,_,Qx _ rfl⟩,rfl,q _ I.fresh⟩
noncomputable def Hk(lo:Int)(n:Nat):List V:=(Qy n).map λ(i:Nat)=>V.int (lo+(i:Int))
theorem Dw(lo:Int)(n:Nat):(Hk lo n).length=n:=by unfold Hk;simp
theorem DC(hc:X.calm=true):CallR X (.type "list") (λxs H Q=>∃ p a b,xs=[.ref p]/\H p=some (.rng a b) /\ -(2 ^ 62)<=a/\a<2 ^ 62 /\ -(2 ^ 62)<=b/\b<2 ^ 62/\(b - a).toNat<=100000/\∀ l,H l=none->Q (.ref l) (upd H l (.lst (Hk a (b - a).toNat)))):=by
 intro pq s σ H xs us Q I r h;obtain⟨p,a,b,rfl,hp,h1,h2,h3,h4,h5,q⟩:=h;obtain⟨u,rfl,ru⟩:=Af r;cases ru;obtain⟨t,u',v,ho⟩:=(show ObjOk X.prog X.w H s.heap p (.rng a b) from I.hok p _ hp)
 have hn:Builtin.Range.rangeSize a b 1=(((b - a).toNat:Nat):Int):=by rw[rangeSize_one];split<;>omega
 refine call_list_range (I.ok.hd hc) (show IsRange s.heap p a b 1 t u' v from ho) (small_one h1 h2 h3 h4) hn (by omega) λh' tk acc c' kp e hi=>?_;have hz:(b - a).toNat<=UY:=RE h5 (by decide);refine⟨.ref s.heap.objs.size,_,I.laid kp (Qs _) (show ObjOk X.prog X.w _ h' _ (.lst (Hk a (b - a).toNat)) from ⟨by rw[Dw];exact hz,acc.toList,c',?_,by simpa using e⟩),rfl,q _ I.fresh⟩;obtain⟨hs,hv⟩:=hi
 have key:∀(n:Nat) (l:List UT) (lo:Int),l.length=n->(∀(j:Nat) (v:UT),l[j]?=some v->∃ t,v=Value.int (lo+(j:Int)) t)->Vals ((Qy n).map λ(i:Nat)=>V.int (lo+(i:Int))) l:=by
  intro n
  induction n with
  | zero=>intro l lo hl _;cases l with | nil=>exact .nil | cons _ _=>simp at hl
  | succ n ih=>
    intro l lo hl hv;cases l with
    | nil=>simp at hl
    | cons x r=>
      rw[List.range_succ_eq_map,RK,Sf];refine .cons ?_ ?_
      ·obtain⟨t,e⟩:=hv 0 x (by simp);exact⟨t,e⟩
      ·have:=ih r (lo+1) (by simpa using hl) λj v hj=>by
        obtain⟨t,e⟩:=hv (j+1) v (by simpa using hj);refine⟨t,?_⟩;rw[e]
        congr 1
        omega
       have e2:((λ(i:Nat)=>V.int (lo+(i:Int)))∘Nat.succ)=λ(i:Nat)=>V.int (lo+1+(i:Int)):=by
        funext i
        show V.int (lo+((i+1:Nat):Int))=V.int (lo+1+(i:Int))
        congr 1
        omega
       rw[e2];exact this
 refine key _ _ a (by simpa using hs) λj v hj=>?_;obtain⟨t,e⟩:=hv j v (by simpa using hj);exact⟨t,by rw[e];congr 1;omega⟩
end
theorem y0:∀{ns:List Int} {us:List UT},Vals (ns.map V.int) us->IntsAre us ns
 | [],_,.nil => .nil
 | _::_,_,.cons ⟨_,e⟩ t=>by subst e;exact .cons _ _ (y0 t)
theorem J8:Uc "sorted"=some (.builtin "sorted"):=by decide +kernel
end L2
set_option maxHeartbeats 1000000
namespace Rf
open PySem L2
inductive TyN where
 | int | bool | str | list | tuple | none
 deriving DecidableEq
noncomputable def TyN.nm:TyN->String
 | .int=>"int" | .bool=>"bool" | .str=>"str" | .list=>"list" | .tuple=>"tuple" | .none=>"NoneType"
inductive SV where
 | non | bl (b:Bool) | int (i:Int) | str (x:Str) | tup (xs:List SV) | loc (k:Nat) | ro (xs:List SV) | ty (t:TyN)
inductive SO where
 | lst (xs:List SV)
 | iset (ms:List Int)
 | dct (kvs:List (Int×SV)) | dcf (o:Obj) (ks:List (Key×V)) (kvs:List (Int×SV))
noncomputable abbrev Sto:=List SO
noncomputable abbrev EnvS:=List (Option SV)
noncomputable def FzL(K:Qo)(H:Hp)(a:UV)(vs:List V):Prop:=(∃ o,H a=some (.frz o (.lst vs)))\/
 ∃(o:Obj) (its:Array UT) (n:Nat),K.lookup a=some o/\o.cls = .type "list"/\o.dict=none/\o.data = .seq its n/\its.size<=UY/\Vals vs its.toList
theorem FzL.sq{K:Qo}{H:Hp}{a:UV}{vs:List V}(h:FzL K H a vs):SqL K H a vs:=h.imp (λ⟨o,e⟩ => .inr ⟨o,e⟩) id
mutual
noncomputable def Rl(K:Qo)(as:List UV)(H:Hp):V->SV->Prop
 | v,.non=>v = .non
 | v,.bl b=>v = .bl b
 | v,.int i=>v = .int i
 | v,.str x=>v = .str x
 | v,.tup xs=>∃ p vs,v = .ref p/\H p=some (.tup vs)/\RlAll K as H vs xs
 | v,.loc k=>∃ a,as[k]?=some a/\v = .ref a
 | v,.ro xs=>∃ a vs,v = .ref a/\FzL K H a vs/\RlAll K as H vs xs
 | v,.ty t=>v = .ty t.nm
noncomputable def RlAll(K:Qo)(as:List UV)(H:Hp):List V->List SV->Prop
 | vs,[]=>vs=[]
 | vs,x::xs=>∃ v r,vs=v::r/\Rl K as H v x/\RlAll K as H r xs
end
noncomputable def imm:HO->Bool
 | .tup _=>true
 | .frz _ (.lst _)=>true
 | _=>false
noncomputable def KeepU(H H':Hp):Prop:=∀ b o,H b=some o->imm o=true->H' b=some o
theorem KeepU.refl(H:Hp):KeepU H H:=λ_ _ h _=>h
theorem KeepU.trans{H H' H'':Hp}(a:KeepU H H')(b:KeepU H' H''):KeepU H H'':=λx o h i=>b x o (a x o h i) i
theorem l6{H:Hp}{p:UV}{o:HO}(hp:H p=none):KeepU H (upd H p o):=λb u h _=>by
 rw[e6 (f9 h hp)];exact h
theorem BY{H:Hp}{a:UV}{u o:HO}(h:H a=some u)(i:imm u=false):KeepU H (upd H a o):=λb v hb iv=>by
 rw[e6 (Mm hb h (by intro z;rw[z,i]at iv;cases iv))];exact hb
theorem FzL.mono{K:Qo}{H H':Hp}{a:UV}{vs:List V}(k:KeepU H H')(h:FzL K H a vs):FzL K H' a vs:=h.imp (λ⟨o,e⟩=>⟨o,k _ _ e rfl⟩) id
theorem Lf{α:Type}{as as':List α}(h:as <+: as'){k:Nat}{a:α}(e:as[k]?=some a):as'[k]?=some a:=by
 obtain⟨t,rfl⟩:=h;rw[R6 ((gM e).1)];exact e
mutual
theorem Rl.mono{K:Qo}{as as':List UV}{H H':Hp}(ha:as <+: as')(hH:KeepU H H'):∀(x:SV) (v:V),Rl K as H v x->Rl K as' H' v x
 | .non,v,h=>by unfold Rl at h ⊢;exact h
 | .bl _,v,h=>by unfold Rl at h ⊢;exact h
 | .int _,v,h=>by unfold Rl at h ⊢;exact h
 | .str _,v,h=>by unfold Rl at h ⊢;exact h
 | .tup xs,v,h=>by
   unfold Rl at h ⊢;obtain⟨p,vs,e,hp,h⟩:=h;exact⟨p,vs,e,hH p _ hp rfl,RlAll.mono ha hH xs vs h⟩
 | .ro xs,v,h=>by
   unfold Rl at h ⊢;obtain⟨p,vs,e,hp,h⟩:=h;exact⟨p,vs,e,hp.mono hH,RlAll.mono ha hH xs vs h⟩
 | .ty _,v,h=>by unfold Rl at h ⊢;exact h
 | .loc k,v,h=>by
   unfold Rl at h ⊢;obtain⟨a,e,z⟩:=h;exact⟨a,Lf ha e,z⟩
theorem RlAll.mono{K:Qo}{as as':List UV}{H H':Hp}(ha:as <+: as')(hH:KeepU H H'):∀(xs:List SV) (vs:List V),RlAll K as H vs xs->RlAll K as' H' vs xs
 | [],vs,h=>by unfold RlAll at h ⊢;exact h
 | x::xs,vs,h=>by
   unfold RlAll at h ⊢;obtain⟨v,r,e,h1,h2⟩:=h;exact⟨v,r,e,Rl.mono ha hH x v h1,RlAll.mono ha hH xs r h2⟩
end
section
variable{K:Qo}{as:List UV}{H:Hp}
theorem rl_non{v:V}:Rl K as H v .non↔v = .non:=by unfold Rl;exact Iff.rfl
theorem rl_bl{v:V}{b:Bool}:Rl K as H v (.bl b)↔v = .bl b:=by unfold Rl;exact Iff.rfl
theorem rl_int{v:V}{i:Int}:Rl K as H v (.int i)↔v = .int i:=by unfold Rl;exact Iff.rfl
theorem rl_str{v:V}{x:Str}:Rl K as H v (.str x)↔v = .str x:=by unfold Rl;exact Iff.rfl
theorem rl_tup{v:V}{xs:List SV}:Rl K as H v (.tup xs)↔∃ p vs,v = .ref p/\H p=some (.tup vs)/\RlAll K as H vs xs:=by rw[Rl]
theorem rl_loc{v:V}{k:Nat}:Rl K as H v (.loc k)↔∃ a,as[k]?=some a/\v = .ref a:=by unfold Rl;exact Iff.rfl
theorem rl_ro{v:V}{xs:List SV}:Rl K as H v (.ro xs)↔∃ a vs,v = .ref a/\FzL K H a vs/\RlAll K as H vs xs:=by rw[Rl]
theorem rl_ty{v:V}{n:TyN}:Rl K as H v (.ty n)↔v = .ty n.nm:=by unfold Rl;exact Iff.rfl
theorem rla_nil{vs:List V}:RlAll K as H vs []↔vs=[]:=by unfold RlAll;exact Iff.rfl
theorem rla_cons{vs:List V}{x:SV}{xs:List SV}:RlAll K as H vs (x::xs)↔∃ v r,vs=v::r/\Rl K as H v x/\RlAll K as H r xs:=by rw[RlAll]
theorem RlAll.nil:RlAll K as H [] []:=rla_nil.mpr rfl
theorem RlAll.cons{v:V}{x:SV}{vs:List V}{xs:List SV}(h:Rl K as H v x)(t:RlAll K as H vs xs):RlAll K as H (v::vs) (x::xs):=rla_cons.mpr ⟨v,vs,rfl,h,t⟩
theorem RlAll.length:∀{xs:List SV} {vs:List V},RlAll K as H vs xs->vs.length=xs.length
 | [],_,h=>by rw[rla_nil.mp h];rfl
 | x::xs,_,h=>by
   obtain⟨v,r,rfl,_,t⟩:=rla_cons.mp h;simp[t.length]
theorem RlAll.get:∀{xs:List SV} {vs:List V} {i:Nat} {x:SV},RlAll K as H vs xs->xs[i]?=some x->∃ v,vs[i]?=some v/\Rl K as H v x
 | [],_,i,_,_,e=>by simp at e
 | y::xs,_,0,_,h,e=>by
   obtain⟨v,r,rfl,a,_⟩:=rla_cons.mp h;simp at e;subst e;exact⟨v,rfl,a⟩
 | y::xs,_,i+1,_,h,e=>by
   obtain⟨v,r,rfl,_,t⟩:=rla_cons.mp h;simpa using t.get (by simpa using e)
theorem RlAll.append:∀{xs ys:List SV} {vs us:List V},RlAll K as H vs xs->RlAll K as H us ys->RlAll K as H (vs++us) (xs++ys)
 | [],_,_,_,h,h'=>by rw[rla_nil.mp h];exact h'
 | x::xs,_,_,_,h,h'=>by
   obtain⟨v,r,rfl,a,t⟩:=rla_cons.mp h;exact .cons a (t.append h')
theorem RlAll.take:∀{xs:List SV} {vs:List V} (n:Nat),RlAll K as H vs xs->RlAll K as H (vs.take n) (xs.take n)
 | _,_,0,_=>by simpa using RlAll.nil
 | [],_,n+1,h=>by rw[rla_nil.mp h];exact .nil
 | x::xs,_,n+1,h=>by
   obtain⟨v,r,rfl,a,t⟩:=rla_cons.mp h;exact .cons a (t.take n)
theorem RlAll.drop:∀{xs:List SV} {vs:List V} (n:Nat),RlAll K as H vs xs->RlAll K as H (vs.drop n) (xs.drop n)
 | _,_,0,h=>h
 | [],_,n+1,h=>by rw[rla_nil.mp h];exact .nil
 | x::xs,_,n+1,h=>by
   obtain⟨v,r,rfl,a,t⟩:=rla_cons.mp h;exact t.drop n
theorem RlAll.set{x:SV}{v:V}(hx:Rl K as H v x):∀{xs:List SV} {vs:List V} (n:Nat),RlAll K as H vs xs->RlAll K as H (vs.set n v) (xs.set n x)
 | [],_,n,h=>by rw[rla_nil.mp h];exact .nil
 | y::xs,_,0,h=>by
   obtain⟨_,r,rfl,_,t⟩:=rla_cons.mp h;exact .cons hx t
 | y::xs,_,n+1,h=>by
   obtain⟨_,r,rfl,a,t⟩:=rla_cons.mp h;exact .cons a (t.set hx n)
theorem RlAll.ins{x:SV}{v:V}(hx:Rl K as H v x){xs:List SV}{vs:List V}(h:RlAll K as H vs xs)(n:Nat):RlAll K as H (vs.take n++v::vs.drop n) (xs.take n++x::xs.drop n):=(h.take n).append (.cons hx (h.drop n))
theorem RlAll.ints{is:List Int}:RlAll K as H (is.map V.int) (is.map SV.int):=by
 induction is with
 | nil=>exact .nil
 | cons i is ih=>exact .cons (rl_int.mpr rfl) ih
end
noncomputable def RlD(K:Qo)(as:List UV)(H:Hp):List (Key×V)->List (Int×SV)->Prop
 | ks,[]=>ks=[]
 | ks,p::r=>∃ v t,ks=(.inl p.1,v)::t/\Rl K as H v p.2/\RlD K as H t r
theorem RlD.mono{K:Qo}{as as':List UV}{H H':Hp}(ha:as <+: as')(hH:KeepU H H'):∀(kvs:List (Int×SV)) (ks:List (Key×V)),RlD K as H ks kvs->RlD K as' H' ks kvs
 | [],_,h=>h
 | p::r,_,⟨v,t,e,h1,h2⟩=>⟨v,t,e,Rl.mono ha hH p.2 v h1,RlD.mono ha hH r t h2⟩
noncomputable def RlO(K:Qo)(as:List UV)(H:Hp)(a:UV):SO->Prop
 | .lst xs=>∃ vs,H a=some (.lst vs)/\RlAll K as H vs xs
 | .iset ms=>∃ F,H a=some (.set F ms.length)/\∀ k,F k=decide (k∈ms)
 | .dct kvs=>∃ ks,H a=some (.dK ks)/\RlD K as H ks kvs
 | .dcf o ks kvs=>H a=some (.frz o (.dK ks))/\RlD K as H ks kvs
structure Ok(K:Qo)(as:List UV)(H:Hp)(S:Sto):Prop where
 len:as.length=S.length
 nd:as.Nodup
 obj:∀(k:Nat) (o:SO) (a:UV),S[k]?=some o->as[k]?=some a->RlO K as H a o
noncomputable def EnvOk(K:Qo)(as:List UV)(H:Hp)(σ:St)(ρ:EnvS):Prop:=σ.length=ρ.length/\∀(i:Nat) (x:SV),ρ[i]?=some (some x)->∃ v,σ[i]?=some (some v)/\Rl K as H v x
theorem EnvOk.mono{K:Qo}{as as':List UV}{H H':Hp}{σ:St}{ρ:EnvS}(h:EnvOk K as H σ ρ)(ha:as <+: as')(hH:KeepU H H'):EnvOk K as' H' σ ρ:=⟨h.1,λi x e=>let ⟨v,a,b⟩:=h.2 i x e;⟨v,a,Rl.mono ha hH x v b⟩⟩
theorem EnvOk.set{K:Qo}{as:List UV}{H:Hp}{σ:St}{ρ:EnvS}(h:EnvOk K as H σ ρ){i:Nat}{v:V}{x:SV}(hx:Rl K as H v x):EnvOk K as H (σ.set i (some v)) (ρ.set i (some x)):=⟨by rw[Rm,Rm];exact h.1,λj y e=>by
 by_cases hij:i=j
 ·subst hij;have hi:i<ρ.length:=by have:=(gM e).1;rwa [Rm]at this
  rw[Ra hi]at e;rw[Ra (by rw[h.1];exact hi)];cases e;exact⟨v,rfl,hx⟩
 ·rw[Rq hij]at e ⊢;exact h.2 j y e⟩
section
variable{K:Qo}{as:List UV}{H:Hp}{S:Sto}
theorem RlO.mono{as':List UV}{H':Hp}{a:UV}(ha:as <+: as')(hH:KeepU H H')(e:∀ u,H a=some u->H' a=some u):∀{o:SO},RlO K as H a o->RlO K as' H' a o
 | .lst xs,⟨vs,h1,h2⟩=>⟨vs,e _ h1,RlAll.mono ha hH xs vs h2⟩
 | .iset ms,⟨F,h1,h2⟩=>⟨F,e _ h1,h2⟩
 | .dct kvs,⟨ks,h1,h2⟩=>⟨ks,e _ h1,RlD.mono ha hH kvs ks h2⟩
 | .dcf _ ks kvs,⟨h1,h2⟩=>⟨e _ h1,RlD.mono ha hH kvs ks h2⟩
theorem RlO.some{a:UV}:∀{o:SO},RlO K as H a o->∃ u,H a=some u/\imm u=false
 | .lst _,⟨_,h,_⟩=>⟨_,h,rfl⟩
 | .iset _,⟨_,h,_⟩=>⟨_,h,rfl⟩
 | .dct _,⟨_,h,_⟩=>⟨_,h,rfl⟩
 | .dcf _ _ _,⟨h,_⟩=>⟨_,h,rfl⟩
theorem Ok.at(h:Ok K as H S){k:Nat}{o:SO}(e:S[k]?=some o):∃ a,as[k]?=some a/\RlO K as H a o:=by
 have hk:k<as.length:=by rw[h.len];exact(gM e).1
 exact⟨as[k],R4 hk,h.obj k o _ e (R4 hk)⟩
theorem Ok.of(h:Ok K as H S){k:Nat}{a:UV}(e:as[k]?=some a):∃ o,S[k]?=some o/\RlO K as H a o:=by
 have hk:k<S.length:=by rw[<-h.len];exact(gM e).1
 exact⟨S[k],R4 hk,h.obj k _ a (R4 hk) e⟩
theorem Ok.new(h:Ok K as H S){p:UV}{o:HO}(hp:H p=none):Ok K as (upd H p o) S:=⟨h.len,h.nd,λk u a e ea=>by
 have r:=h.obj k u a e ea;obtain⟨z,hz,_⟩:=r.some;exact r.mono (RH as) (l6 hp) λvs hv=>by rw[e6 (f9 hz hp)];exact hv⟩
theorem Ok.free(h:Ok K as H S){p:UV}(hp:H p=none):p∉as:=λhm=>by
 obtain⟨k,hk⟩:=SR hm;obtain⟨o,_,r⟩:=h.of hk;obtain⟨z,hz,_⟩:=r.some;rw[hp]at hz;cases hz
theorem Ok.pushO(h:Ok K as H S){p:UV}(hp:H p=none){u:HO}{x:SO}(r:RlO K (as++[p]) (upd H p u) p x):Ok K (as++[p]) (upd H p u) (S++[x]):=by
 have pre:as <+: as++[p]:=SA _ _;refine⟨by rw[Qv,Qv,h.len];rfl,?_,λk o a e ea=>?_⟩
 ·rw[Sg];refine⟨h.nd,by simp,λa ha b hb=>?_⟩;rw[Qu.mp hb];intro z;subst z;exact h.free hp ha
 ·by_cases hk:k<S.length
  ·rw[R6 hk]at e;rw[R6 (by rw[h.len];exact hk)]at ea;exact((h.new (o:=u) hp).obj k o a e ea).mono pre (KeepU.refl _) λ_ z=>z
  ·have hk':k=S.length:=by
    have:=(gM e).1;rw[Qv,RS]at this;omega
   subst hk';rw[RJ]at e;rw[<-h.len,RJ]at ea;cases e;cases ea;exact r
theorem Ok.push(h:Ok K as H S){p:UV}(hp:H p=none){vs:List V}{xs:List SV}(r:RlAll K as H vs xs):Ok K (as++[p]) (upd H p (.lst vs)) (S++[.lst xs]):=h.pushO hp ⟨vs,f8,RlAll.mono (SA _ _) (l6 hp) xs vs r⟩
theorem Ok.writeO(h:Ok K as H S){k:Nat}{a:UV}{y x:SO}{u:HO}(e:S[k]?=some y)(ea:as[k]?=some a)(r:KeepU H (upd H a u)->RlO K as (upd H a u) a x):Ok K as (upd H a u) (S.set k x)/\KeepU H (upd H a u):=by
 obtain⟨z,h1,iz⟩:=(h.obj k _ a e ea).some;have ku:KeepU H (upd H a u):=BY h1 iz;refine⟨⟨by rw[Rm];exact h.len,h.nd,λj o b eo eb=>?_⟩,ku⟩;by_cases hj:k=j
 ·subst hj;rw[Ra ((gM e).1)]at eo;rw[ea]at eb;cases eo;cases eb;exact r ku
 ·rw[Rq hj]at eo
  have hab:b≠a:=λz=>by
   subst z;exact hj ((List.getElem?_inj ((gM ea).1) h.nd).mp (ea.trans eb.symm))
  exact(h.obj j o b eo eb).mono (RH as) ku λws hw=>by rw[e6 hab];exact hw
theorem Ok.write(h:Ok K as H S){k:Nat}{a:UV}{ys xs:List SV}{vs:List V}(e:S[k]?=some (.lst ys))(ea:as[k]?=some a)(r:RlAll K as H vs xs):Ok K as (upd H a (.lst vs)) (S.set k (.lst xs))/\KeepU H (upd H a (.lst vs)):=h.writeO e ea λku=>⟨vs,f8,RlAll.mono (RH as) ku xs vs r⟩
end
structure Go(as:List UV)(H:Hp)(as':List UV)(H':Hp):Prop where
 pre:as <+: as'
 keep:∀ b o,H b=some o->b∉as->H' b=some o/\b∉as'
theorem Go.refl(as:List UV)(H:Hp):Go as H as H:=⟨RH _,λ_ _ h n=>⟨h,n⟩⟩
theorem Go.trans{as as1 as2:List UV}{H H1 H2:Hp}(a:Go as H as1 H1)(b:Go as1 H1 as2 H2):Go as H as2 H2:=⟨a.pre.trans b.pre,λx o h n=>let ⟨h1,n1⟩:=a.keep x o h n;b.keep x o h1 n1⟩
theorem Go.new{as:List UV}{H:Hp}{p:UV}{o:HO}(hp:H p=none):Go as H as (upd H p o):=⟨RH _,λb u h n=>⟨by rw[e6 (f9 h hp)];exact h,n⟩⟩
theorem Go.push{as:List UV}{H:Hp}{p:UV}{o:HO}(hp:H p=none):Go as H (as++[p]) (upd H p o):=⟨SA _ _,λb u h n=>⟨by rw[e6 (f9 h hp)];exact h,by
 rw[RF,Qu];rintro(z | z)
 ·exact n z
 ·exact f9 h hp z⟩⟩
theorem Go.write{as:List UV}{H:Hp}{a:UV}{o:HO}(ha:a∈as):Go as H as (upd H a o):=⟨RH _,λb u h n=>⟨by rw[e6 (λz=>n (by rw[z];exact ha))];exact h,n⟩⟩
section
variable{K:Qo}{as as':List UV}{H H':Hp}{S:Sto}
theorem Ok.away(h:Ok K as H S){b:UV}{o:HO}(e:H b=some o)(i:imm o=true):b∉as:=λhm=>by
 obtain⟨k,hk⟩:=SR hm;obtain⟨_,_,r⟩:=h.of hk;obtain⟨z,hz,iz⟩:=r.some;rw[e]at hz;cases hz;rw[i]at iz;cases iz
theorem Go.ku(g:Go as H as' H')(ok:Ok K as H S):KeepU H H':=λb o h i=>(g.keep b o h (ok.away h i)).1
theorem Ok.other(h:Ok K as H S){b:UV}{vs us:List V}(hb:H b=some (.lst vs))(n:b∉as):Ok K as (upd H b (.lst us)) S:=⟨h.len,h.nd,λk o a e ea=>(h.obj k o a e ea).mono (RH as) (BY hb rfl) λws hw=>by
 rw[e6 (λz=>n (by rw[<-z];exact R1 ea))];exact hw⟩
end
end Rf
namespace L2
open PySem PySem.Spec PyProof.Rows
section
variable{κ:Type}[DecidableEq κ]
noncomputable def Ac(kvs:List (κ×V))(k:κ):Option V:=(kvs.find? λkv=>decide (kv.1=k)).map (·.2)
noncomputable def Ad(kvs:List (κ×V))(k:κ)(v:V):List (κ×V):=
 if (kvs.any λkv=>decide (kv.1=k))=true then kvs.map (λkv=>if kv.1=k then (kv.1,v) else kv) else kvs++[(k,v)]
theorem C4{p:κ×V}{r:List (κ×V)}{k:κ}(e:p.1=k):Ac (p::r) k=some p.2:=by simp[Ac,SC,e]
theorem C5{p:κ×V}{r:List (κ×V)}{k:κ}(e:¬ p.1=k):Ac (p::r) k=Ac r k:=by simp[Ac,SC,e]
theorem Dx(k:κ):∀ kvs:List (κ×V),(kvs.any λkv=>decide (kv.1=k))=(Ac kvs k).isSome
 | []=>rfl
 | p::r=>by
   rw[Ry];by_cases e:p.1=k
   ·simp only[C4 e,decide_eq_true e,Bool.true_or,Tr]
   ·rw[C5 e,decide_eq_false e,UD];exact Dx k r
theorem Bi(kvs:List (κ×V))(k:κ)(v:V):(Ad kvs k v).length<=kvs.length+1:=by
 unfold Ad;split
 ·rw[Qr];omega
 ·rw[Qv,Rj,SD];omega
theorem RelO.isSome_eq{o:Option V}{u:Option UT}(r:RelO o u):o.isSome=u.isSome:=by
 cases o with
 | none=>cases u with
   | none=>rfl
   | some _=>exact(show False from r).elim
 | some _=>cases u with
   | none=>exact(show False from r).elim
   | some _=>rfl
theorem RelO.getD{o:Option V}{u:Option UT}{d:V}{d':UT}(r:RelO o u)(rd:RelV d d'):RelV (o.getD d) (u.getD d'):=by
 cases o with
 | none=>cases u with
   | none=>exact rd
   | some _=>exact(show False from r).elim
 | some _=>cases u with
   | none=>exact(show False from r).elim
   | some _=>exact r
theorem KV.val{kvs:List (κ×V)}{vs:List (κ×UT)}(r:KV kvs vs)(k:κ):RelO (Ac kvs k) (valueAt vs k):=by
 unfold KV at r
 induction r with
 | nil=>exact True.intro
 | @cons p q ps qs h t ih=>
   obtain⟨h1,h2⟩:=h;by_cases e:p.1=k
   ·have e':q.1=k:=h1.symm.trans e;have b:valueAt (q::qs) k=some q.2:=by simp[valueAt,SC,e']
    rw[C4 e,b];exact h2
   ·have e':¬ q.1=k:=λz=>e (h1.trans z);have b:valueAt (q::qs) k=valueAt qs k:=by simp[valueAt,SC,e']
    rw[C5 e,b];exact ih
theorem KV.any{kvs:List (κ×V)}{vs:List (κ×UT)}(r:KV kvs vs)(k:κ):(kvs.any λkv=>decide (kv.1=k))=vs.any λkv=>decide (kv.1=k):=by
 unfold KV at r
 induction r with
 | nil=>rfl
 | cons h t ih=>rw[Ry,Ry,ih,h.1]
theorem KV.repl{kvs:List (κ×V)}{vs:List (κ×UT)}(r:KV kvs vs)(k:κ){y:V}{u:UT}(ry:RelV y u):
 KV (kvs.map λkv=>if kv.1=k then (kv.1,y) else kv) (vs.map λkv=>if kv.1=k then (kv.1,u) else kv):=by
 unfold KV at r ⊢
 induction r with
 | nil=>exact .nil
 | @cons p q ps qs h t ih=>
   rw[RK,RK];refine .cons ?_ ih;obtain⟨h1,h2⟩:=h;by_cases e:p.1=k
   ·rw[iP e,iP (h1.symm.trans e)];exact⟨h1,ry⟩
   ·rw[iG e,iG (λz=>e (h1.trans z))];exact⟨h1,h2⟩
theorem KV.put{kvs:List (κ×V)}{vs:List (κ×UT)}(r:KV kvs vs)(k:κ){y:V}{u:UT}(ry:RelV y u):KV (Ad kvs k y) (stored vs k u):=by
 unfold Ad stored;rw[r.any k];by_cases e:(vs.any λkv=>decide (kv.1=k))=true
 ·rw[iP e,iP e];exact r.repl k ry
 ·rw[iG e,iG e];exact Paired.snoc r ⟨rfl,ry⟩
theorem KV.keys{kvs:List (κ×V)}{vs:List (κ×UT)}(r:KV kvs vs):kvs.map (·.1)=vs.map (·.1):=by
 unfold KV at r
 induction r with
 | nil=>rfl
 | cons h t ih=>rw[RK,RK,ih,h.1]
theorem KV.length{kvs:List (κ×V)}{vs:List (κ×UT)}(r:KV kvs vs):kvs.length=vs.length:=Paired.length r
end
theorem GP{P:Ua}{w:Ud}{k:Key}{u:UT}(r:RelV (kV k) u):(g9 P w).is k u=true:=by
 cases k with
 | inl i=>obtain⟨t,e⟩:=(show ∃ t,u=Value.int i t from r);subst e;exact Dk P w i t
 | inr x=>obtain⟨t,e⟩:=(show ∃ t,u=Value.str x t from r);subst e;exact Dl P w x t
theorem Cq{P:Ua}{w:Ud}:∀{ks:List Key} {us:List UT},Vals (ks.map kV) us->ItemsAre (g9 P w) ks us
 | [],_,r=>by rw[UF]at r;cases r;exact .nil
 | k::ks,_,r=>by
   rw[RK]at r;cases r with
   | cons h t=>exact .cons (GP h) (Cq t)
noncomputable abbrev KT(H:Hp):List (List Key×V)->List (List Key×UV×UT)->Prop:=Paired λp q=>p.1=q.1/\H q.2.1=some (.tup (p.1.map kV))/\RelV p.2 q.2.2
theorem KT.val{H:Hp}{kvs:List (List Key×V)}{xs:List (List Key×UV×UT)}(r:KT H kvs xs)(k:List Key):RelO (Ac kvs k) ((atKey xs k).map (·.2)):=by
 induction r with
 | nil=>exact True.intro
 | @cons p q ps qs h t ih=>
   obtain⟨h1,_,h2⟩:=h;by_cases e:p.1=k
   ·have e':q.1=k:=h1.symm.trans e;have b:atKey (q::qs) k=some q.2:=by simp[atKey,SC,e']
    rw[C4 e,b];exact h2
   ·have e':¬ q.1=k:=λz=>e (h1.trans z);have b:atKey (q::qs) k=atKey qs k:=by simp[atKey,SC,e']
    rw[C5 e,b];exact ih
theorem KT.repl{H:Hp}{kvs:List (List Key×V)}{xs:List (List Key×UV×UT)}(r:KT H kvs xs)(k:List Key){y:V}{u:UT}(ry:RelV y u):
 KT H (kvs.map λkv=>if kv.1=k then (kv.1,y) else kv) (xs.map (putAt k u)):=by
 induction r with
 | nil=>exact .nil
 | @cons p q ps qs h t ih=>
   rw[RK,RK];refine .cons ?_ ih;obtain⟨h1,h2,h3⟩:=h;unfold putAt;by_cases e:p.1=k
   ·rw[iP e,iP (h1.symm.trans e)];exact⟨h1,h2,ry⟩
   ·rw[iG e,iG (λz=>e (h1.trans z))];exact⟨h1,h2,h3⟩
theorem KT.put{H:Hp}{kvs:List (List Key×V)}{xs:List (List Key×UV×UT)}(r:KT H kvs xs)(k:List Key){b:UV}{y:V}{u:UT}(hb:H b=some (.tup (k.map kV)))(ry:RelV y u):
 KT H (Ad kvs k y) (storedH xs k b u):=by
 have e:(kvs.any λkv=>decide (kv.1=k))=(atKey xs k).isSome:=by
  rw[Dx,(r.val k).isSome_eq,Sw]
 unfold Ad storedH;rw[e];by_cases q:(atKey xs k).isSome=true
 ·rw[iP q,iP q];exact r.repl k ry
 ·rw[iG q,iG q];exact Paired.snoc r ⟨rfl,hb,ry⟩
theorem KT.keeps{H H':Hp}{kvs:List (List Key×V)}{xs:List (List Key×UV×UT)}(r:KT H kvs xs)(ht:∀ b ys,H b=some (.tup ys)->H' b=some (.tup ys)):KT H' kvs xs:=
 Paired.mapP r λ_ _ z=>⟨z.1,ht _ _ z.2.1,z.2.2⟩
section
variable{P:Ua}{w:Ud}{H:Hp}{h:Heap}{a:UV}
theorem Mw{u:HO}(ok:HOk P w H h)(e:Rd H a u):ObjOk P w H h a u:=e.ok ok
theorem Dy{kvs:List (Key×V)}(ok:HOk P w H h)(e:Rd H a (.dK kvs)):kvs.length<=UY/\(a == V5)=false/\∃ vs,KV kvs vs/\h.DictOf (g9 P w) a vs:=
 show ObjOk P w H h a (.dK kvs) from Mw ok e
theorem Pl{kvs:List (Key×V)}(ok:HOk P w H h)(e:H a=some (.dK kvs)):kvs.length<=UY/\(a == V5)=false/\∃ vs,KV kvs vs/\h.DictOf (g9 P w) a vs:=Dy ok (.inl e)
theorem DD{ks:List Key}(ok:HOk P w H h)(e:H a=some (.tup (ks.map kV))):(Vs (g9 P w)).is h ks a:=by
 obtain⟨_,its,r,o,h1,h2,n,h3⟩:=(show ObjOk P w H h a (.tup (ks.map kV)) from ok a _ e)
 exact⟨o,its.toArray,n,h1,h2,h3,by simpa using Cq r⟩
theorem J9{kvs:List (List Key×V)}(ok:HOk P w H h)(e:Rd H a (.dT kvs)):kvs.length<=UY/\(a == V5)=false/\
 ∃ xs,KT H kvs xs/\h.DictOfH (Vs (g9 P w)) a xs:=by
 obtain⟨z,y,xs,r,o,es,ep,h1,h2,h3,h4,h5⟩:=(show ObjOk P w H h a (.dT kvs) from Mw ok e)
 refine⟨z,y,xs,r,o,es,ep,h1,h2,h3,h4,λx hx=>?_,h5⟩
 have all:∀{l:List (List Key×V)} {m:List (List Key×UV×UT)},KT H l m->∀ x∈m,(Vs (g9 P w)).is h x.1 x.2.1:=by
  intro l m q
  induction q with
  | nil=>intro x hx;exact nomatch hx
  | @cons p q ps qs hq t ih=>
    intro x hx;rcases R0.mp hx with e | hx
    ·subst e;exact DD ok (by rw[<-hq.1];exact hq.2.1)
    ·exact ih x hx
 exact all r x hx
theorem Pm{kvs:List (List Key×V)}(ok:HOk P w H h)(e:H a=some (.dT kvs)):kvs.length<=UY/\(a == V5)=false/\
 ∃ xs,KT H kvs xs/\h.DictOfH (Vs (g9 P w)) a xs:=J9 ok (.inl e)
end
noncomputable def DGet(H:Hp)(a:UV)(y:V)(r:Option V):Prop:=
 (∃ kvs k,Rd H a (.dK kvs)/\y=kV k/\r=Ac kvs k)\/∃ kvs k b,Rd H a (.dT kvs)/\y = .ref b/\H b=some (.tup (k.map kV))/\r=Ac kvs k
noncomputable def DPut(H:Hp)(a:UV)(y v:V)(H':Hp):Prop:=
 (∃ kvs k,H a=some (.dK kvs)/\y=kV k/\kvs.length<UY/\H'=upd H a (.dK (Ad kvs k v)))\/
 ∃ kvs k b,H a=some (.dT kvs)/\y = .ref b/\H b=some (.tup (k.map kV))/\kvs.length<UY/\H'=upd H a (.dT (Ad kvs k v))
theorem DGet.k{H:Hp}{a:UV}{kvs:List (Key×V)}{k:Key}(e:H a=some (.dK kvs)):DGet H a (kV k) (Ac kvs k) := .inl ⟨kvs,k,.inl e,rfl,rfl⟩
theorem DGet.t{H:Hp}{a b:UV}{kvs:List (List Key×V)}{k:List Key}(e:H a=some (.dT kvs))(eb:H b=some (.tup (k.map kV))):DGet H a (.ref b) (Ac kvs k) := .inr ⟨kvs,k,b,.inl e,rfl,eb,rfl⟩
theorem DPut.k{H:Hp}{a:UV}{kvs:List (Key×V)}{k:Key}{v:V}(e:H a=some (.dK kvs))(hl:kvs.length<UY):DPut H a (kV k) v (upd H a (.dK (Ad kvs k v))) := .inl ⟨kvs,k,e,rfl,hl,rfl⟩
theorem DPut.t{H:Hp}{a b:UV}{kvs:List (List Key×V)}{k:List Key}{v:V}(e:H a=some (.dT kvs))(eb:H b=some (.tup (k.map kV)))(hl:kvs.length<UY):
 DPut H a (.ref b) v (upd H a (.dT (Ad kvs k v))) := .inr ⟨kvs,k,b,e,rfl,eb,hl,rfl⟩
section
variable{X:Cx}{pq:List (UV×Obj)}{σ:St}{H:Hp}{s:UU}{a:UV}{y v:V}{u r:UT}{o:Option V}{A:Uj}{E:UT->UU->Prop}
theorem Inv.big(I:Inv X pq σ H s):V5<s.heap.objs.size:=by
 have h:Ub<s.heap.objs.size:=(I.mod.glob.keeps I.bk).lt;exact UH (by decide) h
theorem QX{Q:UT->UU->Prop}(hu:A.units+1<cLine)(I:Inv X pq σ H s)(g:DGet H a y o)(ry:RelV y u)(h:∀ s',Inv X pq σ H s'->Q (.bool o.isSome) s'):
 UX (UZ X.prog X.w) A (Ui .In u (.ref a)) Q E s:=by
 rcases g with⟨kvs,k,e,ey,l⟩ | ⟨kvs,k,b,e,ey,eb,l⟩
 ·subst ey;obtain⟨z,hd,vs,rel,dd⟩:=Dy I.hok e;refine wpAny_in_of (GP ry) hd dd.mapOf ?_;rw[<-(rel.val k).isSome_eq,<-l];exact h _ (I.tok _)
 ·subst ey;cases(show u=Value.ref b from ry);obtain⟨z,hd,xs,rel,dd⟩:=J9 I.hok e;refine wpAny_in_heap (VU hu) (DD I.hok eb) hd dd ?_;have q:=(rel.val k).isSome_eq;rw[Sw]at q;rw[<-q,<-l];exact h _ (I.tok _)
theorem Lg{Q:UT->UU->Prop}(hu:A.units+1<cLine)(I:Inv X pq σ H s)(g:DGet H a y o)(ry:RelV y u)(h:∀ s',Inv X pq σ H s'->Q (.bool (!o.isSome)) s'):
 UX (UZ X.prog X.w) A (Ui .NotIn u (.ref a)) Q E s:=by
 rcases g with⟨kvs,k,e,ey,l⟩ | ⟨kvs,k,b,e,ey,eb,l⟩
 ·subst ey;obtain⟨z,hd,vs,rel,dd⟩:=Dy I.hok e;refine wpAny_notIn_of (GP ry) hd dd.mapOf ?_;rw[<-(rel.val k).isSome_eq,<-l];exact h _ (I.tok _)
 ·subst ey;cases(show u=Value.ref b from ry);obtain⟨z,hd,xs,rel,dd⟩:=J9 I.hok e;refine wpAny_notIn_heap (VU hu) (DD I.hok eb) hd dd ?_;have q:=(rel.val k).isSome_eq;rw[Sw]at q;rw[<-q,<-l];exact h _ (I.tok _)
theorem GQ{h':Heap}{t':Nat}{ob:HO}(I:Inv X pq σ H s)(mu:Mut (H a))(hs:Rk a s.heap h')(he:∃ q,h'.get? a=some q)(new:ObjOk X.prog X.w (upd H a ob) h' a ob):
 Inv X pq σ (upd H a ob) {s with heap:=h',toks:=t'}:=
 I.write (x:=a) (e:=a) mu (.inl rfl) (λb q hb z=>(hs.2 b hb).trans z) he new
theorem JA{P:Ua}{w:Ud}{H':Hp}{h':Heap}{kvs:List (Key×V)}{vs:List (Key×UT)}(z:kvs.length<=UY)(hd:(a == V5)=false)(rel:KV kvs vs)(dd:h'.DictOf (g9 P w) a vs):
 ObjOk P w H' h' a (.dK kvs):=⟨z,hd,vs,rel,dd⟩
theorem Hl{H':Hp}{Q:Unit->UU->Prop}(hu:A.units+1<cLine)(I:Inv X pq σ H s)(g:DPut H a y v H')(ry:RelV y u)(rv:RelV v r)(h:∀ s',Inv X pq σ H' s'->Q () s'):
 UX (UZ X.prog X.w) A (setItem (.ref a) u r) Q E s:=by
 rcases g with⟨kvs,k,e,ey,l,eH⟩ | ⟨kvs,k,b,e,ey,eb,l,eH⟩
 ·subst ey eH;obtain⟨z,hd,vs,rel,dd⟩:=Pl I.hok e;have hz:vs.length<=UY:=by rw[<-rel.length];exact z
  have hl:(Ad kvs k v).length<=UY:=by have:=Bi kvs k v;omega
  refine wpAny_setItem_pairs (hsz:=hz) (GP ry) dd λh' dd' hs=>h _ ?_;have he:∃ q,h'.get? a=some q:=let ⟨q,_,_,hq,_⟩:=dd';⟨q,hq⟩
  exact GQ I (by rw[e];exact True.intro) hs he (JA hl hd (rel.put k rv) dd')
 ·subst ey eH;cases(show u=Value.ref b from ry);obtain⟨z,hd,xs,rel,dd⟩:=Pm I.hok e;have hz:xs.length<=UY:=by rw[<-Paired.length rel];exact z
  have hl:(Ad kvs k v).length<=UY:=by have:=Bi kvs k v;omega
  refine wpAny_setItem_heap (hsz:=hz) (VU hu) (DD I.hok eb) dd λh' dd' hs=>h _ ?_;obtain⟨q,es,ep,hq,h2,h3,h4,_,h5⟩:=dd';refine GQ I (by rw[e];exact True.intro) hs ⟨q,hq⟩ ⟨hl,hd,_,(rel.put k eb rv).keeps λc ys ec=>?_,q,es,ep,hq,h2,h3,h4,h5⟩;rw[e6 (Mm ec e (λz=>nomatch z))];exact ec
end
noncomputable def QY(ty td:TE):TE:=λσ H Q=>ty σ H λy H1=>td σ H1 λx H2=>∃ a o,x = .ref a/\DGet H2 a y o/\Q (.bl o.isSome) H2
noncomputable def Lh(ty td:TE):TE:=λσ H Q=>ty σ H λy H1=>td σ H1 λx H2=>∃ a o,x = .ref a/\DGet H2 a y o/\Q (.bl (!o.isSome)) H2
section
variable{X:Cx}{o i e value:Expr}{pos pos' tpos:Pos}{td ty tv:TE}
theorem JB(hu:X.A.units+1<cLine)(hi:PE X i ty)(ho:PE X o td):PC X .In i o (QY ty td):=by
 intro pq s σ H Q I h;refine thn (hi pq s σ H _ I h) λiv s1 ⟨y,H1,I1,ry,q1⟩=>thn (ho pq s1 σ H1 _ I1 q1) λu s2 ⟨x,H2,I2,rx,a,ov,ex,g,q2⟩=>?_;subst ex;obtain rfl:u=Value.ref a:=rx;exact QX hu I2 g ry λs3 I3=>⟨.bl ov.isSome,H2,I3,rfl,q2⟩
theorem Cr(hu:X.A.units+1<cLine)(hi:PE X i ty)(ho:PE X o td):PC X .NotIn i o (Lh ty td):=by
 intro pq s σ H Q I h;refine thn (hi pq s σ H _ I h) λiv s1 ⟨y,H1,I1,ry,q1⟩=>thn (ho pq s1 σ H1 _ I1 q1) λu s2 ⟨x,H2,I2,rx,a,ov,ex,g,q2⟩=>?_;subst ex;obtain rfl:u=Value.ref a:=rx;exact Lg hu I2 g ry λs3 I3=>⟨.bl (!ov.isSome),H2,I3,rfl,q2⟩
end
theorem JC{P:Ua}{w:Ud}{H:Hp}(h:Heap)(hb:V5<h.objs.size):ObjOk P w H (h.push {cls := .type "dict",data := .dict #[]}) h.objs.size (.dK []):=
 ⟨Rz _,beq_eq_false_iff_ne.mpr (Ne.symm (R5 hb)),[],.nil,Heap.DictOf.new h⟩
noncomputable def Nu:TE:=λ_ H Q=>∀ p,H p=none->Q (.ref p) (upd H p (.dK []))
section
variable{X:Cx}{pos:Pos}
theorem JD:PE X (.Dict [] [] pos) Nu:=λpq s σ H Q I h=>
 wpAny_Dict_empty ⟨.ref s.heap.objs.size,_,I.laid (a:=s.heap.objs.size) (o := .dK []) (t':=s.toks) (λ_ _ q=>Qq _ q) (Qs _) (JC s.heap I.big),rfl,h _ (I.hok.fresh (Qs _))⟩
end
section
variable{X:Cx}
noncomputable def JE:V->List V->Hp->VK->Prop:=λx vs H Q=>∃(l:UV) (ns:List Int) (n:Int) (j:Nat),x = .ref l/\vs=[.int n]/\H l=some (.lst (ns.map V.int))/\ns[j]?=some n/\(∀ m,m<j->ns[m]?≠some n)/\Q (.int (j:Nat)) H
theorem Dz:MtM X "list.index" JE:=by
 intro pq s σ H x vs v us Q I rx rv h;obtain⟨l,ns,n,j,rfl,rfl,hH,hj,hno,q⟩:=h;cases rx;obtain⟨u,rfl,ru⟩:=rv.one;obtain⟨z,its,k,r,hl,e⟩:=I.lstM hH;have hlen:=hl;rw[Qr]at hlen z;have hjl:j<ns.length:=(gM hj).1;have hjs:j<its.toArray.size:=by rw[Qt];omega
 have fl:(ns.map V.int).all q0=true:=RB.mpr λv hv=>by
  obtain⟨n,_,rfl⟩:=RI.mp hv;rfl
 have at':∀ m (hm:m<its.toArray.size),eqU (.int n) its.toArray[m]=(ns[m]'(by rw[Qt]at hm;omega) == n):=λm hm=>by
  have hm':m<ns.length:=by rw[Qt]at hm;omega
  obtain⟨u',hu',ru'⟩:=r.get (show(ns.map V.int)[m]?=some (V.int ns[m]) by simp[hm'])
  have e2:its.toArray[m]=u':=by
   have:its[m]?=some its.toArray[m]:=by simp
   rw[hu']at this;exact(oj this).symm
  rw[e2,FE ru' rfl];rfl
 refine VR F.slot_list_index ⟨_,e,rfl⟩ F.entry_list_index (F.args_list_index_2 _ _)
  (SeqAt.list_indexAt l its.toArray k none #[] u (eqU (.int n)) j hjs ?_ ?_ ?_) ⟨e,?_,?_⟩
 ·have:ns.length<=UY:=z;have h2:=B5;omega
 ·rw[at' j hjs];have:=(gM hj).2;simp[this]
 ·intro m hm hmj;rw[at' m hm];have hm':m<ns.length:=by rw[Qt]at hm;omega
  have:=hno m hmj;simpa[hm'] using this
 ·intro y hy;exact AR ru rfl r fl y (by simpa using hy)
 ·exact⟨.int (j:Nat),H,I.tok _,⟨_,rfl⟩,q⟩
end
mutual
noncomputable def Dat(H:Hp):V->PyData->Prop
 | x,.none=>x = .non
 | x,.bool b=>x = .bl b
 | x,.int i=>x = .int i
 | x,.str s=>x = .str s
 | x,.list ds=>∃ a xs,x = .ref a/\H a=some (.lst xs)/\DatAll H xs ds
 | x,.tuple ds=>∃ a xs,x = .ref a/\H a=some (.tup xs)/\DatAll H xs ds
 | _,.dict _=>False
noncomputable def DatAll(H:Hp):List V->List PyData->Prop
 | [],[]=>True
 | x::xs,d::ds=>Dat H x d/\DatAll H xs ds
 | [],_::_=>False
 | _::_,[]=>False
end
mutual
theorem Dat.mono{H H':Hp}(k:∀ b o,H b=some o->H' b=some o):∀(x:V) (d:PyData),Dat H x d->Dat H' x d
 | _,.none,h=>by unfold Dat at h ⊢;exact h
 | _,.bool _,h=>by unfold Dat at h ⊢;exact h
 | _,.int _,h=>by unfold Dat at h ⊢;exact h
 | _,.str _,h=>by unfold Dat at h ⊢;exact h
 | x,.list ds,h=>by
   unfold Dat at h ⊢;obtain⟨a,xs,e,h1,h2⟩:=h;exact⟨a,xs,e,k _ _ h1,DatAll.mono k xs ds h2⟩
 | x,.tuple ds,h=>by
   unfold Dat at h ⊢;obtain⟨a,xs,e,h1,h2⟩:=h;exact⟨a,xs,e,k _ _ h1,DatAll.mono k xs ds h2⟩
 | _,.dict _,h=>by unfold Dat at h;exact h.elim
theorem DatAll.mono{H H':Hp}(k:∀ b o,H b=some o->H' b=some o):∀(xs:List V) (ds:List PyData),DatAll H xs ds->DatAll H' xs ds
 | [],[],_=>by unfold DatAll;trivial
 | x::xs,d::ds,h=>by
   unfold DatAll at h ⊢;exact⟨Dat.mono k x d h.1,DatAll.mono k xs ds h.2⟩
 | [],_::_,h=>by unfold DatAll at h;exact h.elim
 | _::_,[],h=>by unfold DatAll at h;exact h.elim
end
theorem DatAll.length{H:Hp}:∀{xs:List V} {ds:List PyData},DatAll H xs ds->xs.length=ds.length
 | [],[],_=>rfl
 | x::xs,d::ds,h=>by unfold DatAll at h;simp[DatAll.length h.2]
 | [],_::_,h=>by unfold DatAll at h;exact h.elim
 | _::_,[],h=>by unfold DatAll at h;exact h.elim
section
variable{X:Cx}{a b:Expr}{ta:TE}{pos:Pos}
theorem Hm:OpR X (Ui .IsNot) (λx y H Q=>∃ c d,x = .bl c/\y = .bl d/\Q (.bl (c != d)) H):=by
 intro pq s σ H x y v u Q I rx ry h;obtain⟨c,d,rfl,rfl,q⟩:=h;cases rx;cases ry;exact isnot_bool ⟨.bl (c != d),H,I,rfl,q⟩
end
section
variable{X:Cx}
theorem JF{prog:Ua}{w:Ud}{A:Uj}{E:UT->UU->Prop}{s:UU}{t b:UV}{ws:List UT}{Q:UT->UU->Prop}(ht:IsTup s.heap t #[])(hb:IsTup s.heap b ws.toArray)(h1:Q (.ref b) s):
 UX (UZ prog w) A (Uv .Add (.ref t) (.ref b)) Q E s:=by
 obtain⟨⟨cls,dd,data,sl⟩,ho,hc,n,hd⟩:=id ht;obtain⟨⟨cls2,dd2,data2,sl2⟩,ho2,hc2,n2,hd2⟩:=id hb;simp only at hc hd hc2 hd2;subst hc hd hc2 hd2
 exact W6 ⟨_,ho,rfl⟩ ⟨_,ho2,rfl⟩ VZ Vv PySem.F.slot_tuple_add PySem.F.entry_tuple_add (PySem.F.args_tuple_add_2 _ _)
  (tuple_addW0 t b #[] ws.toArray n n2 dd dd2 sl sl2 (by simp)) ⟨ho,ho2,h1⟩
noncomputable def JG(K:Qo):R2:=λx y H Q=>∃ a b ys,x = .ref a/\y = .ref b/\SqT K H a []/\SqT K H b ys/\Q (.ref b) H
theorem Li:OpR X (Uv .Add) (JG X.K):=by
 intro pq s σ H x y v u Q I rx ry h;obtain⟨a,b,ys,rfl,rfl,ha,hb,q⟩:=h;cases rx;cases ry;obtain⟨its,r1,p1,_⟩:=I.tuple ha;obtain⟨its2,r2,p2,_⟩:=I.tuple hb;cases r1;exact JF p1 p2 ⟨.ref b,H,I,rfl,q⟩
theorem Lj:OpR X (Uv .Add) (λx y H Q=>Ix X.K x y H Q\/JG X.K x y H Q):=op_catT.or Li
end
section
variable{prog:Ua}{w:Ud}{A:Uj}{E:UT->UU->Prop}{s:UU}
open HT in
theorem CW{t sl:UV}{items:Array UT}{vl vu:UT}{lo hi:Option Int}{Q:UT->UU->Prop}(ht:IsTup s.heap t items)(hs:s.heap.IsSliceOf sl vl vu .none)(pl:IsPart vl lo)(pu:IsPart vu hi)
 (hw:sIx items.size 0 lo=0/\sIx items.size items.size hi=items.size) (h:Q (.ref t) s):UX (UZ prog w) A (getItem (.ref t) (.ref sl)) Q E s:=by
 obtain⟨os,hos,hcs,hds⟩:=id hs;have hTs:s.TypeIs (.ref sl) "slice":=⟨os,hos,hcs⟩
 unfold getItem
 try with_reducible refine Uq ?_
 first | refine US (UW ?_) | skip
 refine US (W7 ht.typeIs (by decide) ?_)
 refine US (Uo (name:=Str.ofString "__getitem__") ht.typeIs PyProof.Rows.slot_tuple_getitem
  (Uw PyProof.Rows.slot_tuple_getitem ht.typeIs Vt ?_ (W0 _ _)))
 show UX _ _ (Builtin.Tuple.tupleItemsOf (.ref t) >>= _) _ _ s;refine US (tupleItemsOf_ ht ?_);refine US (Vd hTs ?_);rw[iP (by decide)];refine US (AQ hs pl pu ?_)
 have hyes:(((sIx items.size 0 lo:Nat):Int) == 0&&(1:Int) == 1&&(sIx items.size items.size hi - sIx items.size 0 lo) == items.size)=true:=by
  rw[hw.1,hw.2];simp
 show UX _ _ (if (((sIx items.size 0 lo:Nat):Int) == 0&&(1:Int) == 1&&(sIx items.size items.size hi - sIx items.size 0 lo) == items.size)=true then _ else _) _ _ s;rw[iP hyes];unfold Builtin.Tuple.tupleIsExact;refine US (US (Vd ht.typeIs (UW ?_)));rw[iP (by decide)];exact US (VA (UW ⟨_,rfl,UW h⟩))
end
section
variable{X:Cx}
noncomputable def Pn(K:Qo):V->Option Int->Option Int->Hp->VK->Prop:=λx lo hi H Q=>∃ a xs,x = .ref a/\SqT K H a xs/\(HT.sIx xs.length 0 lo=0/\HT.sIx xs.length xs.length hi=xs.length)/\Q (.ref a) H
theorem Lk:SlR X (Pn X.K):=by
 intro pq s σ H x v vl vu lo hi sl Q I rx hs pl pu h;obtain⟨a,xs,rfl,hx,hw,q⟩:=h;cases rx;obtain⟨its,r,ht,hz⟩:=I.tuple hx;have hlen:its.toArray.size=xs.length:=by rw[Qt];exact r.length.symm
 exact⟨"tuple",_,PyProof.Rows.slot_tuple_getitem.lookup,ht.typeIs,CW ht hs pl pu (by rw[hlen];exact hw) ⟨.ref a,H,I,rfl,q⟩⟩
end
theorem b_set:Uc "set"=some (.type "set"):=by decide +kernel
theorem Nv:Uc "len"=some (.builtin "len"):=by decide +kernel
section
variable{X:Cx}
noncomputable def Ll(K:Qo)(te:TE):TE:=λσ H Q=>te σ H λx H1=>∃(p:UV) (ns:List Int),x = .ref p/\SqL K H1 p (ns.map V.int)/\ns.length+1<Ux/\Q (.int (VB (λi=>ns.getD i 0) ns.length).length) H1
theorem Hn{e:Expr}{te:TE}{p1 p2 pos1 pos2:Pos}(hc:X.calm=true)(hl:Gl X "len")(hml:X.mg "len"=none)(hs:Gl X "set")(hms:X.mg "set"=none)(he:PE X e te)
 (h1:Ue [e] X.env=(false,eval e X.env)::Ue [] X.env:=by rfl)
 (h2:Ue [.Call (.Name "set" p2) [e] [] pos2] X.env=(false,eval (.Call (.Name "set" p2) [e] [] pos2) X.env)::Ue [] X.env:=by rfl)
 (h3:(backTo pos1 (Ue [] X.env)).any (·.1)=false:=by rfl) (h4:(backTo pos2 (Ue [] X.env)).any (·.1)=false:=by rfl):
 PE X (.Call (.Name "len" p1) [.Call (.Name "set" p2) [e] [] pos2] [] pos1) (Ll X.K te):=by
 intro pq s σ H Q I h;refine Uy (AI I hl hml Nv ?_ (by decide) (by decide));refine PyProof.Rows.callWith_builtin1 ?_ h2 h3;rw[h2];show UX _ _ (spliced ((false,eval (.Call (.Name "set" p2) [e] [] pos2) X.env)::backTo pos1 (Ue [] X.env))) _ _ s;refine Calls.spliced_cons ?_;refine Uy (AI I hs hms b_set ?_ (by decide) (by decide));refine PyProof.Rows.callWith_type1 ?_ h1 h4;rw[h1];show UX _ _ (spliced ((false,eval e X.env)::backTo pos2 (Ue [] X.env))) _ _ s;refine Calls.spliced_cons (thn (he pq s σ H _ I h) λu s1 ⟨x,H1,I1,rx,p,ns,ex,hq,hb,q1⟩=>Calls.spliced_nil ?_);subst ex;cases rx;obtain⟨its,r',pl,hz⟩:=I1.list hq;have hlen:=r'.length;rw[Qr]at hlen;refine call_set_list (items:=its.toArray) (ns:=ns) (I1.ok.hd hc) pl.isList (by simpa using y0 r') (by simp only[Qt];omega) λh' tk hS hk=>?_;refine Calls.spliced_nil ?_;have I2:Inv X pq σ H1 {s1 with heap:=h',toks:=tk}:=I1.kept λb o e=>hk b o (Qw e) e;obtain⟨o,es,ep,t,ho,hex,hd,_,_,hbb,hf,hn⟩:=hS;refine call_len_set (s:={s1 with heap:=h',toks:=tk}) ho hex hd hf (by unfold Ux at hbb;omega) ?_;refine⟨.int _,H1,I2.tok _,⟨_,rfl⟩,?_⟩;rw[hn];simp only[Qt];rw[<-hlen];exact q1
end
section
variable{prog:Ua}{w:Ud}{A:Uj}{E:UT->UU->Prop}{s:UU}
theorem B1(b:Bool)(x y:UT):keyLt' (tuples' b) x y=(do
 let xs <- Builtin.List.listItems x;let ys <- Builtin.List.listItems y
 for ((p,q),i) in (xs.toList.zip ys.toList).zipIdx do
  if !(<- eqBool p q) then return <- oneLt' (b&&i == 0) p q
 return xs.size<ys.size):=rfl
theorem C6{α β:Type}{f:α->Sem β}{M:Model}:∀(vs:List α) (g:α->β) {Q:List β->UU->Prop},(∀ v∈vs,∀(Q':β->UU->Prop),Q' (g v) s->UX M A (f v) Q' E s)->Q (vs.map g) s->UX M A (vs.mapM f) Q E s
 | [],g,Q,_,h=>by rw[List.mapM_nil];exact UW h
 | v::vs,g,Q,hf,h=>by
   rw[List.mapM_cons];exact US (hf v (RD ..) _ (US (C6 vs g (λu hu=>hf u (R3 _ hu)) (UW h))))
noncomputable def IsPr(h:Heap)(v:UT)(a b:Int):Prop:=∃ p o n t u,v = .ref p/\h.get? p=some o/\o.cls = .type "tuple"/\o.data = .seq #[.int a t,.int b u] n
theorem JH{v u:UT}{a b c d:Int}{Q:Bool->UU->Prop}(hv:IsPr s.heap v a b)(hu:IsPr s.heap u c d)(hne:a≠c)(h:Q (decide (a<c)) s):UX (UZ prog w) A (keyLt' (tuples' true) v u) Q E s:=by
 obtain⟨p,o,n,t1,t2,rfl,ho,hc,hd⟩:=hv;obtain⟨p',o',n',t1',t2',rfl,ho',hc',hd'⟩:=hu;rw[B1];refine US (VM ho hd (US (VM ho' hd' ?_)));dsimp only[TN,List.zip,UI,UO];simp only[SY,U0,bind_assoc];refine US (SeqAt.EqAt.int_int a t1 c t1' _ _ _ _ ?_);rw[show(a == c)=false from beq_eq_false_iff_ne.mpr hne];simp only[UA,if_true,UE,beq_self_eq_true];refine US (US (oneLt_int (UW ?_)));dsimp only;exact US (UW (UW h))
theorem BZ(v:UT):firstOfTuple' v=(do
 if (<- typeOf v) != .type "tuple" then return none
 return (<- Builtin.List.listItems v)[0]?):=rfl
noncomputable def w9(h:Heap)(v:UT):UT:=match v with
 | .ref p=>match h.get? p with
   | some o=>match o.data with
     | .seq xs _=>(xs[0]?).getD .none
     | _ => .none
   | none => .none
 | _ => .none
theorem Ho{v:UT}{a b:Int}(hv:IsPr s.heap v a b):∃ t,w9 s.heap v = .int a t:=by
 obtain⟨p,o,n,t1,t2,rfl,ho,hc,hd⟩:=hv;exact⟨t1,by simp[w9,ho,hd]⟩
theorem Hq{v:UT}{a b:Int}{Q:Option UT->UU->Prop}(hv:IsPr s.heap v a b)(h:Q (some (w9 s.heap v)) s):UX (UZ prog w) A (firstOfTuple' v) Q E s:=by
 obtain⟨p,o,n,t1,t2,rfl,ho,hc,hd⟩:=id hv;have e:w9 s.heap (.ref p) = .int a t1:=by simp[w9,ho,hd]
 rw[e]at h;rw[BZ];refine US (Vd (T:="tuple") ⟨o,ho,hc⟩ ?_);have ht:(Value.type "tuple" != Value.type "tuple")=false:=by decide
 rw[ht];simp only[RN,if_false];exact US (VM ho hd (UW h))
theorem GR:∀(us:List UT),(∀ u∈us,∃ a t,u=Value.int a t)->∃ ns,IntsAre us ns
 | [],_=>⟨[],.nil⟩
 | u::us,h=>by
   obtain⟨a,t,rfl⟩:=h u (RD ..);obtain⟨ns,r⟩:=GR us λv hv=>h v (R3 _ hv);exact⟨a::ns,.cons _ _ r⟩
theorem JI{v:UT}{vs:List UT}{Q:VV->UU->Prop}(hp:∀ u∈v::vs,∃ a b,IsPr s.heap u a b)(h:Q (tuples' true) s):UX (UZ prog w) A (keyKind' (v::vs).toArray) Q E s:=by
 rw[keyKind'_eq,Tv];refine US ?_;rw[map_eq_pure_bind];refine US (C6 (v::vs) (λu=>some (w9 s.heap u)) (λu hu Q' hq=>?_) (UW ?_))
 ·obtain⟨a,b,hab⟩:=hp u hu;exact Hq hab hq
 ·have e1:((Tw (λu=>some (w9 s.heap u)) (v::vs)).toArray.all λx=>x.isSome)=true:=by
   simp
  rw[iP e1];refine US (VA ?_)
  have e2:(Tw (λu=>some (w9 s.heap u)) (v::vs)).toArray.filterMap id=((v::vs).map (w9 s.heap)).toArray:=by
   simp[Tq]
  rw[e2]
  obtain⟨ns,hI⟩:=GR ((v::vs).map (w9 s.heap)) (λu hu=>by
   obtain⟨u',hu',rfl⟩:=RI.mp hu;obtain⟨a,b,hab⟩:=hp u' hu';obtain⟨t,e⟩:=Ho hab;exact⟨a,t,e⟩)
  rw[oneTypeOnly'_eq,Tv,mapM_typeOf_ints hI];simp only[map_pure,pure_bind]
  have hall:((Tw (λ_=>Value.type "int") ((v::vs).map (w9 s.heap))).toArray.all λx=>x == Value.type "int")=true:=by
   simp only[List.all_toArray,Tx,RB];intro _ _;rfl
  have h0:(Tw (λ_=>Value.type "int") ((v::vs).map (w9 s.heap))).toArray[0]?=some (Value.type "int"):=by simp
  rw[h0];dsimp only;rw[iP hall];simp only[pure_bind];refine UW ?_;exact h
theorem IsPr.at{h h':Heap}{v:UT}{a b:Int}(x:IsPr h v a b)(k:∀ p o,h.get? p=some o->o.cls = .type "tuple"->h'.get? p=some o):IsPr h' v a b:=by
 obtain⟨p,o,n,t1,t2,e,ho,hc,hd⟩:=x;exact⟨p,o,n,t1,t2,e,k p o ho hc,hc,hd⟩
end
noncomputable def Up(xs:Array Nat):Prop:=∀ i j (hi:i<xs.size) (hj:j<xs.size),i<j->xs[i]<xs[j]
theorem up_list{xs:Array Nat}:Up xs↔xs.toList.Pairwise (·<·):=by
 rw[List.pairwise_iff_getElem]
 exact⟨λh i j hi hj hij=>by simpa using h i j (by simpa using hi) (by simpa using hj) hij,λh i j hi hj hij=>by
  have:=h i j (by simpa using hi) (by simpa using hj) hij
  rwa [Td,Td]at this⟩
theorem JJ{xs:Array Nat}(hu:Up xs)(j:Nat):∀(f lo hi:Nat),hi<=xs.size->lo<=hi->hi - lo<=f->(∀ i (h:i<xs.size),i<lo->xs[i]<j)->(∀ i (h:i<xs.size),hi<=i->j<=xs[i])->
 (SetTable.below.go xs j f lo hi)<=xs.size/\(∀ i (h:i<xs.size),i<SetTable.below.go xs j f lo hi->xs[i]<j)/\(∀ i (h:i<xs.size),SetTable.below.go xs j f lo hi<=i->j<=xs[i]):=by
 intro f
 induction f with
 | zero=>
   intro lo hi h1 h2 h3 h4 h5;have:lo=hi:=by omega
   subst this;unfold SetTable.below.go;exact⟨h1,h4,h5⟩
 | succ f ih=>
   intro lo hi h1 h2 h3 h4 h5;unfold SetTable.below.go;by_cases hlh:lo<hi
   ·rw[iP hlh];have hm:(lo+hi) / 2<xs.size:=by omega
    have e:xs.getD ((lo+hi) / 2) j=xs[(lo+hi) / 2]:=by simp[Array.getD,hm]
    dsimp only;rw[e];by_cases hc:xs[(lo+hi) / 2]<j
    ·rw[iP hc];refine ih _ _ h1 (by omega) (by omega) (λi h hi'=>?_) h5;by_cases z:i=(lo+hi) / 2
     ·subst z;exact hc
     ·exact UH (hu i _ h hm (by omega)) hc
    ·rw[iG hc];refine ih _ _ (by omega) (by omega) (by omega) h4 (λi h hi'=>?_);by_cases z:i=(lo+hi) / 2
     ·subst z;omega
     ·have:=hu _ i hm h (by omega);omega
   ·rw[iG hlh];have:lo=hi:=by omega
    subst this;exact⟨h1,h4,h5⟩
theorem JK{xs:Array Nat}(hu:Up xs)(j:Nat):SetTable.below xs j<=xs.size/\(∀ i (h:i<xs.size),i<SetTable.below xs j->xs[i]<j)/\(∀ i (h:i<xs.size),SetTable.below xs j<=i->j<=xs[i]):=
 JJ hu j xs.size 0 xs.size (Qs _) (Rz _) (by omega) (λi _ h=>absurd h (SM _)) (λi h h'=>absurd h (Nat.not_lt.mpr h'))
theorem Nx{xs:Array Nat}(hu:Up xs){j:Nat}(hn:xs[SetTable.below xs j]?≠some j):Up (SetTable.insertAt xs (SetTable.below xs j) j):=by
 obtain⟨h1,h2,h3⟩:=JK hu j;rw[up_list,SetTable.toList_insertAt];have hl:=up_list.mp hu
 have hgt:∀ i (h:i<xs.size),SetTable.below xs j<=i->j<xs[i]:=by
  intro i h hi;have:=h3 i h hi;by_cases z:SetTable.below xs j=i
  ·have:xs[i]≠j:=λe=>hn (by rw[z];simp[h,e]);omega
  ·have a:=hu _ i (by omega) h (Nat.lt_of_le_of_ne hi z);have b:=h3 (SetTable.below xs j) (by omega) (Qs _);omega
 rw[List.pairwise_append];refine⟨hl.take,?_,?_⟩
 ·rw[SZ];refine⟨λy hy=>?_,hl.drop⟩;obtain⟨i,hi,e⟩:=Rr.mp hy;rw[Tz]at e;have hi':SetTable.below xs j+i<xs.size:=by simp at hi;omega
  have:=hgt _ hi' (SI _ _);rw[<-e];simpa using this
 ·intro x hx y hy;obtain⟨i,hi,e⟩:=Rr.mp hx;have hib:i<SetTable.below xs j:=by simp at hi;omega
  have hx':x<j:=by
   rw[<-e,List.getElem_take];have:=h2 i (by omega) hib;simpa using this
  rcases R0.mp hy with rfl | hy
  ·exact hx'
  ·obtain⟨k,hk,e2⟩:=Rr.mp hy;rw[Tz]at e2;have hk':SetTable.below xs j+k<xs.size:=by simp at hk;omega
   have:=hgt _ hk' (SI _ _);have h:xs.toList[SetTable.below xs j+k]'(by simpa using hk')=xs[SetTable.below xs j+k]:=by simp
   rw[h]at e2;omega
structure Tab(w:Ud)(t:V0):Prop where
 up:Up t.place
 no:t.dummies=#[]
 led:t.led=!w.params.followText "set-order"
theorem JL{w:Ud}{t:V0}(T:Tab w t)(j:Nat):t.slot j ≠ .dummy:=by
 unfold SetTable.slot;rw[T.no];dsimp only;split
 ·exact λz=>nomatch z
 ·have:SetTable.has #[] j=false:=rfl;rw[this];exact λz=>nomatch z
theorem Ny{w:Ud}{t:V0}(T:Tab w t)(g:Nat->Int)(h:Int):∀(f:Nat) (p:SetTable.Probe) (j:Nat) (d:Option Nat),p.dummy=none->SetTable.probe.go t g h f p=some (.empty j d)->t.slot j = .empty/\d=none:=by
 intro f
 induction f with
 | zero=>intro p j d _ e;unfold SetTable.probe.go at e;cases e
 | succ f ih=>
   intro p j d hp e
   have adv:∀ q:SetTable.Probe,q.dummy=none->(t.advance q).dummy=none:=by
    intro q hq;unfold SetTable.advance;split
    ·exact hq
    ·exact hq
   unfold SetTable.probe.go at e;split at e
   ·rename_i hs;cases e;exact⟨hs,hp⟩
   ·rename_i hs;exact absurd hs (JL T _)
   ·split at e
    ·cases e
    ·exact ih _ _ _ (adv _ hp) e
theorem JM{w:Ud}{t:V0}(T:Tab w t){h:Int}{j:Nat}{b:Bool}(e:t.freeSlot h=some (j,b)):t.place[SetTable.below t.place j]?≠some j:=by
 unfold SetTable.freeSlot at e;split at e
 ·rename_i j' d hp;unfold SetTable.probe at hp;obtain⟨hs,hd⟩:=Ny T _ _ _ _ _ _ rfl hp;subst hd;cases e;unfold SetTable.slot at hs;dsimp only[TB]at hs ⊢;split at hs
  ·cases hs
  ·rename_i hn;intro z;exact hn (by rw[z];simp)
 ·cases e
theorem At{w:Ud}{t:V0}(T:Tab w t)(n:Nat):Tab w (t.standIn n):=by
 refine⟨?_,rfl,T.led⟩;show Up (Array.range n);intro i j hi hj hij;simpa using hij
theorem Nz{w:Ud}{t:V0}(T:Tab w t)(n:Nat):Tab w (t.orStandIn n):=by
 unfold SetTable.orStandIn;split
 ·exact T
 ·exact At T n
theorem Lm{w:Ud}{t:V0}(T:Tab w t)(es:Array (Int×UT))(h:Int)(x:UT):Tab w (layNew t es h x).2.1:=by
 unfold layNew;split
 ·rename_i j b e;refine Nz (t:=(t.put j).1) ⟨Nx T.up (JM T e),?_,T.led⟩ _;show(if SetTable.has t.dummies j=true then _ else t.dummies)=#[];rw[T.no];rfl
 ·exact At T _
theorem Hr{w:Ud}{t:V0}(T:Tab w t)(es:Array (Int×UT))(n:Nat):Tab w (Vn t es n).2.1:=by
 unfold Vn;split
 ·rename_i t' order e;dsimp only;split
  ·unfold SetTable.relaid SetTable.laid at e;obtain⟨owner,_,e⟩:=Option.bind_eq_some_iff.mp e;have e':=oj e;have e1:=congrArg Prod.fst e';subst e1;refine⟨?_,rfl,T.led⟩;rw[up_list]
   have key:∀ l:List Nat,l.Pairwise (·<·)->((l.filterMap λj=>(owner.getD j none).map (j,·)).map (·.1)).Pairwise (·<·):=by
    intro l hl
    have:(l.filterMap λj=>(owner.getD j none).map (j,·)).map (·.1)=l.filter λj=>(owner.getD j none).isSome:=by
     induction l with
     | nil=>rfl
     | cons a l ih=>
       have ih:=ih (SZ.mp hl).2;cases ho:owner.getD a none with
       | none=>rw[List.filterMap_cons_none (by rw[ho];rfl),TC (by rw[ho];simp),ih]
       | some b=>rw[List.filterMap_cons_some (b:=(a,b)) (by rw[ho];rfl),TF (by rw[ho];rfl),RK,ih]
    rw[this];exact hl.filter _
   simpa using key _ List.pairwise_lt_range
  ·exact At T _
 ·exact At T _
noncomputable def SetX(prog:Ua)(w:Ud)(h:Heap)(a:UV)(L:List Int):Prop:=
 ∃ o es ep t,h.get? a=some o/\o.ExactSet/\o.data = .set es ep t/\ElemsOf (intKind prog w) es.toList/\es.size<Ux/\t.fits es.size=true/\Tab w t/\(es.toList.map λe=>numOf e.2).Perm L
section
variable{prog:Ua}{w:Ud}{A:Uj}{E:UT->UU->Prop}{s:UU}
theorem SetX.keep{h h':Heap}{a:UV}{L:List Int}(x:SetX prog w h a L)(k:∀ o,h.get? a=some o->h'.get? a=some o):SetX prog w h' a L:=by
 obtain⟨o,es,ep,t,ho,r⟩:=x;exact⟨o,es,ep,t,k o ho,r⟩
theorem Bp{k:Int}{v:UT}(h:(intKind prog w).is k v=true):numOf v=k:=by
 obtain⟨t,rfl⟩:=Value.isInt_shape (k:=k) (v:=v) h;rfl
theorem JN{h:Heap}{a:UV}{o:Obj}{es es':Array (Int×UT)}{ep:Nat}{t t':V0}{L:List Int}(ho:h.get? a=some o)(hx:o.ExactSet)(hd:o.data = .set es ep t)
 (he:ElemsOf (intKind prog w) es'.toList) (hb:es'.size<Ux) (hf:t'.fits es'.size=true) (hT:Tab w t') (hp:(es'.toList.map λe=>numOf e.2).Perm L):
 (h.update a (Obj.putSet es' t')).get? a=some {o with data := .set es' (ep+1) t'}/\SetX prog w (h.update a (Obj.putSet es' t')) a L:=by
 have g:=Si (Obj.putSet es' t') ho (by rw[putSet_of es' t' hd];rfl);rw[putSet_of es' t' hd]at g;exact⟨g,_,es',ep+1,t',g,hx,rfl,he,hb,hf,hT,hp⟩
theorem Mx{g:Bool->Sem Unit}(hg:∀(b:Bool) (s₁:UU) (Q':Unit->UU->Prop),Q' () s₁->UX (UZ prog w) A (g b) Q' E s₁){a:UV}{o:Obj}{es es1:Array (Int×UT)}{ep:Nat}{t t2:V0}{L:List Int}{dm:Bool}
 {R:Option Bool->UU->Prop} (ho:s.heap.get? a=some o) (hx:o.ExactSet) (hd:o.data = .set es ep t) (he:ElemsOf (intKind prog w) es1.toList) (hb:es1.size<Ux) (hf:t2.fits es1.size=true) (hT:Tab w t2) (hp:(es1.toList.map λe=>numOf e.2).Perm L)
 (h:∀ h',Rk a s.heap h'->SetX prog w h' a L->R (some true) {s with heap:=h'}):
 UX (UZ prog w) A (do
  storeSet a es1 t2
  if (!dm&&t2.tooFull)=true then do
      g (Vn t2 es1 (SetTable.grown es1.size)).2.2
      storeSet a (Vn t2 es1 (SetTable.grown es1.size)).1 (Vn t2 es1 (SetTable.grown es1.size)).2.1
      pure (some true)
   else pure (some true)) R E s:=by
 obtain⟨g1,x1⟩:=JN (prog:=prog) ho hx hd he hb hf hT hp;have b1:=Rk.update s.heap a (Obj.putSet es1 t2);refine US (W9 ho hd ?_ (WB hb));by_cases hc:(!dm&&t2.tooFull)=true
 ·rw[iP hc];have hpr:=relayAll_perm t2 es1 (SetTable.grown es1.size);have hfr:=relayAll_fits t2 es1 (SetTable.grown es1.size);have hTr:=Hr hT es1 (SetTable.grown es1.size)
  have hsz:(Vn t2 es1 (SetTable.grown es1.size)).1.size<Ux:=by
   rw[<-RW,hpr.length_eq,RW];exact hb
  obtain⟨_,x2⟩:=JN (prog:=prog) g1 hx rfl (he.perm hpr) hsz hfr hTr ((hpr.map _).trans hp);exact US (hg _ _ _ (US (W9 g1 rfl (UW (h _ (b1.trans (Rk.update _ a _)) x2)) (WB hsz))))
 ·rw[iG hc];exact UW (h _ b1 x1)
theorem QZ{a:UV}{L:List Int}{k:Int}{tk:Tok}{Q:Bool->UU->Prop}(hX:SetX prog w s.heap a L)(hroom:L.length+1<Ux)
 (h:∀ h' b,Rk a s.heap h'->SetX prog w h' a (VW L k)->Q b {s with heap:=h'}):UX (UZ prog w) A (setAddHashed a (.int k tk) ((intKind prog w).hash k)) Q E s:=by
 obtain⟨o,es,ep,t,ho,hx,hd,hel,hb,hf,hT,hp⟩:=hX;have hkey:(intKind prog w).is k (.int k tk)=true:=WZ _ _ _ _;have hsz:es.size=L.length:=by rw[<-hp.length_eq,Qr,RW]
 unfold setAddHashed setAddHashedIn;refine Uq (US (wpAny_setState_of ho hd hf ?_));dsimp only;rw[byScan_of (knd:=intKind prog w) rfl hb hel,iP rfl];unfold setAddByScan;refine US (US (VA (US (wpAny_setScan_of hkey ho hd hf hel ?_))))
 have hin:(L.any (· == k))=true↔∃ e∈es.toList,(intKind prog w).is k e.2=true:=by
  rw[SW];constructor
  ·rintro⟨x,hxL,e⟩;obtain⟨y,hy,ey⟩:=RI.mp (hp.mem_iff.mpr hxL);obtain⟨⟨k',hk',_⟩,_⟩:=hel y hy;have:numOf y.2=k':=Bp hk';have:k'=k:=by rw[<-this,ey];simpa using e
   subst this;exact⟨y,hy,hk'⟩
  ·rintro⟨y,hy,hk'⟩;refine⟨k,hp.mem_iff.mp (RI.mpr ⟨y,hy,Bp hk'⟩),by simp⟩
 cases hr:List.findIdx? (λe=>(intKind prog w).is k e.2) es.toList with
 | some j=>
   obtain⟨hj,hpj,_⟩:=List.findIdx?_eq_some_iff_getElem.mp hr;have hL:VW L k=L:=by unfold VW;rw[iP (hin.mpr ⟨_,Rn hj,hpj⟩)]
   refine UW (UW ?_);exact h s.heap _ (Rk.refl a s.heap) (by rw[hL];exact⟨o,es,ep,t,ho,hx,hd,hel,hb,hf,hT,hp⟩)
 | none=>
   have hL:VW L k=L++[k]:=by
    unfold VW;rw[iG];intro z;obtain⟨e,he,hk'⟩:=hin.mp z;have:=List.findIdx?_eq_none_iff.mp hr e he;rw[hk']at this;cases this
   have q1:=layNew_perm t es ((intKind prog w).hash k) (.int k tk);have q2:=layNew_fits t es ((intKind prog w).hash k) (.int k tk);have q3:=Lm hT es ((intKind prog w).hash k) (.int k tk);generalize layNew t es ((intKind prog w).hash k) (.int k tk)=lay at q1 q2 q3 ⊢;obtain⟨es1,t1,dm,gv⟩:=lay;dsimp only at q1 q2 q3 ⊢;rw[Array.toList_push]at q1;have he1:ElemsOf (intKind prog w) es1.toList:=(hel.push hkey rfl).perm q1
   have hz1:es1.size<Ux:=by
    rw[<-RW,q1.length_eq,Qv,RW,hsz];simpa using hroom
   have hp1:(es1.toList.map λe=>numOf e.2).Perm (VW L k):=by
    rw[hL];refine(q1.map _).trans ?_;rw[R9];exact hp.append_right _
   have hgw:∀(b:Bool) (s₁:UU) (Q':Unit->UU->Prop),Q' () s₁->UX (UZ prog w) A (match b with | true=>rule "set.scan.the-table-gave-way" | false=>pure ()) Q' E s₁:=
    λb s₁ Q' hq=>by cases b<;>first | exact UW hq | exact VA hq
   refine US (hgw _ _ _ ?_);split
   ·refine US ?_;rw[hashByValue_scannable 8 rfl];refine UW (Mx hgw ho hx hd he1 hz1 q2 q3 hp1 λh' hsb hX'=>?_);exact UW (h h' _ hsb hX')
   ·refine US (UW ?_);rw[iP rfl];refine Mx hgw ho hx hd he1 hz1 q2 q3 hp1 λh' hsb hX'=>?_;exact UW (h h' _ hsb hX')
end
section
variable{prog:Ua}{w:Ud}{A:Uj}{R:Result->UU->Prop}{I:UV}{fp wr:List UV}{G:Array Vl->Array Vl->Prop}{n:Nat}{P:Nat->UT->Prop}{St:Nat->UU->Prop}
theorem Po(W:WalksS prog w A.in1 I fp wr G n P St)(S:UV)(hSf:S∉fp)(val:Nat->Int)(hval:∀ i v,P i v->∃ t,v = .int (val i) t)(hb:n+1<Ux):
 ∀(k i:Nat) (s:UU),i+k=n->St i s->SetX prog w s.heap S (VB val i)->
  (∀ s',Moved (S::wr) G s s'->SetX prog w s'.heap S (VB val n)->R (.ok (.ret .none)) s')->
  codeAny (UZ prog w) A (.builtin "set.update.loop" ⟨[.ref S,.ref I],[]⟩) R s:=by
 have nw:S∉wr:=λz=>hSf (W.sub _ z);have up:∀ b∈wr,b∈S::wr:=λb hb=>R3 _ hb;intro k
 induction k with
 | zero=>
   intro i s hk hst hX hR;obtain rfl:i=n:=hk;refine VF F.entry_set_update_loop ?_;rw[Around.under_plainId F.plain_set_update_loop _];exact US (m:=pyNext (.ref I)) (W.done s _ _ hst λs' hm=>UW (hR s' (hm.mono up) (hX.keep λo e=>hm.heap S o nw e)))
 | succ k ih=>
   intro i s hk hst hX hR;refine VF F.entry_set_update_loop ?_;rw[Around.under_plainId F.plain_set_update_loop _];refine US (m:=pyNext (.ref I)) (W.item i s _ _ (by omega) hst λv s1 hP st1 hm=>?_);obtain⟨t,rfl⟩:=hval i v hP;refine US (m:=holding [Value.int (val i) t] (setAdd S (.int (val i) t))) (Uq ?_);unfold setAdd;have X1:SetX prog w s1.heap S (VB val i):=hX.keep λo e=>hm.heap S o nw e;have room:(VB val i).length+1<Ux:=by have:=firstMet_length_le val i;omega
   refine Uq (US ((intKind prog w).pyHash (k:=val i) (WZ _ _ _ _) ?_));refine QZ (s:={s1 with toks:=s1.toks+1}) X1 room λh2 b hsb X2=>?_;rw[<-firstMet_succ]at X2;have oth:∀ b o,b≠S->s1.heap.get? b=some o->h2.get? b=some o:=λb o hne e=>(hsb.2 b hne).trans e;refine UW ⟨plainId_quiet F.plain_set_update_loop _,ih (i+1) _ (by omega) (W.frame _ s1 _ _ st1 (Sa _) λb hbf o e=>oth b o (λz=>hSf (z▸hbf)) e) X2 λs3 m3 X3=>?_⟩;exact hR s3 (Moved.trans W.gtrans ((hm.mono up).then_heap (Sa _) λb o hb e=>oth b o (λz=>hb (by rw[z];exact RD)) e) m3) X3
end
section
variable{prog:Ua}{w:Ud}{A:Uj}{E:UT->UU->Prop}{s:UU}
noncomputable abbrev AT(w:Ud):Obj:={cls := .type "set",dict:=none,data := .set #[] 0 (.fresh 0 0 (!w.params.followText "set-order"))}
theorem Pp(a:UT){Q₁:UT->UU->Prop}(h:Q₁ (.ref s.heap.objs.size) {s with heap:=s.heap.push (AT w)}):codeAny (UZ prog w) A (.call (.builtin "set.__new__") ⟨[.type "set",a],[]⟩) (wants Q₁ E) s:=by
 refine Vi ?_;show UX _ A.in1 (checkBuiltinCall "set.__new__" ⟨[.type "set",a],[]⟩ >>= λ_=>again (.builtin "set.__new__" ⟨[.type "set",a],[]⟩)) _ _ s;refine US (wpAny_of_eq (F.newCall_set_1 a) (UW ⟨plainId_quiet F.plain_set_new _,VF F.entry_set_new ?_⟩));rw[Around.under_plainId F.plain_set_new _];unfold Builtin.«set.__new__» Builtin.Frozenset.newClass;have sub:=sub_set_self;obtain⟨hp,g,d,tk,os⟩:=s;dsimp only
 wp_walk
 refine wpAny_askSetting (UW ?_);dsimp only;simp only[newObj];exact US (wpAny_alloc (UW (UW h)))
theorem JO(h:Heap):SetX prog w (h.push (AT w)) h.objs.size []:=
 ⟨_,#[],0,_,Qx _ rfl,⟨rfl,rfl,rfl⟩,rfl,λe he=>by simp at he,by decide,rfl,⟨λi j hi=>absurd hi (SM _),rfl,rfl⟩,by simp⟩
set_option maxHeartbeats 8000000 in
theorem Pq{l:UV}{items:Array UT}{ns:List Int}{Q:UT->UU->Prop}(hh:A.handled=none)(hl:s.heap.IsList l items)(hi:IntsAre items.toList ns)(hb:items.size+1<Ux)
 (h:∀(h':Heap) (tk:Nat),SetX prog w h' s.heap.objs.size (VB (λi=>ns.getD i 0) items.size)->(∀ b o,b<s.heap.objs.size->s.heap.get? b=some o->h'.get? b=some o)->Q (.ref s.heap.objs.size) {s with heap:=h',toks:=tk}):
 UX (UZ prog w) A (call (.type "set") [.ref l]) Q E s:=by
 obtain⟨c,tl,hmro⟩:=F.called_set.mro;have made:=F.called_set.made;have sub:=F.called_set.sub;have u1:=F.called_set.notType;have u2:=F.called_set.canCreate;have u3:=F.typeCall_set_1 (.ref l);refine WR (Vi ?_);show UX _ _ (callAny (.type "set") _) _ _ _;refine UW ⟨Code.quiet_builtin _ (by decide +kernel),VF F.entry_type_call ?_⟩;rw[Around.under_plain (Vk "set" [.ref l] []) rfl]
 repeat (any_goals (first | assumption | wp_step))
 refine VC (Pp (.ref l) (E:=E) (Q₁:=λobj s₁=>obj = .ref s.heap.objs.size/\s₁={s with heap:=s.heap.push (AT w)}) ⟨rfl,rfl⟩) λr s₁ hr=>?_;cases r with
 | error e=>exact hr
 | ok fl=>
   cases fl with
   | ret obj=>
     obtain⟨rfl,rfl⟩:=hr;have gS:(s.heap.push (AT w)).get? s.heap.objs.size=some (AT w):=Qx _ rfl;have hT:Shared.TypeIs {s with heap:=s.heap.push (AT w)} (.ref s.heap.objs.size) "set":=⟨_,gS,rfl⟩
     have u4:=F.called_set.init.lookup;have u5:=F.called_set.init.bind (.ref s.heap.objs.size)
     repeat (any_goals (first | assumption | wp_step))
     refine VC (Vo (R:=wants (λr s₂=>r = .none/\∃ h' tk,s₂={s with heap:=h',toks:=tk}/\SetX prog w h' s.heap.objs.size (VB (λi=>ns.getD i 0) items.size)/\
      (∀ b o,b<s.heap.objs.size->s.heap.get? b=some o->h'.get? b=some o)) E) F.called_set.init.plain F.entry_set_init (WG hT ?_)) λr₂ s₂ hr₂=>?_
     ·obtain⟨⟨cl,di,da,sl⟩,ol,cl',nl,da'⟩:=hl;simp only at cl' da';subst cl' da';have hol:(s.heap.push (AT w)).get? l=some {cls := .type "list",dict:=di,data := .seq items nl,slots:=sl}:=Qq _ ol;have v1:=F.sub_list_set;have v2:=F.sub_list_frozenset;have v3:(Value.type "list" == Value.type "dict")=false:=by decide
      have hl1:(s.heap.push (AT w)).IsList l items:=⟨_,hol,rfl,nl,rfl⟩
      unfold Builtin.«set.__init__» noKeywords Builtin.Frozenset.updateFrom;generalize hPI:pyIter=PI
      wp_walk
      subst hPI;refine V9 hl1 (US (Wa ?_));have lS:l<s.heap.objs.size:=Qw ol;have z1:(s.heap.push (AT w)).objs.size=s.heap.objs.size+1:=RT _ _;have lI:l≠(s.heap.push (AT w)).objs.size:=by rw[z1];exact R5 (SG lS)
      have hSf:s.heap.objs.size∉[(s.heap.push (AT w)).objs.size,l]:=by
       rw[z1];intro z;rcases R0.mp z with z | z
       ·exact absurd z (R5 (Sk _))
       ·exact absurd (Qu.mp z) (Sr lS)
      have hval:∀(i:Nat) (v:UT),items[i]?=some v->∃ t,v = .int ((λi=>ns.getD i 0) i) t:=λi v hv=>IntsAre.int_at hi i v (by rw[Sj];exact hv)
      refine Po ((Walks.list (by simp[hh]) _ l lI items).toS) s.heap.objs.size hSf (λi=>ns.getD i 0) hval hb items.size 0 _ (TR _)
       ⟨⟨_,Qx _ rfl,rfl,rfl⟩,hl1.push _⟩ ((JO s.heap).keep λo e=>Qq _ e) λs' hm X'=>?_
      obtain⟨h',g',d',tk',os'⟩:=s';obtain rfl:g'=s.gens:=hm.gens;obtain rfl:d'=s.drawn:=hm.drawn;obtain rfl:os'=s.os:=hm.os;refine UW (UW ⟨rfl,h',tk',rfl,X',λb o hb e=>hm.heap b o (λz=>?_) (Qq _ (Qq _ e))⟩);rcases R0.mp z with z | z
      ·exact absurd z (R5 hb)
      ·have z':=Qu.mp z;rw[z1]at z';exact absurd z' (R5 (SG hb))
     ·cases r₂ with
      | error e=>exact hr₂
      | ok fl₂=>
        cases fl₂ with
        | ret r=>
          obtain⟨rfl,h',tk,rfl,X',hk'⟩:=hr₂
          repeat (any_goals (first | assumption | wp_step))
          exact h _ _ X' hk'
        | _=>exact hr₂.elim
   | _=>exact hr.elim
end
end L2
set_option maxHeartbeats 400000
namespace L2
open PySem PySem.Spec PyProof.Rows
noncomputable def SetAt(w:Ud)(h:Heap)(a:UV)(es:Array (Int×UT))(ep:Nat)(t:V0):Prop:=∃ o,h.get? a=some o/\o.cls = .type "set"/\o.data = .set es ep t/\t.fits es.size=true/\Tab w t
theorem SetAt.keep{w:Ud}{h h':Heap}{a:UV}{es:Array (Int×UT)}{ep:Nat}{t:V0}(x:SetAt w h a es ep t)(k:∀ o,h.get? a=some o->h'.get? a=some o):SetAt w h' a es ep t:=let ⟨o,e,r⟩:=x;⟨o,k o e,r⟩
noncomputable def slotAt(t:V0)(i:Nat):Nat:=if i=0 then 0 else t.place.getD (i - 1) 0+1
inductive Way(w:Ud)(h:Heap)(T0 S:UV)(es:Array (Int×UT))(ep:Nat)(t:V0)(fs:List (Int×UT))(i:Nat):UT->Prop where
 | text (hw:w.params.followText "set-order"=true) (hf:fs=(pickOrder (w.params.setOrder S ep) es).toList):Way w h T0 S es ep t fs i (.int 0 0)
 | table (hw:w.params.followText "set-order"=false) (hd:(!t.plain&&decide (es.size>1))=false) (hf:fs=es.toList):Way w h T0 S es ep t fs i (.int (slotAt t i:Nat) 0)
 | drawn (hw:w.params.followText "set-order"=false) (pl:List Nat) (o:Obj) (n:Nat) (ho:h.get? T0=some o) (hd:o.data = .seq (pl.map λk=>Value.int (k:Nat) 0).toArray n) (hl:pl.length=fs.length)
    (hf:∀(k:Nat) p,pl[k]?=some p->es[p]?=fs[k]?):Way w h T0 S es ep t fs i (.ref T0)
noncomputable def Sit(w:Ud)(h:Heap)(T0 I S:UV)(es:Array (Int×UT))(ep:Nat)(t:V0)(fs:List (Int×UT))(i:Nat):Prop:=
 ∃ o first,h.get? I=some o/\o.cls = .type "set_iterator"/\o.data = .fields #[first,.int (i:Nat) 0,.ref S,.int (es.size:Nat) 0,.int (ep:Nat) 0]/\Way w h T0 S es ep t fs i first
section
variable{prog:Ua}{w:Ud}{A:Uj}{E:UT->UU->Prop}{s:UU}{T0 I S:UV}{es:Array (Int×UT)}{ep:Nat}{t:V0}{fs:List (Int×UT)}{i:Nat}
theorem Sit.typeIs(x:Sit w s.heap T0 I S es ep t fs i):s.TypeIs (.ref I) "set_iterator":=let ⟨o,_,e,c,_⟩:=x;⟨o,e,c⟩
theorem Sit.keep{h h':Heap}(x:Sit w h T0 I S es ep t fs i)(k:∀ b,b=I\/b=T0->∀ o,h.get? b=some o->h'.get? b=some o):Sit w h' T0 I S es ep t fs i:=by
 obtain⟨o,first,ho,hc,hd,W⟩:=x;refine⟨o,first,k I (.inl rfl) _ ho,hc,hd,?_⟩;cases W with
 | text hw hf=>exact .text hw hf
 | table hw hp hf=>exact .table hw hp hf
 | drawn hw pl oT n hoT hdT hl hf=>exact .drawn hw pl oT n (k T0 (.inr rfl) _ hoT) hdT hl hf
end
end L2
set_option maxHeartbeats 800000
namespace L2
open PySem PySem.Spec PyProof.Rows
section
variable{X:Cx}
theorem Hs:Uc "sorted"=some (.builtin "sorted"):=by decide +kernel
noncomputable def t5(ns:List Int):List Int:=VB (λi=>ns.getD i 0) ns.length
end
end L2
set_option maxHeartbeats 2000000
namespace L2
open PySem PySem.Spec PyProof.Rows
open PySem.AutoSeq1 (wpAny_loadPart')
open PySem.MeetsSeq PySem.MeetsSeq2 PySem.MeetsSeq3
section
variable{prog:Ua}{w:Ud}{A:Uj}{E:UT->UU->Prop}{s:UU}{a₀:Array Keyed}
structure SBk(κ:VV)(a₀:Array Keyed)(st:SortSt):Prop where
 perm:(arrOf st).Perm a₀
 kind:kindOf st=κ
 failed:Wb st=none
 pend:Vc st=#[]
theorem SBk.size{κ:VV}{st:SortSt}(h:SBk κ a₀ st):(arrOf st).size=a₀.size:=h.perm.size_eq
theorem SBk.setArr{κ:VV}{st:SortSt}(h:SBk κ a₀ st){xs:Array Keyed}(hp:xs.Perm (arrOf st)):SBk κ a₀ (setArr st xs):=⟨hp.trans h.perm,h.kind,h.failed,h.pend⟩
noncomputable def Bj(prog:Ua)(w:Ud)(A:Uj)(E:UT->UU->Prop)(s:UU)(κ:VV)(a₀:Array Keyed):Prop:=∀(st:SortSt) (i j:Nat) (Q:Option Bool->SortSt->Prop),SBk κ a₀ st->i<a₀.size->j<a₀.size->(∀ b,Q (some b) st)->wpS (UZ prog w) A E s (ltAt' i j) Q st
theorem JP{κ:VV}(hO:∀ p∈a₀.toList,∀ q∈a₀.toList,∀(E':UT->UU->Prop) (Q:Bool->UU->Prop),(∀ c,Q c s)->UX (UZ prog w) A (keyLt' κ p.1 q.1) Q E' s):Bj prog w A E s κ a₀:=by
 intro st i j Q hB hi hj h;have hi':i<(arrOf st).size:=by rw[hB.size];exact hi
 have hj':j<(arrOf st).size:=by rw[hB.size];exact hj
 have mi:(arrOf st)[i]∈a₀.toList:=(SS.mp hB.perm).mem_iff.mp (by simp);have mj:(arrOf st)[j]∈a₀.toList:=(SS.mp hB.perm).mem_iff.mp (by simp);rw[ltAt'_eq];refine Uh (wpS_get ?_);show wpS _ _ _ _ (do let x <- elem' (arrOf st) i;let y <- elem' (arrOf st) j;lt' x y) Q st;rw[elem'_eq,elem'_eq,getElem?_pos _ i hi',getElem?_pos _ j hj'];refine Uh (Um (Uh (Um ?_)));rw[lt'_eq];refine Uh (wpS_get ?_);rw[hB.kind];refine Uh (wpS_lift (Vw (hO _ mi _ mj _ _ λc=>⟨rfl,?_⟩)));exact Um (h c)
variable{κ:VV}
theorem Bn{st:SortSt}{n ok:Nat}{Q:Bool->SortSt->Prop}(hO:Bj prog w A E s κ a₀)(hn:n<=a₀.size)(hB:SBk κ a₀ st)
 (h:∀ st',SBk κ a₀ st'->Q true st'):wpS (UZ prog w) A E s (binarySort' 0 n ok) Q st:=by
 rw[binarySort'_eq];simp only[TR]
 refine Uh (Wc (VN (I:=λk c st'=>c=(none,())/\SBk κ a₀ st')
  (Q:=λc st'=>c=(none,())/\SBk κ a₀ st') ?step ?fin ⟨rfl,hB⟩) ?post)
 case post=>
  rintro c st' ⟨rfl,hB'⟩;exact Um (h st' hB')
 case fin=>
  rintro c st' ⟨hc,hB'⟩;exact⟨hc,hB'⟩
 case step=>
  rintro k c st' hak hkn ⟨rfl,hB'⟩;have hk:k<a₀.size:=by omega
  refine Uh (Wc (VN (I:=λx c st''=>st''=st'/\∃ l r,c=(none,l,r)/\r<=k)
   (Q:=λc st''=>st''=st'/\∃ l r,c=(none,l,r)) ?istep ?ifin ⟨rfl,0,k,rfl,Qs _⟩) ?ipost)
  case ifin=>
   rintro c st'' ⟨rfl,l,r,rfl,hrk⟩;exact⟨rfl,l,r,rfl⟩
  case istep=>
   rintro x c st'' _ hxk ⟨rfl,l,r,rfl,hrk⟩;dsimp only;by_cases hge:l≥r
   ·rw[iP hge];exact Um ⟨rfl,l,r,rfl⟩
   ·rw[iG hge];refine Uh (hO _ _ _ _ hB' hk (by omega) λless=>?_);cases less
    case true=>
     simp only[if_true];exact Um ⟨rfl,l,(l+r) / 2,rfl,by omega⟩
    case false=>
     simp only[RN,if_false];exact Um ⟨rfl,(l+r) / 2+1,r,rfl,hrk⟩
  case ipost=>
   rintro c st'' ⟨rfl,l,r,rfl⟩;show wpS _ _ _ _ (do moveDown' k l;pure (ForInStep.yield (none,()))) _ _;rw[moveDown'_eq];exact Uh (Wd (Um ⟨rfl,hB'.setArr (bubble_perm _ _ _)⟩))
theorem BD{st:SortSt}{a nrem:Nat}{Q:AscSt->SortSt->Prop}(hO:Bj prog w A E s κ a₀)(hn:nrem<=a₀.size)(ha:1<=a)(han:a<=nrem)(hB:SBk κ a₀ st)
 (h:∀ n,a<=n->n<=nrem->Q (none,n) st):wpS (UZ prog w) A E s (ascLoop a nrem) Q st:=by
 unfold ascLoop;refine VN (I:=λx c st'=>st'=st/\c=(none,x)) ?step ?fin ⟨rfl,rfl⟩
 case fin=>
  rintro c st' ⟨rfl,rfl⟩;rw[show max a nrem=nrem by omega];exact h nrem han (Qs _)
 case step=>
  rintro x c st' hax hxn ⟨rfl,rfl⟩;dsimp only;refine Uh (hO _ _ _ _ hB (by omega) (by omega) λless=>?_);cases less
  case true=>
   simp only[if_true];exact Um (h x hax (by omega))
  case false=>
   simp only[RN,if_false];exact Um ⟨rfl,rfl⟩
theorem C7{st:SortSt}{n nrem:Nat}{Q:Option Nat->SortSt->Prop}(hO:Bj prog w A E s κ a₀)(hn:nrem<=a₀.size)(h1:1<=n)(hnn:n<=nrem)(hB:SBk κ a₀ st)
 (h:∀ m st',SBk κ a₀ st'->1<=m->m<=nrem->Q (some m) st'):wpS (UZ prog w) A E s (tail3 n nrem) Q st:=by
 unfold tail3;refine Uh (Vp ?_);have hB':SBk κ a₀ (setArr st (mirror (arrOf st) 0 n ((n - 0) / 2))):=hB.setArr (Vq _ _ _ _);exact Uh (BD hO hn h1 hnn hB' λm hm1 hm2=>Um (h m _ hB' (by omega) hm2))
theorem CY{st:SortSt}{n nrem:Nat}{Q:DescSt->SortSt->Prop}(hO:Bj prog w A E s κ a₀)(hn:nrem<=a₀.size)(h1:1<=n)(hnn:n<=nrem)(hB:SBk κ a₀ st)
 (h:∀ m neq st',SBk κ a₀ st'->n<=m->m<=nrem->Q (none,m,neq) st'):wpS (UZ prog w) A E s (descLoop n nrem) Q st:=by
 unfold descLoop;refine VN (I:=λx c st'=>∃ neq,c=(none,x,neq)/\SBk κ a₀ st') ?step ?fin ⟨0,rfl,hB⟩
 case fin=>
  rintro c st' ⟨neq,rfl,hB'⟩;rw[show max n nrem=nrem by omega];exact h nrem neq st' hB' hnn (Qs _)
 case step=>
  rintro x c st' hax hxn ⟨neq,rfl,hB'⟩;dsimp only;refine Uh (hO _ _ _ _ hB' (by omega) (by omega) λless=>?_);cases less
  case true=>
   simp only[if_true];by_cases hneq:neq>0
   ·rw[iP hneq];exact Uh (Vp (Um ⟨0,rfl,hB'.setArr (Vq _ _ _ _)⟩))
   ·rw[iG hneq];exact Um ⟨0,rfl,hB'⟩
  case false=>
   simp only[RN,if_false];refine Uh (hO _ _ _ _ hB' (by omega) (by omega) λlarger=>?_);cases larger
   case true=>
    simp only[if_true];exact Um (h x neq st' hB' hax (by omega))
   case false=>
    simp only[RN,if_false];exact Um ⟨neq+1,rfl,hB'⟩
theorem B2{st:SortSt}{n nrem:Nat}{Q:Option Nat->SortSt->Prop}(hO:Bj prog w A E s κ a₀)(hn:nrem<=a₀.size)(hnn:n+1<=nrem)(hB:SBk κ a₀ st)
 (h:∀ m st',SBk κ a₀ st'->1<=m->m<=nrem->Q (some m) st'):wpS (UZ prog w) A E s (descPart n nrem) Q st:=by
 unfold descPart;refine Uh (wpS_lift (VA ⟨rfl,?_⟩));refine Uh (CY hO hn (by omega) hnn hB λm neq st' hB' hm1 hm2=>?_);dsimp only;by_cases hneq:neq>0
 ·rw[iP hneq];exact Uh (Vp (C7 hO hn (by omega) hm2 (hB'.setArr (Vq _ _ _ _)) h))
 ·rw[iG hneq];exact C7 hO hn (by omega) hm2 hB' h
theorem CZ{st:SortSt}{nrem:Nat}{Q:Option Nat->SortSt->Prop}(hO:Bj prog w A E s κ a₀)(hn:nrem<=a₀.size)(h1:1<=nrem)(hB:SBk κ a₀ st)
 (h:∀ m st',SBk κ a₀ st'->1<=m->m<=nrem->Q (some m) st'):wpS (UZ prog w) A E s (countRun' 0 nrem) Q st:=by
 rw[countRun0_eq];refine Uh (BD hO hn (Qs 1) h1 hB λn hn1 hn2=>?_);dsimp only;by_cases hnn:n=nrem
 ·rw[iP (by simpa using hnn)];exact Um (h n st hB hn1 hn2)
 ·rw[iG (by simpa using hnn)];by_cases hgt:n>1
  ·rw[iP hgt];refine Uh (hO _ _ _ _ hB (by omega) (by omega) λrose=>?_);cases rose
   case true=>
    simp only[if_true];exact Um (h n st hB hn1 hn2)
   case false=>
    simp only[RN,if_false];exact Uh (Vp (B2 hO hn (by omega) (hB.setArr (Vq _ _ _ _)) h))
  ·rw[iG hgt];exact B2 hO hn (by omega) hB h
noncomputable def FL(a₀:Array Keyed)(st:SortSt):Prop:=(arrOf st).Perm a₀/\Wb st=none/\Vc st=#[(0,a₀.size,0)]
theorem My{st:SortSt}(hB:SBk κ a₀ st):FL a₀ (setPending st ((Vc st).push (0,a₀.size,0))):=
 ⟨hB.perm,hB.failed,by show(Vc st).push _=_;rw[hB.pend];rfl⟩
theorem Ca{st:SortSt}{Q:Unit->SortSt->Prop}(hO:Bj prog w A E s κ a₀)(hB:SBk κ a₀ st)(h2:2<=a₀.size)(h64:a₀.size<64)
 (h:∀ st',(arrOf st').Perm a₀->Wb st'=none->Q () st'):wpS (UZ prog w) A E s sortRuns' Q st:=by
 rw[sortRuns'_eq];refine Uh (wpS_get ?_);dsimp only
 have hmr:minRun' a₀.size a₀.size 0=a₀.size:=by
  obtain⟨f,hf⟩:∃ f,a₀.size=f+1:=⟨a₀.size - 1,by omega⟩
  have:minRun' (f+1) a₀.size 0=a₀.size:=by rw[minRun'_succ,iP h64];rfl
  rwa [<-hf]at this
 simp only[hB.size,hmr]
 refine Uh (Wc (VN
  (I:=λx c st'=>(x=0/\c=(none,0)/\SBk κ a₀ st')\/(1<=x/\c=(none,a₀.size)/\FL a₀ st'))
  (Q:=λc st'=>c=(none,a₀.size)/\FL a₀ st') ?step ?fin (.inl ⟨rfl,rfl,hB⟩)) ?post)
 case fin=>
  rintro c st' (⟨hx,_,_⟩ | ⟨_,hc,hD⟩)
  ·omega
  ·exact⟨hc,hD⟩
 case step=>
  rintro x c st' _ hx (⟨rfl,rfl,hB'⟩ | ⟨hx1,rfl,hD⟩)
  ·dsimp only;rw[iG (by omega)];simp only[UJ,Nat.min_self,TR];refine Uh (CZ hO (Qs _) (by omega) hB' λm st2 hB2 hm1 hm2=>?_);dsimp only;by_cases hlt:m<a₀.size
   ·rw[iP hlt];refine Uh (wpS_lift (VA ⟨rfl,?_⟩));refine Uh (Bn hO (Qs _) hB2 λst3 hB3=>?_);simp only[T6,RN,if_false];refine Uh (wpS_get ?_);have hb:(Vc st3).back?=none:=by rw[hB3.pend];rfl
    rw[hb];dsimp only;exact Uh (Wd (Um (.inr ⟨by omega,rfl,My hB3⟩)))
   ·rw[iG hlt];have hm:m=a₀.size:=by omega
    subst hm;refine Uh (wpS_get ?_);have hb:(Vc st2).back?=none:=by rw[hB2.pend];rfl
    rw[hb];dsimp only;exact Uh (Wd (Um (.inr ⟨by omega,rfl,My hB2⟩)))
  ·dsimp only;rw[iP (Qs _)];exact Um ⟨rfl,hD⟩
 case post=>
  rintro c st' ⟨rfl,hD⟩;dsimp only;refine Uh (Wc (VN (I:=λ_ c st''=>st''=st'/\c=(none,())) (Q:=λc st''=>st''=st'/\c=(none,())) ?_ (λ_ _ hh=>hh) ⟨rfl,rfl⟩) ?_)
  ·rintro x c st'' _ _ ⟨rfl,rfl⟩;refine Uh (wpS_get ?_);rw[iP (by rw[hD.2.2];exact Qs 1)];exact Um ⟨rfl,rfl⟩
  ·rintro c st'' ⟨rfl,rfl⟩;exact Um (h _ hD.1 hD.2.1)
end
section
variable{X:Cx}
theorem Pr:Uc "any"=some (.builtin "any"):=by decide +kernel
end
end L2
namespace Rf
open PySem L2
noncomputable abbrev QE:=SV->Sto->Prop
noncomputable abbrev WE:=EnvS->Sto->QE->Prop
noncomputable abbrev WA:=EnvS->Sto->(List SV->Sto->Prop)->Prop
noncomputable abbrev WT:=EnvS->Sto->(Bool->Sto->Prop)->Prop
noncomputable def Post(K:Qo)(as:List UV)(H:Hp)(Q:VK):QE:=λx S'=>∀ as' H' v,Go as H as' H'->Ok K as' H' S'->Rl K as' H' v x->Q v H'
noncomputable def Ps(K:Qo)(as:List UV)(H:Hp)(Q:List V->Hp->Prop):List SV->Sto->Prop:=λxs S'=>∀ as' H' vs,Go as H as' H'->Ok K as' H' S'->RlAll K as' H' vs xs->Q vs H'
noncomputable def PostT(K:Qo)(as:List UV)(H:Hp)(Q:Bool->Hp->Prop):Bool->Sto->Prop:=λb S'=>∀ as' H',Go as H as' H'->Ok K as' H' S'->Q b H'
noncomputable def lift(K:Qo)(w:WE):TE:=λσ H Q=>∃ as ρ S,Ok K as H S/\EnvOk K as H σ ρ/\w ρ S (Post K as H Q)
noncomputable def liftA(K:Qo)(w:WA):TA:=λσ H Q=>∃ as ρ S,Ok K as H S/\EnvOk K as H σ ρ/\w ρ S (Ps K as H Q)
noncomputable def liftT(K:Qo)(w:WT):TT:=λσ H Q=>∃ as ρ S,Ok K as H S/\EnvOk K as H σ ρ/\w ρ S (PostT K as H Q)
noncomputable def Mono(w:WE):Prop:=∀ ρ S (P P':QE),(∀ x S',P x S'->P' x S')->w ρ S P->w ρ S P'
noncomputable def MonoA(w:WA):Prop:=∀ ρ S (P P':List SV->Sto->Prop),(∀ x S',P x S'->P' x S')->w ρ S P->w ρ S P'
noncomputable def MonoT(w:WT):Prop:=∀ ρ S (P P':Bool->Sto->Prop),(∀ x S',P x S'->P' x S')->w ρ S P->w ρ S P'
theorem g0{X:Cx}{e:Expr}{t:TE}(t':TE)(h:PE X e t)(imp:∀ σ H Q,t' σ H Q->t σ H Q):PE X e t':=λpq s σ H Q I hw=>h pq s σ H Q I (imp σ H Q hw)
theorem B7{X:Cx}{e:Expr}{t:TT}(t':TT)(h:PT X e t)(imp:∀ σ H Q,t' σ H Q->t σ H Q):PT X e t':=λpq s σ H Q I hw=>h pq s σ H Q I (imp σ H Q hw)
theorem JQ{X:Cx}{e:List Expr}{t:TA}(t':TA)(h:PA X e t)(imp:∀ σ H Q,t' σ H Q->t σ H Q):PA X e t':=λp pq s σ H Q I hw=>h p pq s σ H Q I (imp σ H Q hw)
section
variable{K:Qo}{as as1 as2:List UV}{H H1 H2:Hp}
theorem Post.mono{Q:VK}{x:SV}{S:Sto}(h:Post K as H Q x S)(g:Go as H as1 H1):Post K as1 H1 Q x S:=λas' H' v g'=>h as' H' v (g.trans g')
end
noncomputable abbrev S2:=SV->SV->Sto->QE->Prop
noncomputable abbrev S1:=SV->Sto->QE->Prop
noncomputable abbrev Sn:=List SV->Sto->QE->Prop
noncomputable def w2(s:S2)(a b:WE):WE:=λρ S Q=>a ρ S λx S1=>b ρ S1 λy S2=>s x y S2 Q
noncomputable def w1(s:S1)(a:WE):WE:=λρ S Q=>a ρ S λx S1=>s x S1 Q
noncomputable def wn(s:Sn)(a:WA):WE:=λρ S Q=>a ρ S λxs S1=>s xs S1 Q
noncomputable def Mono2(s:S2):Prop:=∀ x y S (P P':QE),(∀ x S',P x S'->P' x S')->s x y S P->s x y S P'
noncomputable def JR(s:S1):Prop:=∀ x S (P P':QE),(∀ x S',P x S'->P' x S')->s x S P->s x S P'
noncomputable def MonoN(s:Sn):Prop:=∀ x S (P P':QE),(∀ x S',P x S'->P' x S')->s x S P->s x S P'
theorem Mono.two{s:S2}{a b:WE}(hs:Mono2 s)(ha:Mono a)(hb:Mono b):Mono (w2 s a b):=λρ S P P' i h=>ha _ _ _ _ (λ_ _ h=>hb _ _ _ _ (λ_ _ h=>hs _ _ _ _ _ i h) h) h
theorem Mono.one{s:S1}{a:WE}(hs:JR s)(ha:Mono a):Mono (w1 s a):=λρ S P P' i h=>ha _ _ _ _ (λ_ _ h=>hs _ _ _ _ i h) h
theorem Mono.n{s:Sn}{a:WA}(hs:MonoN s)(ha:MonoA a):Mono (wn s a):=λρ S P P' i h=>ha _ _ _ _ (λ_ _ h=>hs _ _ _ _ i h) h
noncomputable def Am(K:Qo)(s:S2)(r:R2):Prop:=∀ as H S x y v u Q,Ok K as H S->Rl K as H v x->Rl K as H u y->s x y S (Post K as H Q)->r v u H Q
noncomputable def Pt(K:Qo)(s:Sn)(r:List V->Hp->VK->Prop):Prop:=∀ as H S xs vs Q,Ok K as H S->RlAll K as H vs xs->s xs S (Post K as H Q)->r vs H Q
theorem v6{K:Qo}{s:S2}{r:R2}{wa wb:WE}(sim:Am K s r)(ms:Mono2 s)(ma:Mono wa)(mb:Mono wb):∀ σ H Q,lift K (w2 s wa wb) σ H Q->tOp r (lift K wa) (lift K wb) σ H Q:=by
 rintro σ H Q ⟨as,ρ,S,ok,en,h⟩;refine⟨as,ρ,S,ok,en,ma _ _ _ _ (λx S1 hb as1 H1 v g1 ok1 rv=>?_) h⟩;refine⟨as1,ρ,S1,ok1,en.mono g1.pre (g1.ku ok),mb _ _ _ _ (λy S2 hs as2 H2 u g2 ok2 ru=>?_) hb⟩;exact sim as2 H2 S2 x y v u Q ok2 (Rl.mono g2.pre (g2.ku ok1) x v rv) ru (ms _ _ _ _ _ (λz S3 hz=>hz.mono (g1.trans g2)) hs)
theorem Pu{K:Qo}{s:Sn}{r:List V->Hp->VK->Prop}{wa:WA}(sim:Pt K s r)(ms:MonoN s)(ma:MonoA wa):∀ σ H Q,lift K (wn s wa) σ H Q->tCB r (liftA K wa) σ H Q:=by
 rintro σ H Q ⟨as,ρ,S,ok,en,h⟩;refine⟨as,ρ,S,ok,en,ma _ _ _ _ (λx S1 hs as1 H1 v g1 ok1 rv=>?_) h⟩;exact sim as1 H1 S1 x v Q ok1 rv (ms _ _ _ _ (λz S3 hz=>hz.mono g1) hs)
noncomputable def Cs:WA:=λ_ S Q=>Q [] S
noncomputable def C8(a:WE)(b:WA):WA:=λρ S Q=>a ρ S λx S1=>b ρ S1 λxs S2=>Q (x::xs) S2
theorem MonoA.nil:MonoA Cs:=λ_ _ _ _ i h=>i _ _ h
theorem MonoA.cons{a:WE}{b:WA}(ha:Mono a)(hb:MonoA b):MonoA (C8 a b):=λ_ _ _ _ i h=>ha _ _ _ _ (λ_ _ h=>hb _ _ _ _ (λ_ _ h=>i _ _ h) h) h
theorem Ln{X:Cx}{K:Qo}:PA X [] (liftA K Cs):=JQ _ A0 λσ H Q ⟨as,ρ,S,ok,en,h⟩=>h as H [] (Go.refl _ _) ok .nil
theorem JS{K:Qo}{a:WE}{b:WA}(ma:Mono a)(mb:MonoA b):∀ σ H Q,liftA K (C8 a b) σ H Q->Mt (lift K a) (liftA K b) σ H Q:=by
 rintro σ H Q ⟨as,ρ,S,ok,en,h⟩;refine⟨as,ρ,S,ok,en,ma _ _ _ _ (λx S1 hs as1 H1 v g1 ok1 rv=>?_) h⟩;refine⟨as1,ρ,S1,ok1,en.mono g1.pre (g1.ku ok),mb _ _ _ _ (λxs S2 hq as2 H2 vs g2 ok2 rs=>?_) hs⟩;exact hq as2 H2 _ (g1.trans g2) ok2 (.cons (Rl.mono g2.pre (g2.ku ok1) x v rv) rs)
theorem JT{X:Cx}{K:Qo}{e:Expr}{es:List Expr}{a:WE}{b:WA}(ma:Mono a)(mb:MonoA b)(h1:PE X e (lift K a))(h2:PA X es (liftA K b))(hs:Ue (e::es) X.env=(false,eval e X.env)::Ue es X.env):PA X (e::es) (liftA K (C8 a b)):=JQ _ (l4 h1 h2 hs) (JS ma mb)
noncomputable def O0(i:Nat):WE:=λρ S Q=>∃ x,ρ[i]?=some (some x)/\Q x S
noncomputable def wC(x:SV):WE:=λ_ S Q=>Q x S
theorem Mono.var{i:Nat}:Mono (O0 i):=λ_ _ _ _ i ⟨x,a,b⟩=>⟨x,a,i _ _ b⟩
theorem Mono.c{x:SV}:Mono (wC x):=λ_ _ _ _ i h=>i _ _ h
theorem Lo{K:Qo}{i:Nat}:∀ σ H Q,lift K (O0 i) σ H Q->LF i σ H Q:=λσ H Q ⟨as,ρ,S,ok,en,x,e,h⟩=>let ⟨v,ev,rv⟩:=en.2 i x e;⟨v,ev,h as H v (Go.refl _ _) ok rv⟩
theorem E1{K:Qo}{x:SV}{v:V}(hx:∀ as H,Rl K as H v x):∀ σ H Q,lift K (wC x) σ H Q->tC v σ H Q:=λσ H Q ⟨as,ρ,S,ok,en,h⟩=>h as H v (Go.refl _ _) ok (hx as H)
noncomputable def big:Nat:=100000
theorem A6{n:Nat}(h:n<=big):n<=UY:=RE h (by decide)
theorem C9{n:Nat}(h:n<big):n<UY:=RC h (by decide)
noncomputable def Lp:Sn:=λxs S Q=>xs.length<=big/\Q (.tup xs) S
noncomputable def Lr:Sn:=λxs S Q=>xs.length<=big/\Q (.loc S.length) (S++[.lst xs])
theorem MonoN.tup:MonoN Lp:=λ_ _ _ _ i h=>⟨h.1,i _ _ h.2⟩
theorem MonoN.lst:MonoN Lr:=λ_ _ _ _ i h=>⟨h.1,i _ _ h.2⟩
theorem O6{K:Qo}{as:List UV}{H:Hp}{S:Sto}{p:UV}(ok:Ok K as H S):Rl K (as++[p]) (upd H p (.lst vs)) (.ref p) (.loc S.length):=rl_loc.mpr ⟨p,by rw[<-ok.len,RJ],rfl⟩
theorem A7{K:Qo}{as:List UV}{H:Hp}{S:Sto}{Q:VK}{xs:List SV}{vs:List V}(ok:Ok K as H S)(r:RlAll K as H vs xs)(h:Post K as H Q (.loc S.length) (S++[.lst xs])):∀ p,H p=none->Q (.ref p) (upd H p (.lst vs)):=λp hp=>
 h (as++[p]) _ (.ref p) (Go.push hp) (ok.push hp r) (O6 ok)
theorem An{K:Qo}{as:List UV}{H:Hp}{S:Sto}{Q:VK}{xs:List SV}{vs:List V}(ok:Ok K as H S)(r:RlAll K as H vs xs)(h:Post K as H Q (.tup xs) S):∀ p,H p=none->Q (.ref p) (upd H p (.tup vs)):=λp hp=>
 h as _ (.ref p) (Go.new hp) (ok.new hp) (rl_tup.mpr ⟨p,vs,rfl,f8,RlAll.mono (RH _) (l6 hp) xs vs r⟩)
theorem Ls{K:Qo}{wa:WA}(ma:MonoA wa):∀ σ H Q,lift K (wn Lp wa) σ H Q->PX (liftA K wa) σ H Q:=by
 rintro σ H Q ⟨as,ρ,S,ok,en,h⟩;refine⟨as,ρ,S,ok,en,ma _ _ _ _ (λxs S1 hs as1 H1 vs g1 ok1 rv=>?_) h⟩;exact⟨by rw[rv.length];exact A6 hs.1,An ok1 rv (hs.2.mono g1)⟩
theorem Lu{K:Qo}{wa:WA}(ma:MonoA wa):∀ σ H Q,lift K (wn Lr wa) σ H Q->PY (liftA K wa) σ H Q:=by
 rintro σ H Q ⟨as,ρ,S,ok,en,h⟩;refine⟨as,ρ,S,ok,en,ma _ _ _ _ (λxs S1 hs as1 H1 vs g1 ok1 rv=>?_) h⟩;exact⟨by rw[rv.length];exact A6 hs.1,A7 ok1 rv (hs.2.mono g1)⟩
end Rf
namespace L2
open PySem PySem.Spec PyProof.Rows
section
variable{prog:Ua}{w:Ud}{A:Uj}{E:UT->UU->Prop}{s:UU}
set_option maxHeartbeats 8000000 in
theorem OA{l:UV}{items:Array UT}{ns:List Int}{Q:UT->UU->Prop}(hh:A.handled=none)(hl:s.heap.IsTuple l items)(hi:IntsAre items.toList ns)(hb:items.size+1<Ux)
 (h:∀(h':Heap) (tk:Nat),SetX prog w h' s.heap.objs.size (VB (λi=>ns.getD i 0) items.size)->(∀ b o,b<s.heap.objs.size->s.heap.get? b=some o->h'.get? b=some o)->Q (.ref s.heap.objs.size) {s with heap:=h',toks:=tk}):
 UX (UZ prog w) A (call (.type "set") [.ref l]) Q E s:=by
 obtain⟨c,tl,hmro⟩:=F.called_set.mro;have made:=F.called_set.made;have sub:=F.called_set.sub;have u1:=F.called_set.notType;have u2:=F.called_set.canCreate;have u3:=F.typeCall_set_1 (.ref l);refine WR (Vi ?_);show UX _ _ (callAny (.type "set") _) _ _ _;refine UW ⟨Code.quiet_builtin _ (by decide +kernel),VF F.entry_type_call ?_⟩;rw[Around.under_plain (Vk "set" [.ref l] []) rfl]
 repeat (any_goals (first | assumption | wp_step))
 refine VC (Pp (.ref l) (E:=E) (Q₁:=λobj s₁=>obj = .ref s.heap.objs.size/\s₁={s with heap:=s.heap.push (AT w)}) ⟨rfl,rfl⟩) λr s₁ hr=>?_;cases r with
 | error e=>exact hr
 | ok fl=>
   cases fl with
   | ret obj=>
     obtain⟨rfl,rfl⟩:=hr;have gS:(s.heap.push (AT w)).get? s.heap.objs.size=some (AT w):=Qx _ rfl;have hT:Shared.TypeIs {s with heap:=s.heap.push (AT w)} (.ref s.heap.objs.size) "set":=⟨_,gS,rfl⟩
     have u4:=F.called_set.init.lookup;have u5:=F.called_set.init.bind (.ref s.heap.objs.size)
     repeat (any_goals (first | assumption | wp_step))
     refine VC (Vo (R:=wants (λr s₂=>r = .none/\∃ h' tk,s₂={s with heap:=h',toks:=tk}/\SetX prog w h' s.heap.objs.size (VB (λi=>ns.getD i 0) items.size)/\
      (∀ b o,b<s.heap.objs.size->s.heap.get? b=some o->h'.get? b=some o)) E) F.called_set.init.plain F.entry_set_init (WG hT ?_)) λr₂ s₂ hr₂=>?_
     ·obtain⟨⟨cl,di,da,sl⟩,ol,cl',nl,da'⟩:=hl;simp only at cl' da';subst cl' da';have hol:(s.heap.push (AT w)).get? l=some {cls := .type "tuple",dict:=di,data := .seq items nl,slots:=sl}:=Qq _ ol;have v1:=F.sub_tuple_set;have v2:=F.sub_tuple_frozenset;have v3:(Value.type "tuple" == Value.type "dict")=false:=by decide
      have hl1:(s.heap.push (AT w)).IsTuple l items:=⟨_,hol,rfl,nl,rfl⟩
      unfold Builtin.«set.__init__» noKeywords Builtin.Frozenset.updateFrom;generalize hPI:pyIter=PI
      wp_walk
      subst hPI;refine Uz hl1 (US (Wa ?_));have lS:l<s.heap.objs.size:=Qw ol;have z1:(s.heap.push (AT w)).objs.size=s.heap.objs.size+1:=RT _ _;have lI:l≠(s.heap.push (AT w)).objs.size:=by rw[z1];exact R5 (SG lS)
      have hSf:s.heap.objs.size∉[(s.heap.push (AT w)).objs.size,l]:=by
       rw[z1];intro z;rcases R0.mp z with z | z
       ·exact absurd z (R5 (Sk _))
       ·exact absurd (Qu.mp z) (Sr lS)
      have hval:∀(i:Nat) (v:UT),items[i]?=some v->∃ t,v = .int ((λi=>ns.getD i 0) i) t:=λi v hv=>IntsAre.int_at hi i v (by rw[Sj];exact hv)
      refine Po ((Walks.tuple (by simp[hh]) _ l lI items).toS) s.heap.objs.size hSf (λi=>ns.getD i 0) hval hb items.size 0 _ (TR _)
       ⟨⟨_,Qx _ rfl,rfl,rfl⟩,hl1.push _⟩ ((JO s.heap).keep λo e=>Qq _ e) λs' hm X'=>?_
      obtain⟨h',g',d',tk',os'⟩:=s';obtain rfl:g'=s.gens:=hm.gens;obtain rfl:d'=s.drawn:=hm.drawn;obtain rfl:os'=s.os:=hm.os;refine UW (UW ⟨rfl,h',tk',rfl,X',λb o hb e=>hm.heap b o (λz=>?_) (Qq _ (Qq _ e))⟩);rcases R0.mp z with z | z
      ·exact absurd z (R5 hb)
      ·have z':=Qu.mp z;rw[z1]at z';exact absurd z' (R5 (SG hb))
     ·cases r₂ with
      | error e=>exact hr₂
      | ok fl₂=>
        cases fl₂ with
        | ret r=>
          obtain⟨rfl,h',tk,rfl,X',hk'⟩:=hr₂
          repeat (any_goals (first | assumption | wp_step))
          exact h _ _ X' hk'
        | _=>exact hr₂.elim
   | _=>exact hr.elim
theorem SetX.kind{h:Heap}{a:UV}{L:List Int}(x:SetX prog w h a L):h.SetOf (intKind prog w) a (λk=>decide (k∈L)) L.length:=by
 obtain⟨o,es,ep,t,ho,hx,hd,hel,hb,hf,hT,hp⟩:=x;refine⟨o,es,ep,t,ho,hx,hd,hel,λk=>?_,hb,hf,by rw[<-hp.length_eq];simp⟩;rw[dQ,<-hp.mem_iff,RI];constructor
 ·rintro⟨e,he,rfl⟩;obtain⟨⟨k,hk,_⟩,_⟩:=hel e he;exact⟨e,he,by rw[Bp hk];exact hk⟩
 ·rintro⟨e,he,hk⟩;exact⟨e,he,Bp hk⟩
end
section
variable{X:Cx}
noncomputable def B3(ns:List Int):List Int:=VB (λi=>ns.getD i 0) ns.length
theorem BE(ns:List Int)(k:Int):k∈B3 ns↔k∈ns:=by
 have e:=firstMet_any (λi=>ns.getD i 0) ns.length k
 have e2:(Qy ns.length).map (λi=>ns.getD i 0)=ns:=by
  apply List.ext_getElem
  ·simp
  ·intro i h1 h2;simp[R4 h2]
 rw[e2]at e;have h1:(B3 ns).any (· == k)=true↔k∈B3 ns:=by simp
 have h2:ns.any (· == k)=true↔k∈ns:=by simp
 rw[<-h1,<-h2];unfold B3;rw[e]
theorem Ht(hc:X.calm=true):CallR X (.type "set") (λxs H Q=>∃ p ns,xs=[.ref p]/\(SqL X.K H p (ns.map V.int)\/SqT X.K H p (ns.map V.int))/\ns.length<=900/\∀ l,H l=none->Q (.ref l) (upd H l (.set (λk=>decide (k∈ns)) (B3 ns).length))):=by
 intro pq s σ H xs us Q I r h;obtain⟨p,ns,rfl,hq,h9,q⟩:=h;obtain⟨u,rfl,rx⟩:=Af r;cases rx
 have fin:∀(its:List UT),Vals (ns.map V.int) its->∀(h':Heap) (tk:Nat),SetX X.prog X.w h' s.heap.objs.size (VB (λi=>ns.getD i 0) its.toArray.size)->(∀ b o,b<s.heap.objs.size->s.heap.get? b=some o->h'.get? b=some o)->EP X pq σ Q (.ref s.heap.objs.size) {s with heap:=h',toks:=tk}:=by
  intro its r' h' tk hX hk;have hlen:=r'.length;rw[Qr]at hlen
  have hX:SetX X.prog X.w h' s.heap.objs.size (B3 ns):=by
   have e:its.toArray.size=ns.length:=by rw[Qt,hlen]
   rw[e]at hX;exact hX
  have k1:∀ b o,s.heap.get? b=some o->h'.get? b=some o:=λb o e=>hk b o (Qw e) e
  have so:ObjOk X.prog X.w (upd H s.heap.objs.size (.set (λk=>decide (k∈ns)) (B3 ns).length)) h' s.heap.objs.size (.set (λk=>decide (k∈ns)) (B3 ns).length):=by
   have:=hX.kind;rw[show(λk=>decide (k∈B3 ns))=λk=>decide (k∈ns) from funext λk=>by rw[decide_eq_decide];exact BE ns k]at this;exact this
  exact⟨.ref s.heap.objs.size,_,I.laid (t':=tk) k1 (Qs _) so,rfl,q _ (I.hok.fresh (Qs _))⟩
 rcases hq with hq | hq
 ·obtain⟨its,r',pl,hz⟩:=I.list hq;have hlen:=r'.length;rw[Qr]at hlen;exact Pq (items:=its.toArray) (ns:=ns) (I.ok.hd hc) pl.isList (by simpa using y0 r') (by simp only[Qt];show its.length+1<4096;omega) (fin its r')
 ·obtain⟨its,r',pl,hz⟩:=I.tuple hq;have hlen:=r'.length;rw[Qr]at hlen;exact OA (items:=its.toArray) (ns:=ns) (I.ok.hd hc) pl (by simpa using y0 r') (by simp only[Qt];show its.length+1<4096;omega) (fin its r')
theorem JU:OpR X (Ui .In) (λx y H Q=>∃(k:Int) (p:UV) (S:Int->Bool) (n:Nat),x = .int k/\y = .ref p/\H p=some (.set S n)/\Q (.bl (S k)) H):=by
 intro pq s σ H x y v u Q I rx ry h;obtain⟨k,p,S,n,rfl,rfl,hp,q⟩:=h;obtain⟨t,rfl⟩:=rx;cases ry;have hS:s.heap.SetOf (intKind X.prog X.w) p S n:=I.hok p _ hp;exact wpAny_inSet_of (k:=k) (WZ _ _ _ _) rfl hS ⟨.bl _,H,I.tok _,rfl,q⟩
theorem GS(hu:X.A.units<cLine):OpR X (Ui .Eq) (λx y H Q=>∃ a b xs,x = .ref a/\y = .ref b/\SqT X.K H a xs/\SqT X.K H b []/\Q (.bl xs.isEmpty) H):=by
 intro pq s σ H x y v u Q I rx ry h;obtain⟨a,b,xs,rfl,rfl,ha,hb,q⟩:=h;cases rx;cases ry;obtain⟨its1,r1,p1,_⟩:=I.tuple ha;obtain⟨its2,r2,p2,_⟩:=I.tuple hb;cases r2;refine SeqAt.eq_tupleAt (e:=λ_=>true) (show s.heap.IsTuple a its1.toArray from p1) (show s.heap.IsTuple b _ from p2) hu (λj _ h2=>by simp at h2) ?_;refine⟨.bl xs.isEmpty,H,I,?_,q⟩;show Value.bool _=Value.bool _
 congr 1
 cases xs with
 | nil=>cases r1;rfl
 | cons x xs=>cases r1;simp
end
end L2
namespace Rf
open PySem L2
noncomputable def A8:SV->Bool
 | .non=>true | .bl _=>true | .int _=>true | .str _=>true | _=>false
noncomputable def toV:SV->V
 | .non => .non | .bl b => .bl b | .int i => .int i | .str x => .str x | _ => .non
noncomputable def eqF:SV->SV->Bool
 | .non,.non=>true
 | .bl a,.bl b=>a == b
 | .bl a,.int b=>(if a then 1 else 0) == b
 | .int a,.bl b=>a == (if b then 1 else 0)
 | .int a,.int b=>a == b
 | .str a,.str b=>a == b
 | _,_=>false
noncomputable def FM(xs ys:List SV):Bool:=xs.length == ys.length&&(xs.zip ys).all λp=>eqF p.1 p.2
noncomputable def inS(x:SV)(xs:List SV):Bool:=xs.any λy=>eqF y x
section
variable{K:Qo}{as:List UV}{H:Hp}
theorem GT{x:SV}{v:V}(f:A8 x=true)(r:Rl K as H v x):v=toV x:=by
 cases x with
 | non=>exact rl_non.mp r
 | bl _=>exact rl_bl.mp r
 | int _=>exact rl_int.mp r
 | str _=>exact rl_str.mp r
 | _=>cases f
theorem AU:∀{xs:List SV} {vs:List V},xs.all A8=true->RlAll K as H vs xs->vs=xs.map toV
 | [],_,_,r=>rla_nil.mp r
 | x::xs,_,f,r=>by
   rw[Re,Qp]at f;obtain⟨v,vs,rfl,r1,r2⟩:=rla_cons.mp r;rw[GT f.1 r1,AU f.2 r2];rfl
theorem E2{x:SV}(f:A8 x=true):q0 (toV x)=true:=by cases x<;>first | rfl | cases f
theorem Ba{xs:List SV}(f:xs.all A8=true):(xs.map toV).all q0=true:=by
 rw[RB]at f ⊢;intro v hv;obtain⟨x,hx,rfl⟩:=RI.mp hv;exact E2 (f x hx)
theorem DE{x y:SV}(fx:A8 x=true)(fy:A8 y=true):eqV (toV x) (toV y)=eqF x y:=by
 cases x<;>first | cases fx;done | (cases y<;>first | rfl | cases fy)
theorem OB{x:SV}{xs:List SV}(fx:A8 x=true)(f:xs.all A8=true):inV (toV x) (xs.map toV)=inS x xs:=by
 unfold inV inS;rw[UK];rw[RB]at f;rw[RZ,SW,SW];constructor
 ·rintro⟨y,hy,e⟩;exact⟨y,hy,by rw[<-DE (f y hy) fx];exact e⟩
 ·rintro⟨y,hy,e⟩;exact⟨y,hy,by show eqV (toV y) (toV x)=true;rw[DE (f y hy) fx];exact e⟩
theorem Lv:∀{xs ys:List SV},xs.all A8=true->ys.all A8=true->AM (xs.map toV) (ys.map toV)=FM xs ys:=by
 intro xs ys fx fy;unfold AM FM;rw[Qr,Qr,List.zip_map,Tx]
 congr 1
 rw[RZ,RB,RB];rw[RB]at fx fy;constructor
 ·rintro h ⟨a,b⟩ hm;have:=h (a,b) hm;rw[<-DE (fx a (Rv hm).1) (fy b (Rv hm).2)];exact this
 ·rintro h ⟨a,b⟩ hm;have:=h (a,b) hm;show eqV (toV a) (toV b)=true;rw[DE (fx a (Rv hm).1) (fy b (Rv hm).2)];exact this
noncomputable def AN:SV->Sto->Option (List SV)
 | .tup xs,_=>some xs
 | .ro xs,_=>some xs
 | .loc k,S=>match S[k]? with | some (.lst xs)=>some xs | _=>none
 | _,_=>none
theorem DF{x:SV}{v:V}{S:Sto}{xs:List SV}(ok:Ok K as H S)(r:Rl K as H v x)(h:AN x S=some xs):∃ a vs,v = .ref a/\(SqL K H a vs\/SqT K H a vs)/\RlAll K as H vs xs:=by
 cases x with
 | tup ys=>
   cases h;obtain⟨p,vs,rfl,hp,rr⟩:=rl_tup.mp r;exact⟨p,vs,rfl,.inr (SqT.of hp),rr⟩
 | ro ys=>
   cases h;obtain⟨p,vs,rfl,hp,rr⟩:=rl_ro.mp r;exact⟨p,vs,rfl,.inl hp.sq,rr⟩
 | loc k=>
   obtain⟨a,ea,rfl⟩:=rl_loc.mp r;unfold AN at h;cases hs:S[k]? with
   | none=>simp only[hs]at h;cases h
   | some o=>
     cases o with
     | lst ys=>
       simp only[hs]at h;cases h;obtain⟨vs,h1,rr⟩:=ok.obj k _ a hs ea;exact⟨a,vs,rfl,.inl (SqL.of h1),rr⟩
     | iset _=>simp only[hs]at h;cases h
     | dct _=>simp only[hs]at h;cases h
     | dcf _ _ _=>simp only[hs]at h;cases h
 | _=>cases h
theorem j8{k:Nat}{v:V}{S:Sto}{xs:List SV}(ok:Ok K as H S)(r:Rl K as H v (.loc k))(h:S[k]?=some (.lst xs)):∃ a vs,v = .ref a/\as[k]?=some a/\H a=some (.lst vs)/\RlAll K as H vs xs:=by
 obtain⟨a,ea,rfl⟩:=rl_loc.mp r;obtain⟨vs,h1,rr⟩:=ok.obj k _ a h ea;exact⟨a,vs,rfl,ea,h1,rr⟩
end
noncomputable def JV:S2
 | .int i,.int j,S,Q=>Q (.int (i+j)) S
 | .str i,.str j,S,Q=>i.length+j.length<=big/\Q (.str (i++j)) S
 | .tup xs,.tup ys,S,Q=>xs.length+ys.length<=big/\Q (.tup (xs++ys)) S
 | .loc k,.loc l,S,Q=>∃ xs ys,S[k]?=some (.lst xs)/\S[l]?=some (.lst ys)/\xs.length+ys.length<=big/\Q (.loc S.length) (S++[.lst (xs++ys)])
 | _,_,_,_=>False
noncomputable def FN(C:Int->Int->Prop)(g:Int->Int->SV):S2
 | .int i,.int j,S,Q=>C i j/\Q (g i j) S
 | _,_,_,_=>False
noncomputable def BF(g:Int->Int->SV):S2
 | .int i,.int j,S,Q=>Q (g i j) S
 | _,_,_,_=>False
noncomputable def JW:S2
 | .int i,.int j,S,Q=>CMul i j/\Q (.int (i * j)) S
 | .loc k,.int j,S,Q=>∃ xs,S[k]?=some (.lst xs)/\(-1000000<j/\j<1000000)/\xs.length * j.toNat<=big/\Q (.loc S.length) (S++[.lst (RA j.toNat xs).flatten])
 | _,_,_,_=>False
theorem Mono2.add:Mono2 JV:=λx y S P P' i h=>by
 unfold JV at h ⊢
 split at h<;>first
  | exact i _ _ h
  | exact⟨h.1,i _ _ h.2⟩
  | (obtain⟨xs,ys,a,b,c,d⟩:=h;exact⟨xs,ys,a,b,c,i _ _ d⟩)
  | exact h.elim
theorem Mono2.int{C:Int->Int->Prop}{g:Int->Int->SV}:Mono2 (FN C g):=λx y S P P' i h=>by
 unfold FN at h ⊢;split at h
 ·exact⟨h.1,i _ _ h.2⟩
 ·exact h.elim
theorem Mono2.int0{g:Int->Int->SV}:Mono2 (BF g):=λx y S P P' i h=>by
 unfold BF at h ⊢;split at h
 ·exact i _ _ h
 ·exact h.elim
theorem Mono2.mul:Mono2 JW:=λx y S P P' i h=>by
 unfold JW at h ⊢;split at h
 ·exact⟨h.1,i _ _ h.2⟩
 ·obtain⟨xs,a,b,c,d⟩:=h;exact⟨xs,a,b,c,i _ _ d⟩
 ·exact h.elim
section
variable{K:Qo}
theorem Post.here{as:List UV}{H:Hp}{Q:VK}{x:SV}{S:Sto}{v:V}(h:Post K as H Q x S)(ok:Ok K as H S)(r:Rl K as H v x):Q v H:=h as H v (Go.refl _ _) ok r
theorem DG{C:Int->Int->Prop}{g:Int->Int->SV}{g':Int->Int->V}(hg:∀ as H i j,Rl K as H (g' i j) (g i j)):Am K (FN C g) (rI C g'):=λas H S x y v u Q ok rx ry h=>by
 unfold FN at h;split at h
 ·rw[rl_int]at rx ry;exact⟨_,_,rx,ry,h.1,h.2.here ok (hg _ _ _ _)⟩
 ·exact h.elim
theorem Ao{g:Int->Int->SV}{g':Int->Int->V}(hg:∀ as H i j,Rl K as H (g' i j) (g i j)):Am K (BF g) (rI0 g'):=λas H S x y v u Q ok rx ry h=>by
 unfold BF at h;split at h
 ·rw[rl_int]at rx ry;exact⟨_,_,rx,ry,h.here ok (hg _ _ _ _)⟩
 ·exact h.elim
noncomputable def Pv(K:Qo):R2:=λx y H Q=>(((rI0 λi j => .int (i+j)) x y H Q\/Pg x y H Q)\/(Ix K x y H Q\/JG K x y H Q))\/∃ i j,x = .str i/\y = .str j/\i.length+j.length<=UY/\Q (.str (i++j)) H
theorem Lw{X:Cx}:OpR X (Uv .Add) (Pv X.K):=((op_add.or Nm).or Lj).or F8
theorem Lx:Am K JV (Pv K):=λas H S x y v u Q ok rx ry h=>by
 unfold JV at h;split at h
 ·rw[rl_int]at rx ry;exact .inl (.inl (.inl ⟨_,_,rx,ry,h.here ok (rl_int.mpr rfl)⟩))
 ·rw[rl_str]at rx ry;exact .inr ⟨_,_,rx,ry,A6 h.1,h.2.here ok (rl_str.mpr rfl)⟩
 ·rename_i xs ys;obtain⟨a,vs,rfl,ha,ra⟩:=rl_tup.mp rx;obtain⟨b,us,rfl,hb,rb⟩:=rl_tup.mp ry;have l1:=ra.length;have l2:=rb.length;by_cases hx:vs=[]
  ·subst hx;have:xs=[]:=Sb.mp (by rw[<-l1];rfl);subst this;exact .inl (.inr (.inr ⟨a,b,us,rfl,rfl,SqT.of ha,SqT.of hb,h.2.here ok ry⟩))
  ·refine .inl (.inr (.inl ⟨a,b,vs,us,rfl,rfl,SqT.of ha,SqT.of hb,hx,by rw[l1,l2];exact A6 h.1,λz=>?_,λ_=>An ok (ra.append rb) h.2⟩));have:ys=[]:=Sb.mp (by rw[<-l2,z];rfl);subst this;rw[Rg]at h;exact h.2.here ok rx
 ·obtain⟨xs,ys,h1,h2,h3,h4⟩:=h;obtain⟨a,vs,rfl,_,ha,ra⟩:=j8 ok rx h1;obtain⟨b,us,rfl,_,hb,rb⟩:=j8 ok ry h2;exact .inl (.inl (.inr ⟨a,b,vs,us,rfl,rfl,ha,hb,by rw[ra.length,rb.length];exact A6 h3,A7 ok (ra.append rb) h4⟩))
 ·exact h.elim
theorem RlAll.rep{as:List UV}{H:Hp}{vs:List V}{xs:List SV}(h:RlAll K as H vs xs):∀ n,RlAll K as H (RA n vs).flatten (RA n xs).flatten
 | 0=>by simpa using RlAll.nil
 | n+1=>by
   rw[RX,RX,Rt,Rt];exact h.append (RlAll.rep h n)
theorem Ly:Am K JW (λx y H Q=>(rI CMul λi j => .int (i * j)) x y H Q\/Ph x y H Q):=λas H S x y v u Q ok rx ry h=>by
 unfold JW at h;split at h
 ·rw[rl_int]at rx ry;exact .inl ⟨_,_,rx,ry,h.1,h.2.here ok (rl_int.mpr rfl)⟩
 ·rename_i k j;obtain⟨xs,h1,h2,h3,h4⟩:=h;obtain⟨a,vs,rfl,_,ha,ra⟩:=j8 ok rx h1;rw[rl_int]at ry;subst ry;exact .inr (⟨a,j,vs,rfl,rfl,ha,by omega,by omega,by rw[ra.length];exact A6 h3,A7 ok (ra.rep _) h4⟩)
 ·exact h.elim
end
noncomputable def scS:SV->SV->Option Bool
 | .int i,.int j=>some (decide (i=j))
 | .bl i,.bl j=>some (decide (i=j))
 | .str i,.str j=>some (decide (i=j))
 | .non,.non=>some true
 | .non,.int _=>some false | .int _,.non=>some false | .non,.bl _=>some false | .bl _,.non=>some false | .non,.str _=>some false | .str _,.non=>some false
 | .int _,.str _=>some false | .str _,.int _=>some false | .bl _,.str _=>some false | .str _,.bl _=>some false
 | _,_=>none
noncomputable def FO:SV->SV->Sto->(Bool->Prop)->Prop
 | .loc k,.loc l,S,Q=>∃ xs ys,S[k]?=some (.lst xs)/\S[l]?=some (.lst ys)/\((xs.all A8=true/\ys.all A8=true)\/xs=[]\/ys=[])/\Q (FM xs ys)
 | _,_,_,_=>False
noncomputable def sEq:S2:=λx y S Q=>match scS x y with | some b=>Q (.bl b) S | none=>FO x y S λb=>Q (.bl b) S
noncomputable def sNe:S2:=λx y S Q=>match scS x y with | some b=>Q (.bl (!b)) S | none=>FO x y S λb=>Q (.bl (!b)) S
noncomputable def BG:SV->Sto->Option (List Int)
 | .loc k,S=>match S[k]? with | some (.iset ms)=>some ms | _=>none
 | _,_=>none
noncomputable def sIn(neg:Bool):S2:=λx y S Q=>match BG y S with
 | some ms=>∃ i,x = .int i/\neg=false/\Q (.bl (decide (i∈ms))) S
 | none=>A8 x=true/\∃ ys,AN y S=some ys/\ys.all A8=true/\Q (.bl (if neg then !inS x ys else inS x ys)) S
noncomputable def JX:SV->Bool
 | .non=>true
 | _=>false
noncomputable def JY(neg:Bool):S2:=λx y S Q=>(y = .non/\Q (.bl (if neg then !JX x else JX x)) S)\/∃ c d,neg=true/\x = .bl c/\y = .bl d/\Q (.bl (c != d)) S
theorem Ct{x y:SV}{S:Sto}{P P':Bool->Prop}(i:∀ b,P b->P' b)(h:FO x y S P):FO x y S P':=by
 unfold FO at h ⊢;split at h
 ·obtain⟨xs,ys,a,b,c,d⟩:=h;exact⟨xs,ys,a,b,c,i _ d⟩
 ·exact h.elim
theorem Mono2.eq:Mono2 sEq:=λx y S P P' i h=>by
 unfold sEq at h ⊢;split at h
 ·exact i _ _ h
 ·exact Ct (λ_=>i _ _) h
theorem Mono2.ne:Mono2 sNe:=λx y S P P' i h=>by
 unfold sNe at h ⊢;split at h
 ·exact i _ _ h
 ·exact Ct (λ_=>i _ _) h
theorem Mono2.in'{n:Bool}:Mono2 (sIn n):=λx y S P P' i h=>by
 unfold sIn at h ⊢;split at h
 ·obtain⟨j,e,z,h⟩:=h;exact⟨j,e,z,i _ _ h⟩
 ·obtain⟨f,ys,a,b,h⟩:=h;exact⟨f,ys,a,b,i _ _ h⟩
theorem Mono2.isN{n:Bool}:Mono2 (JY n):=λx y S P P' i h=>h.imp (λh=>⟨h.1,i _ _ h.2⟩) λ⟨c,d,z,a,b,h⟩=>⟨c,d,z,a,b,i _ _ h⟩
section
variable{K:Qo}
theorem JZ{as:List UV}{H:Hp}{x y:SV}{v u:V}{b:Bool}(e:scS x y=some b)(rx:Rl K as H v x)(ry:Rl K as H u y):Nc v u=true/\decide (v=u)=b:=by
 cases x<;>first | (unfold scS at e;cases e;done) | (cases y<;>first | (unfold scS at e;cases e;done) | (simp only[rl_non,rl_bl,rl_int,rl_str]at rx ry;subst rx ry;unfold scS at e;injection e with e;subst e;exact⟨rfl,by simp⟩))
theorem GU{as:List UV}{H:Hp}{S:Sto}{x y:SV}{v u:V}{Q:Bool->Prop}(ok:Ok K as H S)(rx:Rl K as H v x)(ry:Rl K as H u y)(h:FO x y S Q):∃ a b xs ys,v = .ref a/\u = .ref b/\SqL K H a xs/\SqL K H b ys/\((xs.all q0=true/\ys.all q0=true)\/xs=[]\/ys=[])/\Q (AM xs ys):=by
 unfold FO at h;split at h
 ·obtain⟨xs,ys,h1,h2,h3,h4⟩:=h;obtain⟨a,vs,rfl,_,ha,ra⟩:=j8 ok rx h1;obtain⟨b,us,rfl,_,hb,rb⟩:=j8 ok ry h2;refine⟨a,b,vs,us,rfl,rfl,SqL.of ha,SqL.of hb,?_,?_⟩
  ·rcases h3 with⟨f1,f2⟩ | h3 | h3
   ·rw[AU f1 ra,AU f2 rb];exact .inl ⟨Ba f1,Ba f2⟩
   ·subst h3;exact .inr (.inl (rla_nil.mp ra))
   ·subst h3;exact .inr (.inr (rla_nil.mp rb))
  ·have e:AM vs us=FM xs ys:=by
    rcases h3 with⟨f1,f2⟩ | h3 | h3
    ·rw[AU f1 ra,AU f2 rb,Lv f1 f2]
    ·subst h3;have:=rla_nil.mp ra;subst this;have l:=rb.length;unfold AM FM;simp[l]
    ·subst h3;have:=rla_nil.mp rb;subst this;have l:=ra.length;unfold AM FM;simp[l]
   rw[e];exact h4
 ·exact h.elim
theorem OC:Am K sEq (λx y H Q=>rEq x y H Q\/LZ K false x y H Q):=λas H S x y v u Q ok rx ry h=>by
 unfold sEq at h;split at h
 ·rename_i b e;obtain⟨h1,h2⟩:=JZ e rx ry;exact .inl ⟨h1,by rw[h2];exact h.here ok (rl_bl.mpr rfl)⟩
 ·obtain⟨a,b,xs,ys,e1,e2,h1,h2,h3,h4⟩:=GU ok rx ry h;exact .inr ⟨a,b,xs,ys,e1,e2,h1,h2,h3,h4.here ok (rl_bl.mpr rfl)⟩
theorem OD:Am K sNe (λx y H Q=>rNe x y H Q\/LZ K true x y H Q):=λas H S x y v u Q ok rx ry h=>by
 unfold sNe at h;split at h
 ·rename_i b e;obtain⟨h1,h2⟩:=JZ e rx ry;exact .inl ⟨h1,by rw[h2];exact h.here ok (rl_bl.mpr rfl)⟩
 ·obtain⟨a,b,xs,ys,e1,e2,h1,h2,h3,h4⟩:=GU ok rx ry h;exact .inr ⟨a,b,xs,ys,e1,e2,h1,h2,h3,h4.here ok (rl_bl.mpr rfl)⟩
theorem Lz{as:List UV}{H:Hp}{S:Sto}{y:SV}{u:V}{ms:List Int}(ok:Ok K as H S)(r:Rl K as H u y)(h:BG y S=some ms):∃ a k F,y = .loc k/\u = .ref a/\as[k]?=some a/\S[k]?=some (.iset ms)/\H a=some (.set F ms.length)/\∀ k,F k=decide (k∈ms):=by
 cases y with
 | loc k=>
   obtain⟨a,ea,rfl⟩:=rl_loc.mp r;unfold BG at h;cases hs:S[k]? with
   | none=>simp only[hs]at h;cases h
   | some o=>
     cases o with
     | lst ys=>simp only[hs]at h;cases h
     | iset ns=>
       simp only[hs]at h;cases h;obtain⟨F,h1,h2⟩:=ok.obj k _ a hs ea;exact⟨a,k,F,rfl,rfl,ea,hs,h1,h2⟩
     | dct _=>simp only[hs]at h;cases h
     | dcf _ _ _=>simp only[hs]at h;cases h
 | _=>cases h
noncomputable def OE(K:Qo)(neg:Bool):R2:=λx y H Q=>rIn K neg x y H Q\/(neg=false/\∃(k:Int) (p:UV) (S:Int->Bool) (n:Nat),x = .int k/\y = .ref p/\H p=some (.set S n)/\Q (.bl (S k)) H)
theorem OF{X:Cx}:OpR X (Ui .In) (OE X.K false):=λpq s σ H x y v u Q I rx ry h=>h.elim (Hd pq s σ H x y v u Q I rx ry) λh=>JU pq s σ H x y v u Q I rx ry h.2
theorem Hu{X:Cx}:OpR X (Ui .NotIn) (OE X.K true):=λpq s σ H x y v u Q I rx ry h=>h.elim (D8 pq s σ H x y v u Q I rx ry) λh=>by cases h.1
theorem Ja{n:Bool}:Am K (sIn n) (OE K n):=λas H S x y v u Q ok rx ry h=>by
 unfold sIn at h;split at h
 ·rename_i ms hi;obtain⟨i,rfl,rfl,h⟩:=h;obtain⟨a,k,F,rfl,rfl,ea,es,hF,hk⟩:=Lz ok ry hi;rw[rl_int]at rx;exact .inr ⟨rfl,i,a,F,_,rx,rfl,hF,by rw[hk];exact h.here ok (rl_bl.mpr rfl)⟩
 ·obtain⟨f,ys,hs,fs,h⟩:=h;obtain⟨a,vs,rfl,hq,rr⟩:=DF ok ry hs;have ev:=GT f rx;have es:=AU fs rr;subst ev es;exact .inl ⟨a,_,rfl,hq,E2 f,Ba fs,by rw[OB f fs];exact h.here ok (rl_bl.mpr rfl)⟩
theorem E3{as:List UV}{H:Hp}{x:SV}{v:V}(r:Rl K as H v x):decide (v=V.non)=JX x:=by
 cases x with
 | non=>rw[rl_non.mp r];rfl
 | bl _=>rw[rl_bl.mp r];rfl
 | int _=>rw[rl_int.mp r];rfl
 | str _=>rw[rl_str.mp r];rfl
 | tup _=>obtain⟨p,vs,rfl,_⟩:=rl_tup.mp r;rfl
 | loc _=>obtain⟨p,_,rfl⟩:=rl_loc.mp r;rfl
 | ro _=>obtain⟨p,vs,rfl,_⟩:=rl_ro.mp r;rfl
 | ty _=>rw[rl_ty.mp r];rfl
theorem M0:Am K (JY false) (λx y H Q=>y = .non/\Q (.bl (decide (x = .non))) H):=λas H S x y v u Q ok rx ry h=>by
 rcases h with⟨e,h⟩ | ⟨c,d,z,_⟩
 ·subst e;exact⟨rl_non.mp ry,by rw[E3 rx];exact h.here ok (rl_bl.mpr rfl)⟩
 ·cases z
theorem Jb:Am K (JY true) (λx y H Q=>(y = .non/\Q (.bl (!decide (x = .non))) H)\/∃ c d,x = .bl c/\y = .bl d/\Q (.bl (c != d)) H):=λas H S x y v u Q ok rx ry h=>by
 rcases h with⟨e,h⟩ | ⟨c,d,_,rfl,rfl,h⟩
 ·subst e;exact .inl ⟨rl_non.mp ry,by rw[E3 rx];exact h.here ok (rl_bl.mpr rfl)⟩
 ·exact .inr ⟨c,d,rl_bl.mp rx,rl_bl.mp ry,h.here ok (rl_bl.mpr rfl)⟩
end
noncomputable def sIx:S2
 | x,.int i,S,Q=>∃ xs y,AN x S=some xs/\atI xs i=some y/\Q y S
 | _,_,_,_=>False
theorem Mono2.ix:Mono2 sIx:=λx y S P P' i h=>by
 unfold sIx at h ⊢;split at h
 ·obtain⟨xs,z,a,b,c⟩:=h;exact⟨xs,z,a,b,i _ _ c⟩
 ·exact h.elim
section
variable{K:Qo}
theorem RlAll.atI{as:List UV}{H:Hp}{xs:List SV}{vs:List V}{i:Int}{y:SV}(h:RlAll K as H vs xs)(e:L2.atI xs i=some y):∃ v,L2.atI vs i=some v/\Rl K as H v y:=by
 unfold L2.atI at e ⊢;rw[h.length];cases hj:ixN xs.length i with
 | none=>rw[hj]at e;cases e
 | some j=>
   rw[hj]at e;exact h.get e
theorem OG:Am K sIx (λx y H Q=>Pd K x y H Q\/Pe K x y H Q):=λas H S x y v u Q ok rx ry h=>by
 unfold sIx at h;split at h
 ·obtain⟨xs,z,h1,h2,h3⟩:=h;obtain⟨a,vs,rfl,hq,rr⟩:=DF ok rx h1;obtain⟨w,hw,rw'⟩:=rr.atI h2;rw[rl_int]at ry;rcases hq with hq | hq
  ·exact .inl ⟨a,vs,_,w,rfl,ry,hq,hw,h3.here ok rw'⟩
  ·exact .inr ⟨a,vs,_,w,rfl,ry,hq,hw,h3.here ok rw'⟩
 ·exact h.elim
end
inductive BI where
 | len | abs | min | max | int | list | tuple | all | any | sorted | isi | str
 deriving DecidableEq
noncomputable def BI.name:BI->Str
 | .len=>"len" | .abs=>"abs" | .min=>"min" | .max=>"max" | .int=>"int" | .list=>"list" | .tuple=>"tuple" | .all=>"all" | .any=>"any" | .sorted=>"sorted" | .isi=>"isinstance" | .str=>"str"
noncomputable def blS:List SV->Option (List Bool)
 | []=>some []
 | .bl b::xs=>(blS xs).map (b::·)
 | _::_=>none
noncomputable def DH:List SV->Option (List Int)
 | []=>some []
 | .int i::xs=>(DH xs).map (i::·)
 | _::_=>none
noncomputable def tyS:SV->Sto->Option TyN
 | .non,_=>some .none
 | .bl _,_=>some .bool
 | .int _,_=>some .int
 | .str _,_=>some .str
 | .tup _,_=>some .tuple
 | .loc k,S=>match S[k]? with | some (.lst _)=>some .list | _=>none
 | _,_=>none
noncomputable def FP:TyN->TyN->Bool
 | .bool,.int=>true
 | a,b=>decide (a=b)
noncomputable def Hv:List SV->Option (List TyN)
 | []=>some []
 | .ty t::xs=>(Hv xs).map (t::·)
 | _::_=>none
noncomputable def a0(f:Sto->QE->Prop):Sn:=λxs S Q=>match xs with | []=>f S Q | _=>False
noncomputable def a1(f:S1):Sn:=λxs S Q=>match xs with | [x]=>f x S Q | _=>False
noncomputable def a2(f:S2):Sn:=λxs S Q=>match xs with | [x,y]=>f x y S Q | _=>False
noncomputable def oI(f:Int->Sto->QE->Prop):S1:=λx S Q=>match x with | .int i=>f i S Q | _=>False
theorem DI{f:S1}{xs:List SV}{S:Sto}{Q:QE}(h:a1 f xs S Q):∃ x,xs=[x]/\f x S Q:=match xs,h with | [x],h=>⟨x,rfl,h⟩
theorem Jc{f:S2}{xs:List SV}{S:Sto}{Q:QE}(h:a2 f xs S Q):∃ x y,xs=[x,y]/\f x y S Q:=match xs,h with | [x,y],h=>⟨x,y,rfl,h⟩
theorem BH{f:Int->Sto->QE->Prop}{x:SV}{S:Sto}{Q:QE}(h:oI f x S Q):∃ i,x = .int i/\f i S Q:=match x,h with | .int i,h=>⟨i,rfl,h⟩
theorem AF{f:S1}(m:JR f):MonoN (a1 f):=λxs S P P' i h=>by
 replace h:=DI h;obtain⟨x,rfl,h⟩:=h;exact m x S P P' i h
theorem Bq{f:S2}(m:Mono2 f):MonoN (a2 f):=λxs S P P' i h=>by
 replace h:=Jc h;obtain⟨x,y,rfl,h⟩:=h;exact m x y S P P' i h
theorem M1{f:Int->Sto->QE->Prop}(m:∀ k S P P',(∀ x S',P x S'->P' x S')->f k S P->f k S P'):JR (oI f):=λx S P P' i h=>by
 replace h:=BH h;obtain⟨k,rfl,h⟩:=h;exact m k S P P' i h
noncomputable def Pw:S1
 | .int i,S,Q=>Q (.int i) S
 | .bl b,S,Q=>Q (.int (if b then 1 else 0)) S
 | _,_,_=>False
theorem Mz{x:SV}{S:Sto}{Q:QE}(h:Pw x S Q):(∃ i,x = .int i/\Q (.int i) S)\/∃ b,x = .bl b/\Q (.int (if b then 1 else 0)) S:=match x,h with
 | .int i,h => .inl ⟨i,rfl,h⟩
 | .bl b,h => .inr ⟨b,rfl,h⟩
noncomputable def Px:S2:=λx y S Q=>match y with
 | .ty t=>∃ a,t ≠ .none/\tyS x S=some a/\Q (.bl (FP a t)) S
 | .tup ts=>∃ a bs,TyN.none∉bs/\tyS x S=some a/\Hv ts=some bs/\Q (.bl (bs.any (FP a))) S
 | _=>False
theorem N0{x y:SV}{S:Sto}{Q:QE}(h:Px x y S Q):(∃ t a,y = .ty t/\t ≠ .none/\tyS x S=some a/\Q (.bl (FP a t)) S)\/∃ ts a bs,y = .tup ts/\TyN.none∉bs/\tyS x S=some a/\Hv ts=some bs/\Q (.bl (bs.any (FP a))) S:=match y,h with
 | .ty t,⟨a,h⟩ => .inl ⟨t,a,rfl,h⟩
 | .tup ts,⟨a,bs,h⟩ => .inr ⟨ts,a,bs,rfl,h⟩
noncomputable def Qa:S1:=λx S Q=>∃ xs,AN x S=some xs/\Q (.int xs.length) S
noncomputable def Qb:S1:=oI λi S Q=>Q (.int (if i<0 then -i else i)) S
noncomputable def Qc:S2:=λx y S Q=>oI (λi S Q=>oI (λj S Q=>Q (.int (if j<i then j else i)) S) y S Q) x S Q
noncomputable def Qd:S2:=λx y S Q=>oI (λi S Q=>oI (λj S Q=>Q (.int (if j>i then j else i)) S) y S Q) x S Q
noncomputable def OH:S1:=λx S Q=>∃ xs,AN x S=some xs/\Q (.tup xs) S
noncomputable def Qf:S1:=λx S Q=>∃ xs bs,x ≠ .tup xs/\AN x S=some xs/\blS xs=some bs/\Q (.bl (bs.all id)) S
noncomputable def sBi:BI->Sn
 | .len=>a1 Qa
 | .abs=>a1 Qb
 | .min=>a2 Qc
 | .max=>a2 Qd
 | .int=>a1 Pw
 | .list=>λ_ _ _=>False
 | .tuple=>a1 OH
 | .all=>a1 Qf
 | .any=>λ_ _ _=>False
 | .sorted=>λ_ _ _=>False
 | .isi=>a2 Px
 | .str=>λ_ _ _=>False
theorem MonoN.bi:∀{b:BI},MonoN (sBi b)
 | .len=>AF λ_ _ _ _ i ⟨a,c,d⟩=>⟨a,c,i _ _ d⟩
 | .abs=>AF (M1 λ_ _ _ _ i h=>i _ _ h)
 | .min=>Bq λx y S P P' i h=>by
   replace h:=BH h;obtain⟨k,rfl,h1⟩:=h;obtain⟨l,rfl,h2⟩:=BH h1;exact i _ _ h2
 | .max=>Bq λx y S P P' i h=>by
   replace h:=BH h;obtain⟨k,rfl,h1⟩:=h;obtain⟨l,rfl,h2⟩:=BH h1;exact i _ _ h2
 | .int=>AF λx S P P' i h=>by
   replace h:=Mz h;rcases h with⟨k,rfl,h⟩ | ⟨b,rfl,h⟩
   ·exact i _ _ h
   ·exact i _ _ h
 | .list=>λ_ _ _ _ _ h=>h
 | .tuple=>AF λ_ _ _ _ i ⟨a,c,d⟩=>⟨a,c,i _ _ d⟩
 | .all=>AF λ_ _ _ _ i ⟨a,b,c,d,e,f⟩=>⟨a,b,c,d,e,i _ _ f⟩
 | .any=>λ_ _ _ _ _ h=>h
 | .sorted=>λ_ _ _ _ _ h=>h
 | .isi=>Bq λx y S P P' i h=>by
   replace h:=N0 h;rcases h with⟨t,a,rfl,h1,h2,h⟩ | ⟨ts,a,bs,rfl,h1,h2,h3,h⟩
   ·exact⟨a,h1,h2,i _ _ h⟩
   ·exact⟨a,bs,h1,h2,h3,i _ _ h⟩
 | .str=>λ_ _ _ _ _ h=>h
section
variable{K:Qo}{as:List UV}{H:Hp}{S:Sto}
theorem Jd:∀{xs:List SV} {bs:List Bool} {vs:List V},blS xs=some bs->RlAll K as H vs xs->vs=bs.map V.bl
 | [],_,_,e,r=>by cases e;exact rla_nil.mp r
 | .bl b::xs,_,_,e,r=>by
   obtain⟨v,vs,rfl,r1,r2⟩:=rla_cons.mp r;unfold blS at e;cases h:blS xs with
   | none=>rw[h]at e;cases e
   | some cs=>
     rw[h]at e;cases e;rw[rl_bl.mp r1,Jd h r2];rfl
 | .non::_,_,_,e,_=>by cases e
 | .int _::_,_,_,e,_=>by cases e
 | .str _::_,_,_,e,_=>by cases e
 | .tup _::_,_,_,e,_=>by cases e
 | .loc _::_,_,_,e,_=>by cases e
 | .ro _::_,_,_,e,_=>by cases e
 | .ty _::_,_,_,e,_=>by cases e
theorem DJ:∀{xs:List SV} {bs:List Int} {vs:List V},DH xs=some bs->RlAll K as H vs xs->vs=bs.map V.int
 | [],_,_,e,r=>by cases e;exact rla_nil.mp r
 | .int b::xs,_,_,e,r=>by
   obtain⟨v,vs,rfl,r1,r2⟩:=rla_cons.mp r;unfold DH at e;cases h:DH xs with
   | none=>rw[h]at e;cases e
   | some cs=>
     rw[h]at e;cases e;rw[rl_int.mp r1,DJ h r2];rfl
 | .non::_,_,_,e,_=>by cases e
 | .bl _::_,_,_,e,_=>by cases e
 | .str _::_,_,_,e,_=>by cases e
 | .tup _::_,_,_,e,_=>by cases e
 | .loc _::_,_,_,e,_=>by cases e
 | .ro _::_,_,_,e,_=>by cases e
 | .ty _::_,_,_,e,_=>by cases e
theorem AG{x:SV}{v:V}{xs:List SV}(ok:Ok K as H S)(r:Rl K as H v x)(n:x ≠ .tup xs)(h:AN x S=some xs):∃ a vs,v = .ref a/\SqL K H a vs/\RlAll K as H vs xs:=by
 cases x with
 | tup ys=>cases h;exact absurd rfl n
 | ro ys=>
   cases h;obtain⟨p,vs,rfl,hp,rr⟩:=rl_ro.mp r;exact⟨p,vs,rfl,hp.sq,rr⟩
 | loc k=>
   obtain⟨a,ea,rfl⟩:=rl_loc.mp r;unfold AN at h;cases hs:S[k]? with
   | none=>simp only[hs]at h;cases h
   | some o=>
     cases o with
     | lst ys=>
       simp only[hs]at h;cases h;obtain⟨vs,h1,rr⟩:=ok.obj k _ a hs ea;exact⟨a,vs,rfl,SqL.of h1,rr⟩
     | iset _=>simp only[hs]at h;cases h
     | dct _=>simp only[hs]at h;cases h
     | dcf _ _ _=>simp only[hs]at h;cases h
 | _=>cases h
theorem DK{vs:List V}{x:SV}(r:RlAll K as H vs [x]):∃ v,vs=[v]/\Rl K as H v x:=by
 obtain⟨v,t,rfl,r1,r2⟩:=rla_cons.mp r;rw[rla_nil.mp r2];exact⟨v,rfl,r1⟩
theorem Je{vs:List V}{x y:SV}(r:RlAll K as H vs [x,y]):∃ v u,vs=[v,u]/\Rl K as H v x/\Rl K as H u y:=by
 obtain⟨v,t,rfl,r1,r2⟩:=rla_cons.mp r;obtain⟨u,rfl,r3⟩:=DK r2;exact⟨v,u,rfl,r1,r3⟩
end
theorem Jf{K:Qo}{as:List UV}{H:Hp}{S:Sto}{Q:VK}{x:SV}{v:V}{ys:List SV}(ok:Ok K as H S)(r1:Rl K as H v x)(h1:AN x S=some ys)(h2:Post K as H Q (.tup ys) S):∃ p us,v = .ref p/\((SqL K H p us/\∀ l,H l=none->Q (.ref l) (upd H l (.tup us)))\/(SqT K H p us/\Q (.ref p) H)):=by
 cases x with
 | tup zs=>
   cases h1;obtain⟨p,us,rfl,hp,rr⟩:=rl_tup.mp r1;exact⟨p,us,rfl,.inr ⟨SqT.of hp,h2.here ok r1⟩⟩
 | loc k=>
   obtain⟨a,us,rfl,hq,rr⟩:=AG ok r1 (by intro z;cases z) h1;exact⟨a,us,rfl,.inl ⟨hq,An ok rr h2⟩⟩
 | ro k=>
   obtain⟨a,us,rfl,hq,rr⟩:=AG ok r1 (by intro z;cases z) h1;exact⟨a,us,rfl,.inl ⟨hq,An ok rr h2⟩⟩
 | _=>cases h1
section
variable{K:Qo}{as:List UV}{H:Hp}{S:Sto}
theorem N1{x:SV}{v:V}{a:TyN}(ok:Ok K as H S)(r:Rl K as H v x)(h:tyS x S=some a):TyOf K H v (.type a.nm):=by
 cases x with
 | non=>cases h;rw[rl_non.mp r];exact .non
 | bl b=>cases h;rw[rl_bl.mp r];exact .bl b
 | int b=>cases h;rw[rl_int.mp r];exact .int b
 | str b=>cases h;rw[rl_str.mp r];exact .str b
 | tup xs=>cases h;obtain⟨p,vs,rfl,hp,_⟩:=rl_tup.mp r;exact .tup hp
 | loc k=>
   obtain⟨b,eb,rfl⟩:=rl_loc.mp r;unfold tyS at h;cases hs:S[k]? with
   | none=>simp only[hs]at h;cases h
   | some o=>
     cases o with
     | lst ys=>
       simp only[hs]at h;cases h;obtain⟨vs,h1,_⟩:=ok.obj k _ b hs eb;exact .lst h1
     | iset _=>simp only[hs]at h;cases h
     | dct _=>simp only[hs]at h;cases h
     | dcf _ _ _=>simp only[hs]at h;cases h
 | _=>cases h
noncomputable def ktn(t c:String):Option Bool:=if (Value.type t == Value.type c)=true then some true else if PySem.W.kitMeta c=true then (fastBuiltinMro t).map (·.contains (.type c)) else none
theorem GV{K:Qo}(a:TyN)(t:TyN)(ht:t ≠ .none):PySem.W.kitOne K (.type a.nm) (.type t.nm)=some (FP a t):=by
 have e:PySem.W.kitOne K (.type a.nm) (.type t.nm)=ktn a.nm t.nm:=rfl;rw[e];cases a<;>cases t<;>first | exact absurd rfl ht | decide +kernel
theorem GW{K:Qo}(a:TyN):∀(bs:List TyN),TyN.none∉bs->PySem.W.kitAny K (.type a.nm) ((bs.map TyN.nm).map Value.type)=some (bs.any (FP a))
 | [],_=>rfl
 | b::bs,h=>by
   rw[RK,RK,PySem.W.kitAny,GV a b (λz=>h (by rw[z];simp)),Ry];cases FP a b with
   | true=>rfl
   | false=>exact GW a bs (λz=>h (R3 _ z))
theorem Jg:∀{xs:List SV} {bs:List TyN} {vs:List V},Hv xs=some bs->RlAll K as H vs xs->vs=(bs.map TyN.nm).map V.ty
 | [],_,_,e,r=>by cases e;exact rla_nil.mp r
 | .ty b::xs,_,_,e,r=>by
   obtain⟨v,vs,rfl,r1,r2⟩:=rla_cons.mp r;unfold Hv at e;cases h:Hv xs with
   | none=>rw[h]at e;cases e
   | some cs=>
     rw[h]at e;cases e;rw[rl_ty.mp r1,Jg h r2];rfl
 | .non::_,_,_,e,_=>by cases e
 | .bl _::_,_,_,e,_=>by cases e
 | .str _::_,_,_,e,_=>by cases e
 | .tup _::_,_,_,e,_=>by cases e
 | .loc _::_,_,_,e,_=>by cases e
 | .ro _::_,_,_,e,_=>by cases e
 | .int _::_,_,_,e,_=>by cases e
end
noncomputable def rBi(K:Qo):BI->List V->Hp->VK->Prop
 | .len=>λxs H Q=>∃ p ys,xs=[.ref p]/\(SqL K H p ys\/SqT K H p ys)/\Q (.int ys.length) H
 | .abs=>λxs H Q=>∃ i,xs=[.int i]/\Q (.int (if i<0 then -i else i)) H
 | .min=>λxs H Q=>∃ i j,xs=[.int i,.int j]/\Q (.int (if j<i then j else i)) H
 | .max=>λxs H Q=>∃ i j,xs=[.int i,.int j]/\Q (.int (if j>i then j else i)) H
 | .int=>λxs H Q=>(∃ i,xs=[.int i]/\Q (.int i) H)\/∃ k,xs=[.bl k]/\Q (.int (if k then 1 else 0)) H
 | .list=>λ_ _ _=>False
 | .tuple=>λxs H Q=>∃ p ys,xs=[.ref p]/\((SqL K H p ys/\∀ l,H l=none->Q (.ref l) (upd H l (.tup ys)))\/(SqT K H p ys/\Q (.ref p) H))
 | .all=>λxs H Q=>∃(a:UV) (bs:List Bool),xs=[.ref a]/\SqL K H a (bs.map V.bl)/\Q (.bl (bs.all id)) H
 | .any=>λ_ _ _=>False
 | .sorted=>λ_ _ _=>False
 | .isi=>λxs H Q=>(∃ x T t b,xs=[x,.ty T]/\TyOf K H x t/\PySem.W.kitOne K t (.type T)=some b/\Q (.bl b) H)\/(∃(x:V) (p:UV) (Ts:List String) (t:UT) (b:Bool),xs=[x,.ref p]/\H p=some (.tup (Ts.map V.ty))/\TyOf K H x t/\PySem.W.kitAny K t (Ts.map Value.type)=some b/\Q (.bl b) H)
 | .str=>λ_ _ _=>False
theorem OI{K:Qo}:∀{b:BI},Pt K (sBi b) (rBi K b)
 | .len=>λas H S xs vs Q ok r h=>by
   replace h:=DI h;obtain⟨x,rfl,ys,h1,h2⟩:=h;obtain⟨v,rfl,r1⟩:=DK r;obtain⟨a,us,rfl,hq,rr⟩:=DF ok r1 h1;exact⟨a,us,rfl,hq,by rw[rr.length];exact h2.here ok (rl_int.mpr rfl)⟩
 | .abs=>λas H S xs vs Q ok r h=>by
   replace h:=DI h;obtain⟨x,rfl,h⟩:=h;replace h:=BH h;obtain⟨i,rfl,h⟩:=h;obtain⟨v,rfl,r1⟩:=DK r;exact⟨_,by rw[rl_int.mp r1],Post.here h ok (rl_int.mpr rfl)⟩
 | .min=>λas H S xs vs Q ok r h=>by
   replace h:=Jc h;obtain⟨x,y,rfl,h⟩:=h;replace h:=BH h;obtain⟨i,rfl,h⟩:=h;replace h:=BH h;obtain⟨j,rfl,h⟩:=h;obtain⟨v,u,rfl,r1,r2⟩:=Je r;exact⟨_,_,by rw[rl_int.mp r1,rl_int.mp r2],Post.here h ok (rl_int.mpr rfl)⟩
 | .max=>λas H S xs vs Q ok r h=>by
   replace h:=Jc h;obtain⟨x,y,rfl,h⟩:=h;replace h:=BH h;obtain⟨i,rfl,h⟩:=h;replace h:=BH h;obtain⟨j,rfl,h⟩:=h;obtain⟨v,u,rfl,r1,r2⟩:=Je r;exact⟨_,_,by rw[rl_int.mp r1,rl_int.mp r2],Post.here h ok (rl_int.mpr rfl)⟩
 | .int=>λas H S xs vs Q ok r h=>by
   replace h:=DI h;obtain⟨x,rfl,h⟩:=h;obtain⟨v,rfl,r1⟩:=DK r;replace h:=Mz h;rcases h with⟨k,rfl,h⟩ | ⟨b,rfl,h⟩
   ·exact .inl ⟨_,by rw[rl_int.mp r1],Post.here h ok (rl_int.mpr rfl)⟩
   ·exact .inr ⟨_,by rw[rl_bl.mp r1],Post.here h ok (rl_int.mpr rfl)⟩
 | .list=>λ_ _ _ _ _ _ _ _ h=>False.elim h
 | .tuple=>λas H S xs vs Q ok r h=>by
   replace h:=DI h;obtain⟨x,rfl,ys,h1,h2⟩:=h;obtain⟨v,rfl,r1⟩:=DK r;obtain⟨p,us,rfl,z⟩:=Jf ok r1 h1 h2;exact⟨p,us,rfl,z⟩
 | .all=>λas H S xs vs Q ok r h=>by
   replace h:=DI h;obtain⟨x,rfl,ys,bs,h0,h1,h2,h3⟩:=h;obtain⟨v,rfl,r1⟩:=DK r;obtain⟨a,us,rfl,hq,rr⟩:=AG ok r1 h0 h1;rw[Jd h2 rr]at hq;exact⟨a,bs,rfl,hq,h3.here ok (rl_bl.mpr rfl)⟩
 | .any=>λ_ _ _ _ _ _ _ _ h=>False.elim h
 | .sorted=>λ_ _ _ _ _ _ _ _ h=>False.elim h
 | .isi=>λas H S xs vs Q ok r h=>by
   replace h:=Jc h;obtain⟨x,y,rfl,h⟩:=h;obtain⟨v,u,rfl,r1,r2⟩:=Je r;replace h:=N0 h;rcases h with⟨t,a,rfl,h0,h1,h2⟩ | ⟨ts,a,bs,rfl,h0,h1,h2,h3⟩
   ·rw[rl_ty.mp r2];exact .inl ⟨v,_,_,_,rfl,N1 ok r1 h1,GV _ _ h0,h2.here ok (rl_bl.mpr rfl)⟩
   ·obtain⟨p,vs,rfl,hp,rr⟩:=rl_tup.mp r2;rw[Jg h2 rr]at hp;exact .inr ⟨v,p,_,_,_,rfl,hp,N1 ok r1 h1,GW _ _ h0,h3.here ok (rl_bl.mpr rfl)⟩
 | .str=>λ_ _ _ _ _ _ _ _ h=>False.elim h
theorem DL{K:Qo}{as:List UV}{H:Hp}:∀{ns:List Int} {vs:List V},RlAll K as H vs (ns.map SV.int)->vs=ns.map V.int
 | [],vs,h=>rla_nil.mp h
 | n::ns,vs,h=>by
   obtain⟨v,r,rfl,h1,h2⟩:=rla_cons.mp h;rw[rl_int.mp h1,DL h2];rfl
inductive MT where
 | append | extend | insert | index
 deriving DecidableEq
noncomputable def MT.name:MT->Str
 | .append=>"append" | .extend=>"extend" | .insert=>"insert" | .index=>"index"
noncomputable def oL(f:Nat->Sto->QE->Prop):S1:=λx S Q=>match x with | .loc k=>f k S Q | _=>False
theorem Cb{f:Nat->Sto->QE->Prop}{x:SV}{S:Sto}{Q:QE}(h:oL f x S Q):∃ k,x = .loc k/\f k S Q:=match x,h with | .loc k,h=>⟨k,rfl,h⟩
noncomputable def M2(x:SV):S1:=λy S Q=>oL (λk S Q=>∃ xs,S[k]?=some (.lst xs)/\xs.length<big/\Q .non (S.set k (.lst (xs++[y])))) x S Q
noncomputable def M3(x:SV):S1:=λy S Q=>oL (λk S Q=>oL (λl S Q=>∃ xs ys,S[k]?=some (.lst xs)/\S[l]?=some (.lst ys)/\xs.length+ys.length<=big/\Q .non (S.set k (.lst (xs++ys)))) y S Q) x S Q
noncomputable def M4(x:SV):S2:=λz y S Q=>oL (λk S Q=>oI (λi S Q=>∃ xs,S[k]?=some (.lst xs)/\(0<=i/\i<=xs.length)/\xs.length<big/\Q .non (S.set k (.lst (xs.take i.toNat++y::xs.drop i.toNat)))) z S Q) x S Q
noncomputable def OJ(x:SV):S1:=λy S Q=>oL (λk S Q=>oI (λn S Q=>∃(ns:List Int) (j:Nat),S[k]?=some (.lst (ns.map SV.int))/\ns[j]?=some n/\(∀ m,m<j->ns[m]?≠some n)/\Q (.int (j:Nat)) S) y S Q) x S Q
noncomputable def sMt:MT->SV->Sn
 | .append,x=>a1 (M2 x)
 | .extend,x=>a1 (M3 x)
 | .insert,x=>a2 (M4 x)
 | .index,x=>a1 (OJ x)
theorem DM:∀{m:MT} {x:SV},MonoN (sMt m x)
 | .append,x=>AF λy S P P' i h=>by
   replace h:=Cb h;obtain⟨k,rfl,a,c,d,e⟩:=h;exact⟨a,c,d,i _ _ e⟩
 | .extend,x=>AF λy S P P' i h=>by
   replace h:=Cb h;obtain⟨k,rfl,h⟩:=h;replace h:=Cb h;obtain⟨l,rfl,a,c,d,e,f,g⟩:=h;exact⟨a,c,d,e,f,i _ _ g⟩
 | .insert,x=>Bq λz y S P P' i h=>by
   replace h:=Cb h;obtain⟨k,rfl,h⟩:=h;replace h:=BH h;obtain⟨j,rfl,a,c,d,e,f⟩:=h;exact⟨a,c,d,e,i _ _ f⟩
 | .index,x=>AF λy S P P' i h=>by
   replace h:=Cb h;obtain⟨k,rfl,h⟩:=h;replace h:=BH h;obtain⟨n,rfl,a,c,d,e,f,g⟩:=h;exact⟨a,c,d,e,f,i _ _ g⟩
noncomputable def rMt:MT->V->List V->Hp->VK->Prop
 | .append=>GL
 | .extend=>GM
 | .insert=>GN
 | .index=>JE
section
variable{K:Qo}{as:List UV}{H:Hp}{S:Sto}
theorem RlAll.erase:∀{xs:List SV} {vs:List V} (n:Nat),RlAll K as H vs xs->RlAll K as H (vs.eraseIdx n) (xs.eraseIdx n)
 | [],_,n,h=>by rw[rla_nil.mp h];exact .nil
 | x::xs,_,0,h=>by
   obtain⟨v,r,rfl,a,t⟩:=rla_cons.mp h;exact t
 | x::xs,_,n+1,h=>by
   obtain⟨v,r,rfl,a,t⟩:=rla_cons.mp h;exact .cons a (t.erase n)
theorem B8{Q:VK}{k:Nat}{a:UV}{xs ys:List SV}{us:List V}{x:SV}{v:V}(ok:Ok K as H S)(e:S[k]?=some (.lst xs))(ea:as[k]?=some a)(r:RlAll K as H us ys)(h:Post K as H Q x (S.set k (.lst ys)))(rx:Rl K as H v x):Q v (upd H a (.lst us)):=by
 obtain⟨ok',ku⟩:=ok.write e ea r;exact h as _ v (Go.write (R1 ea)) ok' (Rl.mono (RH _) ku x v rx)
theorem Jh:∀{m:MT} {Q:VK} {x:SV} {v:V} {xs:List SV} {vs:List V} (ok:Ok K as H S) (rx:Rl K as H v x) (r:RlAll K as H vs xs) (h:sMt m x xs S (Post K as H Q)),rMt m v vs H Q
 | .append,Q,x,v,xs,vs,ok,rx,r,h=>by
   replace h:=DI h;obtain⟨y,rfl,h⟩:=h;replace h:=Cb h;obtain⟨k,rfl,ys,h1,h2,h3⟩:=h;obtain⟨a,us,rfl,ea,ha,ra⟩:=j8 ok rx h1;obtain⟨u,rfl,ru⟩:=DK r;exact⟨a,us,u,rfl,rfl,ha,by rw[ra.length];exact C9 h2,B8 ok h1 ea (ra.append (.cons ru .nil)) h3 (rl_non.mpr rfl)⟩
 | .extend,Q,x,v,xs,vs,ok,rx,r,h=>by
   replace h:=DI h;obtain⟨y,rfl,h⟩:=h;replace h:=Cb h;obtain⟨k,rfl,h⟩:=h;replace h:=Cb h;obtain⟨l,rfl,ys,zs,h1,h2,h3,h4⟩:=h;obtain⟨a,us,rfl,ea,ha,ra⟩:=j8 ok rx h1;obtain⟨u,rfl,ru⟩:=DK r;obtain⟨b,ws,rfl,eb,hb,rb⟩:=j8 ok ru h2;exact⟨a,b,us,ws,rfl,rfl,ha,hb,by rw[ra.length,rb.length];exact A6 h3,B8 ok h1 ea (ra.append rb) h4 (rl_non.mpr rfl)⟩
 | .insert,Q,x,v,xs,vs,ok,rx,r,h=>by
   replace h:=Jc h;obtain⟨z,y,rfl,h⟩:=h;replace h:=Cb h;obtain⟨k,rfl,h⟩:=h;replace h:=BH h;obtain⟨i,rfl,ys,h1,h2,h3,h4⟩:=h;obtain⟨a,us,rfl,ea,ha,ra⟩:=j8 ok rx h1;obtain⟨u,w,rfl,ru,rw'⟩:=Je r;rw[rl_int.mp ru];exact⟨a,us,i,w,rfl,rfl,ha,h2.1,by rw[ra.length];exact h2.2,by rw[ra.length];exact C9 h3,B8 ok h1 ea (ra.ins rw' _) h4 (rl_non.mpr rfl)⟩
 | .index,Q,x,v,xs,vs,ok,rx,r,h=>by
   replace h:=DI h;obtain⟨y,rfl,h⟩:=h;replace h:=Cb h;obtain⟨k,rfl,h⟩:=h;replace h:=BH h;obtain⟨n,rfl,ns,j,h1,h2,h3,h4⟩:=h;obtain⟨a,us,rfl,ea,ha,ra⟩:=j8 ok rx h1;obtain⟨u,rfl,ru⟩:=DK r;rw[DL ra]at ha;exact⟨a,ns,n,j,rfl,by rw[rl_int.mp ru],ha,h2,h3,h4.here ok (rl_int.mpr rfl)⟩
end
end Rf
namespace L2
open PySem PySem.Spec PyProof.Rows
section
variable{X:Cx}{pq:List (UV×Obj)}{σ:St}{H:Hp}{s:UU}{a:UV}{u u':HO}
theorem Inv.retag(I:Inv X pq σ H s)(hu:H a=some u)(h1:∀ xs,u ≠ .tup xs)(h2:∀ y,u ≠ .own y)(h3:∀ ps,u ≠ .tbl ps)(h4:∀ o xs,u ≠ .frz o (.lst xs))(new:ObjOk X.prog X.w (upd H a u') s.heap a u'):Inv X pq σ (upd H a u') s:=by
 have ne:∀ b,H b=none->b≠a:=λb n z=>by rw[z,hu]at n;cases n
 refine⟨I.ok,I.os,I.bare,⟨I.base.keep,I.base.slot,λb o e n hx=>?_,I.base.there,λb xs e=>?_,λb o w e=>?_,λb ps e=>?_⟩,I.loc,I.cell,?_,λx c e=>?_,λp hp=>?_,λb o e=>?_,I.len⟩
 ·have q:=I.base.free b o e n hx;rw[e6 (ne b q)];exact q
 ·have q:=I.base.tups b xs e;by_cases hb:b=a
  ·rw[hb,hu]at q;exact absurd (oj q) (h1 xs)
  ·rw[e6 hb];exact q
 ·have q:=I.base.frzs b o w e;by_cases hb:b=a
  ·rw[hb,hu]at q;exact absurd (oj q) (h4 o w)
  ·rw[e6 hb];exact q
 ·obtain⟨m,q⟩:=I.base.tbls b ps e;by_cases hb:b=a
  ·rw[hb,hu]at q;exact absurd (oj q) (h3 _)
  ·exact⟨m,by rw[e6 hb];exact q⟩
 ·rw[e6 (ne _ I.free)];exact I.free
 ·rw[e6 (ne _ (I.freeC x c e))];exact I.freeC x c e
 ·obtain⟨p1,p2,p3⟩:=I.pin p hp;exact⟨p1,by rw[e6 (ne _ p2)];exact p2,p3⟩
 ·by_cases hb:b=a
  ·subst hb;rw[f8]at e;cases e;exact new
  ·rw[e6 hb]at e;refine(I.hok b o e).stay (λ_ _ _ q=>q) (λc q=>?_) (λc xs q=>?_)
   ·by_cases hc:c=a
    ·rw[hc,hu]at q;exact absurd (oj q) (h2 _)
    ·rw[e6 hc];exact q
   ·by_cases hc:c=a
    ·rw[hc,hu]at q;exact absurd (oj q) (h1 _)
    ·rw[e6 hc];exact q
theorem Inv.freeze{ks:List (Key×V)}{o:Obj}(I:Inv X pq σ H s)(hu:H a=some (.dK ks))(ho:s.heap.get? a=some o):Inv X pq σ (upd H a (.frz o (.dK ks))) s:=
 I.retag hu nofun nofun nofun (λ_ _ z=>by cases z) ⟨ho,I.hok a _ hu⟩
theorem Inv.melt{ks:List (Key×V)}{o:Obj}(I:Inv X pq σ H s)(hu:H a=some (.frz o (.dK ks))):Inv X pq σ (upd H a (.dK ks)) s:=
 I.retag hu nofun nofun nofun (λo' xs z=>by injection z with z1 z2;cases z2) (show ObjOk X.prog X.w H s.heap a (.frz o (.dK ks)) from I.hok a _ hu).2
end
theorem Py{P:Ua}{w:Ud}{k:Key}{u:UT}(h:(g9 P w).is k u=true):RelV (kV k) u:=by
 rw[F3]at h;cases k with
 | inl i=>cases u<;>first | (cases h;done) | (simp[BB,Value.isInt]at h;subst h;exact⟨_,rfl⟩)
 | inr x=>cases u<;>first | (cases h;done) | (simp[BB,Value.isStrOf]at h;subst h;exact⟨_,rfl⟩)
theorem Ji{P:Ua}{w:Ud}{H:Hp}{h:Heap}{d:UV}{o:Obj}{ks:List (Key×V)}{es0:Array Wg}{ep:Nat}(hd:o.data = .dict es0 ep)(ok:HOk P w H h)(e:H d=some (.frz o (.dK ks))):∃ vs,KV ks vs/\h.DictAt (g9 P w) d vs ep:=by
 obtain⟨ho,_,_,vs,kv,o',es,ep',ho',ex,dat,keys,prs,nd⟩:=(show ObjOk P w H h d (.frz o (.dK ks)) from ok d _ e)
 rw[ho]at ho';cases ho';rw[hd]at dat;cases dat;exact⟨vs,kv,o,_,ho,ex,hd,keys,prs,nd⟩
section
variable{X:Cx}{tg:Expr}
noncomputable def Qg(H H':Hp):Prop:=∃ a o ks,H a=some (.frz o (.dK ks))/\H'=upd H a (.dK ks)
noncomputable def Jj(td ty tv:TE):TS:=λD σ H=>tv σ H λv H1=>td σ H1 λx H2=>ty σ H2 λy H3=>∃ a H3' H4,x = .ref a/\(H3'=H3\/Qg H3 H3')/\DPut H3' a y v H4/\D.nx σ H4
theorem Jk{o i value:Expr}{pos pos':Pos}{td ty tv:TE}(hu:X.A.units+1<cLine)(ho:PE X o td)(hi:PE X i ty)(hv:PE X value tv)(hs:V2 value (some (.Subscript o i pos')) pos.line X.env=pure false):
 PS X (.Assign [.Subscript o i pos'] value pos) (Jj td ty tv):=by
 intro pq s σ H D I h;refine wpAny_Assign_Subscript (thn (hv pq s σ H _ I h) λr s1 ⟨v,H1,I1,rv,q1⟩=>thn (ho pq s1 σ H1 _ I1 q1) λu s2 ⟨x,H2,I2,rx,q2⟩=>thn (hi pq s2 σ H2 _ I2 q2) λiv s3 ⟨y,H3,I3,ry,a,H3',H4,ex,m,g,q3⟩=>?_) hs;subst ex;obtain rfl:u=Value.ref a:=rx
 have I3':Inv X pq σ H3' s3:=by
  rcases m with rfl | ⟨b,o',ks,e1,rfl⟩
  ·exact I3
  ·exact I3.melt e1
 exact Hl hu I3' g ry rv λs4 I4=>⟨σ,H4,I4,q3⟩
end
section
variable{X:Cx}
noncomputable def gtB(ns:List Int)(a b:Nat):Bool:=decide (ns.getD a 0>ns.getD b 0)
theorem GX(ns:List Int):∀ k j,j<=k->ns.getD j 0<=ns.getD (argBest (gtB ns) k) 0
 | 0,j,hj=>by
   have:j=0:=by omega
   subst this;exact UP _
 | k+1,j,hj=>by
   have ih:=GX ns k;simp only[argBest];split
   ·rename_i hb;have hb:=of_decide_eq_true hb;by_cases e:j=k+1
    ·subst e;exact UP _
    ·have:=ih j (by omega);omega
   ·rename_i hb;have hb:¬ ns.getD (k+1) 0>ns.getD (argBest (gtB ns) k) 0:=λz=>hb (decide_eq_true z);by_cases e:j=k+1
    ·subst e;omega
    ·exact ih j (by omega)
theorem E4(bt:Nat->Nat->Bool):∀ k,argBest bt k<=k
 | 0=>Qs _
 | k+1=>by
   simp only[argBest];split
   ·exact Qs _
   ·exact Sx (E4 bt k)
noncomputable def Grt(ns:List Int)(m:Int):Prop:=m∈ns/\∀ n∈ns,n<=m
theorem Jl{ns:List Int}(h:0<ns.length):Grt ns (ns.getD (argBest (gtB ns) (ns.length - 1)) 0):=by
 have hb:=E4 (gtB ns) (ns.length - 1);have hlt:argBest (gtB ns) (ns.length - 1)<ns.length:=by omega
 refine⟨by rw[show ns.getD (argBest (gtB ns) (ns.length - 1)) 0=ns[argBest (gtB ns) (ns.length - 1)] by simp[SQ,hlt]];exact Rn hlt,λn hn=>?_⟩;obtain⟨j,hj⟩:=SR hn;have hjl:=(gM hj).1;have:=GX ns (ns.length - 1) j (by omega);rw[show ns.getD j 0=n by simp[SQ,hj]]at this;exact this
theorem GY{ns:List Int}{its:List UT}(rv:Vals (ns.map V.int) its){i:Nat}{v:UT}(h:its[i]?=some v):∃ n t,ns[i]?=some n/\v = .int n t:=by
 have hl:=rv.length;rw[Qr]at hl;have hi:i<ns.length:=by have:=(gM h).1;omega
 have e:(ns.map V.int)[i]?=some (.int ns[i]):=by simp[hi]
 obtain⟨u,eu,ru⟩:=rv.get e;rw[h]at eu;cases eu;obtain⟨t,rfl⟩:=ru;exact⟨_,t,by simp[hi],rfl⟩
theorem Hw(hc:X.calm=true):CallR X (.builtin "max") (λxs H Q=>∃ l ns,xs=[.ref l]/\H l=some (.lst (ns.map V.int))/\0<ns.length/\∀ m,Grt ns m->Q (.int m) H):=by
 intro pq s σ H xs us Q I r h;obtain⟨l,ns,rfl,hl,hn,q1⟩:=h;obtain⟨u,rfl,ru⟩:=Af r;cases ru;obtain⟨its,rv,pl,hz⟩:=I.list (SqL.of hl);have hl2:ns.length=its.length:=by have:=rv.length;rwa [Qr]at this
 have hlt:l<s.heap.objs.size:=by obtain⟨o,ho,_⟩:=pl.isList;exact Qw ho
 have hne:l≠s.heap.objs.size:=R5 hlt;refine call_max_walk (V9 pl.isList ⟨s.heap.objs.size,[s.heap.objs.size,l],[s.heap.objs.size],its.toArray.size,_,_,gtB ns,rfl,Walks.list (prog:=X.prog) (w:=X.w) (A:=X.A.in1) (I.ok.hd hc) s.heap.objs.size l hne its.toArray,?_,?_,?_,?_,?_⟩)
 ·exact⟨⟨_,Qx _ rfl,rfl,rfl⟩,pl.isList.at λo e=>Qq _ e⟩
 ·intro b hb;rcases R0.mp hb with rfl | hb
  ·show _<(s.heap.push _).objs.size;rw[RT];exact Sk _
  ·rw[Qu.mp hb];show _<(s.heap.push _).objs.size;rw[RT];exact SG hlt
 ·rw[Qt];omega
 ·exact CmpOf.ints_gt (λi=>ns.getD i 0) (λi v h=>by
   obtain⟨n,t1,e1,rfl⟩:=GY rv (show its[i]?=some v by simpa using h);exact⟨t1,by simp[SQ,e1]⟩)
 ·intro v h' tk hv k;obtain⟨n,t1,e1,rfl⟩:=GY rv (show its[argBest (gtB ns) (its.toArray.size - 1)]?=some v by simpa using hv);have hsz:its.toArray.size=ns.length:=by rw[Qt];omega
  rw[hsz]at e1;have g:=Jl hn;rw[show ns.getD (argBest (gtB ns) (ns.length - 1)) 0=n by simp[SQ,e1]]at g;refine⟨.int n,H,I.kept (t':=tk) (λb o e=>k b o (λz=>?_) (Qq _ e)),⟨t1,rfl⟩,q1 n g⟩;rw[Qu.mp z]at e;exact Rx _ (Qw e)
end
end L2
namespace Rf
open PySem L2
mutual
inductive Tg where
 | nm (i:Nat) | tup (ts:Tgs)
inductive Tgs where
 | nil | cons (t:Tg) (ts:Tgs)
end
mutual
inductive Ex where
 | var (i:Nat) | c (x:SV) | op (o:VY) (a b:Ex) | cmp (o:CmpOp) (a b:Ex) | chn (o p:CmpOp) (a b c:Ex)
 | and (a b:Ex) | or (a b:Ex) | not (a:Ex) | tup (es:Exs) | lst (es:Exs) | ix (a b:Ex) | slc (a:Ex) (lo hi:Eo)
 | call (f:Nat) (es:Exs) | bi (b:BI) (es:Exs) | mt (m:MT) (a:Ex) (es:Exs) | comp (own cn:List Str) (js:List Nat) (g:Tg) (it:Itb) (t:Eo) (e:Ex) | tyc (t:TyN) | lrng1 (a:Ex) | max1 (a:Ex) | dvals (a:Ex) | dcopy (a:Ex) | srtp (a:Ex) | lenset (a:Ex) | setl (a:Ex) | eqt0 (a b:Ex) | dnew | din (n:Bool) (a b:Ex) | no
inductive Exs where
 | nil | cons (e:Ex) (es:Exs)
inductive Eo where
 | no | yes (e:Ex)
inductive Itb where
 | seq (e:Ex) | rng1 (a:Ex) | rng2 (a b:Ex) | enum (e:Ex) | itm (e:Ex) | zipE (a b:Ex)
end
inductive Stm where
 | asg (t:Tg) (e:Ex) | put (o i e:Ex) | dput (o i e:Ex) | expr (e:Ex) | iff (t:Ex) (a b:List Stm) | loop (g:Tg) (it:Itb) (b:List Stm) | whl (t:Ex) (b:List Stm)
 | ret (e:Ex) | cnt | no
noncomputable def sOp:VY->S2
 | .Add=>JV
 | .Sub=>BF λi j => .int (i - j)
 | .Mult=>JW
 | .FloorDiv=>FN PM λi j => .int (i / j)
 | .Mod=>FN (λ_ j=>0<j) λi j => .int (i % j)
 | .Pow=>FN PN λi j => .int (i ^ j.toNat)
 | _=>λ_ _ _ _=>False
noncomputable def Ae:CmpOp->S2
 | .Eq=>sEq
 | .NotEq=>sNe
 | .Lt=>BF λi j => .bl (decide (i<j))
 | .LtE=>BF λi j => .bl (decide (i<=j))
 | .Gt=>BF λi j => .bl (decide (j<i))
 | .GtE=>BF λi j => .bl (decide (j<=i))
 | .In=>sIn false
 | .NotIn=>sIn true
 | .Is=>JY false
 | .IsNot=>JY true
noncomputable def OK:SV->Sto->Option Bool
 | .bl b,_=>some b
 | .loc k,S=>match S[k]? with | some (.lst xs)=>some (!xs.isEmpty) | _=>none
 | _,_=>none
noncomputable def OL(w:WE):WT:=λρ S Q=>w ρ S λx S'=>∃ b,OK x S'=some b/\Q b S'
noncomputable def Jm(a b:WE):WE:=λρ S Q=>a ρ S λx S1=>∃ c,x = .bl c/\if c=true then b ρ S1 Q else Q (.bl false) S1
noncomputable def wOr(a b:WE):WE:=λρ S Q=>a ρ S λx S1=>∃ c,x = .bl c/\if c=true then Q (.bl true) S1 else b ρ S1 Q
noncomputable def M5(a:WE):WE:=λρ S Q=>a ρ S λx S1=>∃ c,x = .bl c/\Q (.bl (!c)) S1
noncomputable def CA(a b:WT):WT:=λρ S Q=>a ρ S λc S1=>if c=true then b ρ S1 Q else Q false S1
noncomputable def FQ(a b:WT):WT:=λρ S Q=>a ρ S λc S1=>if c=true then Q true S1 else b ρ S1 Q
noncomputable def GZ(a:WT):WT:=λρ S Q=>a ρ S λc S1=>Q (!c) S1
noncomputable def Jn(s s':S2)(a b c:WE):WE:=λρ S Q=>a ρ S λx S1=>b ρ S1 λy S2=>s x y S2 λz S3=>∃ k,z = .bl k/\if k=true then c ρ S3 λu S4=>s' y u S4 Q else Q (.bl false) S3
noncomputable abbrev WO:=EnvS->Sto->(Option Int->Sto->Prop)->Prop
noncomputable def OM:WO:=λ_ S Q=>Q none S
noncomputable def Jo(w:WE):WO:=λρ S Q=>w ρ S λx S1=>∃ i,x = .int i/\Q (some i) S1
noncomputable def BJ(xs:List SV)(lo hi:Option Int):List SV:=(xs.drop (HT.sIx xs.length 0 lo)).take (HT.sIx xs.length xs.length hi - HT.sIx xs.length 0 lo)
noncomputable def Jp:SV->Option Int->Option Int->Sto->QE->Prop
 | .loc k,lo,hi,S,Q=>∃ xs,S[k]?=some (.lst xs)/\Q (.loc S.length) (S++[.lst (BJ xs lo hi)])
 | .tup xs,lo,hi,S,Q=>Q (.tup (BJ xs lo hi)) S
 | _,_,_,_,_=>False
noncomputable def ON(a:WE)(lo hi:WO):WE:=λρ S Q=>a ρ S λx S1=>lo ρ S1 λl S2=>hi ρ S2 λh S3=>Jp x l h S3 Q
noncomputable abbrev WI:=EnvS->Sto->((Sto->Prop)->List SV->Sto->Prop)->Prop
noncomputable def Ap:SV->Sto->Sto->Prop
 | .loc k,S,S'=>S'[k]?=S[k]?
 | _,_,_=>True
noncomputable def N2(w:WE):WI:=λρ S R=>w ρ S λx S1=>∃ xs,AN x S1=some xs/\R (Ap x S1) xs S1
noncomputable def Az(lo hi:Int):List SV:=(Qy (hi - lo).toNat).map λ(i:Nat) => .int (lo+i)
noncomputable def Jq(w:WE):WI:=λρ S R=>w ρ S λx S1=>∃ j,x = .int j/\(-(2 ^ 62)<=j/\j<2 ^ 62)/\R (λ_=>True) (Az 0 j) S1
noncomputable def Jr(w u:WE):WI:=λρ S R=>w ρ S λx S1=>u ρ S1 λy S2=>∃ i j,x = .int i/\y = .int j/\(-(2 ^ 62)<=i/\i<2 ^ 62 /\ -(2 ^ 62)<=j/\j<2 ^ 62)/\R (λ_=>True) (Az i j) S2
noncomputable def CB(xs:List SV):List SV:=(Qy xs.length).zipWith (λ(i:Nat) x => .tup [.int i,x]) xs
noncomputable def Js(w:WE):WI:=λρ S R=>w ρ S λx S1=>∃ xs,AN x S1=some xs/\R (Ap x S1) (CB xs) S1
noncomputable def E5(xs ys:List SV):List SV:=xs.zipWith (λx y => .tup [x,y]) ys
noncomputable def FR(a:WE):WE:=λρ S Q=>a ρ S λx S1=>∃ j,x = .int j/\(-(2 ^ 62)<=j/\j<=100000)/\Q (.loc S1.length) (S1++[.lst (Az 0 j)])
noncomputable def Jt(a:WE):WE:=λρ S Q=>a ρ S λx S1=>∃ k ns,x = .loc k/\S1[k]?=some (.lst (ns.map SV.int))/\0<ns.length/\∀ m,Grt ns m->Q (.int m) S1
noncomputable def DO(a:WE):WE:=λρ S Q=>a ρ S λx S1=>∃ xs ns,x ≠ .tup xs/\AN x S1=some xs/\DH xs=some ns/\ns.length<=900/\Q (.int (t5 ns).length) S1
noncomputable def Ju(a:WE):WE:=λρ S Q=>a ρ S λx S1=>∃ xs ns,AN x S1=some xs/\DH xs=some ns/\ns.length<=900/\Q (.loc S1.length) (S1++[.iset (t5 ns)])
noncomputable def Bo(kvs:List (Int×SV))(i:Int):Option SV:=(kvs.find? λp=>decide (p.1=i)).map (·.2)
noncomputable def CC(kvs:List (Int×SV))(i:Int)(x:SV):List (Int×SV):=if (kvs.any λp=>decide (p.1=i))=true then kvs.map (λp=>if p.1=i then (p.1,x) else p) else kvs++[(i,x)]
noncomputable def CD:SV->Sto->Option (List (Int×SV))
 | .loc k,S=>match S[k]? with | some (.dct kvs)=>some kvs | some (.dcf _ _ kvs)=>some kvs | _=>none
 | _,_=>none
noncomputable def Hx(neg:Bool):S2:=λy x S Q=>∃ kvs i,CD x S=some kvs/\y = .int i/\Q (.bl (if neg then !(Bo kvs i).isSome else (Bo kvs i).isSome)) S
noncomputable def E6:S2:=λx y S Q=>∃ xs,x = .tup xs/\y = .tup []/\Q (.bl xs.isEmpty) S
noncomputable def FS(a:WE):WE:=λρ S Q=>a ρ S λx S1=>∃ kvs,CD x S1=some kvs/\Q (.loc S1.length) (S1++[.lst (kvs.map (·.2))])
noncomputable def FT(a:WE):WE:=λρ S Q=>a ρ S λx S1=>∃ kvs,CD x S1=some kvs/\Q (.loc S1.length) (S1++[.dct kvs])
noncomputable def Jv(a:WE):WE:=λρ S Q=>a ρ S λx S1=>∃ k xs,x = .loc k/\S1[k]?=some (.lst xs)/\xs.length<64/\(∀ v∈xs,∃ i j:Int,v = .tup [.int i,.int j])/\∀ ys,ys.Perm xs->Q (.loc S1.length) (S1++[.lst ys])
noncomputable def N3(w:WE):WI:=λρ S R=>w ρ S λx S1=>∃ k kvs,x = .loc k/\S1[k]?=some (.dct kvs)/\∀ o ks,R (λS'=>S'[k]?=some (.dcf o ks kvs)) (kvs.map λp => .tup [.int p.1,p.2]) (S1.set k (.dcf o ks kvs))
noncomputable def Jw(a b:WE):WI:=λρ S R=>a ρ S λx S1=>b ρ S1 λy S2=>∃ k xs ys,x = .loc k/\S2[k]?=some (.lst xs)/\y = .tup ys/\xs.length=ys.length/\R (Ap x S2) (E5 xs ys) S2
noncomputable def Jx:WE:=λ_ S Q=>Q (.loc S.length) (S++[.dct []])
noncomputable def Ga:SV->SV->SV->Sto->(Sto->Prop)->Prop:=λx y v S Q=>∃ k i kvs,x = .loc k/\y = .int i/\(S[k]?=some (.dct kvs)\/∃ o ks,S[k]?=some (.dcf o ks kvs))/\kvs.length<big/\Q (S.set k (.dct (CC kvs i v)))
noncomputable def wMt(m:MT)(a:WE)(b:WA):WE:=λρ S Q=>a ρ S λx S1=>(∃ k xs,x = .loc k/\S1[k]?=some (.lst xs))/\b ρ S1 λxs S2=>sMt m x xs S2 Q
mutual
noncomputable def wTg:Tg->SV->EnvS->(EnvS->Prop)->Prop
 | .nm i,x,ρ,Q=>Q (ρ.set i (some x))
 | .tup ts,.tup xs,ρ,Q=>AE ts xs ρ Q
 | .tup _,_,_,_=>False
noncomputable def AE:Tgs->List SV->EnvS->(EnvS->Prop)->Prop
 | .nil,[],ρ,Q=>Q ρ
 | .cons t ts,x::xs,ρ,Q=>wTg t x ρ λρ'=>AE ts xs ρ' Q
 | _,_,_,_=>False
end
noncomputable def E7(k:Nat)(js:List Nat)(ρ:EnvS):EnvS:=RA k none++js.map λj=>(ρ[j]?).join
noncomputable def j9(keep:Sto->Prop)(g:Tg)(t:WT)(e:WE)(ρ:EnvS)(Q:List SV->Sto->Prop):List SV->List SV->Sto->Prop
 | [],ys,S=>keep S/\Q ys S
 | x::xs,ys,S=>keep S/\wTg g x ρ λρ2=>t ρ2 S λb S1=>if b=true then e ρ2 S1 λy S2=>ys.length<big/\j9 keep g t e ρ Q xs (ys++[y]) S2 else j9 keep g t e ρ Q xs ys S1
noncomputable def Gb(k:Nat)(js:List Nat)(g:Tg)(i:WI)(t:WT)(e:WE):WE:=λρ S Q=>i ρ S λkeep xs S1=>j9 keep g t e (E7 k js ρ) (λys S2=>Q (.loc S2.length) (S2++[.lst ys])) xs [] S1
noncomputable def tt1(w:WE):WE×WT:=(w,OL w)
noncomputable def wBl(w:WE):WT:=λρ S Q=>w ρ S λx S'=>∃ b,x = .bl b/\Q b S'
noncomputable def tt2(w:WE):WE×WT:=(w,wBl w)
noncomputable def Pz:WT:=λ_ S Q=>Q true S
mutual
noncomputable def wEx(Δ:Nat->Sn):Ex->WE×WT
 | .var i=>tt1 (O0 i)
 | .c x=>tt1 (wC x)
 | .op o a b=>tt1 (w2 (sOp o) (wEx Δ a).1 (wEx Δ b).1)
 | .cmp o a b=>tt2 (w2 (Ae o) (wEx Δ a).1 (wEx Δ b).1)
 | .chn o p a b c=>tt2 (Jn (Ae o) (Ae p) (wEx Δ a).1 (wEx Δ b).1 (wEx Δ c).1)
 | .and a b=>(Jm (wEx Δ a).1 (wEx Δ b).1,CA (wEx Δ a).2 (wEx Δ b).2)
 | .or a b=>(wOr (wEx Δ a).1 (wEx Δ b).1,FQ (wEx Δ a).2 (wEx Δ b).2)
 | .not a=>(M5 (wEx Δ a).1,GZ (wEx Δ a).2)
 | .tup es=>tt1 (wn Lp (DP Δ es))
 | .lst es=>tt1 (wn Lr (DP Δ es))
 | .ix a b=>tt1 (w2 sIx (wEx Δ a).1 (wEx Δ b).1)
 | .slc a lo hi=>tt1 (ON (wEx Δ a).1 (wEo Δ lo).1 (wEo Δ hi).1)
 | .call f es=>tt1 (wn (Δ f) (DP Δ es))
 | .bi b es=>tt1 (wn (sBi b) (DP Δ es))
 | .mt m a es=>tt1 (wMt m (wEx Δ a).1 (DP Δ es))
 | .comp own _ js g it t e=>tt1 (Gb own.length js g (M6 Δ it) (wEo Δ t).2 (wEx Δ e).1)
 | .tyc t=>tt1 (wC (.ty t))
 | .lrng1 a=>tt1 (FR (wEx Δ a).1)
 | .max1 a=>tt1 (Jt (wEx Δ a).1)
 | .dvals a=>tt1 (FS (wEx Δ a).1)
 | .dcopy a=>tt1 (FT (wEx Δ a).1)
 | .srtp a=>tt1 (Jv (wEx Δ a).1)
 | .lenset a=>tt1 (DO (wEx Δ a).1)
 | .setl a=>tt1 (Ju (wEx Δ a).1)
 | .eqt0 a b=>tt2 (w2 E6 (wEx Δ a).1 (wEx Δ b).1)
 | .dnew=>tt1 Jx
 | .din n a b=>tt2 (w2 (Hx n) (wEx Δ a).1 (wEx Δ b).1)
 | .no=>(λ_ _ _=>False,λ_ _ _=>False)
noncomputable def DP(Δ:Nat->Sn):Exs->WA
 | .nil=>Cs
 | .cons e es=>C8 (wEx Δ e).1 (DP Δ es)
noncomputable def wEo(Δ:Nat->Sn):Eo->WO×WT
 | .no=>(OM,Pz)
 | .yes e=>(Jo (wEx Δ e).1,(wEx Δ e).2)
noncomputable def M6(Δ:Nat->Sn):Itb->WI
 | .seq e=>N2 (wEx Δ e).1
 | .rng1 a=>Jq (wEx Δ a).1
 | .rng2 a b=>Jr (wEx Δ a).1 (wEx Δ b).1
 | .enum e=>Js (wEx Δ e).1
 | .itm e=>N3 (wEx Δ e).1
 | .zipE a b=>Jw (wEx Δ a).1 (wEx Δ b).1
end
structure EndsS where
 nx:EnvS->Sto->Prop
 rt:SV->Sto->Prop
 bk:EnvS->Sto->Prop:=λ_ _=>False
 ct:EnvS->Sto->Prop:=λ_ _=>False
noncomputable abbrev WS:=EndsS->EnvS->Sto->Prop
noncomputable def Hy:SV->SV->SV->Sto->(Sto->Prop)->Prop
 | .loc k,.int i,v,S,Q=>∃ xs j,S[k]?=some (.lst xs)/\ixN xs.length i=some j/\Q (S.set k (.lst (xs.set j v)))
 | _,_,_,_,_=>False
noncomputable def t6(keep:Sto->Prop)(g:Tg)(b:WS)(D:EndsS):List SV->EnvS->Sto->Prop
 | [],ρ,S=>keep S/\D.nx ρ S
 | x::xs,ρ,S=>keep S/\wTg g x ρ λρ2=>b {D with nx:=t6 keep g b D xs,ct:=t6 keep g b D xs,bk:=D.nx} ρ2 S
noncomputable def OO(t:WT)(b:WS):WS:=λD ρ S=>∃ W:Nat->EnvS->Sto->Prop,(∃ m,W m ρ S)/\∀ m ρ S,W m ρ S->t ρ S λc S1=>if c=true then
 b {D with nx:=λρ' S'=>∃ m',m'<m/\W m' ρ' S',ct:=λρ' S'=>∃ m',m'<m/\W m' ρ' S',bk:=D.nx} ρ S1 else D.nx ρ S1
mutual
noncomputable def wSt(Δ:Nat->Sn):Stm->WS
 | .asg t e=>λD ρ S=>(wEx Δ e).1 ρ S λx S1=>wTg t x ρ λρ'=>D.nx ρ' S1
 | .put o i e=>λD ρ S=>(wEx Δ e).1 ρ S λv S1=>(wEx Δ o).1 ρ S1 λx S2=>(wEx Δ i).1 ρ S2 λy S3=>Hy x y v S3 λS4=>D.nx ρ S4
 | .dput o i e=>λD ρ S=>(wEx Δ e).1 ρ S λv S1=>(wEx Δ o).1 ρ S1 λx S2=>(wEx Δ i).1 ρ S2 λy S3=>Ga x y v S3 λS4=>D.nx ρ S4
 | .expr e=>λD ρ S=>(wEx Δ e).1 ρ S λ_ S1=>D.nx ρ S1
 | .iff t a b=>λD ρ S=>(wEx Δ t).2 ρ S λc S1=>if c=true then wSs Δ a D ρ S1 else wSs Δ b D ρ S1
 | .loop g it b=>λD ρ S=>M6 Δ it ρ S λkeep xs S1=>t6 keep g (wSs Δ b) D xs ρ S1
 | .whl t b=>OO (wEx Δ t).2 (wSs Δ b)
 | .ret e=>λD ρ S=>(wEx Δ e).1 ρ S D.rt
 | .cnt=>λD ρ S=>D.ct ρ S
 | .no=>λ_ _ _=>False
noncomputable def wSs(Δ:Nat->Sn):List Stm->WS
 | []=>λD ρ S=>D.nx ρ S
 | s::ss=>λD ρ S=>wSt Δ s {D with nx:=wSs Δ ss D} ρ S
end
theorem n0{α:Type}{P:Prop}{x:α}(h:(none:Option α)=some x):P:=nomatch h
noncomputable def E8(scope sc:Ug):Ug:={scope with names:=scope.names.map λ(n,k)=>if (k == .free&&sc.kind == .function&&sc.names.lookup n == some .cell) then (n,.cell) else (n,k)}
noncomputable def c9:Expr->Bool
 | .Starred ..=>false
 | _=>true
theorem f7{e:Expr}{es:List Expr}{env:Env}(h:c9 e=true):Ue (e::es) env=(false,eval e env)::Ue es env:=by
 cases e<;>first | rfl | cases h
theorem BK{env:Env}{pos:Pos}:∀{es:List Expr},es.all c9=true->(backTo pos (Ue es env)).any (·.1)=false
 | [],_=>rfl
 | e::es,h=>by
   rw[Re,Qp]at h;rw[f7 h.1];exact BK (es:=es) h.2
theorem Cu{env:Env}{pos:Pos}:∀{es:List Expr},es.all c9=true->(backTo pos (Ue es env)).all (λx=>!x.1)=true
 | [],_=>rfl
 | e::es,h=>by
   rw[Re,Qp]at h;rw[f7 h.1];exact Cu (es:=es) h.2
noncomputable def glo(sc:Ug)(x:Str):Bool:=sc.names.lookup x == some .globalImplicit&&!(x == ("__name__":Str))&&!(x == ("__debug__":Str))
noncomputable def vis(sc:Ug)(x:Str):Bool:=sc.names.lookup x == some .local||sc.names.lookup x == some .cell||sc.names.lookup x == some .free
noncomputable def loc(sc:Ug)(x:Str):Bool:=sc.names.lookup x == some .local||sc.names.lookup x == some .cell
noncomputable def OP:SV->Const->Bool
 | .non,.none=>true
 | .bl a,.bool b=>a == b
 | .int i,.int j=>decide (i=j)
 | .str x,.str y=>decide (x=y)
 | _,_=>false
noncomputable def AV:Expr->Bool
 | .Slice ..=>false
 | _=>true
noncomputable def t8:Expr->Bool
 | .Set ..=>false
 | _=>true
noncomputable def Jy:Expr->Bool
 | .UnaryOp .Not _ _=>false
 | .BoolOp ..=>false
 | .IfExp ..=>false
 | .Compare ..=>false
 | _=>true
noncomputable def y6:Expr->Bool
 | .Call (.Name _ _) [] [] _=>false
 | _=>true
noncomputable def Cv:Expr->Option Str
 | .Name x _=>some x
 | _=>none
noncomputable def Jz:Expr->Option Const
 | .Constant k _ _=>some k
 | _=>none
noncomputable def Q0:Expr->Option (Expr×VY×Expr)
 | .BinOp a o b _=>some (a,o,b)
 | _=>none
noncomputable def vUn:Expr->Option (UnaryOp×Expr)
 | .UnaryOp o a _=>some (o,a)
 | _=>none
noncomputable def K0:Expr->Option (Expr×List CmpOp×List Expr)
 | .Compare a os bs _=>some (a,os,bs)
 | _=>none
noncomputable def K1:Expr->Option (BoolOp×List Expr×Pos)
 | .BoolOp o vs p=>some (o,vs,p)
 | _=>none
noncomputable def Cc:Expr->Option (List Expr)
 | .Tuple es _ _=>some es
 | _=>none
noncomputable def Q1:Expr->Option (List Expr)
 | .List es _=>some es
 | _=>none
noncomputable def K2:Expr->Option (Expr×Expr)
 | .Subscript a b _=>some (a,b)
 | _=>none
noncomputable def Q2:Expr->Option (Option Expr×Option Expr×Option Expr)
 | .Slice l h s _=>some (l,h,s)
 | _=>none
noncomputable def E9:Expr->Option (Expr×List Expr×List Keyword)
 | .Call f as ks _=>some (f,as,ks)
 | _=>none
noncomputable def FU:Expr->Nat
 | .Call _ _ _ p=>p.line
 | _=>0
noncomputable def K3:Expr->Option (Expr×Str×Nat)
 | .Attribute o n p=>some (o,n,p.endLine)
 | _=>none
noncomputable def K4:Expr->Option (Expr×List Comprehension×Ug)
 | .ListComp e gs s _=>some (e,gs,s)
 | _=>none
noncomputable def N4:Expr->Option (List (Option Expr)×List Expr)
 | .Dict ks vs _=>some (ks,vs)
 | _=>none
theorem K5{r:Expr}{x:List (Option Expr)×List Expr}(h:N4 r=some x):∃ p,r = .Dict x.1 x.2 p:=by cases r<;>first | (cases h;exact⟨_,rfl⟩) | exact n0 h
theorem BL{r:Expr}{x:Str}(h:Cv r=some x):∃ p,r = .Name x p:=by cases r<;>first | (cases h;exact⟨_,rfl⟩) | exact n0 h
theorem Hz{r:Expr}{x:Const}(h:Jz r=some x):∃ j p,r = .Constant x j p:=by cases r<;>first | (cases h;exact⟨_,_,rfl⟩) | exact n0 h
theorem M7{r:Expr}{x:Expr×VY×Expr}(h:Q0 r=some x):∃ p,r = .BinOp x.1 x.2.1 x.2.2 p:=by cases r<;>first | (cases h;exact⟨_,rfl⟩) | exact n0 h
theorem OQ{r:Expr}{x:UnaryOp×Expr}(h:vUn r=some x):∃ p,r = .UnaryOp x.1 x.2 p:=by cases r<;>first | (cases h;exact⟨_,rfl⟩) | exact n0 h
theorem Br{r:Expr}{x:Expr×List CmpOp×List Expr}(h:K0 r=some x):∃ p,r = .Compare x.1 x.2.1 x.2.2 p:=by cases r<;>first | (cases h;exact⟨_,rfl⟩) | exact n0 h
theorem EA{r:Expr}{x:BoolOp×List Expr×Pos}(h:K1 r=some x):r = .BoolOp x.1 x.2.1 x.2.2:=by cases r<;>first | (cases h;exact rfl) | exact n0 h
theorem Au{r:Expr}{x:List Expr}(h:Cc r=some x):∃ j p,r = .Tuple x j p:=by cases r<;>first | (cases h;exact⟨_,_,rfl⟩) | exact n0 h
theorem M8{r:Expr}{x:List Expr}(h:Q1 r=some x):∃ p,r = .List x p:=by cases r<;>first | (cases h;exact⟨_,rfl⟩) | exact n0 h
theorem Bs{r:Expr}{x:Expr×Expr}(h:K2 r=some x):∃ p,r = .Subscript x.1 x.2 p:=by cases r<;>first | (cases h;exact⟨_,rfl⟩) | exact n0 h
theorem M9{r:Expr}{x:Option Expr×Option Expr×Option Expr}(h:Q2 r=some x):∃ p,r = .Slice x.1 x.2.1 x.2.2 p:=by cases r<;>first | (cases h;exact⟨_,rfl⟩) | exact n0 h
theorem EB{r:Expr}{x:Expr×List Expr×List Keyword}(h:E9 r=some x):∃ p,r = .Call x.1 x.2.1 x.2.2 p/\FU r=p.line:=by cases r<;>first | (cases h;exact⟨_,rfl,rfl⟩) | exact n0 h
theorem K6{r:Expr}{x:Expr×Str×Nat}(h:K3 r=some x):∃ p,r = .Attribute x.1 x.2.1 p/\x.2.2=p.endLine:=by cases r<;>first | (cases h;exact⟨_,rfl,rfl⟩) | exact n0 h
theorem EC{r:Expr}{x:Expr×List Comprehension×Ug}(h:K4 r=some x):∃ p,r = .ListComp x.1 x.2.1 x.2.2 p:=by cases r<;>first | (cases h;exact⟨_,rfl⟩) | exact n0 h
theorem c6{α:Type}{o:Option α}{p:α->Bool}(h:o.any p=true):∃ x,o=some x/\p x=true:=by
 cases o with
 | none=>cases h
 | some x=>exact⟨x,rfl,h⟩
theorem AH{α:Type}{l:List α}{x:α}(h:l.head?=some x):l=x::l.tail:=by
 cases l with
 | nil=>cases h
 | cons y r=>cases h;rfl
noncomputable def l1{α:Type}:List α->Option α
 | [x]=>some x
 | _=>none
noncomputable def l2{α:Type}:List α->Option (α×α)
 | [x,y]=>some (x,y)
 | _=>none
theorem m7{α:Type}{l:List α}{x:α}(h:l1 l=some x):l=[x]:=by
 match l,h with
 | [y],h=>cases h;rfl
theorem K7{α:Type}{l:List α}{x:α×α}(h:l2 l=some x):l=[x.1,x.2]:=by
 match l,h with
 | [y,z],h=>cases h;rfl
noncomputable def l3{α:Type}:List α->Option (α×α×α)
 | [x,y,z]=>some (x,y,z)
 | _=>none
noncomputable def vFn(r:Expr):Option (Str×List Expr):=(E9 r).bind λc=>if c.2.2.isEmpty then (Cv c.1).map λx=>(x,c.2.1) else none
theorem p4{r:Expr}{x:Str×List Expr}(h:vFn r=some x):∃ p q,r = .Call (.Name x.1 p) x.2 [] q:=by
 unfold vFn at h;cases hc:E9 r with
 | none=>rw[hc]at h;cases h
 | some c=>
   rw[hc]at h;obtain⟨q,e,_⟩:=EB hc;simp only[TH]at h;by_cases hk:c.2.2.isEmpty=true
   ·rw[iP hk]at h;cases hn:Cv c.1 with
    | none=>rw[hn]at h;cases h
    | some y=>
      rw[hn]at h;cases h;obtain⟨p,ep⟩:=BL hn;rw[e,ep,RO.mp hk];exact⟨p,q,rfl⟩
   ·rw[iG hk]at h;cases h
noncomputable def vMt(r:Expr):Option (Expr×Str×List Expr):=(E9 r).bind λc=>if c.2.2.isEmpty then (K3 c.1).bind λa=>if a.2.2 == FU r then some (a.1,a.2.1,c.2.1) else none else none
theorem FV{r:Expr}{x:Expr×Str×List Expr}(h:vMt r=some x):∃ ap cp,r = .Call (.Attribute x.1 x.2.1 ap) x.2.2 [] cp/\(ap.endLine == cp.line)=true:=by
 unfold vMt at h;cases hc:E9 r with
 | none=>rw[hc]at h;cases h
 | some c=>
   rw[hc]at h;obtain⟨q,e,el⟩:=EB hc;simp only[TH]at h;by_cases hk:c.2.2.isEmpty=true
   ·rw[iP hk]at h;cases hn:K3 c.1 with
    | none=>rw[hn]at h;cases h
    | some y=>
      rw[hn]at h;simp only[TH]at h;obtain⟨p,ep,el2⟩:=K6 hn;by_cases hl:(y.2.2 == FU r)=true
      ·rw[iP hl]at h;cases h;refine⟨p,q,?_,?_⟩
       ·rw[e,ep,RO.mp hk]
       ·rw[<-el2,<-el];exact hl
      ·rw[iG hl]at h;cases h
   ·rw[iG hk]at h;cases h
mutual
noncomputable def Aq(k:Nat)(N:List Str)(sc:Ug):Tg->Expr->Bool
 | .nm i,r=>(Cv r).any λx=>decide (i<k)&&decide (N[i]?=some x)&&loc sc x
 | .tup ts,r=>(Cc r).any λes=>A9 k N sc ts es
noncomputable def A9(k:Nat)(N:List Str)(sc:Ug):Tgs->List Expr->Bool
 | .nil,r=>r.isEmpty
 | .cons t ts,r=>(r.head?).any λe=>Aq k N sc t e&&c9 e&&A9 k N sc ts r.tail
end
noncomputable def nmB(N:List Str)(sc:Ug)(i:Nat)(x:Str):Bool:=decide (N[i]?=some x)&&vis sc x&&!(x == ("__debug__":Str))&&!(x == ("__classdict__":Str))
mutual
noncomputable def i3(T:List Str)(N:List Str)(sc:Ug):Ex->Expr->Bool
 | .var i,r=>(Cv r).any λx=>nmB N sc i x
 | .c x,r=>(Jz r).any λk=>OP x k
 | .op o a b,r=>(Q0 r).any λv=>decide (o=v.2.1)&&i3 T N sc a v.1&&i3 T N sc b v.2.2
 | .cmp o a b,r=>(K0 r).any λv=>(l1 v.2.2).any λrb=>decide (v.2.1=[o])&&i3 T N sc a v.1&&i3 T N sc b rb&&t8 rb
 | .chn o p a b c,r=>(K0 r).any λv=>(l2 v.2.2).any λrs=>decide (v.2.1=[o,p])&&i3 T N sc a v.1&&i3 T N sc b rs.1&&i3 T N sc c rs.2&&t8 rs.2
 | .and a b,r=>(K1 r).any λv=>decide (v.1 = .And)&&(v.2.1.head?).any λx=>i3 T N sc a x&&(match l1 v.2.1.tail with | some y=>i3 T N sc b y | none=>decide (2<=v.2.1.tail.length)&&i3 T N sc b (.BoolOp .And v.2.1.tail v.2.2))
 | .or a b,r=>(K1 r).any λv=>decide (v.1 = .Or)&&(v.2.1.head?).any λx=>i3 T N sc a x&&(match l1 v.2.1.tail with | some y=>i3 T N sc b y | none=>decide (2<=v.2.1.tail.length)&&i3 T N sc b (.BoolOp .Or v.2.1.tail v.2.2))
 | .not a,r=>(vUn r).any λv=>decide (v.1 = .Not)&&i3 T N sc a v.2
 | .tup es,r=>(Cc r).any λrs=>AW T N sc es rs
 | .lst es,r=>(Q1 r).any λrs=>AW T N sc es rs
 | .ix a b,r=>(K2 r).any λv=>i3 T N sc a v.1&&i3 T N sc b v.2&&AV v.2
 | .slc a lo hi,r=>(K2 r).any λv=>(Q2 v.2).any λs=>i3 T N sc a v.1&&K8 T N sc lo s.1&&K8 T N sc hi s.2.1&&s.2.2.isNone
 | .call f es,r=>(vFn r).any λv=>decide (T[f]?=some v.1)&&glo sc v.1&&AW T N sc es v.2&&!v.2.isEmpty
 | .bi b es,r=>(vFn r).any λv=>decide (b.name=v.1)&&glo sc v.1&&AW T N sc es v.2&&!v.2.isEmpty
 | .mt m a es,r=>(vMt r).any λv=>decide (v.2.1=m.name)&&y6 v.1&&decide (v.2.2.length<29)&&i3 T N sc a v.1&&AW T N sc es v.2.2
 | .comp own cn js g it t e,r=>(K4 r).any λv=>(l1 v.2.1).any λc=>decide (c.is_async=0)&&v0 sc v.2.2 own cn N js&&Aq own.length (own++cn) (E8 v.2.2 sc) g c.target&&MA T N sc it c.target c.iter&&t8 c.iter&&ED T (own++cn) (E8 v.2.2 sc) t c.ifs&&i3 T (own++cn) (E8 v.2.2 sc) e v.1
 | .tyc t,r=>(Cv r).any λx=>decide (x=Str.ofString t.nm)&&glo sc x&&decide (t ≠ .none)
 | .lrng1 a,r=>(vFn r).any λv=>(l1 v.2).any λz=>(vFn z).any λu=>(l1 u.2).any λra=>decide (v.1=("list":Str))&&decide (u.1=("range":Str))&&glo sc v.1&&glo sc u.1&&i3 T N sc a ra&&c9 ra
 | .max1 a,r=>(vFn r).any λv=>(l1 v.2).any λra=>decide (v.1=("max":Str))&&glo sc v.1&&i3 T N sc a ra&&c9 ra
 | .dvals a,r=>(vFn r).any λv=>(l1 v.2).any λz=>(vMt z).any λu=>decide (v.1=("list":Str))&&glo sc v.1&&decide (u.2.1=("values":Str))&&u.2.2.isEmpty&&y6 u.1&&i3 T N sc a u.1
 | .dcopy a,r=>(vFn r).any λv=>(l1 v.2).any λra=>decide (v.1=("dict":Str))&&glo sc v.1&&i3 T N sc a ra&&c9 ra
 | .srtp a,r=>(vFn r).any λv=>(l1 v.2).any λra=>decide (v.1=("sorted":Str))&&glo sc v.1&&i3 T N sc a ra&&c9 ra
 | .lenset a,r=>(vFn r).any λv=>(l1 v.2).any λz=>(vFn z).any λu=>(l1 u.2).any λra=>decide (v.1=("len":Str))&&decide (u.1=("set":Str))&&glo sc v.1&&glo sc u.1&&i3 T N sc a ra&&c9 ra
 | .setl a,r=>(vFn r).any λv=>(l1 v.2).any λra=>decide (v.1=("set":Str))&&glo sc v.1&&i3 T N sc a ra&&c9 ra
 | .eqt0 a b,r=>(K0 r).any λv=>(l1 v.2.2).any λrb=>decide (v.2.1=[.Eq])&&i3 T N sc a v.1&&i3 T N sc b rb&&t8 rb
 | .dnew,r=>(N4 r).any λv=>v.1.isEmpty&&v.2.isEmpty
 | .din n a b,r=>(K0 r).any λv=>(l1 v.2.2).any λrb=>decide (v.2.1=[if n then .NotIn else .In])&&i3 T N sc a v.1&&i3 T N sc b rb&&t8 rb
 | .no,_=>true
noncomputable def AW(T:List Str)(N:List Str)(sc:Ug):Exs->List Expr->Bool
 | .nil,r=>r.isEmpty
 | .cons e es,r=>(r.head?).any λx=>i3 T N sc e x&&c9 x&&AW T N sc es r.tail
noncomputable def K8(T:List Str)(N:List Str)(sc:Ug):Eo->Option Expr->Bool
 | .no,r=>r.isNone
 | .yes e,r=>r.any λx=>i3 T N sc e x
noncomputable def ED(T:List Str)(N:List Str)(sc:Ug):Eo->List Expr->Bool
 | .no,r=>r.isEmpty
 | .yes e,r=>(l1 r).any λx=>i3 T N sc e x
noncomputable def MA(T:List Str)(N:List Str)(sc:Ug):Itb->Expr->Expr->Bool
 | .seq e,_,r=>i3 T N sc e r
 | .rng1 a,_,r=>(vFn r).any λv=>(l1 v.2).any λra=>decide (v.1=("range":Str))&&glo sc v.1&&i3 T N sc a ra&&c9 ra
 | .rng2 a b,_,r=>(vFn r).any λv=>(l2 v.2).any λra=>decide (v.1=("range":Str))&&glo sc v.1&&i3 T N sc a ra.1&&c9 ra.1&&i3 T N sc b ra.2&&c9 ra.2
 | .enum e,tg,r=>(Cc tg).isSome&&(vFn r).any λv=>(l1 v.2).any λa=>decide (v.1=("enumerate":Str))&&glo sc v.1&&i3 T N sc e a&&c9 a
 | .itm e,tg,r=>(Cc tg).isSome&&(vMt r).any λu=>decide (u.2.1=("items":Str))&&u.2.2.isEmpty&&y6 u.1&&i3 T N sc e u.1
 | .zipE a b,tg,r=>(Cc tg).isSome&&(vFn r).any λv=>(l2 v.2).any λra=>decide (v.1=("zip":Str))&&glo sc v.1&&i3 T N sc a ra.1&&c9 ra.1&&i3 T N sc b ra.2&&c9 ra.2
end
noncomputable def spS(K:Qo)(w:Sn):Sp:=λvs H Q _=>∃ as S xs,Ok K as H S/\RlAll K as H vs xs/\w xs S (Post K as H Q)
structure Cal(P:Ua)(w:Ud)(K:Qo)(mg:Str->Option UT)(base:Heap)(k:Nat)(x:Str)(ps:List Str)(sp:Sp):Prop where
 ex:∃ f fd,FnOk P w K mg base CX0 k f fd ps sp/\mg x=some (.ref f)/\PySem.W.keepIn K (.ref f)=true/\Binds K fd ps []
structure Cok(T:List Str)(Δ:Nat->Sn)(X:Cx)(k:Nat)(N:List Str)(sc:Ug):Prop where
 hN:X.N=N
 hs:X.env.scope=sc
 nd:N.Nodup
 calm:X.calm=true
 fn:∀ i x,i<k->N[i]?=some x->sc.names.lookup x=some .cell->X.fn x=true
 un:X.A.units+102<cLine
 bl:∀ b:BI,X.mg b.name=none
 rng:X.mg "range"=none
 enm:X.mg "enumerate"=none
 rvs:X.mg "reversed"=none
 zip:X.mg "zip"=none
 st0:X.mg "set"=none
 dc0:X.mg "dict"=none
 ty:∀ t:TyN,t ≠ .none->X.mg (Str.ofString t.nm)=none
 gd:X.A.guards=some []
 call:∀ f x,T[f]?=some x->∃ k ps,Cal X.prog X.w X.K X.mg X.base k x ps (spS X.K (Δ f))/\Room k X.A
 mono:∀ f,MonoN (Δ f)
structure Good(X:Cx)(r:Expr)(w:WE×WT):Prop where
 pe:PE X r (lift X.K w.1)
 pt:PT X r (liftT X.K w.2)
 m:Mono w.1
 mt:MonoT w.2
 pw:∀ op vs p,r = .BoolOp op vs p->PW X r (liftT X.K w.2)
section
variable{X:Cx}{r:Expr}{w:WE}
theorem MonoT.tru(m:Mono w):MonoT (OL w):=λρ S P P' i h=>m _ _ _ _ (λx S' ⟨b,e,q⟩=>⟨b,e,i _ _ q⟩) h
theorem MonoT.bl(m:Mono w):MonoT (wBl w):=λρ S P P' i h=>m _ _ _ _ (λx S' ⟨b,e,q⟩=>⟨b,e,i _ _ q⟩) h
theorem OR{K:Qo}{as:List UV}{H:Hp}{S:Sto}{x:SV}{v:V}{b:Bool}(ok:Ok K as H S)(r:Rl K as H v x)(e:OK x S=some b):LP K v H b:=by
 cases x with
 | bl c=>cases e;rw[rl_bl.mp r];exact rfl
 | loc k=>
   unfold OK at e;cases hs:S[k]? with
   | none=>simp only[hs]at e;cases e
   | some o=>
     cases o with
     | lst xs=>
       simp only[hs]at e;cases e;obtain⟨a,vs,rfl,_,ha,rr⟩:=j8 ok r hs;refine .inl ⟨vs,SqL.of ha,?_⟩;have:=rr.length;cases vs<;>cases xs<;>first | rfl | (simp at this)
     | iset _=>simp only[hs]at e;cases e
     | dct _=>simp only[hs]at e;cases e
     | dcf _ _ _=>simp only[hs]at e;cases e
 | _=>cases e
theorem Cd{env:Env}(h:Jy r=true):∀ whole,isTrue r env whole=(do let v <- whole;standAt r.pos;holding [v] (truthy v)):=by
 intro whole;cases r<;>first | rfl | (cases h;done) | (rename_i o _ _;cases o<;>first | rfl | cases h)
theorem MB{K:Qo}(m:Mono w):∀ σ H Q,liftT K (OL w) σ H Q->lift K w σ H λx H'=>∃ k,LP K x H' k/\Q k H':=by
 rintro σ H Q ⟨as,ρ,S,ok,en,h⟩;exact⟨as,ρ,S,ok,en,m _ _ _ _ (λx S' ⟨b,e,q⟩ as' H' v g ok' r=>⟨b,OR ok' r e,q as' H' g ok'⟩) h⟩
theorem CF{K:Qo}(m:Mono w):∀ σ H Q,liftT K (wBl w) σ H Q->lift K w σ H λx H'=>∃ k,x = .bl k/\Q k H':=by
 rintro σ H Q ⟨as,ρ,S,ok,en,h⟩;exact⟨as,ρ,S,ok,en,m _ _ _ _ (λx S' ⟨b,e,q⟩ as' H' v g ok' r=>⟨b,by subst e;exact rl_bl.mp r,q as' H' g ok'⟩) h⟩
theorem Good.one(hp:PE X r (lift X.K w))(m:Mono w)(h:Jy r=true):Good X r (tt1 w) where
 pe:=hp
 pt:=B7 _ (Ir hp (Cd h)) (MB m)
 m:=m
 mt := .tru m
 pw:=λop vs p e=>by rw[e]at h;cases h
theorem K9{X:Cx}{r:Expr}:PE X r (lift X.K λ_ _ _=>False):=λ_ _ _ _ _ _ h=>let ⟨_,_,_,_,_,z⟩:=h;z.elim
theorem KA{X:Cx}{r:Expr}:PT X r (liftT X.K λ_ _ _=>False):=λ_ _ _ _ _ _ h=>let ⟨_,_,_,_,_,z⟩:=h;z.elim
theorem KB{X:Cx}{r:Expr}:PW X r (liftT X.K λ_ _ _=>False):=λ_ _ _ _ _ _ _ h=>let ⟨_,_,_,_,_,z⟩:=h;z.elim
theorem Good.never:Good X r (λ_ _ _=>False,λ_ _ _=>False):=⟨K9,KA,λ_ _ _ _ _ h=>h,λ_ _ _ _ _ h=>h,λ_ _ _ _=>KB⟩
end
theorem Gc{o:VY}:Mono2 (sOp o):=by
 unfold sOp;split<;>first | exact .add | exact .int0 | exact .mul | exact .int | exact λ_ _ _ _ _ _ h=>h
theorem v8{o:CmpOp}:Mono2 (Ae o):=by
 unfold Ae;split<;>first | exact .eq | exact .ne | exact .int0 | exact .in' | exact .isN
section
variable{X:Cx}
theorem KC{o:VY}{ra rb:Expr}{p:Pos}{wa wb:WE}(ha:PE X ra (lift X.K wa))(hb:PE X rb (lift X.K wb))(ma:Mono wa)(mb:Mono wb):PE X (.BinOp ra o rb p) (lift X.K (w2 (sOp o) wa wb)):=by
 have go:∀{s:S2} {rr:R2},Mono2 s->OpR X (Uv o) rr->Am X.K s rr->PE X (.BinOp ra o rb p) (lift X.K (w2 s wa wb)):=λms ho sim=>g0 _ (PK ho ha hb) (v6 sim ms ma mb);have no:PE X (.BinOp ra o rb p) (lift X.K (w2 (λ_ _ _ _=>False) wa wb)):=go (λ_ _ _ _ _ _ h=>h) (rr:=λ_ _ _ _=>False) (λ_ _ _ _ _ _ _ _ _ _ _ _ h=>h.elim) (λ_ _ _ _ _ _ _ _ _ _ _ h=>h);cases o with
 | Add=>exact go .add Lw Lx
 | Sub=>exact go .int0 NZ (Ao λ_ _ _ _=>rl_int.mpr rfl)
 | Mult=>exact go .mul (op_mul.or Nn) Ly
 | FloorDiv=>exact go .int LO (DG λ_ _ _ _=>rl_int.mpr rfl)
 | Mod=>exact go .int Na (DG λ_ _ _ _=>rl_int.mpr rfl)
 | Pow=>exact go .int Nb (DG λ_ _ _ _=>rl_int.mpr rfl)
 | _=>exact no
theorem CG(o:CmpOp)(hu:X.A.units<cLine):∃ rr:R2,OpR X (Ui o) rr/\Am X.K (Ae o) rr:=by
 cases o with
 | Eq=>exact⟨_,op_eq.or (Nr hu),OC⟩
 | NotEq=>exact⟨_,op_ne.or (Nt hu),OD⟩
 | Lt=>exact⟨_,PP,Ao λ_ _ _ _=>rl_bl.mpr rfl⟩
 | LtE=>exact⟨_,PR,Ao λ_ _ _ _=>rl_bl.mpr rfl⟩
 | Gt=>exact⟨_,PU,Ao λ_ _ _ _=>rl_bl.mpr rfl⟩
 | GtE=>exact⟨_,PV,Ao λ_ _ _ _=>rl_bl.mpr rfl⟩
 | Is=>exact⟨_,Nd,M0⟩
 | IsNot=>exact⟨_,op_notN.or Hm,Jb⟩
 | In=>exact⟨_,OF,Ja⟩
 | NotIn=>exact⟨_,Hu,Ja⟩
theorem u7{o:CmpOp}{r:Expr}(h:t8 r=true):VO o r=false:=by
 cases r<;>first | rfl | cases h
theorem I0{o:CmpOp}{ra rb:Expr}{p:Pos}{wa wb:WE}(hu:X.A.units<cLine)(ha:PE X ra (lift X.K wa))(hb:PE X rb (lift X.K wb))(ma:Mono wa)(mb:Mono wb)(hn:t8 rb=true):Good X (.Compare ra [o] [rb] p) (tt2 (w2 (Ae o) wa wb)):=by
 obtain⟨rr,ho,sim⟩:=CG (X:=X) o hu;have m:Mono (w2 (Ae o) wa wb) := .two v8 ma mb
 exact{pe:=g0 _ (GC ho ha hb (u7 hn)) (v6 sim v8 ma mb)
       pt:=B7 _ (GD ho ha hb (u7 hn)) λσ H Q h=>v6 sim v8 ma mb σ H _ (CF m σ H Q h)
       m:=m
       mt := .bl m
       pw:=λ_ _ _ e=>by cases e}
theorem EF{o p:CmpOp}{a b c:WE}(ma:Mono a)(mb:Mono b)(mc:Mono c):Mono (Jn (Ae o) (Ae p) a b c):=λρ S P P' i h=>ma _ _ _ _ (λx S1 h=>mb _ _ _ _ (λy S2 h=>v8 _ _ _ _ _ (λz S3 ⟨k,e,q⟩=>⟨k,e,by
 cases k with
 | true=>rw[iP rfl]at q ⊢;exact mc _ _ _ _ (λu S4 h=>v8 _ _ _ _ _ i h) q
 | false=>rw[iG Qz]at q ⊢;exact i _ _ q⟩) h) h) h
theorem Ge{K:Qo}{o p:CmpOp}{r r':R2}{a b c:WE}(s1:Am K (Ae o) r)(s2:Am K (Ae p) r')(ma:Mono a)(mb:Mono b)(mc:Mono c):∀ σ H Q,lift K (Jn (Ae o) (Ae p) a b c) σ H Q->F6 r r' (lift K a) (lift K b) (lift K c) σ H Q:=by
 rintro σ H Q ⟨as,ρ,S,ok,en,h⟩;refine⟨as,ρ,S,ok,en,ma _ _ _ _ (λx S1 h as1 H1 v g1 ok1 rv=>?_) h⟩;refine⟨as1,ρ,S1,ok1,en.mono g1.pre (g1.ku ok),mb _ _ _ _ (λy S2 h as2 H2 u g2 ok2 ru=>?_) h⟩;refine s1 as2 H2 S2 x y v u _ ok2 (Rl.mono g2.pre (g2.ku ok1) x v rv) ru (v8 _ _ _ _ _ (λz S3 ⟨k,e,q⟩ as3 H3 t g3 ok3 rt=>?_) h);subst e;refine⟨k,rl_bl.mp rt,?_⟩;cases k with
 | true=>
   rw[iP rfl]at q ⊢;refine⟨as3,ρ,S3,ok3,(en.mono g1.pre (g1.ku ok)).mono (g2.trans g3).pre ((g2.trans g3).ku ok1),mc _ _ _ _ (λn S4 h as4 H4 m g4 ok4 rm=>?_) q⟩;exact s2 as4 H4 S4 y n u m Q ok4 (Rl.mono (g3.trans g4).pre ((g3.trans g4).ku ok2) y u ru) rm (v8 _ _ _ _ _ (λf S5 hf=>hf.mono (((g1.trans g2).trans g3).trans g4)) h)
 | false=>
   rw[iG Qz]at q ⊢;exact q as3 H3 _ ((g1.trans g2).trans g3) ok3 (rl_bl.mpr rfl)
theorem IA{o q:CmpOp}{ra rb rc:Expr}{p:Pos}{wa wb wc:WE}(hu:X.A.units<cLine)(ha:PE X ra (lift X.K wa))(hb:PE X rb (lift X.K wb))(hc:PE X rc (lift X.K wc))(ma:Mono wa)(mb:Mono wb)(mc:Mono wc)(hn:t8 rc=true):Good X (.Compare ra [o,q] [rb,rc] p) (tt2 (Jn (Ae o) (Ae q) wa wb wc)):=by
 obtain⟨r1,ho,sim⟩:=CG (X:=X) o hu;obtain⟨r2,hq,sim2⟩:=CG (X:=X) q hu;have m:Mono (Jn (Ae o) (Ae q) wa wb wc):=EF ma mb mc;have hm:Wf [o,q] [rb,rc]=false:=u7 hn
 exact{pe:=g0 _ (Ip ho hq ha hb hc hm) (Ge sim sim2 ma mb mc)
       pt:=B7 _ (Iq ho hq ha hb hc hm) λσ H Q h=>Ge sim sim2 ma mb mc σ H _ (CF m σ H Q h)
       m:=m
       mt := .bl m
       pw:=λ_ _ _ e=>by cases e}
end
section
variable{K:Qo}
theorem j7{c:Bool}{A B A' B':Prop}(ha:A->A')(hb:B->B')(h:if c=true then A else B):if c=true then A' else B':=by
 cases c with
 | true=>rw[iP rfl]at h ⊢;exact ha h
 | false=>rw[iG Qz]at h ⊢;exact hb h
theorem Mono.and{a b:WE}(ma:Mono a)(mb:Mono b):Mono (Jm a b):=λρ S P P' i h=>ma _ _ _ _ (λx S1 ⟨c,e,q⟩=>⟨c,e,j7 (mb _ _ _ _ i) (i _ _) q⟩) h
theorem Mono.or{a b:WE}(ma:Mono a)(mb:Mono b):Mono (wOr a b):=λρ S P P' i h=>ma _ _ _ _ (λx S1 ⟨c,e,q⟩=>⟨c,e,j7 (i _ _) (mb _ _ _ _ i) q⟩) h
theorem Mono.not{a:WE}(ma:Mono a):Mono (M5 a):=λρ S P P' i h=>ma _ _ _ _ (λx S1 ⟨c,e,q⟩=>⟨c,e,i _ _ q⟩) h
theorem MonoT.and{a b:WT}(ma:MonoT a)(mb:MonoT b):MonoT (CA a b):=λρ S P P' i h=>ma _ _ _ _ (λx S1 q=>j7 (mb _ _ _ _ i) (i _ _) q) h
theorem MonoT.or{a b:WT}(ma:MonoT a)(mb:MonoT b):MonoT (FQ a b):=λρ S P P' i h=>ma _ _ _ _ (λx S1 q=>j7 (i _ _) (mb _ _ _ _ i) q) h
theorem MonoT.not{a:WT}(ma:MonoT a):MonoT (GZ a):=λρ S P P' i h=>ma _ _ _ _ (λx S1 q=>i _ _ q) h
theorem Post.at{as as1:List UV}{H H1:Hp}{Q:VK}{x:SV}{S:Sto}{v:V}(h:Post K as H Q x S)(g:Go as H as1 H1)(ok:Ok K as1 H1 S)(r:Rl K as1 H1 v x):Q v H1:=h as1 H1 v g ok r
theorem Gf{a b:WE}(ma:Mono a)(mb:Mono b):∀ σ H Q,lift K (Jm a b) σ H Q->Mo (lift K a) (lift K b) σ H Q:=by
 rintro σ H Q ⟨as,ρ,S,ok,en,h⟩;refine⟨as,ρ,S,ok,en,ma _ _ _ _ (λx S1 ⟨c,e,q⟩ as1 H1 v g1 ok1 rv=>?_) h⟩;subst e;refine⟨c,rl_bl.mp rv,j7 (λq=>?_) (λq=>q.at g1 ok1 (rl_bl.mpr rfl)) q⟩;exact⟨as1,ρ,S1,ok1,en.mono g1.pre (g1.ku ok),mb _ _ _ _ (λy S2 h=>h.mono g1) q⟩
theorem KD{a b:WE}(ma:Mono a)(mb:Mono b):∀ σ H Q,lift K (wOr a b) σ H Q->P3 (lift K a) (lift K b) σ H Q:=by
 rintro σ H Q ⟨as,ρ,S,ok,en,h⟩;refine⟨as,ρ,S,ok,en,ma _ _ _ _ (λx S1 ⟨c,e,q⟩ as1 H1 v g1 ok1 rv=>?_) h⟩;subst e;refine⟨c,rl_bl.mp rv,j7 (λq=>q.at g1 ok1 (rl_bl.mpr rfl)) (λq=>?_) q⟩;exact⟨as1,ρ,S1,ok1,en.mono g1.pre (g1.ku ok),mb _ _ _ _ (λy S2 h=>h.mono g1) q⟩
theorem MC{a:WE}(ma:Mono a):∀ σ H Q,lift K (M5 a) σ H Q->Mp (lift K a) σ H Q:=by
 rintro σ H Q ⟨as,ρ,S,ok,en,h⟩;refine⟨as,ρ,S,ok,en,ma _ _ _ _ (λx S1 ⟨c,e,q⟩ as1 H1 v g1 ok1 rv=>?_) h⟩;subst e;exact⟨c,rl_bl.mp rv,q.at g1 ok1 (rl_bl.mpr rfl)⟩
theorem PostT.mono{as as1:List UV}{H H1:Hp}{Q:Bool->Hp->Prop}{x:Bool}{S:Sto}(h:PostT K as H Q x S)(g:Go as H as1 H1):PostT K as1 H1 Q x S:=λas' H' g'=>h as' H' (g.trans g')
theorem EG{a b:WT}(ma:MonoT a)(mb:MonoT b):∀ σ H Q,liftT K (CA a b) σ H Q->Oz (liftT K a) (liftT K b) σ H Q:=by
 rintro σ H Q ⟨as,ρ,S,ok,en,h⟩;refine⟨as,ρ,S,ok,en,ma _ _ _ _ (λc S1 q as1 H1 g1 ok1=>?_) h⟩;refine j7 (λq=>?_) (λq=>q as1 H1 g1 ok1) q;exact⟨as1,ρ,S1,ok1,en.mono g1.pre (g1.ku ok),mb _ _ _ _ (λy S2 h=>h.mono g1) q⟩
theorem Gg{a b:WT}(ma:MonoT a)(mb:MonoT b):∀ σ H Q,liftT K (FQ a b) σ H Q->tOr (liftT K a) (liftT K b) σ H Q:=by
 rintro σ H Q ⟨as,ρ,S,ok,en,h⟩;refine⟨as,ρ,S,ok,en,ma _ _ _ _ (λc S1 q as1 H1 g1 ok1=>?_) h⟩;refine j7 (λq=>q as1 H1 g1 ok1) (λq=>?_) q;exact⟨as1,ρ,S1,ok1,en.mono g1.pre (g1.ku ok),mb _ _ _ _ (λy S2 h=>h.mono g1) q⟩
theorem KF{a:WT}(ma:MonoT a):∀ σ H Q,liftT K (GZ a) σ H Q->P0 (liftT K a) σ H Q:=by
 rintro σ H Q ⟨as,ρ,S,ok,en,h⟩;exact⟨as,ρ,S,ok,en,ma _ _ _ _ (λc S1 q as1 H1 g1 ok1=>q as1 H1 g1 ok1) h⟩
end
section
variable{X:Cx}
theorem DQ{e:Expr}{t:TT}(t':TT)(h:PW X e t)(imp:∀ σ H Q,t' σ H Q->t σ H Q):PW X e t':=λwh pq s σ H Q I hw=>h wh pq s σ H Q I (imp σ H Q hw)
theorem FW{x y:Expr}{p:Pos}{a b:WE×WT}(ha:Good X x a)(hb:Good X y b):Good X (.BoolOp .And [x,y] p) (Jm a.1 b.1,CA a.2 b.2):=
 have pw:PW X (.BoolOp .And [x,y] p) (liftT X.K (CA a.2 b.2)):=DQ _ (Id ha.pt (LI hb.pt)) (EG ha.mt hb.mt)
 {pe:=g0 _ (Ig ha.pe (Ie hb.pe)) (Gf ha.m hb.m),pt:=pw.pt,m := .and ha.m hb.m,mt := .and ha.mt hb.mt,pw:=λ_ _ _ _=>pw}
theorem FX{x y z:Expr}{zs:List Expr}{p:Pos}{a b:WE×WT}(ha:Good X x a)(hb:Good X (.BoolOp .And (y::z::zs) p) b):Good X (.BoolOp .And (x::y::z::zs) p) (Jm a.1 b.1,CA a.2 b.2):=
 have pw:PW X (.BoolOp .And (x::y::z::zs) p) (liftT X.K (CA a.2 b.2)):=DQ _ (Id ha.pt (hb.pw _ _ _ rfl)) (EG ha.mt hb.mt)
 {pe:=g0 _ (Ig ha.pe hb.pe) (Gf ha.m hb.m),pt:=pw.pt,m := .and ha.m hb.m,mt := .and ha.mt hb.mt,pw:=λ_ _ _ _=>pw}
theorem IB{x y:Expr}{p:Pos}{a b:WE×WT}(ha:Good X x a)(hb:Good X y b):Good X (.BoolOp .Or [x,y] p) (wOr a.1 b.1,FQ a.2 b.2):=
 have pw:PW X (.BoolOp .Or [x,y] p) (liftT X.K (FQ a.2 b.2)):=DQ _ (Mn ha.pt (NP hb.pt)) (Gg ha.mt hb.mt)
 {pe:=g0 _ (Mq ha.pe (Ie hb.pe)) (KD ha.m hb.m),pt:=pw.pt,m := .or ha.m hb.m,mt := .or ha.mt hb.mt,pw:=λ_ _ _ _=>pw}
theorem IC{x y z:Expr}{zs:List Expr}{p:Pos}{a b:WE×WT}(ha:Good X x a)(hb:Good X (.BoolOp .Or (y::z::zs) p) b):Good X (.BoolOp .Or (x::y::z::zs) p) (wOr a.1 b.1,FQ a.2 b.2):=
 have pw:PW X (.BoolOp .Or (x::y::z::zs) p) (liftT X.K (FQ a.2 b.2)):=DQ _ (Mn ha.pt (hb.pw _ _ _ rfl)) (Gg ha.mt hb.mt)
 {pe:=g0 _ (Mq ha.pe hb.pe) (KD ha.m hb.m),pt:=pw.pt,m := .or ha.m hb.m,mt := .or ha.mt hb.mt,pw:=λ_ _ _ _=>pw}
theorem ID{x:Expr}{p:Pos}{a:WE×WT}(ha:Good X x a):Good X (.UnaryOp .Not x p) (M5 a.1,GZ a.2) where
 pe:=g0 _ (NR ha.pe) (MC ha.m)
 pt:=B7 _ (NQ ha.pt) (KF ha.mt)
 m := .not ha.m
 mt := .not ha.mt
 pw:=λ_ _ _ e=>by cases e
theorem OS{i:Nat}{x:Str}{p:Pos}{N:List Str}{sc:Ug}{T:List Str}{Δ:Nat->Sn}{k:Nat}(C:Cok T Δ X k N sc)(hi:N[i]?=some x)(hv:vis sc x=true)(h1:(x == ("__debug__":Str))=false)(h2:(x == ("__classdict__":Str))=false):PE X (.Name x p) (LF i):=by
 have hv':Vis X.env.scope x:=by
  rw[C.hs];unfold vis at hv;simp only[RU,bQ]at hv;rcases hv with(hv | hv) | hv
  ·exact .inl hv
  ·exact .inr (.inl hv)
  ·exact .inr (.inr hv)
 exact NL (i:=i) (by rw[C.hN];exact hi) hv' h1 h2
theorem MD{x:SV}{k:Const}{j:Nat}{p:Pos}(h:OP x k=true):Good X (.Constant k j p) (tt1 (wC x)):=by
 refine .one ?_ .c rfl;unfold OP at h;split at h
 ·exact g0 _ NN (E1 λ_ _=>rl_non.mpr rfl)
 ·rw[bQ]at h;subst h;exact g0 _ Oy (E1 λ_ _=>rl_bl.mpr rfl)
 ·have h:=of_decide_eq_true h;subst h;exact g0 _ NM (E1 λ_ _=>rl_int.mpr rfl)
 ·have h:=of_decide_eq_true h;subst h;exact g0 _ NO (E1 λ_ _=>rl_str.mpr rfl)
 ·cases h
theorem FY{b:Expr}(h:AV b=true):GJ b:=λo i=>by cases b<;>first | rfl | cases h
theorem KG{x y:Expr}{p:Pos}{a b:WE×WT}(ha:Good X x a)(hb:Good X y b)(h:AV y=true):Good X (.Subscript x y p) (tt1 (w2 sIx a.1 b.1)):=
 .one (g0 _ (Pc (ix_list.or Nk) ha.pe hb.pe (FY h)) (v6 OG .ix ha.m hb.m)) (.two .ix ha.m hb.m) rfl
noncomputable def Q3(K:Qo)(as:List UV)(H:Hp)(Q:Option Int->Hp->Prop):Option Int->Sto->Prop:=λb S'=>∀ as' H',Go as H as' H'->Ok K as' H' S'->Q b H'
noncomputable def EH(K:Qo)(w:WO):St->Hp->(Option Int->Hp->Prop)->Prop:=λσ H Q=>∃ as ρ S,Ok K as H S/\EnvOk K as H σ ρ/\w ρ S (Q3 K as H Q)
noncomputable def MonoO(w:WO):Prop:=∀ ρ S (P P':Option Int->Sto->Prop),(∀ x S',P x S'->P' x S')->w ρ S P->w ρ S P'
theorem MonoO.no:MonoO OM:=λ_ _ _ _ i h=>i _ _ h
theorem MonoO.yes{w:WE}(m:Mono w):MonoO (Jo w):=λ_ _ _ _ i h=>m _ _ _ _ (λx S1 ⟨k,e,q⟩=>⟨k,e,i _ _ q⟩) h
theorem Q4:PO X none (EH X.K OM):=λpq s σ H Q I ⟨as,ρ,S,ok,en,h⟩=>LS pq s σ H Q I (h as H (Go.refl _ _) ok)
theorem OT{x:Expr}{a:WE×WT}(ha:Good X x a):PO X (some x) (EH X.K (Jo a.1)):=λpq s σ H Q I ⟨as,ρ,S,ok,en,h⟩=>
 LU ha.pe pq s σ H Q I ⟨as,ρ,S,ok,en,ha.m _ _ _ _ (λy S1 ⟨k,e,q⟩ as1 H1 v g1 ok1 rv=>⟨k,by subst e;exact rl_int.mp rv,q as1 H1 g1 ok1⟩) h⟩
theorem RlAll.cut{K:Qo}{as:List UV}{H:Hp}{xs:List SV}{vs:List V}(h:RlAll K as H vs xs)(lo hi:Option Int):RlAll K as H (Dt vs lo hi) (BJ xs lo hi):=by
 unfold Dt BJ;rw[h.length];exact(h.drop _).take _
theorem CH{x:SV}{lo hi:Option Int}{S:Sto}{P P':QE}(i:∀ x S',P x S'->P' x S')(h:Jp x lo hi S P):Jp x lo hi S P':=by
 unfold Jp at h ⊢;split at h
 ·obtain⟨xs,a,b⟩:=h;exact⟨xs,a,i _ _ b⟩
 ·exact i _ _ h
 ·exact h.elim
theorem ME{K:Qo}{as:List UV}{H:Hp}{S:Sto}{Q:VK}{x:SV}{v:V}{l k:Option Int}(ok:Ok K as H S)(r:Rl K as H v x)(h:Jp x l k S (Post K as H Q)):Pf K v l k H Q\/Pb K v l k H Q\/Pn K v l k H Q:=by
 cases x with
 | loc j=>
   obtain⟨xs,h1,h2⟩:=h;obtain⟨b,vs,rfl,_,hb,rr⟩:=j8 ok r h1;exact .inl ⟨b,vs,rfl,SqL.of hb,A7 ok (rr.cut l k) h2⟩
 | tup xs=>
   obtain⟨b,vs,rfl,hb,rr⟩:=rl_tup.mp r;by_cases hw:HT.sIx vs.length 0 l=0/\HT.sIx vs.length vs.length k=vs.length
   ·refine .inr (.inr ⟨b,vs,rfl,SqT.of hb,hw,?_⟩)
    have e:BJ xs l k=xs:=by
     unfold BJ;rw[<-rr.length,hw.1,hw.2,rr.length];simp
    have h':Post K as H Q (.tup (BJ xs l k)) S:=h;rw[e]at h';exact h'.here ok r
   ·exact .inr (.inl ⟨b,vs,rfl,SqT.of hb,hw,An ok (rr.cut l k) h⟩)
 | _=>exact False.elim h
theorem IE{x:Expr}{rl rh:Option Expr}{p p2:Pos}{a:WE×WT}{lo hi:WO}(ha:Good X x a)(hl:PO X rl (EH X.K lo))(hh:PO X rh (EH X.K hi))(ml:MonoO lo)(mh:MonoO hi):Good X (.Subscript x (.Slice rl rh none p2) p) (tt1 (ON a.1 lo hi)):=by
 refine .one (g0 _ (Iw (sl_list.or (sl_tup.or Lk)) ha.pe hl hh) ?_) (λρ S P P' i h=>ha.m _ _ _ _ (λx S1 h=>ml _ _ _ _ (λl S2 h=>mh _ _ _ _ (λk S3 h=>CH i h) h) h) h) rfl;rintro σ H Q ⟨as,ρ,S,ok,en,h⟩;refine⟨as,ρ,S,ok,en,ha.m _ _ _ _ (λx S1 h as1 H1 v g1 ok1 rv=>?_) h⟩;refine⟨as1,ρ,S1,ok1,en.mono g1.pre (g1.ku ok),ml _ _ _ _ (λl S2 h as2 H2 g2 ok2=>?_) h⟩;refine⟨as2,ρ,S2,ok2,(en.mono g1.pre (g1.ku ok)).mono g2.pre (g2.ku ok1),mh _ _ _ _ (λk S3 h as3 H3 g3 ok3=>?_) h⟩;have rv3:=Rl.mono (g2.trans g3).pre ((g2.trans g3).ku ok1) x v rv;have g:=(g1.trans g2).trans g3;exact ME ok3 rv3 (CH (λ_ _ h=>h.mono g) h)
end
end Rf
namespace L2
open PySem PySem.Spec PyProof.Rows
section
variable{prog:Ua}{w:Ud}{A:Uj}{R:Result->UU->Prop}{I:UV}{fp wr:List UV}{G:Array Vl->Array Vl->Prop}{n:Nat}{P:Nat->UT->Prop}{St:Nat->UU->Prop}
noncomputable def TupsAt(prog:Ua)(w:Ud)(h:Heap)(n:Nat)(ta:Nat->UV)(kv:Nat->Key×UT):Prop:=∀ i,i<n->∃ key,(g9 prog w).is (kv i).1 key=true/\h.IsTuple (ta i) #[key,(kv i).2]
theorem TupsAt.keep{h h':Heap}{ta:Nat->UV}{kv:Nat->Key×UT}(t:TupsAt prog w h n ta kv)(k:∀ i o,i<n->h.get? (ta i)=some o->h'.get? (ta i)=some o):TupsAt prog w h' n ta kv:=λi hi=>by
 obtain⟨key,hk,o,ho,r⟩:=t i hi;exact⟨key,hk,o,k i o hi ho,r⟩
end
noncomputable def Kpt(hb h:Heap):Prop:=∀ b o,hb.get? b=some o->h.get? b=some o
theorem MF{hb h:Heap}{a:UV}{g:Obj->Obj}(z:hb.get? a=none)(K:Kpt hb h):Kpt hb (h.update a g):=λb o q=>
 ((Rk.update h a g).2 b λe=>by rw[e,z]at q;cases q).trans (K b o q)
theorem KH{n:Nat}(h:n<64):n<=UY:=by rw[Vm];omega
section
variable{prog:Ua}{w:Ud}{A:Uj}{E:UT->UU->Prop}{s:UU}{vs:List UT}
theorem EI{hb h:Heap}{o:Obj}(K:Kpt hb h):Kpt hb (h.push o):=λb _ q=>Qq _ (K b _ q)
noncomputable abbrev Two(h:Heap)(vs:List UT):Heap:=((h.push (seqObj "list" #[] 0)).update h.objs.size (Obj.mapSeq λz=>z++vs.toArray)).push (seqObj "list" vs.toArray 0)
end
theorem IF{out its:List UT}(p:out.Perm its):∀{ws:List V},Vals ws its->∃ ws',Vals ws' out/\ws'.Perm ws:=by
 induction p with
 | nil=>exact λ{ws} r=>⟨ws,r,.refl _⟩
 | cons x _ ih=>
   intro ws r;cases r with
   | cons r rr=>
     obtain⟨ws',r',p'⟩:=ih rr;exact⟨_::ws',.cons r r',.cons _ p'⟩
 | swap x y l=>
   intro ws r;cases r with
   | cons r rr=>
     cases rr with
     | cons r2 rr2=>exact⟨_::_::_,.cons r2 (.cons r rr2),.swap ..⟩
 | trans _ _ ih1 ih2=>
   intro ws r;obtain⟨w2,r2,p2⟩:=ih2 r;obtain⟨w1,r1,p1⟩:=ih1 r2;exact⟨w1,r1,p1.trans p2⟩
theorem KV.at{κ:Type}{ks:List (κ×V)}{vs:List (κ×UT)}(r:KV ks vs):∀{i:Nat} {p:κ×V},ks[i]?=some p->∃ v,vs[i]?=some (p.1,v)/\RelV p.2 v:=by
 intro i
 induction r generalizing i with
 | nil=>exact λh=>by simp at h
 | @cons a b _ _ h _ ih=>
   intro p hp;cases i with
   | zero=>cases hp;exact⟨b.2,by rw[h.1];rfl,h.2⟩
   | succ i=>exact ih hp
noncomputable def Iti(d:UV)(o:Obj)(ks:List (Key×V)):It:=
 ⟨λi H=>i<ks.length/\H d=some (.frz o (.dK ks)),λi H x H'=>∃(q:UV) (p:Key×V),H q=none/\x = .ref q/\ks[i]?=some p/\H'=upd H q (.tup [kV p.1,p.2]),λi H=>ks.length<=i/\H d=some (.frz o (.dK ks))⟩
theorem MG{P:Ua}{w:Ud}{K:Qo}{elts:List Expr}{kx:Nat}{tp:Pos}(it d:UV)(o:Obj)(ks:List (Key×V)){es0:Array Wg}{ep:Nat}(hd:o.data = .dict es0 ep):Turn P w K (.Tuple elts kx tp) (Iti d o ks) [it] it (λi h=>∃ ok ov,IsItemIter h it d i ks.length ep ok ov) where
 mem:=Qu.mpr rfl
 obj:=λi h st b hb=>by
  obtain⟨ok,ov,z⟩:=st;rw[Qu.mp hb];exact⟨_,z,λv q=>by cases q⟩
 keep:=λi h h' st k=>by
  obtain⟨ok,ov,z⟩:=st;exact⟨ok,ov,k it (Qu.mpr rfl) _ z⟩
 item:=by
  intro X hP hw hK hc i pq s σ H E I hf st hg;subst hP hw hK;obtain⟨ok,ov,hit⟩:=st;obtain⟨vs,kv,dm⟩:=Ji hd I.hok hg.2;have hl:ks.length=vs.length:=kv.length;have hk:=R4 hg.1;generalize ks[i]'hg.1=p at hk;obtain⟨u,hu,ru⟩:=KV.at kv hk;have hlt:it<s.heap.objs.size:=Qw hit;refine wpAny_pyNext_items_item (by rw[<-hl];exact hit) dm hu λkey h' hkey hout hT hsz kp=>⟨_,rfl,?_⟩
  have I1:Inv X pq σ (upd H s.heap.objs.size (.tup [kV p.1,p.2])) {s with heap:=h'}:=
   I.turnLay (t':=s.toks) (ch:=[it]) (λb o hb q=>kp b o (λz=>hb (Qu.mpr z)) q) hf ⟨DB,[key,u],.cons (Py hkey) (.cons ru .nil),⟨_,hT,rfl,_,rfl⟩⟩
  have hfp:∀ b∈[it],FpOk X pq (upd H s.heap.objs.size (.tup [kV p.1,p.2])) b:=λb hb=>by
   obtain⟨f0,f1⟩:=hf b hb;exact⟨by rw[e6 (by rw[Qu.mp hb];exact R5 hlt)];exact f0,f1⟩
  refine wpAny_letOwnedTupleGo_items hout λh2 he2 hs2=>?_
  have I2:Inv X pq σ (upd H s.heap.objs.size (.tup [kV p.1,p.2])) {s with heap:=h2}:=
   Inv.turnedL (s:={s with heap:=h'}) (t':=s.toks) (ch:=[it]) I1 (λb o hb q=>(hs2.2 b (λz=>hb (Qu.mpr z))).trans q) hfp
  exact⟨.ref s.heap.objs.size,_,I2,rfl,⟨_,_,I.fresh,rfl,hk,rfl⟩,⟨_,_,by rw[hl];exact he2⟩,λb hb=>(hfp b hb).1⟩
 done:=by
   intro X hP hw hK hc i pq s σ H E I hf st hg;subst hP hw hK;obtain⟨ok,ov,hit⟩:=st;obtain⟨vs,kv,dm⟩:=Ji hd I.hok hg.2;have hl:ks.length=vs.length:=kv.length;exact wpAny_pyNext_items_end (I.ok.hd hc) (by rw[<-hl];exact hit) dm (List.getElem?_eq_none (by rw[<-hl];exact hg.1)) λh' eb=>⟨rfl,I.turnedL (t':=s.toks) (ch:=[it]) (λb o hb q=>eb b o (λz=>hb (Qu.mpr z)) q) hf⟩
 self:=λ_ _ _ _ _ st h=>by
  obtain⟨ok,ov,hit⟩:=st;exact PySem.W.kcp_self hit h
section
variable{X:Cx}{o:Expr}{apos cpos pos p:Pos}{td:TE}
noncomputable def OU(td:TE):TI:=λσ H R=>td σ H λx H1=>∃ a ks,x = .ref a/\((H1 a=some (.dK ks)/\∀ o,R (Iti a o ks) (upd H1 a (.frz o (.dK ks))))\/∃ o,H1 a=some (.frz o (.dK ks))/\R (Iti a o ks) H1)
theorem KI{elts:List Expr}{kx:Nat}{tp:Pos}(ho:PE X o td)(hbase:VD o "items" X.env (eval o X.env)=eval o X.env:=by rfl)(hline:(apos.endLine == cpos.line)=true:=by rfl):
 PI X (.Tuple elts kx tp) (.Call (.Attribute o "items" apos) [] [] cpos) (OU td):=by
 intro pq s σ H R I h;refine VI hbase hline (thn (ho pq s σ H _ I h) λv s1 ⟨x,H1,I1,r1,a,ks,e,q⟩=>?_);subst e;cases r1
 have go:∀(H2:Hp) (ob:Obj),Inv X pq σ H2 s1->H2 a=some (.frz ob (.dK ks))->R (Iti a ob ks) H2->MethodOn X.prog X.w X.A "items" cpos (.ref a) [] (λv s1=>UX (UZ X.prog X.w) X.A (pyIter v) (PIE X pq σ (.Tuple elts kx tp) R) X.xe s1) X.xe s1:=λH2 ob I2 e2 q=>by
  obtain⟨hob,len,nsys,vs,kv,o',es,ep,ho',ex,dat,keys,prs,nd⟩:=(show ObjOk X.prog X.w H2 s1.heap a (.frz ob (.dK ks)) from I2.hok a _ e2)
  rw[hob]at ho';cases ho';have hl:ks.length=vs.length:=kv.length;refine⟨"dict","dict.items",PySem.F.plainAttrs_dict,PySem.F.slot_dict_items,PySem.F.type_dict_items,⟨ob,hob,ex.1⟩,λb eb=>by cases eb;exact⟨ob,hob,ex.2.1⟩,Calls.callWith_builtin rfl (PySem.evalArgs_none ?_)⟩;refine call_meetsIn PySem.F.slot_dict_items ⟨ob,hob,ex.1⟩ PySem.F.entry_dict_items (PySem.F.args_dict_items_1 _) (meets_dict_items (g9 X.prog X.w) a nsys) ⟨⟨vs,ob,es,ep,hob,ex,dat,keys,prs,nd⟩,?_⟩;have I3:Inv X pq σ H2 {s1 with heap:=s1.heap.push {cls := .type "dict_items",data := .fields #[.ref a]}}:=I2.kept (t':=s1.toks) λb ob q=>Qq _ q;refine wpAny_pyIter_items ⟨_,Qx _ rfl,rfl,rfl⟩ (⟨ob,es,Qq _ hob,ex,dat,keys,prs,nd⟩:UQ (g9 X.prog X.w) _ a vs ep) ?_;refine⟨_,[_],_,_,_,rfl,I3.kept (t':=s1.toks) λb o e=>Qq _ e,MG _ a ob ks dat,⟨_,_,by rw[hl];exact Qx _ rfl⟩,λb hb=>?_,q⟩;rw[Qu.mp hb];exact I3.fpOk (Qs _) (I3.hok.fresh (Qs _))
 rcases q with⟨hq,q⟩ | ⟨ob,hq,q⟩
 ·obtain⟨_,_,_,_,ob,_,_,hob,_⟩:=(show ObjOk X.prog X.w H1 s1.heap a (.dK ks) from I1.hok a _ hq)
  exact go _ ob (I1.freeze hq hob) f8 (q ob)
 ·exact go _ ob I1 hq q
noncomputable def OV(td:TE):TE:=λσ H Q=>td σ H λx H1=>∃ a ks,x = .ref a/\Rd H1 a (.dK ks)/\∀ p,H1 p=none->Q (.ref p) (upd H1 p (.lst (ks.map (·.2))))
theorem MH{κ:Type}{ks:List (κ×V)}{vs:List (κ×UT)}(r:KV ks vs):Vals (ks.map (·.2)) (vs.map (·.2)):=by
 induction r with
 | nil=>exact .nil
 | cons h _ ih=>exact .cons h.2 ih
theorem KJ(hc:X.calm=true)(hg:Gl X "list")(hm:X.mg "list"=none)(hv:Uc "list"=some (.type "list"))(ho:PE X o td)
 (hbase:VD o "values" X.env (eval o X.env)=eval o X.env:=by rfl) (hline:(apos.endLine == cpos.line)=true:=by rfl)
 (he:Ue [.Call (.Attribute o "values" apos) [] [] cpos] X.env=[(false,eval (.Call (.Attribute o "values" apos) [] [] cpos) X.env)]:=by rfl):
 PE X (.Call (.Name "list" p) [.Call (.Attribute o "values" apos) [] [] cpos] [] pos) (OV td):=by
 intro pq s σ H Q I h;refine Uy (AI I hg hm hv ?_);refine PyProof.Rows.callWith_type1 (rest:=[]) ?_ he rfl;rw[he];refine Calls.spliced_cons ?_;refine VI hbase hline (thn (ho pq s σ H _ I h) λv s1 ⟨x,H1,I1,r1,a,ks,e,hd,q⟩=>?_);subst e;cases r1;obtain⟨hz,hsm,vs,kv,ob,es,ep,hob,hex,dat,keys,prs,nd⟩:=Dy I1.hok hd;have hl:ks.length=vs.length:=KV.length kv;refine⟨"dict","dict.values",PySem.F.plainAttrs_dict,PySem.F.slot_dict_values,PySem.F.type_dict_values,⟨ob,hob,hex.1⟩,λb eb=>by cases eb;exact⟨ob,hob,hex.2.1⟩,Calls.callWith_builtin rfl (PySem.evalArgs_none ?_)⟩;refine call_meetsIn PySem.F.slot_dict_values ⟨ob,hob,hex.1⟩ PySem.F.entry_dict_values (PySem.F.args_dict_values_1 _) (meets_dict_values (g9 X.prog X.w) a hsm) ⟨⟨vs,ob,es,ep,hob,hex,dat,keys,prs,nd⟩,?_⟩;refine Calls.spliced_nil ?_;have dm:UQ (g9 X.prog X.w) (s1.heap.push {cls := .type "dict_values",data := .fields #[.ref a]}) a vs ep:=⟨ob,es,Qq _ hob,hex,dat,keys,prs,nd⟩
 refine PySem.W.kdl_call (A:=X.A) (PySem.W.kdl_values (knd:=g9 X.prog X.w) (kvs:=vs) (ep:=ep)) (I1.ok.hd hc) ⟨⟨_,Qx _ rfl,rfl,rfl⟩,dm⟩ (by rw[<-hl];exact hz) λh' tk acc c k hS hacc=>?_;have I2:Inv X pq σ H1 {s1 with heap:=s1.heap.push {cls := .type "dict_values",data := .fields #[.ref a]}}:=I1.kept (t':=s1.toks) λb ob q=>Qq _ q;have ea:acc.toList=vs.map (·.2):=PySem.W.kdl_vals_eq acc.toList (by rw[RW];exact hacc.1) λj v e=>hacc.2 j v (by rw[<-Sj];exact e);exact⟨.ref _,upd H1 _ (.lst (ks.map (·.2))),I2.laid (t':=tk) (o := .lst (ks.map (·.2))) k (Qs _) ⟨by rw[Qr];exact hz,acc.toList,c,by rw[ea];exact MH kv,by rw[Te];exact hS⟩,rfl,q _ (I2.hok.fresh (Qs _))⟩
theorem FZ:CallR X (.type "dict") (λxs H Q=>∃(a:UV) (ks:List (Key×V)),xs=[.ref a]/\Rd H a (.dK ks)/\∀ l,H l=none->Q (.ref l) (upd H l (.dK ks))):=by
 intro pq s σ H xs us Q I r h;obtain⟨a,ks,rfl,hd,q⟩:=h;obtain⟨u,rfl,rx⟩:=Af r;cases rx;obtain⟨hz,hsm,vs,kv,dm⟩:=Dy I.hok hd;refine kt_call_dict hsm dm (by rw[<-KV.length kv];exact hz) λh' dm' sb=>?_;exact⟨.ref s.heap.objs.size,_,I.laid (h':=h') (t':=s.toks) (λb o e=>(sb.2 b (R5 (Qw e))).trans (Qq _ e)) (Qs _) (JA hz (beq_eq_false_iff_ne.mpr (Ne.symm (R5 I.big))) kv dm'),rfl,q _ (I.hok.fresh (Qs _))⟩
end
section
variable{prog:Ua}{w:Ud}{A:Uj}{E:UT->UU->Prop}{s:UU}
theorem OW{v u:UT}{a b c d:Int}{Q:Bool->UU->Prop}(hv:IsPr s.heap v a b)(hu:IsPr s.heap u c d)(h:∀ r,Q r s):UX (UZ prog w) A (keyLt' (tuples' true) v u) Q E s:=by
 by_cases hne:a=c
 case neg=>exact JH hv hu hne (h _)
 subst hne;obtain⟨p,o,n,t1,t2,rfl,ho,hc,hd⟩:=hv;obtain⟨p',o',n',t1',t2',rfl,ho',hc',hd'⟩:=hu;rw[B1];refine US (VM ho hd (US (VM ho' hd' ?_)));dsimp only[TN,List.zip,UI,UO];simp only[SY,U0,bind_assoc];refine US (SeqAt.EqAt.int_int a t1 a t1' _ _ _ _ ?_);rw[show(a == a)=true from beq_self_eq_true a];simp only[T6,RN,if_false];refine US (UW ?_);dsimp only;refine US (US (SeqAt.EqAt.int_int b t2 d t2' _ _ _ _ ?_));by_cases hb:b=d
 ·subst hb;rw[show(b == b)=true from beq_self_eq_true b];simp only[T6,RN,if_false];exact US (UW (UW (UW (h _))))
 ·rw[show(b == d)=false from beq_eq_false_iff_ne.mpr hb];simp only[UA,if_true];rw[show(true&&(0+1 == 0))=false from rfl,oneLt'_eq];simp only[RN,if_false];refine US (US (US (show UX (UZ prog w) A (richCompare .Lt (.int b t2) (.int d t2')) _ E s from PyProof.Rows.lt_int ?_)));refine Uk (UW ?_);exact UW (UW (h _))
theorem DR{a:UV}{vs:List UT}{n:Nat}{P:Fin->UU->Prop}(ho:s.heap.get? a=some (seqObj "list" vs.toArray n))(h64:vs.length<64)(hp:∀ v∈vs,∃ x y,IsPr s.heap v x y)
 (h:∀ out:List UT,out.Perm vs->P (.done (.ret .none)) {s with heap:=sortedHeap s.heap a vs out.toArray}):UX (UZ prog w) A (Builtin.«list.sort» ⟨[.ref a],[]⟩) P E s:=by
 have u1:=get?_update_seq ho λ_=>(#[]:Array UT)
 have hv:vs.toArray.size=vs.length:=rfl
 have hz:(vs.toArray.zip vs.toArray).map (·.2)=vs.toArray:=by
  apply Array.ext';simp[List.map_snd_zip]
 have hzs:(vs.toArray.zip vs.toArray).size=vs.length:=by rw[Array.size_zip];omega
 have fit:∀{m:Nat},m<64->m<=UY:=λh=>by rw[Vm];omega
 have h6:∀ v∈vs,∃ x y,IsPr (((s.heap.update a (Obj.mapSeq λ_=>#[])).push (seqObj "tuple" vs.toArray 0)).push (seqObj "list" #[] 0)) v x y:=λv hv=>by
  obtain⟨x,y,hxy⟩:=hp v hv;refine⟨x,y,hxy.at λp o e hc=>Qq _ (Qq _ ((Se _ _ λz=>?_).trans e))⟩;subst z;rw[ho]at e;cases e;exact absurd hc (by show Value.type "list"≠Value.type "tuple";decide)
 have o6:(((s.heap.update a (Obj.mapSeq λ_=>#[])).push (seqObj "tuple" vs.toArray 0)).push (seqObj "list" #[] 0)).get? a=some (seqObj "list" #[] _):=Qq _ (Qq _ u1)
 have fin:∀ st:SortSt,(arrOf st).Perm (vs.toArray.zip vs.toArray)->P (.done (.ret .none)) {s with heap:=sortedHeap s.heap a vs ((arrOf st).map (·.2))}:=λst pm=>by
  have q:=(SS.mp pm).map (λx:Keyed=>x.2);rw[<-U1,<-U1,hz]at q;have:=h ((arrOf st).map (·.2)).toList q
  rwa [Te]at this
 rw[list_sort_plain];refine US (VM ho rfl (US (Vx ho rfl (US (WL u1 rfl (US (We (US (wpAny_newList (Uq ?_) (Rz _))) (fit h64))))) (fit h64) (Rz _))));show UX (UZ prog w) A _ P E {s with heap:=((s.heap.update a (Obj.mapSeq λ_=>#[])).push (seqObj "tuple" vs.toArray 0)).push (seqObj "list" #[] 0)};dsimp only;by_cases h2:vs.toArray.size<2
 ·rw[iP h2,iP h2];refine US (UW ?_);rw[StateT.run_pure];refine US (UW (US (WL o6 rfl (US (Vx o6 rfl ?_ (hsz2:=by show((vs.toArray.zip vs.toArray).map (·.2)).size<=_;rw[hz];exact Sx (fit h64)))))));simp only[bne_self_eq_false,RN,if_false];exact UW (fin (SortSt.mk' general' (vs.toArray.zip vs.toArray) #[] 7 none) (UR.refl _))
 ·rw[iG h2,iG h2]
  have kd:∀(Q:VV->UU->Prop),Q (tuples' true) {s with heap:=((s.heap.update a (Obj.mapSeq λ_=>#[])).push (seqObj "tuple" vs.toArray 0)).push (seqObj "list" #[] 0)}->UX (UZ prog w) A (keyKind' vs.toArray) Q E {s with heap:=((s.heap.update a (Obj.mapSeq λ_=>#[])).push (seqObj "tuple" vs.toArray 0)).push (seqObj "list" #[] 0)}:=by
   cases vs with
   | nil=>exact absurd (show 0<2 by decide) h2
   | cons v rest=>exact λQ hQ=>JI h6 hQ
  refine US (kd _ (US (V6 (Ca (κ:=tuples' true) (a₀:=vs.toArray.zip vs.toArray) (st:=SortSt.mk' (tuples' true) (vs.toArray.zip vs.toArray) #[] 7 none) (Q:=λ_ st'=>(arrOf st').Perm (vs.toArray.zip vs.toArray)/\Wb st'=none) (JP λp hp' q hq' E' Q hQ=>?_) ⟨UR.refl _,rfl,rfl,rfl⟩ (by rw[hzs];omega) (by rw[hzs];exact h64) λst' a1 a2=>⟨a1,a2⟩) ?_ λ_ _ e=>e)))
  ·have mem:∀ p:Keyed,p∈(vs.toArray.zip vs.toArray).toList->p.1∈vs:=λp hp=>by
    have:(p.1,p.2)∈vs.zip vs:=by simpa using hp
    exact(Rv this).1
   obtain⟨x,y,h1⟩:=h6 _ (mem p hp');obtain⟨x',y',h1'⟩:=h6 _ (mem q hq');exact OW h1 h1' hQ
  ·rintro⟨⟨⟩,st'⟩ s' ⟨rfl,hpm,hf⟩;dsimp only;refine US (WL o6 rfl (US (Vx o6 rfl ?_ (hsz2:=by rw[Array.size_map,hpm.size_eq,hzs];exact Sx (fit h64)))));rw[hf];simp only[bne_self_eq_false,RN,if_false];exact UW (fin st' hpm)
theorem IG{l:UV}{vs:List UT}{Q:UT->UU->Prop}(hl:s.heap.IsList l vs.toArray)(h64:vs.length<64)(hp:∀ v∈vs,∃ x y,IsPr s.heap v x y)
 (h:∀ out:List UT,out.Perm vs->Q (.ref (s.heap.objs.size+1)) {s with heap:=sortedAll s.heap vs out.toArray}):UX (UZ prog w) A (call (.builtin "sorted") [.ref l]) Q E s:=by
 have up:((s.heap.push (seqObj "list" #[] 0)).update s.heap.objs.size (Obj.mapSeq (·++vs.toArray))).objs.size=s.heap.objs.size+1:=(Heap.size_update ..).trans (size_push' ..);have K:Kpt s.heap (Two s.heap vs):=EI (MF (TZ (Qs _)) (EI λ_ _ q=>q));have ho:(Two s.heap vs).get? (s.heap.objs.size+1)=some (seqObj "list" vs.toArray 0):=up▸Qx _ rfl;refine Calls.call_function_entry kind_sorted plain_sorted entry_sorted (args_sorted1 _) ?_;refine US (m:=checkCount "sorted" 1 1 _) (UW (US (collect_list hl (US (wpAny_newList ?_ (KH h64))) (KH h64))));show UX _ _ _ _ _ {s with heap:=Two s.heap vs};rw[up];refine US (Uq (Uw slot_list_sort ⟨_,ho,rfl⟩ entry_list_sort (DR ho h64 (λv hv=>?_) λout po=>⟨_,rfl,UW ⟨_,rfl,h out po⟩⟩) (args_list_sort _)));obtain⟨x,y,hxy⟩:=hp v hv;exact⟨x,y,hxy.at λp o e _=>K p o e⟩
end
section
variable{X:Cx}
theorem Ce:CallR X (.builtin "sorted") (λxs H Q=>∃(p:UV) (ws:List V),xs=[.ref p]/\SqL X.K H p ws/\(∀ v∈ws,∃(q:UV) (a b:Int),v = .ref q/\H q=some (.tup [.int a,.int b]))/\ws.length<64/\∀ l (ws':List V),H l=none->ws'.Perm ws->Q (.ref l) (upd H l (.lst ws'))):=by
 intro pq s σ H xs us Q I r h;obtain⟨p,ws,rfl,hq,hw,h64,q⟩:=h;obtain⟨u,rfl,rx⟩:=Af r;cases rx;obtain⟨its,r',pl,hz⟩:=I.list hq;have hlen:=r'.length;refine IG pl.isList (by omega) (λv hv=>?_) λout po=>?_
 ·obtain⟨j,hj,rfl⟩:=List.getElem_of_mem hv;have gw:=R4 (show j<ws.length by omega);obtain⟨u,hu',ru⟩:=r'.get gw;rw[R4 hj]at hu';have hu':=oj hu';obtain⟨q',a,b,e,ht⟩:=hw _ (R1 gw);rw[e]at ru;rw[hu'];cases ru;obtain⟨_,its2,r2,o2,ho2,hc2,n2,hd2⟩:=(show ObjOk X.prog X.w H s.heap q' (.tup [.int a,.int b]) from I.hok q' _ ht)
  obtain⟨x1,x2,rfl,⟨t1,rfl⟩,⟨t2,rfl⟩⟩:=Vals.two r2;exact⟨a,b,q',o2,n2,t1,t2,rfl,ho2,hc2,hd2⟩
 ·obtain⟨ws',rv,pw⟩:=IF po r';obtain⟨e,he⟩:=sortedAll_at s.heap its out.toArray;have hz2:ws'.length<=UY:=by rw[pw.length_eq];exact hz
  exact⟨.ref (s.heap.objs.size+1),_,I.laid (t':=s.toks) (λb o h=>sortedAll_old h) (Sa _) (show ObjOk X.prog X.w _ _ _ (.lst ws') from ⟨hz2,out,e,rv,he⟩),rfl,q _ _ (I.hok.fresh (Sa _)) pw⟩
end
end L2
namespace Rf
open PySem L2
structure GoodA(X:Cx)(rs:List Expr)(w:WA):Prop where
 pa:PA X rs (liftA X.K w)
 m:MonoA w
section
variable{X:Cx}
theorem IH:GoodA X [] Cs:=⟨Ln,.nil⟩
theorem Fb{x:Expr}{xs:List Expr}{a:WE×WT}{b:WA}(ha:Good X x a)(hb:GoodA X xs b)(hs:c9 x=true):GoodA X (x::xs) (C8 a.1 b):=⟨JT ha.m hb.m ha.pe hb.pa (f7 hs),.cons ha.m hb.m⟩
theorem II{rs:List Expr}{j:Nat}{p:Pos}{w:WA}(h:GoodA X rs w):Good X (.Tuple rs j p) (tt1 (wn Lp w)) := .one (g0 _ (Ng h.pa) (Ls h.m)) (.n .tup h.m) rfl
theorem IJ{rs:List Expr}{p:Pos}{w:WA}(h:GoodA X rs w):Good X (.List rs p) (tt1 (wn Lr w)) := .one (g0 _ (Nh h.pa) (Lu h.m)) (.n .lst h.m) rfl
theorem KK{K:Qo}{s:Sn}{w:WA}(ms:MonoN s)(m:MonoA w):∀ σ H Q,lift K (wn s w) σ H Q->Mu (spS K s) [] E0 (liftA K w) σ H Q:=by
 rintro σ H Q ⟨as,ρ,S,ok,en,h⟩;refine⟨as,ρ,S,ok,en,m _ _ _ _ (λxs S1 hs as1 H1 vs g1 ok1 rv=>?_) h⟩;show spS K s (vs++[]) H1 Q E0;rw[Rg];exact⟨as1,S1,xs,ok1,rv,ms _ _ _ _ (λz S3 hz=>hz.mono g1) hs⟩
theorem Fc{T:List Str}{Δ:Nat->Sn}{k f:Nat}{N:List Str}{sc:Ug}{x:Str}{y:Expr}{ys:List Expr}{p q:Pos}{w:WA}(C:Cok T Δ X k N sc)(hf:T[f]?=some x)(hg:glo sc x=true)(h:GoodA X (y::ys) w)(hy:c9 y=true)(hs:ys.all c9=true):Good X (.Call (.Name x p) (y::ys) [] q) (tt1 (wn (Δ f) w)):=by
 obtain⟨d,ps,hC,hr⟩:=C.call f x hf;obtain⟨fa,fd,F,hm,hk,hb⟩:=hC.ex;unfold glo at hg;simp only[Qp,bQ,RG]at hg;have gl:Gl X x:=by show X.env.scope.names.lookup x=_;rw[C.hs];exact hg.1.1
 exact .one (g0 _ (LQ F hr gl hm hk hb .nil Pi h.pa hg.2 (f7 hy) (BK hs)) (KK (C.mono f) h.m)) (.n (C.mono f) h.m) rfl
theorem Q5:Uc "abs"=some (.builtin "abs"):=by decide +kernel
theorem Q6:Uc "min"=some (.builtin "min"):=by decide +kernel
theorem N5:Uc "max"=some (.builtin "max"):=by decide +kernel
theorem Q7:Uc "len"=some (.builtin "len"):=by decide +kernel
theorem Q8:Uc "all"=some (.builtin "all"):=by decide +kernel
theorem N6:Uc "int"=some (.type "int"):=by decide +kernel
theorem DS:Uc "list"=some (.type "list"):=by decide +kernel
theorem Q9:Uc "isinstance"=some (.builtin "isinstance"):=by decide +kernel
theorem N7:Uc "str"=some (.type "str"):=by decide +kernel
theorem OX:Uc "bool"=some (.type "bool"):=by decide +kernel
theorem MI:Uc "range"=some (.type "range"):=by decide +kernel
theorem b_set:Uc "set"=some (.type "set"):=by decide +kernel
theorem Gh:Uc "tuple"=some (.type "tuple"):=by decide +kernel
theorem KL{T:List Str}{Δ:Nat->Sn}{k:Nat}{N:List Str}{sc:Ug}{b:BI}{y:Expr}{ys:List Expr}{p q:Pos}{w:WA}(C:Cok T Δ X k N sc)(hg:glo sc b.name=true)(h:GoodA X (y::ys) w)(hy:c9 y=true)(hs:ys.all c9=true):Good X (.Call (.Name b.name p) (y::ys) [] q) (tt1 (wn (sBi b) w)):=by
 unfold glo at hg;simp only[Qp,bQ,RG]at hg;have gl:Gl X b.name:=by show X.env.scope.names.lookup b.name=_;rw[C.hs];exact hg.1.1
 have hm:=C.bl b;have e1:=f7 (es:=ys) (env:=X.env) hy;have e2:=BK (env:=X.env) (pos:=q) hs;refine .one (g0 (t:=tCB (rBi X.K b) (liftA X.K w)) _ ?_ (Pu OI .bi h.m)) (.n .bi h.m) rfl;cases b with
 | len=>exact m9 D9 gl hm Q7 h.pa (by decide) hg.2 e1 e2
 | abs=>exact m9 Iu gl hm Q5 h.pa (by decide) hg.2 e1 e2
 | min=>exact m9 (HY C.calm) gl hm Q6 h.pa (by decide) hg.2 e1 e2
 | max=>exact m9 (HX C.calm) gl hm N5 h.pa (by decide) hg.2 e1 e2
 | int=>exact p9 HZ gl hm N6 h.pa (by decide) hg.2 e1 e2
 | list=>exact p9 (λ_ _ _ _ _ _ _ _ _ h=>False.elim h) gl hm DS h.pa (by decide) hg.2 e1 e2
 | tuple=>exact p9 CU gl hm Gh h.pa (by decide) hg.2 e1 e2
 | all=>exact m9 (Hi C.calm) gl hm Q8 h.pa (by decide) hg.2 e1 e2
 | any=>exact m9 (λ_ _ _ _ _ _ _ _ _ h=>False.elim h) gl hm Pr h.pa (by decide) hg.2 e1 e2
 | sorted=>exact m9 (λ_ _ _ _ _ _ _ _ _ h=>False.elim h) gl hm J8 h.pa (by decide) hg.2 e1 e2
 | isi=>exact m9 (call_isi1.or Hh) gl hm Q9 h.pa (by decide) hg.2 e1 e2
 | str=>exact p9 (λ_ _ _ _ _ _ _ _ _ h=>False.elim h) gl hm N7 h.pa (by decide) hg.2 e1 e2
theorem Mono.mt{m:MT}{a:WE}{b:WA}(ma:Mono a)(mb:MonoA b):Mono (wMt m a b):=λρ S P P' i h=>ma _ _ _ _ (λx S1 ⟨e,h⟩=>⟨e,mb _ _ _ _ (λxs S2 h=>DM _ _ _ _ i h) h⟩) h
theorem l7{ro:Expr}{nm:Str}{env:Env}{wh:Sem UT}(h:y6 ro=true):VD ro nm env wh=wh:=by
 unfold VD;split
 ·cases h
 ·rfl
theorem KM{K:Qo}{as:List UV}{H:Hp}{S:Sto}{k:Nat}{v:V}{xs:List SV}(ok:Ok K as H S)(r:Rl K as H v (.loc k))(hs:S[k]?=some (.lst xs)):tyV K "list" v H:=by
 obtain⟨a,vs,rfl,_,h1,_⟩:=j8 ok r hs;exact .inl ⟨rfl,_,SqL.of h1⟩
theorem OY{K:Qo}{m:MT}{a:WE}{b:WA}(ma:Mono a)(mb:MonoA b):∀ σ H Q,lift K (wMt m a b) σ H Q->tBM K "list" (rMt m) (lift K a) (liftA K b) σ H Q:=by
 rintro σ H Q ⟨as,ρ,S,ok,en,h⟩;refine⟨as,ρ,S,ok,en,ma _ _ _ _ (λx S1 ⟨⟨j,zs,e,hz⟩,h⟩ as1 H1 v g1 ok1 rv=>?_) h⟩;subst e;refine⟨KM ok1 rv hz,as1,ρ,S1,ok1,en.mono g1.pre (g1.ku ok),mb _ _ _ _ (λxs S2 h as2 H2 vs g2 ok2 rs=>?_) h⟩;exact Jh ok2 (Rl.mono g2.pre (g2.ku ok1) _ v rv) rs (DM _ _ _ _ (λz S3 hz=>hz.mono (g1.trans g2)) h)
theorem MJ{K:Qo}{m:MT}{a:WE}(ma:Mono a):∀ σ H Q,lift K (wMt m a Cs) σ H Q->Nl K "list" (rMt m) (lift K a) σ H Q:=by
 rintro σ H Q ⟨as,ρ,S,ok,en,h⟩;refine⟨as,ρ,S,ok,en,ma _ _ _ _ (λx S1 ⟨⟨j,zs,e,hz⟩,h⟩ as1 H1 v g1 ok1 rv=>?_) h⟩;subst e;exact⟨KM ok1 rv hz,Jh ok1 rv .nil (DM _ _ _ _ (λz S3 hz=>hz.mono g1) h)⟩
theorem KN{m:MT}{ro y:Expr}{ys:List Expr}{ap cp:Pos}{a:WE×WT}{b:WA}(ha:Good X ro a)(hb:GoodA X (y::ys) b)(hn:y6 ro=true)(hl:(ap.endLine == cp.line)=true)(hk:(y::ys).length<29)(hy:c9 y=true)(hs:ys.all c9=true):Good X (.Call (.Attribute ro m.name ap) (y::ys) [] cp) (tt1 (wMt m a.1 b)):=by
 have e1:=f7 (es:=ys) (env:=X.env) hy;have e2:=BK (env:=X.env) (pos:=cp) hs
 have e3:((backTo cp (Ue (y::ys) X.env)).all (λx=>!x.1)&&(backToKw cp (keywordEach [] X.env)).all (λx=>x.1.isSome)
  && decide ((y::ys).length+([]:List Keyword).length+(if ([]:List Keyword).isEmpty then 0 else 1)<30))=true:=by
  rw[Cu (by rw[Re,hy,hs];rfl)];simp only[UE,Qp,dQ];exact⟨rfl,by show(y::ys).length+0+0<30;omega⟩
 refine .one (g0 (t:=tBM X.K "list" (rMt m) (lift X.K a.1) (liftA X.K b)) _ ?_ (OY ha.m hb.m)) (.mt ha.m hb.m) rfl;cases m with
 | append=>exact GK PySem.F.plainAttrs_list PySem.F.slot_list_append PySem.F.type_list_append BU ha.pe hb.pa (l7 hn) e3 hl e1 e2
 | extend=>exact GK PySem.F.plainAttrs_list PySem.F.slot_list_extend PySem.F.type_list_extend Cn ha.pe hb.pa (l7 hn) e3 hl e1 e2
 | insert=>exact GK PySem.F.plainAttrs_list PySem.F.slot_list_insert PySem.F.type_list_insert Cp ha.pe hb.pa (l7 hn) e3 hl e1 e2
 | index=>exact GK PySem.F.plainAttrs_list PySem.F.slot_list_index PySem.F.type_list_index (λpq s σ H x xs v us Q I rx rs q=>Dz pq s σ H x xs v us Q I rx rs q) ha.pe hb.pa (l7 hn) e3 hl e1 e2
theorem IK{m:MT}{ro:Expr}{ap cp:Pos}{a:WE×WT}(ha:Good X ro a)(hn:y6 ro=true)(hl:(ap.endLine == cp.line)=true):Good X (.Call (.Attribute ro m.name ap) [] [] cp) (tt1 (wMt m a.1 Cs)):=by
 refine .one (g0 (t:=Nl X.K "list" (rMt m) (lift X.K a.1)) _ ?_ (MJ ha.m)) (.mt ha.m .nil) rfl;cases m with
 | append=>exact DA PySem.F.plainAttrs_list PySem.F.slot_list_append PySem.F.type_list_append BU ha.pe (l7 hn) hl
 | extend=>exact DA PySem.F.plainAttrs_list PySem.F.slot_list_extend PySem.F.type_list_extend Cn ha.pe (l7 hn) hl
 | insert=>exact DA PySem.F.plainAttrs_list PySem.F.slot_list_insert PySem.F.type_list_insert Cp ha.pe (l7 hn) hl
 | index=>exact DA PySem.F.plainAttrs_list PySem.F.slot_list_index PySem.F.type_list_index (λpq s σ H x xs v us Q I rx rs q=>Dz pq s σ H x xs v us Q I rx rs q) ha.pe (l7 hn) hl
theorem IL{T:List Str}{Δ:Nat->Sn}{k:Nat}{N:List Str}{sc:Ug}{t:TyN}{p:Pos}(C:Cok T Δ X k N sc)(hg:glo sc (Str.ofString t.nm)=true)(ht:t ≠ .none):Good X (.Name (Str.ofString t.nm) p) (tt1 (wC (.ty t))):=by
 unfold glo at hg;simp only[Qp,bQ,RG]at hg;have gl:Gl X (Str.ofString t.nm):=by show X.env.scope.names.lookup _=_;rw[C.hs];exact hg.1.1
 have b:Uc (Str.ofString t.nm)=some (.type t.nm):=by cases t<;>first | exact N6 | exact OX | exact N7 | exact DS | exact Gh | exact absurd rfl ht
 exact .one (g0 _ (LH (v := .ty t.nm) gl (C.ty t ht) b rfl (by cases t<;>first | decide | exact absurd rfl ht) hg.2) (E1 λ_ _=>rl_ty.mpr rfl)) .c rfl
theorem OZ{K:Qo}{as:List UV}{H:Hp}{lo hi:Int}:RlAll K as H (Hk lo (hi - lo).toNat) (Az lo hi):=by
 unfold Hk Az
 induction Qy (hi - lo).toNat with
 | nil=>exact .nil
 | cons i r ih=>exact .cons (rl_int.mpr rfl) ih
theorem CI{a:WE}(m:Mono a):Mono (FR a):=λρ S P P' i h=>m _ _ _ _ (λx S1 ⟨j,e,z,q⟩=>⟨j,e,z,i _ _ q⟩) h
theorem EJ{T:List Str}{Δ:Nat->Sn}{k:Nat}{N:List Str}{sc:Ug}{r:Expr}{p p2 q q2:Pos}{a:WE×WT}(C:Cok T Δ X k N sc)(hg:glo sc "list"=true)(hg2:glo sc "range"=true)(ha:Good X r a)(hs:c9 r=true):Good X (.Call (.Name "list" p) [.Call (.Name "range" p2) [r] [] q2] [] q) (tt1 (FR a.1)):=by
 unfold glo at hg hg2;simp only[Qp,bQ,RG]at hg hg2;have gl:Gl X "list":=by show X.env.scope.names.lookup ("list":Str)=_;rw[C.hs];exact hg.1.1
 have gr:Gl X "range":=by show X.env.scope.names.lookup ("range":Str)=_;rw[C.hs];exact hg2.1.1
 have e1:=p9 (p:=p2) (pos:=q2) Hj gr C.rng MI (l4 ha.pe A0 (f7 hs)) (by decide) hg2.2 (f7 hs) rfl;refine .one (g0 _ (p9 (p:=p) (pos:=q) (DC C.calm) gl (C.bl .list) DS (l4 e1 A0 rfl) (by decide) hg.2 rfl rfl) ?_) (CI ha.m) rfl;rintro σ H Q ⟨as,ρ,S,ok,en,h⟩;refine⟨as,ρ,S,ok,en,ha.m _ _ _ _ (λx S1 ⟨j,e,z,q⟩ as1 H1 v g1 ok1 rv=>?_) h⟩;subst e;refine⟨j,by rw[rl_int.mp rv],λp hp=>⟨p,0,j,rfl,f8,by decide,by decide,z.1,by omega,by omega,?_⟩⟩;exact A7 (ok1.new hp) OZ (q.mono (g1.trans (Go.new hp)))
theorem Bk{a:WE}(m:Mono a):Mono (DO a):=λρ S P P' i h=>m _ _ _ _ (λx S1 ⟨xs,ns,a,b,c,d,q⟩=>⟨xs,ns,a,b,c,d,i _ _ q⟩) h
theorem Cw{a:WE}(m:Mono a):Mono (Ju a):=λρ S P P' i h=>m _ _ _ _ (λx S1 ⟨xs,ns,b,c,d,q⟩=>⟨xs,ns,b,c,d,i _ _ q⟩) h
theorem Cy{a:WE}(m:Mono a):Mono (Jt a):=λρ S P P' i h=>m _ _ _ _ (λx S1 ⟨k,ns,a,b,c,q⟩=>⟨k,ns,a,b,c,λm g=>i _ _ (q m g)⟩) h
theorem RlD.length{K:Qo}{as:List UV}{H:Hp}:∀{kvs:List (Int×SV)} {ks:List (Key×V)},RlD K as H ks kvs->ks.length=kvs.length
 | [],_,h=>by rw[show _=[] from h];rfl
 | p::r,_,⟨v,t,e,_,h⟩=>by rw[e,Rj,Rj,RlD.length h]
theorem RlAll.perm{K:Qo}{as:List UV}{H:Hp}{ws ws':List V}(p:ws'.Perm ws):∀{xs:List SV},RlAll K as H ws xs->∃ xs',RlAll K as H ws' xs'/\xs'.Perm xs:=by
 induction p with
 | nil=>exact λ{xs} r=>⟨xs,r,.refl _⟩
 | cons v _ ih=>
   intro xs r;cases xs with
   | nil=>exact absurd (show _::_=[] from r) (TJ _ _)
   | cons x xs=>
     obtain⟨_,_,e,r1,r2⟩:=r;cases e;obtain⟨xs',r',p'⟩:=ih r2;exact⟨x::xs',⟨_,_,rfl,r1,r'⟩,.cons _ p'⟩
 | swap u v l=>
   intro xs r;cases xs with
   | nil=>exact absurd (show _::_=[] from r) (TJ _ _)
   | cons x xs=>
     obtain⟨_,_,e,r1,r2⟩:=r;cases e;cases xs with
     | nil=>exact absurd (show _::_=[] from r2) (TJ _ _)
     | cons y xs=>
       obtain⟨_,_,e,r3,r4⟩:=r2;cases e;exact⟨y::x::xs,⟨_,_,rfl,r3,_,_,rfl,r1,r4⟩,.swap ..⟩
 | trans _ _ ih1 ih2=>
   intro xs r;obtain⟨x2,r2,p2⟩:=ih2 r;obtain⟨x1,r1,p1⟩:=ih1 r2;exact⟨x1,r1,p1.trans p2⟩
theorem Fd{T:List Str}{Δ:Nat->Sn}{k:Nat}{N:List Str}{sc:Ug}{r:Expr}{p q:Pos}{a:WE×WT}(C:Cok T Δ X k N sc)(hg:glo sc "max"=true)(ha:Good X r a)(hs:c9 r=true):Good X (.Call (.Name "max" p) [r] [] q) (tt1 (Jt a.1)):=by
 unfold glo at hg;simp only[Qp,bQ,RG]at hg;have gl:Gl X "max":=by show X.env.scope.names.lookup ("max":Str)=_;rw[C.hs];exact hg.1.1
 refine .one (g0 _ (m9 (Hw C.calm) gl (C.bl .max) N5 (l4 ha.pe A0 (f7 hs)) (by decide) hg.2 (f7 hs) rfl) ?_) (Cy ha.m) rfl;rintro σ H Q ⟨as,ρ,S,ok,en,h⟩;refine⟨as,ρ,S,ok,en,ha.m _ _ _ _ (λx S1 ⟨k,ns,e0,h1,h2,q⟩ as1 H1 v g1 ok1 rv=>?_) h⟩;subst e0;obtain⟨a,us,rfl,ea,ha,rr⟩:=j8 ok1 rv h1;rw[DL rr]at ha;exact⟨a,ns,rfl,ha,h2,λm g=>q m g as1 H1 _ g1 ok1 (rl_int.mpr rfl)⟩
theorem DT{T:List Str}{Δ:Nat->Sn}{k:Nat}{N:List Str}{sc:Ug}{r:Expr}{p p2 q q2:Pos}{a:WE×WT}(C:Cok T Δ X k N sc)(hg:glo sc "len"=true)(hg2:glo sc "set"=true)(ha:Good X r a)(hs:c9 r=true):Good X (.Call (.Name "len" p) [.Call (.Name "set" p2) [r] [] q2] [] q) (tt1 (DO a.1)):=by
 unfold glo at hg hg2;simp only[Qp,bQ,RG]at hg hg2;have gl:Gl X "len":=by show X.env.scope.names.lookup ("len":Str)=_;rw[C.hs];exact hg.1.1
 have gr:Gl X "set":=by show X.env.scope.names.lookup ("set":Str)=_;rw[C.hs];exact hg2.1.1
 refine .one (g0 _ (Hn C.calm gl (C.bl .len) gr C.st0 ha.pe (f7 hs) rfl rfl rfl) ?_) (Bk ha.m) rfl;rintro σ H Q ⟨as,ρ,S,ok,en,h⟩;refine⟨as,ρ,S,ok,en,ha.m _ _ _ _ (λx S1 ⟨xs,ns,h0,h1,h2,h3,q⟩ as1 H1 v g1 ok1 rv=>?_) h⟩;obtain⟨a,us,rfl,hq,rr⟩:=AG ok1 rv h0 h1;rw[DJ h2 rr]at hq;exact⟨a,ns,rfl,hq,by unfold Ux;omega,q as1 H1 _ g1 ok1 (rl_int.mpr rfl)⟩
theorem Fe{T:List Str}{Δ:Nat->Sn}{k:Nat}{N:List Str}{sc:Ug}{r:Expr}{p q:Pos}{a:WE×WT}(C:Cok T Δ X k N sc)(hg:glo sc "set"=true)(ha:Good X r a)(hs:c9 r=true):Good X (.Call (.Name "set" p) [r] [] q) (tt1 (Ju a.1)):=by
 unfold glo at hg;simp only[Qp,bQ,RG]at hg;have gl:Gl X "set":=by show X.env.scope.names.lookup ("set":Str)=_;rw[C.hs];exact hg.1.1
 refine .one (g0 _ (p9 (Ht C.calm) gl C.st0 b_set (l4 ha.pe A0 (f7 hs)) (by decide) hg.2 (f7 hs) rfl) ?_) (Cw ha.m) rfl;rintro σ H Q ⟨as,ρ,S,ok,en,h⟩;refine⟨as,ρ,S,ok,en,ha.m _ _ _ _ (λx S1 ⟨xs,ns,h1,h2,h3,q⟩ as1 H1 v g1 ok1 rv=>?_) h⟩;obtain⟨a,us,rfl,hq,rr⟩:=DF ok1 rv h1;rw[DJ h2 rr]at hq;refine⟨a,ns,rfl,hq,h3,λl hl=>?_⟩;have ok2:Ok X.K (as1++[l]) (upd H1 l (.set (λk=>decide (k∈ns)) (B3 ns).length)) (S1++[.iset (t5 ns)]):=ok1.pushO hl ⟨_,f8,λk=>by rw[decide_eq_decide];exact(BE ns k).symm⟩;exact q _ _ _ (g1.trans (Go.push hl)) ok2 (rl_loc.mpr ⟨l,by rw[<-ok1.len];exact RJ,rfl⟩)
end
section
variable{K:Qo}{as:List UV}{H:Hp}{S:Sto}
theorem RlD.get:∀{kvs:List (Int×SV)} {ks:List (Key×V)} {i:Nat} {p:Int×SV},RlD K as H ks kvs->kvs[i]?=some p->∃ v,ks[i]?=some (.inl p.1,v)
 | q::r,_,0,p,⟨v,t,e,_,_⟩,hp=>by cases hp;subst e;exact⟨v,rfl⟩
 | q::r,_,i+1,p,⟨v,t,e,_,h⟩,hp=>by
   subst e;obtain⟨u,hu⟩:=RlD.get (i:=i) h (show r[i]?=some p from hp);exact⟨u,hu⟩
theorem RlD.val:∀{kvs:List (Int×SV)} {ks:List (Key×V)},RlD K as H ks kvs->∀ i,(∃ x v,Bo kvs i=some x/\Ac ks (.inl i)=some v/\Rl K as H v x)\/(Bo kvs i=none/\Ac ks (.inl i)=none)
 | [],_,h,i=>by rw[show _=[] from h];exact .inr ⟨rfl,rfl⟩
 | p::r,_,⟨v,t,e,h1,h2⟩,i=>by
   subst e;by_cases hp:p.1=i
   ·refine .inl ⟨p.2,v,?_,?_,h1⟩
    ·unfold Bo;rw[TU (by simp[hp])];rfl
    ·unfold Ac;rw[TU (by simp[hp])];rfl
   ·have e1:Bo (p::r) i=Bo r i:=by unfold Bo;rw[TV (by simp[hp])]
    have e2:Ac ((Sum.inl p.1,v)::t) (Sum.inl i)=Ac t (Sum.inl i):=by unfold Ac;rw[TV (by simp[hp])]
    rw[e1,e2];exact RlD.val h2 i
theorem RlD.any:∀{kvs:List (Int×SV)} {ks:List (Key×V)},RlD K as H ks kvs->∀ i,(ks.any λkv=>decide (kv.1=Sum.inl i))=kvs.any λp=>decide (p.1=i)
 | [],_,h,i=>by rw[show _=[] from h];rfl
 | p::r,_,⟨v,t,e,h1,h2⟩,i=>by
   subst e;rw[Ry,Ry,RlD.any h2 i]
   congr 1
   simp
theorem RlD.set{v:V}{x:SV}(rv:Rl K as H v x):∀{kvs:List (Int×SV)} {ks:List (Key×V)},RlD K as H ks kvs->∀ i,RlD K as H (ks.map λkv=>if kv.1=Sum.inl i then (kv.1,v) else kv) (kvs.map λp=>if p.1=i then (p.1,x) else p)
 | [],_,h,i=>by rw[show _=[] from h];rfl
 | p::r,_,⟨u,t,e,h1,h2⟩,i=>by
   subst e;rw[RK,RK];by_cases hp:p.1=i
   ·rw[iP hp,iP (by rw[hp])];exact⟨v,_,rfl,rv,RlD.set rv h2 i⟩
   ·rw[iG hp,iG (λz=>hp (Sum.inl.inj z))];exact⟨u,_,rfl,h1,RlD.set rv h2 i⟩
theorem RlD.snoc{v:V}{x:SV}(rv:Rl K as H v x)(i:Int):∀{kvs:List (Int×SV)} {ks:List (Key×V)},RlD K as H ks kvs->RlD K as H (ks++[(Sum.inl i,v)]) (kvs++[(i,x)])
 | [],_,h=>by rw[show _=[] from h];exact⟨v,[],rfl,rv,rfl⟩
 | p::r,_,⟨u,t,e,h1,h2⟩=>by subst e;exact⟨u,_,rfl,h1,RlD.snoc rv i h2⟩
theorem RlD.put{kvs:List (Int×SV)}{ks:List (Key×V)}{v:V}{x:SV}(h:RlD K as H ks kvs)(rv:Rl K as H v x)(i:Int):RlD K as H (Ad ks (Sum.inl i) v) (CC kvs i x):=by
 unfold Ad CC;rw[h.any i];by_cases z:(kvs.any λp=>decide (p.1=i))=true
 ·rw[iP z,iP z];exact h.set rv i
 ·rw[iG z,iG z];exact h.snoc rv i
theorem Ff{x:SV}{v:V}{kvs:List (Int×SV)}(ok:Ok K as H S)(r:Rl K as H v x)(h:CD x S=some kvs):∃ a k ks,x = .loc k/\v = .ref a/\as[k]?=some a/\Rd H a (.dK ks)/\RlD K as H ks kvs:=by
 cases x with
 | loc k=>
   obtain⟨a,ea,rfl⟩:=rl_loc.mp r;unfold CD at h;cases hs:S[k]? with
   | none=>simp only[hs]at h;cases h
   | some o=>
     have ro:=ok.obj k o a hs ea;cases o with
     | lst _=>simp only[hs]at h;cases h
     | iset _=>simp only[hs]at h;cases h
     | dct kv=>simp only[hs]at h;cases h;obtain⟨ks,h1,h2⟩:=ro;exact⟨a,k,ks,rfl,rfl,ea,.inl h1,h2⟩
     | dcf o ks kv=>simp only[hs]at h;cases h;exact⟨a,k,ks,rfl,rfl,ea,.inr ⟨o,ro.1⟩,ro.2⟩
 | _=>cases h
theorem AX{n:Bool}:Mono2 (Hx n):=λx y S P P' i ⟨kvs,j,a,b,q⟩=>⟨kvs,j,a,b,i _ _ q⟩
theorem Bt{n:Bool}:Am K (Hx n) (λy x H Q=>∃ a o,x = .ref a/\DGet H a y o/\Q (.bl (if n then !o.isSome else o.isSome)) H):=λas H S y x u v Q ok ry rx h=>by
 obtain⟨kvs,i,h1,rfl,q⟩:=h;obtain⟨a,k,ks,rfl,rfl,ea,rd,rr⟩:=Ff ok rx h1;rw[rl_int]at ry;subst ry
 have e:(Ac ks (Sum.inl i)).isSome=(Bo kvs i).isSome:=by
  rcases rr.val i with⟨x',v',e1,e2,r'⟩ | ⟨e1,e2⟩<;>rw[e1,e2]<;>rfl
 refine⟨a,_,rfl,.inl ⟨ks,.inl i,rd,rfl,rfl⟩,?_⟩;rw[e];exact q.here ok (rl_bl.mpr rfl)
end
section
variable{X:Cx}
theorem Bb:Mono Jx:=λρ S P P' i h=>i _ _ h
theorem Fg{p:Pos}:Good X (.Dict [] [] p) (tt1 Jx):=
 .one (g0 _ JD (λσ H Q ⟨as,ρ,S,ok,en,h⟩=>λl hl=>h _ _ _ (Go.push hl) (ok.pushO hl ⟨[],f8,rfl⟩) (rl_loc.mpr ⟨l,by rw[<-ok.len];exact RJ,rfl⟩))) Bb rfl
theorem Oa:Uc "dict"=some (.type "dict"):=by decide +kernel
theorem IM{n:Bool}{x y:Expr}{p:Pos}{a b:WE×WT}(hu:X.A.units+1<cLine)(ha:Good X x a)(hb:Good X y b)(h:t8 y=true):Good X (.Compare x [if n then .NotIn else .In] [y] p) (tt2 (w2 (Hx n) a.1 b.1)):=by
 have m:Mono (w2 (Hx n) a.1 b.1) := .two AX ha.m hb.m;cases n with
 | false=>exact{pe:=g0 _ (Ib (JB hu ha.pe hb.pe) (u7 h)) (v6 Bt AX ha.m hb.m)
                pt:=B7 _ (Ic (JB hu ha.pe hb.pe) (u7 h)) λσ H Q h=>v6 Bt AX ha.m hb.m σ H _ (CF m σ H Q h)
                m:=m
                mt := .bl m
                pw:=λ_ _ _ e=>by cases e}
 | true=>exact{pe:=g0 _ (Ib (Cr hu ha.pe hb.pe) (u7 h)) (v6 Bt AX ha.m hb.m)
               pt:=B7 _ (Ic (Cr hu ha.pe hb.pe) (u7 h)) λσ H Q h=>v6 Bt AX ha.m hb.m σ H _ (CF m σ H Q h)
               m:=m
               mt := .bl m
               pw:=λ_ _ _ e=>by cases e}
end
section
variable{K:Qo}{as:List UV}{H:Hp}{S:Sto}
theorem Av:Mono2 E6:=λx y S P P' i ⟨xs,a,b,q⟩=>⟨xs,a,b,i _ _ q⟩
theorem EK:Am K E6 (λx y H Q=>∃ a b xs,x = .ref a/\y = .ref b/\SqT K H a xs/\SqT K H b []/\Q (.bl xs.isEmpty) H):=λas H S x y v u Q ok rx ry h=>by
 obtain⟨xs,rfl,rfl,q⟩:=h;obtain⟨a,vs,rfl,hv,rv⟩:=rl_tup.mp rx;obtain⟨b,ws,rfl,hw,rw'⟩:=rl_tup.mp ry;obtain rfl:=rla_nil.mp rw';have e:vs.isEmpty=xs.isEmpty:=by have:=rv.length;cases vs<;>cases xs<;>first | rfl | (simp at this)
 refine⟨a,b,vs,rfl,rfl,SqT.of hv,SqT.of hw,?_⟩;rw[e];exact q.here ok (rl_bl.mpr rfl)
end
section
variable{X:Cx}
theorem Fh{ra rb:Expr}{p:Pos}{wa wb:WE}(hu:X.A.units+1<cLine)(ha:PE X ra (lift X.K wa))(hb:PE X rb (lift X.K wb))(ma:Mono wa)(mb:Mono wb)(hn:t8 rb=true):Good X (.Compare ra [.Eq] [rb] p) (tt2 (w2 E6 wa wb)):=by
 have m:Mono (w2 E6 wa wb) := .two Av ma mb
 exact{pe:=g0 _ (GC (GS (by omega)) ha hb (u7 hn)) (v6 EK Av ma mb)
       pt:=B7 _ (GD (GS (by omega)) ha hb (u7 hn)) λσ H Q h=>v6 EK Av ma mb σ H _ (CF m σ H Q h)
       m:=m
       mt := .bl m
       pw:=λ_ _ _ e=>by cases e}
end
theorem CJ{a:WE}(m:Mono a):Mono (FS a):=λρ S P P' i h=>m _ _ _ _ (λx S1 ⟨kvs,b,q⟩=>⟨kvs,b,i _ _ q⟩) h
theorem CK{a:WE}(m:Mono a):Mono (FT a):=λρ S P P' i h=>m _ _ _ _ (λx S1 ⟨kvs,b,q⟩=>⟨kvs,b,i _ _ q⟩) h
theorem Cz{a:WE}(m:Mono a):Mono (Jv a):=λρ S P P' i h=>m _ _ _ _ (λx S1 ⟨k,xs,a,b,c,d,q⟩=>⟨k,xs,a,b,c,d,λys p=>i _ _ (q ys p)⟩) h
theorem RlD.vals{K:Qo}{as:List UV}{H:Hp}:∀{kvs:List (Int×SV)} {ks:List (Key×V)},RlD K as H ks kvs->RlAll K as H (ks.map (·.2)) (kvs.map (·.2))
 | [],_,h=>by rw[show _=[] from h];rfl
 | p::r,_,⟨v,t,e,a,h⟩=>by rw[e];exact⟨v,_,rfl,a,RlD.vals h⟩
theorem RlD.at{K:Qo}{as:List UV}{H:Hp}:∀{kvs:List (Int×SV)} {ks:List (Key×V)} {i:Nat} {p:Int×SV},RlD K as H ks kvs->kvs[i]?=some p->∃ v,ks[i]?=some (.inl p.1,v)/\Rl K as H v p.2
 | [],_,i,p,_,hp=>by simp at hp
 | p::r,_,0,_,⟨v,t,e,a,h⟩,hp=>by cases hp;exact⟨v,by rw[e];rfl,a⟩
 | p::r,_,i+1,_,⟨v,t,e,a,h⟩,hp=>by
   obtain⟨u,hu,ru⟩:=RlD.at (i:=i) h hp;exact⟨u,by rw[e];exact hu,ru⟩
theorem EL{X:Cx}{T:List Str}{Δ:Nat->Sn}{k:Nat}{N:List Str}{sc:Ug}{r:Expr}{p q ap cp:Pos}{a:WE×WT}(C:Cok T Δ X k N sc)(hg:glo sc "list"=true)(ha:Good X r a)(hn:y6 r=true)(hl:(ap.endLine == cp.line)=true):Good X (.Call (.Name "list" p) [.Call (.Attribute r "values" ap) [] [] cp] [] q) (tt1 (FS a.1)):=by
 unfold glo at hg;simp only[Qp,bQ,RG]at hg;have gl:Gl X "list":=by show X.env.scope.names.lookup ("list":Str)=_;rw[C.hs];exact hg.1.1
 refine .one (g0 _ (KJ C.calm gl (C.bl .list) DS ha.pe (l7 hn) hl rfl) ?_) (CJ ha.m) rfl;rintro σ H Q ⟨as,ρ,S,ok,en,h⟩;refine⟨as,ρ,S,ok,en,ha.m _ _ _ _ (λx S1 ⟨kvs,h1,q⟩ as1 H1 v g1 ok1 rv=>?_) h⟩;obtain⟨a,k,ks,rfl,rfl,ea,rd,rr⟩:=Ff ok1 rv h1;exact⟨a,ks,rfl,rd,A7 ok1 (RlD.vals rr) (q.mono g1)⟩
theorem EM{X:Cx}{T:List Str}{Δ:Nat->Sn}{k:Nat}{N:List Str}{sc:Ug}{r:Expr}{p q:Pos}{a:WE×WT}(C:Cok T Δ X k N sc)(hg:glo sc "dict"=true)(ha:Good X r a)(hs:c9 r=true):Good X (.Call (.Name "dict" p) [r] [] q) (tt1 (FT a.1)):=by
 unfold glo at hg;simp only[Qp,bQ,RG]at hg;have gl:Gl X "dict":=by show X.env.scope.names.lookup ("dict":Str)=_;rw[C.hs];exact hg.1.1
 refine .one (g0 _ (p9 FZ gl C.dc0 Oa (l4 ha.pe A0 (f7 hs)) (by decide) hg.2 (f7 hs) rfl) ?_) (CK ha.m) rfl;rintro σ H Q ⟨as,ρ,S,ok,en,h⟩;refine⟨as,ρ,S,ok,en,ha.m _ _ _ _ (λx S1 ⟨kvs,h1,q⟩ as1 H1 v g1 ok1 rv=>?_) h⟩;obtain⟨a,k,ks,rfl,rfl,ea,rd,rr⟩:=Ff ok1 rv h1;exact⟨a,ks,rfl,rd,λl hl=>q _ _ _ (g1.trans (Go.push hl)) (ok1.pushO hl ⟨_,f8,RlD.mono (SA _ _) (l6 hl) kvs ks rr⟩) (rl_loc.mpr ⟨l,by rw[<-ok1.len];exact RJ,rfl⟩)⟩
theorem Fi{X:Cx}{T:List Str}{Δ:Nat->Sn}{k:Nat}{N:List Str}{sc:Ug}{r:Expr}{p q:Pos}{a:WE×WT}(C:Cok T Δ X k N sc)(hg:glo sc "sorted"=true)(ha:Good X r a)(hs:c9 r=true):Good X (.Call (.Name "sorted" p) [r] [] q) (tt1 (Jv a.1)):=by
 unfold glo at hg;simp only[Qp,bQ,RG]at hg;have gl:Gl X "sorted":=by show X.env.scope.names.lookup ("sorted":Str)=_;rw[C.hs];exact hg.1.1
 refine .one (g0 _ (m9 Ce gl (C.bl .sorted) Hs (l4 ha.pe A0 (f7 hs)) (by decide) hg.2 (f7 hs) rfl) ?_) (Cz ha.m) rfl;rintro σ H Q ⟨as,ρ,S,ok,en,h⟩;refine⟨as,ρ,S,ok,en,ha.m _ _ _ _ (λx S1 ⟨k,xs,e0,h1,h2,h3,q⟩ as1 H1 v g1 ok1 rv=>?_) h⟩;subst e0;obtain⟨a,us,rfl,ea,ha,rr⟩:=j8 ok1 rv h1;refine⟨a,us,rfl,SqL.of ha,λw hw=>?_,by rw[rr.length];exact h2,λl ws' hl pw=>?_⟩
 ·obtain⟨j,hj⟩:=SR hw;have jl:=(gM hj).1;have hx:=R4 (show j<xs.length by rw[<-rr.length];exact jl);obtain⟨w',e,rw'⟩:=rr.get hx;rw[hj]at e;cases e;obtain⟨i,m,e1⟩:=h3 _ (R1 hx);rw[e1]at rw';obtain⟨q,vs,rfl,hq,rq⟩:=rl_tup.mp rw';obtain⟨u1,u2,rfl,r1,r2⟩:=Je rq;exact⟨q,i,m,rfl,by rw[hq,rl_int.mp r1,rl_int.mp r2]⟩
 ·obtain⟨ys,ry,py⟩:=RlAll.perm pw rr;exact A7 ok1 ry ((q ys py).mono g1) l hl
end Rf
namespace PySem
structure ZipFar(z TI TO i1 i2:UV)(f1 f2:List UV):Prop where
 iz:TI≠z/\TO≠z/\i1≠z/\i2≠z
 im:TI≠TO/\TI≠i1/\TI≠i2/\TO≠i1/\TO≠i2/\i1≠i2
 g1:∀ c∈f1,c≠z/\c≠TO/\c≠i2
 g2:∀ c∈f2,c≠z/\c≠TO/\c≠i1
section
variable{prog:Ua}{w:Ud}{A:Uj}{E:UT->UU->Prop}{s:UU}
theorem DU{z TI TO i1 i2:UV}{f1 f2:List UV}{n1 n2 k:Nat}{P1 P2:Nat->UT->Prop}{S1 S2:Nat->Heap->Prop}{Q:UT->UU->Prop}
 (W1:Draws prog w A i1 f1 n1 P1 S1) (W2:Draws prog w A i2 f2 n2 P2 S2) (Fa:ZipFar z TI TO i1 i2 f1 f2) (hz:IsZip s.heap z TI TO .none) (hI:IsPair s.heap TI (.ref i1) (.ref i2)) (hO:∃ a b,IsPair s.heap TO a b)
 (t1:S1 k s.heap) (t2:S2 k s.heap) (l1:k<n1) (l2:k<n2)
 (hQ:∀ x y h' tk,P1 k x->P2 k y->IsZip h' z TI TO (rawInt s.heap.objs.size)->(∃ a b,IsPair h' TO a b)->S1 (k+1) h'->S2 (k+1) h'->IsPair h' s.heap.objs.size x y->h'.objs.size=s.heap.objs.size+1->
   (∀ c o,c≠z->c≠TO->c≠i1->c≠i2->s.heap.get? c=some o->h'.get? c=some o)->Q (.ref s.heap.objs.size) {s with heap:=h',toks:=tk}):
 UX (UZ prog w) A (Builtin.«zip.__next__» ⟨[.ref z],[]⟩) (λfin s'=>∃ v,fin = .done (.ret v)/\Q v s') E s:=by
 obtain⟨a,b,hO⟩:=hO;obtain⟨z1,z2,z3,z4⟩:=Fa.iz;obtain⟨m1,m2,m3,m4,m5,m6⟩:=Fa.im;have get2:∀{R:UT->UU->Prop},R (.bool false) s->UX (UZ prog w) A (field (.ref z) 2) R E s:=λq=>Ul hz rfl (x := .bool false) rfl q;show UX _ _ (field (.ref z) 2 >>= _) _ _ _;refine US (get2 ?_);show UX _ _ (field (.ref z) 3 >>= _) _ _ _;refine US (Ul hz rfl (x := .ref TI) rfl (US (V4 hI rfl ?_)));show UX _ _ (Builtin.SmallTypes.ownedTupleIsFree (.ref z) >>= _) _ _ _;refine US ?_;unfold Builtin.SmallTypes.ownedTupleIsFree;refine US (Ul hz rfl (x := .none) rfl (UW ?_));simp only[if_true];refine US (VA (US (Ul hz rfl (x := .ref TO) rfl (US (V7 hz (by simp) λha za ka=>US ?_)))));replace za:IsZip ha z TI TO .ellipsis:=za;simp only[U2,U5,SY,Tc];refine US (US (Vy ?_));show UX _ _ (Builtin.SmallTypes.nextOf (.ref i1) >>= _) _ _ _;have t1a:S1 k ha:=W1.frame _ _ _ t1 λc hc o e=>ka.extBut _ _ (Fa.g1 c hc).1 e;refine US (W1.item k {s with heap:=ha} _ _ l1 t1a λx hb tb px t1b kb=>UW ?_);have Ob:IsPair hb TO a b:=kb.extBut _ _ m4 (ka.extBut _ _ z2 hO);refine US (V4 Ob rfl (US (Vr Ob λhc Oc kc=>?_)));replace Oc:IsPair hc TO x b:=Oc;refine US (WK (UW ?_));refine US (US (Vy ?_));show UX _ _ (Builtin.SmallTypes.nextOf (.ref i2) >>= _) _ _ _;have t2c:S2 k hc:=W2.frame _ _ _ t2 λc hm o e=>kc.extBut _ _ (Fa.g2 c hm).2.1 (kb.extBut _ _ (Fa.g2 c hm).2.2 (ka.extBut _ _ (Fa.g2 c hm).1 e));refine US (W2.item k {s with heap:=hc,toks:=tb} _ _ l2 t2c λy hd td py t2d kd=>UW ?_);have Od:IsPair hd TO x b:=kd.extBut _ _ m5 Oc;refine US (V4 Od rfl (US (Vr Od λhe Oe ke=>?_)));replace Oe:IsPair he TO x y:=Oe;refine US (WK (UW (UW ?_)));refine US (V4 Oe rfl (US (We ?_)));have hsz:he.objs.size=s.heap.objs.size:=by rw[ke.1,kd.1,kc.1,kb.1,ka.1]
 have ze:IsZip he z TI TO .ellipsis:=ke.extBut _ _ z2.symm (kd.extBut _ _ z4.symm (kc.extBut _ _ z2.symm (kb.extBut _ _ z3.symm za)));have kk:∀ c o,c≠z->c≠TO->c≠i1->c≠i2->s.heap.get? c=some o->he.get? c=some o:=λc o c1 c2 c3 c4 e=>ke.extBut _ _ c2 (kd.extBut _ _ c4 (kc.extBut _ _ c2 (kb.extBut _ _ c3 (ka.extBut _ _ c1 e))));have lz:z<he.objs.size:=Qw ze;show UX _ _ (Builtin.SmallTypes.ownedTupleHandOut (.ref z) (.ref he.objs.size) >>= _) _ _ _;refine US ?_;unfold Builtin.SmallTypes.ownedTupleHandOut;have zf:IsZip (he.push {cls := .type "tuple",data := .seq #[x,y]}) z TI TO .ellipsis:=Qq _ ze;refine US (V7 zf (by simp) λhf zf' kf=>?_);replace zf':IsZip hf z TI TO (rawInt he.objs.size):=zf';refine V7 zf' (by simp) λhg zg kg=>?_;replace zg:IsZip hg z TI TO (rawInt he.objs.size):=zg;have up:∀ c o,c≠z->he.get? c=some o->hg.get? c=some o:=λc o c1 e=>kg.extBut _ _ c1 (kf.extBut _ _ c1 (Qq _ e));have Tg:IsPair hg he.objs.size x y:=kg.extBut _ _ (Sr lz) (kf.extBut _ _ (Sr lz) (Qx _ rfl));have sg:hg.objs.size=he.objs.size+1:=by rw[kg.1,kf.1,RT]
 rw[hsz]at zg Tg sg;refine UW ⟨_,rfl,?_⟩;show Q (.ref he.objs.size) _;rw[hsz]
 refine hQ x y hg td px py zg ⟨x,y,up _ _ z2 Oe⟩ (W1.frame _ _ _ t1b λc hm o e=>up c o (Fa.g1 c hm).1 (ke.extBut _ _ (Fa.g1 c hm).2.1 (kd.extBut _ _ (Fa.g1 c hm).2.2 (kc.extBut _ _ (Fa.g1 c hm).2.1 e))))
  (W2.frame _ _ _ t2d λc hm o e=>up c o (Fa.g2 c hm).1 (ke.extBut _ _ (Fa.g2 c hm).2.1 e)) Tg sg λc o c1 c2 c3 c4 e=>up c o c1 (kk c o c1 c2 c3 c4 e)
theorem EN{z TI TO i1 i2:UV}{f1:List UV}{n1:Nat}{P1:Nat->UT->Prop}{S1:Nat->Heap->Prop}{Q:Fin->UU->Prop}
 (W1:Draws prog w A i1 f1 n1 P1 S1) (iz:i1≠z) (g1:∀ c∈f1,c≠z) (hz:IsZip s.heap z TI TO .none) (hI:IsPair s.heap TI (.ref i1) (.ref i2)) (t1:S1 n1 s.heap)
 (hE:∀ h' e,(∀ c o,c≠z->c≠i1->s.heap.get? c=some o->h'.get? c=some o)->(∃ o,h'.get? e=some o/\o.cls = .type "StopIteration")->E (.ref e) {s with heap:=h'}):
 UX (UZ prog w) A (Builtin.«zip.__next__» ⟨[.ref z],[]⟩) Q E s:=by
 show UX _ _ (field (.ref z) 2 >>= _) _ _ _;refine US (Ul hz rfl (x := .bool false) rfl ?_);show UX _ _ (field (.ref z) 3 >>= _) _ _ _;refine US (Ul hz rfl (x := .ref TI) rfl (US (V4 hI rfl ?_)));show UX _ _ (Builtin.SmallTypes.ownedTupleIsFree (.ref z) >>= _) _ _ _;refine US ?_;unfold Builtin.SmallTypes.ownedTupleIsFree;refine US (Ul hz rfl (x := .none) rfl (UW ?_));simp only[if_true];refine US (VA (US (Ul hz rfl (x := .ref TO) rfl (US (V7 hz (by simp) λha za ka=>US ?_)))));replace za:IsZip ha z TI TO .ellipsis:=za;simp only[U2,U5,SY,Tc];refine US (US (Vy ?_));show UX _ _ (Builtin.SmallTypes.nextOf (.ref i1) >>= _) _ _ _;refine US (W1.done {s with heap:=ha} _ _ (W1.frame _ _ _ t1 λc hc o e=>ka.extBut _ _ (g1 c hc) e) λhb e kb he=>?_);obtain⟨oe,hoe,hce⟩:=he;have zb:IsZip hb z TI TO .ellipsis:=kb _ _ iz.symm za;have ez:e≠z:=λx=>by subst x;rw[zb]at hoe;cases hoe;simp at hce
 exact V7 zb (by simp) λhc _ kc=>hE hc e (λc o c1 c3 x=>kc.extBut _ _ c1 (kb _ _ c3 (ka.extBut _ _ c1 x))) ⟨oe,kc.extBut _ _ ez hoe,hce⟩
theorem BM{z TI TO i1 i2:UV}{f1 f2:List UV}{n1 n2 k:Nat}{P1 P2:Nat->UT->Prop}{S1 S2:Nat->Heap->Prop}{Q:Option UT->UU->Prop}
 (W1:Draws prog w A.in1 i1 f1 n1 P1 S1) (W2:Draws prog w A.in1 i2 f2 n2 P2 S2) (Fa:ZipFar z TI TO i1 i2 f1 f2) (hz:IsZip s.heap z TI TO .none) (hI:IsPair s.heap TI (.ref i1) (.ref i2)) (hO:∃ a b,IsPair s.heap TO a b)
 (t1:S1 k s.heap) (t2:S2 k s.heap) (l1:k<n1) (l2:k<n2)
 (hQ:∀ x y h' tk,P1 k x->P2 k y->IsZip h' z TI TO (rawInt s.heap.objs.size)->(∃ a b,IsPair h' TO a b)->S1 (k+1) h'->S2 (k+1) h'->IsPair h' s.heap.objs.size x y->h'.objs.size=s.heap.objs.size+1->
   (∀ c o,c≠z->c≠TO->c≠i1->c≠i2->s.heap.get? c=some o->h'.get? c=some o)->Q (some (.ref s.heap.objs.size)) {s with heap:=h',toks:=tk}):
 UX (UZ prog w) A (pyNext (.ref z)) Q E s:=by
 have hT:s.TypeIs (.ref z) "zip":=⟨_,hz,rfl⟩
 unfold pyNext
 exact US (Vw (Uo (name:=Str.ofString "__next__") hT F.slot_zip_next
  (Uw F.slot_zip_next hT F.entry_zip_next (DU W1 W2 Fa hz hI hO t1 t2 l1 l2 λx y h' tk a1 a2 a3 a4 a5 a6 a7 a8 a9=>UW (hQ x y h' tk a1 a2 a3 a4 a5 a6 a7 a8 a9)) (F.args_zip_next_1 _))))
theorem Bc{z TI TO i1 i2:UV}{f1:List UV}{n1:Nat}{P1:Nat->UT->Prop}{S1:Nat->Heap->Prop}{Q:Option UT->UU->Prop}
 (W1:Draws prog w A.in1 i1 f1 n1 P1 S1) (iz:i1≠z) (g1:∀ c∈f1,c≠z) (hz:IsZip s.heap z TI TO .none) (hI:IsPair s.heap TI (.ref i1) (.ref i2)) (t1:S1 n1 s.heap)
 (hQ:∀ h',(∀ c o,c≠z->c≠i1->s.heap.get? c=some o->h'.get? c=some o)->Q none {s with heap:=h'}):UX (UZ prog w) A (pyNext (.ref z)) Q E s:=by
 have hT:s.TypeIs (.ref z) "zip":=⟨_,hz,rfl⟩
 unfold pyNext
 refine US (Vw (Uo (name:=Str.ofString "__next__") hT F.slot_zip_next
  (Uw F.slot_zip_next hT F.entry_zip_next (EN W1 iz g1 hz hI t1 λh' e hk he=>?_) (F.args_zip_next_1 _))))
 obtain⟨o,ho,hc⟩:=he;exact US (wpAny_isInstance (T:="StopIteration") (b:=true) ⟨o,ho,hc⟩ isSubtype_stop (UW (hQ _ hk)))
end
noncomputable abbrev MK(l:UV):Obj:={cls := .type "tuple_iterator",data := .fields #[.ref l,.int 0 0]}
end PySem
namespace L2
open PySem PySem.Spec PyProof.Rows
theorem Gi{z TI TO i1 i2 l1 l2:UV}(D:ZipApart z TI TO i1 i2 l1 l2):ZipFar z TI TO i1 i2 [i1,l1] [i2,l2] where
 iz:=⟨D.TIz,D.TOz,D.i1z,D.i2z⟩
 im:=⟨D.TITO,D.TIi1,D.TIi2,D.TOi1,D.TOi2,D.i12⟩
 g1:=λc hc=>by
  rcases R0.mp hc with rfl | hc
  ·exact⟨D.i1z,D.TOi1.symm,D.i12⟩
  ·rw[Qu.mp hc];exact⟨D.l1z,D.l1TO,D.l1i2⟩
 g2:=λc hc=>by
  rcases R0.mp hc with rfl | hc
  ·exact⟨D.i2z,D.TOi2.symm,D.i12.symm⟩
  ·rw[Qu.mp hc];exact⟨D.l2z,D.l2TO,D.l2i1⟩
end L2
namespace PySem
noncomputable abbrev EO(l:UV):Obj:={cls := .type "list_iterator",data := .fields #[.ref l,.int 0 0]}
noncomputable abbrev zm3(h:Heap)(l1 l2:UV):Heap:=((h.push (EO l1)).push (MK l2)).push {cls := .type "tuple",data := .seq #[.ref h.objs.size,.ref (h.push (EO l1)).objs.size]}
noncomputable abbrev zm4(h:Heap)(l1 l2:UV):Heap:=(zm3 h l1 l2).push {cls := .type "tuple",data := .seq #[.none,.none]}
noncomputable abbrev zm5(h:Heap)(l1 l2:UV):Heap:=(zm4 h l1 l2).push {cls := .type "zip",data := .fields #[.none,.bool false,.bool false,.ref ((h.push (EO l1)).push (MK l2)).objs.size,.ref (zm3 h l1 l2).objs.size]}
theorem DV(l1 l2:UV)(xs ys:Array UT):
 Meets (Builtin.«zip.__new__» ⟨[.type "zip",.ref l1,.ref l2],[]⟩) (λ_ R s=>s.heap.IsList l1 xs/\s.heap.IsTuple l2 ys/\
  R (.ok (.ret (.ref (zm4 s.heap l1 l2).objs.size))) {s with heap:=zm5 s.heap l1 l2}):=
 .of_wp λprog w A R s h=>by
  obtain⟨hp,g,d,tk,os⟩:=s;obtain⟨hl1,hl2,h⟩:=h;have hsub:=sub_zip;have hL1:Heap.IsList (Shared.heap ⟨hp,g,d,tk,os⟩) l1 xs:=hl1;have hL2:UG (Shared.heap ⟨hp.push (EO l1),g,d,tk,os⟩) l2 ys:=let ⟨o,e,r⟩:=hl2;⟨o,Qq _ e,r⟩
  wp_walk using V9 hL1,Uz hL2
  exact⟨_,rfl,h⟩
section
variable{prog:Ua}{w:Ud}{A:Uj}{E:UT->UU->Prop}{s:UU}
theorem Cf{l1 l2:UV}{xs ys:Array UT}{Q:UT->UU->Prop}(hl1:s.heap.IsList l1 xs)(hl2:s.heap.IsTuple l2 ys)
 (h:∀ h',IsZip h' (s.heap.objs.size+4) (s.heap.objs.size+2) (s.heap.objs.size+3) .none->IsPair h' (s.heap.objs.size+2) (.ref s.heap.objs.size) (.ref (s.heap.objs.size+1))->
   (∃ a b,IsPair h' (s.heap.objs.size+3) a b)->h'.IsListIter s.heap.objs.size l1 0->h'.IsTupleIter (s.heap.objs.size+1) l2 0->
   (∀ c o,s.heap.get? c=some o->h'.get? c=some o)->Q (.ref (s.heap.objs.size+4)) {s with heap:=h'}):
 UX (UZ prog w) A (call (.type "zip") [.ref l1,.ref l2]) Q E s:=by
 refine callType_new F.called_zip (by decide) (F.typeCall_zip_2 _ _) (F.newCall_zip_2 _ _) (λobj=>F.args_object_init_3 obj _ _) F.entry_zip_new (DV l1 l2 xs ys) ⟨hl1,hl2,?_⟩;have y1:(s.heap.push (EO l1)).objs.size=s.heap.objs.size+1:=RT ..;have y2:((s.heap.push (EO l1)).push (MK l2)).objs.size=s.heap.objs.size+2:=by rw[RT,y1]
 have y3:(zm3 s.heap l1 l2).objs.size=s.heap.objs.size+3:=by rw[RT,y2]
 have y4:(zm4 s.heap l1 l2).objs.size=s.heap.objs.size+4:=by rw[RT,y3]
 have up:∀{h0:Heap} {o1:Obj} {c o},h0.get? c=some o->(h0.push o1).get? c=some o:=λe=>Qq _ e;have q5:(zm5 s.heap l1 l2).get? (zm4 s.heap l1 l2).objs.size=some _:=Qx _ rfl;have q4:(zm5 s.heap l1 l2).get? (zm3 s.heap l1 l2).objs.size=some _:=up (Qx _ rfl);have q3:(zm5 s.heap l1 l2).get? ((s.heap.push (EO l1)).push (MK l2)).objs.size=some _:=up (up (Qx _ rfl));have q2:(zm5 s.heap l1 l2).get? (s.heap.push (EO l1)).objs.size=some _:=up (up (up (Qx _ rfl)));have q1:(zm5 s.heap l1 l2).get? s.heap.objs.size=some _:=up (up (up (up (Qx _ rfl))));show _/\_;rw[y2,y3,y4]at q5;rw[y1,y2]at q3;rw[y3]at q4;rw[y1]at q2;rw[y4];exact⟨⟨_,q5,rfl⟩,h _ q5 q3 ⟨_,_,q4⟩ ⟨_,q1,rfl,rfl⟩ ⟨_,q2,rfl,rfl⟩ λc o x=>up (up (up (up (up x))))⟩
end
end PySem
namespace L2
open PySem PySem.Spec PyProof.Rows
noncomputable def Of(K:Qo)(a b:UV):It:=
 ⟨λi H=>∃ xs ys x y,SqL K H a xs/\SqT K H b ys/\xs[i]?=some x/\ys[i]?=some y,
  λi H x H'=>∃ p v u,H p=none/\x = .ref p/\(∀ xs,SqL K H a xs->xs[i]?=some v)/\(∀ ys,SqT K H b ys->ys[i]?=some u)/\H'=upd H p (.tup [v,u]),
  λi H=>∃ xs,SqL K H a xs/\xs.length=i⟩
theorem IN{P:Ua}{w:Ud}{K:Qo}{elts:List Expr}{kx:Nat}{tp:Pos}(z TI TO i1 i2 l1 l2:UV)(D:ZipApart z TI TO i1 i2 l1 l2):Turn P w K (.Tuple elts kx tp) (Of K l1 l2) [z,TI,TO,i1,i2] z
 (λi h=>IsZip h z TI TO .none/\IsPair h TI (.ref i1) (.ref i2)/\(∃ a b,IsPair h TO a b)/\h.IsListIter i1 l1 i/\h.IsTupleIter i2 l2 i) where
 mem:=by simp
 obj:=λi h st b hb=>by
  obtain⟨hz,hTI,⟨a',b',hTO⟩,⟨o1,e1,c1,d1⟩,⟨o2,e2,c2,d2⟩⟩:=st;simp only[R0,TK,or_false]at hb;rcases hb with rfl | rfl | rfl | rfl | rfl
  ·exact⟨_,hz,λv q=>by cases q⟩
  ·exact⟨_,hTI,λv q=>by cases q⟩
  ·exact⟨_,hTO,λv q=>by cases q⟩
  ·exact⟨o1,e1,λv q=>by rw[d1]at q;cases q⟩
  ·exact⟨o2,e2,λv q=>by rw[d2]at q;cases q⟩
 keep:=λi h h' st k=>by
  obtain⟨hz,hTI,⟨a',b',hTO⟩,h1,h2⟩:=st;exact⟨k z (by simp) _ hz,k TI (by simp) _ hTI,⟨a',b',k TO (by simp) _ hTO⟩,h1.at λo q=>k i1 (by simp) o q,h2.at λo q=>k i2 (by simp) o q⟩
 item:=by
  intro X hP hw hK hc i pq s σ H E I hf st hg;subst hP hw hK;obtain⟨xs,ys,x,y,hq1,hq2,hx,hy⟩:=hg;obtain⟨its1,rv1,p1,hz1⟩:=I.list hq1;obtain⟨its2,rv2,p2,hz2⟩:=I.tuple hq2;obtain⟨u1,hu1,ru1⟩:=rv1.get hx;obtain⟨u2,hu2,ru2⟩:=rv2.get hy;obtain⟨hz,hTI,hTO,h1,h2⟩:=st;have hs1:i<its1.toArray.size:=by simpa using (gM hu1).1
  have hs2:i<its2.toArray.size:=by simpa using (gM hu2).1
  refine BM (Draws.list (prog:=X.prog) (w:=X.w) (A:=X.A.in1) (show X.A.in1.handled=none from I.ok.hd hc) i1 l1 D.l1i1 its1.toArray) (w6 (prog:=X.prog) (w:=X.w) (A:=X.A.in1) (show X.A.in1.handled=none from I.ok.hd hc) i2 l2 D.l2i2 its2.toArray) (Gi D) hz hTI hTO ⟨h1,p1.isList⟩ ⟨h2,p2⟩ hs1 hs2 λv1 v2 h' tk e1 e2 b1 b2 b3 b4 b5 b6 hk=>?_;have e1:v1=u1:=by have:=e1.symm.trans (show its1.toArray[i]?=some u1 by simpa using hu1);cases this;rfl
  have e2:v2=u2:=by have:=e2.symm.trans (show its2.toArray[i]?=some u2 by simpa using hu2);cases this;rfl
  subst e1 e2;refine⟨_,rfl,?_⟩
  have I1:Inv X pq σ (upd H s.heap.objs.size (.tup [x,y])) {s with heap:=h',toks:=tk}:=
   I.turnLay (t':=tk) (ch:=[z,TI,TO,i1,i2]) (λb o hb q=>hk b o (λe=>hb (by simp[e])) (λe=>hb (by simp[e])) (λe=>hb (by simp[e])) (λe=>hb (by simp[e])) q) hf ⟨DB,[v1,v2],.cons ru1 (.cons ru2 .nil),⟨_,b5,rfl,_,rfl⟩⟩
  have lt1:i1<s.heap.objs.size:=by obtain⟨_,q,_⟩:=h1;exact Qw q
  have lt2:i2<s.heap.objs.size:=by obtain⟨_,q,_⟩:=h2;exact Qw q
  obtain⟨a',b',hTO⟩:=hTO
  have hfp1:∀ b∈[z,TI,TO,i1,i2],FpOk X pq (upd H s.heap.objs.size (.tup [x,y])) b:=λb hb=>by
   obtain⟨f0,f1⟩:=hf b hb
   have hbl:b≠s.heap.objs.size:=by
    simp only[R0,TK,or_false]at hb;rcases hb with rfl | rfl | rfl | rfl | rfl
    ·exact R5 (Qw hz)
    ·exact R5 (Qw hTI)
    ·exact R5 (Qw hTO)
    ·exact R5 lt1
    ·exact R5 lt2
   exact⟨by rw[e6 hbl];exact f0,f1⟩
  refine wpAny_letOwnedTupleGo_zip b1 λh2' hz' hs'=>?_
  have I2:Inv X pq σ (upd H s.heap.objs.size (.tup [x,y])) {s with heap:=h2',toks:=tk}:=
   Inv.turnedL (s:={s with heap:=h',toks:=tk}) (t':=tk) (ch:=[z,TI,TO,i1,i2]) I1 (λb o hb q=>(hs'.2 b (λe=>hb (by simp[e]))).trans q) hfp1
  obtain⟨a2,b2',b2⟩:=b2
  refine⟨.ref s.heap.objs.size,_,I2,rfl,⟨_,x,y,I.fresh,rfl,λzs hy'=>by rw[I.list_inj hy' hq1];exact hx,λzs hy'=>by rw[I.tuple_inj hy' hq2];exact hy,rfl⟩,
   ⟨hz',hs'.extBut _ _ D.TIz (hk _ _ D.TIz D.TITO D.TIi1 D.TIi2 hTI),⟨_,_,hs'.extBut _ _ D.TOz b2⟩,b3.1.at λo q=>hs'.extBut _ _ D.i1z q,b4.1.at λo q=>hs'.extBut _ _ D.i2z q⟩,λb hb=>(hfp1 b hb).1⟩
 done:=by
   intro X hP hw hK hc i pq s σ H E I hf st hg;subst hP hw hK;obtain⟨xs,hq1,hx⟩:=hg;obtain⟨its1,rv1,p1,hz1⟩:=I.list hq1;obtain⟨hz,hTI,hTO,h1,h2⟩:=st;have hl1:=rv1.length;have hsz:i=its1.toArray.size:=by rw[<-hx,hl1];simp
   subst hsz;refine Bc (Draws.list (prog:=X.prog) (w:=X.w) (A:=X.A.in1) (show X.A.in1.handled=none from I.ok.hd hc) i1 l1 D.l1i1 its1.toArray) D.i1z (λc hc=>((Gi D).g1 c hc).1) hz hTI ⟨h1,p1.isList⟩ λh' hk=>⟨rfl,I.turnedL (t':=s.toks) (ch:=[z,TI,TO,i1,i2]) (λb o hb q=>hk b o (λe=>hb (by simp[e])) (λe=>hb (by simp[e])) q) hf⟩
 self:=λ_ _ _ _ _ st h=>WH st.1 h
section
variable{X:Cx}
noncomputable def QA(K:Qo)(ta:TA):TI:=λσ H R=>ta σ H λvs H1=>∃ a b,vs=[.ref a,.ref b]/\(∃ xs,SqL K H1 a xs)/\(∃ ys,SqT K H1 b ys)/\R (Of K a b) H1
theorem ML{a b:Expr}{ta:TA}{p pos:Pos}{elts:List Expr}{kx:Nat}{tp:Pos}(hg:Gl X "zip")(hm:X.mg "zip"=none)(ha:PA X [a,b] ta)(hs:Ue [a,b] X.env=[(false,eval a X.env),(false,eval b X.env)]:=by rfl)
 (hs2:Ue [b] X.env=[(false,eval b X.env)]:=by rfl):PI X (.Tuple elts kx tp) (.Call (.Name "zip" p) [a,b] [] pos) (QA X.K ta):=by
 intro pq s σ H R I h;refine Call_ (AI I hg hm J7 (PyProof.Rows.callWith_type1 (thn (ha pos pq s σ H _ I h) λus s1 ⟨vs,H1,I1,r1,q1⟩=>?_) (by rw[hs,hs2]) (by rw[hs2];rfl)));obtain⟨l1,l2,e,⟨xs,hq1⟩,⟨ys,hq2⟩,q⟩:=q1;subst e;obtain⟨u1,u2,rfl,r1',r2'⟩:=Vals.two r1;cases r1';cases r2';obtain⟨its1,rv1,p1,hz1⟩:=I1.list hq1;obtain⟨its2,rv2,p2,hz2⟩:=I1.tuple hq2;have hl1:@LT.lt Nat _ l1 s1.heap.objs.size:=by obtain⟨o,n,e,_⟩:=p1;exact Qw e
 have hl2:@LT.lt Nat _ l2 s1.heap.objs.size:=by obtain⟨o,e,_⟩:=p2;exact Qw e
 refine Cf p1.isList p2 λh' c1 c2 c3 c4 c5 hk=>?_;refine WH c1 ?_;have I2:Inv X pq σ H1 {s1 with heap:=h'}:=I1.kept (t':=s1.toks) hk;refine⟨s1.heap.objs.size+4,[s1.heap.objs.size+4,s1.heap.objs.size+2,s1.heap.objs.size+3,s1.heap.objs.size,s1.heap.objs.size+1],_,_,H1,rfl,I2,IN _ _ _ _ _ l1 l2 ?_,⟨c1,c2,c3,c4,c5⟩,λb hb=>?_,q⟩
 ·constructor<;>(show @Ne Nat _ _)<;>omega
 ·have hb2:@LE.le Nat _ s1.heap.objs.size b:=by
   simp only[R0,TK,or_false]at hb;rcases hb with rfl | rfl | rfl | rfl | rfl
   ·exact SI _ _
   ·exact SI _ _
   ·exact SI _ _
   ·exact Qs _
   ·exact SI _ _
  exact I1.fpOk hb2 (I1.hok.fresh hb2)
end
end L2
namespace Rf
open PySem L2
noncomputable def D0(K:Qo)(g:Tg):TG:=λv σ H Q=>∃ as ρ S x,Ok K as H S/\EnvOk K as H σ ρ/\Rl K as H v x/\wTg g x ρ λρ'=>∀ σ',EnvOk K as H σ' ρ'->Q σ' H
noncomputable def Og(K:Qo)(g:Tgs):TGs:=λvs σ H Q=>∃ as ρ S xs,Ok K as H S/\EnvOk K as H σ ρ/\RlAll K as H vs xs/\AE g xs ρ λρ'=>∀ σ',EnvOk K as H σ' ρ'->Q σ' H
mutual
theorem n9:∀(g:Tg) {x:SV} {ρ:EnvS} {P P':EnvS->Prop},(∀ r,P r->P' r)->wTg g x ρ P->wTg g x ρ P'
 | .nm i,x,ρ,P,P',h,q=>by unfold wTg at q ⊢;exact h _ q
 | .tup ts,x,ρ,P,P',h,q=>by
   cases x with
   | tup xs=>unfold wTg at q ⊢;exact EQ ts h q
   | _=>unfold wTg at q;exact q.elim
theorem EQ:∀(g:Tgs) {x:List SV} {ρ:EnvS} {P P':EnvS->Prop},(∀ r,P r->P' r)->AE g x ρ P->AE g x ρ P'
 | .nil,x,ρ,P,P',h,q=>by
   cases x with
   | nil=>unfold AE at q ⊢;exact h _ q
   | cons _ _=>unfold AE at q;exact q.elim
 | .cons t ts,x,ρ,P,P',h,q=>by
   cases x with
   | nil=>unfold AE at q;exact q.elim
   | cons y ys=>unfold AE at q ⊢;exact n9 t (λr q=>EQ ts h q) q
end
theorem Ar{env:Env}:∀{es:List Expr},es.all c9=true->(Uu es env).length=es.length/\(Uu es env).findIdx? (·.1)=none/\∀ e r,es=e::r->(Uu (e::r) env).map (·.2)=assign e env::(Uu r env).map (·.2)
 | [],_=>⟨rfl,rfl,λe r h=>by cases h⟩
 | e::es,h=>by
   rw[Re,Qp]at h;obtain⟨h1,h2,_⟩:=Ar (env:=env) h.2;have:Uu (e::es) env=(false,assign e env)::Uu es env:=by cases e<;>first | rfl | (have:=h.1;cases this)
   rw[this];refine⟨by simp[h1],by rw[List.findIdx?_cons,h2];rfl,λe' r z=>?_⟩;injection z with z1 z2;subst z1 z2;rw[this];rfl
theorem Bd{k:Nat}{N:List Str}{sc:Ug}:∀{g:Tgs} {es:List Expr},A9 k N sc g es=true->es.all c9=true
 | .nil,es,h=>by unfold A9 at h;rw[RO]at h;subst h;rfl
 | .cons t ts,es,h=>by
   rw[A9]at h;replace h:=c6 h;obtain⟨e,he,h⟩:=h;simp only[Qp]at h;rw[AH he,Re,h.1.2,Bd h.2];rfl
section
variable{X:Cx}{T:List Str}{Δ:Nat->Sn}{k:Nat}{N:List Str}{sc:Ug}
mutual
theorem As(C:Cok T Δ X k N sc):∀(g:Tg) (r:Expr),Aq k N sc g r=true->PG X r (D0 X.K g)
 | .nm i,r,h=>by
   rw[Aq]at h;replace h:=c6 h;obtain⟨x,hx,h⟩:=h;obtain⟨p,rfl⟩:=BL hx
   ·simp only[Qp,dQ]at h;obtain⟨⟨h1,h2⟩,h3⟩:=h;unfold loc at h3;simp only[RU,bQ]at h3;have hl:Loc X.env.scope x:=by rw[C.hs];exact h3
    have hf:X.fn x=true\/X.env.scope.names.lookup x=some .local:=by
     rw[C.hs];rcases h3 with h3 | h3
     ·exact .inr h3
     ·exact .inl (C.fn i x h1 h2 h3)
    have b:=LL (X:=X) (pos:=p) (i:=i) (by rw[C.hN];exact C.nd) (by rw[C.hN];exact h2) hl hf;intro pq s σ H v u Q I rr hq;obtain⟨as,ρ,S,y,ok,en,rv,q⟩:=hq;unfold wTg at q;exact b pq s σ H v u Q I rr (q _ (en.set rv))
 | .tup ts,r,h=>by
   rw[Aq]at h;replace h:=c6 h;obtain⟨es,he,h⟩:=h;obtain⟨j,p,rfl⟩:=Au he
   ·have st:=Ar (env:=X.env) (Bd h);have b:=NU (X:=X) (k:=j) (pos:=p) C.calm (D1 C ts es h) st.1 st.2.1;intro pq s σ H v u Q I rr hq;refine b pq s σ H v u Q I rr ?_;obtain⟨as,ρ,S,y,ok,en,rv,q⟩:=hq;cases y with
    | tup xs=>
      obtain⟨a,vs,rfl,ha,ra⟩:=rl_tup.mp rv;unfold wTg at q;refine⟨a,vs,rfl,SqT.of ha,?_,as,ρ,S,xs,ok,en,ra,q⟩;rw[ra.length];exact Gj ts es xs h q
    | _=>unfold wTg at q;exact q.elim
theorem D1(C:Cok T Δ X k N sc):∀(g:Tgs) (es:List Expr),A9 k N sc g es=true->PGs X es (Og X.K g)
 | .nil,es,h=>by
   rw[A9]at h;rw[RO]at h;subst h;intro pq s σ H vs us Q I rr hq;refine LM pq s σ H vs us Q I rr ?_;obtain⟨as,ρ,S,xs,ok,en,rv,q⟩:=hq;cases xs with
   | nil=>unfold AE at q;exact⟨rla_nil.mp rv,q _ en⟩
   | cons _ _=>unfold AE at q;exact q.elim
 | .cons t ts,el,h=>by
   have st:=Ar (env:=X.env) (Bd h);rw[A9]at h;replace h:=c6 h;obtain⟨e,he,h⟩:=h;simp only[Qp]at h;rw[AH he]at st ⊢;generalize el.tail=es at h st;intro pq s σ H vs us Q I rr hq;refine Ii (As C t e h.1.1) (D1 C ts es h.2) (st.2.2 _ _ rfl) pq s σ H vs us Q I rr ?_;obtain⟨as,ρ,S,xs,ok,en,rv,q⟩:=hq;cases xs with
   | nil=>unfold AE at q;exact q.elim
   | cons y ys=>
     unfold AE at q;obtain⟨v,r,rfl,r1,r2⟩:=rla_cons.mp rv;exact⟨v,r,rfl,as,ρ,S,y,ok,en,r1,n9 t (λρ' q σ' en'=>⟨as,ρ',S,ys,ok,en',r2,q⟩) q⟩
theorem Gj:∀(g:Tgs) (es:List Expr) (xs:List SV) {ρ:EnvS} {P:EnvS->Prop},A9 k N sc g es=true->AE g xs ρ P->xs.length=es.length
 | .nil,es,xs,ρ,P,h,q=>by
   rw[A9]at h;rw[RO]at h;subst h;cases xs with
   | nil=>rfl
   | cons _ _=>unfold AE at q;exact q.elim
 | .cons t ts,el,xs,ρ,P,h,q=>by
   rw[A9]at h;replace h:=c6 h;obtain⟨e,he,h⟩:=h;simp only[Qp]at h;rw[AH he];generalize el.tail=es at h;cases xs with
   | nil=>unfold AE at q;exact q.elim
   | cons y ys=>
     unfold AE at q;obtain⟨ρ',q'⟩:=Gk t q;simp[Gj ts es ys h.2 q']
theorem Gk:∀(g:Tg) {x:SV} {ρ:EnvS} {P:EnvS->Prop},wTg g x ρ P->∃ ρ',P ρ'
 | .nm i,x,ρ,P,q=>by unfold wTg at q;exact⟨_,q⟩
 | .tup ts,x,ρ,P,q=>by
   cases x with
   | tup xs=>unfold wTg at q;exact ER ts q
   | _=>unfold wTg at q;exact q.elim
theorem ER:∀(g:Tgs) {xs:List SV} {ρ:EnvS} {P:EnvS->Prop},AE g xs ρ P->∃ ρ',P ρ'
 | .nil,xs,ρ,P,q=>by
   cases xs with
   | nil=>unfold AE at q;exact⟨_,q⟩
   | cons _ _=>unfold AE at q;exact q.elim
 | .cons t ts,xs,ρ,P,q=>by
   cases xs with
   | nil=>unfold AE at q;exact q.elim
   | cons y ys=>
     unfold AE at q;obtain⟨ρ',q'⟩:=Gk t q;exact ER ts q'
end
end
structure Gu(as:List UV)(H:Hp)(as':List UV)(H':Hp):Prop where
 pre:as <+: as'
 kp:KeepU H H'
theorem Gu.ku{K:Qo}{as as':List UV}{H H':Hp}{S:Sto}(g:Gu as H as' H')(_:Ok K as H S):KeepU H H':=g.kp
theorem Go.gu{K:Qo}{as as':List UV}{H H':Hp}{S:Sto}(g:Go as H as' H')(ok:Ok K as H S):Gu as H as' H':=⟨g.pre,g.ku ok⟩
noncomputable def Walks(K:Qo)(as0:List UV)(H0:Hp)(J:It)(keep:Sto->Prop)(xs:List SV):Prop:=∀ as H S,Gu as0 H0 as H->Ok K as H S->keep S->
 (∀(i:Nat) (x:SV),xs[i]?=some x->J.go i H/\∀ v H',J.yld i H v H'->Go as H as H'/\Ok K as H' S/\Rl K as H' v x)/\J.stop xs.length H
noncomputable def QB(K:Qo)(as:List UV)(H:Hp)(R:It->Hp->Prop):(Sto->Prop)->List SV->Sto->Prop:=λkeep xs S1=>∀ as1 H1 J,Go as H as1 H1->Ok K as1 H1 S1->Walks K as1 H1 J keep xs->R J H1
noncomputable def liftI(K:Qo)(w:WI):TI:=λσ H R=>∃ as ρ S,Ok K as H S/\EnvOk K as H σ ρ/\w ρ S (QB K as H R)
noncomputable def MonoI(w:WI):Prop:=∀ ρ S (P P':(Sto->Prop)->List SV->Sto->Prop),(∀ k x S',P k x S'->P' k x S')->w ρ S P->w ρ S P'
structure GoodI(X:Cx)(tg r:Expr)(w:WI):Prop where
 pi:PI X tg r (liftI X.K w)
 m:MonoI w
section
variable{X:Cx}{K:Qo}
theorem ES{as0 as:List UV}{H0 H:Hp}{S1 S:Sto}{x:SV}{v:V}{xs:List SV}(ok1:Ok K as0 H0 S1)(r:Rl K as0 H0 v x)(h:AN x S1=some xs)(g:Gu as0 H0 as H)(ok:Ok K as H S)(kp:Ap x S1 S):Rl K as H v x/\AN x S=some xs:=by
 refine⟨Rl.mono g.pre (g.ku ok1) x v r,?_⟩;cases x with
 | loc k=>
   have kp:S[k]?=S1[k]?:=kp;unfold AN at h ⊢;simp only[kp];exact h
 | _=>exact h
theorem IO{as0:List UV}{H0:Hp}{S1:Sto}{x:SV}{a:UV}{xs:List SV}(ok1:Ok K as0 H0 S1)(r:Rl K as0 H0 (.ref a) x)(n:x ≠ .tup xs)(h:AN x S1=some xs):Walks K as0 H0 (Itl K a) (Ap x S1) xs:=λas H S g ok kp=>by
 obtain⟨r',h'⟩:=ES ok1 r h g ok kp;obtain⟨b,vs,e,hq,rr⟩:=AG ok r' n h';cases e;refine⟨λi y hy=>?_,vs,hq,by rw[rr.length];exact Qs _⟩;obtain⟨v,hv,rv⟩:=rr.get hy;refine⟨⟨vs,v,hq,hv⟩,λu H' yl=>?_⟩;obtain⟨e,yl⟩:=yl;subst e;have:=yl vs hq;rw[hv]at this;cases this;exact⟨Go.refl _ _,ok,rv⟩
theorem KO{as0:List UV}{H0:Hp}{S1:Sto}{a:UV}{xs:List SV}(ok1:Ok K as0 H0 S1)(r:Rl K as0 H0 (.ref a) (.tup xs)):Walks K as0 H0 (Itt K a) (Ap (.tup xs) S1) xs:=λas H S g ok kp=>by
 have r':=Rl.mono g.pre (g.ku ok1) _ _ r;obtain⟨b,vs,e,hb,rr⟩:=rl_tup.mp r';cases e;refine⟨λi y hy=>?_,vs,SqT.of hb,by rw[rr.length];exact Qs _⟩;obtain⟨v,hv,rv⟩:=rr.get hy;refine⟨⟨vs,v,SqT.of hb,hv⟩,λu H' yl=>?_⟩;obtain⟨e,yl⟩:=yl;subst e;have:=yl vs (SqT.of hb);rw[hv]at this;cases this;exact⟨Go.refl _ _,ok,rv⟩
theorem ET{as0:List UV}{H0:Hp}{lo hi:Int}:Walks K as0 H0 (Itr lo (hi - lo).toNat) (λ_=>True) (Az lo hi):=λas H S g ok _=>by
 have hl:(Az lo hi).length=(hi - lo).toNat:=by unfold Az;simp
 refine⟨λi y hy=>?_,by show(hi - lo).toNat<=(Az lo hi).length;rw[hl];exact Qs _⟩;have hi':i<(hi - lo).toNat:=by rw[<-hl];exact(gM hy).1
 refine⟨hi',λu H' yl=>?_⟩;obtain⟨e,rfl⟩:=yl;subst e
 have:y = .int (lo+i):=by
  unfold Az at hy;rw[R8,Sq hi']at hy;exact(oj hy).symm
 subst this;exact⟨Go.refl _ _,ok,rl_int.mpr rfl⟩
theorem EU{xs:List SV}{i:Nat}{y:SV}(h:(CB xs)[i]?=some y):∃ x,xs[i]?=some x/\y = .tup [.int i,x]:=by
 unfold CB at h;rw[TY]at h;cases h1:(Qy xs.length)[i]? with
 | none=>rw[h1]at h;cases h
 | some j=>
   cases h2:xs[i]? with
   | none=>rw[h1,h2]at h;cases h
   | some x=>
     rw[h1,h2]at h;have hi:=(gM h2).1;rw[Sq hi]at h1;cases h1;cases h;exact⟨x,rfl,rfl⟩
theorem EV{xs:List SV}:(CB xs).length=xs.length:=by unfold CB;simp
theorem Fj{as0:List UV}{H0:Hp}{S1:Sto}{x:SV}{a:UV}{xs:List SV}(ok1:Ok K as0 H0 S1)(r:Rl K as0 H0 (.ref a) x)(n:x ≠ .tup xs)(h:AN x S1=some xs):Walks K as0 H0 (Np K a) (Ap x S1) (CB xs):=λas H S g ok kp=>by
 obtain⟨r',h'⟩:=ES ok1 r h g ok kp;obtain⟨b,vs,e,hq,rr⟩:=AG ok r' n h';cases e;refine⟨λi y hy=>?_,vs,hq,by rw[rr.length,EV]⟩;obtain⟨z,hz,rfl⟩:=EU hy;obtain⟨v,hv,rv⟩:=rr.get hz;refine⟨⟨vs,v,hq,hv⟩,λu H' yl=>?_⟩;obtain⟨p,w,hp,rfl,yl,rfl⟩:=yl;have:=yl vs hq;rw[hv]at this;cases this;exact⟨Go.new hp,ok.new hp,rl_tup.mpr ⟨p,_,rfl,f8,.cons (rl_int.mpr rfl) (.cons (Rl.mono (RH _) (l6 hp) z v rv) .nil)⟩⟩
theorem Fk{as0:List UV}{H0:Hp}{S1:Sto}{a:UV}{xs:List SV}(ok1:Ok K as0 H0 S1)(r:Rl K as0 H0 (.ref a) (.tup xs)):Walks K as0 H0 (Nq K a) (Ap (.tup xs) S1) (CB xs):=λas H S g ok kp=>by
 have r':=Rl.mono g.pre (g.ku ok1) _ _ r;obtain⟨b,vs,e,hb,rr⟩:=rl_tup.mp r';cases e;refine⟨λi y hy=>?_,vs,SqT.of hb,by rw[rr.length,EV]⟩;obtain⟨z,hz,rfl⟩:=EU hy;obtain⟨v,hv,rv⟩:=rr.get hz;refine⟨⟨vs,v,SqT.of hb,hv⟩,λu H' yl=>?_⟩;obtain⟨p,w,hp,rfl,yl,rfl⟩:=yl;have:=yl vs (SqT.of hb);rw[hv]at this;cases this;exact⟨Go.new hp,ok.new hp,rl_tup.mpr ⟨p,_,rfl,f8,.cons (rl_int.mpr rfl) (.cons (Rl.mono (RH _) (l6 hp) z v rv) .nil)⟩⟩
theorem Be{tg l:Expr}{w:TI}(w':TI)(h:PI X tg l w)(imp:∀ σ H R,w' σ H R->w σ H R):PI X tg l w':=λpq s σ H R I hw=>h pq s σ H R I (imp σ H R hw)
noncomputable def Qh(K:Qo)(tl:TE):TI:=λσ H R=>tl σ H λx H1=>∃ a,x = .ref a/\(((∃ xs,SqL K H1 a xs)/\R (Itl K a) H1)\/((∃ xs,SqT K H1 a xs)/\R (Itt K a) H1))
theorem Oh{tg l:Expr}{tl:TE}(hl:PE X l tl):PI X tg l (Qh X.K tl):=by
 intro pq s σ H R I h;refine thn (hl pq s σ H _ I h) λv s1 ⟨x,H1,I1,r1,q1⟩=>?_;obtain⟨a,e,q⟩:=q1;subst e;cases r1;have I2:∀{ob:Obj},Inv X pq σ H1 {s1 with heap:=s1.heap.push ob}:=I1.kept (t':=s1.toks) λb o e=>Qq _ e
 have fp:∀ b∈[s1.heap.objs.size],FpOk X pq H1 b:=λb hb=>by
  rw[Qu.mp hb];exact I1.fpOk (Qs _) (I1.hok.fresh (Qs _))
 rcases q with⟨⟨xs,hq⟩,q⟩ | ⟨⟨xs,hq⟩,q⟩
 ·obtain⟨its,rv,p,hz⟩:=I1.list hq;exact V9 p.isList ⟨s1.heap.objs.size,[s1.heap.objs.size],_,_,H1,rfl,I2,HS a _,⟨_,Qx _ rfl,rfl,rfl⟩,fp,q⟩
 ·obtain⟨its,rv,p,hz⟩:=I1.tuple hq;exact Uz (show s1.heap.IsTuple a its.toArray from p) ⟨s1.heap.objs.size,[s1.heap.objs.size],_,_,H1,rfl,I2,F4 a _,⟨_,Qx _ rfl,rfl,rfl⟩,fp,q⟩
theorem IP{tg r:Expr}{a:WE×WT}(ha:Good X r a):GoodI X tg r (N2 a.1) where
 m:=λρ S P P' i h=>ha.m _ _ _ _ (λx S1 ⟨xs,e,q⟩=>⟨xs,e,i _ _ _ q⟩) h
 pi:=Be _ (Oh ha.pe) (by
  rintro σ H R ⟨as,ρ,S,ok,en,h⟩;refine⟨as,ρ,S,ok,en,ha.m _ _ _ _ (λx S1 ⟨xs,e,q⟩ as1 H1 v g1 ok1 rv=>?_) h⟩;by_cases ht:x = .tup xs
  ·subst ht;obtain⟨p,vs,rfl,hp,rr⟩:=rl_tup.mp rv;exact⟨p,rfl,.inr ⟨⟨vs,SqT.of hp⟩,q as1 H1 _ g1 ok1 (KO ok1 rv)⟩⟩
  ·obtain⟨p,vs,rfl,hq,rr⟩:=AG ok1 rv ht e;exact⟨p,rfl,.inl ⟨⟨vs,hq⟩,q as1 H1 _ g1 ok1 (IO ok1 rv ht e)⟩⟩)
theorem Fl{T:List Str}{Δ:Nat->Sn}{k:Nat}{N:List Str}{sc:Ug}{elts:List Expr}{kx:Nat}{tp p q:Pos}{r:Expr}{a:WE×WT}(C:Cok T Δ X k N sc)(hg:glo sc "enumerate"=true)(ha:Good X r a)(hs:c9 r=true):GoodI X (.Tuple elts kx tp) (.Call (.Name "enumerate" p) [r] [] q) (Js a.1) where
 m:=λρ S P P' i h=>ha.m _ _ _ _ (λx S1 ⟨xs,e,q⟩=>⟨xs,e,i _ _ _ q⟩) h
 pi:=by
  unfold glo at hg;simp only[Qp,bQ,RG]at hg;have gl:Gl X "enumerate":=by show X.env.scope.names.lookup ("enumerate":Str)=_;rw[C.hs];exact hg.1.1
  refine Be _ (LY gl C.enm (l4 ha.pe A0 (f7 hs)) (f7 hs)) ?_;rintro σ H R ⟨as,ρ,S,ok,en,h⟩;refine⟨as,ρ,S,ok,en,ha.m _ _ _ _ (λx S1 ⟨xs,e,q⟩ as1 H1 v g1 ok1 rv=>?_) h⟩;by_cases ht:x = .tup xs
  ·subst ht;obtain⟨p,vs,rfl,hp,rr⟩:=rl_tup.mp rv;exact⟨p,rfl,.inr ⟨⟨vs,SqT.of hp⟩,q as1 H1 _ g1 ok1 (Fk ok1 rv)⟩⟩
  ·obtain⟨p,vs,rfl,hq,rr⟩:=AG ok1 rv ht e;exact⟨p,rfl,.inl ⟨⟨vs,hq⟩,q as1 H1 _ g1 ok1 (Fj ok1 rv ht e)⟩⟩
theorem Fm{T:List Str}{Δ:Nat->Sn}{k:Nat}{N:List Str}{sc:Ug}{tg r:Expr}{p q:Pos}{a:WE×WT}(C:Cok T Δ X k N sc)(hg:glo sc "range"=true)(ha:Good X r a)(hs:c9 r=true):GoodI X tg (.Call (.Name "range" p) [r] [] q) (Jq a.1) where
 m:=λρ S P P' i h=>ha.m _ _ _ _ (λx S1 ⟨j,e,z,q⟩=>⟨j,e,z,i _ _ _ q⟩) h
 pi:=by
  unfold glo at hg;simp only[Qp,bQ,RG]at hg;have gl:Gl X "range":=by show X.env.scope.names.lookup ("range":Str)=_;rw[C.hs];exact hg.1.1
  refine Be _ (HU gl C.rng (l4 ha.pe A0 (f7 hs)) (f7 hs)) ?_;rintro σ H R ⟨as,ρ,S,ok,en,h⟩;refine⟨as,ρ,S,ok,en,ha.m _ _ _ _ (λx S1 ⟨j,e,z,q⟩ as1 H1 v g1 ok1 rv=>?_) h⟩;subst e;refine⟨j,by rw[rl_int.mp rv],z.1,z.2,?_⟩;have:=q as1 H1 (Itr 0 (j - 0).toNat) g1 ok1 ET
  rwa [Int.sub_zero]at this
theorem Fn{T:List Str}{Δ:Nat->Sn}{k:Nat}{N:List Str}{sc:Ug}{tg r r2:Expr}{p q:Pos}{a b:WE×WT}(C:Cok T Δ X k N sc)(hg:glo sc "range"=true)(ha:Good X r a)(hb:Good X r2 b)(hs:c9 r=true)(hs2:c9 r2=true):GoodI X tg (.Call (.Name "range" p) [r,r2] [] q) (Jr a.1 b.1) where
 m:=λρ S P P' i h=>ha.m _ _ _ _ (λx S1 h=>hb.m _ _ _ _ (λy S2 ⟨l,j,e,e2,z,q⟩=>⟨l,j,e,e2,z,i _ _ _ q⟩) h) h
 pi:=by
  unfold glo at hg;simp only[Qp,bQ,RG]at hg;have gl:Gl X "range":=by show X.env.scope.names.lookup ("range":Str)=_;rw[C.hs];exact hg.1.1
  refine Be _ (HV gl C.rng (l4 ha.pe (l4 hb.pe A0 (f7 hs2)) (f7 hs)) (by rw[f7 hs,f7 hs2];rfl) (f7 hs2)) ?_;rintro σ H R ⟨as,ρ,S,ok,en,h⟩;refine⟨as,ρ,S,ok,en,ha.m _ _ _ _ (λx S1 h as1 H1 v g1 ok1 rv=>?_) h⟩;refine⟨as1,ρ,S1,ok1,en.mono g1.pre (g1.ku ok),hb.m _ _ _ _ (λy S2 ⟨l,j,e,e2,z,q⟩ as2 H2 u g2 ok2 ru=>?_) h⟩;subst e e2;exact⟨l,j,by rw[rl_int.mp rv,rl_int.mp ru],z,q as2 H2 _ (g1.trans g2) ok2 ET⟩
theorem KP{as1:List UV}{H1:Hp}{a:UV}{k:Nat}{o:Obj}{ks:List (Key×V)}{kvs:List (Int×SV)}(ea:as1[k]?=some a):Walks K as1 H1 (Iti a o ks) (λS'=>S'[k]?=some (.dcf o ks kvs)) (kvs.map λp=>SV.tup [.int p.1,p.2]):=λas H S g ok kp=>by
 have ea':as[k]?=some a:=by
  obtain⟨t,rfl⟩:=g.pre;rw[R6 ((gM ea).1)];exact ea
 obtain⟨h1,h2⟩:=(show RlO K as H a (.dcf o ks kvs) from ok.obj k _ a kp ea')
 refine⟨λi x hx=>?_,by rw[h2.length,Qr];exact Qs _,h1⟩;rw[R8]at hx;obtain⟨p,hp,rfl⟩:=TX.mp hx;obtain⟨v,hv,rv⟩:=RlD.at h2 hp;refine⟨⟨(gM hv).1,h1⟩,λu H' yl=>?_⟩;obtain⟨q,p',hq,rfl,hp',rfl⟩:=yl;rw[hv]at hp';cases hp';exact⟨Go.new hq,ok.new hq,rl_tup.mpr ⟨q,_,rfl,f8,.cons (rl_int.mpr rfl) (.cons (Rl.mono (RH _) (l6 hq) _ v rv) .nil)⟩⟩
theorem IQ{elts:List Expr}{kx:Nat}{tp ap cp:Pos}{r:Expr}{a:WE×WT}(ha:Good X r a)(hn:y6 r=true)(hl:(ap.endLine == cp.line)=true):GoodI X (.Tuple elts kx tp) (.Call (.Attribute r "items" ap) [] [] cp) (N3 a.1) where
 m:=λρ S P P' i h=>ha.m _ _ _ _ (λx S1 ⟨k,kvs,e,hk,q⟩=>⟨k,kvs,e,hk,λo ks=>i _ _ _ (q o ks)⟩) h
 pi:=Be _ (KI ha.pe (l7 hn) hl) (by
  rintro σ H R ⟨as,ρ,S,ok,en,h⟩;refine⟨as,ρ,S,ok,en,ha.m _ _ _ _ (λx S1 ⟨k,kvs,e,hk,q⟩ as1 H1 v g1 ok1 rv=>?_) h⟩;subst e;obtain⟨a,ea,rfl⟩:=rl_loc.mp rv;obtain⟨ks,h1,h2⟩:=ok1.obj k _ a hk ea;refine⟨a,ks,rfl,.inl ⟨h1,λo=>?_⟩⟩;obtain⟨ok2,ku⟩:=ok1.writeO (x := .dcf o ks kvs) (u := .frz o (.dK ks)) hk ea (λku=>⟨f8,RlD.mono (RH _) ku kvs ks h2⟩);exact q o ks as1 _ (Iti a o ks) (g1.trans (Go.write (R1 ea))) ok2 (KP ea))
theorem DW{xs ys:List SV}{i:Nat}{z:SV}(h:(E5 xs ys)[i]?=some z):∃ x y,xs[i]?=some x/\ys[i]?=some y/\z = .tup [x,y]:=by
 unfold E5 at h;rw[TY]at h;cases h1:xs[i]? with
 | none=>rw[h1]at h;cases h
 | some x=>
   cases h2:ys[i]? with
   | none=>rw[h1,h2]at h;cases h
   | some y=>
     rw[h1,h2]at h;cases h;exact⟨x,y,rfl,rfl,rfl⟩
theorem DX{xs ys:List SV}(h:xs.length=ys.length):(E5 xs ys).length=xs.length:=by unfold E5;simp[h]
theorem IR{as0:List UV}{H0:Hp}{S1:Sto}{k:Nat}{a b:UV}{xs ys:List SV}(ok1:Ok K as0 H0 S1)(rx:Rl K as0 H0 (.ref a) (.loc k))(h:S1[k]?=some (.lst xs))(ry:Rl K as0 H0 (.ref b) (.tup ys))(hl:xs.length=ys.length):Walks K as0 H0 (Of K a b) (Ap (.loc k) S1) (E5 xs ys):=λas H S g ok kp=>by
 obtain⟨_,vs,e,ea,hb,rr⟩:=j8 ok (Rl.mono g.pre (g.ku ok1) _ _ rx) (show S[k]?=some (.lst xs) from (show S[k]?=S1[k]? from kp).trans h);cases e;obtain⟨_,us,e,hb2,rr2⟩:=rl_tup.mp (Rl.mono g.pre (g.ku ok1) _ _ ry);cases e;have hq:SqL K H a vs:=SqL.of hb;have hq2:SqT K H b us:=SqT.of hb2;refine⟨λi z hz=>?_,vs,hq,by rw[rr.length,DX hl]⟩;obtain⟨p,q,hp,hq',rfl⟩:=DW hz;obtain⟨v,hv,rv⟩:=rr.get hp;obtain⟨u,hu,ru⟩:=rr2.get hq';refine⟨⟨vs,us,v,u,hq,hq2,hv,hu⟩,λw H' yl=>?_⟩;obtain⟨n,v',u',hn,rfl,y1,y2,rfl⟩:=yl;have e1:=y1 vs hq;have e2:=y2 us hq2;rw[hv]at e1;cases e1;rw[hu]at e2;cases e2;exact⟨Go.new hn,ok.new hn,rl_tup.mpr ⟨n,_,rfl,f8,.cons (Rl.mono (RH _) (l6 hn) p v rv) (.cons (Rl.mono (RH _) (l6 hn) q u ru) .nil)⟩⟩
theorem Fo{T:List Str}{Δ:Nat->Sn}{k:Nat}{N:List Str}{sc:Ug}{elts:List Expr}{kx:Nat}{tp p q:Pos}{r r2:Expr}{a b:WE×WT}(C:Cok T Δ X k N sc)(hg:glo sc "zip"=true)(ha:Good X r a)(hb:Good X r2 b)(hs:c9 r=true)(hs2:c9 r2=true):GoodI X (.Tuple elts kx tp) (.Call (.Name "zip" p) [r,r2] [] q) (Jw a.1 b.1) where
 m:=λρ S P P' i h=>ha.m _ _ _ _ (λx S1 h=>hb.m _ _ _ _ (λy S2 ⟨k,xs,ys,e,z,e2,l,q⟩=>⟨k,xs,ys,e,z,e2,l,i _ _ _ q⟩) h) h
 pi:=by
  unfold glo at hg;simp only[Qp,bQ,RG]at hg;have gl:Gl X "zip":=by show X.env.scope.names.lookup ("zip":Str)=_;rw[C.hs];exact hg.1.1
  refine Be _ (ML gl C.zip (l4 ha.pe (l4 hb.pe A0 (f7 hs2)) (f7 hs)) (by rw[f7 hs,f7 hs2];rfl) (f7 hs2)) ?_;rintro σ H R ⟨as,ρ,S,ok,en,h⟩;refine⟨as,ρ,S,ok,en,ha.m _ _ _ _ (λx S1 h as1 H1 v g1 ok1 rv=>?_) h⟩;refine⟨as1,ρ,S1,ok1,en.mono g1.pre (g1.ku ok),hb.m _ _ _ _ (λy S2 ⟨k,xs,ys,e,z,e2,l,q⟩ as2 H2 u g2 ok2 ru=>?_) h⟩;subst e;subst e2;have rv2:=Rl.mono g2.pre (g2.ku ok1) _ _ rv;obtain⟨a,us,rfl,ea,hq,rr⟩:=j8 ok2 rv2 z;obtain⟨b,ws,rfl,hb,rr2⟩:=rl_tup.mp ru;exact⟨a,b,rfl,⟨us,SqL.of hq⟩,⟨ws,SqT.of hb⟩,q as2 H2 _ (g1.trans g2) ok2 (IR ok2 rv2 z ru l)⟩
end
end Rf
namespace L2
open PySem PySem.Spec PyProof.Rows
noncomputable def SetXO(prog:Ua)(w:Ud)(o:Obj)(L:List Int):Prop:=
 ∃ es ep t,o.ExactSet/\o.data = .set es ep t/\ElemsOf (intKind prog w) es.toList/\es.size<Ux/\t.fits es.size=true/\Tab w t/\(es.toList.map λe=>numOf e.2).Perm L
theorem SetXO.at{prog:Ua}{w:Ud}{o:Obj}{L:List Int}{h:Heap}{a:UV}(x:SetXO prog w o L)(e:h.get? a=some o):SetX prog w h a L:=let ⟨es,ep,t,r⟩:=x;⟨o,es,ep,t,e,r⟩
theorem SetX.obj{prog:Ua}{w:Ud}{L:List Int}{h:Heap}{a:UV}(x:SetX prog w h a L):∃ o,h.get? a=some o/\SetXO prog w o L:=let ⟨o,es,ep,t,e,r⟩:=x;⟨o,e,es,ep,t,r⟩
end L2
namespace Rf
open PySem L2
theorem IS{α:Type}{o:Option (Option α)}{x:α}(h:o.join=some x):o=some (some x):=by
 cases o with
 | none=>cases h
 | some o=>cases o with
   | none=>cases h
   | some y=>cases h;rfl
theorem EnvOk.cap{K:Qo}{as:List UV}{H:Hp}{σ:St}{ρ:EnvS}(h:EnvOk K as H σ ρ)(k:Nat)(js:List Nat):EnvOk K as H (Ag k js σ) (E7 k js ρ):=by
 refine⟨by unfold Ag E7;simp,λi x e=>?_⟩;unfold E7 at e;unfold Ag;by_cases hi:i<k
 ·rw[R6 (by simpa using hi),Rh,iP hi]at e;cases e
 ·rw[RM (by simpa using hi),Sh,R8]at e;rw[RM (by simpa using hi),Sh,R8];cases hj:js[i - k]? with
  | none=>rw[hj]at e;cases e
  | some j=>
    rw[hj]at e;have e':(ρ[j]?).join=some x:=oj e;obtain⟨v,hv,rv⟩:=h.2 j x (IS e');exact⟨v,by simp only[SB];rw[hv];rfl,rv⟩
theorem Ok.adopt{K:Qo}{as:List UV}{H:Hp}{S:Sto}{D:UV}{vs:List V}{xs:List SV}(h:Ok K as H S)(n:D∉as)(hD:H D=some (.lst vs))(r:RlAll K as H vs xs):Ok K (as++[D]) H (S++[.lst xs]):=by
 have pre:as <+: as++[D]:=SA _ _;refine⟨by rw[Qv,Qv,h.len];rfl,?_,λk o a e ea=>?_⟩
 ·rw[Sg];refine⟨h.nd,by simp,λa ha b hb=>?_⟩;rw[Qu.mp hb];intro z;subst z;exact n ha
 ·by_cases hk:k<S.length
  ·rw[R6 hk]at e;rw[R6 (by rw[h.len];exact hk)]at ea;exact(h.obj k o a e ea).mono pre (KeepU.refl _) λ_ z=>z
  ·have hk':k=S.length:=by
    have:=(gM e).1;rw[Qv,RS]at this;omega
   subst hk';rw[RJ]at e;rw[<-h.len,RJ]at ea;cases e;cases ea;exact⟨vs,hD,RlAll.mono pre (KeepU.refl _) xs vs r⟩
theorem B9{keep:Sto->Prop}{g:Tg}{t:WT}{e:WE}{ρ:EnvS}(mt:MonoT t)(me:Mono e){Q Q':List SV->Sto->Prop}(i:∀ ys S,Q ys S->Q' ys S):∀(xs ys:List SV) (S:Sto),j9 keep g t e ρ Q xs ys S->j9 keep g t e ρ Q' xs ys S
 | [],ys,S,h=>by unfold j9 at h ⊢;exact⟨h.1,i _ _ h.2⟩
 | x::xs,ys,S,h=>by
   unfold j9 at h ⊢;refine⟨h.1,n9 g (λρ2 q=>mt _ _ _ _ (λb S1 q=>j7 (λq=>me _ _ _ _ (λy S2 q=>⟨q.1,B9 mt me i xs _ _ q.2⟩) q) (λq=>B9 mt me i xs _ _ q) q) q) h.2⟩
theorem Mono.comp{k:Nat}{js:List Nat}{g:Tg}{i:WI}{t:WT}{e:WE}(mi:MonoI i)(mt:MonoT t)(me:Mono e):Mono (Gb k js g i t e):=λρ S P P' im h=>mi _ _ _ _ (λkeep xs S1 h=>B9 mt me (λys S2 q=>im _ _ q) xs [] S1 h) h
theorem EW{K:Qo}{k:Nat}{js:List Nat}{g:Tg}{i:WI}{t:WT}{e:WE}(mi:MonoI i)(mt:MonoT t)(me:Mono e):∀ σ H Q,lift K (Gb k js g i t e) σ H Q->J6 (liftI K i) (D0 K g) (liftT K t) (lift K e) k js σ H Q:=by
 rintro σ H Q ⟨as,ρ,S,ok,en,h⟩;refine⟨as,ρ,S,ok,en,mi _ _ _ _ (λkeep xs S1 h as1 H1 J g1 ok1 W=>?_) h⟩;intro D hD;have Dn:D∉as1:=ok1.free hD
 refine⟨λi m vs H2=>m=xs.length - i/\i<=xs.length/\∃ as2 S2 ys,Go as1 H1 as2 H2/\Ok K as2 H2 S2/\D∉as2/\H2 D=some (.lst vs)/\RlAll K as2 H2 vs ys/\
  j9 keep g t e (E7 k js ρ) (λys S2=>Post K as H Q (.loc S2.length) (S2++[.lst ys])) (xs.drop i) ys S2,⟨xs.length,by simp,Rz _,as1,S1,[],Go.new hD,ok1.new hD,Dn,f8,.nil,h⟩,?_⟩
 rintro i m vs H2 ⟨rfl,hi,as2,S2,ys,g2,ok2,n2,d2,rs,h⟩;by_cases hlt:i<xs.length
 ·right;rw[Su hlt]at h;unfold j9 at h;obtain⟨kp,h⟩:=h;obtain⟨w1,_⟩:=W as2 H2 S2 (g2.gu ok1) ok2 kp;obtain⟨go,yl⟩:=w1 i xs[i] (R4 hlt)
  refine⟨go,λvs' H'=>∃ as2 S2 ys,Go as1 H1 as2 H'/\Ok K as2 H' S2/\D∉as2/\H' D=some (.lst vs')/\RlAll K as2 H' vs' ys/\
   j9 keep g t e (E7 k js ρ) (λys S2=>Post K as H Q (.loc S2.length) (S2++[.lst ys])) (xs.drop (i+1)) ys S2,λvs' H' z=>⟨xs.length - (i+1),by omega,rfl,hlt,z⟩,λx H3 y3=>?_⟩
  obtain⟨g3,ok3,rx⟩:=yl x H3 y3;have en3:EnvOk K as2 H3 (Ag k js σ) (E7 k js ρ):=((en.mono g1.pre (g1.ku ok)).mono (g2.trans g3).pre ((g2.trans g3).ku ok1)).cap k js;have rs3:=RlAll.mono g3.pre (g3.ku ok2) ys vs rs;obtain⟨d3,n3⟩:=g3.keep D _ d2 n2;refine⟨as2,E7 k js ρ,S2,_,ok3,en3,rx,n9 g (λρ2 q σ2 en2=>?_) h⟩;refine⟨as2,ρ2,S2,ok3,en2,mt _ _ _ _ (λb S4 q as4 H4 g4 ok4=>?_) q⟩;obtain⟨d4,n4⟩:=g4.keep D _ d3 n3;have rs4:=RlAll.mono g4.pre (g4.ku ok3) ys vs rs3;refine j7 (λq=>?_) (λq=>?_) q
  ·refine⟨as4,ρ2,S4,ok4,en2.mono g4.pre (g4.ku ok3),me _ _ _ _ (λy S5 q as5 H5 v g5 ok5 rv=>?_) q⟩;obtain⟨d5,n5⟩:=g5.keep D _ d4 n4;have rs5:=RlAll.mono g5.pre (g5.ku ok4) ys vs rs4;refine⟨d5,by rw[rs.length];exact C9 q.1,as5,S5,ys++[y],?_,ok5.other d5 n5,n5,f8,?_,q.2⟩
   ·refine⟨(((g2.trans g3).trans g4).trans g5).pre,λb o hb nb=>?_⟩;obtain⟨z1,z2⟩:=(((g2.trans g3).trans g4).trans g5).keep b o hb nb;exact⟨by rw[e6 (f9 hb hD)];exact z1,z2⟩
   ·exact RlAll.mono (RH _) (BY d5 rfl) _ _ (rs5.append (.cons rv .nil))
  ·exact⟨as4,S4,ys,(g2.trans g3).trans g4,ok4,n4,d4,rs4,q⟩
 ·left;have hi':i=xs.length:=by omega
  subst hi';rw[U3]at h;unfold j9 at h;obtain⟨kp,h⟩:=h;obtain⟨_,w2⟩:=W as2 H2 S2 (g2.gu ok1) ok2 kp;refine⟨w2,h (as2++[D]) H2 (.ref D) ?_ (ok2.adopt n2 d2 rs) (rl_loc.mpr ⟨D,by rw[<-ok2.len,RJ],rfl⟩)⟩;refine⟨(g1.pre.trans g2.pre).trans (SA _ _),λb o hb nb=>?_⟩;obtain⟨h1,n1⟩:=g1.keep b o hb nb;obtain⟨h2,n2'⟩:=g2.keep b o h1 n1;refine⟨h2,?_⟩;rw[RF,Qu];rintro(z | z)
  ·exact n2' z
  ·exact f9 h1 hD z
theorem D2(ns:List Int)(i:Int):t5 (ns++[i])=PyProof.Rows.step_dedup (t5 ns) i:=by
 unfold t5;rw[Qv,RS,PyProof.Rows.firstMet_succ];have e1:(ns++[i]).getD ns.length 0=i:=by simp
 have e2:PyProof.Rows.firstMet (λj=>(ns++[i]).getD j 0) ns.length=PyProof.Rows.firstMet (λj=>ns.getD j 0) ns.length:=by
  unfold PyProof.Rows.firstMet
  congr 1
  refine List.map_congr_left λj hj=>?_;have hj:=RP.mp hj;simp[R6 hj]
 rw[e1,e2]
theorem EX{scope sc:Ug}{x:Str}(h:scope.names.lookup x=some .local):(E8 scope sc).names.lookup x=some .local:=by
 have go:∀ l:List (Str×Ur),l.lookup x=some .local->(l.map λ(n,k)=>if (k == .free&&sc.kind == .function&&sc.names.lookup n == some .cell) then (n,.cell) else (n,k)).lookup x=some .local:=by
  intro l
  induction l with
  | nil=>intro h;cases h
  | cons a r ih=>
    obtain⟨n,k⟩:=a;intro h;rw[Ri]at h;rw[RK];cases hb:x == n with
    | true=>
      rw[hb]at h;have:k = .local:=oj h;subst this;show Tb x ((n,NameKind.local)::_)=_;rw[Ri,hb]
    | false=>
      rw[hb]at h
      have e:∀ k',Tb x ((n,k')::(r.map λ(n,k)=>if (k == .free&&sc.kind == .function&&sc.names.lookup n == some .cell) then (n,.cell) else (n,k)))=some .local:=λk'=>by
       rw[Ri,hb];exact ih h
      show Tb x ((if (k == .free&&sc.kind == .function&&sc.names.lookup n == some .cell)=true then (n,NameKind.cell) else (n,k))::_)=_;split<;>exact e _
 exact go _ h
theorem Cok.comp{T:List Str}{Δ:Nat->Sn}{X:Cx}{k:Nat}{N:List Str}{sc scope:Ug}{own cn:List Str}{js:List Nat}(C:Cok T Δ X k N sc)(hok:v0 sc scope own cn N js=true)(s2:UU)(H2:Hp)(cs:List (Str×UV))(A:UV)(fp:List UV):Cok T Δ (i0 X scope (own++cn) s2 H2 cs A fp) own.length (own++cn) (E8 scope sc) where
 hN:=rfl
 hs:=by rw[<-C.hs];rfl
 nd:=by
  unfold v0 at hok;simp only[Qp,dQ]at hok;exact hok.1.2
 calm:=C.calm
 fn:=λi x hi hx hc=>by
  unfold v0 at hok;simp only[Qp,dQ,RB,RU]at hok
  have hm:x∈own:=by
   rw[R6 hi]at hx;exact R1 hx
  show(scope.names.lookup x == some .cell)=true;rcases hok.1.1.1.2 x hm with h | h
  ·rw[EX h]at hc;cases hc
  ·rw[h];rfl
 un:=C.un
 bl:=C.bl
 rng:=C.rng
 enm:=C.enm
 rvs:=C.rvs
 zip:=C.zip
 st0:=C.st0
 dc0:=C.dc0
 ty:=C.ty
 gd:=C.gd
 call:=C.call
 mono:=C.mono
theorem AO{r:Expr}(h:t8 r=true){env:Env}:∀ x,VJ r env x=pure x:=λx=>by cases r<;>first | rfl | cases h
theorem Aw{T N:List Str}{sc:Ug}:∀{es:Exs} {rs:List Expr},AW T N sc es rs=true->rs.all c9=true
 | .nil,rs,h=>by unfold AW at h;rw[RO]at h;subst h;rfl
 | .cons e es,rs,h=>by
   unfold AW at h;replace h:=c6 h;obtain⟨x,hx,h⟩:=h;simp only[Qp]at h;rw[AH hx,Re,h.1.2,Aw h.2];rfl
theorem Oi{X:Cx}{i:Nat}{x:Str}{p:Pos}{N:List Str}{sc:Ug}{T:List Str}{Δ:Nat->Sn}{k:Nat}(C:Cok T Δ X k N sc)(h:nmB N sc i x=true):PE X (.Name x p) (LF i):=by
 unfold nmB at h;simp only[Qp,dQ,RG]at h;exact OS C h.1.1.1 h.1.1.2 h.1.2 h.2
theorem Gn{α:Type}{l:List α}(h:(!l.isEmpty)=true):∃ y ys,l=y::ys:=by
 cases l with
 | nil=>cases h
 | cons y ys=>exact⟨y,ys,rfl⟩
theorem Oj{X:Cx}{c:Expr}{a:WE×WT}(h:Good X c a):CV X [c] (liftT X.K a.2):=J4 h.pt
theorem KQ{X:Cx}:CV X [] (liftT X.K Pz):=λpq s σ H Q I hw=>J3 pq s σ H Q I (let ⟨as,ρ,S,ok,en,h⟩:=hw;h as H (Go.refl _ _) ok)
theorem Fp{T:List Str}{Δ:Nat->Sn}{X:Cx}{k:Nat}{N:List Str}{sc scope:Ug}{own cn:List Str}{js:List Nat}{tg ri re:Expr}{ifs:List Expr}{p:Pos}{g:Tg}{i:WI}{t:WT}{e:WE×WT}(C:Cok T Δ X k N sc)(hok:v0 sc scope own cn N js=true)(hi:GoodI X tg ri i)
 (hg:∀ s2 H2 cs A fp,PG (i0 X scope (own++cn) s2 H2 cs A fp) tg (D0 X.K g)) (ht:∀ s2 H2 cs A fp,CV (i0 X scope (own++cn) s2 H2 cs A fp) ifs (liftT X.K t)) (mt:MonoT t) (he:∀ s2 H2 cs A fp,PE (i0 X scope (own++cn) s2 H2 cs A fp) re (lift X.K e.1)) (me:Mono e.1) (hn:t8 ri=true):
 Good X (.ListComp re [⟨tg,ri,ifs,0⟩] scope p) (tt1 (Gb own.length js g i t e.1)):=
 .one (g0 _ (LX own cn js hi.pi hg ht he C.calm (by rw[C.hs,C.hN];exact hok) (AO hn)) (EW hi.m mt me)) (.comp hi.m mt me) rfl
mutual
theorem c8{T:List Str}{Δ:Nat->Sn}:∀(e:Ex) (r:Expr) {X:Cx} {k:Nat} {N:List Str} {sc:Ug},Cok T Δ X k N sc->i3 T N sc e r=true->Good X r (wEx Δ e)
 | .var i,r,X,k,N,sc,C,h=>by
   replace h:=c6 h;obtain⟨x,hx,h⟩:=h;obtain⟨p,rfl⟩:=BL hx;exact .one (g0 _ (Oi C h) Lo) .var rfl
 | .c x,r,X,k,N,sc,C,h=>by
   replace h:=c6 h;obtain⟨x,hx,h⟩:=h;obtain⟨j,p,rfl⟩:=Hz hx;exact MD h
 | .op o a b,r,X,k,N,sc,C,h=>by
   replace h:=c6 h;obtain⟨v,hv,h⟩:=h;obtain⟨p,rfl⟩:=M7 hv;simp only[Qp,dQ]at h;have ga:=c8 a _ C h.1.2;have gb:=c8 b _ C h.2;rw[<-h.1.1];exact .one (KC ga.pe gb.pe ga.m gb.m) (.two Gc ga.m gb.m) rfl
 | .cmp o a b,r,X,k,N,sc,C,h=>by
   replace h:=c6 h;obtain⟨v,hv,h⟩:=h;replace h:=c6 h;obtain⟨rb,hb,h⟩:=h;obtain⟨p,rfl⟩:=Br hv;simp only[Qp,dQ]at h;obtain⟨⟨⟨h0,h1⟩,h2⟩,h3⟩:=h;rw[h0,m7 hb];have ga:=c8 a _ C h1;have gb:=c8 b _ C h2;have:=C.un;exact I0 (by omega) ga.pe gb.pe ga.m gb.m h3
 | .chn o p a b c,r,X,k,N,sc,C,h=>by
   replace h:=c6 h;obtain⟨v,hv,h⟩:=h;replace h:=c6 h;obtain⟨rs,hb,h⟩:=h;obtain⟨p,rfl⟩:=Br hv;simp only[Qp,dQ]at h;obtain⟨⟨⟨⟨h0,h1⟩,h2⟩,h3⟩,h4⟩:=h;rw[h0,K7 hb];have ga:=c8 a _ C h1;have gb:=c8 b _ C h2;have gc:=c8 c _ C h3;have:=C.un;exact IA (by omega) ga.pe gb.pe gc.pe ga.m gb.m gc.m h4
 | .and a b,r,X,k,N,sc,C,h=>by
   replace h:=c6 h;obtain⟨v,hv,h⟩:=h;have e:=EA hv;subst e;rw[Qp,dQ]at h;obtain⟨h0,h⟩:=h;replace h:=c6 h;obtain⟨x,hx,h⟩:=h;rw[Qp]at h;have ga:=c8 a _ C h.1;rw[h0,AH hx];have h2:=h.2;generalize v.2.1.tail=tl at h2;cases hl:l1 tl with
   | some y=>
     rw[hl]at h2;rw[m7 hl];exact FW ga (c8 b _ C h2)
   | none=>
     rw[hl]at h2;rw[Qp,dQ]at h2;have gb:=c8 b _ C h2.2
     match tl,h2,gb with
     | y::z::zs,h2,gb=>exact FX ga gb
     | [],h2,_=>exact absurd h2.1 (by simp)
     | [_],h2,_=>exact absurd h2.1 (by simp)
 | .or a b,r,X,k,N,sc,C,h=>by
   replace h:=c6 h;obtain⟨v,hv,h⟩:=h;have e:=EA hv;subst e;rw[Qp,dQ]at h;obtain⟨h0,h⟩:=h;replace h:=c6 h;obtain⟨x,hx,h⟩:=h;rw[Qp]at h;have ga:=c8 a _ C h.1;rw[h0,AH hx];have h2:=h.2;generalize v.2.1.tail=tl at h2;cases hl:l1 tl with
   | some y=>
     rw[hl]at h2;rw[m7 hl];exact IB ga (c8 b _ C h2)
   | none=>
     rw[hl]at h2;rw[Qp,dQ]at h2;have gb:=c8 b _ C h2.2
     match tl,h2,gb with
     | y::z::zs,h2,gb=>exact IC ga gb
     | [],h2,_=>exact absurd h2.1 (by simp)
     | [_],h2,_=>exact absurd h2.1 (by simp)
 | .not a,r,X,k,N,sc,C,h=>by
   replace h:=c6 h;obtain⟨v,hv,h⟩:=h;obtain⟨p,rfl⟩:=OQ hv;simp only[Qp,dQ]at h;rw[h.1];exact ID (c8 a _ C h.2)
 | .tup es,r,X,k,N,sc,C,h=>by
   replace h:=c6 h;obtain⟨v,hv,h⟩:=h;obtain⟨j,p,rfl⟩:=Au hv;exact II (y9 es _ C h)
 | .lst es,r,X,k,N,sc,C,h=>by
   replace h:=c6 h;obtain⟨v,hv,h⟩:=h;obtain⟨p,rfl⟩:=M8 hv;exact IJ (y9 es _ C h)
 | .ix a b,r,X,k,N,sc,C,h=>by
   replace h:=c6 h;obtain⟨v,hv,h⟩:=h;obtain⟨p,rfl⟩:=Bs hv;simp only[Qp]at h;exact KG (c8 a _ C h.1.1) (c8 b _ C h.1.2) h.2
 | .slc a lo hi,r,X,k,N,sc,C,h=>by
   replace h:=c6 h;obtain⟨v,hv,h⟩:=h;replace h:=c6 h;obtain⟨w,hw,h⟩:=h;obtain⟨p,rfl⟩:=Bs hv;obtain⟨p2,ew⟩:=M9 hw;simp only[Qp]at h;have hl:=EY lo _ C h.1.1.2;have hh:=EY hi _ C h.1.2;rw[ew,Sv.mp h.2];exact IE (c8 a _ C h.1.1.1) hl.1 hh.1 hl.2 hh.2
 | .call f es,r,X,k,N,sc,C,h=>by
   replace h:=c6 h;obtain⟨v,hv,h⟩:=h;obtain⟨p,q,rfl⟩:=p4 hv;simp only[Qp,dQ]at h;obtain⟨⟨⟨h1,h2⟩,h3⟩,h4⟩:=h;obtain⟨y,ys,e⟩:=Gn h4;have st:=Aw h3;have g:=y9 es _ C h3;rw[e]at st g ⊢;rw[Re,Qp]at st;exact Fc C h1 h2 g st.1 st.2
 | .bi b es,r,X,k,N,sc,C,h=>by
   replace h:=c6 h;obtain⟨v,hv,h⟩:=h;obtain⟨p,q,rfl⟩:=p4 hv;simp only[Qp,dQ]at h;obtain⟨⟨⟨h1,h2⟩,h3⟩,h4⟩:=h;obtain⟨y,ys,e⟩:=Gn h4;have st:=Aw h3;have g:=y9 es _ C h3;rw[e]at st g ⊢;rw[Re,Qp]at st;rw[<-h1]at h2 ⊢;exact KL C h2 g st.1 st.2
 | .mt m a es,r,X,k,N,sc,C,h=>by
   replace h:=c6 h;obtain⟨v,hv,h⟩:=h;obtain⟨ap,cp,rfl,hl⟩:=FV hv;simp only[Qp,dQ]at h;obtain⟨⟨⟨⟨h0,h1⟩,h3⟩,h4⟩,h5⟩:=h;have st:=Aw h5;have ga:=c8 a _ C h4;have gs:=y9 es _ C h5;rw[h0];generalize v.2.2=args at h3 h5 st gs ⊢;cases args with
   | nil=>
     cases es with
     | nil=>exact IK ga h1 hl
     | cons _ _=>rw[AW]at h5;cases h5
   | cons y ys=>
     rw[Re,Qp]at st;exact KN ga gs h1 hl h3 st.1 st.2
 | .comp own cn js g it t e,r,X,k,N,sc,C,h=>by
   replace h:=c6 h;obtain⟨v,hv,h⟩:=h;replace h:=c6 h;obtain⟨c,hc,h⟩:=h;obtain⟨p,rfl⟩:=EC hv;simp only[Qp,dQ]at h;obtain⟨⟨⟨⟨⟨⟨h0,h1⟩,h2⟩,h3⟩,h4⟩,h5⟩,h6⟩:=h;have hI:=Bf it _ _ C h3;have hT:=λs2 H2 cs A fp=>EZ t _ (C.comp h1 s2 H2 cs A fp) h5;have hE:=λs2 H2 cs A fp=>c8 e _ (C.comp h1 s2 H2 cs A fp) h6;rw[m7 hc];obtain⟨tg,ri,ifs,az⟩:=c;have h0:az=0:=h0;subst h0;exact Fp C h1 hI (λs2 H2 cs A fp=>As (C.comp h1 s2 H2 cs A fp) g _ h2) (λs2 H2 cs A fp=>(hT s2 H2 cs A fp).1) (hT X.s₀ X.H₀ [] 0 []).2 (λs2 H2 cs A fp=>(hE s2 H2 cs A fp).pe) (hE X.s₀ X.H₀ [] 0 []).m h4
 | .tyc t,r,X,k,N,sc,C,h=>by
   replace h:=c6 h;obtain⟨x,hx,h⟩:=h;obtain⟨p,rfl⟩:=BL hx;simp only[Qp,dQ]at h;obtain⟨⟨rfl,h1⟩,h2⟩:=h;exact IL C h1 h2
 | .lrng1 a,r,X,k,N,sc,C,h=>by
   replace h:=c6 h;obtain⟨v,hv,h⟩:=h;replace h:=c6 h;obtain⟨z,hz,h⟩:=h;replace h:=c6 h;obtain⟨u,hu,h⟩:=h;replace h:=c6 h;obtain⟨ra,hra,h⟩:=h;obtain⟨p,q,rfl⟩:=p4 hv;obtain⟨p2,q2,rfl⟩:=p4 hu;simp only[Qp,dQ]at h;obtain⟨⟨⟨⟨⟨e1,e2⟩,h1⟩,h2⟩,h3⟩,h4⟩:=h;rw[m7 hz,m7 hra,e1,e2];rw[e1]at h1;rw[e2]at h2;exact EJ C h1 h2 (c8 a _ C h3) h4
 | .max1 a,r,X,k,N,sc,C,h=>by
   replace h:=c6 h;obtain⟨v,hv,h⟩:=h;replace h:=c6 h;obtain⟨ra,hra,h⟩:=h;obtain⟨p,q,rfl⟩:=p4 hv;simp only[Qp,dQ]at h;obtain⟨⟨⟨e1,h1⟩,h3⟩,h4⟩:=h;rw[e1]at h1;rw[m7 hra,e1];exact Fd C h1 (c8 a _ C h3) h4
 | .dvals a,r,X,k,N,sc,C,h=>by
   replace h:=c6 h;obtain⟨v,hv,h⟩:=h;replace h:=c6 h;obtain⟨z,hz,h⟩:=h;replace h:=c6 h;obtain⟨u,hu,h⟩:=h;obtain⟨p,q,rfl⟩:=p4 hv;obtain⟨ap,cp,rfl,hl⟩:=FV hu;simp only[Qp,dQ,RO]at h;obtain⟨⟨⟨⟨⟨e1,h1⟩,e2⟩,e3⟩,h4⟩,h5⟩:=h;rw[e1]at h1;rw[m7 hz,e1,e2,e3];exact EL C h1 (c8 a _ C h5) h4 hl
 | .dcopy a,r,X,k,N,sc,C,h=>by
   replace h:=c6 h;obtain⟨v,hv,h⟩:=h;replace h:=c6 h;obtain⟨ra,hra,h⟩:=h;obtain⟨p,q,rfl⟩:=p4 hv;simp only[Qp,dQ]at h;obtain⟨⟨⟨e1,h1⟩,h3⟩,h4⟩:=h;rw[e1]at h1;rw[m7 hra,e1];exact EM C h1 (c8 a _ C h3) h4
 | .srtp a,r,X,k,N,sc,C,h=>by
   replace h:=c6 h;obtain⟨v,hv,h⟩:=h;replace h:=c6 h;obtain⟨ra,hra,h⟩:=h;obtain⟨p,q,rfl⟩:=p4 hv;simp only[Qp,dQ]at h;obtain⟨⟨⟨e1,h1⟩,h3⟩,h4⟩:=h;rw[e1]at h1;rw[m7 hra,e1];exact Fi C h1 (c8 a _ C h3) h4
 | .lenset a,r,X,k,N,sc,C,h=>by
   replace h:=c6 h;obtain⟨v,hv,h⟩:=h;replace h:=c6 h;obtain⟨z,hz,h⟩:=h;replace h:=c6 h;obtain⟨u,hu,h⟩:=h;replace h:=c6 h;obtain⟨ra,hra,h⟩:=h;obtain⟨p,q,rfl⟩:=p4 hv;obtain⟨p2,q2,rfl⟩:=p4 hu;simp only[Qp,dQ]at h;obtain⟨⟨⟨⟨⟨e1,e2⟩,h1⟩,h2⟩,h3⟩,h4⟩:=h;rw[e1]at h1;rw[e2]at h2;rw[m7 hz,m7 hra,e1,e2];exact DT C h1 h2 (c8 a _ C h3) h4
 | .setl a,r,X,k,N,sc,C,h=>by
   replace h:=c6 h;obtain⟨v,hv,h⟩:=h;replace h:=c6 h;obtain⟨ra,hra,h⟩:=h;obtain⟨p,q,rfl⟩:=p4 hv;simp only[Qp,dQ]at h;obtain⟨⟨⟨e1,h1⟩,h3⟩,h4⟩:=h;rw[e1]at h1;rw[m7 hra,e1];exact Fe C h1 (c8 a _ C h3) h4
 | .eqt0 a b,r,X,k,N,sc,C,h=>by
   replace h:=c6 h;obtain⟨v,hv,h⟩:=h;replace h:=c6 h;obtain⟨rb,hb,h⟩:=h;obtain⟨p,rfl⟩:=Br hv;simp only[Qp,dQ]at h;obtain⟨⟨⟨h0,h1⟩,h2⟩,h3⟩:=h;rw[h0,m7 hb];have ga:=c8 a _ C h1;have gb:=c8 b _ C h2;have:=C.un;exact Fh (by omega) ga.pe gb.pe ga.m gb.m h3
 | .dnew,r,X,k,N,sc,C,h=>by
   replace h:=c6 h;obtain⟨v,hv,h⟩:=h;obtain⟨p,rfl⟩:=K5 hv;simp only[Qp,RO]at h;rw[h.1,h.2];exact Fg
 | .din n a b,r,X,k,N,sc,C,h=>by
   replace h:=c6 h;obtain⟨v,hv,h⟩:=h;replace h:=c6 h;obtain⟨rb,hb,h⟩:=h;obtain⟨p,rfl⟩:=Br hv;simp only[Qp,dQ]at h;obtain⟨⟨⟨h0,h1⟩,h2⟩,h3⟩:=h;rw[h0,m7 hb];have:=C.un;exact IM (by omega) (c8 a _ C h1) (c8 b _ C h2) h3
 | .no,r,X,k,N,sc,C,h => .never
theorem y9{T:List Str}{Δ:Nat->Sn}:∀(es:Exs) (rs:List Expr) {X:Cx} {k:Nat} {N:List Str} {sc:Ug},Cok T Δ X k N sc->AW T N sc es rs=true->GoodA X rs (DP Δ es)
 | .nil,rs,X,k,N,sc,C,h=>by
   rw[AW,RO]at h;subst h;exact IH
 | .cons e es,rs,X,k,N,sc,C,h=>by
   rw[AW]at h;replace h:=c6 h;obtain⟨x,hx,h⟩:=h;simp only[Qp]at h;rw[AH hx];exact Fb (c8 e _ C h.1.1) (y9 es _ C h.2) h.1.2
theorem EY{T:List Str}{Δ:Nat->Sn}:∀(o:Eo) (r:Option Expr) {X:Cx} {k:Nat} {N:List Str} {sc:Ug},Cok T Δ X k N sc->K8 T N sc o r=true->PO X r (EH X.K (wEo Δ o).1)/\MonoO (wEo Δ o).1
 | .no,r,X,k,N,sc,C,h=>by
   rw[K8]at h;rw[Sv.mp h];exact⟨Q4,.no⟩
 | .yes e,r,X,k,N,sc,C,h=>by
   rw[K8]at h;replace h:=c6 h;obtain⟨x,hx,h⟩:=h;subst hx;exact⟨OT (c8 e _ C h),.yes (c8 e _ C h).m⟩
theorem EZ{T:List Str}{Δ:Nat->Sn}:∀(o:Eo) (rs:List Expr) {X:Cx} {k:Nat} {N:List Str} {sc:Ug},Cok T Δ X k N sc->ED T N sc o rs=true->CV X rs (liftT X.K (wEo Δ o).2)/\MonoT (wEo Δ o).2
 | .no,rs,X,k,N,sc,C,h=>by
   rw[ED,RO]at h;subst h;exact⟨KQ,λ_ _ _ _ i q=>i _ _ q⟩
 | .yes e,rs,X,k,N,sc,C,h=>by
   rw[ED]at h;replace h:=c6 h;obtain⟨x,hx,h⟩:=h;rw[m7 hx];exact⟨Oj (c8 e _ C h),(c8 e _ C h).mt⟩
theorem Bf{T:List Str}{Δ:Nat->Sn}:∀(it:Itb) (tg r:Expr) {X:Cx} {k:Nat} {N:List Str} {sc:Ug},Cok T Δ X k N sc->MA T N sc it tg r=true->GoodI X tg r (M6 Δ it)
 | .seq e,tg,r,X,k,N,sc,C,h=>by
   exact IP (c8 e _ C h)
 | .rng1 a,tg,r,X,k,N,sc,C,h=>by
   replace h:=c6 h;obtain⟨v,hv,h⟩:=h;replace h:=c6 h;obtain⟨ra,hra,h⟩:=h;obtain⟨p,q,rfl⟩:=p4 hv;simp only[Qp,dQ]at h;obtain⟨⟨⟨e1,h1⟩,h2⟩,h3⟩:=h;rw[e1]at h1;rw[m7 hra,e1];exact Fm C h1 (c8 a _ C h2) h3
 | .rng2 a b,tg,r,X,k,N,sc,C,h=>by
   replace h:=c6 h;obtain⟨v,hv,h⟩:=h;replace h:=c6 h;obtain⟨ra,hra,h⟩:=h;obtain⟨p,q,rfl⟩:=p4 hv;simp only[Qp,dQ]at h;obtain⟨⟨⟨⟨⟨e1,h1⟩,h2⟩,h3⟩,h4⟩,h5⟩:=h;rw[e1]at h1;rw[K7 hra,e1];exact Fn C h1 (c8 a _ C h2) (c8 b _ C h4) h3 h5
 | .enum e,tg,r,X,k,N,sc,C,h=>by
   replace h:((Cc tg).isSome&&(vFn r).any λv=>(l1 v.2).any λa=>decide (v.1=("enumerate":Str))&&glo sc v.1&&i3 T N sc e a&&c9 a)=true:=h;rw[Qp]at h;obtain⟨ht,h⟩:=h;obtain⟨es,he⟩:=Rc.mp ht;obtain⟨j,tp,rfl⟩:=Au he;replace h:=c6 h;obtain⟨v,hv,h⟩:=h;replace h:=c6 h;obtain⟨ra,hra,h⟩:=h;obtain⟨p,q,rfl⟩:=p4 hv;simp only[Qp,dQ]at h;obtain⟨⟨⟨e1,h1⟩,h2⟩,h3⟩:=h;rw[e1]at h1;rw[m7 hra,e1];exact Fl C h1 (c8 e _ C h2) h3
 | .itm e,tg,r,X,k,N,sc,C,h=>by
   replace h:((Cc tg).isSome&&(vMt r).any λu=>decide (u.2.1=("items":Str))&&u.2.2.isEmpty&&y6 u.1&&i3 T N sc e u.1)=true:=h;rw[Qp]at h;obtain⟨ht,h⟩:=h;obtain⟨es,he⟩:=Rc.mp ht;obtain⟨j,tp,rfl⟩:=Au he;replace h:=c6 h;obtain⟨u,hu,h⟩:=h;obtain⟨ap,cp,rfl,hl⟩:=FV hu;simp only[Qp,dQ,RO]at h;obtain⟨⟨⟨e2,e3⟩,h4⟩,h5⟩:=h;rw[e2,e3];exact IQ (c8 e _ C h5) h4 hl
 | .zipE a b,tg,r,X,k,N,sc,C,h=>by
   replace h:((Cc tg).isSome&&(vFn r).any λv=>(l2 v.2).any λra=>decide (v.1=("zip":Str))&&glo sc v.1&&i3 T N sc a ra.1&&c9 ra.1&&i3 T N sc b ra.2&&c9 ra.2)=true:=h;rw[Qp]at h;obtain⟨ht,h⟩:=h;obtain⟨es,he⟩:=Rc.mp ht;obtain⟨j,tp,rfl⟩:=Au he;replace h:=c6 h;obtain⟨v,hv,h⟩:=h;replace h:=c6 h;obtain⟨ra,hra,h⟩:=h;obtain⟨p,q,rfl⟩:=p4 hv;simp only[Qp,dQ]at h;obtain⟨⟨⟨⟨⟨e1,h1⟩,h2⟩,h3⟩,h4⟩,h5⟩:=h;rw[e1]at h1;rw[K7 hra,e1];exact Fo C h1 (c8 a _ C h2) (c8 b _ C h4) h3 h5
end
noncomputable def CL:Expr->Option Ug
 | .ListComp _ _ s _=>some s
 | .SetComp _ _ s _=>some s
 | .DictComp _ _ _ s _=>some s
 | _=>none
noncomputable def D3(sc:Ug)(e:Expr)(x:Str)(px:Pos):Bool:=match CL e with
 | none=>false
 | some s=>sc.names.lookup x == some .local&&px.line == e.pos.line&&!(s.names.any λ(n,k)=>n == x&&(k == .local||k == .cell))
theorem Gp{env:Env}{e:Expr}{x:Str}{px:Pos}{l:Nat}(hk:env.scope.kind = .function):V2 e (some (.Name x px)) l env=pure (D3 env.scope e x px):=by
 have hb:env.blockKind = .function:=by unfold Env.blockKind;rw[hk];rfl
 unfold V2 D3 CL
 cases e<;>first
  | rfl
  | (show(pure _:Sem Bool)=_;rw[hb];rfl)
noncomputable def KR:Expr->Bool
 | .Tuple ..=>false
 | _=>true
noncomputable def Fq:Expr->Option (Str×Pos)
 | .Name x p=>some (x,p)
 | _=>none
theorem IT{r:Expr}{x:Str×Pos}(h:Fq r=some x):r = .Name x.1 x.2:=by cases r<;>first | (cases h;rfl) | exact n0 h
noncomputable def MM:Stmt->Option (List Expr×Expr)
 | .Assign ts e _=>some (ts,e)
 | _=>none
noncomputable def QC:Stmt->Option Expr
 | .Expr e _=>some e
 | _=>none
noncomputable def QD:Stmt->Option (Expr×List Stmt×List Stmt)
 | .If t a b _=>some (t,a,b)
 | _=>none
noncomputable def QF:Stmt->Option (Expr×Expr×List Stmt×List Stmt)
 | .For g i b o _=>some (g,i,b,o)
 | _=>none
noncomputable def QG:Stmt->Option (Expr×List Stmt×List Stmt)
 | .While t b o _=>some (t,b,o)
 | _=>none
noncomputable def QH:Stmt->Option (Option Expr)
 | .Return e _=>some e
 | _=>none
noncomputable def vKw:Stmt->Nat
 | .Break _=>1
 | .Continue _=>2
 | .Pass _=>3
 | _=>0
theorem DY{r:Stmt}{x:List Expr×Expr}(h:MM r=some x):∃ p,r = .Assign x.1 x.2 p:=by cases r<;>first | (cases h;exact⟨_,rfl⟩) | exact n0 h
theorem MN{r:Stmt}{x:Expr}(h:QC r=some x):∃ p,r = .Expr x p:=by cases r<;>first | (cases h;exact⟨_,rfl⟩) | exact n0 h
theorem MO{r:Stmt}{x:Expr×List Stmt×List Stmt}(h:QD r=some x):∃ p,r = .If x.1 x.2.1 x.2.2 p:=by cases r<;>first | (cases h;exact⟨_,rfl⟩) | exact n0 h
theorem MP{r:Stmt}{x:Expr×Expr×List Stmt×List Stmt}(h:QF r=some x):∃ p,r = .For x.1 x.2.1 x.2.2.1 x.2.2.2 p:=by cases r<;>first | (cases h;exact⟨_,rfl⟩) | exact n0 h
theorem MQ{r:Stmt}{x:Expr×List Stmt×List Stmt}(h:QG r=some x):∃ p,r = .While x.1 x.2.1 x.2.2 p:=by cases r<;>first | (cases h;exact⟨_,rfl⟩) | exact n0 h
theorem MR{r:Stmt}{x:Option Expr}(h:QH r=some x):∃ p,r = .Return x p:=by cases r<;>first | (cases h;exact⟨_,rfl⟩) | exact n0 h
theorem MS{r:Stmt}(h:vKw r=2):∃ p,r = .Continue p:=by cases r<;>first | exact⟨_,rfl⟩ | (cases h;done)
noncomputable def Ol(e:Expr):Bool:=(K4 e).any λv=>(l1 v.2.1).isSome
noncomputable def QI(e:Expr):Bool:=false
noncomputable def Om(sc:Ug)(rt re:Expr):Bool:=match Fq rt with
 | some x=>!D3 sc re x.1 x.2||Ol re||QI re
 | none=>(Cc rt).isSome&&KR re
mutual
noncomputable def QJ(T:List Str)(N:List Str)(sc:Ug):Stm->Stmt->Bool
 | .asg t e,r=>(MM r).any λv=>(l1 v.1).any λrt=>Aq N.length N sc t rt&&i3 T N sc e v.2&&c9 rt&&Om sc rt v.2
 | .put o i e,r=>(MM r).any λv=>(l1 v.1).any λrt=>(K2 rt).any λoi=>i3 T N sc o oi.1&&i3 T N sc i oi.2&&i3 T N sc e v.2&&AV oi.2
 | .dput o i e,r=>(MM r).any λv=>(l1 v.1).any λrt=>(K2 rt).any λoi=>i3 T N sc o oi.1&&i3 T N sc i oi.2&&i3 T N sc e v.2&&AV oi.2
 | .expr e,r=>(QC r).any λre=>i3 T N sc e re&&(CL re).isNone
 | .iff t a b,r=>(QD r).any λv=>i3 T N sc t v.1&&BN T N sc a v.2.1&&BN T N sc b v.2.2
 | .loop g it b,r=>(QF r).any λv=>Aq N.length N sc g v.1&&MA T N sc it v.1 v.2.1&&t8 v.2.1&&BN T N sc b v.2.2.1&&v.2.2.2.isEmpty
 | .whl t b,r=>(QG r).any λv=>i3 T N sc t v.1&&BN T N sc b v.2.1&&v.2.2.isEmpty
 | .ret e,r=>(QH r).any λo=>o.any λre=>i3 T N sc e re
 | .cnt,r=>vKw r == 2
 | .no,_=>true
noncomputable def BN(T:List Str)(N:List Str)(sc:Ug):List Stm->List Stmt->Bool
 | [],r=>r.isEmpty
 | s::ss,r=>(r.head?).any λx=>QJ T N sc s x&&BN T N sc ss r.tail
end
noncomputable def Ea(K:Qo)(as:List UV)(H:Hp)(D:Ends):EndsS where
 nx:=λρ' S'=>∀ as' H' σ',Go as H as' H'->Ok K as' H' S'->EnvOk K as' H' σ' ρ'->D.nx σ' H'
 rt:=Post K as H D.rt
 bk:=λρ' S'=>∀ as' H' σ',Go as H as' H'->Ok K as' H' S'->EnvOk K as' H' σ' ρ'->D.bk σ' H'
 ct:=λρ' S'=>∀ as' H' σ',Go as H as' H'->Ok K as' H' S'->EnvOk K as' H' σ' ρ'->D.ct σ' H'
noncomputable def liftS(K:Qo)(w:WS):TS:=λD σ H=>∃ as ρ S,Ok K as H S/\EnvOk K as H σ ρ/\w (Ea K as H D) ρ S
structure Le(D D':EndsS):Prop where
 nx:∀ ρ S,D.nx ρ S->D'.nx ρ S
 rt:∀ x S,D.rt x S->D'.rt x S
 bk:∀ ρ S,D.bk ρ S->D'.bk ρ S
 ct:∀ ρ S,D.ct ρ S->D'.ct ρ S
noncomputable def MonoS(w:WS):Prop:=∀ D D' ρ S,Le D D'->w D ρ S->w D' ρ S
theorem MonoS.go{w:WS}(m:MonoS w){D D':EndsS}{ρ:EnvS}{S:Sto}(h:w D ρ S)(l:Le D D'):w D' ρ S:=m D D' ρ S l h
theorem Le.go{K:Qo}{as as':List UV}{H H':Hp}{D:Ends}(g:Go as H as' H'):Le (Ea K as H D) (Ea K as' H' D) where
 nx:=λρ S h as2 H2 σ2 g2=>h as2 H2 σ2 (g.trans g2)
 rt:=λx S h=>Post.mono h g
 bk:=λρ S h as2 H2 σ2 g2=>h as2 H2 σ2 (g.trans g2)
 ct:=λρ S h as2 H2 σ2 g2=>h as2 H2 σ2 (g.trans g2)
structure GoodS(X:Cx)(r:Stmt)(w:WS):Prop where
 ps:PS X r (liftS X.K w)
 m:MonoS w
structure GoodSs(X:Cx)(r:List Stmt)(w:WS):Prop where
 ps:PSs X r (liftS X.K w)
 m:MonoS w
theorem u8{X:Cx}{st:Stmt}{t:TS}(t':TS)(h:PS X st t)(imp:∀ D σ H,t' D σ H->t D σ H):PS X st t':=λpq s σ H D I hw=>h pq s σ H D I (imp D σ H hw)
theorem Eb{X:Cx}{st:List Stmt}{t:TS}(t':TS)(h:PSs X st t)(imp:∀ D σ H,t' D σ H->t D σ H):PSs X st t':=λpq s σ H D I hw=>h pq s σ H D I (imp D σ H hw)
section
variable{X:Cx}
theorem Fr:GoodSs X [] (λD ρ S=>D.nx ρ S):=⟨Eb _ LJ λD σ H ⟨as,ρ,S,ok,en,h⟩=>h as H σ (Go.refl _ _) ok en,λD D' ρ S l h=>l.nx _ _ h⟩
theorem Ec{s:Stmt}{ss:List Stmt}{w u:WS}(h1:GoodS X s w)(h2:GoodSs X ss u):GoodSs X (s::ss) (λD ρ S=>w {D with nx:=u D} ρ S) where
 ps:=Eb _ (Ih h1.ps h2.ps) (by
  rintro D σ H ⟨as,ρ,S,ok,en,h⟩;refine⟨as,ρ,S,ok,en,h1.m.go h ⟨λρ' S' q as' H' σ' g ok' en'=>?_,λ_ _ h=>h,λ_ _ h=>h,λ_ _ h=>h⟩⟩;exact⟨as',ρ',S',ok',en',h2.m _ _ _ _ (Le.go g) q⟩)
 m:=λD D' ρ S l h=>h1.m.go (D:={D with nx:=u D}) h ⟨λρ' S' q=>h2.m _ _ _ _ l q,l.rt,l.bk,l.ct⟩
theorem MU{K:Qo}{g:Tg}{w:WE}(m:Mono w):∀ D σ H,liftS K (λD ρ S=>w ρ S λx S1=>wTg g x ρ λρ'=>D.nx ρ' S1) D σ H->HR (lift K w) (D0 K g) D σ H:=by
 rintro D σ H ⟨as,ρ,S,ok,en,h⟩;refine⟨as,ρ,S,ok,en,m _ _ _ _ (λx S1 q as1 H1 v g1 ok1 rv=>?_) h⟩;exact⟨as1,ρ,S1,x,ok1,en.mono g1.pre (g1.ku ok),rv,n9 g (λρ' q σ' en'=>q as1 H1 σ' g1 ok1 en') q⟩
theorem Ed{K:Qo}{i:Nat}{w:WE}(m:Mono w):∀ D σ H,liftS K (λD ρ S=>w ρ S λx S1=>wTg (.nm i) x ρ λρ'=>D.nx ρ' S1) D σ H->HR (lift K w) (G0 i) D σ H:=by
 rintro D σ H ⟨as,ρ,S,ok,en,h⟩;refine⟨as,ρ,S,ok,en,m _ _ _ _ (λx S1 q as1 H1 v g1 ok1 rv=>?_) h⟩;unfold wTg at q;exact q as1 H1 _ g1 ok1 ((en.mono g1.pre (g1.ku ok)).set rv)
theorem Ee{g:Tg}{w:WE}(m:Mono w):MonoS (λD ρ S=>w ρ S λx S1=>wTg g x ρ λρ'=>D.nx ρ' S1):=λD D' ρ S l h=>m _ _ _ _ (λx S1 q=>n9 g (λρ' q=>l.nx _ _ q) q) h
theorem Oo{K:Qo}{t:WT}{a b:WS}(mt:MonoT t)(ma:MonoS a)(mb:MonoS b):∀ D σ H,liftS K (λD ρ S=>t ρ S λc S1=>if c=true then a D ρ S1 else b D ρ S1) D σ H->P7 (liftT K t) (liftS K a) (liftS K b) D σ H:=by
 rintro D σ H ⟨as,ρ,S,ok,en,h⟩;refine⟨as,ρ,S,ok,en,mt _ _ _ _ (λc S1 q as1 H1 g1 ok1=>?_) h⟩;refine j7 (λq=>?_) (λq=>?_) q
 ·exact⟨as1,ρ,S1,ok1,en.mono g1.pre (g1.ku ok),ma _ _ _ _ (Le.go g1) q⟩
 ·exact⟨as1,ρ,S1,ok1,en.mono g1.pre (g1.ku ok),mb _ _ _ _ (Le.go g1) q⟩
theorem Ax{keep:Sto->Prop}{g:Tg}{b:WS}(mb:MonoS b):∀(xs:List SV) {D D':EndsS},Le D D'->∀ ρ S,t6 keep g b D xs ρ S->t6 keep g b D' xs ρ S
 | [],D,D',l,ρ,S,h=>by unfold t6 at h ⊢;exact⟨h.1,l.nx _ _ h.2⟩
 | x::xs,D,D',l,ρ,S,h=>by
   unfold t6 at h ⊢;exact⟨h.1,n9 g (λρ2 q=>mb.go (D:={D with nx:=t6 keep g b D xs,ct:=t6 keep g b D xs,bk:=D.nx}) q ⟨Ax mb xs l,l.rt,l.nx,Ax mb xs l⟩) h.2⟩
theorem MV{K:Qo}{g:Tg}{i:WI}{b:WS}(mi:MonoI i)(mb:MonoS b):∀ D σ H,liftS K (λD ρ S=>i ρ S λkeep xs S1=>t6 keep g b D xs ρ S1) D σ H->PJ (liftI K i) (D0 K g) (liftS K b) D σ H:=by
 rintro D σ H ⟨as,ρ,S,ok,en,h⟩;refine⟨as,ρ,S,ok,en,mi _ _ _ _ (λkeep xs S1 h as1 H1 J g1 ok1 W=>?_) h⟩
 refine⟨λi m σ2 H2=>m=xs.length - i/\i<=xs.length/\∃ as2 ρ2 S2,Go as1 H1 as2 H2/\Ok K as2 H2 S2/\EnvOk K as2 H2 σ2 ρ2/\t6 keep g b (Ea K as H D) (xs.drop i) ρ2 S2,
  ⟨xs.length,by simp,Rz _,as1,ρ,S1,Go.refl _ _,ok1,en.mono g1.pre (g1.ku ok),h⟩,?_⟩
 rintro i m σ2 H2 ⟨rfl,hi,as2,ρ2,S2,g2,ok2,en2,h⟩;by_cases hlt:i<xs.length
 ·right;rw[Su hlt]at h;unfold t6 at h;obtain⟨kp,h⟩:=h;obtain⟨w1,_⟩:=W as2 H2 S2 (g2.gu ok1) ok2 kp;obtain⟨go,yl⟩:=w1 i xs[i] (R4 hlt);refine⟨go,λσ' H'=>∃ as2 ρ2 S2,Go as1 H1 as2 H'/\Ok K as2 H' S2/\EnvOk K as2 H' σ' ρ2/\t6 keep g b (Ea K as H D) (xs.drop (i+1)) ρ2 S2,λσ' H' z=>⟨xs.length - (i+1),by omega,rfl,hlt,z⟩,λx H3 y3=>?_⟩;obtain⟨g3,ok3,rx⟩:=yl x H3 y3;refine⟨as2,ρ2,S2,_,ok3,en2.mono g3.pre (g3.ku ok2),rx,n9 g (λρ3 q σ3 en3=>?_) h⟩;have g03:=(g1.trans g2).trans g3;refine⟨as2,ρ3,S2,ok3,en3,mb.go q ⟨λρ' S' q as' H' σ' g' ok' en'=>?_,λx S h=>Post.mono h g03,λρ' S' q as' H' σ' g' ok' en'=>q as' H' σ' (g03.trans g') ok' en',λρ' S' q as' H' σ' g' ok' en'=>?_⟩⟩
  ·exact⟨as',ρ',S',(g2.trans g3).trans g',ok',en',q⟩
  ·exact⟨as',ρ',S',(g2.trans g3).trans g',ok',en',q⟩
 ·left;have hi':i=xs.length:=by omega
  subst hi';rw[U3]at h;unfold t6 at h;obtain⟨kp,h⟩:=h;obtain⟨_,w2⟩:=W as2 H2 S2 (g2.gu ok1) ok2 kp;exact⟨w2,h as2 H2 σ2 (g1.trans g2) ok2 en2⟩
theorem Ef{t:WT}{b:WS}(mt:MonoT t)(mb:MonoS b):MonoS (OO t b):=λD D' ρ S l ⟨W,w0,h⟩=>⟨W,w0,λm ρ S w=>mt _ _ _ _ (λc S1 q=>j7 (λq=>mb.go (D:={D with nx:=λρ' S'=>∃ m',m'<m/\W m' ρ' S',ct:=λρ' S'=>∃ m',m'<m/\W m' ρ' S',bk:=D.nx}) q ⟨λ_ _ h=>h,l.rt,l.nx,λ_ _ h=>h⟩) (λq=>l.nx _ _ q) q) (h m ρ S w)⟩
theorem MW{K:Qo}{t:WT}{b:WS}(mt:MonoT t)(mb:MonoS b):∀ D σ H,liftS K (OO t b) D σ H->Ik (liftT K t) (liftS K b) D σ H:=by
 rintro D σ H ⟨as,ρ,S,ok,en,W,⟨m0,w0⟩,h⟩;refine⟨λm σ1 H1=>∃ as1 ρ1 S1,Go as H as1 H1/\Ok K as1 H1 S1/\EnvOk K as1 H1 σ1 ρ1/\W m ρ1 S1,⟨m0,as,ρ,S,Go.refl _ _,ok,en,w0⟩,?_⟩;rintro m σ1 H1 ⟨as1,ρ1,S1,g1,ok1,en1,w1⟩;refine⟨as1,ρ1,S1,ok1,en1,mt _ _ _ _ (λc S2 q as2 H2 g2 ok2=>?_) (h m ρ1 S1 w1)⟩;refine j7 (λq=>?_) (λq=>q as2 H2 σ1 (g1.trans g2) ok2 (en1.mono g2.pre (g2.ku ok1))) q;refine⟨λσ' H'=>∃ m',m'<m/\∃ as1 ρ1 S1,Go as H as1 H'/\Ok K as1 H' S1/\EnvOk K as1 H' σ' ρ1/\W m' ρ1 S1,λσ' H' z=>z,?_⟩;refine⟨as2,ρ1,S2,ok2,en1.mono g2.pre (g2.ku ok1),mb.go q ⟨λρ' S' ⟨m',hm,w'⟩ as' H' σ' g' ok' en'=>?_,λx S h=>Post.mono h (g1.trans g2),λρ' S' q as' H' σ' g' ok' en'=>q as' H' σ' ((g1.trans g2).trans g') ok' en',λρ' S' ⟨m',hm,w'⟩ as' H' σ' g' ok' en'=>?_⟩⟩
 ·exact⟨m',hm,as',ρ',S',(g1.trans g2).trans g',ok',en',w'⟩
 ·exact⟨m',hm,as',ρ',S',(g1.trans g2).trans g',ok',en',w'⟩
theorem CM{x y v:SV}{S:Sto}{P P':Sto->Prop}(i:∀ S,P S->P' S)(h:Hy x y v S P):Hy x y v S P':=by
 unfold Hy at h ⊢;split at h
 ·obtain⟨xs,j,a,b,c⟩:=h;exact⟨xs,j,a,b,i _ c⟩
 ·exact h.elim
theorem MX{K:Qo}{as:List UV}{H:Hp}{S:Sto}{x y z:SV}{o i v:V}{Q:Hp->Prop}(ok:Ok K as H S)(ro:Rl K as H o x)(ri:Rl K as H i y)(rv:Rl K as H v z)(h:Hy x y z S λS'=>∀ H',Go as H as H'->Ok K as H' S'->Q H'):Iy o i v H Q:=by
 cases x with
 | loc k=>
   cases y with
   | int n=>
     obtain⟨xs,j,h1,h2,h3⟩:=h;obtain⟨a,vs,rfl,ea,ha,ra⟩:=j8 ok ro h1;rw[rl_int]at ri;subst ri;refine⟨a,vs,n,j,rfl,rfl,ha,by rw[ra.length];exact h2,h3 _ (Go.write (R1 ea)) (ok.write h1 ea (ra.set rv j)).1⟩
   | _=>exact False.elim h
 | _=>exact False.elim h
theorem MY{K:Qo}{o i e:WE}(mo:Mono o)(mi:Mono i)(me:Mono e):∀ D σ H,liftS K (λD ρ S=>e ρ S λv S1=>o ρ S1 λx S2=>i ρ S2 λy S3=>Hy x y v S3 λS4=>D.nx ρ S4) D σ H->HR (lift K e) (PD (lift K o) (lift K i) Iy) D σ H:=by
 rintro D σ H ⟨as,ρ,S,ok,en,h⟩;refine⟨as,ρ,S,ok,en,me _ _ _ _ (λz S1 q as1 H1 v g1 ok1 rv=>?_) h⟩;have en1:=en.mono g1.pre (g1.ku ok);refine⟨as1,ρ,S1,ok1,en1,mo _ _ _ _ (λx S2 q as2 H2 u g2 ok2 ru=>?_) q⟩;have en2:=en1.mono g2.pre (g2.ku ok1);refine⟨as2,ρ,S2,ok2,en2,mi _ _ _ _ (λy S3 q as3 H3 t g3 ok3 rt=>?_) q⟩;have en3:=en2.mono g3.pre (g3.ku ok2);refine MX ok3 (Rl.mono g3.pre (g3.ku ok2) x u ru) rt (Rl.mono (g2.trans g3).pre ((g2.trans g3).ku ok1) z v rv) (CM (λS4 q H4 g4 ok4=>?_) q);exact q as3 H4 σ (((g1.trans g2).trans g3).trans g4) ok4 (en3.mono g4.pre (g4.ku ok3))
theorem D4{x y v:SV}{S:Sto}{Q Q':Sto->Prop}(i:∀ S',Q S'->Q' S')(h:Ga x y v S Q):Ga x y v S Q':=let ⟨k,j,kvs,a,b,c,d,q⟩:=h;⟨k,j,kvs,a,b,c,d,i _ q⟩
theorem KS{K:Qo}{o i e:WE}(mo:Mono o)(mi:Mono i)(me:Mono e):∀ D σ H,liftS K (λD ρ S=>e ρ S λv S1=>o ρ S1 λx S2=>i ρ S2 λy S3=>Ga x y v S3 λS4=>D.nx ρ S4) D σ H->Jj (lift K o) (lift K i) (lift K e) D σ H:=by
 rintro D σ H ⟨as,ρ,S,ok,en,h⟩;refine⟨as,ρ,S,ok,en,me _ _ _ _ (λz S1 q as1 H1 v g1 ok1 rv=>?_) h⟩;have en1:=en.mono g1.pre (g1.ku ok);refine⟨as1,ρ,S1,ok1,en1,mo _ _ _ _ (λx S2 q as2 H2 u g2 ok2 ru=>?_) q⟩;have en2:=en1.mono g2.pre (g2.ku ok1);refine⟨as2,ρ,S2,ok2,en2,mi _ _ _ _ (λy S3 q as3 H3 t g3 ok3 rt=>?_) q⟩;have en3:=en2.mono g3.pre (g3.ku ok2);have ru':=Rl.mono g3.pre (g3.ku ok2) x u ru;have rv':=Rl.mono (g2.trans g3).pre ((g2.trans g3).ku ok1) z v rv;obtain⟨k,j,kvs,rfl,rfl,hk,hb,q⟩:=q;obtain⟨a,ea,rfl⟩:=rl_loc.mp ru';rw[rl_int]at rt;subst rt;rcases hk with hk | ⟨o',ks,hk⟩
 ·obtain⟨ks,h1,h2⟩:=ok3.obj k _ a hk ea;obtain⟨ok4,ku⟩:=ok3.writeO (x := .dct (CC kvs j z)) (u := .dK (Ad ks (Sum.inl j) v)) hk ea (λku=>⟨_,f8,RlD.mono (RH _) ku _ _ (h2.put rv' j)⟩);refine⟨a,H3,_,rfl,.inl rfl,.inl ⟨ks,.inl j,h1,rfl,by rw[h2.length];exact C9 hb,rfl⟩,?_⟩;exact q as3 _ σ (((g1.trans g2).trans g3).trans (Go.write (R1 ea))) ok4 (en3.mono (RH _) ku)
 ·obtain⟨h1,h2⟩:=(show RlO K as3 H3 a (.dcf o' ks kvs) from ok3.obj k _ a hk ea)
  obtain⟨ok4,ku⟩:=ok3.writeO (x := .dct (CC kvs j z)) (u := .dK (Ad ks (Sum.inl j) v)) hk ea (λku=>⟨_,f8,RlD.mono (RH _) ku _ _ (h2.put rv' j)⟩)
  have e:upd (upd H3 a (.dK ks)) a (.dK (Ad ks (Sum.inl j) v))=upd H3 a (.dK (Ad ks (Sum.inl j) v)):=by
   funext b
   by_cases hb:b=a
   ·rw[hb,f8,f8]
   ·rw[e6 hb,e6 hb,e6 hb]
  refine⟨a,upd H3 a (.dK ks),upd H3 a (.dK (Ad ks (Sum.inl j) v)),rfl,.inr ⟨a,o',ks,h1,rfl⟩,.inl ⟨ks,.inl j,f8,rfl,by rw[h2.length];exact C9 hb,e.symm⟩,?_⟩;exact q as3 _ σ (((g1.trans g2).trans g3).trans (Go.write (R1 ea))) ok4 (en3.mono (RH _) ku)
end
theorem Op{env:Env}{es:List Expr}{k:Nat}{p:Pos}{e:Expr}{l:Nat}:VP [.Tuple es k p] e l env=pure false:=by
 unfold VP V2;cases e<;>rfl
theorem Oq{env:Env}{o i:Expr}{p:Pos}{e:Expr}{l:Nat}:VP [.Subscript o i p] e l env=pure false:=by
 unfold VP V2;cases e<;>rfl
theorem Os{env:Env}{es:List Expr}{k:Nat}{p:Pos}{e:Expr}(h:KR e=true):VQ [.Tuple es k p] e env=pure none:=by
 unfold VQ;cases e<;>first | rfl | cases h
theorem Ot{env:Env}{o i:Expr}{p:Pos}{e:Expr}:VQ [.Subscript o i p] e env=pure none:=by
 unfold VQ;cases e<;>rfl
theorem Eg{t:WT}{a b:WS}(mt:MonoT t)(ma:MonoS a)(mb:MonoS b):MonoS (λD ρ S=>t ρ S λc S1=>if c=true then a D ρ S1 else b D ρ S1):=λD D' ρ S l h=>mt _ _ _ _ (λc S1 q=>j7 (λq=>ma.go q l) (λq=>mb.go q l) q) h
section
variable{T:List Str}{Δ:Nat->Sn}{X:Cx}{N:List Str}{sc:Ug}
theorem N8{env:Env}{e:Expr}(h:c9 e=true):(Uu [e] env).map (·.2)=[assign e env]:=by cases e<;>first | rfl | cases h
theorem Fs{env:Env}{o i:Expr}{p:Pos}(h:AV i=true):∀ v,assign (.Subscript o i p) env v=(do
 let ov <- holding [v] (eval o env)
 let iv <- holding [v,ov] (eval i env)
 standAt p
 holding [v,ov,iv] (setItem ov iv v)
 release [v,ov,iv] []):=λv=>by cases i<;>first | rfl | cases h
theorem IU(C:Cok T Δ X N.length N sc)(hk:sc.kind = .function){t:Tg}{e:Ex}{rt re:Expr}{pos:Pos}(h1:Aq N.length N sc t rt=true)(h2:i3 T N sc e re=true)(h3:c9 rt=true)(h4:Om sc rt re=true):PS X (.Assign [rt] re pos) (liftS X.K λD ρ S=>(wEx Δ e).1 ρ S λx S1=>wTg t x ρ λρ'=>D.nx ρ' S1):=by
 have ge:=c8 e re C h2;unfold Om at h4;cases hv:Fq rt with
 | none=>
   rw[hv]at h4;rw[Qp]at h4;obtain⟨es,hes⟩:=Rc.mp h4.1;obtain⟨j,p,rfl⟩:=Au hes;exact u8 _ (Ij ge.pe (As C t _ h1) Op (Os h4.2) (N8 rfl)) (MU ge.m)
 | some xp=>
   rw[hv]at h4;have e0:=IT hv;obtain⟨x,px⟩:=xp;subst e0;cases t with
   | tup ts=>rw[Aq]at h1;cases h1
   | nm i=>
     rw[Aq]at h1;have h1:(decide (i<N.length)&&decide (N[i]?=some x)&&loc sc x)=true:=h1;simp only[Qp,dQ]at h1;obtain⟨⟨hi,hx⟩,hl⟩:=h1;unfold loc at hl;simp only[RU,bQ]at hl;have hND:X.N.Nodup:=by rw[C.hN];exact C.nd
     have hNi:X.N[i]?=some x:=by rw[C.hN];exact hx
     have hloc:Loc X.env.scope x:=by rw[C.hs];exact hl
     have hf:X.fn x=true\/X.env.scope.names.lookup x=some .local:=by
      rw[C.hs];rcases hl with hl | hl
      ·exact .inr hl
      ·exact .inl (C.fn i x hi hx hl)
     have hke:X.env.scope.kind = .function:=by rw[C.hs];exact hk
     cases hsw:D3 sc re x px with
     | false=>exact u8 _ (NW hND hNi hloc ge.pe (by rw[Gp hke,C.hs,hsw]) hf) (Ed ge.m)
     | true=>
       have h4:(!D3 sc re x px||Ol re||QI re)=true:=h4;rw[hsw,T6,UD,RU]at h4;rcases h4 with h4 | h4
       ·unfold Ol at h4;obtain⟨v,hv',h4⟩:=c6 h4;obtain⟨gen,hgen⟩:=Rc.mp h4;obtain⟨p',rfl⟩:=EC hv';rw[m7 hgen]at h2 ge hsw ⊢
        have hxl:X.env.scope.names.lookup x=some .local:=by
         rw[C.hs];unfold D3 CL at hsw;simp only[Qp,bQ]at hsw;exact hsw.1.1
        have hs1:V2 (.ListComp v.1 [gen] v.2.2 p') (some (.Name x px)) pos.line X.env=pure true:=by rw[Gp hke,C.hs,hsw]
        cases e with
        | comp own cn js g it t' e'=>
          obtain⟨tg,ri,ifs,az⟩:=gen;have h2:(decide (az=0)&&v0 sc v.2.2 own cn N js&&Aq own.length (own++cn) (E8 v.2.2 sc) g tg&&MA T N sc it tg ri&&t8 ri&&ED T (own++cn) (E8 v.2.2 sc) t' ifs&&i3 T (own++cn) (E8 v.2.2 sc) e' v.1)=true:=h2;simp only[Qp,dQ]at h2;obtain⟨⟨⟨⟨⟨⟨k0,k1⟩,k2⟩,k3⟩,k4⟩,k5⟩,k6⟩:=h2;subst k0;have hI:=Bf it _ _ C k3;have hT:=λs2 H2 cs A fp=>EZ t' _ (C.comp k1 s2 H2 cs A fp) k5;have hE:=λs2 H2 cs A fp=>c8 e' _ (C.comp k1 s2 H2 cs A fp) k6;have mt:=(hT X.s₀ X.H₀ [] 0 []).2;have me:=(hE X.s₀ X.H₀ [] 0 []).m;have b:=FH (i:=i) (g:=D0 X.K g) (tt:=liftT X.K (wEo Δ t').2) (te:=lift X.K (wEx Δ e').1) own cn js hND hNi hxl hI.pi (λs2 H2 cs A fp=>As (C.comp k1 s2 H2 cs A fp) g _ k2) (λs2 H2 cs A fp=>(hT s2 H2 cs A fp).1) (λs2 H2 cs A fp=>(hE s2 H2 cs A fp).pe) C.calm (by rw[C.hs,C.hN];exact k1) hs1 (AO k4);refine u8 _ b λD σ H h=>?_;have:=Ed ge.m D σ H h;exact EW hI.m mt me σ H _ this
        | no=>exact λ_ _ _ _ _ _ h=>let ⟨_,_,_,_,_,z⟩:=h;z.elim
        | _=>exact absurd h2 nofun
       ·exact TL (show false=true from h4)
mutual
theorem KU(C:Cok T Δ X N.length N sc)(hp:WC (UZ X.prog X.w) X.A X.env X.xe)(hk:sc.kind = .function):∀(s:Stm) (r:Stmt),QJ T N sc s r=true->GoodS X r (wSt Δ s)
 | .asg t e,r,h=>by
   replace h:=c6 h;obtain⟨v,hv,h⟩:=h;replace h:=c6 h;obtain⟨rt,hrt,h⟩:=h;obtain⟨pos,rfl⟩:=DY hv;simp only[Qp]at h;obtain⟨⟨⟨h1,h2⟩,h3⟩,h4⟩:=h;rw[m7 hrt];exact⟨IU C hk h1 h2 h3 h4,Ee (c8 e _ C h2).m⟩
 | .put o i e,r,h=>by
   replace h:=c6 h;obtain⟨v,hv,h⟩:=h;replace h:=c6 h;obtain⟨rt,hrt,h⟩:=h;replace h:=c6 h;obtain⟨oi,hoi,h⟩:=h;obtain⟨pos,rfl⟩:=DY hv;obtain⟨p2,e2⟩:=Bs hoi;simp only[Qp]at h;rw[m7 hrt,e2];have go:=c8 o _ C h.1.1.1;have gi:=c8 i _ C h.1.1.2;have ge:=c8 e _ C h.1.2;refine⟨u8 _ (Ij ge.pe (NV go.pe gi.pe Iz (Fs h.2)) Oq Ot (N8 rfl)) (MY go.m gi.m ge.m),?_⟩;exact λD D' ρ S l h=>ge.m _ _ _ _ (λv S1 q=>go.m _ _ _ _ (λx S2 q=>gi.m _ _ _ _ (λy S3 q=>CM (λS4 q=>l.nx _ _ q) q) q) q) h
 | .dput o i e,r,h=>by
   replace h:=c6 h;obtain⟨v,hv,h⟩:=h;replace h:=c6 h;obtain⟨rt,hrt,h⟩:=h;replace h:=c6 h;obtain⟨oi,hoi,h⟩:=h;obtain⟨pos,rfl⟩:=DY hv;obtain⟨p2,e2⟩:=Bs hoi;simp only[Qp]at h;rw[m7 hrt,e2];have go:=c8 o _ C h.1.1.1;have gi:=c8 i _ C h.1.1.2;have ge:=c8 e _ C h.1.2;have:=C.un;refine⟨u8 _ (Jk (by omega) go.pe gi.pe ge.pe (by unfold V2;cases v.2<;>rfl)) (KS go.m gi.m ge.m),?_⟩;exact λD D' ρ S l h=>ge.m _ _ _ _ (λv S1 q=>go.m _ _ _ _ (λx S2 q=>gi.m _ _ _ _ (λy S3 q=>D4 (λS4 q=>l.nx _ _ q) q) q) q) h
 | .expr e,r,h=>by
   replace h:=c6 h;obtain⟨re,hre,h⟩:=h;obtain⟨pos,rfl⟩:=MN hre;simp only[Qp]at h;have ge:=c8 e _ C h.1
   have hs:V2 re none pos.line X.env=pure false:=by
    have:=h.2;unfold V2;cases re<;>first | rfl | (unfold CL at this;cases this)
   refine⟨u8 _ (LK ge.pe hs) ?_,λD D' ρ S l h=>ge.m _ _ _ _ (λx S1 q=>l.nx _ _ q) h⟩;rintro D σ H ⟨as,ρ,S,ok,en,h⟩;exact⟨as,ρ,S,ok,en,ge.m _ _ _ _ (λx S1 q as1 H1 v g1 ok1 rv=>q as1 H1 σ g1 ok1 (en.mono g1.pre (g1.ku ok))) h⟩
 | .iff t a b,r,h=>by
   replace h:=c6 h;obtain⟨v,hv,h⟩:=h;obtain⟨pos,rfl⟩:=MO hv;simp only[Qp]at h;have gt:=c8 t _ C h.1.1;have ga:=AY C hp hk a _ h.1.2;have gb:=AY C hp hk b _ h.2;exact⟨u8 _ (P8 gt.pt ga.ps gb.ps) (Oo gt.mt ga.m gb.m),Eg gt.mt ga.m gb.m⟩
 | .loop g it b,r,h=>by
   replace h:=c6 h;obtain⟨v,hv,h⟩:=h;obtain⟨pos,rfl⟩:=MP hv;simp only[Qp,RO]at h;obtain⟨⟨⟨⟨h1,h2⟩,h3⟩,h4⟩,h5⟩:=h;rw[h5];have gi:=Bf it _ _ C h2;have gb:=AY C hp hk b _ h4;refine⟨u8 _ (NX hp C.calm gi.pi (As C g _ h1) gb.ps (AO h3)) (MV gi.m gb.m),?_⟩;exact λD D' ρ S l h=>gi.m _ _ _ _ (λkeep xs S1 q=>Ax gb.m xs l _ _ q) h
 | .whl t b,r,h=>by
   replace h:=c6 h;obtain⟨v,hv,h⟩:=h;obtain⟨pos,rfl⟩:=MQ hv;simp only[Qp,RO]at h;rw[h.2];have gt:=c8 t _ C h.1.1;have gb:=AY C hp hk b _ h.1.2;exact⟨u8 _ (Il hp gt.pt gb.ps) (MW gt.mt gb.m),Ef gt.mt gb.m⟩
 | .ret e,r,h=>by
   replace h:=c6 h;obtain⟨o,ho,h⟩:=h;replace h:=c6 h;obtain⟨re,hre,h⟩:=h;obtain⟨pos,rfl⟩:=MR ho;rw[hre];have ge:=c8 e _ C h;exact⟨u8 _ (NS ge.pe) λD σ H ⟨as,ρ,S,ok,en,h⟩=>⟨as,ρ,S,ok,en,h⟩,λD D' ρ S l h=>ge.m _ _ _ _ l.rt h⟩
 | .cnt,r,h=>by
   have h:=bQ.mp h;obtain⟨p,rfl⟩:=MS h;exact⟨u8 _ Dp λD σ H ⟨as,ρ,S,ok,en,h⟩=>h as H σ (Go.refl _ _) ok en,λD D' ρ S l h=>l.ct _ _ h⟩
 | .no,r,h=>⟨λ_ _ _ _ _ _ h=>let ⟨_,_,_,_,_,z⟩:=h;z.elim,λ_ _ _ _ _ h=>h⟩
theorem AY(C:Cok T Δ X N.length N sc)(hp:WC (UZ X.prog X.w) X.A X.env X.xe)(hk:sc.kind = .function):∀(s:List Stm) (r:List Stmt),BN T N sc s r=true->GoodSs X r (wSs Δ s)
 | [],r,h=>by
   rw[BN,RO]at h;subst h;exact Fr
 | s::ss,r,h=>by
   rw[BN]at h;replace h:=c6 h;obtain⟨x,hx,h⟩:=h;rw[Qp]at h;rw[AH hx];have:=Ec (KU C hp hk s x h.1) (AY C hp hk ss _ h.2);rw[wSs];exact this
end
end
mutual
theorem c7{Δ:Nat->Sn}(hΔ:∀ f,MonoN (Δ f)):∀(e:Ex),Mono (wEx Δ e).1/\MonoT (wEx Δ e).2
 | .var i=>⟨.var,.tru .var⟩
 | .c x=>⟨.c,.tru .c⟩
 | .op o a b=>have m:Mono _ := .two (s:=sOp o) Gc (c7 hΔ a).1 (c7 hΔ b).1;⟨m,.tru m⟩
 | .cmp o a b=>have m:Mono _ := .two (s:=Ae o) v8 (c7 hΔ a).1 (c7 hΔ b).1;⟨m,.bl m⟩
 | .chn o p a b c=>have m:=EF (o:=o) (p:=p) (c7 hΔ a).1 (c7 hΔ b).1 (c7 hΔ c).1;⟨m,.bl m⟩
 | .and a b=>⟨.and (c7 hΔ a).1 (c7 hΔ b).1,.and (c7 hΔ a).2 (c7 hΔ b).2⟩
 | .or a b=>⟨.or (c7 hΔ a).1 (c7 hΔ b).1,.or (c7 hΔ a).2 (c7 hΔ b).2⟩
 | .not a=>⟨.not (c7 hΔ a).1,.not (c7 hΔ a).2⟩
 | .tup es=>have m:Mono _ := .n .tup (AZ hΔ es);⟨m,.tru m⟩
 | .lst es=>have m:Mono _ := .n .lst (AZ hΔ es);⟨m,.tru m⟩
 | .ix a b=>have m:Mono _ := .two .ix (c7 hΔ a).1 (c7 hΔ b).1;⟨m,.tru m⟩
 | .slc a lo hi=>have m:Mono _:=(λρ S P P' i h=>(c7 hΔ a).1 _ _ _ _ (λx S1 h=>(i9 hΔ lo).1 _ _ _ _ (λl S2 h=>(i9 hΔ hi).1 _ _ _ _ (λk S3 h=>CH i h) h) h) h:Mono (ON _ _ _));⟨m,.tru m⟩
 | .call f es=>have m:Mono _ := .n (hΔ f) (AZ hΔ es);⟨m,.tru m⟩
 | .bi b es=>have m:Mono _ := .n (s:=sBi b) .bi (AZ hΔ es);⟨m,.tru m⟩
 | .mt m' a es=>have m:Mono _:=Mono.mt (m:=m') (c7 hΔ a).1 (AZ hΔ es);⟨m,.tru m⟩
 | .comp own cn js g it t e=>have m:Mono _:=Mono.comp (k:=own.length) (js:=js) (g:=g) (Eh hΔ it) (i9 hΔ t).2 (c7 hΔ e).1;⟨m,.tru m⟩
 | .tyc t=>⟨.c,.tru .c⟩
 | .lrng1 a=>have m:=CI (c7 hΔ a).1;⟨m,.tru m⟩
 | .max1 a=>have m:=Cy (c7 hΔ a).1;⟨m,.tru m⟩
 | .dvals a=>have m:=CJ (c7 hΔ a).1;⟨m,.tru m⟩
 | .dcopy a=>have m:=CK (c7 hΔ a).1;⟨m,.tru m⟩
 | .srtp a=>have m:=Cz (c7 hΔ a).1;⟨m,.tru m⟩
 | .lenset a=>have m:=Bk (c7 hΔ a).1;⟨m,.tru m⟩
 | .setl a=>have m:=Cw (c7 hΔ a).1;⟨m,.tru m⟩
 | .eqt0 a b=>have m:Mono _ := .two Av (c7 hΔ a).1 (c7 hΔ b).1;⟨m,.bl m⟩
 | .dnew=>⟨Bb,.tru Bb⟩
 | .din n a b=>have m:Mono _ := .two (s:=Hx n) AX (c7 hΔ a).1 (c7 hΔ b).1;⟨m,.bl m⟩
 | .no=>⟨λ_ _ _ _ _ h=>h,λ_ _ _ _ _ h=>h⟩
theorem AZ{Δ:Nat->Sn}(hΔ:∀ f,MonoN (Δ f)):∀(es:Exs),MonoA (DP Δ es)
 | .nil => .nil
 | .cons e es => .cons (c7 hΔ e).1 (AZ hΔ es)
theorem i9{Δ:Nat->Sn}(hΔ:∀ f,MonoN (Δ f)):∀(o:Eo),MonoO (wEo Δ o).1/\MonoT (wEo Δ o).2
 | .no=>⟨.no,λ_ _ _ _ i q=>i _ _ q⟩
 | .yes e=>⟨.yes (c7 hΔ e).1,(c7 hΔ e).2⟩
theorem Eh{Δ:Nat->Sn}(hΔ:∀ f,MonoN (Δ f)):∀(it:Itb),MonoI (M6 Δ it)
 | .seq e=>λρ S P P' i h=>(c7 hΔ e).1 _ _ _ _ (λx S1 ⟨xs,e,q⟩=>⟨xs,e,i _ _ _ q⟩) h
 | .rng1 a=>λρ S P P' i h=>(c7 hΔ a).1 _ _ _ _ (λx S1 ⟨j,e,z,q⟩=>⟨j,e,z,i _ _ _ q⟩) h
 | .rng2 a b=>λρ S P P' i h=>(c7 hΔ a).1 _ _ _ _ (λx S1 h=>(c7 hΔ b).1 _ _ _ _ (λy S2 ⟨l,j,e,e2,z,q⟩=>⟨l,j,e,e2,z,i _ _ _ q⟩) h) h
 | .itm e=>λρ S P P' i h=>(c7 hΔ e).1 _ _ _ _ (λx S1 ⟨k,kvs,e,hk,q⟩=>⟨k,kvs,e,hk,λo ks=>i _ _ _ (q o ks)⟩) h
 | .zipE a b=>λρ S P P' i h=>(c7 hΔ a).1 _ _ _ _ (λx S1 h=>(c7 hΔ b).1 _ _ _ _ (λy S2 ⟨k,xs,ys,e,z,e2,l,q⟩=>⟨k,xs,ys,e,z,e2,l,i _ _ _ q⟩) h) h
 | .enum e=>λρ S P P' i h=>(c7 hΔ e).1 _ _ _ _ (λx S1 ⟨xs,e,q⟩=>⟨xs,e,i _ _ _ q⟩) h
end
mutual
theorem MZ{Δ:Nat->Sn}(hΔ:∀ f,MonoN (Δ f)):∀(s:Stm),MonoS (wSt Δ s)
 | .asg t e=>by exact Ee (c7 hΔ e).1
 | .put o i e=>by exact λD D' ρ S l h=>(c7 hΔ e).1 _ _ _ _ (λv S1 q=>(c7 hΔ o).1 _ _ _ _ (λx S2 q=>(c7 hΔ i).1 _ _ _ _ (λy S3 q=>CM (λS4 q=>l.nx _ _ q) q) q) q) h
 | .dput o i e=>by exact λD D' ρ S l h=>(c7 hΔ e).1 _ _ _ _ (λv S1 q=>(c7 hΔ o).1 _ _ _ _ (λx S2 q=>(c7 hΔ i).1 _ _ _ _ (λy S3 q=>D4 (λS4 q=>l.nx _ _ q) q) q) q) h
 | .expr e=>by exact λD D' ρ S l h=>(c7 hΔ e).1 _ _ _ _ (λx S1 q=>l.nx _ _ q) h
 | .iff t a b=>by exact Eg (c7 hΔ t).2 (j5 hΔ a) (j5 hΔ b)
 | .loop g it b=>by exact λD D' ρ S l h=>Eh hΔ it _ _ _ _ (λkeep xs S1 q=>Ax (j5 hΔ b) xs l _ _ q) h
 | .whl t b=>by exact Ef (c7 hΔ t).2 (j5 hΔ b)
 | .ret e=>by exact λD D' ρ S l h=>(c7 hΔ e).1 _ _ _ _ l.rt h
 | .cnt=>by exact λD D' ρ S l h=>l.ct _ _ h
 | .no=>by exact λD D' ρ S l h=>h
theorem j5{Δ:Nat->Sn}(hΔ:∀ f,MonoN (Δ f)):∀(s:List Stm),MonoS (wSs Δ s)
 | []=>by exact λD D' ρ S l h=>l.nx _ _ h
 | s::ss=>by exact λD D' ρ S l h=>(MZ hΔ s).go (D:={D with nx:=wSs Δ ss D}) h ⟨λρ' S' q=>(j5 hΔ ss) _ _ _ _ l q,l.rt,l.bk,l.ct⟩
end
theorem KW{P:List UT->Prop}{n:Nat}(h:∀ a us,us.length=n->P (a::us)):∀ us:List UT,us.length=n+1->P us
 | a::us,e=>h a us (Nat.succ.inj e)
theorem Ei{P:List UT->Prop}(h:∀ a,P [a]):∀ us:List UT,us.length=1->P us:=KW λa us e=>Sb.mp e▸h a
theorem BO{P:List UT->Prop}(h:∀ a b,P [a,b]):∀ us:List UT,us.length=2->P us:=KW λa=>Ei (P:=λus=>P (a::us)) (h a)
theorem Ej{P:List UT->Prop}(h:∀ a b c,P [a,b,c]):∀ us:List UT,us.length=3->P us:=KW λa=>BO (P:=λus=>P (a::us)) (h a)
theorem Ma{P:List UT->Prop}(h:∀ a b c d,P [a,b,c,d]):∀ us:List UT,us.length=4->P us:=KW λa=>Ej (P:=λus=>P (a::us)) (h a)
theorem QK{P:List UT->Prop}(h:∀ a b c d e,P [a,b,c,d,e]):∀ us:List UT,us.length=5->P us:=KW λa=>Ma (P:=λus=>P (a::us)) (h a)
structure Df where
 name:Str
 st:Stmt
 ps:List Str
 N:List Str
 body:List Stm
noncomputable def k9(Q:QE):EndsS:=⟨λ_ S'=>Q .non S',Q,λ_ _=>False,λ_ _=>False⟩
noncomputable def KY(n:Nat)(xs:List SV):EnvS:=xs.map some++RA (n - xs.length) none
noncomputable def j0(Δ:Nat->Sn)(D:Df):Sn:=λxs S Q=>xs.length=D.ps.length/\wSs Δ D.body (k9 Q) (KY D.N.length xs) S
noncomputable def W(prog:List Df):Nat->Nat->Sn
 | 0,_=>λ_ _ _=>False
 | d+1,f=>match prog[f]? with
   | some D=>j0 (W prog d) D
   | none=>λ_ _ _=>False
theorem KZ{Δ:Nat->Sn}(hΔ:∀ f,MonoN (Δ f))(D:Df):MonoN (j0 Δ D):=λxs S P P' i h=>⟨h.1,(j5 hΔ D.body).go h.2 ⟨λ_ _ q=>i _ _ q,i,λ_ _ q=>q,λ_ _ q=>q⟩⟩
theorem CN{prog:List Df}:∀(d f:Nat),MonoN (W prog d f)
 | 0,f=>λ_ _ _ _ _ h=>h
 | d+1,f=>by
   unfold W;split
   ·exact KZ (CN d) _
   ·exact λ_ _ _ _ _ h=>h
noncomputable def fnB(N ps:List Str)(sc:Ug):Bool:=decide (sc.kind = .function)&&!sc.isCoroutine&&!sc.isGenerator&&decide N.Nodup&&decide (N.take ps.length=ps)&&ps.all (loc sc)&&sc.names.all (λy=>!decide (y.2 = .free))
theorem Ou{N ps:List Str}{sc:Ug}(h:fnB N ps sc=true):FnScope N ps sc:=by
 unfold fnB at h;simp only[Qp,dQ,RG,RB,decide_eq_false_iff_not]at h;obtain⟨⟨⟨⟨⟨⟨h1,h2⟩,h3⟩,h4⟩,h5⟩,h6⟩,h7⟩:=h;refine⟨h1,h2,h3,h4,h5,λx hx=>?_,h7⟩;have:=h6 x hx;unfold loc at this;simpa using this
noncomputable def Mb(T:List Str)(D:Df):Bool:=fnB D.N D.ps (defScope D.st)&&BN T D.N (defScope D.st) D.body (defBody D.st)
structure Bl(mg:Str->Option UT):Prop where
 bl:∀ b:BI,mg b.name=none
 rng:mg "range"=none
 enm:mg "enumerate"=none
 rvs:mg "reversed"=none
 zip:mg "zip"=none
 st0:mg "set"=none
 dc0:mg "dict"=none
 ty:∀ t:TyN,t ≠ .none->mg (Str.ofString t.nm)=none
section
variable{P:Ua}{w:Ud}{K:Qo}{mg:Str->Option UT}{base:Heap}
theorem IV{as:List UV}{H:Hp}{N:List Str}{vs:List V}{xs:List SV}(r:RlAll K as H vs xs):EnvOk K as H (L2.start N vs) (KY N.length xs):=by
 unfold L2.start KY;rw[<-r.length];refine⟨by simp[r.length],λi x e=>?_⟩;by_cases hi:i<vs.length
 ·rw[R6 (by rw[Qr,<-r.length];exact hi),R8]at e;rw[R6 (by simpa using hi),R8];cases hx:xs[i]? with
  | none=>rw[hx]at e;cases e
  | some y=>
    rw[hx]at e;have:y=x:=by simpa using e
    subst this;obtain⟨v,hv,rv⟩:=r.get hx;exact⟨v,by rw[hv];rfl,rv⟩
 ·rw[RM (by rw[Qr,<-r.length];omega),Rh]at e;split at e<;>cases e
theorem Ka{T:List Str}{Δ:Nat->Sn}{D:Df}{f:UV}{fd:V3}{k:Nat}(F:Fun K D.name D.name D.st f fd)(hc:Mb T D=true)(B:Bl mg)(hcall:∀ f x,T[f]?=some x->∃ ps,Cal P w K mg base k x ps (spS K (Δ f)))(hΔ:∀ f,MonoN (Δ f)):FnOk P w K mg base CX0 (k+1) f fd D.ps (spS K (j0 Δ D)):=by
 unfold Mb at hc;rw[Qp]at hc;have S:=Ou hc.1;refine F.ok S (λvs H Q E h=>?_) (λcdv A outer s H vs Q E hr h=>?_)
 ·obtain⟨as,S,xs,ok,r,hl,_⟩:=h;rw[r.length];exact hl
 ·have C:Cok T Δ (FA CX0 P w K mg base D.N D.name (defScope D.st) f cdv A outer s H E).nox D.N.length D.N (defScope D.st):={
   hN:=rfl,hs:=rfl,nd:=S.nd,calm:=rfl,fn:=λ_ _ _ _ _=>rfl
   un:=by have:=hr.un;show(A.deeper _).units+102<cLine;omega
   bl:=B.bl,rng:=B.rng,enm:=B.enm,rvs:=B.rvs,zip:=B.zip,st0:=B.st0,dc0:=B.dc0,ty:=B.ty,gd:=hr.gd
   call:=λg x hx=>let ⟨ps,c⟩:=hcall g x hx;⟨k,ps,c,hr⟩
   mono:=hΔ}
  refine⟨_,(AY C PassesOwn.never S.kind D.body _ hc.2).ps,?_⟩;obtain⟨as,S,xs,ok,r,hl,h⟩:=h;refine⟨as,_,S,ok,IV r,(j5 hΔ D.body).go h ⟨λρ' S' q as' H' σ' g ok' en'=>q as' H' _ g ok' (rl_non.mpr rfl),λx S' q=>q,λ_ _ q=>q.elim,λ_ _ q=>q.elim⟩⟩
structure PIn(K:Qo)(mg:Str->Option UT)(D:Df):Prop where
 ex:∃ f fd,Fun K D.name D.name D.st f fd/\mg D.name=some (.ref f)/\PySem.W.keepIn K (.ref f)=true/\Binds K fd D.ps []
theorem Gq{prog:List Df}(hc:prog.all (Mb (prog.map (·.name)))=true)(B:Bl mg)(hin:∀ D∈prog,PIn K mg D):∀(d f:Nat) (D:Df),prog[f]?=some D->Cal P w K mg base d D.name D.ps (spS K (W prog d f))
 | 0,f,D,hf=>by
   obtain⟨fa,fd,F,hm,hk,hb⟩:=(hin D (R1 hf)).ex;refine⟨fa,fd,⟨λvs H Q E h=>?_,λA outer s H args us vs Q E hr he hbn hv h=>?_⟩,hm,hk,hb⟩
   ·obtain⟨_,_,_,_,_,z⟩:=h;exact z.elim
   ·obtain⟨_,_,_,_,_,z⟩:=h;exact z.elim
 | d+1,f,D,hf=>by
   obtain⟨fa,fd,F,hm,hk,hb⟩:=(hin D (R1 hf)).ex;have h1:=RB.mp hc D (R1 hf)
   have:=Ka (Δ:=W prog d) (P:=P) (w:=w) (base:=base) (k:=d) F h1 B (λg x hx=>by
    rw[R8]at hx;cases hg:prog[g]? with
    | none=>rw[hg]at hx;cases hx
    | some D'=>
      rw[hg]at hx;have:D'.name=x:=by simpa using hx
      subst this;exact⟨D'.ps,Gq hc B hin d g D' hg⟩) (CN d)
   have e:W prog (d+1) f=j0 (W prog d) D:=by rw[W,hf]
   rw[e];exact⟨fa,fd,this,hm,hk,hb⟩
theorem Ov{prog:List Df}{d f:Nat}{H:Hp}{a:UV}{ns:List Int}(main:W prog d f [.ro (ns.map SV.int)] [] λx _=>x = .bl true)(hO:LW H)(hS:SqL K H a (ns.map V.int)):spS K (W prog d f) [.ref a] H (λv _=>v = .bl true) λ_ _ _=>False:=by
 have hz:FzL K H a (ns.map V.int):=by
  rcases hS with(h | ⟨o,h⟩) | h
  ·rcases hO a with z | ⟨o,xs,z⟩<;>rw[h]at z<;>cases z
  ·exact .inl ⟨o,h⟩
  ·exact .inr h
 refine⟨[],[],_,⟨rfl,Tf,λk o a e=>by simp at e⟩,.cons (rl_ro.mpr ⟨a,_,rfl,hz,RlAll.ints⟩) .nil,CN d f _ _ _ _ (λx S' e as' H' v g ok r=>?_) main⟩;subst e;exact rl_bl.mp r
end
theorem f6{k:Nat}{S:Sto}{xs:List SV}(h:S[k]?=some (.lst xs)):AN (.loc k) S=some xs:=by simp only[AN,h]
theorem BP{k:Nat}{S:Sto}{xs:List SV}(h:S[k]?=some (.lst xs)):BG (.loc k) S=none:=by simp only[BG,h]
theorem ifT{b:Bool}{A B:Prop}(h:b=true)(a:A):if b=true then A else B:=by rw[iP h];exact a
theorem ifF{b:Bool}{A B:Prop}(h:b=false)(a:B):if b=true then A else B:=by rw[iG (by rw[h];decide)];exact a
theorem ifD{c A B:Prop}[Decidable c](h1:c->A)(h2:¬ c->B):if decide c=true then A else B:=by
 by_cases h:c
 ·rw[iP (decide_eq_true h)];exact h1 h
 ·rw[iG (by simpa using h)];exact h2 h
theorem ifB{b:Bool}{A B:Prop}(h1:b=true->A)(h2:b=false->B):if b=true then A else B:=by
 cases b with
 | true=>rw[iP rfl];exact h1 rfl
 | false=>rw[iG (by decide)];exact h2 rfl
theorem DZ{S:Sto}{k:Nat}{o u:SO}(h:S[k]?=some o):(S.set k u)[k]?=some u:=Ra ((gM h).1)
theorem Gr{S:Sto}{k j:Nat}{u:SO}(h:k≠j):(S.set k u)[j]?=S[j]?:=Rq h
theorem e5{S:Sto}{o:SO}:(S++[o])[S.length]?=some o:=RJ
theorem i6{S:Sto}{o u:SO}{k:Nat}(h:S[k]?=some u):(S++[o])[k]?=some u:=by
 rw[R6 ((gM h).1)];exact h
theorem Kb{S:Sto}{o:SO}{k:Nat}(h:S[k]?=some o):k<S.length:=(gM h).1
structure TapeS(S:Sto)(t:Nat):Prop where
 ex:∃ a b:Int,S[t]?=some (.lst [.int a,.int b])/\0<=a/\0<=b/\b<2147483647
structure On(t:Nat)(S S':Sto):Prop where
 len:S.length<=S'.length
 keep:∀ k o,k≠t->S[k]?=some o->S'[k]?=some o
theorem On.refl(t:Nat)(S:Sto):On t S S:=⟨Qs _,λ_ _ _ h=>h⟩
theorem On.trans{t:Nat}{S S' S'':Sto}(a:On t S S')(b:On t S' S''):On t S S'':=⟨RE a.len b.len,λk o n h=>b.keep k o n (a.keep k o n h)⟩
theorem On.push{t:Nat}{S S':Sto}{o:SO}(a:On t S S'):On t S (S'++[o]):=⟨by rw[Qv];have:=a.len;omega,λk u n h=>i6 (a.keep k u n h)⟩
theorem On.tape{t:Nat}{S S':Sto}{o:SO}(a:On t S S'):On t S (S'.set t o):=⟨by rw[Rm];exact a.len,λk u n h=>by rw[Gr (Ne.symm n)];exact a.keep k u n h⟩
theorem On.new{t k:Nat}{S S':Sto}{o:SO}(a:On t S S')(h:S.length<=k):On t S (S'.set k o):=⟨by rw[Rm];exact a.len,λj u n hj=>by
 rw[Gr (λz=>by have:=Kb hj;omega)];exact a.keep j u n hj⟩
theorem TapeS.push{S:Sto}{t:Nat}{o:SO}(h:TapeS S t):TapeS (S++[o]) t:=let ⟨a,b,e,z⟩:=h.ex;⟨a,b,i6 e,z⟩
theorem TapeS.other{S:Sto}{t k:Nat}{o:SO}(h:TapeS S t)(n:k≠t):TapeS (S.set k o) t:=let ⟨a,b,e,z⟩:=h.ex;⟨a,b,by rw[Gr n];exact e,z⟩
theorem TapeS.lt{S:Sto}{t:Nat}(h:TapeS S t):t<S.length:=let ⟨_,_,e,_⟩:=h.ex;Kb e
theorem AA{keep:Sto->Prop}{g:Tg}{b:WS}{D:EndsS}(mb:MonoS b)(I:Nat->EnvS->Sto->Prop){xs:List SV}{ρ:EnvS}{S:Sto}(h0:I 0 ρ S)(hk:∀ i ρ S,I i ρ S->keep S)
 (hs:∀ i x ρ S,xs[i]?=some x->I i ρ S->wTg g x ρ λρ2=>b {D with nx:=I (i+1),ct:=I (i+1),bk:=D.nx} ρ2 S) (hd:∀ ρ S,I xs.length ρ S->D.nx ρ S):t6 keep g b D xs ρ S:=by
 have go:∀(ys:List SV) (i:Nat) (ρ:EnvS) (S:Sto),xs.drop i=ys->i<=xs.length->I i ρ S->t6 keep g b D ys ρ S:=by
  intro ys
  induction ys with
  | nil=>
    intro i ρ S e hi h
    have:i=xs.length:=by
     have:=congrArg Ta e;rw[SH,SD]at this;omega
    subst this;unfold t6;exact⟨hk _ _ _ h,hd _ _ h⟩
  | cons y ys ih=>
    intro i ρ S e hi h
    have hy:xs[i]?=some y:=by
     rw[<-U6,e];rfl
    have hlt:=(gM hy).1;have e2:xs.drop (i+1)=ys:=by rw[<-UB,e];rfl
    unfold t6;refine⟨hk _ _ _ h,n9 g (λρ2 q=>?_) (hs i y ρ S hy h)⟩;exact mb.go (D:={D with nx:=I (i+1),ct:=I (i+1),bk:=D.nx}) q ⟨λρ' S' z=>ih (i+1) ρ' S' e2 hlt z,λ_ _ z=>z,λ_ _ z=>z,λρ' S' z=>ih (i+1) ρ' S' e2 hlt z⟩
 exact go xs 0 ρ S rfl (Rz _) h0
theorem Bu{keep:Sto->Prop}{g:Tg}{b:WS}{D:EndsS}(mb:MonoS b)(I:Nat->EnvS->Sto->Prop){xs:List SV}{ρ:EnvS}{S:Sto}(h0:I 0 ρ S)(hk:∀ i ρ S,I i ρ S->keep S)
 (hs:∀ i x ρ S (E:EndsS),(∀ ρ S,I (i+1) ρ S->E.nx ρ S)->(∀ y S,D.rt y S->E.rt y S)->xs[i]?=some x->I i ρ S->wTg g x ρ λρ2=>b E ρ2 S) (hd:∀ ρ S,I xs.length ρ S->D.nx ρ S):t6 keep g b D xs ρ S:=
 AA mb I h0 hk (λi x ρ S hx hI=>hs i x ρ S {D with nx:=I (i+1),ct:=I (i+1),bk:=D.nx} (λ_ _ h=>h) (λ_ _ h=>h) hx hI) hd
theorem i5{keep:Sto->Prop}{g:Tg}{t:WT}{e:WE}{ρ:EnvS}{Q:List SV->Sto->Prop}(mt:MonoT t)(me:Mono e)(I:Nat->List SV->Sto->Prop){xs:List SV}{S:Sto}(h0:I 0 [] S)(hk:∀ i ys S,I i ys S->keep S)
 (hs:∀ i x ys S,xs[i]?=some x->I i ys S->wTg g x ρ λρ2=>t ρ2 S λb S1=>if b=true then e ρ2 S1 λy S2=>ys.length<big/\I (i+1) (ys++[y]) S2 else I (i+1) ys S1) (hd:∀ ys S,I xs.length ys S->Q ys S):j9 keep g t e ρ Q xs [] S:=by
 have go:∀(zs:List SV) (i:Nat) (ys:List SV) (S:Sto),xs.drop i=zs->i<=xs.length->I i ys S->j9 keep g t e ρ Q zs ys S:=by
  intro zs
  induction zs with
  | nil=>
    intro i ys S e' hi h
    have:i=xs.length:=by
     have:=congrArg Ta e';rw[SH,SD]at this;omega
    subst this;unfold j9;exact⟨hk _ _ _ h,hd _ _ h⟩
  | cons y zs ih=>
    intro i ys S e' hi h;have hy:xs[i]?=some y:=by rw[<-U6,e'];rfl
    have hlt:=(gM hy).1;have e2:xs.drop (i+1)=zs:=by rw[<-UB,e'];rfl
    unfold j9;refine⟨hk _ _ _ h,n9 g (λρ2 q=>mt _ _ _ _ (λb S1 q=>j7 (λq=>me _ _ _ _ (λv S2 q=>⟨q.1,ih (i+1) _ S2 e2 hlt q.2⟩) q) (λq=>ih (i+1) _ S1 e2 hlt q) q) q) (hs i y ys S hy h)⟩
 exact go xs 0 [] S rfl (Rz _) h0
theorem v7{lo hi:Int}{i:Nat}{x:SV}(h:(Az lo hi)[i]?=some x):x = .int (lo+i)/\lo+i<hi:=by
 unfold Az at h
 have hi':i<(hi - lo).toNat:=by
  have:=(gM h).1;simpa using this
 rw[R8,Sq hi']at h;exact⟨(oj h).symm,by omega⟩
theorem y7{lo hi:Int}:(Az lo hi).length=(hi - lo).toNat:=by unfold Az;simp
noncomputable def pairS(e:Nat×Nat):SV := .tup [.int e.1,.int e.2]
noncomputable def N9:List Stm:=[(.asg (.nm 2) (.c (.int 0))),(.iff (.cmp .Lt (.var 1) (.bi .len (.cons (.var 0) .nil))) [(.asg (.nm 2) (.ix (.var 0) (.var 1)))] []),(.asg (.nm 3) (.op .Mult (.bi .abs (.cons (.var 2) .nil)) (.bi .int (.cons (.cmp .GtE (.bi .abs (.cons (.var 2) .nil)) (.op .Pow (.c (.int 10)) (.c (.int 18)))) .nil)))),(.ret (.lst (.cons (.var 3) (.cons (.op .Mod (.op .Mult (.op .Mod (.op .Add (.op .Add (.var 2) (.op .Mult (.c (.int 7919)) (.var 1))) (.c (.int 1))) (.c (.int 2147483647))) (.c (.int 48271))) (.c (.int 2147483647))) .nil))))]
noncomputable def NA:List Stm:=[(.iff (.cmp .Gt (.ix (.var 0) (.c (.int 0))) (.c (.int 0))) [(.asg (.nm 2) (.op .Mod (.ix (.var 0) (.c (.int 0))) (.var 1))),(.put (.var 0) (.c (.int 0)) (.op .FloorDiv (.ix (.var 0) (.c (.int 0))) (.var 1))),(.ret (.var 2))] []),(.put (.var 0) (.c (.int 1)) (.op .Mod (.op .Add (.op .Mult (.ix (.var 0) (.c (.int 1))) (.c (.int 48271))) (.c (.int 12345))) (.c (.int 2147483647)))),(.asg (.nm 3) (.op .Mod (.op .Mult (.ix (.var 0) (.c (.int 1))) (.op .Add (.op .Mod (.ix (.var 0) (.c (.int 1))) (.c (.int 1009))) (.c (.int 3)))) (.c (.int 2147483629)))),(.ret (.op .Mod (.op .Mod (.op .Mult (.var 3) (.op .Add (.op .Mod (.var 3) (.c (.int 997))) (.c (.int 5)))) (.c (.int 998244353))) (.var 1)))]
noncomputable def u9(s:Sn):Prop:=∀{t:Nat} {m:Int} {S:Sto} {Q:QE},TapeS S t->0<m->m<1073741824->(∀(r:Int) (S':Sto),0<=r->r<m->TapeS S' t->On t S S'->S'.length=S.length->Q (.int r) S')->s [.loc t,.int m] S Q
noncomputable def Kc(s:Sn):Prop:=∀{ns:List Int} {k:Nat} {S:Sto} {Q:QE},ns.length<=63->k<=1000->(∀ a b:Int,0<=a->0<=b->b<2147483647->Q (.loc S.length) (S++[.lst [.int a,.int b]]))->s [.ro (ns.map SV.int),.int k] S Q
theorem b01(b:Bool):-(2 ^ 64)<(if b=true then (1:Int) else 0)/\(if b=true then (1:Int) else 0)<2 ^ 64:=by cases b<;>decide
theorem b00(b:Bool):0<=(if b=true then (1:Int) else 0):=by cases b<;>decide
theorem Mc{Δ:Nat->Sn}{D:Df}(hb:D.body=NA)(hN:D.N.length=4)(hp:D.ps.length=2):u9 (j0 Δ D):=by
 intro t m S Q T h0 h1 q;obtain⟨a,b,hS,ha,hb0,hb1⟩:=T.ex;unfold j0;rw[hb,hN];refine⟨hp.symm,?_⟩;have go:∀ r a' b':Int,0<=r->r<m->0<=a'->0<=b'->b'<2147483647->Q (.int r) (S.set t (.lst [.int a',.int b'])):=λr a' b' r0 r1 a0 b0 b1=>q r _ r0 r1 ⟨a',b',DZ hS,a0,b0,b1⟩ (On.refl t S).tape (by rw[Rm]);refine⟨_,rfl,_,_,f6 hS,rfl,_,rfl,ifD (λh=>?_) (λh=>?_)⟩
 ·refine⟨_,rfl,_,_,f6 hS,rfl,_,rfl,h0,?_⟩;refine⟨_,rfl,_,_,f6 hS,rfl,_,rfl,⟨h0,h1⟩,_,rfl,_,_,hS,rfl,_,rfl,?_⟩;exact go _ _ _ (SE _ (by omega)) (Ro _ h0) (Int.ediv_nonneg ha (by omega)) hb0 hb1
 ·refine⟨_,rfl,_,_,f6 hS,rfl,.inr (by decide),show(0:Int)<2147483647 by decide,_,rfl,_,_,hS,rfl,?_⟩;have e0:0<=(b * 48271+12345) % 2147483647:=SE _ (by decide);have e1:(b * 48271+12345) % 2147483647<2147483647:=Ro _ (by decide);have hS1:(S.set t (.lst [.int a,.int ((b * 48271+12345) % 2147483647)]))[t]?=some (.lst [.int a,.int ((b * 48271+12345) % 2147483647)]):=DZ hS;refine⟨_,rfl,_,_,f6 hS1,rfl,_,rfl,_,_,f6 hS1,rfl,show(0:Int)<1009 by decide,.inl ⟨by omega,by omega⟩,show(0:Int)<2147483629 by decide,?_⟩;have f0:0<=((b * 48271+12345) % 2147483647 * ((b * 48271+12345) % 2147483647 % 1009+3)) % 2147483629:=SE _ (by decide);have f1:((b * 48271+12345) % 2147483647 * ((b * 48271+12345) % 2147483647 % 1009+3)) % 2147483629<2147483629:=Ro _ (by decide);refine⟨_,rfl,_,rfl,show(0:Int)<997 by decide,.inl ⟨by omega,by omega⟩,show(0:Int)<998244353 by decide,_,rfl,h0,?_⟩;exact go _ _ _ (SE _ (by omega)) (Ro _ h0) ha e0 e1
theorem Md{Δ:Nat->Sn}{D:Df}(hb:D.body=N9)(hN:D.N.length=4)(hp:D.ps.length=2):Kc (j0 Δ D):=by
 intro ns k S Q hl hk q;unfold j0;rw[hb,hN];refine⟨hp.symm,?_⟩
 have fin:∀ c:Int,wSs Δ [(.asg (.nm 3) (.op .Mult (.bi .abs (.cons (.var 2) .nil)) (.bi .int (.cons (.cmp .GtE (.bi .abs (.cons (.var 2) .nil)) (.op .Pow (.c (.int 10)) (.c (.int 18)))) .nil)))),(.ret (.lst (.cons (.var 3) (.cons (.op .Mod (.op .Mult (.op .Mod (.op .Add (.op .Add (.var 2) (.op .Mult (.c (.int 7919)) (.var 1))) (.c (.int 1))) (.c (.int 2147483647))) (.c (.int 48271))) (.c (.int 2147483647))) .nil))))] (k9 Q) [some (.ro (ns.map SV.int)),some (.int k),some (.int c),none] S:=λc=>by
  refine⟨_,rfl,_,rfl,⟨by decide,by decide,by decide⟩,.inr (b01 _),?_⟩;refine⟨_,rfl,_,rfl,_,rfl,.inl ⟨by decide,by decide⟩,show(0:Int)<2147483647 by decide,.inr ⟨by decide,by decide⟩,show(0:Int)<2147483647 by decide,by show 2<=big;decide,?_⟩;refine q _ _ (Int.mul_nonneg (by split<;>omega) (b00 _)) (SE _ (by decide)) (Ro _ (by decide))
 refine⟨_,rfl,_,rfl,_,rfl,_,rfl,ifD (λh=>?_) (λh=>fin 0)⟩
 have hk':k<ns.length:=by
  have:((ns.map SV.int).length:Int)=ns.length:=by rw[Qr]
  omega
 refine⟨_,rfl,_,rfl,_,_,rfl,l5 (v := .int ns[k]) (by rw[R8,R4 hk'];rfl),?_⟩;exact fin _
noncomputable def q1(kd:Nat):Stm:=(.asg (.nm 2) (.call kd (.cons (.var 0) (.cons (.c (.int 8)) .nil))))
noncomputable def q2(kd:Nat):Stm:=(.asg (.nm 3) (.ix (.lst (.cons (.call kd (.cons (.var 0) (.cons (.c (.int 7)) .nil))) (.cons (.op .Add (.c (.int 7)) (.call kd (.cons (.var 0) (.cons (.c (.int 6)) .nil)))) .nil))) (.bi .int (.cons (.var 1) .nil))))
noncomputable def q3(kd:Nat):Stm:=(.asg (.nm 4) (.lst .nil))
noncomputable def q4(kd:Nat):Stm:=(.iff (.and (.cmp .Lt (.var 2) (.c (.int 3))) (.cmp .Gt (.var 3) (.c (.int 1)))) [(.loop (.nm 5) (.rng1 (.call kd (.cons (.var 0) (.cons (.op .Add (.op .Mult (.c (.int 2)) (.var 3)) (.c (.int 1))) .nil)))) [(.asg (.nm 6) (.call kd (.cons (.var 0) (.cons (.var 3) .nil)))),(.expr (.mt .append (.var 4) (.cons (.tup (.cons (.var 6) (.cons (.op .Mod (.op .Add (.op .Add (.var 6) (.c (.int 1))) (.call kd (.cons (.var 0) (.cons (.op .Sub (.var 3) (.c (.int 1))) .nil)))) (.var 3)) .nil))) .nil)))])] [])
noncomputable def q5(kd:Nat):Stm:=(.iff (.and (.cmp .Eq (.var 2) (.c (.int 3))) (.cmp .Gt (.var 3) (.c (.int 2)))) [(.asg (.nm 4) (.op .Add (.comp ["_law_k"] ["_law_many"] [3] (.nm 0) (.rng1 (.var 3)) .no (.tup (.cons (.var 0) (.cons (.op .Mod (.op .Add (.var 0) (.c (.int 1))) (.var 1)) .nil)))) (.lst (.cons (.tup (.cons (.c (.int 0)) (.cons (.op .Add (.call kd (.cons (.var 0) (.cons (.op .Sub (.var 3) (.c (.int 1))) .nil))) (.c (.int 1))) .nil))) .nil))))] [])
noncomputable def q6(kd:Nat):Stm:=(.iff (.and (.cmp .Eq (.var 2) (.c (.int 4))) (.cmp .Gt (.var 3) (.c (.int 1)))) [(.asg (.nm 4) (.comp ["_law_k"] [] [] (.nm 0) (.rng2 (.c (.int 1)) (.var 3)) .no (.tup (.cons (.c (.int 0)) (.cons (.var 0) .nil)))))] [])
noncomputable def q7(kd:Nat):Stm:=(.iff (.cmp .Eq (.var 2) (.c (.int 5))) [(.asg (.nm 3) (.bi .min (.cons (.var 3) (.cons (.op .Add (.c (.int 5)) (.bi .int (.cons (.var 1) .nil))) .nil)))),(.loop (.nm 7) (.rng1 (.var 3)) [(.expr (.mt .extend (.var 4) (.cons (.comp ["_law_j"] ["_law_k"] [7] (.nm 0) (.rng1 (.var 7)) .no (.tup (.cons (.var 0) (.cons (.var 1) .nil)))) .nil)))])] [])
noncomputable def q8(kd:Nat):Stm:=(.iff (.cmp .Eq (.var 2) (.c (.int 6))) [(.asg (.nm 8) (.op .Add (.c (.int 1)) (.op .FloorDiv (.var 3) (.c (.int 2))))),(.loop (.nm 7) (.rng1 (.var 8)) [(.expr (.mt .extend (.var 4) (.cons (.comp ["_law_j"] ["_law_tape_here","_law_k"] [0,7] (.nm 0) (.rng2 (.var 8) (.var 3)) (.yes (.cmp .Gt (.call kd (.cons (.var 1) (.cons (.c (.int 3)) .nil))) (.c (.int 0)))) (.tup (.cons (.var 2) (.cons (.var 0) .nil)))) .nil)))])] [])
noncomputable def q9(kd:Nat):Stm:=(.iff (.cmp .Eq (.var 2) (.c (.int 7))) [(.asg (.nm 3) (.op .Add (.c (.int 3)) (.op .FloorDiv (.var 3) (.c (.int 3))))),(.loop (.nm 7) (.rng1 (.c (.int 3))) [(.expr (.mt .extend (.var 4) (.cons (.op .Mult (.lst (.cons (.tup (.cons (.var 7) (.cons (.op .Mod (.op .Add (.var 7) (.c (.int 1))) (.c (.int 3))) .nil))) .nil)) (.op .Add (.c (.int 1)) (.call kd (.cons (.var 0) (.cons (.c (.int 3)) .nil))))) .nil)))])] [])
noncomputable def q10(kd:Nat):Stm:=(.ret (.tup (.cons (.var 3) (.cons (.var 4) .nil))))
noncomputable def q7l(kd:Nat):Stm:=(.loop (.nm 7) (.rng1 (.var 3)) [(.expr (.mt .extend (.var 4) (.cons (.comp ["_law_j"] ["_law_k"] [7] (.nm 0) (.rng1 (.var 7)) .no (.tup (.cons (.var 0) (.cons (.var 1) .nil)))) .nil)))])
noncomputable def q8l(kd:Nat):Stm:=(.loop (.nm 7) (.rng1 (.var 8)) [(.expr (.mt .extend (.var 4) (.cons (.comp ["_law_j"] ["_law_tape_here","_law_k"] [0,7] (.nm 0) (.rng2 (.var 8) (.var 3)) (.yes (.cmp .Gt (.call kd (.cons (.var 1) (.cons (.c (.int 3)) .nil))) (.c (.int 0)))) (.tup (.cons (.var 2) (.cons (.var 0) .nil)))) .nil)))])
noncomputable def q9l(kd:Nat):Stm:=(.loop (.nm 7) (.rng1 (.c (.int 3))) [(.expr (.mt .extend (.var 4) (.cons (.op .Mult (.lst (.cons (.tup (.cons (.var 7) (.cons (.op .Mod (.op .Add (.var 7) (.c (.int 1))) (.c (.int 3))) .nil))) .nil)) (.op .Add (.c (.int 1)) (.call kd (.cons (.var 0) (.cons (.c (.int 3)) .nil))))) .nil)))])
noncomputable def Kd(kd:Nat):List Stm:=[q1 kd,q2 kd,q3 kd,q4 kd,q5 kd,q6 kd,q7 kd,q8 kd,q9 kd,q10 kd]
structure Prs(n:Nat)(es:EE):Prop where
 en:∀ e∈es,e.1<n/\e.2<n/\e.1≠e.2
 len:es.length<=36
 few:n<=12
noncomputable def Da(s:Sn):Prop:=∀{t:Nat} {g:Bool} {S:Sto} {Q:QE},TapeS S t->(∀(n:Nat) (es:EE) (l:Nat) (S':Sto),Prs n es->S'[l]?=some (.lst (es.map pairS))->S.length<=l->TapeS S' t->On t S S'->Q (.tup [.int n,.loc l]) S')->s [.loc t,.bl g] S Q
structure Ah(t:Nat)(S0 S:Sto)(l:Nat)(es:EE):Prop where
 tape:TapeS S t
 on:On t S0 S
 at':S[l]?=some (.lst (es.map pairS))
 new:S0.length<=l
 t0:t<S0.length
theorem Ah.ne{t l:Nat}{S0 S:Sto}{es:EE}(h:Ah t S0 S l es):l≠t:=by have:=h.new;have:=h.t0;omega
theorem Ah.draw{t l:Nat}{S0 S S':Sto}{es:EE}(h:Ah t S0 S l es)(T:TapeS S' t)(O:On t S S'):Ah t S0 S' l es:=⟨T,h.on.trans O,O.keep _ _ h.ne h.at',h.new,h.t0⟩
theorem Ah.push{t l:Nat}{S0 S:Sto}{es:EE}{o:SO}(h:Ah t S0 S l es):Ah t S0 (S++[o]) l es:=⟨h.tape.push,h.on.push,i6 h.at',h.new,h.t0⟩
theorem Ah.put{t l:Nat}{S0 S:Sto}{es fs:EE}(h:Ah t S0 S l es):Ah t S0 (S.set l (.lst (fs.map pairS))) l fs:=⟨h.tape.other h.ne,h.on.new h.new,DZ h.at',h.new,h.t0⟩
theorem Ek(es:EE)(e:Nat×Nat):es.map pairS++[.tup [.int e.1,.int e.2]]=(es++[e]).map pairS:=by rw[R9];rfl
section
variable{Δ:Nat->Sn}{kd:Nat}
theorem Qi(hΔ:∀ f,MonoN (Δ f))(hd:u9 (Δ kd)){t l n:Nat}{way:Int}{S0 S:Sto}{D:EndsS}{g:SV}{o5 o6 o7 o8:Option SV}(A:Ah t S0 S l [])(hn:n<=12)
 (q:∀(es:EE) (S':Sto) (o5 o6:Option SV),Prs n es->Ah t S0 S' l es->D.nx [some (.loc t),some g,some (.int way),some (.int n),some (.loc l),o5,o6,o7,o8] S'):
 wSt Δ (q4 kd) D [some (.loc t),some g,some (.int way),some (.int n),some (.loc l),o5,o6,o7,o8] S:=by
 have stay:=q [] S o5 o6 ⟨(λ_ h=>nomatch h),by simp,hn⟩ A;refine⟨_,rfl,_,rfl,ifD (λh1=>?_) (λh1=>ifF rfl stay)⟩;refine⟨_,rfl,_,rfl,ifD (λh2=>?_) (λh2=>stay)⟩;have h2:1<n:=by omega
 refine⟨_,rfl,_,rfl,.inl ⟨by decide,by decide⟩,hd A.tape (by omega) (by omega) λr S1 r0 r1 T1 O1 _=>⟨r,rfl,⟨by omega,by omega⟩,?_⟩⟩;have A1:=A.draw T1 O1
 refine AA (j5 hΔ _) (λi ρ S2=>∃(es:EE) (o5 o6:Option SV),ρ=[some (.loc t),some g,some (.int way),some (.int n),some (.loc l),o5,o6,o7,o8]/\Ah t S0 S2 l es/\(∀ e∈es,e.1<n/\e.2<n/\e.1≠e.2)/\es.length=i)
  ⟨[],o5,o6,rfl,A1,(λ_ h=>nomatch h),rfl⟩ (λ_ _ _ _=>trivial) ?_ ?_
 ·rintro i x ρ S2 hx ⟨es,p5,p6,rfl,A2,he,hl⟩;obtain⟨rfl,hi⟩:=v7 hx;refine⟨_,rfl,_,rfl,hd A2.tape (by omega) (by omega) λa S3 a0 a1 T3 O3 _=>?_⟩;have A3:=A2.draw T3 O3;refine⟨_,rfl,⟨l,_,rfl,A3.at'⟩,?_⟩;refine⟨_,rfl,_,rfl,_,rfl,_,rfl,hd A3.tape (by omega) (by omega) λb S4 b0 b1 T4 O4 _=>?_⟩;have A4:=A3.draw T4 O4;refine⟨_,rfl,show(0:Int)<n by omega,by show 2<=big;decide,⟨_,A4.at',by rw[Qr];show es.length<100000;omega,?_⟩⟩;have e1:((a.toNat:Nat):Int)=a:=SX a0;have m0:0<=(a+1+b) % n:=SE _ (by omega);have m1:(a+1+b) % n<n:=Ro _ (by omega);have e2:(((a+1+b) % n).toNat:Int)=(a+1+b) % n:=SX m0
  have hne:a≠(a+1+b) % n:=by
   by_cases hb:a+1+b<n
   ·rw[Sy (by omega) hb];omega
   ·rw[<-Int.sub_emod_right,Sy (by omega) (by omega)];omega
  have ea:=Ek es (a.toNat,((a+1+b) % n).toNat);simp only[e1,e2]at ea;refine⟨es++[(a.toNat,((a+1+b) % n).toNat)],_,_,rfl,?_,λe h=>?_,by rw[Qv,hl];rfl⟩
  ·have:=A4.put (fs:=es++[(a.toNat,((a+1+b) % n).toNat)]);rw[<-ea]at this;exact this
  ·rcases RF.mp h with h | h
   ·exact he e h
   ·rw[Qu.mp h];exact⟨by show a.toNat<n;omega,by show((a+1+b) % n).toNat<n;omega,by show a.toNat≠((a+1+b) % n).toNat;omega⟩
 ·rintro ρ S2 ⟨es,p5,p6,rfl,A2,he,hl⟩;rw[y7]at hl;exact q es S2 p5 p6 ⟨he,by omega,hn⟩ A2
noncomputable abbrev PQ(t:Nat)(g:SV)(way:Int)(S0:Sto)(D:EndsS):Prop:=∀(n:Nat) (es:EE) (l:Nat) (S':Sto) (o5 o6 o7 o8:Option SV),Prs n es->Ah t S0 S' l es->D.nx [some (.loc t),some g,some (.int way),some (.int n),some (.loc l),o5,o6,o7,o8] S'
theorem Db{n:Nat}(h:n<=12):Prs n []:=⟨(λ_ h=>nomatch h),by simp,h⟩
theorem Qj(hΔ:∀ f,MonoN (Δ f))(hd:u9 (Δ kd)){t l n:Nat}{S0 S:Sto}{D:EndsS}{g:SV}{o5 o6 o7 o8:Option SV}(A:Ah t S0 S l [])(hn:n<=12)(q:PQ t g 3 S0 D):
 wSt Δ (q5 kd) D [some (.loc t),some g,some (.int 3),some (.int n),some (.loc l),o5,o6,o7,o8] S:=by
 have stay:=q n [] l S o5 o6 o7 o8 (Db hn) A;refine⟨_,rfl,_,rfl,ifT rfl ?_⟩;refine⟨_,rfl,_,rfl,ifD (λh2=>?_) (λh2=>stay)⟩;have h2:2<n:=by omega
 refine⟨_,rfl,n,rfl,⟨by omega,by omega⟩,?_⟩;refine i5 (i9 hΔ _).2 (c7 hΔ _).1 (λi ys S2=>S2=S/\ys=((Qy i).map λj=>(j,(j+1) % n)).map pairS) ⟨rfl,rfl⟩ (λ_ _ _ _=>trivial) ?_ ?_
 ·rintro i x ys S2 hx ⟨rfl,rfl⟩;obtain⟨rfl,hi⟩:=v7 hx;refine⟨_,rfl,_,rfl,_,rfl,show(0:Int)<n by omega,by show 2<=big;decide,by simp;show i<100000;omega,rfl,?_⟩;rw[SN,R9,R9];simp[pairS]
 ·rintro ys S2 ⟨rfl,rfl⟩;rw[y7];refine⟨_,rfl,_,rfl,hd (A.push (o := .lst (((Qy ((n:Int) - 0).toNat).map λj=>(j,(j+1) % n)).map pairS))).tape (by omega) (by omega) λr S3 r0 r1 T3 O3 L3=>?_⟩;have A3:=(A.push (o := .lst (((Qy ((n:Int) - 0).toNat).map λj=>(j,(j+1) % n)).map pairS))).draw T3 O3;refine⟨by show 2<=big;decide,by show 1<=big;decide,?_⟩;have hS:=A.t0;have hon:=A.on.len;have at1:S3[S2.length]?=some (.lst (((Qy ((n:Int) - 0).toNat).map λj=>(j,(j+1) % n)).map pairS)):=O3.keep _ _ (by omega) e5;refine⟨_,_,i6 at1,e5,by simp;show _<=100000;omega,?_⟩;have en:((n:Int) - 0).toNat=n:=by omega
  rw[en];have e1:((r.toNat:Nat):Int)=r:=SX r0;have ea:=Ek ((Qy n).map λj=>(j,(j+1) % n)) (0,r.toNat+1);have e2:((r.toNat+1:Nat):Int)=r+1:=by omega
  simp only[e2]at ea;refine q n ((Qy n).map (λj=>(j,(j+1) % n))++[(0,r.toNat+1)]) _ _ _ _ _ _ ⟨λe h=>?_,by simp;omega,hn⟩ ⟨A3.tape.push.push,A3.on.push.push,?_,?_,A.t0⟩
  ·rcases RF.mp h with h | h
   ·obtain⟨j,hj,rfl⟩:=RI.mp h;have hj:=RP.mp hj;refine⟨hj,Nat.mod_lt _ (by omega),?_⟩;by_cases hz:j+1<n
    ·show j≠(j+1) % n;rw[Nat.mod_eq_of_lt hz];omega
    ·have:j+1=n:=by omega
     show j≠(j+1) % n;rw[this,Nat.mod_self];omega
   ·rw[Qu.mp h];exact⟨by show 0<n;omega,by show r.toNat+1<n;omega,by show 0≠r.toNat+1;omega⟩
  ·rw[<-ea];exact e5
  ·rw[Qv];have:=A3.on.len;omega
theorem Qk(hΔ:∀ f,MonoN (Δ f)){t l n:Nat}{S0 S:Sto}{D:EndsS}{g:SV}{o5 o6 o7 o8:Option SV}(A:Ah t S0 S l [])(hn:n<=12)(q:PQ t g 4 S0 D):
 wSt Δ (q6 kd) D [some (.loc t),some g,some (.int 4),some (.int n),some (.loc l),o5,o6,o7,o8] S:=by
 have stay:=q n [] l S o5 o6 o7 o8 (Db hn) A;refine⟨_,rfl,_,rfl,ifT rfl ?_⟩;refine⟨_,rfl,_,rfl,ifD (λh2=>?_) (λh2=>stay)⟩;have h2:1<n:=by omega
 refine⟨_,rfl,1,n,rfl,rfl,⟨by decide,by decide,by omega,by omega⟩,?_⟩;refine i5 (i9 hΔ _).2 (c7 hΔ _).1 (λi ys S2=>S2=S/\ys=((Qy i).map λj=>(0,j+1)).map pairS) ⟨rfl,rfl⟩ (λ_ _ _ _=>trivial) ?_ ?_
 ·rintro i x ys S2 hx ⟨rfl,rfl⟩;obtain⟨rfl,hi⟩:=v7 hx;refine⟨_,rfl,by show 2<=big;decide,by simp;show i<100000;omega,rfl,?_⟩;rw[SN,R9,R9];simp[pairS,Int.add_comm]
 ·rintro ys S2 ⟨rfl,rfl⟩;rw[y7];refine q n _ _ _ _ _ _ _ ⟨λe h=>?_,by simp;omega,hn⟩ ⟨A.tape.push,A.on.push,e5,A.on.len,A.t0⟩;obtain⟨j,hj,rfl⟩:=RI.mp h;have hj:=RP.mp hj;exact⟨by show 0<n;omega,by show j+1<n;omega,by show 0≠j+1;omega⟩
theorem Ah.ext{t l j:Nat}{S0 S:Sto}{es fs:EE}(h:Ah t S0 S l es)(hj:S[j]?=some (.lst (fs.map pairS))):Ah t S0 (S.set l (.lst (es.map pairS++fs.map pairS))) l (es++fs):=by
 rw[<-R9];exact h.put
theorem Ql(hΔ:∀ f,MonoN (Δ f)){t l n:Nat}{b:Bool}{S0 S:Sto}{D:EndsS}{o5 o6 o7 o8:Option SV}(A:Ah t S0 S l [])(hn:n<=12)(q:PQ t (.bl b) 5 S0 D):
 wSt Δ (q7 kd) D [some (.loc t),some (.bl b),some (.int 5),some (.int n),some (.loc l),o5,o6,o7,o8] S:=by
 refine⟨_,rfl,_,rfl,ifT rfl ?_⟩
 obtain⟨m,em,hm⟩:∃ m:Nat,(if (5+(if b=true then (1:Int) else 0))<n then (5+(if b=true then (1:Int) else 0)) else (n:Int))=m/\m<=6:=by
  cases b
  ·by_cases h:(5:Int)<n
   ·exact⟨5,by simp[h],by omega⟩
   ·exact⟨n,by simp[h],by omega⟩
  ·by_cases h:(6:Int)<n
   ·exact⟨6,by simp[h],by omega⟩
   ·exact⟨n,by simp[h],by omega⟩
 suffices key:∀ z:Int,z=m->wSs Δ [q7l kd] D [some (.loc t),some (.bl b),some (.int 5),some (.int z),some (.loc l),o5,o6,o7,o8] S from ⟨_,rfl,_,rfl,key _ em⟩
 rintro _ rfl;refine⟨_,rfl,m,rfl,⟨by omega,by omega⟩,?_⟩
 refine AA (j5 hΔ _) (λi ρ S2=>∃(es:EE) (o7:Option SV),ρ=[some (.loc t),some (.bl b),some (.int 5),some (.int m),some (.loc l),o5,o6,o7,o8]/\Ah t S0 S2 l es/\(∀ e∈es,e.1<e.2/\e.2<i)/\es.length<=i * 6)
  ⟨[],o7,rfl,A,(λ_ h=>nomatch h),by simp⟩ (λ_ _ _ _=>trivial) ?_ ?_
 ·rintro i x ρ S2 hx ⟨es,p7,rfl,A2,he,hl⟩;obtain⟨rfl,hi⟩:=v7 hx;refine⟨_,rfl,⟨l,_,rfl,A2.at'⟩,_,rfl,0+(i:Int),rfl,⟨by omega,by omega⟩,?_⟩;refine i5 (i9 hΔ _).2 (c7 hΔ _).1 (λj ys S3=>S3=S2/\ys=((Qy j).map λj=>(j,i)).map pairS) ⟨rfl,rfl⟩ (λ_ _ _ _=>trivial) ?_ ?_
  ·rintro j x ys S3 hx ⟨rfl,rfl⟩;obtain⟨rfl,hj⟩:=v7 hx;refine⟨_,rfl,_,rfl,by show 2<=big;decide,by simp;show j<100000;omega,rfl,?_⟩;rw[SN,R9,R9];simp[pairS]
  ·rintro ys S3 ⟨rfl,rfl⟩;rw[y7];have en:(0+(i:Int) - 0).toNat=i:=by omega
   rw[en];have A3:=A2.push (o := .lst (((Qy i).map λj=>(j,i)).map pairS));refine⟨_,_,A3.at',e5,by simp;show _<=100000;omega,?_⟩;refine⟨es++(Qy i).map (λj=>(j,i)),_,rfl,A3.ext (j:=S3.length) e5,λe h=>?_,by simp;omega⟩;rcases RF.mp h with h | h
   ·have:=he e h;omega
   ·obtain⟨j,hj,rfl⟩:=RI.mp h;have hj:=RP.mp hj;exact⟨hj,by show i<i+1;omega⟩
 ·rintro ρ S2 ⟨es,p7,rfl,A2,he,hl⟩;rw[y7]at he hl;refine q m es l S2 _ _ _ _ ⟨λe h=>?_,by omega,by omega⟩ A2;have:=he e h;omega
theorem Qm(hΔ:∀ f,MonoN (Δ f))(hd:u9 (Δ kd)){t l n:Nat}{S0 S:Sto}{D:EndsS}{g:SV}{o5 o6 o7 o8:Option SV}(A:Ah t S0 S l [])(hn:n<=12)(q:PQ t g 6 S0 D):
 wSt Δ (q8 kd) D [some (.loc t),some g,some (.int 6),some (.int n),some (.loc l),o5,o6,o7,o8] S:=by
 refine⟨_,rfl,_,rfl,ifT rfl ?_⟩;obtain⟨s,es',hs⟩:∃ s:Nat,1+(n:Int) / 2=s/\s=1+n / 2:=⟨1+n / 2,by omega,rfl⟩
 suffices key:∀ z:Int,z=s->wSs Δ [q8l kd] D [some (.loc t),some g,some (.int 6),some (.int n),some (.loc l),o5,o6,o7,some (.int z)] S from ⟨_,rfl,⟨by decide,by decide⟩,key _ es'⟩
 rintro _ rfl;refine⟨_,rfl,s,rfl,⟨by omega,by omega⟩,?_⟩
 refine AA (j5 hΔ _) (λi ρ S2=>∃(es:EE) (o7:Option SV),ρ=[some (.loc t),some g,some (.int 6),some (.int n),some (.loc l),o5,o6,o7,some (.int s)]/\Ah t S0 S2 l es/\(∀ e∈es,e.1<i/\s<=e.2/\e.2<n)/\es.length<=i * (n - s))
  ⟨[],o7,rfl,A,(λ_ h=>nomatch h),by simp⟩ (λ_ _ _ _=>trivial) ?_ ?_
 ·rintro i x ρ S2 hx ⟨es,p7,rfl,A2,he,hl⟩;obtain⟨rfl,hi⟩:=v7 hx;refine⟨_,rfl,⟨l,_,rfl,A2.at'⟩,_,rfl,_,rfl,s,n,rfl,rfl,⟨by omega,by omega,by omega,by omega⟩,?_⟩;refine i5 (i9 hΔ _).2 (c7 hΔ _).1 (λj ys S3=>Ah t S0 S3 l es/\∃ fs:EE,ys=fs.map pairS/\(∀ e∈fs,e.1=i/\s<=e.2/\e.2<n)/\fs.length<=j) ⟨A2,[],rfl,(λ_ h=>nomatch h),Qs _⟩ (λ_ _ _ _=>trivial) ?_ ?_
  ·rintro j x ys S3 hx ⟨A3,fs,rfl,hf,fl⟩;obtain⟨rfl,hj⟩:=v7 hx;refine⟨_,rfl,hd A3.tape (by decide) (by decide) λr S4 r0 r1 T4 O4 _=>⟨_,rfl,?_⟩⟩;have A4:=A3.draw T4 O4;refine ifD (λ_=>?_) (λ_=>⟨A4,fs,rfl,hf,by omega⟩);refine⟨_,rfl,_,rfl,by show 2<=big;decide,by rw[Qr];show _<100000;omega,A4,fs++[(i,s+j)],?_,λe h=>?_,by simp;omega⟩
   ·rw[R9];simp[pairS]
   ·rcases RF.mp h with h | h
    ·exact hf e h
    ·rw[Qu.mp h];exact⟨rfl,by show s<=s+j;omega,by show s+j<n;omega⟩
  ·rintro ys S3 ⟨A3,fs,rfl,hf,fl⟩;rw[y7]at fl;have A4:=A3.push (o := .lst (fs.map pairS));have hx6:i * (n - s)<=6 * 12:=UC (by omega) (by omega);refine⟨_,_,A4.at',e5,by simp;show _<=100000;omega,?_⟩;refine⟨es++fs,_,rfl,A4.ext (j:=S3.length) e5,λe h=>?_,?_⟩
   ·rcases RF.mp h with h | h
    ·have:=he e h;exact⟨by omega,this.2⟩
    ·have:=hf e h;exact⟨by omega,this.2⟩
   ·rw[Qv,Tu];omega
 ·rintro ρ S2 ⟨es,p7,rfl,A2,he,hl⟩;rw[y7]at he hl;have e0:((s:Int) - 0).toNat=s:=by omega
  rw[e0]at he hl;have h35:s * (n - s)<=7 * 5:=UC (by omega) (by omega);refine q n es l S2 _ _ _ _ ⟨λe h=>?_,by omega,hn⟩ A2;have:=he e h;omega
theorem Qn(hΔ:∀ f,MonoN (Δ f))(hd:u9 (Δ kd)){t l n:Nat}{S0 S:Sto}{D:EndsS}{g:SV}{o5 o6 o7 o8:Option SV}(A:Ah t S0 S l [])(hn:n<=12)(q:PQ t g 7 S0 D):
 wSt Δ (q9 kd) D [some (.loc t),some g,some (.int 7),some (.int n),some (.loc l),o5,o6,o7,o8] S:=by
 refine⟨_,rfl,_,rfl,ifT rfl ?_⟩;obtain⟨m,em,hm⟩:∃ m:Nat,3+(n:Int) / 3=m/\m=3+n / 3:=⟨3+n / 3,by omega,rfl⟩
 suffices key:∀ z:Int,z=m->wSs Δ [q9l kd] D [some (.loc t),some g,some (.int 7),some (.int z),some (.loc l),o5,o6,o7,o8] S from ⟨_,rfl,⟨by decide,by decide⟩,key _ em⟩
 rintro _ rfl;refine⟨3,rfl,⟨by decide,by decide⟩,?_⟩
 refine AA (j5 hΔ _) (λi ρ S2=>∃(es:EE) (o7:Option SV),ρ=[some (.loc t),some g,some (.int 7),some (.int m),some (.loc l),o5,o6,o7,o8]/\Ah t S0 S2 l es/\(∀ e∈es,e.1<3/\e.2<3/\e.1≠e.2)/\es.length<=i * 3)
  ⟨[],o7,rfl,A,(λ_ h=>nomatch h),by simp⟩ (λ_ _ _ _=>trivial) ?_ ?_
 ·rintro i x ρ S2 hx ⟨es,p7,rfl,A2,he,hl⟩;obtain⟨rfl,hi⟩:=v7 hx;refine⟨_,rfl,⟨l,_,rfl,A2.at'⟩,_,rfl,_,rfl,show(0:Int)<3 by decide,by show 2<=big;decide,by show 1<=big;decide,?_⟩;have A3:=A2.push (o := .lst [.tup [.int (0+(i:Int)),.int ((0+(i:Int)+1) % 3)]]);refine⟨_,rfl,hd A3.tape (by decide) (by decide) λr S4 r0 r1 T4 O4 L4=>?_⟩;have A4:=A3.draw T4 O4;have ht:=A2.t0;have hlen:=A2.on.len;have at1:S4[S2.length]?=some (.lst [.tup [.int (0+(i:Int)),.int ((0+(i:Int)+1) % 3)]]):=O4.keep _ _ (by omega) e5;refine⟨_,at1,⟨by omega,by omega⟩,by simp;show _<=100000;omega,?_⟩
  have e1:(RA (1+r).toNat [SV.tup [.int (0+(i:Int)),.int ((0+(i:Int)+1) % 3)]]).flatten=(RA (1+r).toNat (i,(i+1) % 3)).map pairS:=by
   induction (1+r).toNat with
   | zero=>rfl
   | succ k ih=>rw[RX,Rt,ih,RX];simp[pairS]
  rw[e1];have A5:=A4.push (o := .lst ((RA (1+r).toNat (i,(i+1) % 3)).map pairS));refine⟨_,_,A5.at',e5,by simp;show _<=100000;omega,?_⟩;refine⟨es++RA (1+r).toNat (i,(i+1) % 3),_,rfl,A5.ext (j:=S4.length) e5,λe h=>?_,by simp;omega⟩;rcases RF.mp h with h | h
  ·exact he e h
  ·rw[List.eq_of_mem_replicate h];exact⟨by show i<3;omega,by show(i+1) % 3<3;omega,by show i≠(i+1) % 3;omega⟩
 ·rintro ρ S2 ⟨es,p7,rfl,A2,he,hl⟩;rw[y7]at hl;refine q m es l S2 _ _ _ _ ⟨λe h=>?_,by omega,by omega⟩ A2;have:=he e h;omega
theorem QL{t l:Nat}{way n:Int}{S:Sto}{D:EndsS}{g:SV}{o5 o6 o7 o8:Option SV}(h:¬ way<3)(q:D.nx [some (.loc t),some g,some (.int way),some (.int n),some (.loc l),o5,o6,o7,o8] S):wSt Δ (q4 kd) D [some (.loc t),some g,some (.int way),some (.int n),some (.loc l),o5,o6,o7,o8] S:=⟨_,rfl,_,rfl,ifD (λz=>absurd z h) (λ_=>ifF rfl q)⟩
theorem El{t l:Nat}{way n:Int}{S:Sto}{D:EndsS}{g:SV}{o5 o6 o7 o8:Option SV}(h:¬ way=3)(q:D.nx [some (.loc t),some g,some (.int way),some (.int n),some (.loc l),o5,o6,o7,o8] S):wSt Δ (q5 kd) D [some (.loc t),some g,some (.int way),some (.int n),some (.loc l),o5,o6,o7,o8] S:=⟨_,rfl,_,rfl,ifD (λz=>absurd z h) (λ_=>ifF rfl q)⟩
theorem Em{t l:Nat}{way n:Int}{S:Sto}{D:EndsS}{g:SV}{o5 o6 o7 o8:Option SV}(h:¬ way=4)(q:D.nx [some (.loc t),some g,some (.int way),some (.int n),some (.loc l),o5,o6,o7,o8] S):wSt Δ (q6 kd) D [some (.loc t),some g,some (.int way),some (.int n),some (.loc l),o5,o6,o7,o8] S:=⟨_,rfl,_,rfl,ifD (λz=>absurd z h) (λ_=>ifF rfl q)⟩
theorem En{t l:Nat}{way n:Int}{S:Sto}{D:EndsS}{g:SV}{o5 o6 o7 o8:Option SV}(h:¬ way=5)(q:D.nx [some (.loc t),some g,some (.int way),some (.int n),some (.loc l),o5,o6,o7,o8] S):wSt Δ (q7 kd) D [some (.loc t),some g,some (.int way),some (.int n),some (.loc l),o5,o6,o7,o8] S:=⟨_,rfl,_,rfl,ifD (λz=>absurd z h) (λ_=>q)⟩
theorem Ep{t l:Nat}{way n:Int}{S:Sto}{D:EndsS}{g:SV}{o5 o6 o7 o8:Option SV}(h:¬ way=6)(q:D.nx [some (.loc t),some g,some (.int way),some (.int n),some (.loc l),o5,o6,o7,o8] S):wSt Δ (q8 kd) D [some (.loc t),some g,some (.int way),some (.int n),some (.loc l),o5,o6,o7,o8] S:=⟨_,rfl,_,rfl,ifD (λz=>absurd z h) (λ_=>q)⟩
theorem Er{t l:Nat}{way n:Int}{S:Sto}{D:EndsS}{g:SV}{o5 o6 o7 o8:Option SV}(h:¬ way=7)(q:D.nx [some (.loc t),some g,some (.int way),some (.int n),some (.loc l),o5,o6,o7,o8] S):wSt Δ (q9 kd) D [some (.loc t),some g,some (.int way),some (.int n),some (.loc l),o5,o6,o7,o8] S:=⟨_,rfl,_,rfl,ifD (λz=>absurd z h) (λ_=>q)⟩
theorem Me(hΔ:∀ f,MonoN (Δ f))(hd:u9 (Δ kd)){t l n:Nat}{b:Bool}{w:Int}{S0 S:Sto}{Q:QE}(w0:0<=w)(w1:w<8)(A:Ah t S0 S l [])(hn:n<=12)
 (q:∀(n:Nat) (es:EE) (l:Nat) (S':Sto),Prs n es->Ah t S0 S' l es->Q (.tup [.int n,.loc l]) S'):
 wSs Δ [q4 kd,q5 kd,q6 kd,q7 kd,q8 kd,q9 kd,q10 kd] (k9 Q) [some (.loc t),some (.bl b),some (.int w),some (.int n),some (.loc l),none,none,none,none] S:=by
 have fin:∀(n:Nat) (es:EE) (l:Nat) (S':Sto) (o5 o6 o7 o8:Option SV),Prs n es->Ah t S0 S' l es->wSs Δ [q10 kd] (k9 Q) [some (.loc t),some (.bl b),some (.int w),some (.int n),some (.loc l),o5,o6,o7,o8] S':=λn es l S' o5 o6 o7 o8 P A'=>⟨_,rfl,_,rfl,by show 2<=big;decide,q n es l S' P A'⟩
 have nil:=Db hn;by_cases h:w<3
 ·exact Qi hΔ hd A hn λes S' o5 o6 P A'=>El (by omega) (Em (kd:=kd) (by omega) (En (kd:=kd) (by omega) (Ep (by omega) (Er (by omega) (fin n es l S' _ _ _ _ P A')))))
 refine QL h ?_;have:w=3\/w=4\/w=5\/w=6\/w=7:=by omega
 rcases this with rfl | rfl | rfl | rfl | rfl
 ·exact Qj hΔ hd A hn λn es l S' o5 o6 o7 o8 P A'=>Em (kd:=kd) (by omega) (En (kd:=kd) (by omega) (Ep (by omega) (Er (by omega) (fin n es l S' _ _ _ _ P A'))))
 ·exact El (by omega) (Qk (kd:=kd) hΔ A hn λn es l S' o5 o6 o7 o8 P A'=>En (kd:=kd) (by omega) (Ep (by omega) (Er (by omega) (fin n es l S' _ _ _ _ P A'))))
 ·exact El (by omega) (Em (kd:=kd) (by omega) (Ql (kd:=kd) hΔ A hn λn es l S' o5 o6 o7 o8 P A'=>Ep (by omega) (Er (by omega) (fin n es l S' _ _ _ _ P A'))))
 ·exact El (by omega) (Em (kd:=kd) (by omega) (En (kd:=kd) (by omega) (Qm hΔ hd A hn λn es l S' o5 o6 o7 o8 P A'=>Er (by omega) (fin n es l S' _ _ _ _ P A'))))
 ·exact El (by omega) (Em (kd:=kd) (by omega) (En (kd:=kd) (by omega) (Ep (by omega) (Qn hΔ hd A hn λn es l S' o5 o6 o7 o8 P A'=>fin n es l S' _ _ _ _ P A'))))
theorem Ke(hΔ:∀ f,MonoN (Δ f))(hd:u9 (Δ kd)){D:Df}(hb:D.body=Kd kd)(hN:D.N.length=9)(hp:D.ps.length=2):Da (j0 Δ D):=by
 intro t g S Q T q;unfold j0;rw[hb,hN];refine⟨hp.symm,?_⟩;have t0:=T.lt;refine⟨_,rfl,hd T (by decide) (by decide) λw S1 w0 w1 T1 O1 _=>?_⟩;refine⟨_,rfl,hd T1 (by decide) (by decide) λr1 S2 a0 a1 T2 O2 _=>⟨_,rfl,hd T2 (by decide) (by decide) λr2 S3 b0 b1 T3 O3 _=>⟨by show 2<=big;decide,_,rfl,_,(if g=true then .int (7+r2) else .int r1),f6 e5,?_⟩⟩⟩;have O:=((O1.trans O2).trans O3).push (o := .lst [.int r1,.int (7+r2)])
 have key:∀(z:Int) (n:Nat),z=n->n<=12->wSs Δ [q3 kd,q4 kd,q5 kd,q6 kd,q7 kd,q8 kd,q9 kd,q10 kd] (k9 Q) [some (.loc t),some (.bl g),some (.int w),some (.int z),none,none,none,none,none] (S3++[SO.lst [.int r1,.int (7+r2)]]):=by
  rintro _ n rfl hn;refine⟨by show 0<=big;decide,?_⟩;have A:Ah t S ((S3++[SO.lst [.int r1,.int (7+r2)]])++[SO.lst []]) (S3++[SO.lst [.int r1,.int (7+r2)]]).length []:=⟨T3.push.push,O.push,e5,O.len,t0⟩
  have r:=Me (b:=g) hΔ hd w0 w1 A hn (Q:=Q) λn es l S' P A=>q n es l S' P A.at' A.new A.tape A.on;exact r
 cases g with
 | false=>exact⟨rfl,key r1 r1.toNat (by omega) (by omega)⟩
 | true=>exact⟨rfl,key (7+r2) (7+r2).toNat (by omega) (by omega)⟩
end
noncomputable def u1(kd kp:Nat):Stm:=(.asg (.tup (.cons (.nm 2) (.cons (.nm 3) .nil))) (.call kp (.cons (.var 0) (.cons (.var 1) .nil))))
noncomputable def u3(kd kp:Nat):Stm:=(.iff (.and (.cmp .NotEq (.var 3) (.lst .nil)) (.cmp .Eq (.call kd (.cons (.var 0) (.cons (.c (.int 4)) .nil))) (.c (.int 0)))) [(.asg (.nm 3) (.op .Add (.var 3) (.comp ["_law_turn"] ["_law_pairs","_law_tape_here"] [3,0] (.nm 0) (.rng1 (.op .Add (.c (.int 1)) (.call kd (.cons (.var 0) (.cons (.c (.int 3)) .nil))))) .no (.ix (.var 1) (.call kd (.cons (.var 2) (.cons (.bi .len (.cons (.var 1) .nil)) .nil)))))))] [])
noncomputable def u4(kd kp:Nat):Stm:=(.asg (.nm 4) (.lst .nil))
noncomputable def u5(kd kp:Nat):Stm:=(.loop (.tup (.cons (.nm 5) (.cons (.nm 6) .nil))) (.seq (.var 3)) [(.expr (.mt .insert (.var 4) (.cons (.call kd (.cons (.var 0) (.cons (.op .Add (.bi .len (.cons (.var 4) .nil)) (.c (.int 1))) .nil))) (.cons (.tup (.cons (.bi .min (.cons (.var 5) (.cons (.var 6) .nil))) (.cons (.bi .max (.cons (.var 5) (.cons (.var 6) .nil))) .nil))) .nil))))])
noncomputable def u6(kd kp:Nat):Stm:=(.ret (.tup (.cons (.var 2) (.cons (.bi .tuple (.cons (.var 4) .nil)) .nil))))
noncomputable def i4(n:Nat)(es:EE):SV := .tup [.int n,.tup (es.map pairS)]
structure Web(n:Nat)(es:EE):Prop where
 en:∀ e∈es,e.1<e.2/\e.2<n
 len:es.length<=39
 few:n<=12
noncomputable def Kf(s:Sn):Prop:=∀{t:Nat} {g:Bool} {S:Sto} {Q:QE},TapeS S t->(∀(n:Nat) (es:EE) (S':Sto),Web n es->TapeS S' t->On t S S'->Q (i4 n es) S')->s [.loc t,.bl g] S Q
theorem Es{xs:List SV}:FM xs []=xs.isEmpty:=by cases xs<;>rfl
section
variable{Δ:Nat->Sn}{kd kp:Nat}
theorem CO(hΔ:∀ f,MonoN (Δ f))(hd:u9 (Δ kd)){t n l:Nat}{g:SV}{S0 S:Sto}{es:EE}{Q:QE}{o4 o5 o6:Option SV}(he:∀ e∈es,e.1<n/\e.2<n/\e.1≠e.2)(hl:es.length<=39)(hn:n<=12)(A:Ah t S0 S l es)
 (q:∀(es:EE) (S':Sto),Web n es->TapeS S' t->On t S0 S'->Q (i4 n es) S'):wSs Δ [u4 kd kp,u5 kd kp,u6 kd kp] (k9 Q) [some (.loc t),some g,some (.int n),some (.loc l),o4,o5,o6] S:=by
 refine⟨by show 0<=big;decide,?_⟩;have hlt:=Kb A.at';have htl:=A.tape.lt;refine⟨_,rfl,_,f6 A.push.at',?_⟩
 refine AA (j5 hΔ _) (λi ρ S2=>∃(fs:EE) (o5 o6:Option SV),ρ=[some (.loc t),some g,some (.int n),some (.loc l),some (.loc S.length),o5,o6]/\Ah t S0 S2 S.length fs/\S2[l]?=some (.lst (es.map pairS))/\(∀ e∈fs,e.1<e.2/\e.2<n)/\fs.length=i)
  ⟨[],o5,o6,rfl,⟨A.tape.push,A.on.push,e5,A.on.len,A.t0⟩,A.push.at',(λ_ h=>nomatch h),rfl⟩ (λi ρ S2 h=>?_) ?_ ?_
 ·obtain⟨fs,_,_,_,_,h2,_⟩:=h;exact h2.trans A.push.at'.symm
 ·rintro i x ρ S2 hx ⟨fs,p5,p6,rfl,A2,h2,hf,fl⟩;rw[R8]at hx;cases hei:es[i]? with
  | none=>rw[hei]at hx;cases hx
  | some e=>
    rw[hei]at hx;have hx:pairS e=x:=oj hx;subst hx;have hil:=(gM hei).1;have hee:=he e (R1 hei);refine⟨_,rfl,⟨_,_,rfl,A2.at'⟩,_,rfl,_,rfl,_,f6 A2.at',hd A2.tape (by omega) (by rw[Qr];omega) λr S3 r0 r1 T3 O3 _=>?_⟩;have A3:=A2.draw T3 O3;rw[Qr]at r1;refine⟨_,rfl,_,rfl,_,rfl,_,rfl,by show 2<=big;decide,?_⟩;refine⟨_,A3.at',⟨r0,by rw[Qr];omega⟩,by rw[Qr];show _<100000;omega,?_⟩
    have key:∀(a b:Nat) (z1 z2:Int),z1=a->z2=b->a<b->b<n->∃(fs':EE) (o5 o6:Option SV),([some (.loc t),some g,some (.int n),some (.loc l),some (.loc S.length),some (.int e.1),some (.int e.2)]:EnvS)=[some (.loc t),some g,some (.int n),some (.loc l),some (.loc S.length),o5,o6]/\Ah t S0 (S3.set S.length (.lst ((fs.map pairS).take r.toNat ++ .tup [.int z1,.int z2]::(fs.map pairS).drop r.toNat))) S.length fs'/\(S3.set S.length (.lst ((fs.map pairS).take r.toNat ++ .tup [.int z1,.int z2]::(fs.map pairS).drop r.toNat)))[l]?=some (.lst (es.map pairS))/\(∀ e∈fs',e.1<e.2/\e.2<n)/\fs'.length=i+1:=by
     rintro a b _ _ rfl rfl hab hbn
     have e1:(fs.map pairS).take r.toNat++SV.tup [.int a,.int b]::(fs.map pairS).drop r.toNat=(fs.take r.toNat++(a,b)::fs.drop r.toNat).map pairS:=by
      rw[R9,RK,Tj,List.map_drop];rfl
     rw[e1];refine⟨_,_,_,rfl,A3.put,?_,λe' h=>?_,?_⟩
     ·rw[Gr (by omega)];exact O3.keep _ _ A.ne h2
     ·rcases RF.mp h with h | h
      ·exact hf e' (Sm h)
      ·rcases R0.mp h with h | h
       ·rw[h];exact⟨hab,hbn⟩
       ·exact hf e' (List.mem_of_mem_drop h)
     ·rw[Qv,Rj,RL,SH];omega
    by_cases hc:e.1<e.2
    ·exact key e.1 e.2 _ _ (by rw[iG (by omega)]) (by rw[iP (by omega)]) hc hee.2.1
    ·exact key e.2 e.1 _ _ (by rw[iP (by omega)]) (by rw[iG (by omega)]) (by omega) hee.1
 ·rintro ρ S2 ⟨fs,p5,p6,rfl,A2,h2,hf,fl⟩;rw[Qr]at fl;exact⟨_,rfl,_,rfl,_,f6 A2.at',by show 2<=big;decide,q fs S2 ⟨hf,by omega,hn⟩ A2.tape A2.on⟩
theorem Kg(hΔ:∀ f,MonoN (Δ f))(hd:u9 (Δ kd)){t n l:Nat}{g:SV}{S0 S:Sto}{es:EE}{Q:QE}{o4 o5 o6:Option SV}(P:Prs n es)(A:Ah t S0 S l es)
 (q:∀(es:EE) (S':Sto),Web n es->TapeS S' t->On t S0 S'->Q (i4 n es) S'):wSs Δ [u3 kd kp,u4 kd kp,u5 kd kp,u6 kd kp] (k9 Q) [some (.loc t),some g,some (.int n),some (.loc l),o4,o5,o6] S:=by
 refine⟨_,rfl,by show 0<=big;decide,?_⟩;have A1:=A.push (o:=SO.lst []);refine⟨_,_,A1.at',e5,.inr (.inr rfl),_,rfl,?_⟩;rw[Es];refine ifB (λh1=>?_) (λh1=>ifF rfl (CO hΔ hd P.en (by have:=P.len;omega) P.few A1 q))
 have hpos:0<es.length:=by
  cases es with
  | nil=>cases h1
  | cons _ _=>simp
 refine⟨_,rfl,hd A1.tape (by decide) (by decide) λr S2 r0 r1 T2 O2 _=>⟨_,rfl,?_⟩⟩;have A2:=A1.draw T2 O2;refine ifD (λ_=>?_) (λ_=>CO hΔ hd P.en (by have:=P.len;omega) P.few A2 q);refine⟨_,rfl,_,rfl,hd A2.tape (by decide) (by decide) λr3 S3 a0 a1 T3 O3 _=>⟨_,rfl,⟨by omega,by omega⟩,?_⟩⟩;have A3:=A2.draw T3 O3;refine i5 (i9 hΔ _).2 (c7 hΔ _).1 (λi ys S4=>Ah t S0 S4 l es/\∃ fs:EE,ys=fs.map pairS/\(∀ e∈fs,e∈es)/\fs.length=i) ⟨A3,[],rfl,(λ_ h=>nomatch h),rfl⟩ (λ_ _ _ _=>trivial) ?_ ?_
 ·rintro i x ys S4 hx ⟨A4,fs,rfl,hf,fl⟩;obtain⟨rfl,hi⟩:=v7 hx;refine⟨_,rfl,_,rfl,_,rfl,_,f6 A4.at',hd A4.tape (by rw[Qr];omega) (by rw[Qr];have:=P.len;omega) λr5 S5 b0 b1 T5 O5 _=>?_⟩;have A5:=A4.draw T5 O5;rw[Qr]at b1;have hr:r5.toNat<es.length:=by omega
  refine⟨_,pairS es[r5.toNat],f6 A5.at',?_,by rw[Qr];show _<100000;omega,A5,fs++[es[r5.toNat]],?_,λe h=>?_,by simp[fl]⟩
  ·have:=l5 (xs:=es.map pairS) (j:=r5.toNat) (v:=pairS es[r5.toNat]) (by rw[R8,R4 hr];rfl)
   rwa [SX b0]at this
  ·rw[R9];rfl
  ·rcases RF.mp h with h | h
   ·exact hf e h
   ·rw[Qu.mp h];exact Rn hr
 ·rintro ys S4 ⟨A4,fs,rfl,hf,fl⟩;rw[y7]at fl;have A5:=A4.push (o := .lst (fs.map pairS));have hPl:=P.len;refine⟨_,_,A5.at',e5,by simp;show _<=100000;omega,?_⟩;rw[<-R9];refine CO hΔ hd (es:=es++fs) (λe h=>?_) (by rw[Qv];omega) P.few ⟨A5.tape.push,A5.on.push,e5,?_,A.t0⟩ q
  ·rcases RF.mp h with h | h
   ·exact P.en e h
   ·exact P.en e (hf e h)
  ·have:=A5.on.len;exact this
end
noncomputable def Ft:List Stm:=[(.ret (.and (.bi .isi (.cons (.var 0) (.cons (.tyc .int) .nil))) (.not (.bi .isi (.cons (.var 0) (.cons (.tyc .bool) .nil))))))]
noncomputable def Gs(k:Nat):List Stm:=[(.ret (.and (.call k (.cons (.var 1) .nil)) (.chn .LtE .Lt (.c (.int 0)) (.var 1) (.bi .len (.cons (.ix (.var 0) (.c (.int 1))) .nil)))))]
noncomputable def Bv(s:Sn):Prop:=∀{i:Int} {S:Sto} {Q:QE},Q (.bl true) S->s [.int i] S Q
noncomputable def natS(xs:List Nat):List SV:=xs.map λ(i:Nat)=>SV.int i
noncomputable def farE(e:Nat×Nat)(p:Nat):Nat:=if p=e.1 then e.2 else e.1
section
variable{Δ:Nat->Sn}
theorem Et{D:Df}(hb:D.body=Ft)(hN:D.N.length=1)(hp:D.ps.length=1):Bv (j0 Δ D):=by
 intro i S Q q;unfold j0;rw[hb,hN];exact⟨hp.symm,_,rfl,_,nofun,rfl,_,rfl,ifT rfl ⟨_,rfl,_,nofun,rfl,_,rfl,q⟩⟩
theorem Bw(p:Nat)(e:Nat×Nat):inS (.int p) [.int e.1,.int e.2]=(decide (e.1=p)||decide (e.2=p)):=by
 have k:∀ a:Nat,((a:Int) == (p:Int))=decide (a=p):=λa=>by
  rw[RZ];simp[SF]
 unfold inS;simp only[Ry,List.any_nil,Bool.or_false,eqF,k]
end
theorem g6{xs:List Nat}:(natS xs).length=xs.length:=by unfold natS;rw[Qr]
theorem Kh{xs:List Nat}{i x:Nat}(h:xs[i]?=some x):(natS xs)[i]?=some (.int x):=by unfold natS;rw[R8,h];rfl
theorem AB{xs ys:List Nat}:natS (xs++ys)=natS xs++natS ys:=by unfold natS;rw[R9]
theorem Dc(m:Nat):Az 0 (m:Int)=natS (Qy m):=by
 unfold Az natS;simp
structure Dr(t:Nat)(S0 S:Sto)(l k:Nat)(ls ns:List Nat):Prop where
 tape:TapeS S t
 on:On t S0 S
 hl:S[l]?=some (.lst (natS ls))
 hk:S[k]?=some (.lst (natS ns))
 l0:S0.length<=l
 k0:S0.length<=k
 lk:l≠k
 t0:t<S0.length
theorem Dr.push{t l k:Nat}{S0 S:Sto}{ls ns:List Nat}{o:SO}(A:Dr t S0 S l k ls ns):Dr t S0 (S++[o]) l k ls ns:=⟨A.tape.push,A.on.push,i6 A.hl,i6 A.hk,A.l0,A.k0,A.lk,A.t0⟩
noncomputable def QM:Option Nat->SV
 | some j => .int j
 | none => .non
noncomputable def optsS(xs:List (Option Nat)):List SV:=xs.map QM
structure Gw(S S':Sto):Prop where
 len:S.length<=S'.length
 keep:∀(k:Nat) (o:SO),S[k]?=some o->S'[k]?=some o
theorem Gw.refl(S:Sto):Gw S S:=⟨Qs _,λ_ _ h=>h⟩
theorem Gw.push{S S':Sto}{o:SO}(h:Gw S S'):Gw S (S'++[o]):=⟨by rw[Qv];have:=h.len;omega,λk u z=>i6 (h.keep k u z)⟩
theorem Gw.trans{S S' S'':Sto}(a:Gw S S')(b:Gw S' S''):Gw S S'':=⟨RE a.len b.len,λk o h=>b.keep k o (a.keep k o h)⟩
noncomputable def upd(f:Nat->Nat)(p x:Nat):Nat->Nat:=λq=>if q=p then x else f q
structure Gm(a b w:Nat)(S0 S:Sto)(sd bk:List (Option Nat))(wt:List Nat):Prop where
 ha:S[a]?=some (.lst (optsS sd))
 hb:S[b]?=some (.lst (optsS bk))
 hw:S[w]?=some (.lst (natS wt))
 len:S0.length<=S.length
 keep:∀(k:Nat) (o:SO),k≠a->k≠b->S0[k]?=some o->S[k]?=some o
 ab:a≠b
 a0:a<S0.length
 b0:b<S0.length
 w0:S0.length<=w
section
variable{a b w:Nat}{S0 S:Sto}{sd bk sd' bk':List (Option Nat)}{wt wt':List Nat}
theorem Gm.push{o:SO}(G:Gm a b w S0 S sd bk wt):Gm a b w S0 (S++[o]) sd bk wt:=⟨i6 G.ha,i6 G.hb,i6 G.hw,by rw[Qv];have:=G.len;omega,λk u h1 h2 h=>i6 (G.keep k u h1 h2 h),G.ab,G.a0,G.b0,G.w0⟩
end
noncomputable def SqS(x:SV)(S:Sto)(xs:List SV):Prop:=(∃ k,x = .loc k/\S[k]?=some (.lst xs))\/x = .tup xs
theorem SqS.keep{x:SV}{S S':Sto}{xs:List SV}(h:SqS x S xs)(h':SqS x S' xs):Ap x S S':=by
 rcases h with⟨k,rfl,h⟩ | rfl
 ·rcases h' with⟨k',e,h'⟩ | e
  ·cases e;show S'[k]?=S[k]?;rw[h,h']
  ·cases e
 ·trivial
theorem Ay(xs:List Nat):(natS xs).all A8=true:=by
 unfold natS;rw[Tx,RB];exact λ_ _=>rfl
end Rf
namespace Hue
noncomputable abbrev Sds:=List (Option Nat)
noncomputable def sAt(s:Sds)(p:Nat):Option Nat:=s.getD p none
structure Grow(s s':Sds):Prop where
 len:s'.length=s.length
 keep:∀ p v,sAt s p=some v->sAt s' p=some v
theorem Grow.refl(s:Sds):Grow s s:=⟨rfl,λ_ _ h=>h⟩
theorem Grow.trans{a b c:Sds}(x:Grow a b)(y:Grow b c):Grow a c:=⟨y.len.trans x.len,λp v h=>y.keep p v (x.keep p v h)⟩
noncomputable def Set'(s:Sds)(p:Nat):Prop:=∃ v,sAt s p=some v
theorem Set'.keep{s s':Sds}{p:Nat}(g:Grow s s')(h:Set' s p):Set' s' p:=let ⟨v,hv⟩:=h;⟨v,g.keep _ _ hv⟩
end Hue
namespace L2
open PySem PySem.Spec PyProof.Rows
structure Sz(k b:Nat)(d:PyData):Prop where
 dp:d.depth<=k
 bk:d.bulk<=b
 sh:d.showable=true
 lf:d.leavesShort 100=true
theorem Sz.mono{k b k' b':Nat}{d:PyData}(h:Sz k b d)(hk:k<=k')(hb:b<=b'):Sz k' b' d:=⟨RE h.dp hk,RE h.bk hb,h.sh,h.lf⟩
structure SzA(k b n:Nat)(ds:List PyData):Prop where
 dp:PyData.depthAll ds<=k
 bk:PyData.bulkAll ds<=n * (b+1)
 sh:PyData.showableAll ds=true
 lf:PyData.leavesShortAll 100 ds=true
theorem SzA.nil{k b:Nat}:SzA k b 0 []:=⟨by simp[PyData.depthAll],by simp[PyData.bulkAll],by simp[PyData.showableAll],by simp[PyData.leavesShortAll]⟩
theorem SzA.cons{k b n:Nat}{d:PyData}{ds:List PyData}(h:Sz k b d)(h':SzA k b n ds):SzA k b (n+1) (d::ds):=by
 refine⟨?_,?_,?_,?_⟩
 ·simp only[PyData.depthAll];have:=h.dp;have:=h'.dp;omega
 ·simp only[PyData.bulkAll];have:=h.bk;have:=h'.bk;rw[Tu];omega
 ·simp only[PyData.showableAll,h.sh,h'.sh];rfl
 ·simp only[PyData.leavesShortAll,h.lf,h'.lf];rfl
theorem SzA.list{k b n:Nat}{ds:List PyData}(h:SzA k b n ds):Sz (k+1) (n * (b+1)) (.list ds):=⟨by simp only[PyData.depth];have:=h.dp;omega,by simp only[PyData.bulk];exact h.bk,by simp only[PyData.showable];exact h.sh,by simp only[PyData.leavesShort];exact h.lf⟩
theorem SzA.tuple{k b n:Nat}{ds:List PyData}(h:SzA k b n ds):Sz (k+1) (n * (b+1)) (.tuple ds):=⟨by simp only[PyData.depth];have:=h.dp;omega,by simp only[PyData.bulk];exact h.bk,by simp only[PyData.showable];exact h.sh,by simp only[PyData.leavesShort];exact h.lf⟩
noncomputable def DN(k b:Nat)(H:Hp)(x:V):Prop:=∃ d,Dat H x d/\Sz k b d
theorem DN.mono{k b k' b':Nat}{H H':Hp}{x:V}(h:DN k b H x)(s:∀ c o,H c=some o->H' c=some o)(hk:k<=k')(hb:b<=b'):DN k' b' H' x:=let ⟨d,a,z⟩:=h;⟨d,Dat.mono s x d a,z.mono hk hb⟩
theorem DN.all{k b:Nat}{H:Hp}:∀{xs:List V},(∀ x∈xs,DN k b H x)->∃ ds,DatAll H xs ds/\SzA k b xs.length ds
 | [],_=>⟨[],by unfold DatAll;trivial,.nil⟩
 | x::xs,h=>by
   obtain⟨d,hd,hz⟩:=h x (RD ..);obtain⟨ds,hs,hzs⟩:=DN.all (xs:=xs) λy hy=>h y (R3 _ hy);exact⟨d::ds,by unfold DatAll;exact⟨hd,hs⟩,.cons hz hzs⟩
theorem DN.non{k b:Nat}{H:Hp}:DN k b H .non:=⟨.none,by unfold Dat;rfl,by simp[PyData.depth],by simp[PyData.bulk],by simp[PyData.showable],by simp[PyData.leavesShort]⟩
theorem DN.bl{k b:Nat}{H:Hp}(c:Bool):DN k b H (.bl c):=⟨.bool c,by unfold Dat;rfl,by simp[PyData.depth],by simp[PyData.bulk],by simp[PyData.showable],by simp[PyData.leavesShort]⟩
theorem DN.int{k b:Nat}{H:Hp}{i:Int}(h:i.natAbs.log2<90):DN k b H (.int i):=⟨.int i,by unfold Dat;rfl,by simp[PyData.depth],by simp[PyData.bulk],by simp only[PyData.showable,dQ];omega,by
 have:=int_text_length_le (a:=i) (k:=90) (by decide) h;simp only[PyData.leavesShort,PyData.shown];refine decide_eq_true ?_;show(Str.ofString (toString i)).length<=100;rw[PySem.ofString_length];omega⟩
theorem DN.str{k b:Nat}{H:Hp}{x:Str}(h:x.cps.size<=b)(hc:(x.cps.toList.all λc=>decide (c<16 ^ 8))=true):DN k b H (.str x):=⟨.str x,by unfold Dat;rfl,by simp[PyData.depth],by simp only[PyData.bulk];exact h,by simp[PyData.showable],by simp only[PyData.leavesShort];exact hc⟩
theorem DN.tup{k b n:Nat}{H:Hp}{p:UV}{xs:List V}(hp:H p=some (.tup xs))(h:∀ x∈xs,DN k b H x)(hn:xs.length<=n):DN (k+1) (n * (b+1)) H (.ref p):=by
 obtain⟨ds,hd,hz⟩:=DN.all h;exact⟨.tuple ds,by unfold Dat;exact⟨p,xs,rfl,hp,hd⟩,hz.tuple.mono (Qs _) (Th _ hn)⟩
theorem DN.lst{k b n:Nat}{H:Hp}{p:UV}{xs:List V}(hp:H p=some (.lst xs))(h:∀ x∈xs,DN k b H x)(hn:xs.length<=n):DN (k+1) (n * (b+1)) H (.ref p):=by
 obtain⟨ds,hd,hz⟩:=DN.all h;exact⟨.list ds,by unfold Dat;exact⟨p,xs,rfl,hp,hd⟩,hz.list.mono (Qs _) (Th _ hn)⟩
noncomputable def Live(o:Option UV)(H:Hp):Prop:=∀ t,o=some t->∃ u,H t=some u
theorem Live.ne{o:Option UV}{H:Hp}{p:UV}(l:Live o H)(n:H p=none):o≠some p:=λe=>by
 obtain⟨u,h⟩:=l p e;rw[n]at h;cases h
end L2
namespace Rf
open PySem L2
noncomputable def k8(es:EE)(t:Nat):Nat×Nat:=es.getD t (0,0)
theorem Bx{es:EE}{t:Nat}(h:t<es.length):es[t]?=some (k8 es t):=by
 unfold k8;rw[List.getD_eq_getElem?_getD,R4 h];rfl
section
variable{Δ:Nat->Sn}
theorem j6{D:EndsS}{ρ:EnvS}{S:Sto}(h:D.nx ρ S):wSs Δ [] D ρ S:=h
end
end Rf
namespace Hue
section
variable{n:Nat}{es:EE}(hn:∀ e∈es,e.1<n/\e.2<n)
include hn
end
section
variable{n x:Nat}{es:EE}
variable(hn:∀ e∈es,e.1<n/\e.2<n)
include hn
end
end Hue
namespace Rf
open PySem L2
noncomputable abbrev Cm:=List (Nat×Option Nat)
noncomputable def keys(cm:Cm):List Nat:=cm.map (·.1)
noncomputable def lk(cm:Cm)(p:Nat):Option (Option Nat):=(cm.find? λc=>decide (c.1=p)).map (·.2)
section
variable{n:Nat}{es:EE}{sd:Nat->Nat}{P:List (Option Nat)}
structure Came(n:Nat)(es:EE)(sd:Nat->Nat)(P:List (Option Nat))(starts:List Nat)(cm:Cm):Prop where
 nd:(keys cm).Nodup
 lt:∀ p∈keys cm,p<n
 st:∀ p,(p,none)∈cm->p∈starts
 up:∀ i q t,cm[i]?=some (q,some t)->∃ e,es[t]?=some e/\(q=e.1\/q=e.2)/\farE e q∈keys (cm.take i)
 s0:∀ p v,(p,v)∈cm->sd p=0->P[p]?=some v
 pr:∀ q,q∈keys cm->sd q=1->∀ u e,P[q]?=some (some u)->es[u]?=some e->farE e q∈keys cm
 hs:∀ p∈starts,p∈keys cm
noncomputable def Shut(es:EE)(sd:Nat->Nat)(cm:Cm)(wt:List Nat)(p:Nat)(ts:List Nat):Prop:=∀ q∈keys cm,sd q=0->q∈wt\/∀ t e,es[t]?=some e->(q=e.1\/q=e.2)->(q=p/\t∈ts)\/farE e q∈keys cm
end
section
variable{n:Nat}{es:EE}{sd:Nat->Nat}{P:List (Option Nat)}{starts:List Nat}
structure WInv(n:Nat)(es:EE)(sd:Nat->Nat)(P:List (Option Nat))(starts:List Nat)(p m:Nat)(ts:List Nat)(st:Cm×List Nat):Prop where
 C:Came n es sd P starts st.1
 wk:∀ q∈st.2,q∈keys st.1/\sd q=0
 sh:Shut es sd st.1 st.2 p ts
 pk:p∈keys st.1/\sd p=0
 ms:(n - st.1.length)+st.2.length<=m
theorem Ki{cm:Cm}:(keys cm).length=cm.length:=by unfold keys;rw[Qr]
theorem Dd{n:Nat}:∀{l:List Nat},l.Nodup->(∀ x∈l,x<n)->l.length<=n:=by
 induction n with
 | zero=>
   intro l _ h;cases l with
   | nil=>exact Qs _
   | cons x l=>exact absurd (h x (RD ..)) (SM x)
 | succ n ih=>
   intro l nd h;by_cases hm:n∈l
   ·have e:=List.length_erase_of_mem hm
    have:=ih (l:=l.erase n) (nd.erase n) λx hx=>by
     have h1:=h x (List.mem_of_mem_erase hx);have h2:x≠n:=λz=>by rw[z]at hx;exact(List.Nodup.not_mem_erase nd) hx
     omega
    have:0<l.length:=List.length_pos_of_mem hm;omega
   ·have:=ih nd λx hx=>by
     have h1:=h x hx;have h2:x≠n:=λz=>hm (z▸hx);omega
    omega
theorem Came.len{cm:Cm}(C:Came n es sd P starts cm):cm.length<=n:=by rw[<-Ki];exact Dd C.nd C.lt
structure WOut(n:Nat)(es:EE)(sd:Nat->Nat)(P:List (Option Nat))(starts:List Nat)(m:Nat)(st:Cm×List Nat):Prop where
 C:Came n es sd P starts st.1
 wk:∀ q∈st.2,q∈keys st.1/\sd q=0
 sh:∀ q∈keys st.1,sd q=0->q∈st.2\/∀(t:Nat) (e:Nat×Nat),es[t]?=some e->(q=e.1\/q=e.2)->farE e q∈keys st.1
 ms:(n - st.1.length)+st.2.length<=m
theorem WInv.out{p m:Nat}{st:Cm×List Nat}(W:WInv n es sd P starts p m [] st):WOut n es sd P starts m st:=⟨W.C,W.wk,λq hq h0=>(W.sh q hq h0).imp id λz t e he hq'=>by
 rcases z t e he hq' with⟨_,z⟩ | z
 ·cases z
 ·exact z,W.ms⟩
end
theorem y8{xs:List Nat}{i:Nat}{x:SV}(h:(natS xs)[i]?=some x):∃ j,xs[i]?=some j/\x = .int j:=by
 unfold natS at h;rw[R8]at h;cases hx:xs[i]? with
 | none=>rw[hx]at h;cases h
 | some j=>rw[hx]at h;exact⟨j,rfl,(oj h).symm⟩
theorem De(p:Nat)(xs:List Nat):inS (.int p) (natS xs)=decide (p∈xs):=by
 rw[RZ,dQ];unfold inS natS;rw[UK,SW];constructor
 ·rintro⟨a,ha,h⟩;have h:((a:Int) == (p:Int))=true:=h;rw[bQ]at h;have:=SF.mp h;rw[<-this];exact ha
 ·intro h;exact⟨p,h,by show((p:Int) == (p:Int))=true;simp⟩
theorem Gv:∀(xs:List Nat),DH (natS xs)=some (xs.map λ(i:Nat)=>(i:Int))
 | []=>rfl
 | x::xs=>by
   show(DH (natS xs)).map (((x:Nat):Int)::·)=_;rw[Gv xs];rfl
noncomputable def iN(xs:List Nat):List Int:=xs.map λ(i:Nat)=>(i:Int)
noncomputable def camS(cm:Cm):List (Int×SV):=cm.map λc=>((c.1:Int),QM c.2)
structure Wm(lp lc lw:Nat)(S0 S:Sto)(P:List (Option Nat))(st:Cm×List Nat):Prop where
 hp:S[lp]?=some (.lst (optsS P))
 hc:S[lc]?=some (.dct (camS st.1))
 hw:S[lw]?=some (.lst (natS st.2))
 g:Gw S0 S
 p0:lp<S0.length
 c0:S0.length<=lc
 w0:S0.length<=lw
 ne:lc≠lw
section
variable{lp lc lw:Nat}{S0 S:Sto}{P:List (Option Nat)}{st:Cm×List Nat}{cm':Cm}{wt':List Nat}
theorem Wm.push{o:SO}(M:Wm lp lc lw S0 S P st):Wm lp lc lw S0 (S++[o]) P st:=⟨i6 M.hp,i6 M.hc,i6 M.hw,M.g.push,M.p0,M.c0,M.w0,M.ne⟩
end
structure Kp(l:Nat)(S S':Sto):Prop where
 len:S.length<=S'.length
 keep:∀(k:Nat) (o:SO),k≠l->S[k]?=some o->S'[k]?=some o
theorem Kp.refl(l:Nat)(S:Sto):Kp l S S:=⟨Qs _,λ_ _ _ h=>h⟩
theorem Kp.trans{l:Nat}{S S' S'':Sto}(a:Kp l S S')(b:Kp l S' S''):Kp l S S'':=⟨RE a.len b.len,λk o n h=>b.keep k o n (a.keep k o n h)⟩
noncomputable def Un(n:Nat)(c:Nat->Nat)(fs:EE):Prop:=∀ f∈fs,f.1<n/\f.2<n/\c f.1≠c f.2
theorem Dg(xs:List Nat):DH (natS xs)=some (iN xs):=Gv xs
inductive Gd(V:Nat->List SV->Prop):Nat->Nat->SV->Prop where
 | non {k b:Nat}:Gd V k b .non
 | bl {k b:Nat} (c:Bool):Gd V k b (.bl c)
 | int {k b:Nat} {i:Int} (h:-1000000000000000000000<=i/\i<=1000000000000000000000):Gd V k b (.int i)
 | str {k b:Nat} {x:Str} (h:Sz 0 10 (.str x)) (hb:10<=b):Gd V k b (.str x)
 | tup {k b c:Nat} {xs:List SV} (h:∀ y∈xs,Gd V k b y) (hl:xs.length<=63) (hc:xs.length * (b+1)<=c):Gd V (k+1) c (.tup xs)
 | lst {k b c l:Nat} {xs:List SV} (hv:V l xs) (h:∀ y∈xs,Gd V k b y) (hl:xs.length<=63) (hc:xs.length * (b+1)<=c):Gd V (k+1) c (.loc l)
theorem Gd.see{V V':Nat->List SV->Prop}(i:∀ l xs,V l xs->V' l xs){k b:Nat}{x:SV}(h:Gd V k b x):Gd V' k b x:=by
 induction h with
 | non=>exact .non
 | bl c=>exact .bl c
 | int h=>exact .int h
 | str h hb=>exact .str h hb
 | tup _ hl hc ih=>exact .tup ih hl hc
 | lst hv _ hl hc ih=>exact .lst (i _ _ hv) ih hl hc
theorem Gd.up{V:Nat->List SV->Prop}{k b k' b':Nat}{x:SV}(h:Gd V k b x)(hk:k<=k')(hb:b<=b'):Gd V k' b' x:=by
 induction h generalizing k' b' with
 | non=>exact .non
 | bl c=>exact .bl c
 | int h=>exact .int h
 | str h h10=>exact .str h (RE h10 hb)
 | tup _ hl hc ih=>
   obtain⟨k',rfl⟩:∃ j,k'=j+1:=⟨k' - 1,by omega⟩
   exact .tup (λy hy=>ih y hy (by omega) (Qs _)) hl (RE hc hb)
 | lst hv _ hl hc ih=>
   obtain⟨k',rfl⟩:∃ j,k'=j+1:=⟨k' - 1,by omega⟩
   exact .lst hv (λy hy=>ih y hy (by omega) (Qs _)) hl (RE hc hb)
section
variable{Δ:Nat->Sn}
theorem Mf(f:Nat->Bool):∀ n:Nat,blS ((Qy n).map λi => .bl (f i))=some ((Qy n).map f):=by
 have go:∀ l:List Nat,blS (l.map λi => .bl (f i))=some (l.map f):=λl=>by
  induction l with
  | nil=>rfl
  | cons a l ih=>rw[RK,RK];simp[blS,ih]
 exact λn=>go _
theorem Kj{f:Nat->Bool}{n:Nat}:((Qy n).map f).all id=true↔∀ i,i<n->f i=true:=by
 rw[RB];constructor
 ·exact λh i hi=>h _ (RI.mpr ⟨i,RP.mpr hi,rfl⟩)
 ·rintro h x hx;obtain⟨i,hi,rfl⟩:=RI.mp hx;exact h i (RP.mp hi)
theorem Kk(hΔ:∀ f,MonoN (Δ f)){e:Ex}{keep:Sto->Prop}{g:Tg}{ρ:EnvS}{Q:List SV->Sto->Prop}(f:Nat->Bool){xs:List SV}{S:Sto}(hl:xs.length<=1000)(hk:∀ S',Gw S S'->keep S')
 (hs:∀(i:Nat) (x:SV) (S':Sto),xs[i]?=some x->Gw S S'->wTg g x ρ λρ2=>(wEx Δ e).1 ρ2 S' λy S2=>y = .bl (f i)/\Gw S S2)
 (q:∀ S',Gw S S'->Q ((Qy xs.length).map λi => .bl (f i)) S'):j9 keep g (wEo Δ .no).2 (wEx Δ e).1 ρ Q xs [] S:=by
 refine i5 (i9 hΔ _).2 (c7 hΔ _).1 (λi ys S'=>Gw S S'/\ys=(Qy i).map λi => .bl (f i)) ⟨Gw.refl S,rfl⟩ (λ_ _ _ h=>hk _ h.1) ?_ ?_
 ·rintro i x ys S' hx ⟨G,rfl⟩;have hi:=(gM hx).1;refine n9 g (λρ2 h=>?_) (hs i x S' hx G);refine(c7 hΔ e).1 _ _ _ _ (λy S2 h=>⟨by rw[Qr,Rb];show _<100000;omega,h.2,?_⟩) h;rw[h.1,SN,R9];rfl
 ·rintro ys S' ⟨G,rfl⟩;exact q S' G
noncomputable def bPr:List Stm:=[(.ret (.and (.bi .isi (.cons (.var 0) (.cons (.tyc .tuple) .nil))) (.cmp .Eq (.bi .len (.cons (.var 0) .nil)) (.c (.int 2)))))]
noncomputable def InG(s:Sn)(m:Nat->EE->Nat):Prop:=∀{n:Nat} {es:EE} {i:Int} {S:Sto} {Q:QE},Q (.bl (decide (0<=i)&&decide (i<(m n es:Nat)))) S->s [i4 n es,.int i] S Q
theorem Mg{kn:Nat}(hn:∀{i:Int} {S:Sto} {Q:QE},Q (.bl true) S->Δ kn [.int i] S Q){D:Df}(hb:D.body=Gs kn)(hN:D.N.length=2)(hp:D.ps.length=2):InG (j0 Δ D) λ_ es=>es.length:=by
 intro n es i S Q q;unfold j0;rw[hb,hN];refine⟨hp.symm,_,rfl,hn ⟨_,rfl,ifT rfl ⟨_,rfl,_,rfl,?_⟩⟩⟩;cases z:decide ((0:Int)<=i) with
 | true=>
   rw[z]at q;refine ifT rfl ⟨_,rfl,_,_,rfl,rfl,_,rfl,?_⟩;rw[Qr];exact q
 | false=>
   rw[z]at q;exact ifF rfl q
end
theorem Fu(ns:List Int):(t5 ns).Nodup:=by
 have go:∀(l:List Int) (n:Nat),(t5 (l.take n)).Nodup:=λl n=>by
  induction n with
  | zero=>exact Tf
  | succ n ih=>
    rw[SJ];cases h:l[n]? with
    | none=>rw[Option.toList_none,Rg];exact ih
    | some i=>
      rw[Rp,D2];unfold PyProof.Rows.step_dedup;split
      ·exact ih
      ·rename_i z;refine Sg.mpr ⟨ih,by simp,λa ha b hb y=>?_⟩;rw[Qu.mp hb]at y;subst y;exact z (by simpa using ha)
 have:=go ns ns.length
 rwa [RV]at this
section
variable{Δ:Nat->Sn}
structure Rw(S:Sto)(k:Nat)(ls:List Nat)(R:List (List Nat)):Prop where
 at':S[k]?=some (SO.lst (ls.map SV.loc))
 len:ls.length=R.length
 rows:∀(i l:Nat) (r:List Nat),ls[i]?=some l->R[i]?=some r->S[l]?=some (SO.lst (natS r))
theorem Rw.mono{S S':Sto}{k:Nat}{ls:List Nat}{R:List (List Nat)}(h:Rw S k ls R)(g:Gw S S'):Rw S' k ls R:=⟨g.keep _ _ h.at',h.len,λi l r a b=>g.keep _ _ (h.rows i l r a b)⟩
noncomputable def NB:List Stm:=[(.ret (.or (.cmp .In (.ix (.ix (.ix (.var 0) (.c (.int 1))) (.var 1)) (.c (.int 0))) (.ix (.ix (.var 0) (.c (.int 1))) (.var 2))) (.cmp .In (.ix (.ix (.ix (.var 0) (.c (.int 1))) (.var 1)) (.c (.int 1))) (.ix (.ix (.var 0) (.c (.int 1))) (.var 2)))))]
noncomputable def Shr(es:EE)(t u:Nat):Prop:=∃ p,(p=(k8 es t).1\/p=(k8 es t).2)/\(p=(k8 es u).1\/p=(k8 es u).2)
noncomputable def Kl(s:Sn):Prop:=∀{n t u:Nat} {es:EE} {S:Sto} {Q:QE},t<es.length->u<es.length->(∀ v:Bool,(v=true↔Shr es t u)->Q (.bl v) S)->s [i4 n es,.int t,.int u] S Q
theorem Km{D:Df}(hb:D.body=NB)(hN:D.N.length=3)(hp:D.ps.length=3):Kl (j0 Δ D):=by
 intro n t u es S Q ht hu q;unfold j0;rw[hb,hN];have h1:atI (es.map pairS) (t:Int)=some (pairS (k8 es t)):=l5 (by rw[R8,Bx ht];rfl);have h2:atI (es.map pairS) (u:Int)=some (pairS (k8 es u)):=l5 (by rw[R8,Bx hu];rfl);refine⟨hp.symm,_,rfl,_,_,rfl,rfl,_,rfl,_,_,rfl,h1,_,.int ((k8 es t).1:Nat),rfl,rfl,_,rfl,_,_,rfl,rfl,_,rfl,_,_,rfl,h2,rfl,_,rfl,rfl,_,rfl,?_⟩;show if inS (.int (k8 es t).1) [.int (k8 es u).1,.int (k8 es u).2]=true then _ else _
 rw[Bw];refine ifB (λz=>q true ⟨λ_=>?_,λ_=>rfl⟩) (λz=>?_)
 ·refine⟨(k8 es t).1,.inl rfl,?_⟩;simp only[RU,dQ]at z;exact z.imp Eq.symm Eq.symm
 ·refine⟨_,rfl,_,_,rfl,rfl,_,rfl,_,_,rfl,h1,_,.int ((k8 es t).2:Nat),rfl,rfl,_,rfl,_,_,rfl,rfl,_,rfl,_,_,rfl,h2,rfl,_,rfl,rfl,?_⟩;show Q (.bl (inS (.int (k8 es t).2) [.int (k8 es u).1,.int (k8 es u).2])) S;rw[Bw];refine q _ ⟨λz=>⟨(k8 es t).2,.inr rfl,?_⟩,?_⟩
  ·simp only[RU,dQ]at z;exact z.imp Eq.symm Eq.symm
  ·rintro⟨p,rfl | rfl,h⟩
   ·simp only[Ti,decide_eq_false_iff_not]at z;exact absurd (h.imp Eq.symm Eq.symm) (not_or.mpr z)
   ·simp only[RU,dQ];exact h.imp Eq.symm Eq.symm
end
noncomputable abbrev Way:=EE
noncomputable def arL(es:EE)(ws:Way)(t:Nat):List Nat:=(ws.filter λp=>@decide (Shr es p.1 t) (Classical.propDecidable _)).map (·.2)
noncomputable def j3(ws:Way):Nat:=(t5 (iN (ws.map (·.2)))).length
noncomputable def p8(es:EE)(hues:Nat)(ws:Way)(t:Nat):List Nat:=(Qy (min hues (j3 ws+1))).filter λh=>decide (h∉arL es ws t)
noncomputable def opL(es:EE)(K:Nat)(ws:Way)(t:Nat):List Nat:=((Qy K).filter λh=>decide (h∉arL es ws t)).filter λh=>decide (h<=j3 ws)
theorem mem_ar{es:EE}{ws:Way}{t h:Nat}:h∈arL es ws t↔∃ k,(k,h)∈ws/\Shr es k t:=by
 unfold arL;rw[RI];constructor
 ·rintro⟨⟨k,h'⟩,m,rfl⟩;obtain⟨m,z⟩:=SL.mp m;exact⟨k,m,@of_decide_eq_true _ (Classical.propDecidable _) z⟩
 ·rintro⟨k,m,z⟩;exact⟨(k,h),SL.mpr ⟨m,@decide_eq_true _ (Classical.propDecidable _) z⟩,rfl⟩
theorem mem_tri{es:EE}{hues:Nat}{ws:Way}{t h:Nat}:h∈p8 es hues ws t↔h<hues/\h<=j3 ws/\h∉arL es ws t:=by
 unfold p8;rw[SL,RP,dQ];exact⟨λ⟨a,b⟩=>⟨by omega,by omega,b⟩,λ⟨a,b,c⟩=>⟨by omega,c⟩⟩
theorem Fv(ws:Way):j3 ws<=ws.length:=by
 have h:=List.Nodup.length_le_of_subset (Fu (iN (ws.map (·.2)))) (l₂:=iN (ws.map (·.2))) λa ha=>(show a∈t5 (iN (ws.map (·.2)))↔a∈iN (ws.map (·.2)) from BE _ _).mp ha;have e:(iN (ws.map (·.2))).length=ws.length:=by unfold iN;rw[Qr,Qr]
 unfold j3;omega
theorem Eu{K m M:Nat}{P:Nat->Bool}(h:∀ x,(x<K/\x<=m)↔x<M):((Qy K).filter P).filter (λx=>decide (x<=m))=(Qy M).filter P:=by
 have e:((Qy K).filter P).filter (λx=>decide (x<=m))=((Qy K).filter λx=>decide (x<=m)).filter P:=by
  rw[Tt,Tt];refine List.filter_congr λx _=>?_;rw[Bool.and_comm]
 rw[e]
 congr 1
 have key:∀ K,(Qy K).filter (λx=>decide (x<=m))=Qy (min K (m+1)):=λK=>by
  induction K with
  | zero=>simp
  | succ K ih=>
    rw[SN,Ss,ih];by_cases z:K<=m
    ·rw[show min (K+1) (m+1)=K+1 by omega,show min K (m+1)=K by omega,SN];simp[z]
    ·rw[show min (K+1) (m+1)=m+1 by omega,show min K (m+1)=m+1 by omega];simp[z]
 rw[key]
 congr 1
 have h1:=h (min K (m+1));have h2:=h M;have h3:=h (min K (m+1) - 1);have h4:=h (M - 1);omega
theorem Ow{es:EE}{hues n:Nat}{ws:Way}{t:Nat}(hw:ws.length<n):opL es (min hues n) ws t=p8 es hues ws t:=by
 have:=Fv ws;unfold opL p8;exact Eu λx=>by omega
structure WayOk(es:EE)(hues:Nat)(ws:Way):Prop where
 lt:∀ p∈ws,p.1<es.length/\p.2<hues
 nd:(ws.map (·.1)).Nodup
 pr:∀ p∈ws,∀ q∈ws,p.1≠q.1->Shr es p.1 q.1->p.2≠q.2
theorem WayOk.nil{es:EE}{hues:Nat}:WayOk es hues []:=⟨λ_ h=>(nomatch h),Tf,λ_ h=>(nomatch h)⟩
theorem Kn{es:EE}{a b:Nat}(h:Shr es a b):Shr es b a:=let ⟨p,x,y⟩:=h;⟨p,y,x⟩
theorem WayOk.snoc{es:EE}{hues:Nat}{ws:Way}{t h:Nat}(W:WayOk es hues ws)(ht:t<es.length)(hn:t∉ws.map (·.1))(hh:h∈p8 es hues ws t):WayOk es hues (ws++[(t,h)]):=by
 obtain⟨h1,h2,h3⟩:=mem_tri.mp hh;refine⟨λp hp=>?_,?_,λp hp q hq ne sh=>?_⟩
 ·rcases RF.mp hp with hp | hp
  ·exact W.lt p hp
  ·rw[Qu.mp hp];exact⟨ht,h1⟩
 ·rw[R9];refine Sg.mpr ⟨W.nd,by simp,λa ha b hb e=>?_⟩;rw[Qu.mp hb]at e;have e:a=t:=e;exact hn (e▸ha)
 ·rcases RF.mp hp with hp | hp<;>rcases RF.mp hq with hq | hq
  ·exact W.pr p hp q hq ne sh
  ·rw[Qu.mp hq]at sh ⊢;exact λe=>h3 (mem_ar.mpr ⟨p.1,by have e:p.2=h:=e;rw[<-e];exact hp,sh⟩)
  ·rw[Qu.mp hp]at sh ⊢;exact λe=>h3 (mem_ar.mpr ⟨q.1,by have e:h=q.2:=e;rw[e];exact hq,Kn sh⟩)
  ·rw[Qu.mp hp,Qu.mp hq]at ne;exact absurd rfl ne
theorem WayOk.len{es:EE}{hues:Nat}{ws:Way}(W:WayOk es hues ws):ws.length<=es.length:=by
 have:=List.Nodup.length_le_of_subset W.nd (l₂:=Qy es.length) λa ha=>by
  obtain⟨p,hp,rfl⟩:=RI.mp ha;exact RP.mpr (W.lt p hp).1
 rwa [Qr,Rb]at this
theorem WayOk.less{es:EE}{hues:Nat}{ws:Way}{t:Nat}(W:WayOk es hues ws)(ht:t<es.length)(hn:t∉ws.map (·.1)):ws.length<es.length:=by
 have:=List.Nodup.length_le_of_subset (Ru.mpr ⟨hn,W.nd⟩) (l₂:=Qy es.length) λa ha=>by
  rcases R0.mp ha with rfl | ha
  ·exact RP.mpr ht
  ·obtain⟨p,hp,rfl⟩:=RI.mp ha;exact RP.mpr (W.lt p hp).1
 rw[Rj,Qr,Rb]at this;omega
noncomputable def Ext(es:EE)(hues:Nat)(ws:Way):Prop:=∃ c:Nat->Nat,(∀ t,t<es.length->c t<hues)/\(∀ t u,t<es.length->u<es.length->t≠u->Shr es t u->c t≠c u)/\∀ p∈ws,c p.1=p.2
theorem Ext.pre{es:EE}{hues:Nat}{ws vs:Way}(h:Ext es hues (ws++vs)):Ext es hues ws:=let ⟨c,a,b,d⟩:=h;⟨c,a,b,λp hp=>d p (Sl _ hp)⟩
theorem Mh(es:EE):Ext es es.length []:=⟨id,λ_ h=>h,λ_ _ _ _ ne _=>ne,λ_ h=>(nomatch h)⟩
theorem Ko{es:EE}{hues:Nat}{ws:Way}(W:WayOk es hues ws)(h:∀ t,t<es.length->t∈ws.map (·.1)):Ext es hues ws:=by
 have at':∀ t,t<es.length->∃ x,(t,x)∈ws:=λt ht=>by
  obtain⟨p,hp,e⟩:=RI.mp (h t ht);exact⟨p.2,by rw[<-e];exact hp⟩
 have uniq:∀(ws:Way),(ws.map (·.1)).Nodup->∀ t x y,(t,x)∈ws->(t,y)∈ws->x=y:=by
  intro ws
  induction ws with
  | nil=>exact λ_ _ _ _ h=>(nomatch h)
  | cons p ws ih=>
    intro nd t x y hx hy;rw[RK,Ru]at nd;rcases R0.mp hx with e1 | e1<;>rcases R0.mp hy with e2 | e2
    ·exact congrArg Prod.snd (e1.trans e2.symm)
    ·exact absurd (RI.mpr ⟨_,e2,by rw[<-e1]⟩) nd.1
    ·exact absurd (RI.mpr ⟨_,e1,by rw[<-e2]⟩) nd.1
    ·exact ih nd.2 t x y e1 e2
 let c:Nat->Nat:=λt=>if ht:t<es.length then Classical.choose (at' t ht) else 0
 have hc:∀ t,t<es.length->(t,c t)∈ws:=λt ht=>by
  show(t,if ht:t<es.length then Classical.choose (at' t ht) else 0)∈ws;rw[dif_pos ht];exact Classical.choose_spec (at' t ht)
 exact⟨c,λt ht=>(W.lt _ (hc t ht)).2,λt u ht hu ne sh=>W.pr _ (hc t ht) _ (hc u hu) ne sh,λp hp=>uniq ws W.nd p.1 _ _ (hc p.1 (W.lt p hp).1) hp⟩
noncomputable def Cano(ws:Way):Prop:=∀ h,h∈ws.map (·.2)↔h<j3 ws
theorem Kq(ws:Way)(t h:Nat):j3 (ws++[(t,h)])=if h∈ws.map (·.2) then j3 ws else j3 ws+1:=by
 unfold j3;have e:iN ((ws++[(t,h)]).map (·.2))=iN (ws.map (·.2))++[(h:Int)]:=by unfold iN;rw[R9,R9];rfl
 rw[e,D2];unfold PyProof.Rows.step_dedup
 have m:(h:Int)∈t5 (iN (ws.map (·.2)))↔h∈ws.map (·.2):=by
  refine(show(h:Int)∈t5 (iN (ws.map (·.2)))↔(h:Int)∈iN (ws.map (·.2)) from BE _ _).trans ?_;unfold iN;rw[RI];exact⟨λ⟨a,b,c⟩=>by have c:(a:Int)=h:=c;rw[<-SF.mp c];exact b,λz=>⟨h,z,rfl⟩⟩
 by_cases z:h∈ws.map (·.2)
 ·rw[iP z];split
  ·rfl
  ·rename_i y;exact absurd (m.mpr z) (by simpa using y)
 ·rw[iG z];split
  ·rename_i y;exact absurd (m.mp (by simpa using y)) z
  ·rw[Qv];rfl
theorem Cano.snoc{ws:Way}{t h:Nat}(C:Cano ws)(hh:h<=j3 ws):Cano (ws++[(t,h)]):=by
 intro x;rw[Kq,R9,RF,C x];have e:x∈Tw (λ(p:Nat×Nat)=>p.2) [(t,h)]↔x=h:=by simp
 rw[e];by_cases z:h∈ws.map (·.2)
 ·rw[iP z];have:=(C h).mp z;omega
 ·rw[iG z];have:¬ h<j3 ws:=λy=>z ((C h).mpr y);omega
theorem Cano.nil:Cano []:=λh=>by
 have:j3 []=0:=rfl;rw[this];simp
theorem Kr{es:EE}{hues:Nat}{ws:Way}{t:Nat}(C:Cano ws)(W:WayOk es hues ws)(ht:t<es.length)(hn:t∉ws.map (·.1))(x:Ext es hues ws):∃ h∈p8 es hues ws t,Ext es hues (ws++[(t,h)]):=by
 obtain⟨c,c1,c2,c3⟩:=x
 have fin:∀ c':Nat->Nat,(∀ t,t<es.length->c' t<hues)->(∀ t u,t<es.length->u<es.length->t≠u->Shr es t u->c' t≠c' u)->(∀ p∈ws,c' p.1=p.2)->c' t<=j3 ws->∃ h∈p8 es hues ws t,Ext es hues (ws++[(t,h)]):=λc' d1 d2 d3 le=>by
  refine⟨c' t,mem_tri.mpr ⟨d1 t ht,le,λm=>?_⟩,c',d1,d2,λp hp=>?_⟩
  ·obtain⟨k,hk,sh⟩:=mem_ar.mp m;have ne:k≠t:=λe=>hn (by rw[<-e];exact RI.mpr ⟨_,hk,rfl⟩);exact d2 k t (W.lt _ hk).1 ht ne sh (d3 _ hk)
  ·rcases RF.mp hp with hp | hp
   ·exact d3 p hp
   ·rw[Qu.mp hp]
 rcases SU (c t) (j3 ws) with z | z
 ·exact fin c c1 c2 c3 (TM z)
 ·let s:Nat->Nat:=λv=>if v=c t then j3 ws else if v=j3 ws then c t else v
  have inj:∀ a b,s a=s b->a=b:=λa b e=>by
   have e:(if a=c t then j3 ws else if a=j3 ws then c t else a)=if b=c t then j3 ws else if b=j3 ws then c t else b:=e
   split at e<;>split at e<;>(try split at e)<;>(try split at e)<;>omega
  have ct:=c1 t ht;refine fin (λv=>s (c v)) (λu hu=>?_) (λa b ha hb ne sh e=>c2 a b ha hb ne sh (inj _ _ e)) (λp hp=>?_) ?_
  ·have:=c1 u hu;show(if c u=c t then j3 ws else if c u=j3 ws then c t else c u)<hues;split
   ·omega
   ·split<;>omega
  ·have h1:p.2<j3 ws:=(C p.2).mp (RI.mpr ⟨p,hp,rfl⟩);show(if c p.1=c t then j3 ws else if c p.1=j3 ws then c t else c p.1)=p.2;rw[c3 p hp,iG (by omega),iG (by omega)]
  ·show(if c t=c t then j3 ws else _)<=j3 ws;rw[iP rfl];exact Qs _
noncomputable def VH(H:Nat->Prop)(S:Sto)(l:Nat)(xs:List SV):Prop:=¬ H l/\S[l]?=some (.lst xs)
structure HG(H:Nat->Prop)(S S':Sto):Prop where
 len:S.length<=S'.length
 keep:∀(k:Nat) (o:SO),¬ H k->S[k]?=some o->S'[k]?=some o
theorem Gw.hg{H:Nat->Prop}{S S':Sto}(G:Gw S S'):HG H S S':=⟨G.len,λk o _ h=>G.keep k o h⟩
theorem HG.trans{H:Nat->Prop}{S S' S'':Sto}(a:HG H S S')(b:HG H S' S''):HG H S S'':=⟨RE a.len b.len,λk o n h=>b.keep k o n (a.keep k o n h)⟩
theorem On.hg{H:Nat->Prop}{t:Nat}{S S':Sto}(ht:H t)(O:On t S S'):HG H S S':=⟨O.len,λk o n h=>O.keep k o (λe=>n (e▸ht)) h⟩
theorem Gd.hg{H:Nat->Prop}{S S':Sto}{k b:Nat}{x:SV}(h:Gd (VH H S) k b x)(G:HG H S S'):Gd (VH H S') k b x:=h.see λl xs e=>⟨e.1,G.keep l _ e.1 e.2⟩
noncomputable def FlatV(y:SV):Prop:=∀(V:Nat->List SV->Prop) (k b:Nat),10<=b->Gd V k b y
noncomputable def Nw(H:Nat->Prop)(S:Sto):Prop:=∀ k,H k->k<S.length
theorem Nw.on{H:Nat->Prop}{S S':Sto}(h:Nw H S)(l:S.length<=S'.length):Nw H S':=λk hk=>RC (h k hk) l
theorem Nw.new{H:Nat->Prop}{S:Sto}(h:Nw H S):¬ H S.length:=λz=>Rx _ (h _ z)
section
variable{Δ:Nat->Sn}{H:Nat->Prop}{B:Sto->Prop}{ρ:EnvS}
noncomputable def GE(Δ:Nat->Sn)(H:Nat->Prop)(B:Sto->Prop)(ρ:EnvS)(k b:Nat)(e:Ex):Prop:=∀(S:Sto) (Q:QE),B S->Nw H S->(∀(y:SV) (S':Sto),Gw S S'->Gd (VH H S') k b y->Q y S')->(wEx Δ e).1 ρ S Q
noncomputable def LE(Δ:Nat->Sn)(H:Nat->Prop)(B:Sto->Prop)(ρ:EnvS)(m:Nat)(e:Ex):Prop:=∀(S:Sto) (Q:QE),B S->Nw H S->(∀(k:Nat) (xs:List SV) (S':Sto),Gw S S'->¬ H k->S'[k]?=some (.lst xs)->xs.length<=m->(∀ y∈xs,FlatV y)->Q (.loc k) S')->(wEx Δ e).1 ρ S Q
noncomputable def GEs(Δ:Nat->Sn)(H:Nat->Prop)(B:Sto->Prop)(ρ:EnvS)(k b n:Nat)(es:Exs):Prop:=∀(S:Sto) (Q:List SV->Sto->Prop),B S->Nw H S->(∀(ys:List SV) (S':Sto),Gw S S'->ys.length=n->(∀ y∈ys,Gd (VH H S') k b y)->Q ys S')->DP Δ es ρ S Q
theorem GEs.nil{k b:Nat}:GEs Δ H B ρ k b 0 .nil:=λS Q _ _ q=>q [] S (Gw.refl S) rfl λ_ h=>nomatch h
theorem GEs.cons{k b n:Nat}{e:Ex}{es:Exs}(hB:∀ S S',B S->Gw S S'->B S')(h:GE Δ H B ρ k b e)(hs:GEs Δ H B ρ k b n es):GEs Δ H B ρ k b (n+1) (.cons e es):=λS Q b0 nw q=>
 h S _ b0 nw λy S1 G1 g1=>hs S1 _ (hB _ _ b0 G1) (nw.on G1.len) λys S2 G2 hl hg=>q (y::ys) S2 (G1.trans G2) (by rw[Rj,hl]) λz hz=>by
  rcases R0.mp hz with rfl | hz
  ·exact g1.hg G2.hg
  ·exact hg z hz
theorem GE.lst{k b n c:Nat}{es:Exs}(h:GEs Δ H B ρ k b n es)(hn:n<=63)(hc:n * (b+1)<=c):GE Δ H B ρ (k+1) c (.lst es):=λS Q b0 nw q=>
 h S _ b0 nw λys S' G hl hg=>⟨by rw[hl];show n<=100000;omega,q _ _ G.push (.lst ⟨(nw.on G.len).new,e5⟩ (λy hy=>(hg y hy).hg (Gw.refl S').push.hg) (by omega) (by rw[hl];exact hc))⟩
theorem GE.tup{k b n c:Nat}{es:Exs}(h:GEs Δ H B ρ k b n es)(hn:n<=63)(hc:n * (b+1)<=c):GE Δ H B ρ (k+1) c (.tup es):=λS Q b0 nw q=>
 h S _ b0 nw λys S' G hl hg=>⟨by rw[hl];show n<=100000;omega,q _ _ G (.tup hg (by omega) (by rw[hl];exact hc))⟩
theorem GE.up{k b k' b':Nat}{e:Ex}(h:GE Δ H B ρ k b e)(hk:k<=k')(hb:b<=b'):GE Δ H B ρ k' b' e:=λS Q b0 nw q=>h S Q b0 nw λy S' G g=>q y S' G (g.up hk hb)
theorem LE.none:LE Δ H B ρ 0 (.lst .nil):=λS Q _ nw q=>⟨by show 0<=100000;decide,q _ _ _ (Gw.refl S).push nw.new e5 (Qs _) λ_ h=>nomatch h⟩
structure RowAt(Δ:Nat->Sn)(H:Nat->Prop)(B:Sto->Prop)(ρ:EnvS)(j l n:Nat)(xs:List SV):Prop where
 var:∀(S:Sto) (Q:QE),Q (.loc l) S->(wEx Δ (.var j)).1 ρ S Q
 at':∀ S,B S->S[l]?=some (.lst xs)
 nh:¬ H l
 len:xs.length=n
 fl:∀ y∈xs,FlatV y
theorem RowAt.tup{j l n k b:Nat}{xs:List SV}(R:RowAt Δ H B ρ j l n xs)(hn:n<=63)(hb:n * 11<=b):GE Δ H B ρ (k+1) b (.bi .tuple (.cons (.var j) .nil)):=λS Q b0 nw q=>
 R.var S _ ⟨xs,f6 (R.at' S b0),q _ S (Gw.refl S) (.tup (k:=k) (b:=10) (λy hy=>R.fl y hy _ _ _ (Qs _)) (by rw[R.len];exact hn) (by rw[R.len];exact hb))⟩
end
section
variable{Δ:Nat->Sn}
theorem Gw.on{t:Nat}{S S':Sto}(G:Gw S S'):On t S S':=⟨G.len,λk o _ h=>G.keep k o h⟩
theorem Gw.tape{t:Nat}{S S':Sto}(G:Gw S S')(T:TapeS S t):TapeS S' t:=let ⟨a,b,h,c⟩:=T.ex;⟨a,b,G.keep _ _ h,c⟩
end
theorem Gx(es:EE)(ws:Way)(p:Nat×Nat)(t:Nat)(v:Bool)(h:v=true↔Shr es p.1 t):arL es (ws++[p]) t=arL es ws t++if v=true then [p.2] else []:=by
 unfold arL;rw[Ss,R9]
 congr 1
 cases v with
 | true=>have z:=h.mp rfl;simp[z]
 | false=>have z:¬ Shr es p.1 t:=λy=>absurd (h.mpr y) (by decide);simp[z]
theorem CP(es:EE)(ws:Way)(t:Nat):(arL es ws t).length<=ws.length:=by
 unfold arL;rw[Qr];exact RY ..
theorem Dh{ws:Way}{i:Nat}{x:SV}(h:(ws.map pairS)[i]?=some x):∃ p,ws[i]?=some p/\x=pairS p:=by
 rw[R8]at h;obtain⟨p,a,b⟩:=TX.mp h;exact⟨p,a,b.symm⟩
theorem BQ{P:Nat->Bool}(xs:List Nat)(i h:Nat)(e:xs[i]?=some h):(xs.take (i+1)).filter P=(xs.take i).filter P++if P h=true then [h] else []:=by
 rw[SJ,e,Rp,Ss]
 congr 1
 cases z:P h with
 | true=>rw[TF z];rfl
 | false=>rw[TC (by rw[z];decide)];rfl
section
variable{Δ:Nat->Sn}
noncomputable def Gy(km:Nat):List Stm:=[(.ret (.comp ["_law_k","_law_hue"] ["_law_web_here","_law_tie"] [0,2] (.tup (.cons (.nm 0) (.cons (.nm 1) .nil))) (.seq (.var 1)) (.yes (.call km (.cons (.var 2) (.cons (.var 0) (.cons (.var 3) .nil))))) (.var 1)))]
noncomputable def AC(s:Sn):Prop:=∀{n w t:Nat} {es:EE} {ws:Way} {S:Sto} {Q:QE},S[w]?=some (.lst (ws.map pairS))->ws.length<=900->(∀ p∈ws,p.1<es.length)->t<es.length->Q (.loc S.length) (S++[.lst (natS (arL es ws t))])->s [i4 n es,.loc w,.int (t:Nat)] S Q
theorem IW(hΔ:∀ f,MonoN (Δ f)){km:Nat}(hm:Kl (Δ km)){D:Df}(hb:D.body=Gy km)(hN:D.N.length=3)(hp:D.ps.length=3):AC (j0 Δ D):=by
 intro n w t es ws S Q hw hl tl ht q;unfold j0;rw[hb,hN];refine⟨hp.symm,_,rfl,_,f6 hw,?_⟩;refine i5 (i9 hΔ _).2 (c7 hΔ _).1 (λi ys S'=>S'=S/\ys=natS (arL es (ws.take i) t)) ⟨rfl,rfl⟩ (λ_ _ _ h=>by rw[h.1];rfl) ?_ ?_
 ·rintro i x ys S' hx ⟨rfl,rfl⟩;obtain⟨p,hp',rfl⟩:=Dh hx;have hi:=(gM hp').1;refine⟨_,rfl,_,rfl,_,rfl,hm (tl p (R1 hp')) ht λv e=>⟨_,rfl,?_⟩⟩;have al:=CP es (ws.take i) t;rw[RL]at al
  have e2:arL es (ws.take (i+1)) t=arL es (ws.take i) t++if v=true then [p.2] else []:=by
   rw[SJ,hp',Rp];exact Gx es _ p t v e
  cases v with
  | true=>exact ifT rfl ⟨_,rfl,by rw[g6];show _<100000;omega,rfl,by rw[e2,iP rfl,AB];rfl⟩
  | false=>exact ifF rfl ⟨rfl,by rw[e2,iG (by decide),Rg]⟩
 ·rintro ys S' ⟨rfl,rfl⟩;rw[Qr,RV];exact q
noncomputable def Ks(ka:Nat):List Stm:=[(.asg (.nm 4) (.lenset (.comp ["_law_k","_law_hue"] [] [] (.tup (.cons (.nm 0) (.cons (.nm 1) .nil))) (.seq (.var 2)) .no (.var 1)))),(.ret (.comp ["_law_hue"] ["_law_web_here","_law_way","_law_tie"] [0,2,3] (.nm 0) (.rng1 (.bi .min (.cons (.var 1) (.cons (.op .Add (.var 4) (.c (.int 1))) .nil)))) (.yes (.cmp .NotIn (.var 0) (.call ka (.cons (.var 1) (.cons (.var 2) (.cons (.var 3) .nil)))))) (.var 0)))]
noncomputable def BR(s:Sn):Prop:=∀{n w t hues:Nat} {es:EE} {ws:Way} {S:Sto} {Q:QE},S[w]?=some (.lst (ws.map pairS))->ws.length<=900->(∀ p∈ws,p.1<es.length)->t<es.length->(∀(l:Nat) (S':Sto),Gw S S'->S.length<=l->S'[l]?=some (.lst (natS (p8 es hues ws t)))->Q (.loc l) S')->s [i4 n es,.int (hues:Nat),.loc w,.int (t:Nat)] S Q
theorem CQ(hΔ:∀ f,MonoN (Δ f)){ws:Way}{S:Sto}{keep:Sto->Prop}{j:Nat}{f:Nat×Nat->Nat}{ρ:EnvS}{Q:List SV->Sto->Prop}(hl:ws.length<=900)(hk:keep S)(he:∀ p:Nat×Nat,wTg (.tup (.cons (.nm 0) (.cons (.nm 1) .nil))) (pairS p) ρ λρ2=>ρ2[j]?=some (some (.int (f p))))(q:Q (natS (ws.map f)) S):
 j9 keep (.tup (.cons (.nm 0) (.cons (.nm 1) .nil))) (wEo Δ .no).2 (wEx Δ (.var j)).1 ρ Q (ws.map pairS) [] S:=by
 refine i5 (i9 hΔ _).2 (c7 hΔ _).1 (λi ys S'=>S'=S/\ys=natS ((ws.take i).map f)) ⟨rfl,rfl⟩ (λ_ _ _ h=>by rw[h.1];exact hk) ?_ ?_
 ·rintro i x ys S' hx ⟨rfl,rfl⟩;obtain⟨p,hp',rfl⟩:=Dh hx;have hi:=(gM hp').1;refine n9 _ (λρ2 h=>?_) (he p);refine⟨_,h,by rw[g6,Qr,RL];show _<100000;omega,rfl,?_⟩;rw[SJ,hp',Rp,R9,AB];rfl
 ·rintro ys S' ⟨rfl,rfl⟩;rw[Qr,RV];exact q
theorem Kt(hΔ:∀ f,MonoN (Δ f)){ka:Nat}(ha:AC (Δ ka)){D:Df}(hb:D.body=Ks ka)(hN:D.N.length=5)(hp:D.ps.length=4):BR (j0 Δ D):=by
 intro n w t hues es ws S Q hw hl tl ht q;unfold j0;rw[hb,hN];refine⟨hp.symm,_,rfl,_,f6 hw,?_⟩;refine CQ hΔ (f:=(·.2)) hl rfl (λp=>rfl) ?_;have G1:Gw S (S++[SO.lst (natS (ws.map (·.2)))]):=(Gw.refl S).push;have e1:(iN (ws.map (·.2))).length<=900:=by unfold iN;rw[Qr,Qr];exact hl
 refine⟨_,_,nofun,f6 e5,Dg _,e1,?_⟩;have hw1:=G1.keep _ _ hw;show wSs Δ _ _ [some (i4 n es),some (.int (hues:Nat)),some (.loc w),some (.int (t:Nat)),some (.int ((j3 ws:Nat):Int))] (S++[SO.lst (natS (ws.map (·.2)))]);generalize S++[SO.lst (natS (ws.map (·.2)))]=S1 at *;have ml:=Fv ws;have em:(if ((j3 ws:Nat):Int)+1<(hues:Nat) then ((j3 ws:Nat):Int)+1 else (hues:Nat))=((min hues (j3 ws+1):Nat):Int):=by split<;>omega
 refine⟨_,rfl,_,rfl,_,congrArg SV.int em,⟨by omega,by omega⟩,?_⟩;rw[Dc];refine i5 (i9 hΔ _).2 (c7 hΔ _).1 (λi ys S'=>Gw S1 S'/\ys=natS (((Qy (min hues (j3 ws+1))).take i).filter λh=>decide (h∉arL es ws t))) ⟨Gw.refl _,rfl⟩ (λ_ _ _ _=>trivial) ?_ ?_
 ·rintro i x ys S' hx ⟨G,rfl⟩;obtain⟨h,hh,rfl⟩:=y8 hx;have hi:=(gM hh).1;rw[Rb]at hi;refine⟨_,rfl,_,rfl,_,rfl,_,rfl,ha (G.keep _ _ hw1) hl tl ht ?_⟩;show match BG (.loc S'.length) (S'++[SO.lst (natS (arL es ws t))]) with | some ms=>_ | none=>_
  rw[BP e5];refine⟨rfl,_,f6 e5,Ay _,_,rfl,?_⟩;show if (!inS (.int h) (natS (arL es ws t)))=true then _ else _
  rw[De];have e3:=BQ (P:=λh=>decide (h∉arL es ws t)) (Qy (min hues (j3 ws+1))) i h hh
  have fl:(((Qy (min hues (j3 ws+1))).take i).filter λh=>decide (h∉arL es ws t)).length<=i:=by
   refine RE (RY ..) ?_;rw[RL];omega
  by_cases z:h∈arL es ws t
  ·exact ifF (by rw[decide_eq_true z];rfl) ⟨G.push,by rw[e3,iG (by simpa using z),Rg]⟩
  ·refine ifT (by rw[decide_eq_false z];rfl) ⟨_,rfl,by rw[g6];show _<100000;omega,G.push,by rw[e3,iP (by simpa using z),AB];rfl⟩
 ·rintro ys S' ⟨G,rfl⟩;have e4:(natS (Qy (min hues (j3 ws+1)))).length=(Qy (min hues (j3 ws+1))).length:=g6;rw[e4,RV];exact q _ _ (G1.trans G).push (G1.trans G).len e5
noncomputable def m8(ws:Way):List (Int×SV):=ws.map λp=>((p.1:Int),SV.int (p.2:Nat))
noncomputable def oh1:Stm:=(.asg (.tup (.cons (.nm 5) (.cons (.nm 6) .nil))) (.ix (.ix (.var 0) (.c (.int 1))) (.var 4)))
noncomputable def oh2:Stm:=(.asg (.nm 7) (.comp ["near","hue"] ["one","web","other"] [5,0,6] (.tup (.cons (.nm 0) (.cons (.nm 1) .nil))) (.itm (.var 3)) (.yes (.or (.cmp .In (.var 2) (.ix (.ix (.var 3) (.c (.int 1))) (.var 0))) (.cmp .In (.var 4) (.ix (.ix (.var 3) (.c (.int 1))) (.var 0))))) (.var 1)))
noncomputable def oh3:Stm:=(.asg (.nm 8) (.comp ["hue"] ["taken"] [7] (.nm 0) (.seq (.ix (.var 1) (.var 4))) (.yes (.cmp .NotIn (.var 0) (.var 1))) (.var 0)))
noncomputable def oh4:Stm:=(.iff (.not (.var 2)) [(.ret (.var 8))] [])
noncomputable def oh5:Stm:=(.asg (.nm 9) (.lenset (.dvals (.var 3))))
noncomputable def oh6:Stm:=(.ret (.comp ["hue"] ["known"] [9] (.nm 0) (.seq (.var 8)) (.yes (.cmp .LtE (.var 0) (.var 1))) (.var 0)))
noncomputable def NC:List Stm:=[oh1,oh2,oh3,oh4,oh5,oh6]
noncomputable def Fw(s:Sn):Prop:=∀{n j m k t K:Nat} {es:EE} {ws:Way} {S:Sto} {Q:QE},S[k]?=some (.dct (m8 ws))->S[j]?=some (.lst (RA es.length (.loc m)))->S[m]?=some (.lst (natS (Qy K)))->ws.length<=900->K<=900->(∀ p∈ws,p.1<es.length)->t<es.length->(∀(l:Nat) (S':Sto),On k S S'->CD (.loc k) S'=some (m8 ws)->l≠k->S'[l]?=some (.lst (natS (opL es K ws t)))->Q (.loc l) S')->s [i4 n es,.loc j,.bl true,.loc k,.int (t:Nat)] S Q
theorem Mi(hΔ:∀ f,MonoN (Δ f)){D:Df}(hb:D.body=NC)(hN:D.N.length=10)(hp:D.ps.length=5):Fw (j0 Δ D):=by
 intro n j m k t K es ws S Q hk hj hm hl hK tl ht q;unfold j0;rw[hb,hN];have he:atI (es.map pairS) (t:Int)=some (pairS (k8 es t)):=l5 (by rw[R8,Bx ht];rfl);have jk:j≠k:=λe=>by rw[e,hk]at hj;cases hj
 have mk:m≠k:=λe=>by rw[e,hk]at hm;cases hm
 have kl:k<S.length:=(gM hk).1;refine⟨hp.symm,_,rfl,_,_,rfl,rfl,_,rfl,_,_,rfl,he,?_⟩;refine⟨_,rfl,k,m8 ws,rfl,hk,λo ks=>?_⟩;have O1:On k S (S.set k (.dcf o ks (m8 ws))):=⟨by rw[Rm];exact Qs _,λi u ne h=>by rw[Rq (Ne.symm ne)];exact h⟩
 have hk1:(S.set k (.dcf o ks (m8 ws)))[k]?=some (.dcf o ks (m8 ws)):=Ra kl;generalize S.set k (.dcf o ks (m8 ws))=S1 at *;have wl:(m8 ws).map (λp=>SV.tup [.int p.1,p.2])=ws.map pairS:=by unfold m8;rw[Sf];rfl
 rw[wl];refine i5 (i9 hΔ _).2 (c7 hΔ _).1 (λi ys S'=>S'=S1/\ys=natS (arL es (ws.take i) t)) ⟨rfl,rfl⟩ (λ_ _ _ h=>by rw[h.1];exact hk1) ?_ ?_
 ·rintro i x ys S' hx ⟨rfl,rfl⟩;obtain⟨p,hp',rfl⟩:=Dh hx;have hi:=(gM hp').1;have hpt:=tl p (R1 hp');have h2:atI (es.map pairS) (p.1:Int)=some (pairS (k8 es p.1)):=l5 (by rw[R8,Bx hpt];rfl);have al:=CP es (ws.take i) t;rw[RL]at al
  have step:∀ v:Bool,(v=true↔Shr es p.1 t)->arL es (ws.take (i+1)) t=arL es (ws.take i) t++if v=true then [p.2] else []:=λv e=>by
   rw[SJ,hp',Rp];exact Gx es _ p t v e
  have yes:Shr es p.1 t->(wEx Δ (.var 1)).1 [some (.int (p.1:Nat)),some (.int (p.2:Nat)),some (.int ((k8 es t).1:Nat)),some (i4 n es),some (.int ((k8 es t).2:Nat))] S' λy S2=>(natS (arL es (ws.take i) t)).length<big/\S2=S'/\natS (arL es (ws.take i) t)++[y]=natS (arL es (ws.take (i+1)) t):=λsh=>
   ⟨_,rfl,by rw[g6];show _<100000;omega,rfl,by rw[step true ⟨λ_=>sh,λ_=>rfl⟩,iP rfl,AB];rfl⟩
  refine⟨_,rfl,_,rfl,_,_,rfl,rfl,_,rfl,_,_,rfl,h2,rfl,_,rfl,rfl,_,rfl,?_⟩;show if inS (.int (k8 es t).1) [.int (k8 es p.1).1,.int (k8 es p.1).2]=true then _ else _
  rw[Bw];refine ifB (λz=>ifT rfl (yes ?_)) (λz=>?_)
  ·simp only[RU,dQ]at z;exact⟨(k8 es t).1,z.imp Eq.symm Eq.symm,.inl rfl⟩
  ·refine⟨_,rfl,_,rfl,_,_,rfl,rfl,_,rfl,_,_,rfl,h2,rfl,_,rfl,rfl,_,rfl,?_⟩;show if inS (.int (k8 es t).2) [.int (k8 es p.1).1,.int (k8 es p.1).2]=true then _ else _
   rw[Bw];refine ifB (λz2=>yes ?_) (λz2=>⟨rfl,?_⟩)
   ·simp only[RU,dQ]at z2;exact⟨(k8 es t).2,z2.imp Eq.symm Eq.symm,.inr rfl⟩
   ·rw[step false ⟨nofun,?_⟩,iG (by decide),Rg];simp only[Ti,decide_eq_false_iff_not]at z z2;rintro⟨x,hx,rfl | rfl⟩
    ·exact absurd (hx.imp Eq.symm Eq.symm) (not_or.mpr z)
    ·exact absurd (hx.imp Eq.symm Eq.symm) (not_or.mpr z2)
 ·rintro ys S' ⟨rfl,rfl⟩;rw[Qr,RV];have al:=CP es ws t;have G2:Gw S' (S'++[SO.lst (natS (arL es ws t))]):=(Gw.refl S').push;have h7:(S'++[SO.lst (natS (arL es ws t))])[S'.length]?=some (.lst (natS (arL es ws t))):=e5;show wSs Δ [oh3,oh4,oh5,oh6] _ [some (i4 n es),some (.loc j),some (.bl true),some (.loc k),some (.int (t:Nat)),some (.int ((k8 es t).1:Nat)),some (.int ((k8 es t).2:Nat)),some (.loc S'.length),none,none] _;have nS:S'.length≠k:=by have:=(gM hk1).1;omega
  generalize S'.length=a at *;generalize S'++[SO.lst (natS (arL es ws t))]=S2 at *;have hj2:=G2.keep _ _ (O1.keep _ _ jk hj);have hm2:=G2.keep _ _ (O1.keep _ _ mk hm);refine⟨_,rfl,_,rfl,_,.loc m,f6 hj2,l5 (by rw[Rh,iP ht]),_,f6 hm2,?_⟩;refine i5 (i9 hΔ _).2 (c7 hΔ _).1 (λi ys S3=>S3=S2/\ys=natS (((Qy K).take i).filter λh=>decide (h∉arL es ws t))) ⟨rfl,rfl⟩ (λ_ _ _ h=>by rw[h.1];rfl) ?_ ?_
  ·rintro i x ys S3 hx ⟨rfl,rfl⟩;obtain⟨h,hh,rfl⟩:=y8 hx;have hi:=(gM hh).1;rw[Rb]at hi;refine⟨_,rfl,_,rfl,?_⟩;show match BG (.loc a) S3 with | some ms=>_ | none=>_
   rw[BP h7];refine⟨rfl,_,f6 h7,Ay _,_,rfl,?_⟩;show if (!inS (.int h) (natS (arL es ws t)))=true then _ else _
   rw[De];have e3:=BQ (P:=λh=>decide (h∉arL es ws t)) (Qy K) i h hh
   have fl:(((Qy K).take i).filter λh=>decide (h∉arL es ws t)).length<=i:=by
    refine RE (RY ..) ?_;rw[RL];omega
   by_cases z:h∈arL es ws t
   ·exact ifF (by rw[decide_eq_true z];rfl) ⟨rfl,by rw[e3,iG (by simpa using z),Rg]⟩
   ·exact ifT (by rw[decide_eq_false z];rfl) ⟨_,rfl,by rw[g6];show _<100000;omega,rfl,by rw[e3,iP (by simpa using z),AB];rfl⟩
  ·rintro ys S3 ⟨rfl,rfl⟩;have e4:(natS (Qy K)).length=(Qy K).length:=g6;rw[e4,RV];have fl:((Qy K).filter λh=>decide (h∉arL es ws t)).length<=K:=RE (RY ..) (by rw[Rb];exact Qs _);generalize eF:(Qy K).filter (λh=>decide (h∉arL es ws t))=F at *;have G4:Gw S3 (S3++[SO.lst (natS F)]):=(Gw.refl S3).push;have h8:(S3++[SO.lst (natS F)])[S3.length]?=some (.lst (natS F)):=e5;show wSs Δ [oh4,oh5,oh6] _ [some (i4 n es),some (.loc j),some (.bl true),some (.loc k),some (.int (t:Nat)),some (.int ((k8 es t).1:Nat)),some (.int ((k8 es t).2:Nat)),some (.loc a),some (.loc S3.length),none] _;have nb:S3.length≠k:=by have:=(gM (G2.keep _ _ hk1)).1;omega
   generalize S3.length=b at *;generalize S3++[SO.lst (natS F)]=S4 at *;have hk4:=G4.keep _ _ (G2.keep _ _ hk1)
   have dk:∀ S5,Gw S4 S5->CD (.loc k) S5=some (m8 ws):=λS5 G=>by
    show(match S5[k]? with | some (SO.dct kvs)=>some kvs | some (SO.dcf _ _ kvs)=>some kvs | _=>none)=_;rw[G.keep _ _ hk4]
   refine⟨_,rfl,_,rfl,ifF rfl (j6 ?_)⟩;have ev:(m8 ws).map (·.2)=natS (ws.map (·.2)):=by unfold m8 natS;rw[Sf,Sf];rfl
   refine⟨_,rfl,m8 ws,dk S4 (Gw.refl S4),?_⟩;rw[ev];have e1:(iN (ws.map (·.2))).length<=900:=by unfold iN;rw[Qr,Qr];exact hl
   refine⟨_,_,nofun,f6 e5,Dg _,e1,?_⟩;have G5:Gw S4 (S4++[SO.lst (natS (ws.map (·.2)))]):=(Gw.refl S4).push;show wSs Δ [oh6] _ [some (i4 n es),some (.loc j),some (.bl true),some (.loc k),some (.int (t:Nat)),some (.int ((k8 es t).1:Nat)),some (.int ((k8 es t).2:Nat)),some (.loc a),some (.loc b),some (.int ((j3 ws:Nat):Int))] _;generalize S4++[SO.lst (natS (ws.map (·.2)))]=S5 at *;refine⟨_,rfl,_,f6 (G5.keep _ _ h8),?_⟩;refine i5 (i9 hΔ _).2 (c7 hΔ _).1 (λi ys S6=>S6=S5/\ys=natS ((F.take i).filter λh=>decide (h<=j3 ws))) ⟨rfl,rfl⟩ (λ_ _ _ h=>by rw[h.1];rfl) ?_ ?_
   ·rintro i x ys S6 hx ⟨rfl,rfl⟩;obtain⟨h,hh,rfl⟩:=y8 hx;have hi:=(gM hh).1;have e3:=BQ (P:=λh=>decide (h<=j3 ws)) F i h hh
    have fl2:((F.take i).filter λh=>decide (h<=j3 ws)).length<=i:=by
     refine RE (RY ..) ?_;rw[RL];omega
    refine⟨_,rfl,_,rfl,_,rfl,?_⟩;refine ifD (λz=>?_) (λz=>⟨rfl,?_⟩)
    ·have z:h<=j3 ws:=by have z:(h:Int)<=(j3 ws:Nat):=z;omega
     exact⟨_,rfl,by rw[g6];show _<100000;omega,rfl,by rw[e3,iP (by simpa using z),AB];rfl⟩
    ·have z:¬ h<=j3 ws:=λy=>z (show(h:Int)<=(j3 ws:Nat) by omega);rw[e3,iG (by simpa using z),Rg]
   ·rintro ys S6 ⟨rfl,rfl⟩;rw[g6,RV];have kl6:k<S6.length:=by have:=(gM (G5.keep _ _ hk4)).1;exact this
    refine q _ _ (O1.trans ((G2.trans (G4.trans G5)).push).on) (dk _ G5.push) (by omega) ?_;rw[e5,<-eF];rfl
end
inductive Bau where
 | nd (t:Nat) (l:List Bau)
mutual
noncomputable def enc:Bau->SV
 | .nd t l => .tup [.int (t:Nat),.tup (n8 l)]
noncomputable def n8:List Bau->List SV
 | []=>[]
 | T::l=>enc T::n8 l
end
mutual
noncomputable def clF(O:Way->Nat->List Nat):Bau->Way->Bool
 | .nd t l,ws=>!decide (t∈ws.map (·.1))&&(decide (l.length=(O ws t).length)&&BA O l ws t (O ws t))
noncomputable def BA(O:Way->Nat->List Nat):List Bau->Way->Nat->List Nat->Bool
 | [],_,_,_=>true
 | _::_,_,_,[]=>true
 | T::l,ws,t,h::hs=>clF O T (ws++[(t,h)])&&BA O l ws t hs
end
mutual
noncomputable def v9(n:Nat):Bau->Prop
 | .nd t l=>t<n/\AD n l
noncomputable def AD(n:Nat):List Bau->Prop
 | []=>True
 | T::l=>v9 n T/\AD n l
end
mutual
noncomputable def dp:Bau->Nat
 | .nd _ l=>dps l+1
noncomputable def dps:List Bau->Nat
 | []=>0
 | T::l=>max (dp T) (dps l)
end
theorem w4:∀ l:List Bau,(n8 l).length=l.length
 | []=>by unfold n8;rfl
 | T::l=>by unfold n8;rw[Rj,Rj,w4 l]
theorem Di:∀{l:List Bau} {i:Nat} {x:SV},(n8 l)[i]?=some x->∃ T,l[i]?=some T/\x=enc T
 | [],i,x,h=>by unfold n8 at h;simp at h
 | T::l,0,x,h=>by unfold n8 at h;cases h;exact⟨T,rfl,rfl⟩
 | T::l,i+1,x,h=>by unfold n8 at h;exact Di (l:=l) h
theorem Ev:∀(l:List Bau) (T:Bau),n8 (l++[T])=n8 l++[enc T]
 | [],T=>by unfold n8;unfold n8;rfl
 | x::l,T=>by rw[U4];unfold n8;rw[Ev l T,U4]
theorem trs_at{n:Nat}:∀{l:List Bau},AD n l↔∀ T∈l,v9 n T
 | []=>by unfold AD;exact⟨λ_ _ h=>(nomatch h),λ_=>trivial⟩
 | x::l=>by
   unfold AD;rw[trs_at (l:=l)];constructor
   ·exact λh T hT=>(R0.mp hT).elim (λe=>e▸h.1) (h.2 T)
   ·exact λh=>⟨h x (RD ..),λT hT=>h T (R3 _ hT)⟩
theorem dps_at:∀{l:List Bau} {d:Nat},dps l<=d↔∀ T∈l,dp T<=d
 | [],d=>by unfold dps;exact⟨λ_ _ h=>(nomatch h),λ_=>Rz _⟩
 | x::l,d=>by
   unfold dps;constructor
   ·intro h T hT;rcases R0.mp hT with rfl | hT
    ·omega
    ·exact dps_at.mp (show dps l<=d by omega) T hT
   ·intro h;have h1:=h x (RD ..);have h2:=(dps_at (l:=l) (d:=d)).mpr λT hT=>h T (R3 _ hT);omega
theorem cls_iff{O:Way->Nat->List Nat}:∀{l:List Bau} {ws:Way} {t:Nat} {hs:List Nat},BA O l ws t hs=true↔∀(i:Nat) (T:Bau) (h:Nat),l[i]?=some T->hs[i]?=some h->clF O T (ws++[(t,h)])=true
 | [],ws,t,hs=>by unfold BA;exact⟨λ_ i T h a=>by simp at a,λ_=>rfl⟩
 | x::l,ws,t,[]=>by unfold BA;exact⟨λ_ i T h _ a=>by simp at a,λ_=>rfl⟩
 | x::l,ws,t,y::hs=>by
   unfold BA;rw[Qp,cls_iff (l:=l)];constructor
   ·rintro⟨a,b⟩ i T h h1 h2;cases i with
    | zero=>cases h1;cases h2;exact a
    | succ i=>exact b i T h h1 h2
   ·exact λf=>⟨f 0 x y rfl rfl,λi T h h1 h2=>f (i+1) T h h1 h2⟩
theorem Gz{O:Way->Nat->List Nat}{t:Nat}{l:List Bau}{ws:Way}(h:t∈ws.map (·.1)):clF O (.nd t l) ws=false:=by unfold clF;rw[decide_eq_true h];rfl
theorem Ku{O:Way->Nat->List Nat}{t:Nat}{l:List Bau}{ws:Way}(h:l.length≠(O ws t).length):clF O (.nd t l) ws=false:=by unfold clF;rw[decide_eq_false h,U7,U9]
theorem Fx{O:Way->Nat->List Nat}{t:Nat}{l:List Bau}{ws:Way}(h:t∉ws.map (·.1))(hl:l.length=(O ws t).length):clF O (.nd t l) ws=BA O l ws t (O ws t):=by unfold clF;rw[decide_eq_false h,decide_eq_true hl];rfl
mutual
theorem HA{es:EE}{hues:Nat}:∀(T:Bau) (ws:Way),WayOk es hues ws->v9 es.length T->clF (opL es (min hues es.length)) T ws=clF (p8 es hues) T ws
 | .nd t l,ws,W,ok=>by
   unfold v9 at ok;by_cases z:t∈ws.map (·.1)
   ·rw[Gz z,Gz z]
   ·have e:opL es (min hues es.length) ws t=p8 es hues ws t:=Ow (W.less ok.1 z);unfold clF;rw[e,Ew l ws t (p8 es hues ws t) W ok.2 ok.1 z λh hh=>hh]
theorem Ew{es:EE}{hues:Nat}:∀(l:List Bau) (ws:Way) (t:Nat) (hs:List Nat),WayOk es hues ws->AD es.length l->t<es.length->t∉ws.map (·.1)->(∀ h∈hs,h∈p8 es hues ws t)->BA (opL es (min hues es.length)) l ws t hs=BA (p8 es hues) l ws t hs
 | [],ws,t,hs,_,_,_,_,_=>by unfold BA;rfl
 | x::l,ws,t,[],_,_,_,_,_=>by unfold BA;rfl
 | x::l,ws,t,y::hs,W,ok,ht,hn,hh=>by
   unfold AD at ok;unfold BA;rw[HA x (ws++[(t,y)]) (W.snoc ht hn (hh y (RD ..))) ok.1,Ew l ws t hs W ok.2 ht hn λh m=>hh h (R3 _ m)]
end
theorem HB:∀(ws:Way) (t:Nat),(Bo (m8 ws) (t:Int)).isSome=decide (t∈ws.map (·.1))
 | [],t=>rfl
 | a::F,t=>by
   have ih:=HB F t;unfold Bo m8 at ih ⊢;rw[RK,SC];by_cases z:a.1=t
   ·subst z;simp
   ·have z':decide ((a.1:Int)=(t:Int))=false:=decide_eq_false λh=>z (SF.mp h);rw[z',ih,decide_eq_decide,RK,R0];exact⟨.inr,λh=>h.resolve_left λe=>z e.symm⟩
theorem Mj{ws:Way}{t h:Nat}(hn:t∉ws.map (·.1)):CC (m8 ws) (t:Int) (.int (h:Nat))=m8 (ws++[(t,h)]):=by
 unfold CC;rw[iG]
 ·unfold m8;rw[R9];rfl
 ·intro z;rw[SW]at z;obtain⟨p,hp,e⟩:=z;obtain⟨u,hu,rfl⟩:=RI.mp hp;have e:(u.1:Int)=(t:Int):=of_decide_eq_true e;exact hn (RI.mpr ⟨u,hu,SF.mp e⟩)
section
variable{Δ:Nat->Sn}
noncomputable def HC(s:Sn):Prop:=∀{a b:SV} {S:Sto} {Q:QE},Q (.bl true) S->s [.tup [a,b]] S Q
theorem Ox{D:Df}(hb:D.body=bPr)(hN:D.N.length=1)(hp:D.ps.length=1):HC (j0 Δ D):=by
 intro a b S Q q;unfold j0;rw[hb,hN];exact⟨hp.symm,_,rfl,_,nofun,rfl,_,rfl,ifT rfl ⟨_,rfl,_,rfl,q⟩⟩
noncomputable def cz1(kp:Nat):Stm:=(.iff (.or (.not (.call kp (.cons (.var 4) .nil))) (.not (.bi .isi (.cons (.ix (.var 4) (.c (.int 1))) (.cons (.tyc .tuple) .nil))))) [(.ret (.c (.bl false)))] [])
noncomputable def cz2:Stm:=(.asg (.tup (.cons (.nm 5) (.cons (.nm 6) .nil))) (.var 4))
noncomputable def cz3(kt:Nat):Stm:=(.iff (.or (.not (.call kt (.cons (.var 0) (.cons (.var 5) .nil)))) (.din false (.var 5) (.var 3))) [(.ret (.c (.bl false)))] [])
noncomputable def cz4(ko:Nat):Stm:=(.asg (.nm 7) (.call ko (.cons (.var 0) (.cons (.var 1) (.cons (.var 2) (.cons (.var 3) (.cons (.var 5) .nil)))))))
noncomputable def cz5:Stm:=(.iff (.cmp .NotEq (.bi .len (.cons (.var 6) .nil)) (.bi .len (.cons (.var 7) .nil))) [(.ret (.c (.bl false)))] [])
noncomputable def cz6(kc:Nat):Stm:=(.loop (.tup (.cons (.nm 8) (.cons (.nm 9) .nil))) (.zipE (.var 7) (.var 6)) [(.asg (.nm 10) (.dcopy (.var 3))),(.dput (.var 10) (.var 5) (.var 8)),(.iff (.not (.call kc (.cons (.var 0) (.cons (.var 1) (.cons (.var 2) (.cons (.var 10) (.cons (.var 9) .nil))))))) [(.ret (.c (.bl false)))] [])])
noncomputable def HD(kp kt ko kc:Nat):List Stm:=[cz1 kp,cz2,cz3 kt,cz4 ko,cz5,cz6 kc,(.ret (.c (.bl true)))]
noncomputable def BS(s:Sn)(T:Bau):Prop:=∀{n j m k K:Nat} {es:EE} {ws:Way} {S:Sto} {Q:QE},S[k]?=some (.dct (m8 ws))->S[j]?=some (.lst (RA es.length (.loc m)))->S[m]?=some (.lst (natS (Qy K)))->ws.length+dp T<=800->K<=900->(∀ p∈ws,p.1<es.length)->v9 es.length T->(∀ S',On k S S'->CD (.loc k) S'=some (m8 ws)->Q (.bl (clF (opL es K) T ws)) S')->s [i4 n es,.loc j,.bl true,.loc k,enc T] S Q
theorem Ey(hΔ:∀ f,MonoN (Δ f)){kp kt ko kc:Nat}(hpr:HC (Δ kp))(hti:InG (Δ kt) λ_ es=>es.length)(hop:Fw (Δ ko)){D:Df}(hb:D.body=HD kp kt ko kc)(hN:D.N.length=11)(hp:D.ps.length=5){t:Nat}{l:List Bau}(hc:∀ T∈l,BS (Δ kc) T):BS (j0 Δ D) (.nd t l):=by
 intro n j m k K es ws S Q hk hj hm hl hK tl ok q;unfold j0;rw[hb,hN];have ok':=ok;unfold v9 at ok;unfold enc;have dl:dps l+1+ws.length<=800:=by unfold dp at hl;omega
 refine⟨hp.symm,_,rfl,hpr ⟨_,rfl,ifF rfl ⟨_,rfl,_,_,rfl,rfl,_,nofun,rfl,_,rfl,ifF rfl (j6 ⟨_,rfl,?_⟩)⟩⟩⟩;show wSs Δ [cz3 kt,cz4 ko,cz5,cz6 kc,(.ret (.c (.bl true)))] (k9 Q) [some (i4 n es),some (.loc j),some (.bl true),some (.loc k),some (.tup [.int (t:Nat),.tup (n8 l)]),some (.int (t:Nat)),some (.tup (n8 l)),none,none,none,none] S
 have dk:CD (.loc k) S=some (m8 ws):=by
  show(match S[k]? with | some (SO.dct kvs)=>some kvs | some (SO.dcf _ _ kvs)=>some kvs | _=>none)=_;rw[hk]
 have kl:k<S.length:=(gM hk).1;refine⟨_,rfl,_,rfl,hti ⟨_,rfl,ifF ?_ ⟨_,rfl,_,rfl,m8 ws,t,dk,rfl,_,rfl,?_⟩⟩⟩
 ·rw[decide_eq_true (show(0:Int)<=(t:Nat) by omega),decide_eq_true (show((t:Nat):Int)<(es.length:Nat) by omega)];rfl
 show if (Bo (m8 ws) (t:Int)).isSome=true then _ else _
 rw[HB];refine ifD (λz=>?_) (λz=>j6 ?_)
 ·have:=q S (On.refl k S) dk;rw[Gz z]at this;exact this
 refine⟨_,rfl,_,rfl,_,rfl,_,rfl,_,rfl,hop hk hj hm (by omega) hK tl ok.1 λh S1 O1 d1 nh h1=>?_⟩;show wSs Δ [cz5,cz6 kc,(.ret (.c (.bl true)))] (k9 Q) [some (i4 n es),some (.loc j),some (.bl true),some (.loc k),some (.tup [.int (t:Nat),.tup (n8 l)]),some (.int (t:Nat)),some (.tup (n8 l)),some (.loc h),none,none,none] S1;refine⟨_,rfl,_,rfl,_,rfl,_,f6 h1,_,rfl,?_⟩;show if (!decide (((n8 l).length:Int)=((natS (opL es K ws t)).length:Nat)))=true then _ else _
 rw[w4,g6];by_cases zl:l.length=(opL es K ws t).length
 case neg=>
  refine ifT (by rw[decide_eq_false (λy=>zl (SF.mp y))];rfl) ?_;have:=q S1 O1 d1;rw[Ku zl]at this;exact this
 refine ifF (by rw[decide_eq_true (show((l.length:Nat):Int)=((opL es K ws t).length:Nat) by rw[zl])];rfl) (j6 ?_);rw[Fx z zl]at q;have jk:j≠k:=λe=>by rw[e,hk]at hj;cases hj
 have mk:m≠k:=λe=>by rw[e,hk]at hm;cases hm
 generalize opL es K ws t=hs at *;refine⟨_,rfl,_,rfl,h,natS hs,n8 l,rfl,h1,rfl,by rw[g6,w4,zl],?_⟩
 refine Bu (j5 hΔ _) (λi ρ S2=>∃ o8 o9 o10:Option SV,ρ=[some (i4 n es),some (.loc j),some (.bl true),some (.loc k),some (.tup [.int (t:Nat),.tup (n8 l)]),some (.int (t:Nat)),some (.tup (n8 l)),some (.loc h),o8,o9,o10]/\On k S1 S2/\CD (.loc k) S2=some (m8 ws)/\∀(i':Nat) (T:Bau) (x:Nat),i'<i->l[i']?=some T->hs[i']?=some x->clF (opL es K) T (ws++[(t,x)])=true)
  ⟨_,_,_,rfl,On.refl k S1,d1,λ_ _ _ h=>absurd h (SM _)⟩ (λ_ _ S2 z=>by obtain⟨_,_,_,_,O,_⟩:=z;show S2[h]?=S1[h]?;rw[O.keep _ _ nh h1,h1]) ?_ ?_
 ·rintro i x ρ S2 E hE hrt hx ⟨o8,o9,o10,rfl,O2,d2,al⟩;obtain⟨y,u,hy,hu,rfl⟩:=DW hx;obtain⟨hue,hh,rfl⟩:=y8 hy;obtain⟨T,hT,rfl⟩:=Di hu;have mT:=R1 hT;have tk:=(trs_at.mp ok.2) T mT;have dT:=(dps_at (d:=dps l)).mp (Qs _) T mT;refine⟨_,rfl,m8 ws,d2,_,rfl,_,rfl,_,rfl,S2.length,t,m8 ws,rfl,rfl,.inl e5,by unfold m8;rw[Qr];show _<100000;omega,?_⟩;rw[Mj z]
  have e3:(S2++[SO.dct (m8 ws)]).set S2.length (.dct (m8 (ws++[(t,hue)])))=S2++[SO.dct (m8 (ws++[(t,hue)]))]:=by
   rw[List.set_append_right _ _ (Qs _),UL];rfl
  rw[e3];have G3:Gw S2 (S2++[SO.dct (m8 (ws++[(t,hue)]))]):=(Gw.refl S2).push;refine⟨_,rfl,_,rfl,_,rfl,_,rfl,_,rfl,hc T mT e5 (G3.keep _ _ (O2.keep _ _ jk (O1.keep _ _ jk hj))) (G3.keep _ _ (O2.keep _ _ mk (O1.keep _ _ mk hm))) (by rw[Qv,RS];omega) hK (λp hp=>?_) tk λS4 O4 d4=>⟨_,rfl,?_⟩⟩
  ·rcases RF.mp hp with hp | hp
   ·exact tl p hp
   ·rw[Qu.mp hp];exact ok.1
  have G4:Gw S2 S4:=⟨RE G3.len O4.len,λi o ho=>O4.keep _ _ (by have:=(gM ho).1;omega) (G3.keep _ _ ho)⟩
  have d4':CD (.loc k) S4=some (m8 ws):=by
   have d2':(match S2[k]? with | some (SO.dct kvs)=>some kvs | some (SO.dcf _ _ kvs)=>some kvs | _=>none)=some (m8 ws):=d2;show(match S4[k]? with | some (SO.dct kvs)=>some kvs | some (SO.dcf _ _ kvs)=>some kvs | _=>none)=_;cases e:S2[k]? with
   | none=>rw[e]at d2';cases d2'
   | some o=>rw[G4.keep _ _ e,<-e];exact d2'
  cases v:clF (opL es K) T (ws++[(t,hue)]) with
  | false=>
    refine ifT rfl (hrt _ _ ?_);have qq:=q S4 (O1.trans (O2.trans G4.on)) d4'
    have nf:BA (opL es K) l ws t hs=false:=by
     cases c:BA (opL es K) l ws t hs with
     | false=>rfl
     | true=>rw[cls_iff.mp c i T hue hT hh]at v;cases v
    rw[nf]at qq;exact qq
  | true=>
    refine ifF rfl (j6 (hE _ _ ⟨_,_,_,rfl,O2.trans G4.on,d4',λi' T' x' hi hT' hx'=>?_⟩));rcases SU i' i with y | y
    ·exact al i' T' x' y hT' hx'
    ·have:i'=i:=by omega
     subst this;rw[hT]at hT';rw[hh]at hx';cases hT';cases hx';exact v
 ·rintro ρ S2 ⟨o8,o9,o10,rfl,O2,d2,al⟩;have qq:=q S2 (O1.trans O2) d2
  have yf:BA (opL es K) l ws t hs=true:=cls_iff.mpr λi T x hT hx=>al i T x (by
   rw[DX (by rw[g6,w4,zl]),g6];exact(gM hx).1) hT hx
  rw[yf]at qq;exact qq
noncomputable def eKs(j:Nat):Ex := .comp ["_law_k","_law_hue"] [] [] (.tup (.cons (.nm 0) (.cons (.nm 1) .nil))) (.seq (.var j)) .no (.var 0)
theorem ND(hΔ:∀ f,MonoN (Δ f)){j w:Nat}{ρ:EnvS}{ws:Way}{S:Sto}{Q:QE}(hj:ρ[j]?=some (some (.loc w)))(hw:S[w]?=some (.lst (ws.map pairS)))(hl:ws.length<=900)(q:Q (.loc S.length) (S++[.lst (natS (ws.map (·.1)))])):(wEx Δ (eKs j)).1 ρ S Q:=
 ⟨_,hj,_,f6 hw,CQ hΔ (f:=(·.1)) hl rfl (λp=>rfl) q⟩
noncomputable def tr1:Stm:=(.iff (.or (.not (.bi .isi (.cons (.var 3) (.cons (.tyc .tuple) .nil)))) (.or (.cmp .NotEq (.bi .len (.cons (.var 3) .nil)) (.c (.int 2))) (.not (.bi .isi (.cons (.ix (.var 3) (.c (.int 1))) (.cons (.tyc .tuple) .nil)))))) [(.ret (.c (.bl false)))] [])
noncomputable def tr2:Stm:=(.asg (.nm 4) (.ix (.var 3) (.c (.int 0))))
noncomputable def tr3(kn:Nat):Stm:=(.iff (.or (.not (.call kn (.cons (.var 4) .nil))) (.or (.not (.chn .LtE .Lt (.c (.int 0)) (.var 4) (.bi .len (.cons (.ix (.var 0) (.c (.int 1))) .nil)))) (.cmp .In (.var 4) (eKs 2)))) [(.ret (.c (.bl false)))] [])
noncomputable def tr4(kt:Nat):Stm:=(.asg (.nm 5) (.call kt (.cons (.var 0) (.cons (.var 1) (.cons (.var 2) (.cons (.var 4) .nil))))))
noncomputable def tr5:Stm:=(.iff (.cmp .NotEq (.bi .len (.cons (.ix (.var 3) (.c (.int 1))) .nil)) (.bi .len (.cons (.var 5) .nil))) [(.ret (.c (.bl false)))] [])
noncomputable def tr6(kc:Nat):Stm:=(.ret (.bi .all (.cons (.comp ["_law_hue","_law_more_here"] ["_law_web_here","_law_hues","_law_way","_law_tie"] [0,1,2,4] (.tup (.cons (.nm 0) (.cons (.nm 1) .nil))) (.zipE (.var 5) (.ix (.var 3) (.c (.int 1)))) .no (.call kc (.cons (.var 2) (.cons (.var 3) (.cons (.op .Add (.var 4) (.lst (.cons (.tup (.cons (.var 5) (.cons (.var 0) .nil))) .nil))) (.cons (.var 1) .nil)))))) .nil)))
noncomputable def Kv(kn kt kc:Nat):List Stm:=[tr1,tr2,tr3 kn,tr4 kt,tr5,tr6 kc]
noncomputable def Fy(s:Sn)(T:Bau):Prop:=∀{n w hues:Nat} {es:EE} {ws:Way} {S:Sto} {Q:QE},S[w]?=some (.lst (ws.map pairS))->ws.length+dp T<=800->(∀ p∈ws,p.1<es.length)->v9 es.length T->(∀ S',Gw S S'->Q (.bl (clF (p8 es hues) T ws)) S')->s [i4 n es,.int (hues:Nat),.loc w,enc T] S Q
theorem HE(es:EE)(hues:Nat)(ws:Way)(t:Nat):(p8 es hues ws t).length<=ws.length+1:=by
 unfold p8;have:=Fv ws;refine RE (RY ..) ?_;rw[Rb];omega
theorem CS{w:Nat}{ws:Way}{t h:Nat}{S:Sto}(hw:S[w]?=some (.lst (ws.map pairS))):((S++[SO.lst [.tup [.int (t:Nat),.int (h:Nat)]]])++[SO.lst (ws.map pairS++[.tup [.int (t:Nat),.int (h:Nat)]])])[(S++[SO.lst [.tup [.int (t:Nat),.int (h:Nat)]]]).length]?=some (.lst ((ws++[(t,h)]).map pairS)):=by
 rw[e5,R9];rfl
theorem IY(hΔ:∀ f,MonoN (Δ f)){kn kt kc:Nat}(hn:Bv (Δ kn))(htr:BR (Δ kt)){D:Df}(hb:D.body=Kv kn kt kc)(hN:D.N.length=6)(hp:D.ps.length=4){t:Nat}{l:List Bau}(hc:∀ T∈l,Fy (Δ kc) T):Fy (j0 Δ D) (.nd t l):=by
 intro n w hues es ws S Q hw hl tl ok q;unfold j0;rw[hb,hN];unfold v9 at ok;unfold enc;have dl:dps l+1+ws.length<=800:=by unfold dp at hl;omega
 refine⟨hp.symm,_,rfl,_,nofun,rfl,_,rfl,ifF rfl ⟨_,rfl,_,rfl,_,rfl,ifF rfl ⟨_,rfl,_,_,rfl,rfl,_,nofun,rfl,_,rfl,ifF rfl (j6 ⟨_,rfl,_,_,rfl,rfl,?_⟩)⟩⟩⟩;show wSs Δ [tr3 kn,tr4 kt,tr5,tr6 kc] (k9 Q) [some (i4 n es),some (.int (hues:Nat)),some (.loc w),some (.tup [.int (t:Nat),.tup (n8 l)]),some (.int (t:Nat)),none] S;refine⟨_,rfl,hn ⟨_,rfl,ifF rfl ⟨_,rfl,_,rfl,?_⟩⟩⟩;refine ifD (λ_=>⟨_,rfl,_,_,rfl,rfl,_,rfl,_,rfl,?_⟩) (λz=>absurd (show(0:Int)<=(t:Nat) by omega) z);show if (!decide (((t:Nat):Int)<((es.map pairS).length:Nat)))=true then _ else _
 rw[Qr,decide_eq_true (show((t:Nat):Int)<(es.length:Nat) by omega)];refine ifF rfl ⟨_,rfl,ND hΔ rfl hw (by omega) ?_⟩;show match BG (.loc S.length) (S++[SO.lst (natS (ws.map (·.1)))]) with | some ms=>_ | none=>_
 rw[BP e5];refine⟨rfl,_,f6 e5,Ay _,_,rfl,?_⟩;show if inS (.int t) (natS (ws.map (·.1)))=true then _ else _
 rw[De];have G1:Gw S (S++[SO.lst (natS (ws.map (·.1)))]):=(Gw.refl S).push;generalize S++[SO.lst (natS (ws.map (·.1)))]=S1 at *;refine ifD (λz=>?_) (λz=>j6 ?_)
 ·have:=q S1 G1;rw[Gz z]at this;exact this
 refine⟨_,rfl,_,rfl,_,rfl,_,rfl,htr (G1.keep _ _ hw) (by omega) tl ok.1 λa S2 G2 _ h2=>?_⟩;show wSs Δ [tr5,tr6 kc] (k9 Q) [some (i4 n es),some (.int (hues:Nat)),some (.loc w),some (.tup [.int (t:Nat),.tup (n8 l)]),some (.int (t:Nat)),some (.loc a)] S2;refine⟨_,rfl,_,_,rfl,rfl,_,rfl,_,rfl,_,f6 h2,_,rfl,?_⟩;show if (!decide (((n8 l).length:Int)=((natS (p8 es hues ws t)).length:Nat)))=true then _ else _
 rw[w4,g6];have G12:=G1.trans G2;by_cases zl:l.length=(p8 es hues ws t).length
 case neg=>
  refine ifT (by rw[decide_eq_false (λy=>zl (SF.mp y))];rfl) ?_;have:=q S2 G12;rw[Ku zl]at this;exact this
 refine ifF (by rw[decide_eq_true (show((l.length:Nat):Int)=((p8 es hues ws t).length:Nat) by rw[zl])];rfl) (j6 ?_);rw[Fx z zl]at q;have tln:=HE es hues ws t;have inT:∀ h∈p8 es hues ws t,True:=λ_ _=>trivial;generalize p8 es hues ws t=hs at *;refine⟨_,rfl,_,rfl,_,_,rfl,rfl,a,natS hs,n8 l,rfl,h2,rfl,by rw[g6,w4,zl],?_⟩;have zlen:(E5 (natS hs) (n8 l)).length=hs.length:=by rw[DX (by rw[g6,w4,zl]),g6]
 refine Kk hΔ (λi=>match l[i]?,hs[i]? with | some T,some h=>clF (p8 es hues) T (ws++[(t,h)]) | _,_=>true) (by rw[zlen];omega) (λS' G=>by show S'[a]?=S2[a]?;rw[G.keep _ _ h2,h2]) ?_ ?_
 ·intro i x S3 hx G3;obtain⟨y,u,hy,hu,rfl⟩:=DW hx;obtain⟨hue,hh,rfl⟩:=y8 hy;obtain⟨T,hT,rfl⟩:=Di hu;have mT:=R1 hT;have dT:=(dps_at (d:=dps l)).mp (Qs _) T mT;have hw3:=G3.keep _ _ (G12.keep _ _ hw);refine⟨_,rfl,_,rfl,_,rfl,_,rfl,_,rfl,by show 2<=100000;decide,by show 1<=100000;decide,_,_,i6 hw3,e5,by rw[Qr];show _<=100000;simp;omega,_,rfl,hc T mT (CS hw3) (by rw[Qv,RS];omega) (λp hp=>?_) ((trs_at.mp ok.2) T mT) λS4 G4=>⟨?_,(G3.push.push).trans G4⟩⟩
  ·rcases RF.mp hp with hp | hp
   ·exact tl p hp
   ·rw[Qu.mp hp];exact ok.1
  ·rw[hT,hh]
 ·intro S3 G3;refine⟨_,_,nofun,f6 e5,Mf _ _,?_⟩;have qq:=q _ ((G12.trans G3).push (o:=SO.lst ((Qy (E5 (natS hs) (n8 l)).length).map λi => .bl (match l[i]?,hs[i]? with | some T,some h=>clF (p8 es hues) T (ws++[(t,h)]) | _,_=>true))));refine(show ∀ b b':Bool,b=b'->Q (.bl b') _->Q (.bl b) _ from λb b' e h=>e▸h) _ _ ?_ qq;refine RZ.mpr ?_;rw[Kj,cls_iff,zlen];constructor
  ·intro f i T h hT hh;have:=f i (gM hh).1;rw[hT,hh]at this;exact this
  ·intro f i hi;have hh:=R4 hi;have hT:=R4 (show i<l.length by omega);rw[hT,hh];exact f i _ _ hT hh
theorem Ez:∀{ns:List Int} {m:Int},m∈ns->∃ j:Nat,ns[j]?=some m/\∀ i,i<j->ns[i]?≠some m
 | x::ns,m,h=>by
   by_cases z:x=m
   ·exact⟨0,by rw[z];rfl,λi hi=>absurd hi (SM _)⟩
   ·obtain⟨j,a,b⟩:=Ez (ns:=ns) ((R0.mp h).resolve_left λe=>z e.symm);refine⟨j+1,a,λi hi=>?_⟩;cases i with
    | zero=>exact λe=>z (oj e)
    | succ i=>exact b i (by omega)
noncomputable def Aa(es:EE)(ws:Way):List Nat:=(Qy es.length).filter λt=>decide (t∉ws.map (·.1))
theorem mem_bare{es:EE}{ws:Way}{t:Nat}:t∈Aa es ws↔t<es.length/\t∉ws.map (·.1):=by
 unfold Aa;rw[SL,RP,dQ]
theorem F0(es:EE)(ws:Way):(Aa es ws).length<=es.length:=by
 unfold Aa;refine RE (RY ..) ?_;rw[Rb];exact Qs _
noncomputable def Kw(v j:Nat):Ex := .comp ["_law_tie"] ["_law_way"] [j] (.nm 0) (.rng1 (.bi .len (.cons (.ix (.var v) (.c (.int 1))) .nil))) (.yes (.cmp .NotIn (.var 0) (eKs 1))) (.var 0)
theorem HF(hΔ:∀ f,MonoN (Δ f)){n v j w:Nat}{ρ:EnvS}{es:EE}{ws:Way}{S:Sto}{Q:QE}(hv:ρ[v]?=some (some (i4 n es)))(hj:ρ[j]?=some (some (.loc w)))(hw:S[w]?=some (.lst (ws.map pairS)))(hl:ws.length<=900)(he:es.length<=900)(q:∀(l:Nat) (S':Sto),Gw S S'->S'[l]?=some (.lst (natS (Aa es ws)))->Q (.loc l) S'):(wEx Δ (Kw v j)).1 ρ S Q:=by
 have ee:(es.map pairS).length=es.length:=Qr ..;refine⟨_,hv,_,_,rfl,rfl,_,rfl,_,rfl,⟨by rw[ee];omega,by rw[ee];omega⟩,?_⟩;rw[ee,Dc];refine i5 (i9 hΔ _).2 (c7 hΔ _).1 (λi ys S'=>Gw S S'/\ys=natS (((Qy es.length).take i).filter λt=>decide (t∉ws.map (·.1)))) ⟨Gw.refl _,rfl⟩ (λ_ _ _ _=>trivial) ?_ ?_
 ·rintro i x ys S' hx ⟨G,rfl⟩;obtain⟨h,hh,rfl⟩:=y8 hx;have hi:=(gM hh).1;rw[Rb]at hi;refine⟨_,rfl,ND hΔ (j:=1) (by show(some ((ρ[j]?).join))=_;rw[hj];rfl) (G.keep _ _ hw) hl ?_⟩;show match BG (.loc S'.length) (S'++[SO.lst (natS (ws.map (·.1)))]) with | some ms=>_ | none=>_
  rw[BP e5];refine⟨rfl,_,f6 e5,Ay _,_,rfl,?_⟩;show if (!inS (.int h) (natS (ws.map (·.1))))=true then _ else _
  rw[De];have e3:=BQ (P:=λt=>decide (t∉ws.map (·.1))) (Qy es.length) i h hh
  have fl:(((Qy es.length).take i).filter λt=>decide (t∉ws.map (·.1))).length<=i:=by
   refine RE (RY ..) ?_;rw[RL];omega
  by_cases z:h∈ws.map (·.1)
  ·exact ifF (by rw[decide_eq_true z];rfl) ⟨G.push,by rw[e3,iG (by simpa using z),Rg]⟩
  ·exact ifT (by rw[decide_eq_false z];rfl) ⟨_,rfl,by rw[g6];show _<100000;omega,G.push,by rw[e3,iP (by simpa using z),AB];rfl⟩
 ·rintro ys S' ⟨G,rfl⟩;have e4:(natS (Qy es.length)).length=(Qy es.length).length:=g6;rw[e4,RV];exact q _ _ G.push e5
end
theorem Kx{α:Type}{xs:List α}{a b:α}{j:Nat}(h:(xs++[a])[j]?=some b):(j=xs.length/\b=a)\/xs[j]?=some b:=by
 rcases SU j xs.length with z | z
 ·rw[R6 z]at h;exact .inr h
 ·have e:j=xs.length:=by
   have:=(gM h).1;rw[Qv,RS]at this;omega
  subst e;rw[RM (Qs _),UL]at h;cases h;exact .inl ⟨rfl,rfl⟩
theorem Bg{xs:List SV}{i:Nat}:BJ xs none (some (i:Int))=xs.take i:=by
 unfold BJ;rw[HT.sIx_nat,HT.sIx_none,List.drop_zero,UJ];rcases Nat.le_total i xs.length with z | z
 ·rw[Nat.min_eq_left z]
 ·rw[Nat.min_eq_right z,RV,TQ z]
section
variable{Δ:Nat->Sn}
noncomputable def cn2:Stm:=(.iff (.cmp .Eq (.var 3) (.lst .nil)) [(.ret (.c (.bl true)))] [])
noncomputable def cn3(ka:Nat):Stm:=(.asg (.nm 4) (.comp ["_law_tie"] ["_law_web_here","_law_way"] [0,2] (.nm 0) (.seq (.var 3)) .no (.lenset (.call ka (.cons (.var 1) (.cons (.var 2) (.cons (.var 0) .nil)))))))
noncomputable def cn4:Stm:=(.asg (.nm 5) (.ix (.var 3) (.mt .index (.var 4) (.cons (.max1 (.var 4)) .nil))))
noncomputable def cn5(kt kc:Nat):Stm:=(.loop (.nm 6) (.seq (.call kt (.cons (.var 0) (.cons (.var 1) (.cons (.var 2) (.cons (.var 5) .nil)))))) [(.iff (.call kc (.cons (.var 0) (.cons (.var 1) (.cons (.op .Add (.var 2) (.lst (.cons (.tup (.cons (.var 5) (.cons (.var 6) .nil))) .nil))) .nil)))) [(.ret (.c (.bl true)))] [])])
noncomputable def QN(ka kt kc:Nat):List Stm:=[(.asg (.nm 3) (Kw 0 2)),cn2,cn3 ka,cn4,cn5 kt kc,(.ret (.c (.bl false)))]
noncomputable def HH(s:Sn)(d:Nat):Prop:=∀{n w hues:Nat} {es:EE} {ws:Way} {S:Sto} {Q:QE},S[w]?=some (.lst (ws.map pairS))->WayOk es hues ws->Cano ws->es.length<=800->es.length - ws.length<=d->(∀(b:Bool) (S':Sto),Gw S S'->(Ext es hues ws->b=true)->Q (.bl b) S')->s [i4 n es,.int (hues:Nat),.loc w] S Q
theorem BT(hΔ:∀ f,MonoN (Δ f)){ka:Nat}(ha:AC (Δ ka)){n w b:Nat}{es:EE}{ws:Way}{B:List Nat}{S:Sto}{e:Ex}{g:Nat->SV}{Q:List SV->Sto->Prop}(hw:S[w]?=some (.lst (ws.map pairS)))(hl:ws.length<=900)(tl:∀ p∈ws,p.1<es.length)(hB:∀ t∈B,t<es.length)(hb:S[b]?=some (.lst (natS B)))(hBl:B.length<=900)
 (he:∀(t:Nat) (S':Sto) (R:QE),t<es.length->Gw S S'->(∀ S2,Gw S S2->R (g t) S2)->(wEx Δ e).1 [some (.int (t:Nat)),some (i4 n es),some (.loc w)] S' R) (q:∀ S',Gw S S'->Q (B.map g) S'):j9 (Ap (.loc b) S) (.nm 0) (wEo Δ .no).2 (wEx Δ e).1 [none,some (i4 n es),some (.loc w)] Q (natS B) [] S:=by
 refine i5 (i9 hΔ _).2 (c7 hΔ _).1 (λi ys S'=>Gw S S'/\ys=(B.take i).map g) ⟨Gw.refl S,rfl⟩ (λ_ _ S' h=>by show S'[b]?=S[b]?;rw[h.1.keep _ _ hb,hb]) ?_ ?_
 ·rintro i x ys S' hx ⟨G,rfl⟩;obtain⟨t,ht,rfl⟩:=y8 hx;have hi:=(gM ht).1;refine he t S' _ (hB t (R1 ht)) G λS2 G2=>⟨by rw[Qr,RL];show _<100000;omega,G2,?_⟩
  rw[SJ,ht,Rp,R9];rfl
 ·rintro ys S' ⟨G,rfl⟩;rw[g6,RV];exact q S' G
theorem Ky{ka:Nat}(ha:AC (Δ ka)){n w t:Nat}{es:EE}{ws:Way}{S:Sto}{R:QE}(hw:S[w]?=some (.lst (ws.map pairS)))(hl:ws.length<=900)(tl:∀ p∈ws,p.1<es.length)(ht:t<es.length)(q:∀ S2,Gw S S2->R (.int ((t5 (iN (arL es ws t))).length:Nat)) S2):(wEx Δ (.lenset (.call ka (.cons (.var 1) (.cons (.var 2) (.cons (.var 0) .nil)))))).1 [some (.int (t:Nat)),some (i4 n es),some (.loc w)] S R:=by
 have al:=CP es ws t;exact⟨_,rfl,_,rfl,_,rfl,ha hw hl tl ht ⟨_,_,nofun,f6 e5,Dg _,by unfold iN;rw[Qr];omega,q _ (Gw.refl S).push⟩⟩
theorem F1(hΔ:∀ f,MonoN (Δ f)){ka kt kc:Nat}(ha:AC (Δ ka))(htr:BR (Δ kt)){D:Df}(hb:D.body=QN ka kt kc)(hN:D.N.length=7)(hp:D.ps.length=3){d:Nat}(hc:∀ d',d=d'+1->HH (Δ kc) d'):HH (j0 Δ D) d:=by
 intro n w hues es ws S Q hw Wk C hel hd q;unfold j0;rw[hb,hN];have wl:=Wk.len;have tl:∀ p∈ws,p.1<es.length:=λp hp=>(Wk.lt p hp).1;refine⟨hp.symm,HF hΔ rfl rfl hw (by omega) (by omega) λb S1 G1 h1=>?_⟩;have hbm:∀ t∈Aa es ws,t<es.length/\t∉ws.map (·.1):=λt ht=>mem_bare.mp ht;have bl:=F0 es ws;show wSs Δ [cn2,cn3 ka,cn4,cn5 kt kc,(.ret (.c (.bl false)))] (k9 Q) [some (i4 n es),some (.int (hues:Nat)),some (.loc w),some (.loc b),none,none,none] S1;refine⟨_,rfl,by show 0<=100000;decide,_,_,i6 h1,e5,.inr (.inr rfl),_,rfl,?_⟩;rw[Es];refine ifB (λz=>q true _ G1.push λ_=>rfl) (λz=>j6 ?_)
 have bpos:0<(Aa es ws).length:=by
  cases e:Aa es ws with
  | nil=>rw[e]at z;cases z
  | cons _ _=>simp
 generalize Aa es ws=B at *;have G2:=G1.push (o:=SO.lst []);have h2:=i6 (o:=SO.lst []) h1;generalize S1++[SO.lst []]=S2 at *;refine⟨_,rfl,_,f6 h2,?_⟩;refine BT hΔ ha (G2.keep _ _ hw) (by omega) tl (λt ht=>(hbm t ht).1) h2 (by omega) (g:=λt => .int ((t5 (iN (arL es ws t))).length:Nat)) (λt S' R ht G k=>Ky ha ((G2.trans G).keep _ _ hw) (by omega) tl ht λS3 G3=>k S3 (G.trans G3)) λS3 G3=>?_;have ec:B.map (λt=>SV.int ((t5 (iN (arL es ws t))).length:Nat))=(iN (B.map λt=>(t5 (iN (arL es ws t))).length)).map SV.int:=by unfold iN;rw[Sf,Sf];rfl
 rw[ec];have G4:=(G2.trans G3).push (o:=SO.lst ((iN (B.map λt=>(t5 (iN (arL es ws t))).length)).map SV.int));have h4:(S3++[SO.lst ((iN (B.map λt=>(t5 (iN (arL es ws t))).length)).map SV.int)])[S3.length]?=some (.lst ((iN (B.map λt=>(t5 (iN (arL es ws t))).length)).map SV.int)):=e5;have h4b:=i6 (o:=SO.lst ((iN (B.map λt=>(t5 (iN (arL es ws t))).length)).map SV.int)) (G3.keep _ _ h2);have cl:(iN (B.map λt=>(t5 (iN (arL es ws t))).length)).length=B.length:=by unfold iN;rw[Qr,Qr]
 show wSs Δ [cn4,cn5 kt kc,(.ret (.c (.bl false)))] (k9 Q) [some (i4 n es),some (.int (hues:Nat)),some (.loc w),some (.loc b),some (.loc S3.length),none,none] _;generalize S3.length=c at *;generalize S3++[SO.lst ((iN (B.map λt=>(t5 (iN (arL es ws t))).length)).map SV.int)]=S4 at *;generalize iN (B.map λt=>(t5 (iN (arL es ws t))).length)=cs at *;refine⟨_,rfl,_,rfl,⟨_,_,rfl,h4⟩,_,rfl,c,cs,rfl,h4,by omega,λmx hmx=>?_⟩;obtain⟨jx,j1,j2⟩:=Ez hmx.1;have jl:=(gM j1).1;have jB:jx<B.length:=by omega
 have mB:=Rn jB;refine⟨cs,jx,h4,j1,j2,_,_,f6 h4b,l5 (Kh (R4 jB)),?_⟩;generalize B[jx]=t at *;obtain⟨ht,hn⟩:=hbm t mB;have less:=Wk.less ht hn;obtain⟨d',rfl⟩:∃ d',d=d'+1:=⟨d - 1,by omega⟩
 show wSs Δ [cn5 kt kc,(.ret (.c (.bl false)))] (k9 Q) [some (i4 n es),some (.int (hues:Nat)),some (.loc w),some (.loc b),some (.loc c),some (.int (t:Nat)),none] S4;refine⟨_,rfl,_,rfl,_,rfl,_,rfl,htr (G4.keep _ _ hw) (by omega) tl ht λa S5 G5 _ h5=>⟨_,f6 h5,?_⟩⟩;refine Bu (j5 hΔ _) (λi ρ S6=>∃ o6:Option SV,ρ=[some (i4 n es),some (.int (hues:Nat)),some (.loc w),some (.loc b),some (.loc c),some (.int (t:Nat)),o6]/\Gw S5 S6/\∀ h∈(p8 es hues ws t).take i,¬ Ext es hues (ws++[(t,h)])) ⟨_,rfl,Gw.refl _,λ_ h=>by simp at h⟩ (λ_ _ S6 h=>by obtain⟨_,_,G,_⟩:=h;show S6[a]?=S5[a]?;rw[G.keep _ _ h5,h5]) ?_ ?_
 ·rintro i x ρ S6 E hE hrt hx ⟨o6,rfl,G6,al⟩;obtain⟨h,hh,rfl⟩:=y8 hx;have mh:=R1 hh;have G46:=G4.trans (G5.trans G6);have hw6:=G46.keep _ _ hw;refine⟨_,rfl,_,rfl,_,rfl,_,rfl,_,rfl,by show 2<=100000;decide,by show 1<=100000;decide,_,_,i6 hw6,e5,by rw[Qr];show _<=100000;simp;omega,hc d' rfl (CS hw6) (Wk.snoc ht hn mh) (C.snoc (mem_tri.mp mh).2.1) hel (by rw[Qv,RS];omega) λv S7 G7 e7=>⟨_,rfl,?_⟩⟩;have G67:=G6.push.push.trans G7;cases v with
  | true=>exact ifT rfl (hrt _ _ (q true _ (G4.trans (G5.trans G67)) λ_=>rfl))
  | false=>
    refine ifF rfl (j6 (hE _ _ ⟨_,rfl,G67,λh' m=>?_⟩));rw[SJ,hh,Rp]at m;rcases RF.mp m with m | m
    ·exact al h' m
    ·rw[Qu.mp m];exact λx=>TL (e7 x)
 ·rintro ρ S6 ⟨o6,rfl,G6,al⟩;rw[g6,RV]at al;refine q false _ (G4.trans (G5.trans G6)) λx=>?_;obtain⟨h,m,y⟩:=Kr C Wk ht hn x;exact absurd y (al h m)
noncomputable def mt2(ka:Nat):Stm:=(.asg (.nm 5) (.comp ["_law_tie"] ["_law_web_here","_law_way"] [1,3] (.nm 0) (.seq (.var 4)) .no (.tup (.cons (.op .Sub (.c (.int 0)) (.lenset (.call ka (.cons (.var 1) (.cons (.var 2) (.cons (.var 0) .nil)))))) (.cons (.var 0) .nil)))))
noncomputable def mt3(kd:Nat):Stm:=(.asg (.nm 6) (.ix (.ix (.slc (.srtp (.var 5)) .no (.yes (.c (.int 2)))) (.op .Mod (.call kd (.cons (.var 0) (.cons (.c (.int 2)) .nil))) (.bi .len (.cons (.var 5) .nil)))) (.c (.int 1))))
noncomputable def mt4(kt:Nat):Stm:=(.asg (.nm 7) (.call kt (.cons (.var 1) (.cons (.var 2) (.cons (.var 3) (.cons (.var 6) .nil))))))
noncomputable def mt5(kc:Nat):Stm:=(.ret (.tup (.cons (.var 6) (.cons (.bi .tuple (.cons (.comp ["_law_hue"] ["_law_tape_here","_law_web_here","_law_hues","_law_way","_law_tie"] [0,1,2,3,6] (.nm 0) (.seq (.var 7)) .no (.call kc (.cons (.var 1) (.cons (.var 2) (.cons (.var 3) (.cons (.op .Add (.var 4) (.lst (.cons (.tup (.cons (.var 5) (.cons (.var 0) .nil))) .nil))) .nil)))))) .nil)) .nil))))
noncomputable def NE(kd ka kt kc:Nat):List Stm:=[(.asg (.nm 4) (Kw 1 3)),mt2 ka,mt3 kd,mt4 kt,mt5 kc]
noncomputable def Fz(s:Sn)(d:Nat):Prop:=∀{p n w hues:Nat} {es:EE} {ws:Way} {S:Sto} {Q:QE},TapeS S p->S[w]?=some (.lst (ws.map pairS))->w≠p->WayOk es hues ws->es.length<=60->es.length - ws.length<=d->¬ Ext es hues ws->(∀(T:Bau) (S':Sto),TapeS S' p->On p S S'->v9 es.length T->dp T<=d->clF (p8 es hues) T ws=true->Q (enc T) S')->s [.loc p,i4 n es,.int (hues:Nat),.loc w] S Q
theorem D5(hΔ:∀ f,MonoN (Δ f)){kd ka kt kc:Nat}(hdr:u9 (Δ kd))(ha:AC (Δ ka))(htr:BR (Δ kt)){D:Df}(hb:D.body=NE kd ka kt kc)(hN:D.N.length=8)(hp:D.ps.length=4){d:Nat}(hc:∀ d',d=d'+1->Fz (Δ kc) d'):Fz (j0 Δ D) d:=by
 intro p n w hues es ws S Q Tp hw hwp Wk hel hd nx q;unfold j0;rw[hb,hN];have wl:=Wk.len;have tl:∀ p∈ws,p.1<es.length:=λp hp=>(Wk.lt p hp).1;refine⟨hp.symm,HF hΔ rfl rfl hw (by omega) (by omega) λb S1 G1 h1=>?_⟩;have hbm:∀ t∈Aa es ws,t<es.length/\t∉ws.map (·.1):=λt ht=>mem_bare.mp ht;have bl:=F0 es ws
 have bpos:0<(Aa es ws).length:=by
  cases e:Aa es ws with
  | nil=>exact absurd (Ko Wk λt ht=>Decidable.byContradiction λz=>by
     have:=mem_bare.mpr ⟨ht,z⟩;rw[e]at this;cases this) nx
  | cons _ _=>simp
 show wSs Δ [mt2 ka,mt3 kd,mt4 kt,mt5 kc] (k9 Q) [some (.loc p),some (i4 n es),some (.int (hues:Nat)),some (.loc w),some (.loc b),none,none,none] S1;generalize Aa es ws=B at *;refine⟨_,rfl,_,f6 h1,?_⟩
 refine BT hΔ ha (G1.keep _ _ hw) (by omega) tl (λt ht=>(hbm t ht).1) h1 (by omega) (g:=λt => .tup [.int (0 - ((t5 (iN (arL es ws t))).length:Nat)),.int (t:Nat)]) (λt S' R ht G k=>by
  have al:=CP es ws t;exact⟨_,rfl,_,rfl,_,rfl,ha ((G1.trans G).keep _ _ hw) (by omega) tl ht ⟨_,_,nofun,f6 e5,Dg _,by unfold iN;rw[Qr];omega,_,rfl,by show 2<=100000;decide,k _ G.push⟩⟩) λS3 G3=>?_
 have G4:=(G1.trans G3).push (o:=SO.lst (B.map λt=>SV.tup [.int (0 - ((t5 (iN (arL es ws t))).length:Nat)),.int (t:Nat)]));have h4:(S3++[SO.lst (B.map λt=>SV.tup [.int (0 - ((t5 (iN (arL es ws t))).length:Nat)),.int (t:Nat)])])[S3.length]?=some (.lst (B.map λt=>SV.tup [.int (0 - ((t5 (iN (arL es ws t))).length:Nat)),.int (t:Nat)])):=e5;have Tl:=Tp.lt;have n4:S3.length≠p:=by have:=(G1.trans G3).len;omega
 show wSs Δ [mt3 kd,mt4 kt,mt5 kc] (k9 Q) [some (.loc p),some (i4 n es),some (.int (hues:Nat)),some (.loc w),some (.loc b),some (.loc S3.length),none,none] _;generalize S3.length=c at *;generalize S3++[SO.lst (B.map λt=>SV.tup [.int (0 - ((t5 (iN (arL es ws t))).length:Nat)),.int (t:Nat)])]=S4 at *;refine⟨_,rfl,c,_,rfl,h4,by rw[Qr];omega,λv hv=>?_,λys py=>?_⟩
 ·obtain⟨t,_,rfl⟩:=RI.mp hv;exact⟨_,_,rfl⟩
 have yl:ys.length=B.length:=by rw[py.length_eq,Qr]
 have G5:=G4.push (o:=SO.lst ys);have O5:On p S (S4++[SO.lst ys]):=G5.on;refine⟨2,rfl,ys,e5,?_⟩;rw[show BJ ys none (some (2:Int))=ys.take 2 from Bg (i:=2)];have G6:=G5.push (o:=SO.lst (ys.take 2));have h6:((S4++[SO.lst ys])++[SO.lst (ys.take 2)])[(S4++[SO.lst ys]).length]?=some (.lst (ys.take 2)):=e5;have h46:=i6 (o:=SO.lst (ys.take 2)) (i6 (o:=SO.lst ys) h4);have n6:(S4++[SO.lst ys]).length≠p:=by have:=G5.len;omega
 generalize (S4++[SO.lst ys]).length=e at *;generalize (S4++[SO.lst ys])++[SO.lst (ys.take 2)]=S6 at *;refine⟨_,rfl,hdr (G6.tape Tp) (by decide) (by decide) λr S7 r0 r1 T7 O7 _=>?_⟩;have lm:(B.map λt=>SV.tup [.int (0 - ((t5 (iN (arL es ws t))).length:Nat)),.int (t:Nat)]).length=B.length:=Qr ..;refine⟨_,rfl,_,f6 (O7.keep _ _ n4 h46),by rw[lm];omega,?_⟩;rw[lm];have m0:0<=r % (B.length:Nat):=SE _ (by omega);have m1:r % (B.length:Nat)<(B.length:Nat):=Ro _ (by omega)
 have m2:r % (B.length:Nat)<2:=by
  rcases SU B.length 2 with z | z
  ·omega
  ·rw[Sy r0 (by omega)];exact r1
 obtain⟨i,hi⟩:=SK m0;have il:i<(ys.take 2).length:=by rw[RL];omega
 have gi:=R4 il;have mi:=(py.mem_iff.mp (Sm (Rn il)))
 obtain⟨t,mB,et⟩:=RI.mp mi;rw[<-et]at gi;refine⟨_,_,f6 (O7.keep _ _ n6 h6),(show atI (ys.take 2) (r % (B.length:Nat))=_ by rw[hi];exact l5 gi),_,_,rfl,rfl,?_⟩;obtain⟨ht,hn⟩:=hbm t mB;have less:=Wk.less ht hn;obtain⟨d',rfl⟩:∃ d',d=d'+1:=⟨d - 1,by omega⟩
 have O7':On p S S7:=G6.on.trans O7;have hw7:=O7'.keep _ _ hwp hw;show wSs Δ [mt4 kt,mt5 kc] (k9 Q) [some (.loc p),some (i4 n es),some (.int (hues:Nat)),some (.loc w),some (.loc b),some (.loc c),some (.int (t:Nat)),none] S7;refine⟨_,rfl,_,rfl,_,rfl,_,rfl,htr hw7 (by omega) tl ht λa S8 G8 ha8 h8=>?_⟩;have T8:=G8.tape T7;have t7:=T7.lt;have na:a≠p:=by omega
 have O8:On p S S8:=O7'.trans G8.on;have tln:=HE es hues ws t;have trm:∀ h∈p8 es hues ws t,WayOk es hues (ws++[(t,h)]):=λh m=>Wk.snoc ht hn m;have eO:∀ hs,hs=p8 es hues ws t->True:=λ_ _=>trivial;generalize eh:p8 es hues ws t=hs at *;refine⟨_,rfl,_,rfl,_,f6 h8,?_⟩;refine i5 (i9 hΔ _).2 (c7 hΔ _).1 (λi ys S9=>TapeS S9 p/\On p S8 S9/\∃ l:List Bau,l.length=i/\ys=n8 l/\(∀ T∈l,v9 es.length T/\dp T<=d')/\∀(j:Nat) (T:Bau) (h:Nat),l[j]?=some T->hs[j]?=some h->clF (p8 es hues) T (ws++[(t,h)])=true) ⟨T8,On.refl p S8,[],rfl,by unfold n8;rfl,(λ_ h=>nomatch h),λj T h e=>by simp at e⟩ (λ_ _ S9 z=>by show S9[a]?=S8[a]?;rw[z.2.1.keep _ _ na h8,h8]) ?_ ?_
 ·rintro i x zs S9 hx ⟨T9,O9,l,li,rfl,al,cl⟩;obtain⟨h,hh,rfl⟩:=y8 hx;have hi':=(gM hh).1;have mh:=R1 hh;have O89:=O8.trans O9;have hw9:=O89.keep _ _ hwp hw;have t9:=T9.lt;refine⟨_,rfl,_,rfl,_,rfl,_,rfl,_,rfl,_,rfl,by show 2<=100000;decide,by show 1<=100000;decide,_,_,i6 hw9,e5,by rw[Qr];show _<=100000;simp;omega,hc d' rfl T9.push.push (CS hw9) (by rw[Qv];omega) (trm h mh) hel (by rw[Qv,RS];omega) (λx=>nx x.pre) λT S10 T10 O10 bo dT cT=>⟨by rw[w4,li];show _<100000;omega,T10,O9.trans ((On.refl p S9).push.push.trans O10),l++[T],by rw[Qv,li];rfl,(Ev l T).symm,λT' m=>?_,λj T' h' e1 e2=>?_⟩⟩
  ·rcases RF.mp m with m | m
   ·exact al T' m
   ·rw[Qu.mp m];exact⟨bo,dT⟩
  ·rcases Kx e1 with⟨e3,rfl⟩ | e1
   ·rw[e3,li,hh]at e2;cases e2;exact cT
   ·exact cl j T' h' e1 e2
 ·rintro zs S9 ⟨T9,O9,l,li,rfl,al,cl⟩;rw[g6]at li;refine⟨_,f6 e5,by show 2<=100000;decide,?_⟩;have e1:(SV.tup [.int (t:Nat),.tup (n8 l)])=enc (.nd t l):=by unfold enc;rfl
  show Q (.tup [.int (t:Nat),.tup (n8 l)]) _;rw[e1];refine q (.nd t l) _ T9.push (O8.trans O9).push ?_ ?_ ?_
  ·unfold v9;exact⟨ht,trs_at.mpr λT m=>(al T m).1⟩
  ·unfold dp;have:=(dps_at (l:=l) (d:=d')).mpr λT m=>(al T m).2;omega
  ·rw[Fx hn (by rw[eh];exact li),eh];exact cls_iff.mpr cl
noncomputable def Kz(kc:Nat):List Stm:=[(.asg (.nm 1) (.c (.int 0))),(.whl (.not (.call kc (.cons (.var 0) (.cons (.var 1) (.cons (.lst .nil) .nil))))) [(.asg (.nm 1) (.op .Add (.var 1) (.c (.int 1))))]),(.ret (.var 1))]
noncomputable def HI(s:Sn):Prop:=∀{n:Nat} {es:EE} {S:Sto} {Q:QE},es.length<=8->(∀(m:Nat) (S':Sto),Gw S S'->m<=es.length->(∀ h,h<m->¬ Ext es h [])->Q (.int (m:Nat)) S')->s [i4 n es] S Q
theorem L0{kc:Nat}(hc:HH (Δ kc) 8){D:Df}(hb:D.body=Kz kc)(hN:D.N.length=2)(hp:D.ps.length=1):HI (j0 Δ D):=by
 intro n es S Q hel q;unfold j0;rw[hb,hN];refine⟨hp.symm,?_⟩;refine⟨λμ ρ S1=>∃ k:Nat,ρ=[some (i4 n es),some (.int (k:Nat))]/\Gw S S1/\k<=es.length/\μ=es.length - k/\∀ h,h<k->¬ Ext es h [],⟨es.length,0,rfl,Gw.refl S,Rz _,rfl,λh z=>absurd z (SM _)⟩,?_⟩;rintro μ ρ S1 ⟨k,rfl,G,kl,rfl,no⟩;refine⟨_,rfl,_,rfl,by show 0<=100000;decide,hc (ws:=[]) e5 WayOk.nil Cano.nil (by omega) (by rw[SD];omega) λb S2 G2 e=>⟨_,rfl,?_⟩⟩;have G3:=G.push.trans G2;cases b with
 | true=>exact ifF rfl ⟨_,rfl,q k S2 G3 kl no⟩
 | false=>
   have nk:¬ Ext es k []:=λx=>TL (e x);have ne:k≠es.length:=λz=>nk (by rw[z];exact Mh es);refine ifT rfl ⟨_,rfl,es.length - (k+1),by omega,k+1,rfl,G3,by omega,rfl,λh hh=>?_⟩;rcases SU h k with z | z
   ·exact no h z
   ·have:h=k:=by omega
    rw[this];exact nk
noncomputable def L1(kc:Nat):List Stm:=[(.asg (.nm 3) (.lrng1 (.bi .min (.cons (.var 1) (.cons (.bi .len (.cons (.ix (.var 0) (.c (.int 1))) .nil)) .nil))))),(.ret (.call kc (.cons (.var 0) (.cons (.op .Mult (.lst (.cons (.var 3) .nil)) (.bi .len (.cons (.ix (.var 0) (.c (.int 1))) .nil))) (.cons (.c (.bl true)) (.cons .dnew (.cons (.var 2) .nil)))))))]
noncomputable def Dj(s:Sn)(T:Bau):Prop:=∀{n hues:Nat} {es:EE} {S:Sto} {Q:QE},es.length<=60->hues<=60->v9 es.length T->dp T<=700->(∀ S',Gw S S'->Q (.bl (clF (p8 es hues) T [])) S')->s [i4 n es,.int (hues:Nat),enc T] S Q
theorem L5{kc:Nat}{T:Bau}(hc:BS (Δ kc) T){D:Df}(hb:D.body=L1 kc)(hN:D.N.length=4)(hp:D.ps.length=3):Dj (j0 Δ D) T:=by
 intro n hues es S Q hel hhu ok hd q;unfold j0;rw[hb,hN];have ee:(es.map pairS).length=es.length:=Qr ..;have em:(if ((es.map pairS).length:Int)<(hues:Nat) then ((es.map pairS).length:Int) else (hues:Nat))=((min hues es.length:Nat):Int):=by rw[ee];split<;>omega
 refine⟨hp.symm,_,rfl,_,rfl,_,_,rfl,rfl,_,rfl,_,congrArg SV.int em,⟨by omega,by omega⟩,?_⟩;rw[Dc];have G1:Gw S (S++[SO.lst (natS (Qy (min hues es.length)))]):=(Gw.refl S).push;have h1:(S++[SO.lst (natS (Qy (min hues es.length)))])[S.length]?=some (.lst (natS (Qy (min hues es.length)))):=e5;show wSs Δ _ _ [some (i4 n es),some (.int (hues:Nat)),some (enc T),some (.loc S.length)] _;generalize S.length=m at *;generalize S++[SO.lst (natS (Qy (min hues es.length)))]=S1 at *;refine⟨_,rfl,_,rfl,by show 1<=100000;decide,_,rfl,_,_,rfl,rfl,_,rfl,[.loc m],e5,⟨by rw[ee];omega,by rw[ee];omega⟩,by rw[ee];show 1 * _<=100000;omega,?_⟩;rw[ee,Sd,List.flatten_replicate_singleton];have G3:Gw S (((S1++[SO.lst [SV.loc m]])++[SO.lst (RA es.length (SV.loc m))])++[SO.dct []]):=G1.push.push.push;refine⟨_,rfl,hc (ws:=[]) (K:=min hues es.length) e5 (i6 e5) (i6 (i6 (i6 h1))) (by rw[SD];omega) (by omega) (λ_ h=>nomatch h) ok λS' O d=>?_⟩;rw[HA T [] WayOk.nil ok];refine q S' ⟨RE G3.len O.len,λi o ho=>O.keep _ _ ?_ (G3.keep _ _ ho)⟩;have a:=(gM ho).1;have b:=(G1.push (o:=SO.lst [SV.loc m])).push (o:=SO.lst (RA es.length (SV.loc m))) |>.len
 exact R5 (RC a b)
noncomputable def L6(kp ka kb kf:Nat):List Stm:=[(.iff (.not (.call kp (.cons (.var 2) .nil))) [(.ret (.c (.bl false)))] []),(.asg (.tup (.cons (.nm 3) (.cons (.nm 4) .nil))) (.var 2)),(.iff (.cmp .Eq (.var 3) (.c (.str "place"))) [(.ret (.call ka (.cons (.var 0) (.cons (.var 1) (.cons (.var 4) .nil)))))] []),(.iff (.cmp .Eq (.var 3) (.c (.str "set"))) [(.ret (.call kb (.cons (.var 0) (.cons (.var 1) (.cons (.var 4) .nil)))))] []),(.ret (.and (.cmp .Eq (.var 3) (.c (.str "tree"))) (.call kf (.cons (.var 0) (.cons (.var 1) (.cons (.var 4) .nil))))))]
noncomputable def HJ(s:Sn)(T:Bau):Prop:=∀{n hues:Nat} {es:EE} {S:Sto} {Q:QE},es.length<=60->hues<=60->v9 es.length T->dp T<=700->(∀ S',Gw S S'->Q (.bl (clF (p8 es hues) T [])) S')->s [i4 n es,.int (hues:Nat),.tup [.str "tree",enc T]] S Q
theorem L7{kp ka kb kf:Nat}{T:Bau}(hpr:HC (Δ kp))(hf:Dj (Δ kf) T){D:Df}(hb:D.body=L6 kp ka kb kf)(hN:D.N.length=5)(hp:D.ps.length=3):HJ (j0 Δ D) T:=by
 intro n hues es S Q hel hhu ok hd q;unfold j0;rw[hb,hN];exact⟨hp.symm,_,rfl,hpr ⟨_,rfl,ifF rfl (j6 ⟨_,rfl,⟨_,rfl,_,rfl,ifF (by decide) (j6 ⟨_,rfl,_,rfl,ifF (by decide) (j6 ⟨_,rfl,_,rfl,ifT (by decide) ⟨_,rfl,_,rfl,_,rfl,hf hel hhu ok hd q⟩⟩)⟩)⟩⟩)⟩⟩
noncomputable def NF(kd kp:Nat):List Stm:=[u1 kd kp,u3 kd kp,u4 kd kp,u5 kd kp,u6 kd kp]
theorem Mk(hΔ:∀ f,MonoN (Δ f)){kd kp:Nat}(hd:u9 (Δ kd))(hp:Da (Δ kp)){D:Df}(hb:D.body=NF kd kp)(hN:D.N.length=7)(hps:D.ps.length=2):Kf (j0 Δ D):=by
 intro t g S Q T q;unfold j0;rw[hb,hN];have t0:=T.lt;refine⟨hps.symm,_,rfl,_,rfl,hp T λn es l S1 P h1 hl T1 O1=>?_⟩;exact Kg hΔ hd P ⟨T1,O1,h1,hl,t0⟩ λes S' W T' O'=>q n es S' W T' O'
noncomputable def L8(kd kw:Nat):List Stm:=[(.asg (.nm 2) (.call kw (.cons (.var 0) (.cons (.cmp .Eq (.call kd (.cons (.var 0) (.cons (.c (.int 12)) .nil))) (.c (.int 0))) .nil)))),(.loop (.nm 3) (.rng1 (.call kd (.cons (.var 0) (.cons (.c (.int 4)) .nil)))) [(.iff (.eqt0 (.ix (.var 2) (.c (.int 1))) (.tup .nil)) [(.asg (.nm 2) (.call kw (.cons (.var 0) (.cons (.c (.bl false)) .nil))))] [])]),(.ret (.tup (.cons (.ix (.var 2) (.c (.int 0))) (.cons (.slc (.ix (.var 2) (.c (.int 1))) .no (.yes (.ix (.lst (.cons (.c (.int 9)) (.cons (.c (.int 9)) (.cons (.c (.int 9)) (.cons (.var 1) .nil))))) (.call kd (.cons (.var 0) (.cons (.c (.int 4)) .nil)))))) .nil))))]
noncomputable def HK(s:Sn):Prop:=∀{t most:Nat} {S:Sto} {Q:QE},TapeS S t->most<=100->(∀(n:Nat) (es:EE) (S':Sto),(∀ e∈es,e.1<e.2/\e.2<n)->n<=12->es.length<=39->TapeS S' t->On t S S'->Q (i4 n es) S')->s [.loc t,.int (most:Nat)] S Q
theorem L9(hΔ:∀ f,MonoN (Δ f)){kd kw:Nat}(hd:u9 (Δ kd))(hw:Kf (Δ kw)){D:Df}(hb:D.body=L8 kd kw)(hN:D.N.length=4)(hp:D.ps.length=2):HK (j0 Δ D):=by
 intro t most S Q T hm q;unfold j0;rw[hb,hN];refine⟨hp.symm,_,rfl,_,rfl,hd T (by decide) (by decide) λr S1 r0 r1 T1 O1 _=>hw T1 λn es S2 W2 T2 O2=>?_⟩;refine⟨_,rfl,hd T2 (by decide) (by decide) λm S3 m0 m1 T3 O3 _=>⟨m,rfl,⟨by omega,by omega⟩,?_⟩⟩;refine Bu (j5 hΔ _) (λi ρ S4=>∃(n:Nat) (es:EE) (o3:Option SV),ρ=[some (.loc t),some (.int (most:Nat)),some (i4 n es),o3]/\Web n es/\TapeS S4 t/\On t S S4) ⟨n,es,_,rfl,W2,T3,O1.trans (O2.trans O3)⟩ (λ_ _ _ _=>trivial) ?_ ?_
 ·rintro i x ρ S4 E hE _ hx ⟨n,es,o3,rfl,W4,T4,O4⟩;refine⟨_,rfl,_,_,rfl,rfl,by show 0<=100000;decide,_,rfl,rfl,_,rfl,?_⟩;refine ifB (λ_=>?_) (λ_=>j6 (hE _ _ ⟨n,es,_,rfl,W4,T4,O4⟩));exact⟨_,rfl,hw T4 λn' es' S5 W5 T5 O5=>j6 (Δ:=Δ) (hE _ _ ⟨n',es',_,rfl,W5,T5,O4.trans O5⟩)⟩
 ·rintro ρ S4 ⟨n,es,o3,rfl,W4,T4,O4⟩;have t4:=T4.lt;refine⟨_,rfl,_,_,rfl,rfl,_,rfl,_,_,rfl,rfl,_,rfl,by show 4<=100000;decide,_,rfl,hd T4.push (by decide) (by decide) λr S5 r0 r1 T5 O5 _=>?_⟩;have h5:S5[S4.length]?=some (.lst [.int 9,.int 9,.int 9,.int (most:Nat)]):=O5.keep _ _ (by omega) e5
  obtain⟨v,hv,ha⟩:∃ v:Nat,v<=100/\atI [SV.int 9,.int 9,.int 9,.int (most:Nat)] r=some (.int (v:Nat)):=by
   have:r=0\/r=1\/r=2\/r=3:=by omega
   rcases this with rfl | rfl | rfl | rfl
   ·exact⟨9,by decide,l5 (j:=0) rfl⟩
   ·exact⟨9,by decide,l5 (j:=1) rfl⟩
   ·exact⟨9,by decide,l5 (j:=2) rfl⟩
   ·exact⟨most,hm,l5 (j:=3) rfl⟩
  refine⟨_,_,f6 h5,ha,_,rfl,by show 2<=100000;decide,?_⟩;have e:BJ (es.map pairS) none (some (v:Int))=(es.take v).map pairS:=by rw[Bg,Tj]
  show Q (.tup [.int (n:Nat),.tup (BJ (es.map pairS) none (some (v:Int)))]) S5;rw[e];refine q n (es.take v) S5 (λe he=>W4.en e (Sm he)) W4.few (by rw[RL];have:=W4.len;omega) T5 (O4.trans ((On.refl t S4).push.trans O5))
noncomputable def NG(kd:Nat):List Stm:=[(.iff (.cmp .Lt (.ix (.var 1) (.c (.int 0))) (.c (.int 2))) [(.ret (.var 1))] []),(.asg (.nm 2) (.call kd (.cons (.var 0) (.cons (.op .Sub (.ix (.var 1) (.c (.int 0))) (.c (.int 1))) .nil)))),(.ret (.tup (.cons (.ix (.var 1) (.c (.int 0))) (.cons (.op .Add (.ix (.var 1) (.c (.int 1))) (.tup (.cons (.tup (.cons (.var 2) (.cons (.op .Add (.op .Add (.var 2) (.c (.int 1))) (.call kd (.cons (.var 0) (.cons (.op .Sub (.op .Sub (.ix (.var 1) (.c (.int 0))) (.c (.int 1))) (.var 2)) .nil)))) .nil))) .nil))) .nil))))]
noncomputable def HL(s:Sn):Prop:=∀{t n:Nat} {es:EE} {S:Sto} {Q:QE},TapeS S t->n<=12->es.length<=50->(∀(es':EE) (S':Sto),es.length<=es'.length->es'.length<=es.length+1->TapeS S' t->On t S S'->Q (i4 n es') S')->s [.loc t,i4 n es] S Q
theorem LA{kd:Nat}(hd:u9 (Δ kd)){D:Df}(hb:D.body=NG kd)(hN:D.N.length=3)(hp:D.ps.length=2):HL (j0 Δ D):=by
 intro t n es S Q T hn hel q;unfold j0;rw[hb,hN];refine⟨hp.symm,_,rfl,_,_,rfl,rfl,_,rfl,?_⟩;refine ifD (λ_=>⟨_,rfl,q es S (Qs _) (Sa _) T (On.refl t S)⟩) (λz=>j6 ?_);have z:¬ ((n:Nat):Int)<2:=z;refine⟨_,rfl,_,rfl,_,_,rfl,rfl,hd T (by omega) (by omega) λa S1 a0 a1 T1 O1 _=>?_⟩;obtain⟨a,rfl⟩:=SK a0;refine⟨_,rfl,_,_,rfl,rfl,_,rfl,_,_,rfl,rfl,_,rfl,_,rfl,_,rfl,_,rfl,_,_,rfl,rfl,_,rfl,hd T1 (by omega) (by omega) λb S2 b0 b1 T2 O2 _=>?_⟩;obtain⟨b,rfl⟩:=SK b0;refine⟨by show 2<=100000;decide,by show 1<=100000;decide,by rw[Qr];show _<=100000;simp;omega,by show 2<=100000;decide,?_⟩;have e:i4 n (es++[(a,a+1+b)]) = .tup [.int (n:Nat),.tup (es.map pairS++[.tup [.int (a:Nat),.int ((a:Int)+1+b)]])]:=by unfold i4;rw[R9];rfl
 show Q (.tup [.int (n:Nat),.tup (es.map pairS++[.tup [.int (a:Nat),.int ((a:Int)+1+b)]])]) S2;rw[<-e];exact q _ S2 (by rw[Qv];omega) (by rw[Qv,RS];omega) T2 (O1.trans O2)
end
end Rf
namespace Hue
open PySem L2 Rf
noncomputable def Lq:List Stm:=[(.asg (.nm 9) (.call 25 (.cons (.var 7) (.cons (.var 8) (.cons (.lst .nil) (.cons (.var 6) .nil)))))),(.iff (.not (.call 29 (.cons (.call 15 (.cons (.var 7) (.cons (.var 8) (.cons (.tup (.cons (.c (.str "tree")) (.cons (.var 6) .nil))) .nil)))) (.cons (.var 9) .nil)))) [(.ret (.c (.bl false)))] [])]
noncomputable def La:Stm:=(.asg (.nm 5) (.op .Sub (.op .Sub (.var 4) (.c (.int 1))) (.op .Mult (.call 17 (.cons (.var 2) (.cons (.c (.int 2)) .nil))) (.bi .int (.cons (.cmp .Gt (.var 4) (.c (.int 1))) .nil)))))
noncomputable def Lb:Stm:=(.iff (.cmp .Lt (.var 5) (.c (.int 0))) [.cnt] [])
noncomputable def Lc:Stm:=(.asg (.nm 6) (.call 28 (.cons (.var 2) (.cons (.var 3) (.cons (.var 5) (.cons (.lst .nil) .nil))))))
noncomputable def Ld:Stm:=(.iff (.cmp .IsNot (.call 15 (.cons (.var 3) (.cons (.var 5) (.cons (.tup (.cons (.c (.str "tree")) (.cons (.var 6) .nil))) .nil)))) (.c (.bl true))) [(.ret (.c (.bl false)))] [])
noncomputable def Le:Stm:=(.loop (.tup (.cons (.nm 7) (.cons (.nm 8) .nil))) (.seq (.tup (.cons (.tup (.cons (.var 3) (.cons (.op .Add (.var 5) (.c (.int 1))) .nil))) (.cons (.tup (.cons (.var 3) (.cons (.bi .max (.cons (.c (.int 0)) (.cons (.op .Sub (.var 5) (.c (.int 1))) .nil))) .nil))) (.cons (.tup (.cons (.var 3) (.cons (.c (.int 0)) .nil))) (.cons (.tup (.cons (.call 30 (.cons (.var 2) (.cons (.var 3) .nil))) (.cons (.var 5) .nil))) .nil)))))) Lq)
noncomputable def top(i:Nat):Stmt:=PySem.Challenge.pw_huedties_k39_trees.main.body.getD i (.Pass ⟨0,0,0,0⟩)
noncomputable def b0:List Stm:=Ft
noncomputable def d0:Df:=⟨"is_number",top 1,["thing"],["thing"],b0⟩
noncomputable def b1:List Stm:=[(.ret (.bi .isi (.cons (.var 0) (.cons (.tup (.cons (.tyc .list) (.cons (.tyc .tuple) .nil))) .nil))))]
noncomputable def d1:Df:=⟨"is_listed",top 2,["thing"],["thing"],b1⟩
noncomputable def b2:List Stm:=bPr
noncomputable def d2:Df:=⟨"is_pair",top 3,["thing"],["thing"],b2⟩
noncomputable def b3:List Stm:=[(.iff (.or (.not (.call 1 (.cons (.var 0) .nil))) (.not (.bi .all (.cons (.comp ["item"] [] [] (.nm 0) (.seq (.var 0)) .no (.call 0 (.cons (.var 0) .nil))) .nil)))) [(.ret (.c (.bl false)))] []),(.ret (.bi .all (.cons (.comp ["at"] ["thing"] [0] (.nm 0) (.rng1 (.op .Sub (.bi .len (.cons (.var 0) .nil)) (.c (.int 1)))) .no (.cmp .Lt (.ix (.var 1) (.var 0)) (.ix (.var 1) (.op .Add (.var 0) (.c (.int 1)))))) .nil)))]
noncomputable def d3:Df:=⟨"is_rising",top 4,["thing"],["thing"],b3⟩
noncomputable def b4:List Stm:=[(.ret (.and (.call 0 (.cons (.var 1) .nil)) (.chn .LtE .Lt (.c (.int 0)) (.var 1) (.ix (.var 0) (.c (.int 0))))))]
noncomputable def d4:Df:=⟨"has_place",top 9,["web","place"],["web","place"],b4⟩
noncomputable def b5:List Stm:=Gs 0
noncomputable def d5:Df:=⟨"has_tie",top 10,["web","tie"],["web","tie"],b5⟩
noncomputable def b6:List Stm:=[(.iff (.not (.call 4 (.cons (.var 0) (.cons (.var 1) .nil)))) [.no] [])]
noncomputable def d6:Df:=⟨"check_place",top 11,["web","place"],["web","place"],b6⟩
noncomputable def b7:List Stm:=[(.expr (.call 6 (.cons (.var 0) (.cons (.var 1) .nil)))),(.ret (.comp ["tie","ends"] ["place"] [1] (.tup (.cons (.nm 0) (.cons (.nm 1) .nil))) (.enum (.ix (.var 0) (.c (.int 1)))) (.yes (.cmp .In (.var 2) (.var 1))) (.var 0)))]
noncomputable def d7:Df:=⟨"ties_at",top 12,["web","place"],["web","place"],b7⟩
noncomputable def b8:List Stm:=[(.ret (.bi .len (.cons (.call 7 (.cons (.var 0) (.cons (.var 1) .nil))) .nil)))]
noncomputable def d8:Df:=⟨"count_at",top 13,["web","place"],["web","place"],b8⟩
noncomputable def b9:List Stm:=[(.asg (.nm 2) (.setl (.var 1))),(.ret (.comp ["tie","one","other"] ["among"] [2] (.tup (.cons (.nm 0) (.cons (.tup (.cons (.nm 1) (.cons (.nm 2) .nil))) .nil))) (.enum (.ix (.var 0) (.c (.int 1)))) (.yes (.and (.cmp .In (.var 1) (.var 3)) (.cmp .In (.var 2) (.var 3)))) (.var 0)))]
noncomputable def d9:Df:=⟨"within",top 14,["web","places"],["web","places","among"],b9⟩
noncomputable def b10:List Stm:=NC
noncomputable def d10:Df:=⟨"open_hues",top 16,["web","lists","alike","way","tie"],["web","lists","alike","way","tie","one","other","taken","free","known"],b10⟩
noncomputable def b11:List Stm:=HD 2 5 10 11
noncomputable def d11:Df:=⟨"closes",top 17,["web","lists","alike","way","tree"],["web","lists","alike","way","tree","tie","trees","hues","hue","later","longer"],b11⟩
noncomputable def b12:List Stm:=[(.ret (.and (.call 4 (.cons (.var 0) (.cons (.var 2) .nil))) (.cmp .Gt (.call 8 (.cons (.var 0) (.cons (.var 2) .nil))) (.var 1))))]
noncomputable def d12:Df:=⟨"is_full_place",top 19,["web","hues","place"],["web","hues","place"],b12⟩
noncomputable def b13:List Stm:=[(.iff (.or (.not (.bi .isi (.cons (.var 2) (.cons (.tyc .tuple) .nil)))) (.or (.not (.call 3 (.cons (.var 2) .nil))) (.not (.bi .all (.cons (.comp ["place"] ["web"] [0] (.nm 0) (.seq (.var 2)) .no (.call 4 (.cons (.var 1) (.cons (.var 0) .nil)))) .nil))))) [(.ret (.c (.bl false)))] []),(.iff (.or (.cmp .Lt (.bi .len (.cons (.var 2) .nil)) (.c (.int 3))) (.cmp .Eq (.op .Mod (.bi .len (.cons (.var 2) .nil)) (.c (.int 2))) (.c (.int 0)))) [(.ret (.c (.bl false)))] []),(.ret (.cmp .Gt (.bi .len (.cons (.call 9 (.cons (.var 0) (.cons (.var 2) .nil))) .nil)) (.op .Mult (.var 1) (.op .FloorDiv (.bi .len (.cons (.var 2) .nil)) (.c (.int 2))))))]
noncomputable def d13:Df:=⟨"is_full_set",top 20,["web","hues","places"],["web","hues","places"],b13⟩
noncomputable def b14:List Stm:=L1 11
noncomputable def d14:Df:=⟨"is_full_tree",top 21,["web","hues","tree"],["web","hues","tree","known"],b14⟩
noncomputable def b15:List Stm:=L6 2 12 13 14
noncomputable def d15:Df:=⟨"shows_fewer",top 22,["web","hues","paper"],["web","hues","paper","word","thing"],b15⟩
noncomputable def b16:List Stm:=N9
noncomputable def d16:Df:=⟨"_law_tape",top 24,["_law_script","_law_k"],["_law_script","_law_k","_law_cell","_law_digits"],b16⟩
noncomputable def b17:List Stm:=NA
noncomputable def d17:Df:=⟨"_law_draw",top 25,["_law_tape_here","_law_many"],["_law_tape_here","_law_many","_law_found","_law_once"],b17⟩
noncomputable def b18:List Stm:=Kd 17
noncomputable def d18:Df:=⟨"_law_pairs_by",top 26,["_law_tape_here","_law_great"],["_law_tape_here","_law_great","_law_way","_law_many","_law_found","_law_turn","_law_one","_law_k","_law_sides"],b18⟩
noncomputable def b19:List Stm:=NF 17 18
noncomputable def d19:Df:=⟨"_law_web",top 27,["_law_tape_here","_law_great"],["_law_tape_here","_law_great","_law_many","_law_pairs","_law_ties","_law_one","_law_other"],b19⟩
noncomputable def b20:List Stm:=L8 17 19
noncomputable def d20:Df:=⟨"_law_small",top 28,["_law_tape_here","_law_most"],["_law_tape_here","_law_most","_law_web_here","_law_turn"],b20⟩
noncomputable def b21:List Stm:=NB
noncomputable def d21:Df:=⟨"_law_meet",top 29,["_law_web_here","_law_one","_law_other"],["_law_web_here","_law_one","_law_other"],b21⟩
noncomputable def b22:List Stm:=Ft
noncomputable def d22:Df:=⟨"_law_is_number",top 30,["_law_thing"],["_law_thing"],b22⟩
noncomputable def b23:List Stm:=Gy 21
noncomputable def d23:Df:=⟨"_law_around",top 31,["_law_web_here","_law_way","_law_tie"],["_law_web_here","_law_way","_law_tie"],b23⟩
noncomputable def b24:List Stm:=Ks 23
noncomputable def d24:Df:=⟨"_law_tried",top 32,["_law_web_here","_law_hues","_law_way","_law_tie"],["_law_web_here","_law_hues","_law_way","_law_tie","_law_met"],b24⟩
noncomputable def b25:List Stm:=Kv 22 24 25
noncomputable def d25:Df:=⟨"_law_tree_right",top 33,["_law_web_here","_law_hues","_law_way","_law_node"],["_law_web_here","_law_hues","_law_way","_law_node","_law_tie","_law_some"],b25⟩
noncomputable def b26:List Stm:=QN 23 24 26
noncomputable def d26:Df:=⟨"_law_can",top 34,["_law_web_here","_law_hues","_law_way"],["_law_web_here","_law_hues","_law_way","_law_bare","_law_counts","_law_tie","_law_hue"],b26⟩
noncomputable def b27:List Stm:=Kz 26
noncomputable def d27:Df:=⟨"_law_least",top 35,["_law_web_here"],["_law_web_here","_law_number"],b27⟩
noncomputable def b28:List Stm:=NE 17 23 24 28
noncomputable def d28:Df:=⟨"_law_made_tree",top 36,["_law_tape_here","_law_web_here","_law_hues","_law_way"],["_law_tape_here","_law_web_here","_law_hues","_law_way","_law_ties","_law_bare","_law_tie","_law_some"],b28⟩
noncomputable def b29:List Stm:=[(.ret (.and (.bi .isi (.cons (.var 0) (.cons (.tyc .bool) .nil))) (.cmp .Eq (.var 0) (.var 1))))]
noncomputable def d29:Df:=⟨"_law_truth",top 37,["_law_found","_law_due"],["_law_found","_law_due"],b29⟩
noncomputable def b30:List Stm:=NG 17
noncomputable def d30:Df:=⟨"_law_more",top 38,["_law_tape_here","_law_web_here"],["_law_tape_here","_law_web_here","_law_one"],b30⟩
noncomputable def b31:List Stm:=[(.loop (.nm 1) (.rng1 (.bi .max (.cons (.c (.int 2)) (.cons (.bi .min (.cons (.bi .len (.cons (.var 0) .nil)) (.cons (.c (.int 4)) .nil))) .nil)))) [(.asg (.nm 2) (.call 16 (.cons (.var 0) (.cons (.var 1) .nil)))),(.asg (.nm 3) (.call 20 (.cons (.var 2) (.cons (.c (.int 8)) .nil)))),(.asg (.nm 3) (.tup (.cons (.ix (.var 3) (.c (.int 0))) (.cons (.slc (.ix (.var 3) (.c (.int 1))) .no (.yes (.c (.int 8)))) .nil)))),(.asg (.nm 4) (.call 27 (.cons (.var 3) .nil))),La,Lb,Lc,Ld,Le]),(.ret (.c (.bl true)))]
noncomputable def d31:Df:=⟨"law",top 39,["_law_script"],["_law_script","_law_k","_law_tape_here","_law_web_here","_law_number","_law_hues","_law_tree","_law_some","_law_other","_law_due"],b31⟩
noncomputable def prog:List Df:=[d0,d1,d2,d3,d4,d5,d6,d7,d8,d9,d10,d11,d12,d13,d14,d15,d16,d17,d18,d19,d20,d21,d22,d23,d24,d25,d26,d27,d28,d29,d30,d31]
theorem F2:prog.all (Mb (prog.map (·.name)))=true:=by decide +kernel
theorem hW(d:Nat):∀ f,MonoN (W prog d f):=CN d
theorem s0(d:Nat):Bv (W prog (d+1) 0):=Et (Δ:=W prog d) (D:=d0) rfl rfl rfl
theorem s2(d:Nat):HC (W prog (d+1) 2):=Ox (Δ:=W prog d) (D:=d2) rfl rfl rfl
theorem s5(d:Nat):InG (W prog (d+2) 5) (λ_ es=>es.length):=Mg (Δ:=W prog (d+1)) (D:=d5) (s0 d) rfl rfl rfl
theorem s10(d:Nat):Fw (W prog (d+1) 10):=Mi (Δ:=W prog d) (D:=d10) (hW _) rfl rfl rfl
theorem LB(T:Bau):0<dp T:=by cases T;unfold dp;exact Nat.succ_pos _
theorem s11(d:Nat):∀(e:Nat) (T:Bau),dp T<=e->BS (W prog (d+e+3) 11) T
 | 0,T,h=>absurd (LB T) (by omega)
 | e+1,.nd t l,h=>by
   have h:dps l<=e:=by unfold dp at h;omega
   exact Ey (Δ:=W prog (d+e+3)) (D:=d11) (hW _) (s2 (d+e+2)) (s5 (d+e+1)) (s10 (d+e+2)) rfl rfl rfl λT hT=>s11 d e T (dps_at.mp h T hT)
theorem s14(d e:Nat)(T:Bau)(h:dp T<=e):Dj (W prog (d+e+4) 14) T:=L5 (Δ:=W prog (d+e+3)) (D:=d14) (s11 d e T h) rfl rfl rfl
theorem s15(d e:Nat)(T:Bau)(h:dp T<=e):HJ (W prog (d+e+5) 15) T:=L7 (Δ:=W prog (d+e+4)) (D:=d15) (s2 (d+e+3)) (s14 d e T h) rfl rfl rfl
theorem s16(d:Nat):Kc (W prog (d+1) 16):=Md (Δ:=W prog d) (D:=d16) rfl rfl rfl
theorem s17(d:Nat):u9 (W prog (d+1) 17):=Mc (Δ:=W prog d) (D:=d17) rfl rfl rfl
theorem s18(d:Nat):Da (W prog (d+2) 18):=Ke (Δ:=W prog (d+1)) (D:=d18) (hW _) (s17 d) rfl rfl rfl
theorem s19(d:Nat):Kf (W prog (d+3) 19):=Mk (Δ:=W prog (d+2)) (D:=d19) (hW _) (s17 (d+1)) (s18 d) rfl rfl rfl
theorem s20(d:Nat):HK (W prog (d+4) 20):=L9 (Δ:=W prog (d+3)) (D:=d20) (hW _) (s17 (d+2)) (s19 d) rfl rfl rfl
theorem s21(d:Nat):Kl (W prog (d+1) 21):=Km (Δ:=W prog d) (D:=d21) rfl rfl rfl
theorem s22(d:Nat):Bv (W prog (d+1) 22):=Et (Δ:=W prog d) (D:=d22) rfl rfl rfl
theorem s23(d:Nat):AC (W prog (d+2) 23):=IW (Δ:=W prog (d+1)) (D:=d23) (hW _) (s21 d) rfl rfl rfl
theorem s24(d:Nat):BR (W prog (d+3) 24):=Kt (Δ:=W prog (d+2)) (D:=d24) (hW _) (s23 d) rfl rfl rfl
theorem s25(d:Nat):∀(e:Nat) (T:Bau),dp T<=e->Fy (W prog (d+e+4) 25) T
 | 0,T,h=>absurd (LB T) (by omega)
 | e+1,.nd t l,h=>by
   have h:dps l<=e:=by unfold dp at h;omega
   exact IY (Δ:=W prog (d+e+4)) (D:=d25) (hW _) (s22 (d+e+3)) (s24 (d+e+1)) rfl rfl rfl λT hT=>s25 d e T (dps_at.mp h T hT)
theorem s26(d:Nat):∀ e:Nat,HH (W prog (d+e+4) 26) e
 | 0=>F1 (Δ:=W prog (d+3)) (D:=d26) (hW _) (s23 (d+1)) (s24 d) rfl rfl rfl λd' h=>absurd h (by omega)
 | e+1=>F1 (Δ:=W prog (d+e+4)) (D:=d26) (hW _) (s23 (d+e+2)) (s24 (d+e+1)) rfl rfl rfl λd' h=>by
   have:d'=e:=by omega
   rw[this];exact @s26 d e
theorem s27(d:Nat):HI (W prog (d+13) 27):=L0 (Δ:=W prog (d+12)) (D:=d27) (s26 d 8) rfl rfl rfl
theorem s28(d:Nat):∀ e:Nat,Fz (W prog (d+e+4) 28) e
 | 0=>D5 (Δ:=W prog (d+3)) (D:=d28) (hW _) (s17 (d+2)) (s23 (d+1)) (s24 d) rfl rfl rfl λd' h=>absurd h (by omega)
 | e+1=>D5 (Δ:=W prog (d+e+4)) (D:=d28) (hW _) (s17 (d+e+3)) (s23 (d+e+2)) (s24 (d+e+1)) rfl rfl rfl λd' h=>by
   have:d'=e:=by omega
   rw[this];exact @s28 d e
theorem s29(d:Nat){b:Bool}{S:Sto}{Q:QE}(q:Q (.bl true) S):W prog (d+1) 29 [.bl b,.bl b] S Q:=by
 show j0 (W prog d) d29 _ _ _;refine⟨rfl,_,rfl,_,nofun,rfl,_,rfl,ifT rfl ⟨_,rfl,_,rfl,?_⟩⟩;show Q (.bl (decide (b=b))) S;rw[decide_eq_true rfl];exact q
theorem s30(d:Nat):HL (W prog (d+2) 30):=LA (Δ:=W prog (d+1)) (D:=d30) (s17 d) rfl rfl rfl
mutual
theorem LC{n n':Nat}(h:n<=n'):∀ T:Bau,v9 n T->v9 n' T
 | .nd t l,k=>by unfold v9 at k ⊢;exact⟨RC k.1 h,HM h l k.2⟩
theorem HM{n n':Nat}(h:n<=n'):∀ l:List Bau,AD n l->AD n' l
 | [],_=>by unfold AD;trivial
 | T::l,k=>by unfold AD at k ⊢;exact⟨LC h T k.1,HM h l k.2⟩
end
theorem Ml{T:Bau}{n hues:Nat}{es:EE}{S:Sto}{D:EndsS}{o0 o1 o2 o3 o4 o5 o9:Option SV}(hT:dp T<=8)(ok:v9 es.length T)(hel:es.length<=60)(hh:hues<=60)(q:∀(o9:Option SV) (S':Sto),Gw S S'->D.nx [o0,o1,o2,o3,o4,o5,some (enc T),some (i4 n es),some (.int (hues:Nat)),o9] S'):
 wSs (W prog 13) [(.asg (.nm 9) (.call 25 (.cons (.var 7) (.cons (.var 8) (.cons (.lst .nil) (.cons (.var 6) .nil)))))),(.iff (.not (.call 29 (.cons (.call 15 (.cons (.var 7) (.cons (.var 8) (.cons (.tup (.cons (.c (.str "tree")) (.cons (.var 6) .nil))) .nil)))) (.cons (.var 9) .nil)))) [(.ret (.c (.bl false)))] [])] D [o0,o1,o2,o3,o4,o5,some (enc T),some (i4 n es),some (.int (hues:Nat)),o9] S:=by
 refine⟨_,rfl,_,rfl,by show 0<=100000;decide,_,rfl,s25 1 8 T hT (ws:=[]) e5 (by rw[SD];omega) (λ_ h=>nomatch h) ok λS1 G1=>?_⟩;refine⟨_,rfl,_,rfl,_,rfl,by show 2<=100000;decide,s15 0 8 T hT hel hh ok (by omega) λS2 G2=>⟨_,rfl,s29 12 ⟨_,rfl,ifF rfl (j6 (q _ S2 ((Gw.refl S).push.trans (G1.trans G2))))⟩⟩⟩
theorem IZ{p n hues:Nat}{es:EE}{S:Sto}{D:EndsS}{o0 o1 o4 o6 o7 o8 o9:Option SV}(T:TapeS S p)(hn:n<=12)(hel:es.length<=8)(hh:hues<=10)(nx:¬ Ext es hues [])(q:∀(o6 o7 o8 o9:Option SV) (S':Sto),D.nx [o0,o1,some (.loc p),some (i4 n es),o4,some (.int (hues:Nat)),o6,o7,o8,o9] S'):wSs (W prog 13) [Lc,Ld,Le] D [o0,o1,some (.loc p),some (i4 n es),o4,some (.int (hues:Nat)),o6,o7,o8,o9] S:=by
 have tl:=T.lt;refine⟨_,rfl,_,rfl,_,rfl,by show 0<=100000;decide,s28 1 8 T.push (ws:=[]) e5 (by omega) WayOk.nil (by omega) (by rw[SD];omega) nx λB S1 T1 O1 ok dB cB=>?_⟩;show wSs (W prog 13) [Ld,Le] D [o0,o1,some (.loc p),some (i4 n es),o4,some (.int (hues:Nat)),some (enc B),o7,o8,o9] S1;refine⟨_,rfl,_,rfl,_,rfl,by show 2<=100000;decide,s15 0 8 B dB (by omega) (by omega) ok (by omega) λS2 G2=>?_⟩;rw[cB];refine .inr ⟨_,_,rfl,rfl,rfl,_,rfl,ifF rfl (j6 ?_)⟩;show wSt (W prog 13) Le _ [o0,o1,some (.loc p),some (i4 n es),o4,some (.int (hues:Nat)),some (enc B),o7,o8,o9] S2;have em:(if (hues:Int) - 1>0 then (hues:Int) - 1 else 0)=((hues - 1:Nat):Int):=by split<;>omega
 refine⟨_,rfl,_,rfl,by show 2<=100000;decide,_,rfl,_,rfl,by show 2<=100000;decide,_,rfl,by show 2<=100000;decide,_,rfl,_,rfl,s30 11 (G2.tape T1) hn (by omega) λes' S3 l1 l2 T3 O3=>?_⟩;refine⟨_,rfl,by show 2<=100000;decide,by show 4<=100000;decide,_,rfl,?_⟩;rw[em];refine Bu (j5 (hW _) _) (λi ρ S4=>∃ o7 o8 o9:Option SV,ρ=[o0,o1,some (.loc p),some (i4 n es),o4,some (.int (hues:Nat)),some (enc B),o7,o8,o9]) ⟨_,_,_,rfl⟩ (λ_ _ _ _=>trivial) ?_ ?_
 ·rintro i x ρ S4 E hE _ hx ⟨o7,o8,o9,rfl⟩
  have key:∃(es2:EE) (h2:Nat),x = .tup [i4 n es2,.int (h2:Nat)]/\es.length<=es2.length/\es2.length<=9/\h2<=60:=by
   have m:=R1 hx;rcases R0.mp m with rfl | m
   ·exact⟨es,hues+1,rfl,Qs _,by omega,by omega⟩
   ·rcases R0.mp m with rfl | m
    ·exact⟨es,hues - 1,rfl,Qs _,by omega,by omega⟩
    ·rcases R0.mp m with rfl | m
     ·exact⟨es,0,rfl,Qs _,by omega,by omega⟩
     ·rw[Qu.mp m];exact⟨es',hues,rfl,l1,by omega,by omega⟩
  obtain⟨es2,h2,rfl,a,b,c⟩:=key;exact Ml dB (LC a B ok) (by omega) c λo9 S5 _=>hE _ _ ⟨_,_,_,rfl⟩
 ·rintro ρ S4 ⟨o7,o8,o9,rfl⟩;exact j6 (Δ:=W prog 13) (q _ _ _ _ _)
theorem law_main(ns:List Int)(h:ns.length<=63):W prog 14 31 [.ro (ns.map SV.int)] [] λx _=>x = .bl true:=by
 show j0 (W prog 13) d31 _ _ _;refine⟨rfl,_,rfl,_,rfl,?_⟩
 have hj:∃ m:Nat,(if (2:Int)<(if (4:Int)<((ns.map SV.int).length:Int) then 4 else ((ns.map SV.int).length:Int)) then (if (4:Int)<((ns.map SV.int).length:Int) then 4 else ((ns.map SV.int).length:Int)) else 2)=(m:Int)/\m<=4:=by
  rw[Qr];refine⟨max 2 (min 4 ns.length),?_,by omega⟩;split<;>split<;>omega
 obtain⟨m,hm,hm9⟩:=hj;refine⟨m,congrArg SV.int hm,⟨by omega,by omega⟩,?_⟩;refine AA (j5 (hW _) _) (λi ρ S'=>∃ o1 o2 o3 o4 o5 o6 o7 o8 o9,ρ=[some (.ro (ns.map SV.int)),o1,o2,o3,o4,o5,o6,o7,o8,o9]) ⟨none,none,none,none,none,none,none,none,none,rfl⟩ (λ_ _ _ _=>trivial) ?_ ?_
 ·rintro i x ρ S hx ⟨o1,o2,o3,o4,o5,o6,o7,o8,o9,rfl⟩;obtain⟨rfl,hi⟩:=v7 hx;rw[Int.zero_add]at hi ⊢;refine⟨_,rfl,_,rfl,s16 12 h (by omega) λa b ha hb hb2=>?_⟩;have T1:TapeS (S++[SO.lst [.int a,.int b]]) S.length:=⟨a,b,e5,ha,hb,hb2⟩
  refine⟨_,rfl,s20 9 T1 (most:=8) (by decide) λn es S2 en hn hl T2 O2=>?_⟩;dsimp only[List.set];generalize S.length=p at *;refine⟨_,rfl,_,_,rfl,rfl,_,rfl,_,_,rfl,rfl,_,rfl,by show 2<=100000;decide,?_⟩;have e8:BJ (es.map pairS) none (some (8:Int))=(es.take 8).map pairS:=by rw[show BJ (es.map pairS) none (some (8:Int))=(es.map pairS).take 8 from Bg (i:=8),Tj]
  have go:∀ z:SV,z=i4 n (es.take 8)->∀ E:EndsS,(∀(o2 o3 o4 o5 o6 o7 o8 o9:Option SV) (o1:Option SV) (S':Sto),E.nx [some (.ro (ns.map SV.int)),o1,o2,o3,o4,o5,o6,o7,o8,o9] S')->(∀(o2 o3 o4 o5 o6 o7 o8 o9:Option SV) (o1:Option SV) (S':Sto),E.ct [some (.ro (ns.map SV.int)),o1,o2,o3,o4,o5,o6,o7,o8,o9] S')->wSs (W prog 13) [(.asg (.nm 4) (.call 27 (.cons (.var 3) .nil))),La,Lb,Lc,Ld,Le] E [some (.ro (ns.map SV.int)),some (.int (i:Nat)),some (.loc p),some z,o4,o5,o6,o7,o8,o9] S2:=by
   rintro _ rfl E hE hC;have l8:(es.take 8).length<=8:=by rw[RL];omega
   generalize es.take 8=fs at *;refine⟨_,rfl,s27 0 l8 λk S3 G3 kl no=>?_⟩;have T3:=G3.tape T2;show wSs (W prog 13) [La,Lb,Lc,Ld,Le] E [some (.ro (ns.map SV.int)),some (.int (i:Nat)),some (.loc p),some (i4 n fs),some (.int (k:Nat)),o5,o6,o7,o8,o9] S3;refine⟨_,rfl,_,rfl,s17 12 T3 (by decide) (by decide) λr S4 r0 r1 T4 O4 _=>?_⟩
   have fin:∀ z:Int,z=(k:Int) - 1 - r * (if decide ((1:Int)<(k:Nat))=true then 1 else 0)->wSs (W prog 13) [Lb,Lc,Ld,Le] E [some (.ro (ns.map SV.int)),some (.int (i:Nat)),some (.loc p),some (i4 n fs),some (.int (k:Nat)),some (.int z),o6,o7,o8,o9] S4:=by
    intro z hz;refine⟨_,rfl,_,rfl,?_⟩;refine ifD (λ_=>hC _ _ _ _ _ _ _ _ _ _) (λy=>j6 ?_);have y:¬ z<0:=y;obtain⟨hues,rfl⟩:=SK (show 0<=z by omega)
    have lt:hues<k:=by
     split at hz
     ·rw[UM]at hz;omega
     ·rw[Int.mul_zero]at hz;omega
    exact IZ T4 hn l8 (by omega) (no hues lt) λo6 o7 o8 o9 S'=>hE _ _ _ _ _ _ _ _ _ _
   exact⟨_,rfl,.inl ⟨by omega,by omega⟩,fin _ rfl⟩
  exact go _ (by unfold i4;rw[e8]) _ (λ_ _ _ _ _ _ _ _ _ _=>⟨_,_,_,_,_,_,_,_,_,rfl⟩) (λ_ _ _ _ _ _ _ _ _ _=>⟨_,_,_,_,_,_,_,_,_,rfl⟩)
 ·rintro ρ S ⟨o1,o2,o3,o4,o5,o6,o7,o8,o9,rfl⟩;rfl
end Hue
namespace PySem.W.Fast
theorem tw15824761102812545101:True:=⟨⟩
theorem tw3534375103583956338:True:=⟨⟩
theorem tw17581647708219592968:True:=⟨⟩
theorem tw15073387477445918890:True:=⟨⟩
theorem tw16972135479005140436:True:=⟨⟩
theorem tw10899598257408832141:True:=⟨⟩
theorem tw15304962872489238965:True:=⟨⟩
theorem tw2087899796351491251:True:=⟨⟩
theorem tw234932028229034287:True:=⟨⟩
end PySem.W.Fast
namespace Hue
open PySem L2 Rf
noncomputable def l9(K:Qo)(nm:Str)(i:Nat):Prop:=∃(f:UV) (od an:Option UV) (sl:Array (Option UT)) (oc kV dc pm cd ct:UT),PySem.W.nsIn K Ub nm=some (some (.ref f))/\K.lookup f=some ⟨oc,od,.func (PySem.W.fnOf nm nm (defArgs (top i)) (defBody (top i)) (defScope (top i)) .none kV dc pm an cd ct),sl⟩/\PySem.W.codeIn K cd nm=true/\PySem.W.keepIn K (.ref f)=true
theorem lnkK_mk{K:Qo}{nm:Str}{i:Nat}{f:UV}{od an:Option UV}{sl:Array (Option UT)}{oc kV dc pm cd ct:UT}(a:PySem.W.nsIn K Ub nm=some (some (.ref f)))(l:K.lookup f=some ⟨oc,od,.func (PySem.W.fnOf nm nm (defArgs (top i)) (defBody (top i)) (defScope (top i)) .none kV dc pm an cd ct),sl⟩)(c:PySem.W.codeIn K cd nm=true)(k:PySem.W.keepIn K (.ref f)=true):l9 K nm i:=⟨f,od,an,sl,oc,kV,dc,pm,cd,ct,a,l,c,k⟩
theorem g8{K:Qo}{h:Heap}{mg:Str->Option UT}(X:K.In h)(G:h.Ns Ub mg)(D:Df){i:Nat}(x:l9 K D.name i)(e:D.st=top i)(b:∀(kV doc pm:UT) (an:Option UV) (cdv ct:UT) (us:List UT),us.length=D.ps.length->bindArgs (PySem.W.fnOf D.name D.name (defArgs (top i)) (defBody (top i)) (defScope (top i)) .none kV doc pm an cdv ct) ⟨us,[]⟩=pure (D.ps.zip us)):PIn K mg D:=by
 obtain⟨_,_,_,_,_,_,_,_,_,_,a,l,c,k⟩:=x;exact⟨_,_,e▸FF (st:=top i) l c k,PySem.W.mg_of X G a,k,(FF (st:=top i) l c k).binds (ps:=D.ps) b⟩
theorem i7{P:Df->Prop}{D:Df}{l:List Df}(a:P D)(b:∀ x∈l,P x):∀ x∈D::l,P x:=List.forall_mem_cons.mpr ⟨a,b⟩
theorem all_mk{l:PySem.W.OpenLaw}{w:Ud}{K:Qo}{h:Heap}{mg:Str->Option UT}{fa:UV}(X:K.In h)(G:h.Ns Ub mg)(hfa:mg "law"=some (.ref fa))
 (x0:l9 K "is_number" 1)
 (x1:l9 K "is_listed" 2)
 (x2:l9 K "is_pair" 3)
 (x3:l9 K "is_rising" 4)
 (x4:l9 K "has_place" 9)
 (x5:l9 K "has_tie" 10)
 (x6:l9 K "check_place" 11)
 (x7:l9 K "ties_at" 12)
 (x8:l9 K "count_at" 13)
 (x9:l9 K "within" 14)
 (x10:l9 K "open_hues" 16)
 (x11:l9 K "closes" 17)
 (x12:l9 K "is_full_place" 19)
 (x13:l9 K "is_full_set" 20)
 (x14:l9 K "is_full_tree" 21)
 (x15:l9 K "shows_fewer" 22)
 (x16:l9 K "_law_tape" 24)
 (x17:l9 K "_law_draw" 25)
 (x18:l9 K "_law_pairs_by" 26)
 (x19:l9 K "_law_web" 27)
 (x20:l9 K "_law_small" 28)
 (x21:l9 K "_law_meet" 29)
 (x22:l9 K "_law_is_number" 30)
 (x23:l9 K "_law_around" 31)
 (x24:l9 K "_law_tried" 32)
 (x25:l9 K "_law_tree_right" 33)
 (x26:l9 K "_law_can" 34)
 (x27:l9 K "_law_least" 35)
 (x28:l9 K "_law_made_tree" 36)
 (x29:l9 K "_law_truth" 37)
 (x30:l9 K "_law_more" 38)
 (x31:l9 K "law" 39)
 (z0:PySem.W.nsIn K Ub "len"=some none)
 (z1:PySem.W.nsIn K Ub "abs"=some none)
 (z2:PySem.W.nsIn K Ub "min"=some none)
 (z3:PySem.W.nsIn K Ub "max"=some none)
 (z4:PySem.W.nsIn K Ub "int"=some none)
 (z5:PySem.W.nsIn K Ub "list"=some none)
 (z6:PySem.W.nsIn K Ub "tuple"=some none)
 (z7:PySem.W.nsIn K Ub "all"=some none)
 (z8:PySem.W.nsIn K Ub "any"=some none)
 (z9:PySem.W.nsIn K Ub "sorted"=some none)
 (z10:PySem.W.nsIn K Ub "isinstance"=some none)
 (z11:PySem.W.nsIn K Ub "str"=some none)
 (z12:PySem.W.nsIn K Ub "range"=some none)
 (z13:PySem.W.nsIn K Ub "enumerate"=some none)
 (z14:PySem.W.nsIn K Ub "zip"=some none)
 (z15:PySem.W.nsIn K Ub "set"=some none)
 (z16:PySem.W.nsIn K Ub "bool"=some none)
 (z17:PySem.W.nsIn K Ub "dict"=some none)
 (z18:PySem.W.nsIn K Ub "reversed"=some none)
 : ∃ fd:V3,(∀(s:UU) (v:UT),BindsTo s fd ⟨[v],[]⟩ [("_law_script",v)])/\∀ base:Heap,K.In base->base.Ns Ub mg->FnOk l.prog w K mg base CX0 14 fa fd ["_law_script"] (spS K (W prog 14 31)):=by
 have y:=x31;obtain⟨f31,od31,an31,sl31,oc31,kV31,dc31,pm31,cd31,ct31,a31,l31,c31,k31⟩:=x31;have e:=hfa.symm.trans (PySem.W.mg_of X G a31);cases e
 have B:Bl mg:=by
  refine⟨λb=>?_,R7 X G z12,R7 X G z13,R7 X G z18,R7 X G z14,R7 X G z15,R7 X G z17,λt ht=>?_⟩
  ·cases b with
   | len=>exact R7 X G z0
   | abs=>exact R7 X G z1
   | min=>exact R7 X G z2
   | max=>exact R7 X G z3
   | int=>exact R7 X G z4
   | list=>exact R7 X G z5
   | tuple=>exact R7 X G z6
   | all=>exact R7 X G z7
   | any=>exact R7 X G z8
   | sorted=>exact R7 X G z9
   | isi=>exact R7 X G z10
   | str=>exact R7 X G z11
  ·cases t with
   | int=>exact R7 X G z4
   | bool=>exact R7 X G z16
   | str=>exact R7 X G z11
   | list=>exact R7 X G z5
   | tuple=>exact R7 X G z6
   | none=>exact absurd rfl ht
 have hin:∀ D∈prog,PIn K mg D:=i7 (g8 X G d0 x0 rfl λ_ _ _ _ _ _=>Ei λ_=>rfl) (i7 (g8 X G d1 x1 rfl λ_ _ _ _ _ _=>Ei λ_=>rfl) (i7 (g8 X G d2 x2 rfl λ_ _ _ _ _ _=>Ei λ_=>rfl) (i7 (g8 X G d3 x3 rfl λ_ _ _ _ _ _=>Ei λ_=>rfl) (i7 (g8 X G d4 x4 rfl λ_ _ _ _ _ _=>BO λ_ _=>rfl) (i7 (g8 X G d5 x5 rfl λ_ _ _ _ _ _=>BO λ_ _=>rfl) (i7 (g8 X G d6 x6 rfl λ_ _ _ _ _ _=>BO λ_ _=>rfl) (i7 (g8 X G d7 x7 rfl λ_ _ _ _ _ _=>BO λ_ _=>rfl) (i7 (g8 X G d8 x8 rfl λ_ _ _ _ _ _=>BO λ_ _=>rfl) (i7 (g8 X G d9 x9 rfl λ_ _ _ _ _ _=>BO λ_ _=>rfl) (i7 (g8 X G d10 x10 rfl λ_ _ _ _ _ _=>QK λ_ _ _ _ _=>rfl) (i7 (g8 X G d11 x11 rfl λ_ _ _ _ _ _=>QK λ_ _ _ _ _=>rfl) (i7 (g8 X G d12 x12 rfl λ_ _ _ _ _ _=>Ej λ_ _ _=>rfl) (i7 (g8 X G d13 x13 rfl λ_ _ _ _ _ _=>Ej λ_ _ _=>rfl) (i7 (g8 X G d14 x14 rfl λ_ _ _ _ _ _=>Ej λ_ _ _=>rfl) (i7 (g8 X G d15 x15 rfl λ_ _ _ _ _ _=>Ej λ_ _ _=>rfl) (i7 (g8 X G d16 x16 rfl λ_ _ _ _ _ _=>BO λ_ _=>rfl) (i7 (g8 X G d17 x17 rfl λ_ _ _ _ _ _=>BO λ_ _=>rfl) (i7 (g8 X G d18 x18 rfl λ_ _ _ _ _ _=>BO λ_ _=>rfl) (i7 (g8 X G d19 x19 rfl λ_ _ _ _ _ _=>BO λ_ _=>rfl) (i7 (g8 X G d20 x20 rfl λ_ _ _ _ _ _=>BO λ_ _=>rfl) (i7 (g8 X G d21 x21 rfl λ_ _ _ _ _ _=>Ej λ_ _ _=>rfl) (i7 (g8 X G d22 x22 rfl λ_ _ _ _ _ _=>Ei λ_=>rfl) (i7 (g8 X G d23 x23 rfl λ_ _ _ _ _ _=>Ej λ_ _ _=>rfl) (i7 (g8 X G d24 x24 rfl λ_ _ _ _ _ _=>Ma λ_ _ _ _=>rfl) (i7 (g8 X G d25 x25 rfl λ_ _ _ _ _ _=>Ma λ_ _ _ _=>rfl) (i7 (g8 X G d26 x26 rfl λ_ _ _ _ _ _=>Ej λ_ _ _=>rfl) (i7 (g8 X G d27 x27 rfl λ_ _ _ _ _ _=>Ei λ_=>rfl) (i7 (g8 X G d28 x28 rfl λ_ _ _ _ _ _=>Ma λ_ _ _ _=>rfl) (i7 (g8 X G d29 x29 rfl λ_ _ _ _ _ _=>BO λ_ _=>rfl) (i7 (g8 X G d30 x30 rfl λ_ _ _ _ _ _=>BO λ_ _=>rfl) (i7 (g8 X G d31 y rfl λ_ _ _ _ _ _=>Ei λ_=>rfl) (λ_ h=>nomatch h))))))))))))))))))))))))))))))));refine⟨PySem.W.fnOf "law" "law" (defArgs (top 39)) (defBody (top 39)) (defScope (top 39)) .none kV31 dc31 pm31 an31 cd31 ct31,λs v => .of_eq rfl,λbase _ _=>?_⟩
 exact Ka (P:=l.prog) (w:=w) (base:=base) (k:=13) (Δ:=W prog 13) (D:=d31) (FF (st:=top 39) l31 c31 k31) (RB.mp F2 d31 (R1 (show prog[31]?=some d31 from rfl))) B (λg x hx=>by
  rw[R8]at hx;cases hg:prog[g]? with
  | none=>rw[hg]at hx;cases hx
  | some D'=>
    rw[hg]at hx;have:D'.name=x:=by simpa using hx
    subst this;exact⟨D'.ps,Gq F2 B hin 13 g D' hg⟩) (CN 13)
theorem walkL{l:PySem.W.OpenLaw}{q:Ua}{loose:List Str}{XP:(Str->Option UT)->Heap->Prop}{YP:Ud->Heap->Prop}{d:DefRec}{K:Params->Qo}(hn:l.most=some 63)(hdf:d.params.defaults=[])
 (hY:∀(w:Ud) (h:Heap),YP w h->(K w.params).In h)
 (F:∀(w:Ud) (mg:Str->Option UT) (fa:UV) (h:Heap),(K w.params).In h->h.Ns Ub mg->mg d.name=some (.ref fa)->
   ∃ fd:V3,(∀(s:UU) (u:UT),BindsTo s fd ⟨[u],[]⟩ [("_law_script",u)])/\∀ base:Heap,(K w.params).In base->base.Ns Ub mg->FnOk l.prog w (K w.params) mg base CX0 14 fa fd ["_law_script"] (spS (K w.params) (W prog 14 31))):
 PySem.W.WalkO q loose XP YP l.row.toRowW d [] (λf vs=>PySem.call f vs):=
 L2.walk_of (n:=63) (k:=14) (x:="_law_script") (CX:=λ_=>CX0) (sp:=λw=>spS (K w.params) (W prog 14 31)) hn (by decide) hdf ⟨rfl,by decide,by decide,rfl⟩ hY F (λ_ _ a ns hl hO hS=>Ov (law_main ns hl) hO hS) λ_ _ _ _ _ z=>z
end Hue
open PySem PySem.W PyProof.Rows
set_option maxRecDepth 100000 in
set_option maxHeartbeats 0 in
theorem PySem.Challenge.cw_huedties_k39_trees_holds : PySem.Challenge.rw_huedties_k39_trees.Holds := by
 w_on;o_law;k_head;(case hw=>w_witness2)
 k_fill
 refine Hue.walkL (l:=PySem.Challenge.rw_huedties_k39_trees) rfl rfl (λw h Y=>PySem.W.kIn_of Y) ?F
 case F=>
  intro w mg fa h KX G hmg;refine' Hue.all_mk KX G hmg ?_ ?_ ?_ ?_ ?_ ?_ ?_ ?_ ?_ ?_ ?_ ?_ ?_ ?_ ?_ ?_ ?_ ?_ ?_ ?_ ?_ ?_ ?_ ?_ ?_ ?_ ?_ ?_ ?_ ?_ ?_ ?_ ?_ ?_ ?_ ?_ ?_ ?_ ?_ ?_ ?_ ?_ ?_ ?_ ?_ ?_ ?_ ?_ ?_ ?_ ?_
  all_goals first | exact Hue.lnkK_mk (by k_is) (by k_is) (by k_is) (by k_is) | k_is
