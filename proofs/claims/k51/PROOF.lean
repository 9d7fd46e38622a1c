import PyProof.Rows.All
import Wide.All
import OpenK.AllK
import PySem.Challenge.RW_huedties_k51_hues_made_even
set_option Elab.async false
set_option linter.all false
set_option maxRecDepth 100000
open PySem.W renaming Frag->SU,mg_none_of->Ss
open Bool renaming and_eq_true->SW,false_ne_true->Si,not_eq_true'->T6,eq_iff_iff->Tc,or_eq_true->Td,false_eq_true->Uh,true_and->Uq,noConfusion->Vc,false_or->Vo,or_false->Vp,and_comm->Vq
open List renaming length_map->SX,length_append->SY,size_toArray->SZ,getElem?_eq_getElem->Se,range->Sf,mem_singleton->Sg,mem_of_getElem?->Sh,replicate->Sj,mem_cons->Sm,getElem?_map->Sq,getD_eq_getElem?_getD->Sr,mem_cons_of_mem->Su,getElem?_append_left->Sv,mem_append->Sw,map_append->Sx,all_eq_true->Sy,mem_cons_self->T7,length_range->T8,mem_filter->T9,mem_range->TC,getElem?_concat_length->TF,mem_map->TJ,length_singleton->TK,mem_append_right->TL,length_cons->TM,prefix_refl->TN,getElem?_set_self->TQ,getElem?_append_right->TR,map_cons->TU,replicate_succ->TX,getElem_mem->TY,find?_cons->TZ,isEmpty_iff->Ta,mem_append_left->Te,filter_cons->Tf,getD->Th,length_set->Ti,range_succ->Tj,all_cons->Tn,lookup_cons->To,getElem?_of_mem->Tp,filter_congr->Tq,getElem?_range->Tr,any_cons->Tx,getElem?_set_ne->Tz,getElem?_replicate->U0,flatten_cons->U1,append_nil->U2,nodup_cons->U3,length_nil->U4,not_mem_nil->U8,getElem?_eq_none->UB,of_mem_zip->UC,flatMap_cons->UE,filter_eq_self->UG,length_take->UH,length_drop->UI,any_eq_true->UJ,nodup_range->UK,prefix_append->UL,length_replicate->UO,nodup_append->UQ,mem_iff_getElem->US,filterMap_cons->UU,filter_filter->UV,length_eq_zero_iff->UW,length_pos_of_mem->UZ,getElem?_zipWith->Ub,take_append_of_le_length->Uc,nil_append->Ud,find?_eq_none->Uj,perm_ext_iff_of_nodup->Uk,drop_eq_getElem_cons->Ul,length->Uo,cons_ne_nil->Us,take_length->Ut,foldl->Uu,any_map->Uv,find?_cons_of_pos->Uw,find?_cons_of_neg->Ux,forIn_cons->V0,length_filter_le->V2,lookup->V3,forIn_nil->V4,nodup_nil->V6,take_succ->V9,map_congr_left->VA,getElem_of_mem->VB,length_pos_iff->VC,mem_filterMap->VE,zip_cons_cons->VF,pairwise_cons->VG,filter_append->VL,any_eq_false->VN,reverse_cons->VO,append_assoc->VP,all_map->VV,ext_getElem?->VX,zipIdx_cons->Va,drop_length->Vb,flatMap_def->Vd,zipIdx_nil->Vf,head?_drop->Vg,countP_map->Vh,tail_drop->Vj,take_left->Vm,count->Vn,map_nil->Vs,any_nil->Vt,map_map->Vw
open PySem.Heap renaming get?_push_of_some->Sa,lt_size->Sb,get?_push_size->So,size_push->TV,SameBut->Tv,get?_update_other->U6,get?_update_self->UA,IsTuple->VU,update->Vy
open Nat renaming le_refl->Sd,ne_of_lt->Sl,lt_of_lt_of_le->TB,le_trans->TH,le_add_right->Tt,lt_irrefl->Tu,lt_or_ge->UD,not_lt_zero->UN,lt_succ_of_lt->UP,zero_le->UR,lt_succ_self->UT,le_of_lt->UY,lt_trichotomy->Ua,add_le_add_left->Ug,lt_of_le_of_lt->Ui,le_succ->V5,mul_le_mul_right->V8,ne_of_gt->VM,succ_mul->VQ,mul_comm->VR,zero_lt_one->Ve,le_antisymm->Vi,mod_lt->Vk,mul_le_mul->Vl,add_zero->Vu,zero_mod->Vv
open Int renaming natCast_inj->Tb,zero_add->U7,emod_lt_of_pos->U9,toNat_of_nonneg->UF,emod_nonneg->UM,eq_ofNat_of_zero_le->UX,le_antisymm->V1,le_refl->V7,natCast_nonneg->VJ,toNat_natCast->VT,emod_eq_of_lt->VW
open Option renaming isSome_iff_exists->Tw,map_some->U5,isNone_iff_eq_none->Um,bind_some->Ur,map_eq_some_iff->Uy,map_eq_none_iff->Uz,isSome_some->VI,getD_none->VY,getD_some->VZ,none->Vx
open Array renaming length_toList->Ue,append_assoc->VD,toList->Vr
open PySem renaming Value->Vz,wpAny_bind->W0,Addr->W3,Shared->W4,wpAny_pure->W5,sizeLine->W6,wpAny->W7,Program->W8,mainGlobals->W9,model->WB,World->WC,bootBuiltins->WD,starEach->WG,Around->WH,compareOp->WJ,Scope->WK,wpAny_truthy_bool->WL,wpAny_newObj_type->WM,wpAny_field->WN,wpAny_callSpecial?_slot->WQ,wpAny_seqItems->WR,binaryOp->WV,NameKind->WW,cellsFrom->WX,assignEach->WY,wpAny_pyIter_tuple->WZ,wpAny_passesOwn->Wa,FuncData->Wc,wpAny_pyIter_list->Wd,sysModules->We,wpAny_holding->Wf,swappedStores->Wg,call_meets->Wh,wpAny_call_entry->Wi,wpAny_mono->Wj,wpAny_setField_rec->Wk,keywordEach->Wl,swapsWith->Wn,swapsWithSole->Wo,letOwnedTupleGo->Wp,wpAny_rule->Wq,wpAny_Call_Name_kw->Wr,sliceBounds->Ws,wpAny_letGo->Wt,foldedSetIterable->Wu,wpAny_pyIter_enum->Wv,wpAny_tryCatch->Ww,typeIs_int->Wx,wpAny_pyIter_zip->Wy,wpAny_standAt->Wz,attributeBase->X0,richCompare->X1,wpAny_execs_nil->X2,backToKw->X4,newFunctionEnv->X5,wpAny_letOwnedTupleGo_enum->X6,wpAny_binaryOp_repeat_ref->X7,wpAny_letOwnedTupleGo_zip->X8,wpAny_comprehension_free->X9,plainId_quiet->XA,ExceptHandler->XB,tupleKind->XC,Operator->XD,noFill_tuple_add->XE,compEnvC->XF,wpAny_pyNext_enum_itemD->XG,SetTable->XH,wpAny_pyNext_enum_endD->XJ,pushCells_keeps->XM,codeAny_builtin->XN,wpAny_updateSeq->XO,dictSetDefault->XQ,wpAny_updateSeq_pair->XR,seqItems?->XS,assignInOrder->XU,behindInMarks->XW,seq_tuple_add->XX,wpAny_onRaise->XY,builtinsNs->XZ,wpAny_assign_Name->Xb,codeAny_mono->Xd,concat_meets->Xe,wpAny_sequenceKey->Xf,wpAny_typeOf->Xg,seqIndex_neg->Xh,PassesOwn->Xi,pushCells->Xj,seqIndex_of->Xk,entryOfKey->Xl,GenState->Xm,wpAny_Name->Xn,bindName->Xo,wpAny_bindName->Xp,recursionLimit->Xq,fitsIndex_both->Xs,wpAny_setField->Xt,firstArgMember->Xu,constantsAlone->Xv,lastMarks->Xw
open PyProof.Rows renaming assignInOrder_cons->X3,subscriptTail_builtinR->XI,entry_tuple_getitem->XT,args_tuple_getitem->Xa,assignInOrder_nil->Xc,slicePart_none->Xr
abbrev EE:=List (Nat×Nat)
theorem gM{α:Type}{l:List α}{i:Nat}{a:α}(h:l[i]?=some a):∃h:i<l.length,l[i]=a:=List.getElem?_eq_some_iff.mp h
theorem oj{α:Type}{a b:α}(h:some a=some b):a=b:=Option.some.inj h
theorem dQ{p:Prop}[Decidable p]:(decide p=true)=p:=decide_eq_true_eq
theorem iG{c:Prop}{h:Decidable c}(k:¬c){α:Sort u}{t e:α}:ite c t e=e:=if_neg k
theorem iP{c:Prop}{h:Decidable c}(k:c){α:Sort u}{t e:α}:ite c t e=t:=if_pos k
theorem bQ{α:Type u}[BEq α][LawfulBEq α]{a b:α}:a==b↔a=b:=beq_iff_eq
namespace L2
open PySem PySem.Spec PyProof.Rows
noncomputable abbrev Key:=Sum Int Str
noncomputable def Cy:Key->Vz->Bool
 | .inl k,v=>Value.isInt k v
 | .inr x,v=>Value.isStrOf x v
noncomputable def Rp(w:WC):Key->Int
 | .inl k=>hashInt k
 | .inr x=>hashStr w x
theorem j9:∀{k:Key} {v:Vz},Cy k v=true->(∃ i t,k=Sum.inl i/\v=Value.int i t)\/(∃ x t,k=Sum.inr x/\v=Value.str x t)
 | .inl i,v,h=>by
   obtain⟨t,e⟩:=Value.isInt_shape (k:=i) (v:=v) h;exact .inl ⟨i,t,rfl,e⟩
 | .inr x,v,h=>by
   obtain⟨t,e⟩:=Value.isStrOf_shape (x:=x) (v:=v) h;exact .inr ⟨x,t,rfl,e⟩
theorem Hr(i:Int)(t:Tok):Cy (.inl i) (.int i t)=true:=by simp[Cy,Value.isInt]
theorem Hs(x:Str)(t:Tok):Cy (.inr x) (.str x t)=true:=by simp[Cy,Value.isStrOf]
theorem OF(a b:Int):decide ((Sum.inl a:Key)=Sum.inl b)=(a == b):=by
 by_cases e:a=b
 ·subst e;simp
 ·have h:¬ (Sum.inl a:Key)=Sum.inl b:=λq=>e (Sum.inl.inj q);rw[decide_eq_false h];exact(beq_eq_false_iff_ne.mpr e).symm
theorem OG(a b:Str):decide ((Sum.inr a:Key)=Sum.inr b)=decide (a=b):=by
 by_cases e:a=b
 ·subst e;simp
 ·have h:¬ (Sum.inr a:Key)=Sum.inr b:=λq=>e (Sum.inr.inj q);rw[decide_eq_false h,decide_eq_false e]
theorem OH(a:Int)(b:Str):decide ((Sum.inl a:Key)=Sum.inr b)=false:=decide_eq_false (λq=>nomatch q)
theorem OI(a:Str)(b:Int):decide ((Sum.inr a:Key)=Sum.inl b)=false:=decide_eq_false (λq=>nomatch q)
noncomputable def m9(prog:W8)(w:WC):PySem.KeyKind prog w Key where
 is:=Cy
 hash:=Rp w
 inj:=λv a b ha hb=>by
  rcases j9 ha with⟨i,t,rfl,rfl⟩ | ⟨x,t,rfl,rfl⟩
  ·rcases j9 hb with⟨j,u,rfl,e⟩ | ⟨y,u,rfl,e⟩
   ·injection e with e1 _;rw[e1]
   ·exact nomatch e
  ·rcases j9 hb with⟨j,u,rfl,e⟩ | ⟨y,u,rfl,e⟩
   ·exact nomatch e
   ·injection e with e1 _;rw[e1]
 byValue:=λk v h=>by
   rcases j9 h with⟨i,t,rfl,rfl⟩ | ⟨x,t,rfl,rfl⟩<;>rfl
 pyHash:=λhv h=>by
  rcases j9 hv with⟨i,t,rfl,rfl⟩ | ⟨x,t,rfl,rfl⟩
  ·exact wpAny_pyHash_int h
  ·exact wpAny_pyHash_str h
 eqBool:=λhu hv h=>by
  rcases j9 hu with⟨i,t,rfl,rfl⟩ | ⟨x,t,rfl,rfl⟩
  ·rcases j9 hv with⟨j,u,rfl,rfl⟩ | ⟨y,u,rfl,rfl⟩
   ·rw[OF]at h;exact wpAny_eqBool_int h
   ·rw[OH]at h;exact SeqAt.EqAt.int_str i t y u _ _ _ _ h
  ·rcases j9 hv with⟨j,u,rfl,rfl⟩ | ⟨y,u,rfl,rfl⟩
   ·rw[OI]at h;exact SeqAt.EqAt.str_int x t j u _ _ _ _ h
   ·rw[OG]at h;exact wpAny_eqBool_str h
 «strs»:=λk x t v h=>by
  rcases j9 h with⟨i,u,rfl,e⟩ | ⟨y,u,rfl,e⟩
  ·exact nomatch e
  ·injection e with e1 _;subst e1;cases v<;>rfl
theorem EF(prog:W8)(w:WC)(i:Int)(t:Tok):(m9 prog w).is (.inl i) (.int i t)=true:=Hr i t
theorem EG(prog:W8)(w:WC)(x:Str)(t:Tok):(m9 prog w).is (.inr x) (.str x t)=true:=Hs x t
inductive V where
 | non | bl (b:Bool) | int (i:Int) | str (x:Str) | byt (b:Array UInt8) | flt (b:UInt64) | ref (a:W3) | ty (n:String)
 deriving DecidableEq
noncomputable def RelV:V->Vz->Prop
 | .non,u=>u=Value.none
 | .bl b,u=>u=Value.bool b
 | .int i,u=>∃ t,u=Value.int i t
 | .str x,u=>∃ t,u=Value.str x t
 | .byt b,u=>∃ t,u=Value.bytes b t
 | .flt b,u=>∃ t,u=Value.float b t
 | .ref a,u=>u=Value.ref a
 | .ty n,u=>u=Value.type n
noncomputable abbrev Vals:List V->List Vz->Prop:=Paired RelV
theorem Vals.length{xs:List V}{us:List Vz}(r:Vals xs us):xs.length=us.length:=Paired.length r
theorem Vals.get:∀{xs:List V} {us:List Vz} {i:Nat} {x:V},Vals xs us->xs[i]?=some x->∃ u,us[i]?=some u/\RelV x u
 | _,_,_,_,.nil,e=>by simp at e
 | _,_,0,_,.cons r _,e=>by simp at e;subst e;exact⟨_,rfl,r⟩
 | _,_,i+1,x,.cons _ t,e=>by
   obtain⟨u,h1,h2⟩:=Vals.get (i:=i) (x:=x) t (by simpa using e);exact⟨u,by simpa using h1,h2⟩
theorem Vals.set{x:V}{u:Vz}(r:RelV x u):∀{xs:List V} {us:List Vz} (i:Nat),Vals xs us->Vals (xs.set i x) (us.set i u)
 | _,_,_,.nil => .nil
 | _,_,0,.cons _ t => .cons r t
 | _,_,i+1,.cons q t => .cons q (Vals.set r i t)
theorem Vals.append:∀{xs ys:List V} {us ws:List Vz},Vals xs us->Vals ys ws->Vals (xs++ys) (us++ws)
 | _,_,_,_,.nil,s=>s
 | _,_,_,_,.cons r t,s => .cons r (Vals.append t s)
theorem Vals.take:∀{xs:List V} {us:List Vz} (n:Nat),Vals xs us->Vals (xs.take n) (us.take n)
 | _,_,0,_ => .nil
 | _,_,_+1,.nil => .nil
 | _,_,n+1,.cons r t => .cons r (Vals.take n t)
theorem Vals.drop:∀{xs:List V} {us:List Vz} (n:Nat),Vals xs us->Vals (xs.drop n) (us.drop n)
 | _,_,0,r=>r
 | _,_,_+1,.nil => .nil
 | _,_,n+1,.cons _ t=>Vals.drop n t
noncomputable def RelO:Option V->Option Vz->Prop
 | some v,some u=>RelV v u
 | none,none=>True
 | _,_=>False
noncomputable def KV{κ:Type}:List (κ×V)->List (κ×Vz)->Prop:=Paired λ(p:κ×V) (q:κ×Vz)=>p.1=q.1/\RelV p.2 q.2
noncomputable def kV:Key->V
 | .inl i => .int i
 | .inr x => .str x
inductive HO where
 | lst (xs:List V)
 | tup (xs:List V)
 | dK (kvs:List (Key×V)) | dT (kvs:List (List Key×V))
 | set (S:Int->Bool) (n:Nat)
 | ins (C dx:W3) (fs:List (Str×V))
 | own (x:W3)
 | xd (fs:List (Str×V))
 | met (f x:W3)
 | rng (lo hi:Int)
 | frz (o:Obj) (u:HO)
 | tbl (ps:Array Vz)
 | ext (φ:Heap->Prop)
noncomputable abbrev Hp:=W3->Option HO
noncomputable def upd(H:Hp)(a:W3)(o:HO):Hp:=λb=>if b=a then some o else H b
theorem k8{H:Hp}{a:W3}{o:HO}:upd H a o a=some o:=by unfold upd;rw[iP rfl]
theorem f9{H:Hp}{a b:W3}{o:HO}(h:b≠a):upd H a o b=H b:=by unfold upd;rw[iG h]
theorem NZ{H:Hp}{a b:W3}{o u:HO}(h:H a=some o)(h':H b=some u)(d:o≠u):a≠b:=by
 intro e;subst e;rw[h]at h';exact d (oj h')
theorem g8{H:Hp}{a b:W3}{o:HO}(h:H a=some o)(h':H b=none):a≠b:=by
 intro e;subst e;rw[h]at h';cases h'
section
variable(P:W8)(w:WC)
noncomputable def ObjOk(H:Hp)(h:Heap)(a:W3):HO->Prop
 | .lst xs=>xs.length<=W6/\∃(its:List Vz) (n:Nat),Vals xs its/\h.get? a=some {cls := .type "list",data := .seq its.toArray n}
 | .tup xs=>xs.length<=W6/\∃ its:List Vz,Vals xs its/\IsTup h a its.toArray
 | .dK kvs=>kvs.length<=W6/\(a == We)=false/\∃ vs,KV kvs vs/\h.DictOf (m9 P w) a vs
 | .dT kvs=>kvs.length<=W6/\(a == We)=false/\∃ xs:List (List Key×W3×Vz),
    Paired (λ(p:List Key×V) (q:List Key×W3×Vz)=>p.1=q.1/\H q.2.1=some (.tup (p.1.map kV))/\RelV p.2 q.2.2) kvs xs/\
    ∃ o es ep,h.get? a=some o/\o.ExactDict/\o.data = .dict es ep/\es.toList=xs.map (Xl (XC (m9 P w)))/\(xs.map (·.1)).Nodup
 | .set S n=>h.SetOf (intKind P w) a S n
 | .ins C dx fs=>H dx=some (.own a)/\fs.length<=1000/\dx≠a/\h.get? a=some (PySem.W.instObj C dx)/\
    ∃ mA,h.Ns1 dx mA/\(∀ f,RelO (fs.lookup f) (mA f))/\PySem.Within mA (fs.map (·.1))
 | .own _=>∃ o,h.get? a=some o
 | .xd fs=>∃ mA,h.Ns1 a mA/\∀ f,RelO (fs.lookup f) (mA f)
 | .rng lo hi=>∃ t u v,h.get? a=some {cls := .type "range",data := .fields #[.int lo t,.int hi u,.int 1 v]}
 | .frz o u=>h.get? a=some o/\ObjOk H h a u
 | .tbl ps=>h.get? a=some {cls := .none,data := .fields ps}
 | .met f x=>h.get? a=some (PySem.W.methodObj (.ref f) (.ref x))
 | .ext φ=>φ h/\(∃ o,h.get? a=some o)/\∀ h1 h2:Heap,φ h1->(∀ o,h1.get? a=some o->h2.get? a=some o)->φ h2
noncomputable def HOk(H:Hp)(h:Heap):Prop:=∀ a o,H a=some o->ObjOk P w H h a o
end
section
variable{P:W8}{w:WC}{H H':Hp}{h h':Heap}{a:W3}{o:HO}
theorem ObjOk.lt(x:ObjOk P w H h a o):a<h.objs.size:=by
 cases o with
 | lst xs=>obtain⟨_,_,_,_,e⟩:=x;exact Sb e
 | tup xs=>obtain⟨_,_,_,p⟩:=x;exact p.lt
 | dK kvs=>obtain⟨_,_,_,_,o,_,_,e,_⟩:=x;exact Sb e
 | dT kvs=>obtain⟨_,_,_,_,o,_,_,e,_⟩:=x;exact Sb e
 | set S n=>obtain⟨o,_,_,_,e,_⟩:=x;exact Sb e
 | ins C dx fs=>obtain⟨_,_,_,e,_⟩:=x;exact Sb e
 | own y=>obtain⟨_,e⟩:=x;exact Sb e
 | xd fs=>obtain⟨_,⟨_,_,_,e,_⟩,_⟩:=x;exact Sb e
 | rng lo hi=>obtain⟨_,_,_,e⟩:=x;exact Sb e
 | frz ob u=>obtain⟨e,_⟩:=x;exact Sb e
 | tbl ps=>exact Sb (show h.get? a=some _ from x)
 | met f y=>exact Sb (show h.get? a=some _ from x)
 | ext φ=>obtain⟨_,⟨_,e⟩,_⟩:=x;exact Sb e
theorem Paired.mapP{α β:Type}{F G:α->β->Prop}:∀{l₁:List α} {l₂:List β},Paired F l₁ l₂->(∀ a b,F a b->G a b)->Paired G l₁ l₂
 | _,_,.nil,_ => .nil
 | _,_,.cons r t,f => .cons (f _ _ r) (Paired.mapP t f)
theorem ObjOk.stay(x:ObjOk P w H h a o)(k:∀ b u,(b=a\/H b=some (.own a))->h.get? b=some u->h'.get? b=some u)
 (ho:∀ b,H b=some (.own a)->H' b=some (.own a)) (ht:∀ b xs,H b=some (.tup xs)->H' b=some (.tup xs)):ObjOk P w H' h' a o:=by
 induction o with
 | lst xs=>obtain⟨z,its,n,r,e⟩:=x;exact⟨z,its,n,r,k _ _ (.inl rfl) e⟩
 | tup xs=>obtain⟨z,its,r,ob,e,c⟩:=x;exact⟨z,its,r,ob,k _ _ (.inl rfl) e,c⟩
 | dK kvs=>obtain⟨z,y,vs,r,ob,es,ep,e,c⟩:=x;exact⟨z,y,vs,r,ob,es,ep,k _ _ (.inl rfl) e,c⟩
 | dT kvs=>
   obtain⟨z,y,xs,r,ob,es,ep,e,c⟩:=x;exact⟨z,y,xs,Paired.mapP r λp q z=>⟨z.1,ht _ _ z.2.1,z.2.2⟩,ob,es,ep,k _ _ (.inl rfl) e,c⟩
 | set S n=>obtain⟨ob,es,ep,t,e,c⟩:=x;exact⟨ob,es,ep,t,k _ _ (.inl rfl) e,c⟩
 | ins C dx fs=>
   obtain⟨d,z,ne,e,mA,⟨od,es,ep,e2,c⟩,r⟩:=x;exact⟨ho _ d,z,ne,k _ _ (.inl rfl) e,mA,⟨od,es,ep,k _ _ (.inr d) e2,c⟩,r⟩
 | own y=>obtain⟨ob,e⟩:=x;exact⟨ob,k _ _ (.inl rfl) e⟩
 | xd fs=>obtain⟨mA,⟨od,es,ep,e,c⟩,r⟩:=x;exact⟨mA,⟨od,es,ep,k _ _ (.inl rfl) e,c⟩,r⟩
 | rng lo hi=>obtain⟨t,u,v,e⟩:=x;exact⟨t,u,v,k _ _ (.inl rfl) e⟩
 | frz ob u ih=>obtain⟨e,q⟩:=x;exact⟨k _ _ (.inl rfl) e,ih q⟩
 | tbl ps=>
   have e:h.get? a=some {cls := .none,data := .fields ps}:=x;show h'.get? a=some {cls := .none,data := .fields ps};exact k a _ (.inl rfl) e
 | met f y=>
   have e:h.get? a=some (PySem.W.methodObj (.ref f) (.ref y)):=x;show h'.get? a=some (PySem.W.methodObj (.ref f) (.ref y));exact k a _ (.inl rfl) e
 | ext φ=>obtain⟨p,⟨o,e⟩,st⟩:=x;exact⟨st _ _ p λo q=>k _ _ (.inl rfl) q,⟨o,k _ _ (.inl rfl) e⟩,st⟩
theorem HOk.lt(x:HOk P w H h)(e:H a=some o):a<h.objs.size:=(x a o e).lt
theorem HOk.fresh(x:HOk P w H h)(e:h.objs.size<=a):H a=none:=by
 cases q:H a with
 | none=>rfl
 | some u=>exact absurd (TB (x.lt q) e) (Tu _)
theorem HOk.kept(x:HOk P w H h)(k:∀ b u,h.get? b=some u->h'.get? b=some u):HOk P w H h':=λa o e=>
 (x a o e).stay (λb u _ q=>k b u q) (λ_ q=>q) λ_ _ q=>q
theorem HOk.laid(x:HOk P w H h)(k:∀ b u,h.get? b=some u->h'.get? b=some u)(hp:h.objs.size<=a)(new:ObjOk P w (upd H a o) h' a o):HOk P w (upd H a o) h':=λb u e=>by
 have hn:=x.fresh hp;by_cases hb:b=a
 ·subst hb;rw[k8]at e;cases e;exact new
 ·rw[f9 hb]at e;exact(x b u e).stay (λc v _ q=>k c v q) (λc q=>by rw[f9 (g8 q hn)];exact q) λc xs q=>by rw[f9 (g8 q hn)];exact q
end
noncomputable def Rd(H:Hp)(a:W3)(u:HO):Prop:=H a=some u\/∃ o,H a=some (.frz o u)
theorem Rd.ok{P:W8}{w:WC}{H:Hp}{h:Heap}{a:W3}{u:HO}(r:Rd H a u)(x:HOk P w H h):ObjOk P w H h a u:=by
 rcases r with r | ⟨o,r⟩
 ·exact x a u r
 ·obtain⟨_,q⟩:=x a _ r;exact q
noncomputable def Mut:Option HO->Prop
 | some (.lst _)=>True
 | some (.dK _)=>True
 | some (.dT _)=>True
 | some (.set _ _)=>True
 | some (.ins _ _ _)=>True
 | some (.ext _)=>True
 | _=>False
section
variable{P:W8}{w:WC}{H:Hp}{h h':Heap}{x e:W3}{o':HO}
theorem HOk.write(ok:HOk P w H h)(mu:Mut (H x))(he:e=x\/H e=some (.own x))(k:∀ b u,b≠e->h.get? b=some u->h'.get? b=some u)(heo:∃ u,h'.get? e=some u)
 (new:ObjOk P w (upd H x o') h' x o'):HOk P w (upd H x o') h':=λb u q=>by
 have nown:∀ c y,H c=some (.own y)->c≠x:=λc y r z=>by subst z;rw[r]at mu;exact mu
 have ntup:∀ c xs,H c=some (.tup xs)->c≠x:=λc xs r z=>by subst z;rw[r]at mu;exact mu
 by_cases hb:b=x
 ·subst hb;rw[k8]at q;cases q;exact new
 ·rw[f9 hb]at q;by_cases hbe:b=e
  ·have q':H b=some (.own x):=by
    rcases he with z | z
    ·exact absurd (hbe.trans z) hb
    ·rw[hbe];exact z
   rw[q]at q';cases q';obtain⟨v,hv⟩:=heo;exact⟨v,by rw[hbe];exact hv⟩
  ·refine(ok b u q).stay (λc v hc r=>k c v ?_ r) (λc r=>by rw[f9 (nown c b r)];exact r) λc xs r=>by rw[f9 (ntup c xs r)];exact r
   rcases hc with rfl | hc
   ·exact hbe
   ·rintro rfl;rcases he with z | z
    ·exact nown c b hc z
    ·rw[hc]at z;cases z;exact hb rfl
end
structure Un(fs ex:List W3)(H H':Hp)(h h':Heap):Prop where
 keep:∀ b o,h.get? b=some o->H b=none->b∉fs->b∉ex->h'.get? b=some o
 slot:∀ b o,h.get? b=some o->H b=none->b∈fs->b∉ex->∃ sl,h'.get? b=some {o with slots:=sl}
 free:∀ b o,h.get? b=some o->H b=none->b∉ex->H' b=none
 there:∀ b o,h.get? b=some o->b∉ex->∃ o',h'.get? b=some o'
 tups:∀ b xs,H b=some (.tup xs)->H' b=some (.tup xs)
 frzs:∀ b o u,H b=some (.frz o (.lst u))->H' b=some (.frz o (.lst u))
 tbls:∀ b ps,H b=some (.tbl ps)->∃ more,H' b=some (.tbl (ps++more))
section
variable{fs fs' ex ex':List W3}{H H1 H2:Hp}{h h1 h2 h':Heap}{a x e:W3}{o:HO}
theorem Un.any(u:Un fs ex H H1 h h1){b:W3}{ob:Obj}(q:h.get? b=some ob)(n:H b=none)(hx:b∉ex):∃ sl,h1.get? b=some {ob with slots:=sl}:=by
 by_cases hb:b∈fs
 ·exact u.slot b ob q n hb hx
 ·exact⟨ob.slots,u.keep b ob q n hb hx⟩
theorem Un.trans(a:Un fs ex H H1 h h1)(b:Un fs ex H1 H2 h1 h2):Un fs ex H H2 h h2 where
 keep:=λc ob q n hc hx=>b.keep c ob (a.keep c ob q n hc hx) (a.free c ob q n hx) hc hx
 slot:=λc ob q n hc hx=>by
  obtain⟨sl,e1⟩:=a.slot c ob q n hc hx;obtain⟨sl',e2⟩:=b.slot c _ e1 (a.free c ob q n hx) hc hx;exact⟨sl',e2⟩
 free:=λc ob q n hx=>by
  obtain⟨o',e1⟩:=a.there c ob q hx;exact b.free c o' e1 (a.free c ob q n hx) hx
 there:=λc ob q hx=>by
  obtain⟨o',e1⟩:=a.there c ob q hx;exact b.there c o' e1 hx
 tups:=λc xs q=>b.tups c xs (a.tups c xs q)
 frzs:=λc ob xs q=>b.frzs c ob xs (a.frzs c ob xs q)
 tbls:=λc ps q=>by
  obtain⟨m1,e1⟩:=a.tbls c ps q;obtain⟨m2,e2⟩:=b.tbls c _ e1;exact⟨m1++m2,by rw[e2,VD]⟩
theorem Un.kept(k:∀ b u,h.get? b=some u->h'.get? b=some u):Un fs ex H H h h':=
 ⟨λb ob q _ _ _=>k b ob q,λb ob q _ _ _=>⟨ob.slots,k b ob q⟩,λ_ _ _ n _=>n,λb ob q _=>⟨ob,k b ob q⟩,λ_ _ q=>q,λ_ _ _ q=>q,λ_ ps q=>⟨#[],by rw[q];simp⟩⟩
theorem Un.refl:Un fs ex H H h h:=Un.kept λ_ _ q=>q
theorem Un.laid(k:∀ b u,h.get? b=some u->h'.get? b=some u)(hp:h.objs.size<=a)(hn:H a=none):Un fs ex H (upd H a o) h h' where
 keep:=λb u q _ _ _=>k b u q
 slot:=λb u q _ _ _=>⟨u.slots,k b u q⟩
 free:=λb u q n _=>by rw[f9 (Sl (TB (Sb q) hp))];exact n
 there:=λb u q _=>⟨u,k b u q⟩
 tups:=λb xs q=>by rw[f9 (g8 q hn)];exact q
 frzs:=λb u xs q=>by rw[f9 (g8 q hn)];exact q
 tbls:=λb ps q=>⟨#[],by rw[f9 (g8 q hn),q];simp⟩
theorem Un.write(mu:Mut (H x))(he:e=x\/H e=some (.own x))(k:∀ b u,b≠e->h.get? b=some u->h'.get? b=some u)(heo:∃ u,h'.get? e=some u):Un fs ex H (upd H x o) h h':=by
 have hx:∀ b,H b=none->b≠x:=λb n z=>by subst z;rw[n]at mu;exact mu
 have hb:∀ b,H b=none->b≠e:=λb n z=>by
  subst z;rcases he with r | r
  ·exact hx b n r
  ·rw[n]at r;cases r
 have hm:∀ b u,H b=some u->¬ Mut (some u)->b≠x:=λb u q nm z=>by subst z;rw[q]at mu;exact nm mu
 refine⟨λb u q n _ _=>k b u (hb b n) q,λb u q n _ _=>⟨u.slots,k b u (hb b n) q⟩,λb u q n _=>by rw[f9 (hx b n)];exact n,λb u q _=>?_,
  λb xs q=>by rw[f9 (hm b _ q λz=>z)];exact q,λb u xs q=>by rw[f9 (hm b _ q λz=>z)];exact q,λb ps q=>⟨#[],by rw[f9 (hm b _ q λz=>z),q];simp⟩⟩
 by_cases hbe:b=e
 ·subst hbe;exact heo
 ·exact⟨u,k b u hbe q⟩
theorem Un.mono(u:Un fs ex H H1 h h1)(hs:∀ b∈fs,b∈fs')(hx:∀ b∈ex,b∈ex'):Un fs' ex' H H1 h h1:=
 ⟨λb ob q n hb he=>u.keep b ob q n (λz=>hb (hs b z)) λz=>he (hx b z),λ_ _ q n _ he=>u.any q n λz=>he (hx _ z),λb ob q n he=>u.free b ob q n λz=>he (hx b z),λb ob q he=>u.there b ob q λz=>he (hx b z),u.tups,u.frzs,u.tbls⟩
end
noncomputable def trk(h:Heap)(H:Hp):List W3:=(Sf h.objs.size).filter λa=>(H a).isSome
noncomputable def DV(h:Heap)(H:Hp):Heap:=PySem.W.hideAll h (trk h H)
theorem Ht(h:Heap)(H:Hp):(DV h H).objs.size=h.objs.size:=PySem.W.hideAll_size _ _
theorem JG{h:Heap}{H:Hp}{b:W3}{o:Obj}(e:h.get? b=some o)(n:H b=none):(DV h H).get? b=some o:=
 PySem.W.hideAll_get _ e λhm=>by
  have q:(H b).isSome=true:=(T9.mp hm).2;rw[n]at q;simp at q
theorem Lp{h:Heap}{H:Hp}{b:W3}{o:Obj}(e:(DV h H).get? b=some o):h.get? b=some o/\H b=none:=by
 have e':h.get? b=some o:=PySem.W.of_hideAll (trk h H) e;refine⟨e',?_⟩;cases q:H b with
 | none=>rfl
 | some x=>
   have hm:b∈trk h H:=T9.mpr ⟨TC.mpr (Sb e'),by simp[q]⟩;have z:(DV h H).get? b=none:=PySem.W.hideAll_none (trk h H) hm;rw[z]at e;cases e
structure Mod(K:SU)(mg:Str->Option Vz)(base:Heap):Prop where
 kin:K.In base
 glob:base.Ns W9 mg
 blt:∃ mb,base.Ns XZ mb/\∀ x:Str,x≠"__name__"->mb x=WD x
 nolimit:base.NoLimit
structure Cx where
 prog:W8
 w:WC
 K:SU
 mg:Str->Option Vz
 base:Heap
 A:WH
 N:List Str
 s₀:W4
 H₀:Hp
 env:Env
 outer:List Env
 stack:List Env
 ex:List W3
 fn:Str->Bool
 calm:Bool
 pn:List (W3×Obj)
 xe:Vz->W4->Prop
noncomputable def frs(l:List Env):List W3:=l.filterMap (·.frame)
noncomputable abbrev Cx.fs(X:Cx):List W3:=frs X.outer
noncomputable def Vis(sc:WK)(x:Str):Prop:=sc.names.lookup x=some .local\/sc.names.lookup x=some .cell\/sc.names.lookup x=some .free
noncomputable def Loc(sc:WK)(x:Str):Prop:=sc.names.lookup x=some .local\/sc.names.lookup x=some .cell
noncomputable def Look(env:Env)(h:Heap)(m:Str->Option Vz)(x:Str)(u:Vz):Prop:=
 (env.kindOf x=some .local/\m x=some u)\/((env.kindOf x=some .cell\/env.kindOf x=some .free)/\∃ c,env.cells.lookup x=some c/\h.IsCell c (some u))
structure Cx.Ok(X:Cx):Prop where
 mod:Mod X.K X.mg X.base
 kind:X.env.scope.kind = .function
 glob:X.env.globals=W9
 blt:X.env.builtins=XZ
 above:X.s₀.heap.objs.size<=X.env.locals
 inj:∀ x y c,X.env.cells.lookup x=some c->X.env.cells.lookup y=some c->x=y
 has:∀ x,(X.env.kindOf x=some .cell\/X.env.kindOf x=some .free)->∃ c,X.env.cells.lookup x=some c
 cab:∀ x c,X.fn x=true->X.env.cells.lookup x=some c->X.s₀.heap.objs.size<=c
 hd:X.calm=true->X.A.handled=none
 frames:X.A.frames=some X.stack
 stk:X.stack=X.outer\/(X.stack=X.env::X.outer/\X.env.frame=some X.env.locals)
 exf:∀ b∈X.ex,b≠X.env.locals/\∀ x c,X.env.cells.lookup x=some c->c≠b
 bs:∀ b o,X.base.get? b=some o->X.s₀.heap.get? b=some o/\X.H₀ b=none
 bsz:X.base.objs.size<=X.s₀.heap.objs.size
 noex:∀ b o,X.base.get? b=some o->b∉X.ex
 exfs:∀ b∈X.ex,b∉X.fs
 funs:X.s₀.heap.FunFrames X.base X.outer
 frf:∀ b∈X.fs,X.H₀ b=none
structure Inv(X:Cx)(pq:List (W3×Obj))(σ:List (Option V))(H:Hp)(s:W4):Prop where
 ok:X.Ok
 os:s.os=X.s₀.os
 bare:AllBare s.gens
 base:Un X.fs X.ex X.H₀ H X.s₀.heap s.heap
 loc:∃ m,s.heap.Ns X.env.locals m/\∀(i:Nat) (x:Str) (v:V),X.N[i]?=some x->σ[i]?=some (some v)->Vis X.env.scope x->∃ u,RelV v u/\Look X.env s.heap m x u
 cell:∀ x c,X.env.cells.lookup x=some c->∃ v,s.heap.IsCell c v
 free:H X.env.locals=none
 freeC:∀ x c,X.env.cells.lookup x=some c->H c=none
 pin:∀ p∈X.pn++pq,s.heap.get? p.1=some p.2/\H p.1=none/\p.1≠X.env.locals/\p.1∉X.fs/\∀ v,p.2.data ≠ .cell v
 hok:HOk X.prog X.w H s.heap
 len:σ.length=X.N.length
section
variable{X:Cx}{pq:List (W3×Obj)}{σ:List (Option V)}{H H':Hp}{s:W4}{h':Heap}
theorem Cx.Ok.nofr(ok:X.Ok){b:W3}{o:Obj}(e:X.base.get? b=some o):b∉X.fs:=λhb=>by
 have:=(ok.funs.mem hb).1;rw[e]at this;cases this
theorem Inv.bs(I:Inv X pq σ H s):∀ b o,X.base.get? b=some o->s.heap.get? b=some o/\H b=none:=λb o e=>
 ⟨I.base.keep b o (I.ok.bs b o e).1 (I.ok.bs b o e).2 (I.ok.nofr e) (I.ok.noex b o e),I.base.free b o (I.ok.bs b o e).1 (I.ok.bs b o e).2 (I.ok.noex b o e)⟩
theorem Inv.bk(I:Inv X pq σ H s):∀ b o,X.base.get? b=some o->s.heap.get? b=some o:=λb o e=>(I.bs b o e).1
theorem Inv.mod(I:Inv X pq σ H s):Mod X.K X.mg X.base:=I.ok.mod
theorem Inv.kIn(I:Inv X pq σ H s):X.K.In s.heap:=I.ok.mod.kin.keeps I.bk
theorem Inv.lt(I:Inv X pq σ H s):X.env.locals<s.heap.objs.size:=let ⟨_,hn,_⟩:=I.loc;hn.lt
theorem Inv.sz(I:Inv X pq σ H s):X.s₀.heap.objs.size<=s.heap.objs.size:=TH I.ok.above (UY I.lt)
theorem Inv.nofs(I:Inv X pq σ H s){a:W3}(h:s.heap.objs.size<=a):a∉X.fs:=λhb=>by
 obtain⟨_,o,ho,_⟩:=I.ok.funs.mem hb;exact absurd (TB (Sb ho) (TH I.sz h)) (Tu _)
theorem Inv.cne(I:Inv X pq σ H s):∀ x c,X.env.cells.lookup x=some c->c≠X.env.locals:=λx c e z=>by
 obtain⟨v,o,ho,hd⟩:=I.cell x c e;obtain⟨m,⟨o',es,ep,ho',hd',_⟩,_⟩:=I.loc;rw[z,ho']at ho;cases ho;rw[hd']at hd;cases hd
theorem Inv.funs(I:Inv X pq σ H s):s.heap.FunFrames X.base X.outer:=by
 have all:∀(l:List Env),(∀ b∈frs l,b∈X.fs)->X.s₀.heap.FunFrames X.base l->s.heap.FunFrames X.base l:=by
  intro l
  induction l with
  | nil=>intro _ _;trivial
  | cons env r ih=>
    intro hs hl;obtain⟨hk,⟨L,o,hf,hn,ho,hd⟩,hr⟩:=hl;have hL:L∈X.fs:=hs L (by unfold frs;rw[UU,hf];exact T7);obtain⟨sl,e⟩:=I.base.slot L o ho (I.ok.frf L hL) hL λz=>I.ok.exfs L z hL;exact⟨hk,⟨L,_,hf,hn,e,hd⟩,ih (λb hb=>hs b (by unfold frs;rw[UU,hf];exact Su _ hb)) hr⟩
 exact all X.outer (λ_ hb=>hb) I.ok.funs
theorem Inv.stack(I:Inv X pq σ H s):s.heap.FunFrames X.base X.stack:=by
 rcases I.ok.stk with e | ⟨e,hf⟩
 ·rw[e];exact I.funs
 ·rw[e];obtain⟨m,hn,_⟩:=I.loc;refine .cons (by rw[I.ok.kind];decide) hf hn ?_ I.funs;exact Heap.get?_none_of_le (TH I.ok.bsz I.ok.above)
theorem Inv.stkSub(I:Inv X pq σ H s):∀ b∈frs X.stack,b∈X.env.locals::X.fs:=λb hb=>by
 rcases I.ok.stk with e | ⟨e,hf⟩
 ·rw[e]at hb;exact Su _ hb
 ·rw[e]at hb;unfold frs at hb;rw[UU,hf]at hb;exact hb
theorem Inv.stkFree(I:Inv X pq σ H s):∀ b∈frs X.stack,H b=none:=λb hb=>by
 rcases Sm.mp (I.stkSub b hb) with e | hb
 ·rw[e];exact I.free
 ·obtain⟨_,o,ho,_⟩:=I.ok.funs.mem hb;exact I.base.free b o ho (I.ok.frf b hb) λz=>I.ok.exfs b z hb
theorem Inv.step{g':Array Xm}{t':Nat}{d':Drawn}{ch:List W3}(I:Inv X pq σ H s)
 (hch:∀ b∈ch,(b∈X.ex\/X.s₀.heap.objs.size<=b)/\b≠X.env.locals/\(∀ x c,X.env.cells.lookup x=some c->c≠b)/\∀ p∈X.pn++pq,p.1≠b)
 (keep:∀ b o,b≠X.env.locals->b∉X.fs->b∉ch->s.heap.get? b=some o->H b=none->h'.get? b=some o)
 (slot:∀ b o,b≠X.env.locals->b∈X.fs->b∉ch->s.heap.get? b=some o->H b=none->∃ sl,h'.get? b=some {o with slots:=sl}) (free:∀ b o,b∉ch->s.heap.get? b=some o->H b=none->H' b=none)
 (there:∀ b o,b∉ch->s.heap.get? b=some o->∃ o',h'.get? b=some o')
 (tups:∀ b xs,H b=some (.tup xs)->H' b=some (.tup xs)) (frzs:∀ b o u,H b=some (.frz o (.lst u))->H' b=some (.frz o (.lst u))) (tbls:∀ b ps,H b=some (.tbl ps)->∃ more,H' b=some (.tbl (ps++more)))
 (ns:∀ m,s.heap.Ns X.env.locals m->h'.Ns X.env.locals m) (hok:HOk X.prog X.w H' h') (hg:AllBare g'):
 Inv X pq σ H' {s with heap:=h',gens:=g',drawn:=d',toks:=t'}:=by
 have neL:∀ b o,X.s₀.heap.get? b=some o->b≠X.env.locals:=λb o e=>Sl (TB (Sb e) I.ok.above)
 have neC:∀ b o,X.s₀.heap.get? b=some o->b∉X.ex->b∉ch:=λb o e hx hb=>by
  rcases(hch b hb).1 with z | z
  ·exact hx z
  ·exact absurd (TB (Sb e) z) (Tu _)
 have cellK:∀ x c,X.env.cells.lookup x=some c->∀ v,s.heap.IsCell c v->h'.IsCell c v:=λx c e v ⟨o,ho,hd⟩=>by
  have nch:c∉ch:=λz=>(hch c z).2.2.1 x c e rfl;by_cases hc:c∈X.fs
  ·obtain⟨sl,q⟩:=slot c o (I.cne x c e) hc nch ho (I.freeC x c e);exact⟨_,q,hd⟩
  ·exact⟨o,keep c o (I.cne x c e) hc nch ho (I.freeC x c e),hd⟩
 refine⟨I.ok,I.os,hg,⟨λb o e n hb hx=>?_,λb o e n hb hx=>?_,λb o e n hx=>?_,λb o e hx=>?_,λb xs e=>tups b xs (I.base.tups b xs e),λb o xs e=>frzs b o xs (I.base.frzs b o xs e),λb ps e=>?_⟩,?_,λx c e=>?_,?_,λx c e=>?_,λp hp=>?_,hok,I.len⟩
 ·exact keep b o (neL b o e) hb (neC b o e hx) (I.base.keep b o e n hb hx) (I.base.free b o e n hx)
 ·obtain⟨sl,e1⟩:=I.base.slot b o e n hb hx;obtain⟨sl',e2⟩:=slot b _ (neL b o e) hb (neC b o e hx) e1 (I.base.free b o e n hx);exact⟨sl',e2⟩
 ·obtain⟨o',e1⟩:=I.base.there b o e hx;exact free b o' (neC b o e hx) e1 (I.base.free b o e n hx)
 ·obtain⟨o',e1⟩:=I.base.there b o e hx;exact there b o' (neC b o e hx) e1
 ·obtain⟨m1,e1⟩:=I.base.tbls b ps e;obtain⟨m2,e2⟩:=tbls b _ e1;exact⟨m1++m2,by rw[e2,VD]⟩
 ·obtain⟨m,hn,hl⟩:=I.loc;refine⟨m,ns m hn,λi x v e1 e2 e3=>?_⟩;obtain⟨u,r,l⟩:=hl i x v e1 e2 e3;refine⟨u,r,?_⟩;rcases l with l | ⟨k,c,e,z⟩
  ·exact .inl l
  ·exact .inr ⟨k,c,e,cellK x c e _ z⟩
 ·obtain⟨v,z⟩:=I.cell x c e;exact⟨v,cellK x c e v z⟩
 ·obtain⟨m,⟨o,_,_,ho,_⟩,_⟩:=I.loc;exact free _ o (λz=>(hch _ z).2.1 rfl) ho I.free
 ·obtain⟨v,o,ho,hd⟩:=I.cell x c e;exact free c o (λz=>(hch c z).2.2.1 x c e rfl) ho (I.freeC x c e)
 ·obtain⟨e,n,ne,nf,d⟩:=I.pin p hp;have nch:p.1∉ch:=λz=>(hch p.1 z).2.2.2 p hp rfl;exact⟨keep p.1 p.2 ne nf nch e n,free p.1 p.2 nch e n,ne,nf,d⟩
theorem Inv.un{t':Nat}(I:Inv X pq σ H s)(u:Un X.fs [] H H' s.heap h')(hok:HOk X.prog X.w H' h'):Inv X pq σ H' {s with heap:=h',toks:=t'}:=by
 obtain⟨m,⟨o,es,ep,ho,r⟩,_⟩:=id I.loc;obtain⟨sl,hL⟩:=u.any ho I.free (by simp)
 exact I.step (g':=s.gens) (d':=s.drawn) (ch:=[]) (λ_ z=>nomatch z) (λb o _ hb _ e n=>u.keep b o e n hb (by simp)) (λb o _ hb _ e n=>u.slot b o e n hb (by simp)) (λb o _ e n=>u.free b o e n (by simp)) (λb o _ e=>u.there b o e (by simp)) u.tups u.frzs u.tbls (λm' hm=>by
  obtain⟨o',es',ep',ho',r'⟩:=hm;rw[ho]at ho';cases ho';exact⟨_,es',ep',hL,r'⟩) hok I.bare
theorem Inv.call{g':Array Xm}{t':Nat}{d':Drawn}{ch:List W3}(I:Inv X pq σ H s)(u:Un (frs X.stack) ch H H' s.heap h')(hok:HOk X.prog X.w H' h')(hg:AllBare g')
 (hch:∀ b∈ch,(b∈X.ex\/X.s₀.heap.objs.size<=b)/\b≠X.env.locals/\(∀ x c,X.env.cells.lookup x=some c->c≠b)/\∀ p∈X.pn++pq,p.1≠b):
 Inv X pq σ H' {s with heap:=h',gens:=g',drawn:=d',toks:=t'}:=by
 obtain⟨m,⟨o,es,ep,ho,r⟩,_⟩:=id I.loc;obtain⟨sl,hL⟩:=u.any ho I.free λz=>(hch _ z).2.1 rfl
 exact I.step (ch:=ch) hch (λb o hL hb hc e n=>u.keep b o e n (λz=>(Sm.mp (I.stkSub b z)).elim hL hb) hc) (λb o _ _ hc e n=>u.any e n hc) (λb o hc e n=>u.free b o e n hc) (λb o hc e=>u.there b o e hc) u.tups u.frzs u.tbls (λm' hm=>by
  obtain⟨o',es',ep',ho',r'⟩:=hm;rw[ho]at ho';cases ho';exact⟨_,es',ep',hL,r'⟩) hok hg
theorem Inv.turned{t':Nat}{it:W3}(I:Inv X pq σ H s)(k:∀ b o,b≠it->s.heap.get? b=some o->h'.get? b=some o)(hn:H it=none)(hL:it≠X.env.locals)
 (h1:it∈X.ex\/X.s₀.heap.objs.size<=it) (h2:∀ x c,X.env.cells.lookup x=some c->c≠it) (h3:∀ p∈X.pn++pq,p.1≠it):Inv X pq σ H {s with heap:=h',toks:=t'}:=by
 have nit:∀ b u,H b=some u->b≠it:=λb u e z=>by rw[z,hn]at e;cases e
 refine I.step (g':=s.gens) (d':=s.drawn) (ch:=[it]) (λb hb=>?_) (λb o _ _ hc e _=>k b o (λz=>hc (by simp[z])) e) (λb o _ _ hc e _=>⟨o.slots,k b o (λz=>hc (by simp[z])) e⟩) (λ_ _ _ _ n=>n)
  (λb o hc e=>⟨o,k b o (λz=>hc (by simp[z])) e⟩) (λ_ _ e=>e) (λ_ _ _ e=>e) (λb ps e=>⟨#[],by rw[e];simp⟩) (λm hm=>?_) (λb u e=>?_) I.bare
 ·have e:b=it:=by simpa using hb
  subst e;exact⟨h1,hL,h2,h3⟩
 ·obtain⟨o,es,ep,ho,r⟩:=hm;exact⟨o,es,ep,k _ o (Ne.symm hL) ho,r⟩
 ·refine(I.hok b u e).stay (λc v hc q=>k c v ?_ q) (λ_ q=>q) λ_ _ q=>q;rcases hc with z | z
  ·rw[z];exact nit b u e
  ·exact nit c _ z
theorem Inv.tok(I:Inv X pq σ H s)(t:Nat):Inv X pq σ H {s with toks:=t}:=I.un (h':=s.heap) (t':=t) Un.refl I.hok
theorem Inv.kept{t':Nat}(I:Inv X pq σ H s)(k:∀ b u,s.heap.get? b=some u->h'.get? b=some u):Inv X pq σ H {s with heap:=h',toks:=t'}:=I.un (Un.kept k) (I.hok.kept k)
theorem Inv.laid{a:W3}{o:HO}{t':Nat}(I:Inv X pq σ H s)(k:∀ b u,s.heap.get? b=some u->h'.get? b=some u)(hp:s.heap.objs.size<=a)(new:ObjOk X.prog X.w (upd H a o) h' a o):
 Inv X pq σ (upd H a o) {s with heap:=h',toks:=t'}:=I.un (Un.laid k hp (I.hok.fresh hp)) (I.hok.laid k hp new)
theorem Inv.write{x e:W3}{o:HO}{t':Nat}(I:Inv X pq σ H s)(mu:Mut (H x))(he:e=x\/H e=some (.own x))(k:∀ b u,b≠e->s.heap.get? b=some u->h'.get? b=some u)(heo:∃ u,h'.get? e=some u)
 (new:ObjOk X.prog X.w (upd H x o) h' x o):Inv X pq σ (upd H x o) {s with heap:=h',toks:=t'}:=I.un (Un.write mu he k heo) (I.hok.write mu he k heo new)
theorem Inv.weak{σ':List (Option V)}(I:Inv X pq σ H s)(hl:σ'.length=σ.length)(w:∀(i:Nat) v,σ'[i]?=some (some v)->σ[i]?=some (some v)):Inv X pq σ' H s:=
 ⟨I.ok,I.os,I.bare,I.base,let ⟨m,hn,hl'⟩:=I.loc;⟨m,hn,λi x v e1 e2 e3=>hl' i x v e1 (w i v e2) e3⟩,I.cell,I.free,I.freeC,I.pin,I.hok,hl.trans I.len⟩
theorem Inv.pins_of{pq':List (W3×Obj)}(I:Inv X pq σ H s)(h:∀ p∈pq',s.heap.get? p.1=some p.2/\H p.1=none/\p.1≠X.env.locals/\p.1∉X.fs/\∀ v,p.2.data ≠ .cell v):Inv X pq' σ H s:=
 ⟨I.ok,I.os,I.bare,I.base,I.loc,I.cell,I.free,I.freeC,λp hp=>(Sw.mp hp).elim (λz=>I.pin p (Te _ z)) (h p),I.hok,I.len⟩
theorem EH{N:List Str}(hN:N.Nodup){i j:Nat}{x:Str}(a:N[i]?=some x)(b:N[j]?=some x):i=j:=by
 obtain⟨h1,e1⟩:=gM a;obtain⟨h2,e2⟩:=gM b;exact(List.getElem_inj hN).mp (e1.trans e2.symm)
theorem Cz{M:Model}{A:WH}{E:Vz->W4->Prop}{i:Nat}{x:Str}{v:V}{u:Vz}{Q:Unit->W4->Prop}(I:Inv X pq σ H s)(hN:X.N.Nodup)(hi:X.N[i]?=some x)(hx:Loc X.env.scope x)(r:RelV v u)
 (h:∀ s',Inv X pq (σ.set i (some v)) H s'->(∃ a,Tv a s.heap s'.heap/\(a=X.env.locals\/X.env.cells.lookup x=some a))->Q () s') (hf:X.fn x=true\/X.env.scope.names.lookup x=some .local:=by first | exact .inl rfl | exact .inr rfl | assumption):W7 M A (storeName X.env x u) Q E s:=by
 obtain⟨m,hn,hl⟩:=id I.loc;have hcls:(X.env.scope.kind == .class||(X.env.scope.kind == .module&&X.env.locals != X.env.globals))=false:=by rw[I.ok.kind];rfl
 have hiσ:i<σ.length:=by rw[I.len];exact(gM hi).1
 have cne:=I.cne
 have tracked:∀{a:W3} {h':Heap},(∃ o,s.heap.get? a=some o/\H a=none)->Tv a s.heap h'->HOk X.prog X.w H h':=λ{a h'} ha hs b ob e=>by
  obtain⟨_,_,hfree⟩:=ha;refine(I.hok b ob e).stay (λc w' hc q=>(hs.2 c ?_).trans q) (λ_ q=>q) λ_ _ q=>q;rintro rfl;rcases hc with rfl | hc
  ·rw[hfree]at e;cases e
  ·rw[hfree]at hc;cases hc
 rcases hx with hk | hk
 ·refine wpAny_storeName_local hk hn (λh' hn' hs=>?_) hcls;obtain⟨oL,_,_,hoL,_⟩:=id hn;refine h _ ⟨I.ok,I.os,I.bare,⟨λb o e n hb hx=>?_,λb o e n hb hx=>?_,I.base.free,λb o e hx=>?_,I.base.tups,I.base.frzs,I.base.tbls⟩,⟨_,hn',λj y v' e1 e2 e3=>?_⟩,λy c e=>?_,I.free,I.freeC,λp hp=>?_,tracked ⟨oL,hoL,I.free⟩ hs,by simpa using I.len⟩ ⟨_,hs,.inl rfl⟩
  ·exact(hs.2 b (Sl (TB (Sb e) I.ok.above))).trans (I.base.keep b o e n hb hx)
  ·obtain⟨sl,e1⟩:=I.base.slot b o e n hb hx;exact⟨sl,(hs.2 b (Sl (TB (Sb e) I.ok.above))).trans e1⟩
  ·obtain⟨o',e1⟩:=I.base.there b o e hx;exact⟨o',(hs.2 b (Sl (TB (Sb e) I.ok.above))).trans e1⟩
  ·by_cases hj:j=i
   ·subst hj;rw[hi]at e1;cases e1;rw[TQ hiσ]at e2;cases e2;exact⟨u,r,.inl ⟨hk,by simp⟩⟩
   ·rw[Tz (Ne.symm hj)]at e2;obtain⟨u',r',q⟩:=hl j y v' e1 e2 e3;refine⟨u',r',?_⟩;rcases q with⟨k,e⟩ | ⟨k,c,e,z⟩
    ·refine .inl ⟨k,?_⟩;have:y≠x:=λe=>hj (EH hN e1 (e▸hi));simp[this,e]
    ·exact .inr ⟨k,c,e,z.sameBut hs (cne y c e)⟩
  ·obtain⟨w',z⟩:=I.cell y c e;exact⟨w',z.sameBut hs (cne y c e)⟩
  ·obtain⟨e,n,ne,nf,d⟩:=I.pin p hp;exact⟨(hs.2 p.1 ne).trans e,n,ne,nf,d⟩
 ·have hfn:X.fn x=true:=by
   rcases hf with z | z
   ·exact z
   ·rw[z]at hk;cases hk
  obtain⟨c,hc⟩:=I.ok.has x (.inl hk);obtain⟨w',z⟩:=I.cell x c hc;refine wpAny_storeName_cell I.ok.kind hk hc z (λh' hc' hs=>?_);obtain⟨oc,hoc,hocd⟩:=id z;refine h {s with heap:=h'} ⟨I.ok,I.os,I.bare,⟨λb o e n hb hx=>?_,λb o e n hb hx=>?_,I.base.free,λb o e hx=>?_,I.base.tups,I.base.frzs,I.base.tbls⟩,⟨m,hn.sameBut hs (Ne.symm (cne x c hc)),λj y v' e1 e2 e3=>?_⟩,λy c' e=>?_,I.free,I.freeC,λp hp=>?_,tracked ⟨oc,hoc,I.freeC x c hc⟩ hs,by simpa using I.len⟩ ⟨c,hs,.inr hc⟩
  ·exact(hs.2 b (Sl (TB (Sb e) (I.ok.cab x c hfn hc)))).trans (I.base.keep b o e n hb hx)
  ·obtain⟨sl,e1⟩:=I.base.slot b o e n hb hx;exact⟨sl,(hs.2 b (Sl (TB (Sb e) (I.ok.cab x c hfn hc)))).trans e1⟩
  ·obtain⟨o',e1⟩:=I.base.there b o e hx;exact⟨o',(hs.2 b (Sl (TB (Sb e) (I.ok.cab x c hfn hc)))).trans e1⟩
  ·by_cases hj:j=i
   ·subst hj;rw[hi]at e1;cases e1;rw[TQ hiσ]at e2;cases e2;exact⟨u,r,.inr ⟨.inl hk,c,hc,hc'⟩⟩
   ·rw[Tz (Ne.symm hj)]at e2;obtain⟨u',r',q⟩:=hl j y v' e1 e2 e3;refine⟨u',r',?_⟩;rcases q with q | ⟨k,c',e,z'⟩
    ·exact .inl q
    ·refine .inr ⟨k,c',e,z'.sameBut hs ?_⟩;rintro rfl;exact hj (EH hN e1 (I.ok.inj _ _ _ e hc▸hi))
  ·by_cases hcc:c'=c
   ·subst hcc;exact⟨_,hc'⟩
   ·obtain⟨w2,z2⟩:=I.cell y c' e;exact⟨w2,z2.sameBut hs hcc⟩
  ·obtain⟨e,n,ne,nf,d⟩:=I.pin p hp;refine⟨(hs.2 p.1 ?_).trans e,n,ne,nf,d⟩;intro q;rw[q,hoc]at e;have q':oc=p.2:=oj e;exact d w' (by rw[<-q'];exact hocd)
theorem BH{M:Model}{A:WH}{E:Vz->W4->Prop}{i:Nat}{x:Str}{v:V}{u:Vz}{Q:Unit->W4->Prop}(I:Inv X pq σ H s)(hN:X.N.Nodup)(hi:X.N[i]?=some x)(hx:Loc X.env.scope x)(r:RelV v u)
 (h:∀ s',Inv X pq (σ.set i (some v)) H s'->Q () s') (hf:X.fn x=true\/X.env.scope.names.lookup x=some .local:=by first | exact .inl rfl | exact .inr rfl | assumption):W7 M A (storeName X.env x u) Q E s:=
 Cz I hN hi hx r (λs' I' _=>h s' I') hf
theorem Inv.call'{s':W4}{ch:List W3}(I:Inv X pq σ H s)(ho:s'.os=s.os)(u:Un (frs X.stack) ch H H' s.heap s'.heap)(hok:HOk X.prog X.w H' s'.heap)(hg:AllBare s'.gens)
 (hch:∀ b∈ch,(b∈X.ex\/X.s₀.heap.objs.size<=b)/\b≠X.env.locals/\(∀ x c,X.env.cells.lookup x=some c->c≠b)/\∀ p∈X.pn++pq,p.1≠b):Inv X pq σ H' s':=by
 obtain⟨h',g',d',t',o'⟩:=s';have e:o'=s.os:=ho;subst e;exact I.call (g':=g') (t':=t') (d':=d') u hok hg hch
end
noncomputable abbrev XK:=Vz->Option W3->Hp->Prop
noncomputable abbrev St:=List (Option V)
noncomputable abbrev VK:=V->Hp->Prop
noncomputable abbrev TE:=St->Hp->VK->Prop
noncomputable abbrev TT:=St->Hp->(Bool->Hp->Prop)->Prop
noncomputable abbrev TA:=St->Hp->(List V->Hp->Prop)->Prop
structure Ends where
 nx:St->Hp->Prop
 rt:VK
 bk:St->Hp->Prop:=λ_ _=>False
 ct:St->Hp->Prop:=λ_ _=>False
noncomputable abbrev TS:=Ends->St->Hp->Prop
noncomputable def EP(X:Cx)(pq:List (W3×Obj))(σ:St)(Q:VK)(u:Vz)(s':W4):Prop:=∃ v H',Inv X pq σ H' s'/\RelV v u/\Q v H'
noncomputable def TP(X:Cx)(pq:List (W3×Obj))(σ:St)(Q:Bool->Hp->Prop)(b:Bool)(s':W4):Prop:=∃ H',Inv X pq σ H' s'/\Q b H'
noncomputable def AP(X:Cx)(pq:List (W3×Obj))(σ:St)(Q:List V->Hp->Prop)(us:List Vz)(s':W4):Prop:=∃ vs H',Inv X pq σ H' s'/\Vals vs us/\Q vs H'
noncomputable def SP(X:Cx)(pq:List (W3×Obj))(D:Ends)(f:Flow)(s':W4):Prop:=
 match f with
 | .next=>∃ σ' H',Inv X pq σ' H' s'/\D.nx σ' H'
 | .brk=>∃ σ' H',Inv X pq σ' H' s'/\D.bk σ' H'
 | .cont=>∃ σ' H',Inv X pq σ' H' s'/\D.ct σ' H'
 | .ret u=>∃ v σ' H',Inv X pq σ' H' s'/\RelV v u/\D.rt v H'
noncomputable def PE(X:Cx)(e:Expr)(t:TE):Prop:=
 ∀(pq:List (W3×Obj)) (s:W4) (σ:St) (H:Hp) (Q:VK),Inv X pq σ H s->t σ H Q->W7 (WB X.prog X.w) X.A (eval e X.env) (EP X pq σ Q) X.xe s
noncomputable def PT(X:Cx)(e:Expr)(t:TT):Prop:=
 ∀(pq:List (W3×Obj)) (s:W4) (σ:St) (H:Hp) (Q:Bool->Hp->Prop),Inv X pq σ H s->t σ H Q->W7 (WB X.prog X.w) X.A (isTrue e X.env (eval e X.env)) (TP X pq σ Q) X.xe s
noncomputable def PW(X:Cx)(e:Expr)(t:TT):Prop:=
 ∀(whole:Sem Vz) (pq:List (W3×Obj)) (s:W4) (σ:St) (H:Hp) (Q:Bool->Hp->Prop),Inv X pq σ H s->t σ H Q->W7 (WB X.prog X.w) X.A (isTrue e X.env whole) (TP X pq σ Q) X.xe s
theorem PW.pt{X:Cx}{e:Expr}{t:TT}(h:PW X e t):PT X e t:=h _
noncomputable def PA(X:Cx)(es:List Expr)(t:TA):Prop:=
 ∀(pos:Pos) (pq:List (W3×Obj)) (s:W4) (σ:St) (H:Hp) (Q:List V->Hp->Prop),Inv X pq σ H s->t σ H Q->W7 (WB X.prog X.w) X.A (spliced (backTo pos (WG es X.env))) (AP X pq σ Q) X.xe s
noncomputable def PS(X:Cx)(st:Stmt)(t:TS):Prop:=
 ∀(pq:List (W3×Obj)) (s:W4) (σ:St) (H:Hp) (D:Ends),Inv X pq σ H s->t D σ H->W7 (WB X.prog X.w) X.A (exec st X.env) (SP X pq D) X.xe s
noncomputable def PSs(X:Cx)(st:List Stmt)(t:TS):Prop:=
 ∀(pq:List (W3×Obj)) (s:W4) (σ:St) (H:Hp) (D:Ends),Inv X pq σ H s->t D σ H->W7 (WB X.prog X.w) X.A (execs st X.env) (SP X pq D) X.xe s
theorem thn{α:Type}{t:Sem α}{Q Q':α->W4->Prop}{M:Model}{A:WH}{E:Vz->W4->Prop}{s:W4}(h:W7 M A t Q E s)(hQ:∀ a s,Q a s->Q' a s):W7 M A t Q' E s:=Wj h hQ λ_ _ x=>x
section
variable{X:Cx}
noncomputable def EI(i:Nat):TE:=λσ H Q=>∃ v,σ[i]?=some (some v)/\Q v H
noncomputable def tC(v:V):TE:=λ_ H Q=>Q v H
theorem OJ{i:Nat}{x:Str}{pos:Pos}(hN:X.N[i]?=some x)(hv:Vis X.env.scope x)(hd:(x == ("__debug__":Str))=false:=by decide)(hcd:(x == ("__classdict__":Str))=false:=by decide):PE X (.Name x pos) (EI i):=by
 intro pq s σ H Q I h;obtain⟨v,e,h⟩:=h;obtain⟨m,hn,hl⟩:=I.loc;obtain⟨u,r,l⟩:=hl i x v hN e hv;have fin:EP X pq σ Q u s:=⟨v,H,I,r,h⟩
 rcases l with⟨hk,hm⟩ | ⟨hk,c,hc,hcell⟩
 ·exact Xn (wpAny_loadName_local I.ok.kind hk hn hm fin) hd
 ·rcases hk with hk | hk
  ·exact Xn (wpAny_loadName_cell I.ok.kind hk hc hcell fin) hd
  ·exact Xn (wpAny_loadName_free I.ok.kind hk hc hcell fin hcd) hd
theorem OK{i j pos}:PE X (.Constant (.int i) j pos) (tC (.int i)):=λ_ _ _ H _ I h=>wpAny_Constant_int ⟨.int i,H,I.tok _,⟨_,rfl⟩,h⟩
theorem QL{b j pos}:PE X (.Constant (.bool b) j pos) (tC (.bl b)):=λ_ _ _ H _ I h=>Constant_bool ⟨.bl b,H,I,rfl,h⟩
theorem OL{j pos}:PE X (.Constant .none j pos) (tC .non):=λ_ _ _ H _ I h=>Constant_none ⟨.non,H,I,rfl,h⟩
theorem OM{x j pos}:PE X (.Constant (.str x) j pos) (tC (.str x)):=λ_ _ _ H _ I h=>Calls.Constant_str ⟨.str x,H,I.tok _,⟨_,rfl⟩,h⟩
noncomputable def Gl(X:Cx)(x:Str):Prop:=X.env.kindOf x=some .globalImplicit
theorem Lq{E:Vz->W4->Prop}{pq:List (W3×Obj)}{s:W4}{σ:St}{H:Hp}{x:Str}{u:Vz}{pos:Pos}{Q:Vz->W4->Prop}(I:Inv X pq σ H s)(hg:Gl X x)(hm:X.mg x=some u)(h:Q u s)
 (hd:(x == ("__debug__":Str))=false:=by decide):W7 (WB X.prog X.w) X.A (eval (.Name x pos) X.env) Q E s:=
 Calls.Name_function_global I.ok.kind hg (Calls.loadGlobal_global (by rw[I.ok.glob];exact I.mod.glob.keeps I.bk) hm h) hd
theorem AT{E:Vz->W4->Prop}{pq:List (W3×Obj)}{s:W4}{σ:St}{H:Hp}{x:Str}{u:Vz}{pos:Pos}{Q:Vz->W4->Prop}(I:Inv X pq σ H s)(hg:Gl X x)(hm:X.mg x=none)(hv:WD x=some u)(h:Q u s)
 (hn:x≠"__name__":=by decide) (hd:(x == ("__debug__":Str))=false:=by decide):W7 (WB X.prog X.w) X.A (eval (.Name x pos) X.env) Q E s:=by
 obtain⟨mb,h1,h2⟩:=I.mod.blt;exact Calls.Name_function_global I.ok.kind hg (Calls.loadGlobal_builtin (by rw[I.ok.glob];exact I.mod.glob.keeps I.bk) hm (by rw[I.ok.blt];exact h1.keeps I.bk) ((h2 x hn).trans hv) h) hd
theorem Lr{x:Str}{v:V}{u:Vz}{pos:Pos}(hg:Gl X x)(hm:X.mg x=none)(hv:WD x=some u)(r:RelV v u)(hn:x≠"__name__":=by decide)(hd:(x == ("__debug__":Str))=false:=by decide):PE X (.Name x pos) (tC v):=
 λ_ _ _ H _ I h=>AT I hg hm hv ⟨v,H,I,r,h⟩ hn hd
variable{a b:Expr}{ta tb:TE}{pos:Pos}
variable{tA tB':TT}{rest:List Expr}
noncomputable def QM(t u:TT):TT:=λσ H Q=>t σ H λc H1=>if c=true then u σ H1 Q else Q false H1
noncomputable def tOr(t u:TT):TT:=λσ H Q=>t σ H λc H1=>if c=true then Q true H1 else u σ H1 Q
noncomputable def QN(t:TT):TT:=λσ H Q=>t σ H λc H1=>Q (!c) H1
theorem Ls(ha:PT X a tA):PW X (.BoolOp .And [a] pos) tA:=by
 intro wh pq s σ H Q I h;refine isTrue_and (thn (ha pq s σ H Q I h) λc s1 e=>?_);cases c with
 | true=>exact isTrue_and_nil e
 | false=>exact e
theorem ON(ha:PT X a tA):PW X (.BoolOp .Or [a] pos) tA:=by
 intro wh pq s σ H Q I h;refine isTrue_or (thn (ha pq s σ H Q I h) λc s1 e=>?_);cases c with
 | false=>exact isTrue_or_nil e
 | true=>exact e
theorem JH(ha:PT X a tA)(hb:PW X (.BoolOp .And (b::rest) pos) tB'):PW X (.BoolOp .And (a::b::rest) pos) (QM tA tB'):=by
 intro wh pq s σ H Q I h;refine isTrue_and (thn (ha pq s σ H _ I h) λc s1 ⟨H1,I1,q1⟩=>?_);cases c with
 | true=>exact hb wh pq s1 σ H1 Q I1 q1
 | false=>exact⟨H1,I1,q1⟩
theorem Na(ha:PT X a tA)(hb:PW X (.BoolOp .Or (b::rest) pos) tB'):PW X (.BoolOp .Or (a::b::rest) pos) (tOr tA tB'):=by
 intro wh pq s σ H Q I h;refine isTrue_or (thn (ha pq s σ H _ I h) λc s1 ⟨H1,I1,q1⟩=>?_);cases c with
 | true=>exact⟨H1,I1,q1⟩
 | false=>exact hb wh pq s1 σ H1 Q I1 q1
theorem OO(ha:PT X a tA):PT X (.UnaryOp .Not a pos) (QN tA):=by
 intro pq s σ H Q I h;exact isTrue_not (ha pq s σ H (λc H1=>Q (!c) H1) I h)
noncomputable def Nb(ta tb:TE):TE:=λσ H Q=>ta σ H λx H1=>∃ c,x = .bl c/\if c=true then tb σ H1 Q else Q (.bl false) H1
noncomputable def QO(ta tb:TE):TE:=λσ H Q=>ta σ H λx H1=>∃ c,x = .bl c/\if c=true then Q (.bl true) H1 else tb σ H1 Q
noncomputable def Nc(ta:TE):TE:=λσ H Q=>ta σ H λx H1=>∃ c,x = .bl c/\Q (.bl (!c)) H1
theorem JI{op}{t:TE}(h:PE X a t):PE X (.BoolOp op [a] pos) t:=λpq s σ H Q I hw=>BoolOp_one (h pq s σ H Q I hw)
theorem JJ(ha:PE X a ta)(hb:PE X (.BoolOp .And (b::rest) pos) tb):PE X (.BoolOp .And (a::b::rest) pos) (Nb ta tb):=by
 intro pq s σ H Q I h;refine BoolOp_and (thn (ha pq s σ H _ I h) λv s1 ⟨x,H1,I1,r1,q1⟩=>?_);obtain⟨c,rfl,q1⟩:=q1;cases r1;refine WL ?_;cases c with
 | true=>exact hb pq s1 σ H1 Q I1 q1
 | false=>exact⟨.bl false,H1,I1,rfl,q1⟩
theorem Nd(ha:PE X a ta)(hb:PE X (.BoolOp .Or (b::rest) pos) tb):PE X (.BoolOp .Or (a::b::rest) pos) (QO ta tb):=by
 intro pq s σ H Q I h;refine BoolOp_or (thn (ha pq s σ H _ I h) λv s1 ⟨x,H1,I1,r1,q1⟩=>?_);obtain⟨c,rfl,q1⟩:=q1;cases r1;refine WL ?_;cases c with
 | false=>exact hb pq s1 σ H1 Q I1 q1
 | true=>exact⟨.bl true,H1,I1,rfl,q1⟩
theorem OP(ha:PE X a ta):PE X (.UnaryOp .Not a pos) (Nc ta):=by
 intro pq s σ H Q I h;refine UnaryOp_ (thn (ha pq s σ H _ I h) λv s1 ⟨x,H1,I1,r1,q1⟩=>?_);obtain⟨c,rfl,q1⟩:=q1;cases r1;exact not_of (WL ⟨.bl (!c),H1,I1,rfl,q1⟩)
noncomputable def tIf(t:TT)(ta tb:TE):TE:=λσ H Q=>t σ H λc H1=>if c=true then ta σ H1 Q else tb σ H1 Q
theorem JK{c:Expr}(hc:PT X c tA)(ha:PE X a ta)(hb:PE X b tb):PE X (.IfExp c a b pos) (tIf tA ta tb):=by
 intro pq s σ H Q I h;refine wpAny_IfExp (thn (hc pq s σ H _ I h) λd s1 ⟨H1,I1,q1⟩=>?_);cases d with
 | true=>exact ha pq s1 σ H1 Q I1 q1
 | false=>exact hb pq s1 σ H1 Q I1 q1
end
noncomputable def SqL(K:SU)(H:Hp)(a:W3)(xs:List V):Prop:=
 Rd H a (.lst xs)\/
  ∃(o:Obj) (its:Array Vz) (n:Nat),K.lookup a=some o/\o.cls = .type "list"/\o.dict=none/\o.data = .seq its n/\its.size<=W6/\Vals xs its.toList
noncomputable def SqT(K:SU)(H:Hp)(a:W3)(xs:List V):Prop:=
 Rd H a (.tup xs)\/
  ∃(o:Obj) (its:Array Vz) (n:Nat),K.lookup a=some o/\o.cls = .type "tuple"/\o.data = .seq its n/\its.size<=W6/\Vals xs its.toList
noncomputable def Rq:Vz->Option V
 | .none=>some .non
 | .bool b=>some (.bl b)
 | .int i _=>some (.int i)
 | .str x _=>some (.str x)
 | .bytes b _=>some (.byt b)
 | .float b _=>some (.flt b)
 | .ref a=>some (.ref a)
 | .type n=>some (.ty n)
 | _=>none
theorem RelV.abs{x:V}{u:Vz}(r:RelV x u):Rq u=some x:=by
 cases x with
 | non=>cases r;rfl
 | bl _=>cases r;rfl
 | int _=>obtain⟨t,rfl⟩:=r;rfl
 | str _=>obtain⟨t,rfl⟩:=r;rfl
 | byt _=>obtain⟨t,rfl⟩:=r;rfl
 | flt _=>obtain⟨t,rfl⟩:=r;rfl
 | ref _=>cases r;rfl
 | ty _=>cases r;rfl
theorem RelV.inj{x y:V}{u:Vz}(r:RelV x u)(q:RelV y u):x=y:=oj (r.abs.symm.trans q.abs)
theorem Vals.inj:∀{xs ys:List V} {us:List Vz},Vals xs us->Vals ys us->xs=ys
 | _,_,_,.nil,.nil=>rfl
 | _,_,_,.cons r t,.cons r' t'=>by rw[r.inj r',Vals.inj t t']
section
variable{X:Cx}{pq:List (W3×Obj)}{σ:St}{H:Hp}{s:W4}{a:W3}{xs ys:List V}
theorem SqL.of{K:SU}(h:H a=some (.lst xs)):SqL K H a xs := .inl (.inl h)
theorem SqT.of{K:SU}(h:H a=some (.tup xs)):SqT K H a xs := .inl (.inl h)
theorem Inv.list(I:Inv X pq σ H s)(h:SqL X.K H a xs):∃ its:List Vz,Vals xs its/\PlainL s.heap a its.toArray/\xs.length<=W6:=by
 rcases h with h | ⟨o,its,n,hk,hc,hd,hs,hz,r⟩
 ·obtain⟨z,its,n,r,e⟩:=h.ok I.hok;exact⟨its,r,⟨_,n,e,rfl,rfl,rfl⟩,z⟩
 ·refine⟨its.toList,r,⟨o,n,I.kIn a o hk,hc,hd,by simpa using hs⟩,?_⟩;have e:=r.length;simp only[Ue]at e;omega
theorem Inv.tuple(I:Inv X pq σ H s)(h:SqT X.K H a xs):∃ its:List Vz,Vals xs its/\IsTup s.heap a its.toArray/\xs.length<=W6:=by
 rcases h with h | ⟨o,its,n,hk,hc,hs,hz,r⟩
 ·obtain⟨z,its,r,p⟩:=h.ok I.hok;exact⟨its,r,p,z⟩
 ·refine⟨its.toList,r,⟨o,I.kIn a o hk,hc,n,by simpa using hs⟩,?_⟩;have e:=r.length;simp only[Ue]at e;omega
theorem Inv.list_inj(I:Inv X pq σ H s)(h:SqL X.K H a xs)(h':SqL X.K H a ys):xs=ys:=by
 obtain⟨its,r,⟨o,n,e,_,_,d⟩,_⟩:=I.list h;obtain⟨its',r',⟨o',n',e',_,_,d'⟩,_⟩:=I.list h';rw[e]at e';cases e';rw[d]at d';injection d' with d1 _;have:its=its':=by simpa using congrArg Vr d1
 subst this;exact r.inj r'
theorem Inv.tuple_inj(I:Inv X pq σ H s)(h:SqT X.K H a xs)(h':SqT X.K H a ys):xs=ys:=by
 obtain⟨its,r,⟨o,e,_,n,d⟩,_⟩:=I.tuple h;obtain⟨its',r',⟨o',e',_,n',d'⟩,_⟩:=I.tuple h';rw[e]at e';cases e';rw[d]at d';injection d' with d1 _;have:its=its':=by simpa using congrArg Vr d1
 subst this;exact r.inj r'
end
noncomputable abbrev Cx.wish(X:Cx)(E:Vz->W4->Prop):Cx:={X with xe:=E}
noncomputable abbrev Cx.nox(X:Cx):Cx:=X.wish λ_ _=>False
theorem Cx.Ok.wish{X:Cx}(ok:X.Ok)(E:Vz->W4->Prop):(X.wish E).Ok:=
 ⟨ok.mod,ok.kind,ok.glob,ok.blt,ok.above,ok.inj,ok.has,ok.cab,ok.hd,ok.frames,ok.stk,ok.exf,ok.bs,ok.bsz,ok.noex,ok.exfs,ok.funs,ok.frf⟩
theorem Cx.Ok.unwish{X:Cx}{E:Vz->W4->Prop}(ok:(X.wish E).Ok):X.Ok:=
 ⟨ok.mod,ok.kind,ok.glob,ok.blt,ok.above,ok.inj,ok.has,ok.cab,ok.hd,ok.frames,ok.stk,ok.exf,ok.bs,ok.bsz,ok.noex,ok.exfs,ok.funs,ok.frf⟩
section
variable{X:Cx}{pq:List (W3×Obj)}{σ:St}{H:Hp}{s:W4}{E:Vz->W4->Prop}
theorem Inv.wish(I:Inv X pq σ H s)(E:Vz->W4->Prop):Inv (X.wish E) pq σ H s:=⟨I.ok.wish E,I.os,I.bare,I.base,I.loc,I.cell,I.free,I.freeC,I.pin,I.hok,I.len⟩
theorem Inv.unwish(I:Inv (X.wish E) pq σ H s):Inv X pq σ H s:=⟨I.ok.unwish,I.os,I.bare,I.base,I.loc,I.cell,I.free,I.freeC,I.pin,I.hok,I.len⟩
theorem SP.unwish{D:Ends}{f:Flow}{s':W4}(h:SP (X.wish E) pq D f s'):SP X pq D f s':=by
 cases f with
 | next=>obtain⟨σ',H',I,q⟩:=h;exact⟨σ',H',I.unwish,q⟩
 | brk=>obtain⟨σ',H',I,q⟩:=h;exact⟨σ',H',I.unwish,q⟩
 | cont=>obtain⟨σ',H',I,q⟩:=h;exact⟨σ',H',I.unwish,q⟩
 | ret u=>obtain⟨v,σ',H',I,r,q⟩:=h;exact⟨v,σ',H',I.unwish,r,q⟩
theorem PSs.nox{st:List Stmt}{t:TS}(h:PSs X.nox st t):PSs X st t:=λpq s σ H D I hw=>
 Wj (h pq s σ H D (I.wish _) hw) (λ_ _ q=>q.unwish) λ_ _ z=>False.elim z
end
section
variable{X:Cx}{st:Stmt}{rest:List Stmt}{t u:TS}{e:Expr}{te:TE}{pos:Pos}
noncomputable def QP:TS:=λD σ H=>D.nx σ H
noncomputable def Rr(t u:TS):TS:=λD σ H=>t {D with nx:=u D} σ H
theorem Lu:PSs X [] QP:=λ_ _ σ H _ I h=>X2 ⟨σ,H,I,h⟩
theorem JL(h1:PS X st t)(h2:PSs X rest u):PSs X (st::rest) (Rr t u):=by
 intro pq s σ H D I h;refine wpAny_execs_cons (thn (h1 pq s σ H {D with nx:=u D} I h) λf s1 q=>?_);cases f with
 | next=>
   obtain⟨σ',H',I',q⟩:=q;exact h2 pq s1 σ' H' D I' q
 | ret v=>exact q
 | brk=>exact q
 | cont=>exact q
theorem Inv.quiet{pq:List (W3×Obj)}{σ:St}{H:Hp}{s:W4}(I:Inv X pq σ H s):interactive X.env=false:=by simp[interactive,I.ok.kind]
noncomputable def QQ(te:TE):TS:=λD σ H=>te σ H λ_ H1=>D.nx σ H1
theorem Lv(he:PE X e te)(hs:Wn e none pos.line X.env=pure false:=by rfl):PS X (.Expr e pos) (QQ te):=by
 intro pq s σ H D I h;exact wpAny_Expr_any (thn (he pq s σ H _ I h) λv s1 ⟨x,H1,I1,r1,q1⟩=>⟨σ,H1,I1,q1⟩) I.quiet hs
noncomputable def Rs(te:TE):TS:=λD σ H=>te σ H D.rt
theorem OQ(he:PE X e te):PS X (.Return (some e) pos) (Rs te):=by
 intro pq s σ H D I h;exact wpAny_Return_some (thn (he pq s σ H _ I h) λv s1 ⟨x,H1,I1,r1,q1⟩=>⟨x,σ,H1,I1,r1,q1⟩)
noncomputable def QR(c:TT)(t u:TS):TS:=λD σ H=>c σ H λb H1=>if b=true then t D σ H1 else u D σ H1
theorem QS{c:Expr}{a b:List Stmt}{tc:TT}(hc:PT X c tc)(ha:PSs X a t)(hb:PSs X b u):PS X (.If c a b pos) (QR tc t u):=by
 intro pq s σ H D I h;refine wpAny_If (thn (hc pq s σ H _ I h) λd s1 ⟨H1,I1,q1⟩=>?_);cases d with
 | true=>exact ha pq s1 σ H1 D I1 q1
 | false=>exact hb pq s1 σ H1 D I1 q1
end
noncomputable abbrev TG:=V->St->Hp->(St->Hp->Prop)->Prop
noncomputable abbrev TGs:=List V->St->Hp->(St->Hp->Prop)->Prop
noncomputable def PG(X:Cx)(target:Expr)(t:TG):Prop:=
 ∀(pq:List (W3×Obj)) (s:W4) (σ:St) (H:Hp) (v:V) (u:Vz) (Q:St->Hp->Prop),Inv X pq σ H s->RelV v u->t v σ H Q->
  W7 (WB X.prog X.w) X.A (assign target X.env u) (λ_ s'=>∃ σ' H',Inv X pq σ' H' s'/\Q σ' H') X.xe s
noncomputable def PGs(X:Cx)(ts:List Expr)(t:TGs):Prop:=
 ∀(pq:List (W3×Obj)) (s:W4) (σ:St) (H:Hp) (vs:List V) (us:List Vz) (Q:St->Hp->Prop),Inv X pq σ H s->Vals vs us->t vs σ H Q->
  W7 (WB X.prog X.w) X.A (XU ((WY ts X.env).map (·.2)) us) (λ_ s'=>∃ σ' H',Inv X pq σ' H' s'/\Q σ' H') X.xe s
noncomputable abbrev OR:=V->V->V->Hp->(Hp->Prop)->Prop
noncomputable def QT(X:Cx)(t:OR):Prop:=
 ∀(pq:List (W3×Obj)) (s:W4) (σ:St) (H:Hp) (o i v:V) (ov iv u:Vz) (Q:Hp->Prop),Inv X pq σ H s->RelV o ov->RelV i iv->RelV v u->t o i v H Q->
  W7 (WB X.prog X.w) X.A (setItem ov iv u) (λ_ s'=>∃ H',Inv X pq σ H' s'/\Q H') X.xe s
section
variable{X:Cx}{pos:Pos}
noncomputable def Ga(i:Nat):TG:=λv σ H Q=>Q (σ.set i (some v)) H
theorem Lw{i:Nat}{x:Str}(hN:X.N.Nodup)(hi:X.N[i]?=some x)(hx:Loc X.env.scope x)(hf:X.fn x=true\/X.env.scope.names.lookup x=some .local:=by first | exact .inl rfl | exact .inr rfl | assumption):PG X (.Name x pos) (Ga i):=by
 intro pq s σ H v u Q I r h;exact Xb (BH I hN hi hx r (λs' I'=>⟨_,H,I',h⟩) hf)
noncomputable def Rt:TGs:=λvs σ H Q=>vs=[]/\Q σ H
noncomputable def QU(t:TG)(u:TGs):TGs:=λvs σ H Q=>∃ v r,vs=v::r/\t v σ H λσ' H'=>u r σ' H' Q
theorem Lx:PGs X [] Rt:=by
 intro pq s σ H vs us Q I r h;obtain⟨e,h⟩:=h;subst e;cases r;exact Xc ⟨σ,H,I,h⟩
theorem JM{e:Expr}{es:List Expr}{t:TG}{u:TGs}(h1:PG X e t)(h2:PGs X es u)
 (hs:(WY (e::es) X.env).map (·.2)=assign e X.env::(WY es X.env).map (·.2):=by rfl):PGs X (e::es) (QU t u):=by
 intro pq s σ H vs us Q I r h;obtain⟨v,vr,e1,h⟩:=h;subst e1;cases r with
 | cons r rr=>
   rw[hs];refine X3 (thn (h1 pq s σ H _ _ _ I r h) λ_ s1 ⟨σ1,H1,I1,q1⟩=>?_);exact h2 pq s1 σ1 H1 _ _ Q I1 rr q1
noncomputable def Ru(K:SU)(n:Nat)(t:TGs):TG:=λv σ H Q=>∃ a xs,v = .ref a/\SqT K H a xs/\xs.length=n/\t xs σ H Q
theorem OS{es:List Expr}{k:Nat}{t:TGs}{n:Nat}(hc:X.calm=true)(h:PGs X es t)
 (hn:(WY es X.env).length=n:=by rfl) (hst:(WY es X.env).findIdx? (·.1)=none:=by rfl):PG X (.Tuple es k pos) (Ru X.K n t):=by
 intro pq s σ H v u Q I r hw;obtain⟨a,xs,e1,hq,hl,hw⟩:=hw;subst e1;cases r;obtain⟨its,rv,ht,hz⟩:=I.tuple hq;refine assign_Tuple_tuple (I.ok.hd hc) ht (by simp[hn,<-hl,rv.length]) hst λh' hx=>?_;have I1:Inv X pq σ H {s with heap:=h'}:=I.kept (t':=s.toks) λb o e=>hx b o (Sl (Sb e)) e;exact h pq _ σ H xs _ Q I1 (by simpa using rv) hw
noncomputable def QV(to ti:TE)(t:OR):TG:=λv σ H Q=>to σ H λo H1=>ti σ H1 λi H2=>t o i v H2 λH3=>Q σ H3
theorem OT{o i:Expr}{to ti:TE}{t:OR}(ho:PE X o to)(hi:PE X i ti)(hs:QT X t)
 (ha:∀ v,assign (.Subscript o i pos) X.env v=(do
   let ov <- holding [v] (eval o X.env)
   let iv <- holding [v,ov] (eval i X.env)
   standAt pos
   holding [v,ov,iv] (setItem ov iv v)
   release [v,ov,iv] []):=by intro _;rfl):PG X (.Subscript o i pos) (QV to ti t):=by
 intro pq s σ H v u Q I r h;rw[ha];refine W0 (Wf (thn (ho pq s σ H _ I h) λov s1 ⟨x,H1,I1,r1,q1⟩=>?_));refine W0 (Wf (thn (hi pq s1 σ H1 _ I1 q1) λiv s2 ⟨y,H2,I2,r2,q2⟩=>?_));refine W0 (Wz (W0 (Wf (thn (hs pq s2 σ H2 x y v ov iv u _ I2 r1 r2 r q2) λ_ s3 ⟨H3,I3,q3⟩=>?_))));exact wpAny_release ⟨σ,H3,I3,q3⟩
noncomputable def Hu(te:TE)(g:TG):TS:=λD σ H=>te σ H λx H1=>g x σ H1 D.nx
theorem JN{tg e:Expr}{te:TE}{g:TG}(he:PE X e te)(hg:PG X tg g)(hs:Wo [tg] e pos.line X.env=pure false:=by rfl)(hw:Wg [tg] e X.env=pure none:=by rfl)
 (h1:(WY [tg] X.env).map (·.2)=[assign tg X.env]:=by rfl):PS X (.Assign [tg] e pos) (Hu te g):=by
 intro pq s σ H D I h;refine wpAny_Assign_stores (thn (he pq s σ H _ I h) λv s1 ⟨x,H1,I1,r1,q1⟩=>?_) hs hw;rw[h1];exact thn (hg pq s1 σ H1 x v _ I1 r1 q1) λ_ s2 q=>q
theorem OU{i:Nat}{x:Str}{e:Expr}{te:TE}{pos':Pos}(hN:X.N.Nodup)(hi:X.N[i]?=some x)(hx:Loc X.env.scope x)(he:PE X e te)(hs:Wn e (some (.Name x pos')) pos.line X.env=pure false:=by rfl)(hf:X.fn x=true\/X.env.scope.names.lookup x=some .local:=by first | exact .inl rfl | exact .inr rfl | assumption):
 PS X (.Assign [.Name x pos'] e pos) (Hu te (Ga i)):=by
 intro pq s σ H D I h;refine wpAny_Assign_Name (thn (he pq s σ H _ I h) λv s1 ⟨y,H1,I1,r1,q1⟩=>?_) hs;exact BH I1 hN hi hx r1 (λs2 I2=>⟨_,H1,I2,q1⟩) hf
noncomputable def QW(i j:Nat)(ta:TA):TS:=λD σ H=>ta σ H λvs H1=>∃ v w,vs=[v,w]/\D.nx ((σ.set i (some v)).set j (some w)) H1
theorem OV{i j:Nat}{x y:Str}{a b:Expr}{ta:TA}{px py pt:Pos}{kt k2 pt2}(hc:X.calm=true)(hN:X.N.Nodup)(hi:X.N[i]?=some x)(hj:X.N[j]?=some y)(hij:i≠j)
 (hx:X.env.scope.names.lookup x=some .local) (hy:X.env.scope.names.lookup y=some .local) (ha:PA X [a,b] ta)
 (hw:Wg [.Tuple [.Name x px,.Name y py] kt pt] (.Tuple [a,b] k2 pt2) X.env=pure (some [x,y]))
 (hs:Wo [.Tuple [.Name x px,.Name y py] kt pt] (.Tuple [a,b] k2 pt2) pos.line X.env=pure false:=by rfl):
 PS X (.Assign [.Tuple [.Name x px,.Name y py] kt pt] (.Tuple [a,b] k2 pt2) pos) (QW i j ta):=by
 intro pq s σ H D I h;rw[exec_Assign_arm];refine W0 (Wz ?_);rw[hs];refine W0 (W5 ?_);rw[iG (by decide)];refine W0 (Tuple_ (thn (ha _ pq s σ H _ I h) λus s1 ⟨vs,H1,I1,r1,q1⟩=>?_));obtain⟨v,w,e1,q1⟩:=q1;subst e1
 obtain⟨u1,u2,rfl,rv,rw'⟩:∃ u1 u2,us=[u1,u2]/\RelV v u1/\RelV w u2:=by
  cases r1 with
  | cons p q=>
    cases q with
    | cons p' q'=>
      cases q';exact⟨_,_,rfl,p,p'⟩
 refine WM ?_ (by show 2<=W6;decide);have I2:Inv X pq σ H1 {s1 with heap:=s1.heap.push {cls := .type "tuple",data := .seq [u1,u2].toArray}}:=I1.kept (t':=s1.toks) λb o e=>Sa _ e;rw[hw];refine W0 (W5 ?_);show W7 (WB X.prog X.w) X.A (do rule "assign.swapped-stores";let items <- unpackItems (.ref s1.heap.objs.size) 2 none;XU [λv=>Xo X.env y v,λv=>Xo X.env x v] items.reverse;pure Flow.next) _ _ _;refine W0 (Wq (W0 (unpackItems_tuple (items:=#[u1,u2]) (I.ok.hd hc) (IsTup.new s1.heap _) λh' hx'=>?_)));have I3:=I2.kept (h':=h') (t':=s1.toks) λb o e=>hx' b o (Sl (Sb e)) e;show W7 _ _ (XU [λv=>Xo X.env y v,λv=>Xo X.env x v] [u2,u1] >>= λ_=>pure Flow.next) _ _ _;refine W0 (X3 (Xp (BH I3 hN hj (.inl hy) rw' (λs2 I4=>?_) (.inr hy))));refine X3 (Xp (BH I4 hN hi (.inl hx) rv (λs3 I5=>Xc (W5 ?_)) (.inr hx)));rw[List.set_comm _ _ (Ne.symm hij)]at I5;exact⟨_,H1,I5,q1⟩
noncomputable def JO(c:TT)(tb:TS):TS:=λD σ H=>∃ W:Nat->St->Hp->Prop,(∃ m,W m σ H)/\∀ m σ H,W m σ H->
 c σ H λb H1=>if b=true then ∃ N:St->Hp->Prop,(∀ σ' H',N σ' H'->∃ m',m'<m/\W m' σ' H')/\tb {D with nx:=N,ct:=N,bk:=D.nx} σ H1 else D.nx σ H1
theorem JP{c:Expr}{body:List Stmt}{tc:TT}{tb:TS}(hp:Xi (WB X.prog X.w) X.A X.env X.xe)(hc:PT X c tc)(hb:PSs X body tb):PS X (.While c body [] pos) (JO tc tb):=by
 intro pq s σ H D I h;obtain⟨W,⟨m0,w0⟩,turn⟩:=h;refine wpAny_While (codeAny_whileLoop (λn s'=>∃ σ' H',Inv X pq σ' H' s'/\W n σ' H') ?_ m0 ⟨σ,H,I,w0⟩);rintro n s1 ⟨σ1,H1,I1,w1⟩;refine Wa hp (thn (hc pq s1 σ1 H1 _ I1 (turn n σ1 H1 w1)) λb s2 ⟨H2,I2,q2⟩=>?_);cases b with
 | true=>
   obtain⟨N,hN,q2⟩:=q2;rw[iP rfl];refine Wa hp (thn (hb pq s2 σ1 H2 _ I2 q2) λf s3 q3=>?_);cases f with
   | next=>
     obtain⟨σ3,H3,I3,n3⟩:=q3;obtain⟨m',hm,w3⟩:=hN σ3 H3 n3;exact⟨m',hm,σ3,H3,I3,w3⟩
   | cont=>
     obtain⟨σ3,H3,I3,n3⟩:=q3;obtain⟨m',hm,w3⟩:=hN σ3 H3 n3;exact⟨m',hm,σ3,H3,I3,w3⟩
   | brk=>exact q3
   | ret v=>exact q3
 | false=>
   rw[iG Si];exact X2 ⟨σ1,H2,I2,q2⟩
end
structure It where
 go:Nat->Hp->Prop
 yld:Nat->Hp->V->Hp->Prop
 stop:Nat->Hp->Prop
noncomputable def FpOk(X:Cx)(pq:List (W3×Obj))(H:Hp)(b:W3):Prop:=
 H b=none/\b≠X.env.locals/\b∉X.fs/\(b∈X.ex\/X.s₀.heap.objs.size<=b)/\(∀ x c,X.env.cells.lookup x=some c->c≠b)/\∀ p∈X.pn++pq,p.1≠b
theorem Inv.fpOk{X:Cx}{pq:List (W3×Obj)}{σ:St}{H H':Hp}{s:W4}{b:W3}(I:Inv X pq σ H s)(hb:s.heap.objs.size<=b)(hn:H' b=none):FpOk X pq H' b:=by
 refine⟨hn,VM (TB I.lt hb),I.nofs hb,.inr (TH I.sz hb),λx c e z=>?_,λp hp z=>?_⟩
 ·obtain⟨v,q⟩:=I.cell x c e;exact absurd (TB q.lt (by rw[z];exact hb)) (Tu _)
 ·exact absurd (TB (Sb (I.pin p hp).1) (by rw[z];exact hb)) (Tu _)
structure Turn(P:W8)(w:WC)(K:SU)(tg:Expr)(J:It)(fp:List W3)(it:W3)(tn:Nat->Heap->Prop):Prop where
 mem:it∈fp
 obj:∀ i h,tn i h->∀ b∈fp,∃ o,h.get? b=some o/\∀ v,o.data ≠ .cell v
 keep:∀ i h h',tn i h->(∀ b∈fp,∀ o,h.get? b=some o->h'.get? b=some o)->tn i h'
 item:∀(X:Cx),X.prog=P->X.w=w->X.K=K->X.calm=true->∀(i:Nat) (pq:List (W3×Obj)) (s:W4) (σ:St) (H:Hp) (E:Vz->W4->Prop),Inv X pq σ H s->(∀ b∈fp,FpOk X pq H b)->tn i s.heap->J.go i H->
  W7 (WB P w) X.A (pyNext (.ref it)) (λr s1=>∃ u,r=some u/\
   W7 (WB P w) X.A (Wp tg (.ref it) u) (λ_ s2=>∃ x H',Inv X pq σ H' s2/\RelV x u/\J.yld i H x H'/\tn (i+1) s2.heap/\∀ b∈fp,H' b=none) E s1) E s
 done:∀(X:Cx),X.prog=P->X.w=w->X.K=K->X.calm=true->∀(i:Nat) (pq:List (W3×Obj)) (s:W4) (σ:St) (H:Hp) (E:Vz->W4->Prop),Inv X pq σ H s->(∀ b∈fp,FpOk X pq H b)->tn i s.heap->J.stop i H->
   W7 (WB P w) X.A (pyNext (.ref it)) (λr s1=>r=none/\Inv X pq σ H s1) E s
 self:∀(A:WH) (i:Nat) (s:W4) (Q:Vz->W4->Prop) (E:Vz->W4->Prop),tn i s.heap->Q (.ref it) s->W7 (WB P w) A (pyIter (.ref it)) Q E s
noncomputable abbrev TI:=St->Hp->(It->Hp->Prop)->Prop
noncomputable def PIE(X:Cx)(pq:List (W3×Obj))(σ:St)(tg:Expr)(R:It->Hp->Prop)(itv:Vz)(s2:W4):Prop:=
 ∃(it:W3) (fp:List W3) (tn:Nat->Heap->Prop) (J:It) (H':Hp),itv = .ref it/\Inv X pq σ H' s2/\Turn X.prog X.w X.K tg J fp it tn/\tn 0 s2.heap/\(∀ b∈fp,FpOk X pq H' b)/\R J H'
noncomputable def PI(X:Cx)(tg iter:Expr)(wi:TI):Prop:=
 ∀(pq:List (W3×Obj)) (s:W4) (σ:St) (H:Hp) (R:It->Hp->Prop),Inv X pq σ H s->wi σ H R->
  W7 (WB X.prog X.w) X.A (eval iter X.env) (λv s1=>W7 (WB X.prog X.w) X.A (pyIter v) (PIE X pq σ tg R) X.xe s1) X.xe s
theorem JQ{M:Model}{A:WH}{E:Vz->W4->Prop}{s:W4}{tg:Expr}{it:W3}{u:Vz}{o:Obj}{n:String}{vs:Array Vz}{Q:Unit->W4->Prop}(ho:s.heap.get? it=some o)(hc:o.cls = .type n)(hd:o.data = .fields vs)
 (hn:["enumerate","zip","dict_itemiterator","dict_reverseitemiterator","odict_iterator","itertools.zip_longest","itertools.pairwise"].contains n=false) (hQ:Q () s):W7 M A (Wp tg (.ref it) u) Q E s:=by
 unfold Wp
 cases tg<;>first
  | exact W5 hQ
  | (cases u<;>first
      | exact W5 hQ
      | (refine W0 (wpAny_load ho ?_)
         rw[hc,hd];show W7 M A (if (["enumerate","zip","dict_itemiterator","dict_reverseitemiterator","odict_iterator","itertools.zip_longest","itertools.pairwise"].contains n&&vs[0]? == some (rawInt _))=true then _ else _) Q E s;rw[iG (by intro h;rw[hn,Bool.false_and]at h;cases h)];exact W5 hQ))
noncomputable def Itl(K:SU)(a:W3):It:=
 ⟨λi H=>∃ xs x,SqL K H a xs/\xs[i]?=some x,λi H x H'=>H'=H/\∀ xs,SqL K H a xs->xs[i]?=some x,λi H=>∃ xs,SqL K H a xs/\xs.length<=i⟩
noncomputable def Itt(K:SU)(a:W3):It:=
 ⟨λi H=>∃ xs x,SqT K H a xs/\xs[i]?=some x,λi H x H'=>H'=H/\∀ xs,SqT K H a xs->xs[i]?=some x,λi H=>∃ xs,SqT K H a xs/\xs.length<=i⟩
noncomputable def Itr(lo:Int)(n:Nat):It:=⟨λi _=>i<n,λi H x H'=>H'=H/\x = .int (lo+i),λi _=>n<=i⟩
theorem Hv{P:W8}{w:WC}{K:SU}{tg:Expr}(a it:W3):Turn P w K tg (Itl K a) [it] it (λi h=>h.IsListIter it a i) where
 mem:=by simp
 obj:=λi h st b hb=>by
  have e:b=it:=by simpa using hb
  subst e;obtain⟨o,e,c,d⟩:=st;exact⟨o,e,λv z=>by rw[d]at z;cases z⟩
 keep:=λi h h' st k=>st.at λo e=>k it (by simp) o e
 item:=by
  intro X hP hw hK hc i pq s σ H E I hf st hg;subst hP hw hK;obtain⟨xs,x,hq,hx⟩:=hg;obtain⟨its,rv,p,hz⟩:=I.list hq;obtain⟨u,hu,ru⟩:=rv.get hx;obtain⟨f0,f1,f2,f3,f4,f5⟩:=hf it (by simp);refine wpAny_pyNext_list_item st p.isList (x:=u) (by simpa using hu) λh' st' sb=>?_;have I1:Inv X pq σ H {s with heap:=h'}:=I.turned (t':=s.toks) (λb o hb e=>(sb.2 b hb).trans e) f0 f1 f3 f4 f5;obtain⟨o,e,c,d⟩:=id st';exact⟨u,rfl,JQ (s:={s with heap:=h'}) e c d (by decide) ⟨x,H,I1,ru,⟨rfl,λys hy=>by rw[I.list_inj hy hq];exact hx⟩,st',λb hb=>(hf b hb).1⟩⟩
 done:=by
   intro X hP hw hK hc i pq s σ H E I hf st hg;subst hP hw hK;obtain⟨xs,hq,hx⟩:=hg;obtain⟨its,rv,p,hz⟩:=I.list hq;obtain⟨f0,f1,f2,f3,f4,f5⟩:=hf it (by simp);have hl:=rv.length;exact wpAny_pyNext_list_end (I.ok.hd hc) st p.isList (by simp;omega) λh' eb=>⟨rfl,I.turned (t':=s.toks) (λb o hb e=>eb b o hb e) f0 f1 f3 f4 f5⟩
 self:=λ_ _ _ _ _ st h=>wpAny_pyIter_listiter st h
theorem FR{P:W8}{w:WC}{K:SU}{tg:Expr}(a it:W3):Turn P w K tg (Itt K a) [it] it (λi h=>h.IsTupleIter it a i) where
 mem:=by simp
 obj:=λi h st b hb=>by
  have e:b=it:=by simpa using hb
  subst e;obtain⟨o,e,c,d⟩:=st;exact⟨o,e,λv z=>by rw[d]at z;cases z⟩
 keep:=λi h h' st k=>st.at λo e=>k it (by simp) o e
 item:=by
  intro X hP hw hK hc i pq s σ H E I hf st hg;subst hP hw hK;obtain⟨xs,x,hq,hx⟩:=hg;obtain⟨its,rv,p,hz⟩:=I.tuple hq;obtain⟨u,hu,ru⟩:=rv.get hx;obtain⟨f0,f1,f2,f3,f4,f5⟩:=hf it (by simp);refine wpAny_pyNext_tuple_item st (show s.heap.IsTuple a its.toArray from p) (x:=u) (by simpa using hu) λh' st' sb=>?_;have I1:Inv X pq σ H {s with heap:=h'}:=I.turned (t':=s.toks) (λb o hb e=>(sb.2 b hb).trans e) f0 f1 f3 f4 f5;obtain⟨o,e,c,d⟩:=id st';exact⟨u,rfl,JQ (s:={s with heap:=h'}) e c d (by decide) ⟨x,H,I1,ru,⟨rfl,λys hy=>by rw[I.tuple_inj hy hq];exact hx⟩,st',λb hb=>(hf b hb).1⟩⟩
 done:=by
   intro X hP hw hK hc i pq s σ H E I hf st hg;subst hP hw hK;obtain⟨xs,hq,hx⟩:=hg;obtain⟨its,rv,p,hz⟩:=I.tuple hq;obtain⟨f0,f1,f2,f3,f4,f5⟩:=hf it (by simp);have hl:=rv.length;exact wpAny_pyNext_tuple_end (I.ok.hd hc) st (show s.heap.IsTuple a its.toArray from p) (by simp;omega) λh' eb=>⟨rfl,I.turned (t':=s.toks) (λb o hb e=>eb b o hb e) f0 f1 f3 f4 f5⟩
 self:=λ_ _ _ _ _ st h=>wpAny_pyIter_tupleiter st h
theorem FS{P:W8}{w:WC}{K:SU}{tg:Expr}(it:W3)(lo:Int)(n:Nat):Turn P w K tg (Itr lo n) [it] it (λi h=>IsRangeIter h it (lo+(i:Nat) * 1) ((n:Int) - (i:Nat)) 1) where
 mem:=by simp
 obj:=λi h st b hb=>by
  have e:b=it:=by simpa using hb
  subst e
  exact⟨_,st,λv z=>by
   have z':Data.fields _=Data.cell v:=z;cases z'⟩
 keep:=λi h h' st k=>k it (by simp) _ st
 item:=by
  intro X hP hw hK hc i pq s σ H E I hf st hg;subst hP hw hK;obtain⟨f0,f1,f2,f3,f4,f5⟩:=hf it (by simp);have W:=Walks.range (prog:=X.prog) (w:=X.w) (I.ok.hd hc) it lo 1 n;refine W.item i s _ _ hg st λv h' tk hv st' kk=>?_;obtain⟨t,rfl⟩:=hv;have I1:Inv X pq σ H {s with heap:=h',toks:=tk}:=I.turned (λb o hb e=>kk b o (by simpa using hb) e) f0 f1 f3 f4 f5;refine⟨_,rfl,JQ (s:={s with heap:=h',toks:=tk}) (n:="range_iterator") st' rfl rfl (by decide) ⟨.int (lo+i),H,I1,⟨t,?_⟩,⟨rfl,rfl⟩,st',λb hb=>(hf b hb).1⟩⟩;rw[Int.mul_one]
 done:=by
   intro X hP hw hK hc i pq s σ H E I hf st hg;subst hP hw hK;obtain⟨f0,f1,f2,f3,f4,f5⟩:=hf it (by simp);exact wpAny_pyNext_range_end (I.ok.hd hc) st (by have:n<=i:=hg;omega) λh' eb=>⟨rfl,I.turned (t':=s.toks) (λb o hb e=>eb b o hb e) f0 f1 f3 f4 f5⟩
 self:=λ_ _ _ _ _ st h=>wpAny_pyIter_rangeiter st h
section
variable{X:Cx}{tg:Expr}
theorem EJ{pq:List (W3×Obj)}{σ:St}{H:Hp}{s:W4}{R:It->Hp->Prop}{E:Vz->W4->Prop}{lo hi:Int}{t u v:Tok}{tk:Nat}(I:Inv X pq σ H s)(h1:-(2 ^ 62)<=lo)(h2:lo<2 ^ 62)(h3:-(2 ^ 62)<=hi)(h4:hi<2 ^ 62)
 (q:R (Itr lo (hi - lo).toNat) H):W7 (WB X.prog X.w) X.A (pyIter (.ref s.heap.objs.size)) (PIE X pq σ tg R) E {s with heap:=s.heap.push {cls := .type "range",data := .fields #[.int lo t,.int hi u,.int 1 v]},toks:=tk}:=by
 refine wpAny_pyIter_range (IsRange.new ..) (small_one h1 h2 h3 h4) ?_;have I1:Inv X pq σ H {s with heap:=s.heap.push {cls := .type "range",data := .fields #[.int lo t,.int hi u,.int 1 v]},toks:=tk}:=I.kept λb o e=>Sa _ e
 refine⟨(s.heap.push {cls := .type "range",data := .fields #[.int lo t,.int hi u,.int 1 v]}).objs.size,[(s.heap.push {cls := .type "range",data := .fields #[.int lo t,.int hi u,.int 1 v]}).objs.size],_,_,H,rfl,
  I1.kept (t':=tk) λb o e=>Sa _ e,FS _ lo (hi - lo).toNat,?_,λb hb=>?_,q⟩
 ·have e1:lo+((0:Nat):Int) * 1=lo:=by simp
  have e2:(((hi - lo).toNat:Nat):Int) - ((0:Nat):Int)=Builtin.Range.rangeSize lo hi 1:=by rw[rangeSize_one];split<;>omega
  show IsRangeIter _ _ (lo+((0:Nat):Int) * 1) ((((hi - lo).toNat:Nat):Int) - ((0:Nat):Int)) 1;rw[e1,e2];exact So _ rfl
 ·have e:b=(s.heap.push {cls := .type "range",data := .fields #[.int lo t,.int hi u,.int 1 v]}).objs.size:=by simpa using hb
  subst e;exact I1.fpOk (Sd _) (I1.hok.fresh (Sd _))
noncomputable def QX(ta:TA):TI:=λσ H R=>ta σ H λvs H1=>∃ j:Int,vs=[.int j] /\ -(2 ^ 62)<=j/\j<2 ^ 62/\R (Itr 0 j.toNat) H1
noncomputable def QY(ta:TA):TI:=λσ H R=>ta σ H λvs H1=>∃ i j:Int,vs=[.int i,.int j]/\(-(2 ^ 62)<=i/\i<2 ^ 62 /\ -(2 ^ 62)<=j/\j<2 ^ 62)/\R (Itr i (j - i).toNat) H1
theorem Hw{a:Expr}{ta:TA}{p pos:Pos}(hg:Gl X "range")(hm:X.mg "range"=none)(ha:PA X [a] ta)(hs:WG [a] X.env=[(false,eval a X.env)]:=by rfl):PI X tg (.Call (.Name "range" p) [a] [] pos) (QX ta):=by
 intro pq s σ H R I h;refine Call_ (AT I hg hm boot_range (PyProof.Rows.callWith_type1 (thn (ha pos pq s σ H _ I h) λus s1 ⟨vs,H1,I1,r1,q1⟩=>?_) hs rfl));obtain⟨j,e,q1,q2,q⟩:=q1;subst e;cases r1 with
 | cons r rr=>
   cases rr;obtain⟨t,rfl⟩:=r;exact call_range_1 (EJ I1 (by omega) (by omega) q1 q2 (by simpa using q))
theorem Hx{a b:Expr}{ta:TA}{p pos:Pos}(hg:Gl X "range")(hm:X.mg "range"=none)(ha:PA X [a,b] ta)(hs:WG [a,b] X.env=[(false,eval a X.env),(false,eval b X.env)]:=by rfl)(hs2:WG [b] X.env=[(false,eval b X.env)]:=by rfl):
 PI X tg (.Call (.Name "range" p) [a,b] [] pos) (QY ta):=by
 intro pq s σ H R I h;refine Call_ (AT I hg hm boot_range (PyProof.Rows.callWith_type1 (thn (ha pos pq s σ H _ I h) λus s1 ⟨vs,H1,I1,r1,q1⟩=>?_) (by rw[hs,hs2]) (by rw[hs2];rfl)));obtain⟨i,j,e,⟨q1,q2,q3,q4⟩,q⟩:=q1;subst e;cases r1 with
 | cons r rr=>
   cases rr with
   | cons r' rr=>
     cases rr;obtain⟨t,rfl⟩:=r;obtain⟨t',rfl⟩:=r';exact call_range_2 (EJ I1 q1 q2 q3 q4 q)
noncomputable def QZ(wi:TI)(g:TG)(tb:TS):TS:=λD σ H=>wi σ H λJ H1=>∃ W:Nat->Nat->St->Hp->Prop,(∃ m,W 0 m σ H1)/\∀ i m σ H,W i m σ H->
 (J.stop i H/\D.nx σ H)\/(J.go i H/\∃ N:St->Hp->Prop,(∀ σ' H',N σ' H'->∃ m',m'<m/\W (i+1) m' σ' H')/\∀ x H',J.yld i H x H'->g x σ H' λσ2 H2=>tb {D with nx:=N,ct:=N,bk:=D.nx} σ2 H2)
noncomputable def B8(fp:List W3)(h:Heap):List (W3×Obj):=fp.filterMap λb=>(h.get? b).map λo=>(b,o)
theorem AU{fp:List W3}{h:Heap}{b:W3}{o:Obj}(hb:b∈fp)(e:h.get? b=some o):(b,o)∈B8 fp h:=VE.mpr ⟨b,hb,by rw[e];rfl⟩
theorem Hy{fp:List W3}{h:Heap}{p:W3×Obj}(hp:p∈B8 fp h):p.1∈fp/\h.get? p.1=some p.2:=by
 obtain⟨b,hb,e⟩:=VE.mp hp;cases q:h.get? b with
 | none=>rw[q]at e;cases e
 | some o=>
   rw[q]at e;have e':(b,o)=p:=oj e;subst e';exact⟨hb,q⟩
theorem Inv.pinned{pq:List (W3×Obj)}{σ:St}{H:Hp}{s:W4}{fp:List W3}(I:Inv X pq σ H s)(hf:∀ b∈fp,FpOk X pq H b)(ho:∀ b∈fp,∃ o,s.heap.get? b=some o/\∀ v,o.data ≠ .cell v):Inv X (pq++B8 fp s.heap) σ H s:=
 I.pins_of λp hp=>(Sw.mp hp).elim (λz=>I.pin p (TL _ z)) λz=>by
  obtain⟨hb,e⟩:=Hy z;obtain⟨f0,f1,f2,_⟩:=hf p.1 hb;obtain⟨o,e',d⟩:=ho p.1 hb;rw[e]at e';cases e';exact⟨e,f0,f1,f2,d⟩
theorem Inv.unpinned{pq pl:List (W3×Obj)}{σ:St}{H:Hp}{s:W4}(I:Inv X (pq++pl) σ H s):Inv X pq σ H s:=I.pins_of λp hp=>I.pin p (TL _ (Te _ hp))
theorem OW{iter:Expr}{body:List Stmt}{wi:TI}{g:TG}{tb:TS}{pos:Pos}(hp:Xi (WB X.prog X.w) X.A X.env X.xe)(hc:X.calm=true)(hi:PI X tg iter wi)(hg:PG X tg g)(hb:PSs X body tb)
 (hs:∀ x,Wu iter X.env x=pure x:=by intro _;rfl):PS X (.For tg iter body [] pos) (QZ wi g tb):=by
 intro pq s σ H D I h;refine wpAny_For (thn (hi pq s σ H _ I h) λv s1 h1=>thn h1 λitv s2 h2=>?_) hs;obtain⟨it,fp,tn,J,H2,e,I2,T,st2,f2,W,⟨m0,w0⟩,turn⟩:=h2;subst e;have stat:∀{H':Hp},(∀ b∈fp,H' b=none)->∀ b∈fp,FpOk X pq H' b:=λhn b hb=>⟨hn b hb,(f2 b hb).2⟩
 refine codeAny_forLoop_any (λn s'=>∃ i σ' H',Inv X pq σ' H' s'/\tn i s'.heap/\(∀ b∈fp,H' b=none)/\W i n σ' H') ?_ m0 ⟨0,σ,H2,I2,st2,λb hb=>(f2 b hb).1,w0⟩;rintro n s3 ⟨i,σ3,H3,I3,st3,fr3,w3⟩;rcases turn i n σ3 H3 w3 with⟨stop,qn⟩ | ⟨go,N,hN,step⟩
 ·refine Wa hp (thn (T.done X rfl rfl rfl hc i pq s3 σ3 H3 X.xe I3 (stat fr3) st3 stop) λr s4 ⟨hr,I4⟩=>?_);subst hr;exact X2 ⟨σ3,H3,I4,qn⟩
 ·refine Wa hp (thn (T.item X rfl rfl rfl hc i pq s3 σ3 H3 X.xe I3 (stat fr3) st3 go) λr s4 ⟨u,hr,h4⟩=>?_);subst hr;refine Wa hp (thn h4 λ_ s5 ⟨x,H5,I5,r5,y5,st5,fr5⟩=>?_);have I5':=I5.pinned (stat fr5) (T.obj _ _ st5);refine Wa hp (thn (hg _ s5 σ3 H5 x u _ I5' r5 (step x H5 y5)) λ_ s6 ⟨σ6,H6,I6,q6⟩=>?_);refine Wa hp (thn (hb _ s6 σ6 H6 _ I6 q6) λf s7 q7=>?_)
  have again:∀{σ7:St} {H7:Hp},Inv X (pq++B8 fp s5.heap) σ7 H7 s7->N σ7 H7->∃ m,m<n/\∃ i σ' H',Inv X pq σ' H' s7/\tn i s7.heap/\(∀ b∈fp,H' b=none)/\W i m σ' H':=λ{σ7 H7} I7 n7=>by
   obtain⟨m',hm,w7⟩:=hN σ7 H7 n7;refine⟨m',hm,i+1,σ7,H7,I7.unpinned,T.keep _ _ _ st5 λb hb o e=>(I7.pin (b,o) (TL _ (TL _ (AU hb e)))).1,λb hb=>?_,w7⟩;obtain⟨o,e,d⟩:=T.obj _ _ st5 b hb;exact(I7.pin (b,o) (TL _ (TL _ (AU hb e)))).2.1
  cases f with
  | next=>obtain⟨σ7,H7,I7,n7⟩:=q7;exact again I7 n7
  | cont=>obtain⟨σ7,H7,I7,n7⟩:=q7;exact again I7 n7
  | brk=>obtain⟨σ7,H7,I7,q7⟩:=q7;exact⟨σ7,H7,I7.unpinned,q7⟩
  | ret v=>obtain⟨x7,σ7,H7,I7,r7,q7⟩:=q7;exact⟨x7,σ7,H7,I7.unpinned,r7,q7⟩
end
noncomputable abbrev R2:=V->V->Hp->VK->Prop
noncomputable def OpR(X:Cx)(f:Vz->Vz->Sem Vz)(r:R2):Prop:=
 ∀(pq:List (W3×Obj)) (s:W4) (σ:St) (H:Hp) (x y:V) (v u:Vz) (Q:VK),Inv X pq σ H s->RelV x v->RelV y u->r x y H Q->
  W7 (WB X.prog X.w) X.A (f v u) (EP X pq σ Q) X.xe s
noncomputable def UnR(X:Cx)(f:Vz->Sem Vz)(r:V->Hp->VK->Prop):Prop:=
 ∀(pq:List (W3×Obj)) (s:W4) (σ:St) (H:Hp) (x:V) (v:Vz) (Q:VK),Inv X pq σ H s->RelV x v->r x H Q->
  W7 (WB X.prog X.w) X.A (f v) (EP X pq σ Q) X.xe s
noncomputable def CallR(X:Cx)(f:Vz)(r:List V->Hp->VK->Prop):Prop:=
 ∀(pq:List (W3×Obj)) (s:W4) (σ:St) (H:Hp) (xs:List V) (us:List Vz) (Q:VK),Inv X pq σ H s->Vals xs us->r xs H Q->
  W7 (WB X.prog X.w) X.A (call f us) (EP X pq σ Q) X.xe s
noncomputable def Rv(X:Cx)(r:V->Hp->(Bool->Hp->Prop)->Prop):Prop:=
 ∀(pq:List (W3×Obj)) (s:W4) (σ:St) (H:Hp) (x:V) (v:Vz) (Q:Bool->Hp->Prop),Inv X pq σ H s->RelV x v->r x H Q->
  W7 (WB X.prog X.w) X.A (truthy v) (TP X pq σ Q) X.xe s
noncomputable def tOp(r:R2)(ta tb:TE):TE:=λσ H Q=>ta σ H λx H1=>tb σ H1 λy H2=>r x y H2 Q
noncomputable def tUn(r:V->Hp->VK->Prop)(ta:TE):TE:=λσ H Q=>ta σ H λx H1=>r x H1 Q
noncomputable def rI(C:Int->Int->Prop)(g:Int->Int->V):R2:=λx y H Q=>∃ i j,x = .int i/\y = .int j/\C i j/\Q (g i j) H
noncomputable def rI0(g:Int->Int->V):R2:=λx y H Q=>∃ i j,x = .int i/\y = .int j/\Q (g i j) H
noncomputable def rU(g:Int->V):V->Hp->VK->Prop:=λx H Q=>∃ i,x = .int i/\Q (g i) H
section
variable{X:Cx}{a b c:Expr}{ta tb tc:TE}{pos:Pos}
theorem OX(ha:PE X a ta)(hb:PE X b tb){pq:List (W3×Obj)}{s:W4}{σ:St}{H:Hp}{R:V->V->Hp->Prop}(I:Inv X pq σ H s)
 (h:ta σ H λx H1=>tb σ H1 λy H2=>R x y H2) {Q:Vz->W4->Prop} {f:Vz->Vz->Sem Vz}
 (hf:∀ v u s2 x y H2,Inv X pq σ H2 s2->RelV x v->RelV y u->R x y H2->W7 (WB X.prog X.w) X.A (f v u) Q X.xe s2):
 W7 (WB X.prog X.w) X.A (eval a X.env) (λv s₁=>W7 (WB X.prog X.w) X.A (eval b X.env) (λu s₂=>W7 (WB X.prog X.w) X.A (f v u) Q X.xe s₂) X.xe s₁) X.xe s:=by
 refine thn (ha pq s σ H _ I h) λv s1 ⟨x,H1,I1,r1,q1⟩=>?_;refine thn (hb pq s1 σ H1 _ I1 q1) λu s2 ⟨y,H2,I2,r2,q2⟩=>?_;exact hf v u s2 x y H2 I2 r1 r2 q2
theorem Qa{op:XD}{r:R2}(ho:OpR X (WV op) r)(ha:PE X a ta)(hb:PE X b tb):PE X (.BinOp a op b pos) (tOp r ta tb):=by
 intro pq s σ H Q I h;exact wpAny_BinOp (OX ha hb I h λv u s2 x y H2 I2 rx ry q=>ho pq s2 σ H2 x y v u Q I2 rx ry q)
theorem Qb{op:UnaryOp}{r:V->Hp->VK->Prop}(ho:UnR X (unaryOp op) r)(ha:PE X a ta):PE X (.UnaryOp op a pos) (tUn r ta):=by
 intro pq s σ H Q I h;exact UnaryOp_ (thn (ha pq s σ H _ I h) λv s1 ⟨x,H1,I1,r1,q1⟩=>ho pq s1 σ H1 x v Q I1 r1 q1)
theorem opI{f:Vz->Vz->Sem Vz}{C:Int->Int->Prop}{g:Int->Int->Int}
 (rule:∀(i j:Int) (t u:Tok) (s:W4) (Q:Vz->W4->Prop) (E:Vz->W4->Prop),C i j->Q (.int (g i j) s.toks) {s with toks:=s.toks+1}->W7 (WB X.prog X.w) X.A (f (.int i t) (.int j u)) Q E s):
 OpR X f (rI C λi j => .int (g i j)):=by
 intro pq s σ H x y v u Q I rx ry h;obtain⟨i,j,rfl,rfl,hc,q⟩:=h;obtain⟨t,rfl⟩:=rx;obtain⟨t',rfl⟩:=ry;exact rule i j t t' s _ _ hc ⟨.int (g i j),H,I.tok _,⟨_,rfl⟩,q⟩
theorem Qc{f:Vz->Vz->Sem Vz}{g:Int->Int->Int}
 (rule:∀(i j:Int) (t u:Tok) (s:W4) (Q:Vz->W4->Prop) (E:Vz->W4->Prop),Q (.int (g i j) s.toks) {s with toks:=s.toks+1}->W7 (WB X.prog X.w) X.A (f (.int i t) (.int j u)) Q E s):
 OpR X f (rI0 λi j => .int (g i j)):=by
 intro pq s σ H x y v u Q I rx ry h;obtain⟨i,j,rfl,rfl,q⟩:=h;obtain⟨t,rfl⟩:=rx;obtain⟨t',rfl⟩:=ry;exact rule i j t t' s _ _ ⟨.int (g i j),H,I.tok _,⟨_,rfl⟩,q⟩
theorem Ly{f:Vz->Vz->Sem Vz}{g:Int->Int->Bool}
 (rule:∀(i j:Int) (t u:Tok) (s:W4) (Q:Vz->W4->Prop) (E:Vz->W4->Prop),Q (.bool (g i j)) s->W7 (WB X.prog X.w) X.A (f (.int i t) (.int j u)) Q E s):
 OpR X f (rI0 λi j => .bl (g i j)):=by
 intro pq s σ H x y v u Q I rx ry h;obtain⟨i,j,rfl,rfl,q⟩:=h;obtain⟨t,rfl⟩:=rx;obtain⟨t',rfl⟩:=ry;exact rule i j t t' s _ _ ⟨.bl (g i j),H,I,rfl,q⟩
noncomputable def Qd(i j:Int):Prop:=0<j/\j<1073741824
noncomputable def Qf(i j:Int):Prop:=0<=j/\j<=1000000/\i.natAbs<2 ^ 64
noncomputable def CMul(i j:Int):Prop:=(-(2 ^ 64)<i/\i<2 ^ 64)\/(-(2 ^ 64)<j/\j<2 ^ 64)
theorem CMul.ok{i j:Int}(h:CMul i j):IntMulOk i j:=by
 rcases h with⟨h1,h2⟩ | ⟨h1,h2⟩
 ·exact .of_left (intBits_le_64 h1 h2)
 ·exact .of_right (intBits_le_64 h1 h2)
theorem op_add:OpR X (WV .Add) (rI0 λi j => .int (i+j)):=Qc λ_ _ _ _ _ _ _ q=>add_int q
theorem OY:OpR X (WV .Sub) (rI0 λi j => .int (i - j)):=Qc λ_ _ _ _ _ _ _ q=>sub_int q
theorem op_mul:OpR X (WV .Mult) (rI CMul λi j => .int (i * j)):=opI λ_ _ _ _ _ _ _ hc q=>mul_int q hc.ok
theorem Lz:OpR X (WV .FloorDiv) (rI Qd λi j => .int (i / j)):=opI λi j _ _ _ _ _ hc q=>by
 have h1:(0:Int)<j:=hc.1;have h2:j<1073741824:=hc.2;exact floordiv_int (by omega) (by rw[Int.fdiv_eq_ediv_of_nonneg i (by omega)];exact q) (.inl (PyProof.noPylong_small (by omega)))
theorem OZ:OpR X (WV .Mod) (rI (λ_ j=>0<j) λi j => .int (i % j)):=opI λi j _ _ _ _ _ hc q=>by
 have h1:(0:Int)<j:=hc;exact mod_int' (by omega) (by rw[Int.fmod_eq_emod_of_nonneg i (by omega)];exact q)
theorem Oa:OpR X (WV .Pow) (rI Qf λi j => .int (i ^ j.toNat)):=opI λ_ _ _ _ _ _ _ hc q=>pow_int_small hc.1 hc.2.1 hc.2.2 q
theorem unI{f:Vz->Sem Vz}{g:Int->Int}
 (rule:∀(i:Int) (t:Tok) (s:W4) (Q:Vz->W4->Prop) (E:Vz->W4->Prop),Q (.int (g i) s.toks) {s with toks:=s.toks+1}->W7 (WB X.prog X.w) X.A (f (.int i t)) Q E s):
 UnR X f (rU λi => .int (g i)):=by
 intro pq s σ H x v Q I rx h;obtain⟨i,rfl,q⟩:=h;obtain⟨t,rfl⟩:=rx;exact rule i t s _ _ ⟨.int (g i),H,I.tok _,⟨_,rfl⟩,q⟩
theorem Of:UnR X (unaryOp .USub) (rU λi => .int (-i)):=unI λ_ _ _ _ _ q=>neg_int q
end
noncomputable def Og:V->V->Bool
 | .non,.non=>true | .non,.int _=>true | .int _,.non=>true | .non,.bl _=>true | .bl _,.non=>true | .non,.str _=>true | .str _,.non=>true
 | .int _,.int _=>true | .bl _,.bl _=>true | .str _,.str _=>true | .byt _,.byt _=>true
 | .int _,.str _=>true | .str _,.int _=>true | .bl _,.str _=>true | .str _,.bl _=>true
 | _,_=>false
noncomputable def rEq:R2:=λx y H Q=>Og x y=true/\Q (.bl (decide (x=y))) H
noncomputable def rNe:R2:=λx y H Q=>Og x y=true/\Q (.bl (!decide (x=y))) H
theorem Gb{i j:Int}:decide (V.int i=V.int j)=(i == j):=by
 rw[Tc];simp
theorem JR{i j:Bool}:decide (V.bl i=V.bl j)=(i == j):=by
 rw[Tc];simp
theorem Gc{i j:Str}:decide (V.str i=V.str j)=(i == j):=by
 rw[Tc];simp
theorem Ge{i j:Array UInt8}:decide (V.byt i=V.byt j)=(i.toList == j.toList):=by
 rw[Tc];cases i;cases j;simp
section
variable{X:Cx}{a b c:Expr}{ta tb tc:TE}{pos:Pos}
theorem h9{pq:List (W3×Obj)}{σ:St}{H:Hp}{s:W4}{Q:VK}{k k':Bool}(I:Inv X pq σ H s)(q:Q (.bl k) H)(e:k=k'):EP X pq σ Q (.bool k') s:=by
 subst e;exact⟨.bl k,H,I,rfl,q⟩
theorem op_eq:OpR X (WJ .Eq) rEq:=by
 intro pq s σ H x y v u Q I rx ry h;obtain⟨hs,q⟩:=h;cases x with
 | non=>
   cases rx;cases y with
   | non=>cases ry;exact PySem.EqNone.eq_none_none (h9 I q (by simp))
   | bl j=>cases ry;exact PySem.EqNone.eq_none_bool (h9 I q (by simp))
   | int j=>obtain⟨t',rfl⟩:=ry;exact PySem.EqNone.eq_none_int (h9 I q (by simp))
   | str j=>obtain⟨t',rfl⟩:=ry;exact PySem.EqNone.eq_none_str (h9 I q (by simp))
   | _=>exact absurd (show false=true from hs) Si
 | bl i=>
   cases rx;cases y with
   | non=>cases ry;exact PySem.EqNone.eq_bool_none (h9 I q (by simp))
   | bl j=>cases ry;exact eq_bool (h9 I q JR)
   | str j=>obtain⟨t',rfl⟩:=ry;exact PySem.EqMixed.eq_bool_str (h9 I q (by simp))
   | _=>exact absurd (show false=true from hs) Si
 | int i=>
   obtain⟨t,rfl⟩:=rx;cases y with
   | non=>cases ry;exact PySem.EqNone.eq_int_none (h9 I q (by simp))
   | int j=>obtain⟨t',rfl⟩:=ry;exact eq_int (h9 I q Gb)
   | str j=>obtain⟨t',rfl⟩:=ry;exact PySem.EqMixed.eq_int_str (h9 I q (by simp))
   | _=>exact absurd (show false=true from hs) Si
 | str i=>
   obtain⟨t,rfl⟩:=rx;cases y with
   | non=>cases ry;exact PySem.EqNone.eq_str_none (h9 I q (by simp))
   | bl j=>cases ry;exact PySem.EqMixed.eq_str_bool (h9 I q (by simp))
   | int j=>obtain⟨t',rfl⟩:=ry;exact PySem.EqMixed.eq_str_int (h9 I q (by simp))
   | str j=>obtain⟨t',rfl⟩:=ry;exact eq_str (h9 I q Gc)
   | _=>exact absurd (show false=true from hs) Si
 | byt i=>
   obtain⟨t,rfl⟩:=rx;cases y with
   | byt j=>obtain⟨t',rfl⟩:=ry;exact PySem.W.eq_bytes (h9 I q Ge)
   | _=>exact absurd (show false=true from hs) Si
 | _=>cases y<;>exact absurd (show false=true from hs) Si
theorem op_ne:OpR X (WJ .NotEq) rNe:=by
 intro pq s σ H x y v u Q I rx ry h;obtain⟨hs,q⟩:=h;cases x with
 | non=>
   cases rx;cases y with
   | non=>cases ry;exact PySem.EqNone.ne_none_none (h9 I q (by simp))
   | bl j=>cases ry;exact PySem.EqNone.ne_none_bool (h9 I q (by simp))
   | int j=>obtain⟨t',rfl⟩:=ry;exact PySem.EqNone.ne_none_int (h9 I q (by simp))
   | str j=>obtain⟨t',rfl⟩:=ry;exact PySem.EqNone.ne_none_str (h9 I q (by simp))
   | _=>exact absurd (show false=true from hs) Si
 | bl i=>
   cases rx;cases y with
   | non=>cases ry;exact PySem.EqNone.ne_bool_none (h9 I q (by simp))
   | bl j=>cases ry;exact ne_bool (h9 I q (congrArg not JR))
   | str j=>obtain⟨t',rfl⟩:=ry;exact PySem.EqMixed.ne_bool_str (h9 I q (by simp))
   | _=>exact absurd (show false=true from hs) Si
 | int i=>
   obtain⟨t,rfl⟩:=rx;cases y with
   | non=>cases ry;exact PySem.EqNone.ne_int_none (h9 I q (by simp))
   | int j=>obtain⟨t',rfl⟩:=ry;exact ne_int (h9 I q (congrArg not Gb))
   | str j=>obtain⟨t',rfl⟩:=ry;exact PySem.EqMixed.ne_int_str (h9 I q (by simp))
   | _=>exact absurd (show false=true from hs) Si
 | str i=>
   obtain⟨t,rfl⟩:=rx;cases y with
   | non=>cases ry;exact PySem.EqNone.ne_str_none (h9 I q (by simp))
   | bl j=>cases ry;exact PySem.EqMixed.ne_str_bool (h9 I q (by simp))
   | int j=>obtain⟨t',rfl⟩:=ry;exact PySem.EqMixed.ne_str_int (h9 I q (by simp))
   | str j=>obtain⟨t',rfl⟩:=ry;exact ne_str (h9 I q (congrArg not Gc))
   | _=>exact absurd (show false=true from hs) Si
 | byt i=>
   obtain⟨t,rfl⟩:=rx;cases y with
   | byt j=>obtain⟨t',rfl⟩:=ry;exact PySem.W.ne_bytes (h9 I q (congrArg not Ge))
   | _=>exact absurd (show false=true from hs) Si
 | _=>cases y<;>exact absurd (show false=true from hs) Si
theorem Qg:OpR X (WJ .Lt) (rI0 λi j => .bl (decide (i<j))):=Ly λ_ _ _ _ _ _ _ q=>lt_int q
theorem Qh:OpR X (WJ .LtE) (rI0 λi j => .bl (decide (i<=j))):=Ly λ_ _ _ _ _ _ _ q=>le_int q
theorem Qi:OpR X (WJ .Gt) (rI0 λi j => .bl (decide (j<i))):=Ly λ_ _ _ _ _ _ _ q=>gt_int q
theorem Qj:OpR X (WJ .GtE) (rI0 λi j => .bl (decide (j<=i))):=Ly λ_ _ _ _ _ _ _ q=>ge_int q
theorem Oh:OpR X (WJ .Is) (λx y H Q=>y = .non/\Q (.bl (decide (x = .non))) H):=by
 intro pq s σ H x y v u Q I rx ry h;obtain⟨rfl,q⟩:=h;cases ry;refine is_none_gen (h9 I q ?_)
 cases x<;>first
  | (cases rx;rfl)
  | (obtain⟨t,rfl⟩:=rx;rfl)
theorem op_notN:OpR X (WJ .IsNot) (λx y H Q=>y = .non/\Q (.bl (!decide (x = .non))) H):=by
 intro pq s σ H x y v u Q I rx ry h;obtain⟨rfl,q⟩:=h;cases ry;refine isnot_none_gen (h9 I q ?_)
 cases x<;>first
  | (cases rx;rfl)
  | (obtain⟨t,rfl⟩:=rx;rfl)
theorem OpR.or{f:Vz->Vz->Sem Vz}{r r':R2}(h:OpR X f r)(h':OpR X f r'):OpR X f (λx y H Q=>r x y H Q\/r' x y H Q):=by
 intro pq s σ H x y v u Q I rx ry q;rcases q with q | q
 ·exact h pq s σ H x y v u Q I rx ry q
 ·exact h' pq s σ H x y v u Q I rx ry q
theorem Gf{op:CmpOp}{r:R2}(ho:OpR X (WJ op) r)(ha:PE X a ta)(hb:PE X b tb)(hm:XW op b=false):PE X (.Compare a [op] [b] pos) (tOp r ta tb):=by
 intro pq s σ H Q I h;exact wpAny_Compare1 (OX ha hb I h λv u s2 x y H2 I2 rx ry q=>ho pq s2 σ H2 x y v u Q I2 rx ry q) hm
noncomputable def Nf(t:TE):TT:=λσ H Q=>t σ H λx H'=>∃ k,x = .bl k/\Q k H'
theorem Gg{op:CmpOp}{r:R2}(ho:OpR X (WJ op) r)(ha:PE X a ta)(hb:PE X b tb)(hm:XW op b=false):PT X (.Compare a [op] [b] pos) (Nf (tOp r ta tb)):=by
 intro pq s σ H Q I h
 refine wpAny_isTrue_Compare1 (thn (ha pq s σ H _ I h) λv s1 ⟨x,H1,I1,r1,q1⟩=>thn (hb pq s1 σ H1 _ I1 q1) λu s2 ⟨y,H2,I2,r2,q2⟩=>
  thn (ho pq s2 σ H2 x y v u _ I2 r1 r2 q2) λc s3 ⟨z,H3,I3,r3,k,e,q3⟩=>?_) hm
 subst e;cases r3;exact WL ⟨H3,I3,q3⟩
noncomputable def FT(r r':R2)(ta tb tc:TE):TE:=λσ H Q=>ta σ H λx H1=>tb σ H1 λy H2=>r x y H2 λz H3=>∃ k,z = .bl k/\
 (if k=true then tc σ H3 λw' H4=>r' y w' H4 Q else Q (.bl false) H3)
theorem JS{op op':CmpOp}{r r':R2}(ho:OpR X (WJ op) r)(ho':OpR X (WJ op') r')(ha:PE X a ta)(hb:PE X b tb)(hc:PE X c tc)
 (hm:Xw [op,op'] [b,c]=false:=by with_unfolding_all rfl):PE X (.Compare a [op,op'] [b,c] pos) (FT r r' ta tb tc):=by
 intro pq s σ H Q I h
 refine Compare_chain (thn (ha pq s σ H _ I h) λv s1 ⟨x,H1,I1,r1,q1⟩=>chain_link (thn (hb pq s1 σ H1 _ I1 q1) λu s2 ⟨y,H2,I2,r2,q2⟩=>
  thn (ho pq s2 σ H2 x y v u _ I2 r1 r2 q2) λd s3 ⟨z,H3,I3,r3,k,e,q3⟩=>?_)) hm
 subst e;cases r3;refine WL ?_;cases k with
 | false=>exact ite_ff ⟨.bl false,H3,I3,rfl,q3⟩
 | true=>exact ite_tt (chain_last (thn (hc pq s3 σ H3 _ I3 q3) λw' s4 ⟨z',H4,I4,r4,q4⟩=>ho' pq s4 σ H4 y z' u w' Q I4 r2 r4 q4))
theorem JT{op op':CmpOp}{r r':R2}(ho:OpR X (WJ op) r)(ho':OpR X (WJ op') r')(ha:PE X a ta)(hb:PE X b tb)(hc:PE X c tc)
 (hm:Xw [op,op'] [b,c]=false:=by with_unfolding_all rfl):PT X (.Compare a [op,op'] [b,c] pos) (Nf (FT r r' ta tb tc)):=by
 intro pq s σ H Q I h
 refine isTrue_chain (thn (ha pq s σ H _ I h) λv s1 ⟨x,H1,I1,r1,q1⟩=>test_link (thn (hb pq s1 σ H1 _ I1 q1) λu s2 ⟨y,H2,I2,r2,q2⟩=>
  thn (ho pq s2 σ H2 x y v u _ I2 r1 r2 q2) λd s3 ⟨z,H3,I3,r3,k,e,q3⟩=>?_)) hm
 subst e;cases r3;refine WL ?_;cases k with
 | false=>
   obtain⟨k',e',q'⟩:=q3;cases e';exact ite_ff ⟨H3,I3,q'⟩
 | true=>
   refine ite_tt (test_last (thn (hc pq s3 σ H3 _ I3 q3) λw' s4 ⟨z',H4,I4,r4,q4⟩=>thn (ho' pq s4 σ H4 y z' u w' _ I4 r2 r4 q4) λd' s5 ⟨z2,H5,I5,r5,k2,e2,q5⟩=>?_));subst e2;cases r5;exact WL ⟨H5,I5,q5⟩
noncomputable def M0(K:SU)(x:V)(H:Hp)(k:Bool):Prop:=
 match x with
 | .non=>k=false
 | .bl b=>k=b
 | .int i=>k=(i != 0)
 | .str y=>y.length<=W6/\k=((y.length:Int) != 0)
 | .byt y=>y.size<=W6/\k=((y.size:Int) != 0)
 | .ref p=>(∃ xs,SqL K H p xs/\k=!xs.isEmpty)\/(∃ xs,SqT K H p xs/\k=!xs.isEmpty)\/∃ kvs,H p=some (.dK kvs)/\k=!kvs.isEmpty
 | _=>False
theorem FU{κ:Type}{kvs:List (κ×V)}{vs:List (κ×Vz)}(r:KV kvs vs):(!vs.isEmpty)=!kvs.isEmpty:=by
 cases r<;>rfl
theorem C4{xs:List V}{its:List Vz}(r:Vals xs its):(!its.toArray.isEmpty)=!xs.isEmpty:=by
 cases r<;>simp
theorem B9:(W6:Nat)<2 ^ 63:=by rw[sizeLine_eq];decide
theorem Oi:Rv X (λx H Q=>∃ k,M0 X.K x H k/\Q k H):=by
 intro pq s σ H x v Q I rx h;obtain⟨k,e,q⟩:=h;have hl:=B9;have hs:W6=16777216:=sizeLine_eq;cases x with
 | non=>
   cases rx;have e':k=false:=e;subst e';exact truthy_none ⟨H,I,q⟩
 | bl b=>
   cases rx;have e':k=b:=e;subst e';exact WL ⟨H,I,q⟩
 | int i=>
   obtain⟨t,rfl⟩:=rx;have e':k=(i != 0):=e;subst e';exact PySem.P.truthy_int ⟨H,I,q⟩
 | str y=>
   obtain⟨t,rfl⟩:=rx;obtain⟨hy,e'⟩:y.length<=W6/\k=((y.length:Int) != 0):=e;subst e';exact PySem.P.truthy_str (by omega) ⟨H,I.tok _,q⟩
 | byt y=>
   obtain⟨t,rfl⟩:=rx;obtain⟨hy,e'⟩:y.size<=W6/\k=((y.size:Int) != 0):=e;subst e';exact PySem.W.truthy_bytes (by omega) ⟨H,I.tok _,q⟩
 | ref p=>
   cases rx;have e':(∃ xs,SqL X.K H p xs/\k=!xs.isEmpty)\/(∃ xs,SqT X.K H p xs/\k=!xs.isEmpty)\/∃ kvs,H p=some (.dK kvs)/\k=!kvs.isEmpty:=e;rcases e' with⟨xs,hx,e'⟩ | ⟨xs,hx,e'⟩ | ⟨kvs,hx,e'⟩
   ·subst e';obtain⟨its,r,pl,hz⟩:=I.list hx;have hlen:=r.length;exact wpAny_truthy_list pl.isList (by simp only[SZ];omega) ⟨H,I.tok _,by rw[C4 r];exact q⟩
   ·subst e';obtain⟨its,r,pl,hz⟩:=I.tuple hx;have hlen:=r.length;exact truthy_tuple pl (by simp only[SZ];omega) ⟨H,I.tok _,by rw[C4 r];exact q⟩
   ·subst e';obtain⟨hz,hS,vs,r,m⟩:kvs.length<=W6/\(p == We)=false/\∃ vs,KV kvs vs/\s.heap.DictOf (m9 X.prog X.w) p vs:=I.hok p _ hx;have hlen:kvs.length=vs.length:=Paired.length r;exact wpAny_truthy_dict hS m (by omega) ⟨H,I.tok _,by rw[FU r];exact q⟩
 | _=>exact(show False from e).elim
theorem JU(ha:PE X a ta)(he:∀ whole,isTrue a X.env whole=(do let v <- whole;standAt a.pos;holding [v] (truthy v))):
 PT X a (λσ H Q=>ta σ H λx H'=>∃ k,M0 X.K x H' k/\Q k H'):=by
 intro pq s σ H Q I h;exact isTrue_plain (thn (ha pq s σ H _ I h) λv s1 ⟨x,H1,I1,r1,q1⟩=>Oi pq s1 σ H1 x v Q I1 r1 q1) (he _)
theorem FV:OpR X (WV .Add) (λx y H Q=>∃ i j,x = .str i/\y = .str j/\i.length+j.length<=W6/\Q (.str (i++j)) H):=by
 intro pq s σ H x y v u Q I rx ry h;obtain⟨i,j,rfl,rfl,hz,q⟩:=h;obtain⟨t,rfl⟩:=rx;obtain⟨t',rfl⟩:=ry;exact add_str (λt' tk=>⟨.str (i++j),H,I.tok _,⟨_,rfl⟩,q⟩) hz
theorem AI{x:V}{us:List Vz}(r:Vals [x] us):∃ u,us=[u]/\RelV x u:=by
 cases r with
 | cons r1 r2=>cases r2;exact⟨_,rfl,r1⟩
theorem Ng{x y:V}{us:List Vz}(r:Vals [x,y] us):∃ u w',us=[u,w']/\RelV x u/\RelV y w':=by
 cases r with
 | cons r1 r2=>
   cases r2 with
   | cons r3 r4=>cases r4;exact⟨_,_,rfl,r1,r3⟩
theorem JV:CallR X (.builtin "abs") (λxs H Q=>∃ i,xs=[.int i]/\Q (.int (if i<0 then -i else i)) H):=by
 intro pq s σ H xs us Q I r h;obtain⟨i,rfl,q⟩:=h;obtain⟨u,rfl,t,rfl⟩:=AI r;exact call_abs_int λu tk=>⟨.int (if i<0 then -i else i),H,I.tok _,⟨_,rfl⟩,q⟩
theorem Hz(hc:X.calm=true):CallR X (.builtin "max") (λxs H Q=>∃ i j,xs=[.int i,.int j]/\Q (.int (if j>i then j else i)) H):=by
 intro pq s σ H xs us Q I r h;obtain⟨i,j,rfl,q⟩:=h;obtain⟨u,w',rfl,⟨t,rfl⟩,⟨t',rfl⟩⟩:=Ng r;refine max_two_ints (I.ok.hd hc) λh' tk k=>⟨_,H,I.kept k,?_,q⟩
 by_cases hj:j>i
 ·rw[iP hj,iP hj];exact⟨_,rfl⟩
 ·rw[iG hj,iG hj];exact⟨_,rfl⟩
theorem I0(hc:X.calm=true):CallR X (.builtin "min") (λxs H Q=>∃ i j,xs=[.int i,.int j]/\Q (.int (if j<i then j else i)) H):=by
 intro pq s σ H xs us Q I r h;obtain⟨i,j,rfl,q⟩:=h;obtain⟨u,w',rfl,⟨t,rfl⟩,⟨t',rfl⟩⟩:=Ng r;refine min_two_ints (I.ok.hd hc) λh' tk k=>⟨_,H,I.kept k,?_,q⟩
 by_cases hj:j<i
 ·rw[iP hj,iP hj];exact⟨_,rfl⟩
 ·rw[iG hj,iG hj];exact⟨_,rfl⟩
theorem IA:CallR X (.type "int") (λxs H Q=>(∃ i,xs=[.int i]/\Q (.int i) H)\/∃ k,xs=[.bl k]/\Q (.int (if k then 1 else 0)) H):=by
 intro pq s σ H xs us Q I r h;rcases h with⟨i,rfl,q⟩ | ⟨k,rfl,q⟩
 ·obtain⟨u,rfl,t,rfl⟩:=AI r;exact call_int_int ⟨.int i,H,I,⟨_,rfl⟩,q⟩
 ·obtain⟨u,rfl,r1⟩:=AI r;cases r1;exact call_int_bool ⟨.int (if k then 1 else 0),H,I.tok _,⟨_,rfl⟩,q⟩
end
structure ObjM(h:Heap)(x dx C:W3)(mA:Str->Option Vz):Prop where
 obj:h.get? x=some (PySem.W.instObj C dx)
 ns:h.Ns1 dx mA
 ne:dx≠x
theorem IB{h:Heap}{dx:W3}{mA:Str->Option Vz}(n:h.Ns1 dx mA):∃ od,h.get? dx=some od/\∀ name,PySem.W.lookIn name od=some (mA name):=by
 obtain⟨o,es,ep,ho,hd,hk,_,hm⟩:=n;refine⟨o,ho,λname=>?_⟩;have e:=hm name;unfold nsFind findBy at e;rw[<-Array.find?_toList]at e;unfold PySem.W.lookIn;rw[hd];dsimp only;split
 ·rename_i y q;rw[q]at e;exact congrArg some e
 ·rename_i q;rw[q]at e
  have a:es.toList.any (·.refKey)=false:=by
   rw[VN];intro y hy;obtain⟨z,t,hkey⟩:=hk y (Array.mem_toList_iff.mp hy);simp[DictEntry.refKey,hkey]
  have a':¬ es.toList.any (·.refKey)=true:=by rw[a];exact Si
  rw[iG a'];exact congrArg some e
theorem ObjM.look{h:Heap}{x dx C:W3}{mA:Str->Option Vz}(I:ObjM h x dx C mA):∃ od,PySem.W.InstAt h x (PySem.W.instObj C dx) C (some od)/\∀ name,PySem.W.lookIn name od=some (mA name):=
 let ⟨od,ho,hl⟩:=IB I.ns
 ⟨od,⟨I.obj,rfl,rfl,ho⟩,hl⟩
section
variable{P:W8}{w:WC}{H H':Hp}{h h':Heap}{a C dx:W3}{fs fs':List (Str×V)}
theorem Gh(hok:HOk P w H h)(e:H a=some (.ins C dx fs)):∃ mA,ObjM h a dx C mA/\(∀ f,RelO (fs.lookup f) (mA f))/\PySem.Within mA (fs.map (·.1))/\fs.length<=1000/\H dx=some (.own a):=by
 obtain⟨d,z,ne,ob,mA,n,r,q⟩:=(show ObjOk P w H h a (.ins C dx fs) from hok a _ e)
 exact⟨mA,⟨ob,n,ne⟩,r,q,z,d⟩
end
structure Cls(K:SU)(C:W3):Prop where
 pg:PySem.W.plainGet K C Str.empty=true
 hd:PySem.W.hasDictIn K C=true
 po:PySem.W.plainOver K C=true
 sa:PySem.W.findIn K (.ref C) "__setattr__"=some (some (.builtin "object.__setattr__"))
theorem Cls.get{K:SU}{C:W3}(c:Cls K C)(f:Str):PySem.W.plainGet K C f=true:=c.pg
section
variable{X:Cx}{pq:List (W3×Obj)}{σ:St}{H:Hp}{s:W4}{A:WH}{E:Vz->W4->Prop}{Q:Vz->W4->Prop}{c:Vz}{b:Bool}
inductive TyOf(K:SU)(H:Hp):V->Vz->Prop where
 | non:TyOf K H .non (.type "NoneType")
 | bl (x:Bool):TyOf K H (.bl x) (.type "bool")
 | int (i:Int):TyOf K H (.int i) (.type "int")
 | str (x:Str):TyOf K H (.str x) (.type "str")
 | flt (x:UInt64):TyOf K H (.flt x) (.type "float")
 | lst {a:W3} {xs:List V} (e:H a=some (.lst xs)):TyOf K H (.ref a) (.type "list")
 | frz {a:W3} {o:Obj} {xs:List V} (e:H a=some (.frz o (.lst xs))):TyOf K H (.ref a) (.type "list")
 | tup {a:W3} {xs:List V} (e:H a=some (.tup xs)):TyOf K H (.ref a) (.type "tuple")
 | dK {a:W3} {kvs:List (Key×V)} (e:H a=some (.dK kvs)):TyOf K H (.ref a) (.type "dict")
 | dT {a:W3} {kvs:List (List Key×V)} (e:H a=some (.dT kvs)):TyOf K H (.ref a) (.type "dict")
 | ins {a C dx:W3} {fs:List (Str×V)} (e:H a=some (.ins C dx fs)) (cl:Cls K C) (ha:PySem.W.findIn K (.ref C) "__class__"=some (some (.builtin "object.__class__")))
    (hn:PySem.W.specialIn K (.builtin "object.__class__") "__get__"=some (some (.builtin "getset_descriptor.__get__"))) (htk:PySem.W.takesIn K (.builtin "object.__class__")=some true)
    (hm:PySem.W.mroIn K C (.type "object")=some true):TyOf K H (.ref a) (.ref C)
theorem IC{x:V}{u t:Vz}(I:Inv X pq σ H s)(rx:RelV x u)(ty:TyOf X.K H x t)(e:PySem.W.kitOne X.K t c=some b)(h:∀ tk,Q (.bool b) {s with toks:=tk}):
 W7 (WB X.prog X.w) A (call (.builtin "isinstance") [u,c]) Q E s:=by
 cases ty with
 | non=>cases(show u=Value.none from rx);exact PySem.W.kia_one PySem.W.kitx_none I.kIn True.intro e (λz=>nomatch z) h
 | bl y=>cases(show u=Value.bool y from rx);exact PySem.W.kia_one PySem.W.kitx_bool I.kIn True.intro e (λz=>nomatch z) h
 | int i=>obtain⟨t,q⟩:=(show ∃ t,u=Value.int i t from rx);cases q;exact PySem.W.kia_one PySem.W.kitx_int I.kIn True.intro e (λz=>nomatch z) h
 | str y=>obtain⟨t,q⟩:=(show ∃ t,u=Value.str y t from rx);cases q;exact PySem.W.kia_one PySem.W.kitx_str I.kIn True.intro e (λz=>nomatch z) h
 | flt y=>obtain⟨t,q⟩:=(show ∃ t,u=Value.float y t from rx);cases q;exact PySem.W.kia_one PySem.W.kitx_float I.kIn True.intro e (λz=>nomatch z) h
 | @lst a xs ea=>
   cases(show u=Value.ref a from rx);obtain⟨_,_,n,_,h1⟩:=(show ObjOk X.prog X.w H s.heap a (.lst xs) from I.hok a _ ea)
   exact PySem.W.kia_one PySem.W.kitx_list I.kIn ⟨_,h1,rfl⟩ e (λz=>nomatch z) h
 | @frz a ob xs ea=>
   cases(show u=Value.ref a from rx);obtain⟨_,_,_,n,_,h1⟩:=(show ObjOk X.prog X.w H s.heap a (.frz ob (.lst xs)) from I.hok a _ ea)
   exact PySem.W.kia_one PySem.W.kitx_list I.kIn ⟨_,h1,rfl⟩ e (λz=>nomatch z) h
 | @tup a xs ea=>
   cases(show u=Value.ref a from rx);obtain⟨_,_,_,p⟩:=(show ObjOk X.prog X.w H s.heap a (.tup xs) from I.hok a _ ea)
   obtain⟨o,h1,h2,_⟩:=p;exact PySem.W.kia_one PySem.W.kitx_tuple I.kIn ⟨o,h1,h2⟩ e (λz=>nomatch z) h
 | @dK a kvs ea=>
   cases(show u=Value.ref a from rx);obtain⟨_,_,vs,_,p⟩:=(show ObjOk X.prog X.w H s.heap a (.dK kvs) from I.hok a _ ea)
   obtain⟨o,es,ep,h1,h2,_⟩:=p;exact PySem.W.kia_one PySem.W.kitx_dict I.kIn ⟨o,h1,h2.1⟩ e (λz=>nomatch z) h
 | @dT a kvs ea=>
   cases(show u=Value.ref a from rx);obtain⟨_,_,xs,_,o,es,ep,h1,h2,_⟩:=(show ObjOk X.prog X.w H s.heap a (.dT kvs) from I.hok a _ ea)
   exact PySem.W.kia_one PySem.W.kitx_dict I.kIn ⟨o,h1,h2.1⟩ e (λz=>nomatch z) h
 | @ins a C dx fs ea cl ha hn htk hm=>
   cases(show u=Value.ref a from rx);obtain⟨mA,O,_⟩:=Gh I.hok ea;obtain⟨od,J,_⟩:=O.look;exact PySem.W.kia_one (PySem.W.kitx_own (cl.get _) cl.hd ha hn htk hm) I.kIn J e (λz=>nomatch z) h
end
structure Room(k:Nat)(A:WH):Prop where
 hd:A.handled=none
 dp:A.depth+3 * k+5<Xq
 un:A.units+16 * k+200<cLine
 gd:A.guards=some []
theorem Room.mono{j k:Nat}{A:WH}(r:Room k A)(h:j<=k):Room j A:=⟨r.hd,by have:=r.dp;omega,by have:=r.un;omega,r.gd⟩
theorem Room.deeper{k:Nat}{A:WH}(r:Room (k+1) A)(env:Env):Room k (A.deeper env):=
 ⟨r.hd,by have:=r.dp;show A.depth+1+3 * k+5<_;omega,by have:=r.un;show A.units+3+16 * k+200<_;omega,r.gd⟩
theorem Room.depth{k:Nat}{A:WH}(r:Room k A):A.depth<Xq:=by have:=r.dp;omega
noncomputable def M3:TA:=λ_ H Q=>Q [] H
noncomputable def C5(ta:TE)(tr:TA):TA:=λσ H Q=>ta σ H λx H1=>tr σ H1 λxs H2=>Q (x::xs) H2
section
variable{X:Cx}{e:Expr}{es:List Expr}{te:TE}{t:TA}{pos:Pos}
theorem AV:PA X [] M3:=λ_ _ _ _ H Q I h=>Calls.spliced_nil ⟨[],H,I,.nil,h⟩
theorem t5(ha:PE X e te)(hr:PA X es t)(hs:WG (e::es) X.env=(false,eval e X.env)::WG es X.env:=by rfl):PA X (e::es) (C5 te t):=by
 intro pos pq s σ H Q I h;rw[hs];show W7 _ _ (spliced ((false,eval e X.env)::backTo pos (WG es X.env))) _ _ s;refine Calls.spliced_cons (thn (ha pq s σ H _ I h) λu s1 ⟨x,H1,I1,r1,q1⟩=>?_);exact thn (hr pos pq s1 σ H1 _ I1 q1) λus s2 ⟨xs,H2,I2,r2,q2⟩=>⟨x::xs,H2,I2,.cons r1 r2,q2⟩
noncomputable def Qk(t:TA):TE:=λσ H Q=>t σ H λxs H1=>xs.length<=W6/\∀ p,H1 p=none->Q (.ref p) (upd H1 p (.tup xs))
noncomputable def Ql(t:TA):TE:=λσ H Q=>t σ H λxs H1=>xs.length<=W6/\∀ p,H1 p=none->Q (.ref p) (upd H1 p (.lst xs))
theorem Oj{x1}(h:PA X es t):PE X (.Tuple es x1 pos) (Qk t):=by
 intro pq s σ H Q I hq;refine wpAny_Tuple_spliced (thn (h pos pq s σ H _ I hq) λus s1 ⟨xs,H1,I1,r,z,q⟩=>⟨by rw[<-r.length];exact z,?_⟩);have hf:H1 s1.heap.objs.size=none:=I1.hok.fresh (Sd _);refine⟨.ref s1.heap.objs.size,upd H1 s1.heap.objs.size (.tup xs),I1.laid (t':=s1.toks) (λb u e=>Sa _ e) (Sd _) ?_,rfl,q _ hf⟩;exact⟨z,us,r,⟨_,So _ rfl,rfl,_,rfl⟩⟩
theorem Ol(h:PA X es t):PE X (.List es pos) (Ql t):=by
 intro pq s σ H Q I hq;refine wpAny_List_spliced (thn (h pos pq s σ H _ I hq) λus s1 ⟨xs,H1,I1,r,z,q⟩=>⟨by rw[<-r.length];exact z,?_⟩);have hf:H1 s1.heap.objs.size=none:=I1.hok.fresh (Sd _);refine⟨.ref s1.heap.objs.size,upd H1 s1.heap.objs.size (.lst xs),I1.laid (t':=s1.toks) (λb u e=>Sa _ e) (Sd _) ?_,rfl,q _ hf⟩;exact⟨z,us,0,r,So _ rfl⟩
end
noncomputable abbrev Sp:=List V->Hp->VK->XK->Prop
noncomputable abbrev CXT:=List Env->Hp->W4->XK->Vz->W4->Prop
structure Env0(P:W8)(w:WC)(K:SU)(mg:Str->Option Vz)(base:Heap)(A:WH)(outer:List Env)(s:W4)(H:Hp):Prop where
 frames:A.frames=some outer
 mod:Mod K mg base
 bs:∀ b o,base.get? b=some o->s.heap.get? b=some o/\H b=none
 bsz:base.objs.size<=s.heap.objs.size
 funs:s.heap.FunFrames base outer
 frf:∀ b∈frs outer,H b=none
 hok:HOk P w H s.heap
 bare:AllBare s.gens
noncomputable def CE(outer:List Env)(P:W8)(w:WC)(H:Hp)(s:W4)(Q:VK)(u:Vz)(s':W4):Prop:=
 ∃ v H',s'.os=s.os/\AllBare s'.gens/\Un (frs outer) [] H H' s.heap s'.heap/\HOk P w H' s'.heap/\RelV v u/\Q v H'
noncomputable def CR(CX:CXT)(outer:List Env)(P:W8)(w:WC)(H:Hp)(s:W4)(Q:VK)(E:XK)(r:Result)(s':W4):Prop:=
 match r with
 | .ok (.ret u)=>CE outer P w H s Q u s'
 | .ok _=>False
 | .error e=>CX outer H s E e s'
structure FnOk(P:W8)(w:WC)(K:SU)(mg:Str->Option Vz)(base:Heap)(CX:CXT)(k:Nat)(f:W3)(fd:Wc)(ps:List Str)(sp:Sp):Prop where
 len:∀ vs H Q E,sp vs H Q E->vs.length=ps.length
 run:∀(A:WH) (outer:List Env) (s:W4) (H:Hp) (args:Args) (us:List Vz) (vs:List V) (Q:VK) (E:XK),Room k A->Env0 P w K mg base A outer s H->BindsTo s fd args (ps.zip us)->Vals vs us->sp vs H Q E->
  codeAny (WB P w) A (.call (.ref f) args) (CR CX outer P w H s Q E) s
theorem FnOk.mono{P:W8}{w:WC}{K:SU}{mg:Str->Option Vz}{base:Heap}{CX:CXT}{j k:Nat}{f:W3}{fd:Wc}{ps:List Str}{sp:Sp}(F:FnOk P w K mg base CX j f fd ps sp)(h:j<=k):
 FnOk P w K mg base CX k f fd ps sp:=⟨F.len,λA outer s H args us vs Q E hr=>F.run A outer s H args us vs Q E (hr.mono h)⟩
theorem FnOk.imp{P:W8}{w:WC}{K:SU}{mg:Str->Option Vz}{base:Heap}{CX:CXT}{k:Nat}{f:W3}{fd:Wc}{ps:List Str}{sp sp':Sp}(F:FnOk P w K mg base CX k f fd ps sp)
 (h:∀ vs H Q E,sp' vs H Q E->sp vs H Q E):FnOk P w K mg base CX k f fd ps sp':=
 ⟨λvs H Q E q=>F.len vs H Q E (h _ _ _ _ q),λA outer s H args us vs Q E hr he hb hv hs=>F.run A outer s H args us vs Q E hr he hb hv (h _ _ _ _ hs)⟩
section
variable{X:Cx}{pq:List (W3×Obj)}{σ:St}{H:Hp}{s s':W4}
theorem Inv.env0(I:Inv X pq σ H s):Env0 X.prog X.w X.K X.mg X.base X.A X.stack s H:=
 ⟨I.ok.frames,I.ok.mod,I.bs,TH I.ok.bsz I.sz,I.stack,I.stkFree,I.hok,I.bare⟩
theorem Inv.after{Q:VK}{u:Vz}(I:Inv X pq σ H s)(h:CE X.stack X.prog X.w H s Q u s'):EP X pq σ Q u s':=by
 obtain⟨v,H',os,bare,un,hok,r,q⟩:=h;obtain⟨hh,g,d,t,os'⟩:=s';obtain rfl:os'=s.os:=os;exact⟨v,H',I.call (h':=hh) (g':=g) (d':=d) (t':=t) (ch:=[]) un hok bare (λb z=>absurd z (by simp)),r,q⟩
end
noncomputable def Nh(sp:Sp)(dvs:List V)(E:XK)(t:TA):TE:=λσ H Q=>t σ H λvs H1=>sp (vs++dvs) H1 Q E
noncomputable def Binds(K:SU)(fd:Wc)(ps:List Str)(ds:List Vz):Prop:=
 ∀(s:W4) (us:List Vz),K.In s.heap->(us++ds).length=ps.length->BindsTo s fd ⟨us,[]⟩ (ps.zip (us++ds))
theorem Binds.all{K:SU}{fd:Wc}{ps:List Str}(h:∀ us:List Vz,us.length=ps.length->bindArgs fd ⟨us,[]⟩=pure (ps.zip us)):Binds K fd ps []:=λs us _ hl=>by
 rw[U2]at hl ⊢;exact .of_eq (h us hl)
noncomputable def FW(CX:CXT)(X:Cx)(E:XK):Prop:=∀(pq:List (W3×Obj)) (σ:St) (H:Hp) (s:W4) (e:Vz) (s':W4),Inv X pq σ H s->CX X.stack H s E e s'->X.xe e s'
section
variable{X:Cx}{CX:CXT}{k:Nat}{f C:W3}{fd:Wc}{ps:List Str}{sp:Sp}{dvs:List V}{ds:List Vz}{E:XK}{x m:Str}{p pos apos:Pos}{e o:Expr}{es:List Expr}{ta:TE}{t:TA}
theorem Om{pq:List (W3×Obj)}{σ:St}{H:Hp}{s:W4}{Q:VK}{us:List Vz}{vs:List V}(F:FnOk X.prog X.w X.K X.mg X.base CX k f fd ps sp)(hr:Room k X.A)(hb:Binds X.K fd ps ds)(hd:Vals dvs ds)(hx:FW CX X E)
 (I:Inv X pq σ H s) (r:Vals vs us) (h:sp (vs++dvs) H Q E):W7 (WB X.prog X.w) X.A (call (.ref f) us) (EP X pq σ Q) X.xe s:=by
 have r2:Vals (vs++dvs) (us++ds):=r.append hd;have hl:(us++ds).length=ps.length:=by rw[<-r2.length];exact F.len _ _ _ _ h
 refine wpAny_call (Xd (F.run X.A X.stack s H ⟨us,[]⟩ (us++ds) (vs++dvs) Q E hr I.env0 (hb s us I.kIn hl) r2 h) λr s' hq=>?_);cases r with
 | error e=>exact hx pq σ H s e s' I hq
 | ok fl=>
   cases fl with
   | ret u=>exact I.after hq
   | next=>exact False.elim hq
   | brk=>exact False.elim hq
   | cont=>exact False.elim hq
theorem M4(F:FnOk X.prog X.w X.K X.mg X.base CX k f fd ps sp)(hr:Room k X.A)(hg:Gl X x)(hm:X.mg x=some (.ref f))(hk:PySem.W.keepIn X.K (.ref f)=true)(hb:Binds X.K fd ps ds)(hd:Vals dvs ds)(hx:FW CX X E)
 (ha:PA X (e::es) t) (hdb:(x == ("__debug__":Str))=false:=by decide) (he:WG (e::es) X.env=(false,eval e X.env)::WG es X.env:=by rfl) (hpl:(backTo pos (WG es X.env)).any (·.1)=false:=by rfl):
 PE X (.Call (.Name x p) (e::es) [] pos) (Nh sp dvs E t):=by
 intro pq s σ H Q I h;refine Wr (Lq I hg hm ?_ hdb);refine PySem.W.callWith_K (h₀:=X.base) I.ok.mod.kin hk (thn (ha pos pq s σ H _ I h) λus s1 ⟨vs,H1,I1,r,q⟩=>⟨I1.kIn,?_⟩) he hpl;exact Om F hr hb hd hx I1 r q
end
noncomputable def PK(X:Cx)(kws:List Keyword)(t:TA):Prop:=
 ∀(pos:Pos) (pq:List (W3×Obj)) (s:W4) (σ:St) (H:Hp) (Q:List V->Hp->Prop),Inv X pq σ H s->t σ H Q->W7 (WB X.prog X.w) X.A (evalAll ((X4 pos (Wl kws X.env)).map (·.2))) (AP X pq σ Q) X.xe s
section
variable{X:Cx}{CX:CXT}{k:Nat}{f C:W3}{fd:Wc}{ps ks:List Str}{sp:Sp}{E:XK}{x m:Str}{p pos apos kpos:Pos}{e o:Expr}{es:List Expr}{kws:List Keyword}{te ta:TE}{t tk:TA}{nm:Option Str}
theorem Oo:PK X [] M3:=λ_ _ _ _ H Q I h=>wpAny_evalAll_nil ⟨[],H,I,.nil,h⟩
theorem M5(ha:PE X e te)(hr:PK X kws t):PK X (⟨nm,e,kpos⟩::kws) (C5 te t):=by
 intro pos pq s σ H Q I h;show W7 _ _ (evalAll ((do let v <- eval e X.env;standAt pos;pure v)::(X4 pos (Wl kws X.env)).map (·.2))) _ _ s;refine wpAny_evalAll_cons (W0 (thn (ha pq s σ H _ I h) λu s1 ⟨x,H1,I1,r1,q1⟩=>W0 (Wz (W5 ?_))));exact thn (hr pos pq s1 σ H1 _ I1 q1) λus s2 ⟨xs,H2,I2,r2,q2⟩=>⟨x::xs,H2,I2,.cons r1 r2,q2⟩
variable{g:List Vz->List Vz->List Vz}{gV:List V->List V->List V}
end
structure FnScope(N P:List Str)(sc:WK):Prop where
 kind:sc.kind = .function
 co:sc.isCoroutine=false
 gen:sc.isGenerator=false
 nd:N.Nodup
 pre:N.take P.length=P
 par:∀ x∈P,sc.names.lookup x=some .local\/sc.names.lookup x=some .cell
 nofree:∀ y∈sc.names,y.2 ≠ .free
theorem D0{kindOf:Str->Option WW}{x:Str}:∀{binds:List (Str×Vz)} {m:Str->Option Vz},(∀ v,(x,v)∉binds)->bindL kindOf binds m x=m x
 | [],_,_=>rfl
 | (n,v)::r,m,h=>by
   unfold bindL;rw[D0 λw hw=>h w (Su _ hw)];split
   ·have:x≠n:=by rintro rfl;exact h v T7
    simp[this]
   ·rfl
theorem D1{kindOf:Str->Option WW}{x:Str}:∀{binds:List (Str×Vz)} {m:Str->Option Vz},(∀ v,(x,v)∉binds)->bindC kindOf binds m x=m x
 | [],_,_=>rfl
 | (n,v)::r,m,h=>by
   unfold bindC;rw[D1 λw hw=>h w (Su _ hw)];split
   ·rfl
   ·have:x≠n:=by rintro rfl;exact h v T7
    simp[this]
theorem D3{kindOf:Str->Option WW}{x:Str}{v:Vz}:∀{P:List Str} {vs:List Vz} {i:Nat} {m:Str->Option Vz},P.Nodup->P[i]?=some x->vs[i]?=some v->kindOf x=some .local->
 bindL kindOf (P.zip vs) m x=some v
 | [],_,_,_,_,h,_,_=>by simp at h
 | _::_,[],_,_,_,_,h,_=>by simp at h
 | p::P,w::vs,0,m,nd,h1,h2,hk=>by
   simp at h1 h2;subst h1;subst h2;show bindL kindOf ((p,w)::P.zip vs) m p=_;unfold bindL;rw[D0 λv hv=>(U3.mp nd).1 (UC hv).1,iP hk];simp
 | p::P,w::vs,i+1,m,nd,h1,h2,hk=>by
   show bindL kindOf ((p,w)::P.zip vs) m x=_;unfold bindL;exact D3 (i:=i) (U3.mp nd).2 (by simpa using h1) (by simpa using h2) hk
theorem D4{kindOf:Str->Option WW}{x:Str}{v:Vz}:∀{P:List Str} {vs:List Vz} {i:Nat} {m:Str->Option Vz},P.Nodup->P[i]?=some x->vs[i]?=some v->kindOf x≠some .local->
 bindC kindOf (P.zip vs) m x=some v
 | [],_,_,_,_,h,_,_=>by simp at h
 | _::_,[],_,_,_,_,h,_=>by simp at h
 | p::P,w::vs,0,m,nd,h1,h2,hk=>by
   simp at h1 h2;subst h1;subst h2;show bindC kindOf ((p,w)::P.zip vs) m p=_;unfold bindC;rw[D1 λv hv=>(U3.mp nd).1 (UC hv).1,iG hk];simp
 | p::P,w::vs,i+1,m,nd,h1,h2,hk=>by
   show bindC kindOf ((p,w)::P.zip vs) m x=_;unfold bindC;exact D4 (i:=i) (U3.mp nd).2 (by simpa using h1) (by simpa using h2) hk
noncomputable def start(N:List Str)(vs:List V):St:=vs.map some++Sj (N.length - vs.length) none
noncomputable def FX(CX:CXT)(P:W8)(w:WC)(K:SU)(mg:Str->Option Vz)(base:Heap)(N:List Str)(qual:Str)(scope:WK)(f:W3)(cd:Vz)(A:WH)(outer:List Env)(s:W4)(H:Hp)(E:XK):Cx where
 prog:=P
 w:=w
 K:=K
 mg:=mg
 base:=base
 A:=A.deeper (envOfC qual scope s.heap.objs.size f cd)
 N:=N
 s₀:=s
 H₀:=H
 env:=envOfC qual scope s.heap.objs.size f cd
 outer:=outer
 stack:=envOfC qual scope s.heap.objs.size f cd::outer
 ex:=[]
 calm:=true
 fn:=λ_=>true
 pn:=[]
 xe:=λe s'=>W7 (WB P w) (A.deeper (envOfC qual scope s.heap.objs.size f cd)) (leaving (envOfC qual scope s.heap.objs.size f cd) e) (λ_ s''=>CX outer H s E e s'') (λe' s''=>CX outer H s E e' s'') s'
theorem EK{sc:WK}{n:Nat}{x:Str}(h:sc.names.lookup x=some .cell):∃ c,(WX n sc.names []).lookup x=some c:=by
 have q:=PySem.W.cellsFrom_some sc.names n [] (.inl h);exact Tw.mp q
theorem ID{CX:CXT}{P:W8}{w:WC}{K:SU}{mg:Str->Option Vz}{base:Heap}{N ps:List Str}{qual:Str}{scope:WK}{f:W3}{cd:Vz}{A:WH}{outer:List Env}{s s1:W4}{H:Hp}{E:XK}{us:List Vz}{vs:List V}
 (S:FnScope N ps scope) (hd:A.handled=none) (e0:Env0 P w K mg base A outer s H) (hl:vs.length=ps.length) (r:Vals vs us)
 (x:InCallC s s.heap.objs.size (bindL (envOfC qual scope s.heap.objs.size f cd).kindOf (ps.zip us) λ_=>none) (WX (s.heap.objs.size+1) scope.names []) (bindC (envOfC qual scope s.heap.objs.size f cd).kindOf (ps.zip us) λ_=>none) s1):
 Inv (FX CX P w K mg base N qual scope f cd A outer s H E) [] (start N vs) H s1:=by
 have hpl:ps.length<=N.length:=by have:=congrArg Uo S.pre;rw[UH]at this;omega
 obtain⟨h1,tk,rfl,hk⟩:=x.done;have noA:∀ b:W3,b∉(FX CX P w K mg base N qual scope f cd A outer s H E).ex:=λb z=>absurd (show b∈([]:List W3) from z) (by simp)
 refine⟨⟨e0.mod,S.kind,rfl,rfl,Sd _,λy z c h1 h2=>?_,λy hy=>?_,λy c _ h=>?_,λ_=>hd,Around.frames_deeper e0.frames,.inr ⟨rfl,rfl⟩,λb z=>absurd z (noA b),e0.bs,e0.bsz,λb _ _=>noA b,λb z=>absurd z (noA b),e0.funs,e0.frf⟩,
  rfl,e0.bare,Un.kept hk,⟨_,x.toInCall.ns,λi y v h1 h2 h3=>?_⟩,λy c h=>⟨_,x.cell y c h⟩,e0.hok.fresh (Sd _),λy c h=>?_,λp hp=>absurd (show p∈([]:List (W3×Obj)) from hp) (by simp),e0.hok.kept hk,?_⟩
 ·exact name_of_addr x.apart (PySem.mem_of_lookup h1) (PySem.mem_of_lookup h2)
 ·have hy:scope.names.lookup y=some .cell\/scope.names.lookup y=some .free:=hy;rcases hy with hy | hy
  ·exact EK hy
  ·exact absurd rfl (S.nofree _ (PySem.mem_of_lookup hy))
 ·exact UY (x.above y c (PySem.mem_of_lookup h))
 ·have hi:i<vs.length:=by
   unfold start at h2;by_cases hi:i<vs.length
   ·exact hi
   ·rw[TR (by simpa using hi)]at h2;rw[U0]at h2;split at h2<;>cases h2
  have ha:vs[i]?=some v:=by
   unfold start at h2;rw[Sv (by simpa using hi),Sq]at h2;cases e:vs[i]? with
   | none=>rw[e]at h2;cases h2
   | some a=>rw[e]at h2;cases h2;rfl
  obtain⟨u,hu,rv⟩:=r.get ha
  have hp:ps[i]?=some y:=by
   rw[<-S.pre,List.getElem?_take_of_lt (by omega)];exact h1
  have ndP:ps.Nodup:=by rw[<-S.pre];exact S.nd.sublist (List.take_sublist _ _)
  refine⟨u,rv,?_⟩;rcases S.par y (Sh hp) with k | k
  ·exact .inl ⟨k,D3 ndP hp hu k⟩
  ·obtain⟨c,e⟩:=EK (n:=s.heap.objs.size+1) k;refine .inr ⟨.inl k,c,e,?_⟩;have q:=x.cell y c e;rw[D4 ndP hp hu (by show scope.names.lookup y≠_;rw[k];decide)]at q;exact q
 ·exact e0.hok.fresh (UY (x.above y c (PySem.mem_of_lookup h)))
 ·unfold start;show _=N.length;rw[SY,SX,UO];omega
theorem Qm{CX:CXT}{P:W8}{w:WC}{K:SU}{mg:Str->Option Vz}{base:Heap}{k:Nat}{f:W3}{name qual:Str}{params:Arguments}{body:List Stmt}{scope:WK}{dV kV doc pm cdv ct oc:Vz}{an od:Option W3}
 {osl:Array (Option Vz)} {N ps:List Str} {sp:Sp} (lk:K.lookup f=some ⟨oc,od,.func (PySem.W.fnOf name qual params body scope dV kV doc pm an cdv ct),osl⟩) (hcd:PySem.W.codeIn K cdv qual=true) (S:FnScope N ps scope)
 (len:∀ vs H Q E,sp vs H Q E->vs.length=ps.length)
 (hbody:∀(A:WH) (outer:List Env) (s:W4) (H:Hp) (vs:List V) (Q:VK) (E:XK),Room k (A.deeper (envOfC qual scope s.heap.objs.size f cdv))->sp vs H Q E->
   ∃ t,PSs (FX CX P w K mg base N qual scope f cdv A outer s H E) body t/\t {nx:=λ_ H'=>Q .non H',rt:=Q} (start N vs) H):
 FnOk P w K mg base CX (k+1) f (PySem.W.fnOf name qual params body scope dV kV doc pm an cdv ct) ps sp:=by
 refine⟨len,λA outer s H args us vs Q E hr e0 hb r hsp=>?_⟩;have hl:=len _ _ _ _ hsp;have KX:K.In s.heap:=e0.mod.kin.keeps λb o e=>(e0.bs b o e).1;have lim:s.heap.NoLimit:=e0.mod.nolimit.keeps λb o e=>(e0.bs b o e).1
 have hkind:∀ y∈ps.zip us,scope.names.lookup y.1=some .local\/(scope.names.lookup y.1=some .cell/\((WX (s.heap.objs.size+1) scope.names []).lookup y.1).isSome=true):=λ⟨n,v⟩ hy=>by
  rcases S.par n (UC hy).1 with q | q
  ·exact .inl q
  ·exact .inr ⟨q,PySem.W.cellsFrom_some _ _ _ (.inl q)⟩
 refine codeAny_call_function hr.depth (KX _ _ lk) rfl S.co S.gen rfl (PySem.W.codeRec_of KX hcd) (hb _ _ _ _ ?_);refine wpAny_newFunctionEnv_cells S.kind hkind λenv he s1 x=>?_;subst he;refine⟨lim.keeps x.toInCall.keep,codeAny_func ?_⟩;obtain⟨t,ht,hq⟩:=hbody A outer s H vs Q E (hr.deeper _) hsp;have I:Inv (FX CX P w K mg base N qual scope f cdv A outer s H E) [] (start N vs) H s1:=ID S hr.hd e0 hl r x;refine Wj (ht [] s1 (start N vs) H _ I hq) (λfl s' hs=>?_) λe s' hs=>hs
 have fin:∀{σ':St} {H':Hp} {v:V} {u:Vz},Inv (FX CX P w K mg base N qual scope f cdv A outer s H E) [] σ' H' s'->RelV v u->Q v H'->CE outer P w H s Q u s':=
  λ{σ' H' v u} J rv q=>⟨v,H',J.os,J.bare,J.base,J.hok,rv,q⟩
 cases fl with
 | ret u=>
   obtain⟨v,σ',H',J,rv,q⟩:=hs;exact fin J rv q
 | next=>
   obtain⟨σ',H',J,q⟩:=hs;exact fin (v:=V.non) (u:=Value.none) J rfl q
 | brk=>
   obtain⟨_,_,_,q⟩:=hs;exact False.elim q
 | cont=>
   obtain⟨_,_,_,q⟩:=hs;exact False.elim q
section
variable{X:Cx}{x:Str}{p pos:Pos}{e:Expr}{es:List Expr}{t:TA}{id T:String}{r:List V->Hp->VK->Prop}
noncomputable def tCB(r:List V->Hp->VK->Prop)(t:TA):TE:=λσ H Q=>t σ H λvs H1=>r vs H1 Q
theorem n6(hc:CallR X (.builtin id) r)(hg:Gl X x)(hm:X.mg x=none)(hv:WD x=some (.builtin id))(ha:PA X (e::es) t)(hn:x≠"__name__":=by decide)(hdb:(x == ("__debug__":Str))=false:=by decide)
 (he:WG (e::es) X.env=(false,eval e X.env)::WG es X.env:=by rfl) (hpl:(backTo pos (WG es X.env)).any (·.1)=false:=by rfl):PE X (.Call (.Name x p) (e::es) [] pos) (tCB r t):=by
 intro pq s σ H Q I h;refine Wr (AT I hg hm hv ?_ hn hdb);exact PyProof.Rows.callWith_builtin1 (thn (ha pos pq s σ H _ I h) λus s1 ⟨vs,H1,I1,r1,q1⟩=>hc pq s1 σ H1 vs us Q I1 r1 q1) he hpl
theorem Au(hc:CallR X (.type T) r)(hg:Gl X x)(hm:X.mg x=none)(hv:WD x=some (.type T))(ha:PA X (e::es) t)(hn:x≠"__name__":=by decide)(hdb:(x == ("__debug__":Str))=false:=by decide)
 (he:WG (e::es) X.env=(false,eval e X.env)::WG es X.env:=by rfl) (hpl:(backTo pos (WG es X.env)).any (·.1)=false:=by rfl):PE X (.Call (.Name x p) (e::es) [] pos) (tCB r t):=by
 intro pq s σ H Q I h;refine Wr (AT I hg hm hv ?_ hn hdb);exact PyProof.Rows.callWith_type1 (thn (ha pos pq s σ H _ I h) λus s1 ⟨vs,H1,I1,r1,q1⟩=>hc pq s1 σ H1 vs us Q I1 r1 q1) he hpl
end
end L2
namespace HT
open PySem PyProof.Rows
noncomputable def lexLt:List Int->List Int->Bool
 | [],[]=>false
 | [],_::_=>true
 | _::_,[]=>false
 | x::xs,y::ys=>if x=y then lexLt xs ys else decide (x<y)
theorem FY(x y:Int)(xs ys:List Int):lexLt (x::xs) (y::ys)=if x=y then lexLt xs ys else decide (x<y):=rfl
theorem Ck:lexLt [] []=false:=rfl
theorem C6(y:Int)(ys:List Int):lexLt [] (y::ys)=true:=rfl
theorem C7(x:Int)(xs:List Int):lexLt (x::xs) []=false:=rfl
theorem JW(A:WH)(s:W4)(a:Int)(t:Tok)(c:Int)(u:Tok):∃ e,SeqAt.EqAt A s (.int a t) (.int c u) e/\(e=true↔a=c):=
 ⟨(a == c),SeqAt.EqAt.int_int a t c u,by simp⟩
theorem rcLt_int(A:WH)(s:W4)(a:Int)(t:Tok)(c:Int)(u:Tok)(prog:W8)(w:WC)(E:Vz->W4->Prop)(Q:Vz->W4->Prop)(h:Q (.bool (decide (a<c))) s):
 W7 (WB prog w) A (X1 .Lt (.int a t) (.int c u)) Q E s:=
 (PyProof.Rows.lt_int h:W7 (WB prog w) A (WJ .Lt (.int a t) (.int c u)) Q E s)
section
open PySem.SeqAt
open PySem.AutoSeq1 (wpAny_loadPart')
open PySem.MeetsSeq PySem.MeetsSeq2 PySem.MeetsSeq3
theorem Cn(l b:W3)(items items2:Array Vz)(n n2:Nat)(dd dd2:Option W3)(sl sl2:Array (Option Vz))(ns ms:List Int)(hi:IntsAre items.toList ns)(hj:IntsAre items2.toList ms):
 Meets (Builtin.«tuple.__lt__» ⟨[.ref l,.ref b],[]⟩)
  (λ_ R s=>s.heap.get? l=some {cls := .type "tuple",dict:=dd,data := .seq items n,slots:=sl}/\s.heap.get? b=some {cls := .type "tuple",dict:=dd2,data := .seq items2 n2,slots:=sl2}/\
    R (.ok (.ret (.bool (lexLt ns ms)))) s):=
 .of_wp λprog w A R s h=>by
  obtain⟨hp,g,d,tk,os⟩:=s;obtain⟨hl,hb,h⟩:=h;have f2:=AutoSeq1.sub_tuple_tuple;have z1:items.size=ns.length:=by rw[<-hi.length];simp
  have z2:items2.size=ms.length:=by rw[<-hj.length];simp
  wp_walk using wpAny_loadPart' hl,wpAny_loadPart' hb,wpAny_forIn_list _ (λrest b s'=>b.1=none/\s'=⟨hp,g,d,tk,os⟩/\∃(vs ws:List Vz) (ns' ms':List Int),rest=vs.zip ws/\
   IntsAre vs ns'/\IntsAre ws ms'/\ns'.length+items2.size=ms'.length+items.size/\R (.ok (.ret (.bool (lexLt ns' ms')))) ⟨hp,g,d,tk,os⟩) _
  case turn=>
   rintro⟨y,x⟩ rest b s' ⟨hb',rfl,vs,ws,ns',ms',hz,hvi,hwi,hlen,hR⟩;cases hvi with
   | nil=>rw[List.zip_nil_left]at hz;cases hz
   | cons a t hvi'=>
     cases hwi with
     | nil=>rw[List.zip_nil_right]at hz;cases hz
     | cons c u hwi'=>
       rw[VF]at hz;injection hz with hyx hrest;injection hyx with hy hx;subst hy hx;rw[FY]at hR;simp only[TM]at hlen;obtain⟨e,he,hiff⟩:=JW A.in1 ⟨hp,g,d,tk,os⟩ a t c u;refine W0 (he prog w _ _ ?_);cases e with
       | true=>
         rw[iP (hiff.mp rfl)]at hR
         wp_walk
         exact⟨rfl,rfl,_,_,_,_,hrest,hvi',hwi',by omega,hR⟩
       | false=>
         rw[iG (λq=>absurd (hiff.mpr q) Si)]at hR;have hri:=rcLt_int A.in1 ⟨hp,g,d,tk,os⟩ a t c u prog w
         wp_walk using hri
         exact⟨_,rfl,by simpa using hR⟩
  case fin=>
   rintro⟨b1,b2⟩ s' ⟨hb',rfl,vs,ws,ns',ms',hz,hvi,hwi,hlen,hR⟩;simp only at hb';subst hb'
   have hv:lexLt ns' ms'=decide (items.size<items2.size):=by
    cases hvi with
    | nil=>
      cases hwi with
      | nil=>
        simp only[U4]at hlen;rw[Ck];exact(decide_eq_false (by omega)).symm
      | cons c u hw=>
        simp only[U4,TM]at hlen;rw[C6];exact(decide_eq_true (by omega)).symm
    | cons a t hv=>
      cases hwi with
      | nil=>
        simp only[U4,TM]at hlen;rw[C7];exact(decide_eq_false (by omega)).symm
      | cons c u hw=>
        rw[VF]at hz;cases hz
   rw[hv]at hR
   wp_walk
   exact⟨_,rfl,by simpa[Builtin.Tuple.tupleCompareSizes] using hR⟩
  case h=>
   exact⟨rfl,rfl,items.toList,items2.toList,ns,ms,rfl,hi,hj,by omega,h⟩
end
section
variable{prog:W8}{w:WC}{A:WH}{E:Vz->W4->Prop}{s:W4}
theorem lt_tupInts{l b:W3}{items items2:Array Vz}{ns ms:List Int}{Q:Vz->W4->Prop}(hl:IsTup s.heap l items)(hb:IsTup s.heap b items2)(hi:IntsAre items.toList ns)(hj:IntsAre items2.toList ms)
 (hu:A.units<cLine) (h:Q (.bool (lexLt ns ms)) s):W7 (WB prog w) A (WJ .Lt (.ref l) (.ref b)) Q E s:=by
 obtain⟨⟨cls,dd,data,sl⟩,ho,hc,n,hd⟩:=id hl;obtain⟨⟨cls2,dd2,data2,sl2⟩,ho2,hc2,n2,hd2⟩:=id hb;simp only at hc hd hc2 hd2;subst hc hd hc2 hd2
 exact richCompare_meets_room (op := .Lt) ⟨_,ho,rfl⟩ ⟨_,ho2,rfl⟩ PySem.F.slot_tuple_lt PySem.F.entry_tuple_lt (PySem.F.args_tuple_lt_2 _ _) (Cn l b items items2 n n2 dd dd2 sl sl2 ns ms hi hj)
  ⟨ho,ho2,show Value.bool (lexLt ns ms)≠Value.notImplemented/\Q (.bool (lexLt ns ms)) s from ⟨(λx=>nomatch x),h⟩⟩ hu
theorem cat_tup{t b:W3}{vs ws:List Vz}{Q:Vz->W4->Prop}(ht:IsTup s.heap t vs.toArray)(hb:IsTup s.heap b ws.toArray)(hv:vs≠[])
 (h1:ws=[]->Q (.ref t) s) (h2:ws≠[]->Q (.ref s.heap.objs.size) {s with heap:=s.heap.push {cls := .type "tuple",data := .seq (vs++ws).toArray}})
 (hsz:vs.length+ws.length<=W6):W7 (WB prog w) A (WV .Add (.ref t) (.ref b)) Q E s:=by
 obtain⟨⟨cls,dd,data,sl⟩,ho,hc,n,hd⟩:=id ht;obtain⟨⟨cls2,dd2,data2,sl2⟩,ho2,hc2,n2,hd2⟩:=id hb;simp only at hc hd hc2 hd2;subst hc hd hc2 hd2;have e:vs.toArray++ws.toArray=(vs++ws).toArray:=by simp
 by_cases hw:ws=[]
 ·exact Xe ⟨_,ho,rfl⟩ ⟨_,ho2,rfl⟩ XE XX PySem.F.slot_tuple_add PySem.F.entry_tuple_add (PySem.F.args_tuple_add_2 _ _)
   (tuple_addW1 t b vs.toArray ws.toArray n n2 dd dd2 sl sl2 (by simpa using hv) (by simp[hw])) ⟨ho,ho2,h1 hw⟩
 ·refine Xe ⟨_,ho,rfl⟩ ⟨_,ho2,rfl⟩ XE XX PySem.F.slot_tuple_add PySem.F.entry_tuple_add (PySem.F.args_tuple_add_2 _ _)
   (tuple_addW2 t b vs.toArray ws.toArray n n2 dd dd2 sl sl2 (by simpa using hv) (by simpa using hw) (by rw[SZ,SZ];exact hsz)) ⟨ho,ho2,?_⟩
  rw[e];exact h2 hw
noncomputable def sIx(n d:Nat):Option Int->Nat
 | none=>d
 | some v=>if v<0 then (v+(n:Int)).toNat else min v.toNat n
theorem Op(n d:Nat)(hd:d<=n)(o:Option Int):sIx n d o<=n:=by
 cases o with
 | none=>exact hd
 | some v=>
   show(if v<0 then (v+(n:Int)).toNat else min v.toNat n)<=n;by_cases hv:v<0
   ·rw[iP hv];omega
   ·rw[iG hv];exact Nat.min_le_right _ _
theorem Gi(v:Int)(n d:Nat):(if v<0 then max (v+(n:Int)) 0 else min v (n:Int))=((sIx n d (some v):Nat):Int):=by
 show(if v<0 then max (v+(n:Int)) 0 else min v (n:Int))=(((if v<0 then (v+(n:Int)).toNat else min v.toNat n):Nat):Int)
 by_cases hv:v<0
 ·simp only[iP hv];omega
 ·simp only[iG hv];omega
theorem FZ(lo hi:Option Int)(n:Nat):Builtin.Slice.sliceAdjust lo hi 1 (n:Int)=(((sIx n 0 lo:Nat):Int),((sIx n n hi:Nat):Int)):=by
 have h1:¬ ((1:Int)<0):=by omega
 unfold Builtin.Slice.sliceAdjust;simp only[h1,if_false];refine Prod.ext ?_ ?_
 ·cases lo with
  | none=>rfl
  | some v=>exact Gi v n 0
 ·cases hi with
  | none=>rfl
  | some v=>exact Gi v n n
theorem Fb(i j:Nat):Builtin.Slice.slicePlaces (i:Int) (j:Int) 1=j - i:=by
 unfold Builtin.Slice.slicePlaces;have h1:(1:Int)>0:=by omega
 simp only[h1,if_true,Int.ediv_one];split<;>omega
theorem C8{v:Vz}{o:Option Int}{Q:Option Int->W4->Prop}(p:IsPart v o)(h:Q o s):W7 (WB prog w) A (Builtin.Slice.slicePartIndex v) Q E s:=by
 cases p with
 | none=>exact Xr h
 | int i t=>exact slicePart_int h
theorem AJ{sl:W3}{vl vu:Vz}{lo hi:Option Int}{n:Nat}{Q:Int×Int×Nat->W4->Prop}(hs:s.heap.IsSliceOf sl vl vu .none)(pl:IsPart vl lo)(pu:IsPart vu hi)
 (h:Q (((sIx n 0 lo:Nat):Int),1,sIx n n hi - sIx n 0 lo) s):W7 (WB prog w) A (Builtin.Slice.sliceApplied (.ref sl) (pure (n:Int))) Q E s:=by
 obtain⟨os,hos,hcs,hds⟩:=id hs;unfold Builtin.Slice.sliceApplied Builtin.Slice.sliceFields;refine W0 (W0 (WN hos hds (x:=vl) rfl (W0 (WN hos hds (x:=vu) rfl (W0 (WN hos hds (x := .none) rfl (W5 ?_)))))));refine W0 (Xr ?_);show W7 _ _ (if ((1:Int) == 0)=true then _ else _) _ _ s;rw[iG (by decide)];refine W0 (C8 pl (W0 (C8 pu (W0 (W5 ?_)))));show W7 _ _ (match Builtin.Slice.sliceAdjust lo hi 1 (n:Int) with | (lo,hi)=>pure (lo,(1:Int),Builtin.Slice.slicePlaces lo hi 1)) _ _ s;rw[FZ lo hi n];show W7 _ _ (pure (((sIx n 0 lo:Nat):Int),(1:Int),Builtin.Slice.slicePlaces ((sIx n 0 lo:Nat):Int) ((sIx n n hi:Nat):Int) 1)) _ _ s;rw[Fb];exact W5 h
theorem JX(xs:Array Vz)(i k:Nat):((Sf k).filterMap λ(m:Nat)=>xs[((i:Int)+(m:Int) * 1).toNat]?).toArray=((xs.toList.drop i).take k).toArray:=by
 have e:(λ(m:Nat)=>xs[((i:Int)+(m:Int) * 1).toNat]?)=λm=>xs[i+m]?:=by
  funext m
  have:((i:Int)+(m:Int) * 1).toNat=i+m:=by omega
  rw[this]
 rw[e];have:=pick_run xs i k;rw[List.filterMap_map]at this;have e2:((λx=>xs[x]?)∘λx=>i+x)=λm=>xs[i+m]?:=rfl;rw[e2]at this;rw[this]
theorem getItem_tuple_cut{t sl:W3}{items:Array Vz}{vl vu:Vz}{lo hi:Option Int}{Q:Vz->W4->Prop}(ht:IsTup s.heap t items)(hs:s.heap.IsSliceOf sl vl vu .none)(pl:IsPart vl lo)(pu:IsPart vu hi)
 (hw:¬ (sIx items.size 0 lo=0/\sIx items.size items.size hi=items.size))
 (h:Q (.ref s.heap.objs.size) {s with heap:=s.heap.push {cls := .type "tuple",data := .seq ((items.toList.drop (sIx items.size 0 lo)).take (sIx items.size items.size hi - sIx items.size 0 lo)).toArray}})
 (hsz:items.size<=W6):W7 (WB prog w) A (getItem (.ref t) (.ref sl)) Q E s:=by
 have htake:sizeOk (.seq ((items.toList.drop (sIx items.size 0 lo)).take (sIx items.size items.size hi - sIx items.size 0 lo)).toArray):=by
  show((items.toList.drop (sIx items.size 0 lo)).take (sIx items.size items.size hi - sIx items.size 0 lo)).toArray.size<=W6;rw[SZ,UH,UI,Ue];omega
 have hj:sIx items.size items.size hi<=items.size:=Op _ _ (Sd _) hi;obtain⟨os,hos,hcs,hds⟩:=id hs;have hTs:s.TypeIs (.ref sl) "slice":=⟨os,hos,hcs⟩
 unfold getItem
 try with_reducible refine Wf ?_
 first | refine W0 (W5 ?_) | skip
 refine W0 (Xf ht.typeIs (by decide) ?_)
 refine W0 (WQ (name:=Str.ofString "__getitem__") ht.typeIs PyProof.Rows.slot_tuple_getitem
  (Wi PyProof.Rows.slot_tuple_getitem ht.typeIs XT ?_ (Xa _ _)))
 show W7 _ _ (Builtin.Tuple.tupleItemsOf (.ref t) >>= _) _ _ s;refine W0 (tupleItemsOf_ ht ?_);refine W0 (Xg hTs ?_);rw[iP (by decide)];refine W0 (AJ hs pl pu ?_)
 have hno:¬ ((((sIx items.size 0 lo:Nat):Int) == 0&&(1:Int) == 1&&(sIx items.size items.size hi - sIx items.size 0 lo) == items.size)=true):=by
  intro q;rw[SW,SW]at q;have q1:((sIx items.size 0 lo:Nat):Int)=0:=eq_of_beq q.1.1;have q2:sIx items.size items.size hi - sIx items.size 0 lo=items.size:=eq_of_beq q.2;exact hw ⟨by omega,by omega⟩
 show W7 _ _ (if (((sIx items.size 0 lo:Nat):Int) == 0&&(1:Int) == 1&&(sIx items.size items.size hi - sIx items.size 0 lo) == items.size)=true then _ else _) _ _ s;rw[iG hno,JX]
 first
  | exact W0 (m:=Builtin.Tuple.tupleExact _) (WM (W5 ⟨_,rfl,W5 h⟩) htake)
  | exact W0 (m:=Builtin.Tuple.tupleExact _) (WM (W0 (W5 (W5 ⟨_,rfl,W5 h⟩))) htake)
  | exact W0 (W0 (m:=Builtin.Tuple.tupleExact _) (WM (W5 (W5 ⟨_,rfl,W5 h⟩)) htake))
  | exact W0 (W0 (m:=Builtin.Tuple.tupleExact _) (WM (W5 ⟨_,rfl,W5 h⟩) htake))
end
end HT
namespace L2
open PySem PySem.Spec PyProof.Rows
noncomputable abbrev TO:=St->Hp->(Option Int->Hp->Prop)->Prop
noncomputable def PO(X:Cx)(e:Option Expr)(t:TO):Prop:=
 ∀(pq:List (W3×Obj)) (s:W4) (σ:St) (H:Hp) (Q:Option Int->Hp->Prop),Inv X pq σ H s->t σ H Q->
  W7 (WB X.prog X.w) X.A (evalPart e X.env) (λu s'=>∃ o H',Inv X pq σ H' s'/\IsPart u o/\Q o H') X.xe s
noncomputable def M6:TO:=λ_ H Q=>Q none H
noncomputable def Qn(t:TE):TO:=λσ H Q=>t σ H λx H1=>∃ i,x = .int i/\Q (some i) H1
section
variable{X:Cx}{e:Expr}{te:TE}{lo hi:Option Expr}{tl th:TO}{pos p2:Pos}
theorem M7:PO X none M6:=by
 intro pq s σ H Q I h;rw[evalPart_none];exact W5 ⟨none,H,I,.none,h⟩
theorem M8(h:PE X e te):PO X (some e) (Qn te):=by
 intro pq s σ H Q I hw;rw[evalPart_some];refine thn (h pq s σ H _ I hw) λu s1 ⟨x,H1,I1,r1,q1⟩=>?_;obtain⟨i,rfl,q⟩:=q1;obtain⟨t,rfl⟩:=r1;exact⟨some i,H1,I1,.int i t,q⟩
noncomputable def SlR(X:Cx)(r:V->Option Int->Option Int->Hp->VK->Prop):Prop:=
 ∀(pq:List (W3×Obj)) (s:W4) (σ:St) (H:Hp) (x:V) (v vl vu:Vz) (lo hi:Option Int) (sl:W3) (Q:VK),Inv X pq σ H s->RelV x v->s.heap.IsSliceOf sl vl vu .none->IsPart vl lo->IsPart vu hi->r x lo hi H Q->
  ∃ T id,typeLookup (.type T) "__getitem__"=pure (some (.builtin id))/\s.TypeIs v T/\W7 (WB X.prog X.w) X.A (getItem v (.ref sl)) (EP X pq σ Q) X.xe s
theorem SlR.or{r r':V->Option Int->Option Int->Hp->VK->Prop}(h:SlR X r)(h':SlR X r'):SlR X (λx lo hi H Q=>r x lo hi H Q\/r' x lo hi H Q):=by
 intro pq s σ H x v vl vu lo hi sl Q I rx hs pl pu q;rcases q with q | q
 ·exact h pq s σ H x v vl vu lo hi sl Q I rx hs pl pu q
 ·exact h' pq s σ H x v vl vu lo hi sl Q I rx hs pl pu q
noncomputable def tSl(r:V->Option Int->Option Int->Hp->VK->Prop)(te:TE)(tl th:TO):TE:=λσ H Q=>te σ H λx H1=>tl σ H1 λl H2=>th σ H2 λu H3=>r x l u H3 Q
theorem JY{r:V->Option Int->Option Int->Hp->VK->Prop}(hr:SlR X r)(he:PE X e te)(hl:PO X lo tl)(hu:PO X hi th):PE X (.Subscript e (.Slice lo hi none p2) pos) (tSl r te tl th):=by
 intro pq s σ H Q I h;refine Subscript_ (thn (he pq s σ H _ I h) λv s1 ⟨x,H1,I1,r1,q1⟩=>?_);refine wpAny_Slice (thn (hl pq s1 σ H1 _ I1 q1) λvl s2 ⟨l,H2,I2,pl,q2⟩=>thn (hu pq s2 σ H2 _ I2 q2) λvu s3 ⟨u,H3,I3,pu,q3⟩=>?_);rw[evalPart_none];refine W5 ?_;have I4:Inv X pq σ H3 {s3 with heap:=s3.heap.push {cls := .type "slice",data := .fields #[vl,vu,.none]}}:=I3.kept (t':=s3.toks) λb ob q=>Sa _ q;obtain⟨T,id,hT,ht,hg⟩:=hr pq {s3 with heap:=s3.heap.push {cls := .type "slice",data := .fields #[vl,vu,.none]}} σ H3 x v vl vu l u s3.heap.objs.size Q I4 r1 (Heap.IsSliceOf.new ..) pl pu q3;show W7 (WB X.prog X.w) X.A (subscriptTail e (.Slice lo hi none p2) v (.ref s3.heap.objs.size)) (EP X pq σ Q) X.xe {s3 with heap:=s3.heap.push {cls := .type "slice",data := .fields #[vl,vu,.none]}};exact tail_any (ops:=[.ref s3.heap.objs.size,v]) ht hT hg (by with_unfolding_all rfl)
noncomputable def EL(xs:List V)(lo hi:Option Int):List V:=(xs.drop (HT.sIx xs.length 0 lo)).take (HT.sIx xs.length xs.length hi - HT.sIx xs.length 0 lo)
theorem Bt(xs:List V)(lo hi:Option Int):(EL xs lo hi).length<=xs.length:=by
 unfold EL;rw[UH,UI];omega
noncomputable def Qo(K:SU):V->Option Int->Option Int->Hp->VK->Prop:=λx lo hi H Q=>∃ a xs,x = .ref a/\SqT K H a xs/\
 ¬ (HT.sIx xs.length 0 lo=0/\HT.sIx xs.length xs.length hi=xs.length)/\∀ p,H p=none->Q (.ref p) (upd H p (.tup (EL xs lo hi)))
theorem sl_tup:SlR X (Qo X.K):=by
 intro pq s σ H x v vl vu lo hi sl Q I rx hs pl pu h;obtain⟨a,xs,rfl,hx,hw,q⟩:=h;cases rx;obtain⟨its,r,ht,hz⟩:=I.tuple hx;have hlen:its.toArray.size=xs.length:=by rw[SZ];exact r.length.symm
 refine⟨"tuple",_,PyProof.Rows.slot_tuple_getitem.lookup,ht.typeIs,?_⟩;refine HT.getItem_tuple_cut ht hs pl pu (by rw[hlen];exact hw) ?_ (by rw[hlen];exact hz);rw[hlen];refine⟨.ref s.heap.objs.size,_,I.laid (t':=s.toks) (o := .tup (EL xs lo hi)) (λb ob q=>Sa _ q) (Sd _) ?_,rfl,q _ (I.hok.fresh (Sd _))⟩;exact⟨TH (Bt xs lo hi) hz,_,(r.drop (HT.sIx xs.length 0 lo)).take (HT.sIx xs.length xs.length hi - HT.sIx xs.length 0 lo),IsTup.new _ _⟩
noncomputable def JZ(K:SU):R2:=λx y H Q=>∃ a b xs ys,x = .ref a/\y = .ref b/\SqT K H a xs/\SqT K H b ys/\xs≠[]/\xs.length+ys.length<=W6/\
 (ys=[]->Q (.ref a) H)/\(ys≠[]->∀ p,H p=none->Q (.ref p) (upd H p (.tup (xs++ys))))
theorem Vals.nil_iff{xs:List V}{us:List Vz}(r:Vals xs us):us=[]↔xs=[]:=by
 cases r with
 | nil=>simp
 | cons _ _=>simp
theorem op_catT:OpR X (WV .Add) (JZ X.K):=by
 intro pq s σ H x y v u Q I rx ry h;obtain⟨a,b,xs,ys,rfl,rfl,ha,hb,hx,hz,q1,q2⟩:=h;cases rx;cases ry;obtain⟨its,r1,p1,_⟩:=I.tuple ha;obtain⟨its2,r2,p2,_⟩:=I.tuple hb;refine HT.cat_tup p1 p2 (λz=>hx (r1.nil_iff.mp z)) (λz=>⟨.ref a,H,I,rfl,q1 (r2.nil_iff.mp z)⟩) (λz=>?_) (by rw[<-r1.length,<-r2.length];exact hz);refine⟨.ref s.heap.objs.size,_,I.laid (t':=s.toks) (o := .tup (xs++ys)) (λb ob q=>Sa _ q) (Sd _) ?_,rfl,q2 (λw=>z (r2.nil_iff.mpr w)) _ (I.hok.fresh (Sd _))⟩;exact⟨by rw[SY];exact hz,_,r1.append r2,IsTup.new _ _⟩
end
noncomputable def ixN(n:Nat)(i:Int):Option Nat:=if 0<=i then (if i<n then some i.toNat else none) else if -(n:Int)<=i then some (i+n).toNat else none
noncomputable def atI{α:Type}(xs:List α)(i:Int):Option α:=(ixN xs.length i).bind λj=>xs[j]?
theorem Gj{n:Nat}{i:Int}{j:Nat}(h:ixN n i=some j):seqIndex? i n=some j/\j<n /\ -(n:Int)<=i/\i<n:=by
 unfold ixN at h;by_cases h0:0<=i
 ·rw[iP h0]at h;by_cases h1:i<n
  ·rw[iP h1]at h;have e:i.toNat=j:=oj h;exact⟨by rw[Xk h0 h1,e],by omega,by omega,h1⟩
  ·rw[iG h1]at h;cases h
 ·rw[iG h0]at h;by_cases h1:-(n:Int)<=i
  ·rw[iP h1]at h;have e:(i+n).toNat=j:=oj h;exact⟨by rw[Xh (by omega) h1,e],by omega,h1,by omega⟩
  ·rw[iG h1]at h;cases h
theorem Gk{α:Type}{xs:List α}{i:Int}{v:α}(h:atI xs i=some v):∃ j,seqIndex? i xs.length=some j/\xs[j]?=some v/\j<xs.length /\ -(xs.length:Int)<=i/\i<xs.length:=by
 unfold atI at h;cases e:ixN xs.length i with
 | none=>rw[e]at h;cases h
 | some j=>
   rw[e]at h;obtain⟨h1,h2,h3,h4⟩:=Gj e;exact⟨j,h1,h,h2,h3,h4⟩
theorem j3{α:Type}{xs:List α}{j:Nat}{v:α}(h:xs[j]?=some v):atI xs (j:Int)=some v:=by
 have hj:j<xs.length:=(gM h).1
 have e:ixN xs.length (j:Int)=some j:=by
  unfold ixN;rw[iP (by omega),iP (by omega)];simp
 unfold atI;rw[e];exact h
noncomputable def Gn(b:Expr):Prop:=∀ o i,subscripted b false o i=operate [o,i] (getItem o i)
noncomputable def IxR(X:Cx)(r:R2):Prop:=
 ∀(value slice:Expr) (pq:List (W3×Obj)) (s:W4) (σ:St) (H:Hp) (x y:V) (v u:Vz) (Q:VK),Inv X pq σ H s->RelV x v->RelV y u->r x y H Q->
  subscripted slice false v u=operate [v,u] (getItem v u)->W7 (WB X.prog X.w) X.A (subscriptTail value slice v u) (EP X pq σ Q) X.xe s
noncomputable def MtR(X:Cx)(id:String)(r:V->List V->Hp->VK->Prop):Prop:=
 ∀(pq:List (W3×Obj)) (s:W4) (σ:St) (H:Hp) (x:V) (xs:List V) (v:Vz) (us:List Vz) (Q:VK),Inv X pq σ H s->RelV x v->Vals xs us->r x xs H Q->
  W7 (WB X.prog X.w) X.A (call (.builtin id) (v::us)) (EP X pq σ Q) X.xe s
section
variable{X:Cx}{a b:Expr}{ta tb:TE}{pos:Pos}
theorem IxR.or{r r':R2}(h:IxR X r)(h':IxR X r'):IxR X (λx y H Q=>r x y H Q\/r' x y H Q):=by
 intro value slice pq s σ H x y v u Q I rx ry q hs;rcases q with q | q
 ·exact h value slice pq s σ H x y v u Q I rx ry q hs
 ·exact h' value slice pq s σ H x y v u Q I rx ry q hs
theorem Qp{r:R2}(hr:IxR X r)(ha:PE X a ta)(hb:PE X b tb)(hs:Gn b):PE X (.Subscript a b pos) (tOp r ta tb):=by
 intro pq s σ H Q I h;exact Subscript_ (OX ha hb I h λv u s2 x y H2 I2 rx ry q=>hr a b pq s2 σ H2 x y v u Q I2 rx ry q (hs _ _))
noncomputable def Qq(K:SU):R2:=λx y H Q=>∃ p xs i v,x = .ref p/\y = .int i/\SqL K H p xs/\atI xs i=some v/\Q v H
noncomputable def Qr(K:SU):R2:=λx y H Q=>∃ p xs i v,x = .ref p/\y = .int i/\SqT K H p xs/\atI xs i=some v/\Q v H
theorem ix_list:IxR X (Qq X.K):=by
 intro value slice pq s σ H x y v u Q I rx ry h hs;obtain⟨p,xs,i,z,rfl,rfl,hq,he,q⟩:=h;cases rx;obtain⟨t,rfl⟩:=ry;obtain⟨its,r,pl,hz⟩:=I.list hq;obtain⟨j,h1,h2,h3,h4,h5⟩:=Gk he;obtain⟨w,ew,rw'⟩:=r.get h2;have hl:=r.length;have hn:=B9;have fin:EP X pq σ Q w s:=⟨z,H,I,rw',q⟩
 by_cases h0:0<=i
 ·have hj:i.toNat=j:=by
   rw[Xk h0 h5]at h1;exact oj h1
  exact item_listR pl.isList h0 (by omega) (by rw[hj];simpa using ew) fin hs
 ·have hj:(i+(its.toArray.size:Int)).toNat=j:=by
   rw[Xh (by omega) h4]at h1;rw[SZ,<-hl];exact oj h1
  exact XI (x:=w) pl.isList.typeIs slot_list_getitem.lookup
   (wpAny_getItem_list_neg (Q:=λr s'=>r=w/\EP X pq σ Q r s') pl.isList (by omega) (by rw[SZ]<;>omega) (by omega) (by rw[hj];simpa using ew) ⟨rfl,fin⟩) hs
theorem Oq:IxR X (Qr X.K):=by
 intro value slice pq s σ H x y v u Q I rx ry h hs;obtain⟨p,xs,i,z,rfl,rfl,hq,he,q⟩:=h;cases rx;obtain⟨t,rfl⟩:=ry;obtain⟨its,r,pl,hz⟩:=I.tuple hq;obtain⟨j,h1,h2,h3,h4,h5⟩:=Gk he;obtain⟨w,ew,rw'⟩:=r.get h2;have hl:=r.length;have hn:=B9;have fin:EP X pq σ Q w s:=⟨z,H,I,rw',q⟩
 exact XI (x:=w) pl.typeIs slot_tuple_getitem.lookup
  (getItem_tuple (j:=j) (Q:=λr s'=>r=w/\EP X pq σ Q r s') pl (by omega) (by omega) (by rw[SZ,<-hl];exact h1) (by simpa using ew) ⟨rfl,fin⟩) hs
theorem Fc(its:List Vz)(n j:Nat)(u:Vz):Obj.mapSeq (·.setIfInBounds j u) {cls := .type "list",data := .seq its.toArray n}={cls := .type "list",data := .seq (its.set j u).toArray n}:=by
 simp[Obj.mapSeq]
theorem Inv.lst{pq:List (W3×Obj)}{σ:St}{H:Hp}{s:W4}{p:W3}{xs:List V}(I:Inv X pq σ H s)(h:H p=some (.lst xs)):
 ∃(its:List Vz) (n:Nat),Vals xs its/\s.heap.get? p=some {cls := .type "list",data := .seq its.toArray n}/\xs.length<=W6:=by
 obtain⟨z,its,n,r,e⟩:=I.hok p _ h;exact⟨its,n,r,e,z⟩
theorem Inv.lstUpd{pq:List (W3×Obj)}{σ:St}{H:Hp}{s:W4}{p:W3}{xs ys:List V}{its its':List Vz}{n n':Nat}{f:Obj->Obj}(I:Inv X pq σ H s)(h:H p=some (.lst xs))
 (ho:s.heap.get? p=some {cls := .type "list",data := .seq its.toArray n}) (hf:f {cls := .type "list",data := .seq its.toArray n}={cls := .type "list",data := .seq its'.toArray n'}) (r:Vals ys its') (hz:ys.length<=W6) (t:Nat):
 Inv X pq σ (upd H p (.lst ys)) {s with heap:=s.heap.update p f,toks:=t}:=by
 have e:(s.heap.update p f).get? p=some {cls := .type "list",data := .seq its'.toArray n'}:=by
  rw[UA f ho (by rw[hf]<;>rfl),hf]
 refine I.write (x:=p) (e:=p) (by rw[h];trivial) (.inl rfl) (λb u hb q=>(U6 _ _ (Ne.symm hb)).trans q) ⟨_,e⟩ ?_;exact⟨hz,its',n',r,e⟩
noncomputable def Ja:V->V->V->Hp->(Hp->Prop)->Prop:=λo i v H Q=>∃ p xs k j,o = .ref p/\i = .int k/\H p=some (.lst xs)/\ixN xs.length k=some j/\Q (upd H p (.lst (xs.set j v)))
theorem Jb:QT X Ja:=by
 intro pq s σ H o i v ov iv u Q I ro ri rv h;obtain⟨p,xs,k,j,rfl,rfl,hp,hj,q⟩:=h;cases ro;obtain⟨t,rfl⟩:=ri;obtain⟨its,n,r,ho,hz⟩:=I.lst hp;obtain⟨h1,h2,h3,h4⟩:=Gj hj;have hl:=r.length;have hn:=B9
 have I':Inv X pq σ (upd H p (.lst (xs.set j v))) {s with heap:=s.heap.update p (Obj.mapSeq (·.setIfInBounds j u))}:=
  I.lstUpd hp ho (Fc its n j u) (r.set rv j) (by rw[Ti];exact hz) s.toks
 by_cases h0:0<=k
 ·have hk:k.toNat=j:=by
   rw[Xk h0 h4]at h1;exact oj h1
  exact PySem.W.ki_setAt ho h0 (by omega) (by rw[SZ,<-hl];exact h4) (by rw[hk];exact⟨_,I',q⟩)
 ·have hk:(k+(its.toArray.size:Int)).toNat=j:=by
   rw[Xh (by omega) h3]at h1;rw[SZ,<-hl];exact oj h1
  exact PySem.W.ki_setBack ho (by omega) (by rw[SZ,<-hl];exact h3) (by omega) (by rw[hk];exact⟨_,I',q⟩)
theorem DW(lo hi:Option Int)(n:Nat):(Ws lo hi none n).1=((HT.sIx n 0 lo:Nat):Int)/\(Ws lo hi none n).2.1=((HT.sIx n n hi:Nat):Int)/\(Ws lo hi none n).2.2=1:=by
 refine⟨?_,?_,rfl⟩
 ·cases lo with
  | none=>simp[Ws,HT.sIx]
  | some i=>
    simp only[Ws,HT.sIx,VY,show(1:Int)>0 by decide,if_true];by_cases h:i<0
    ·simp only[h,if_true]<;>omega
    ·simp only[h,if_false]<;>omega
 ·cases hi with
  | none=>simp[Ws,HT.sIx]
  | some i=>
    simp only[Ws,HT.sIx,VY,show(1:Int)>0 by decide,if_true];by_cases h:i<0
    ·simp only[h,if_true]<;>omega
    ·simp only[h,if_false]<;>omega
theorem Co(its:List Vz)(lo hi:Option Int):slicePick its.toArray lo hi none=((its.drop (HT.sIx its.length 0 lo)).take (HT.sIx its.length its.length hi - HT.sIx its.length 0 lo)).toArray:=by
 obtain⟨h1,h2,h3⟩:=DW lo hi its.toArray.size;unfold slicePick;rw[h1,h2,h3];simp only[sliceRange_one,pick_run,SZ]<;>rfl
noncomputable def Qs(K:SU):V->Option Int->Option Int->Hp->VK->Prop:=λx lo hi H Q=>∃ a xs,x = .ref a/\SqL K H a xs/\∀ p,H p=none->Q (.ref p) (upd H p (.lst (EL xs lo hi)))
theorem sl_list:SlR X (Qs X.K):=by
 intro pq s σ H x v vl vu lo hi sl Q I rx hs pl pu h;obtain⟨a,xs,rfl,hx,q⟩:=h;cases rx;obtain⟨its,r,ht,hz⟩:=I.list hx;have hlen:=r.length;refine⟨"list",_,slot_list_getitem.lookup,ht.isList.typeIs,?_⟩;refine wpAny_getItem_list_slice ht.isList hs pl pu .none (by simp) ?_ (by rw[SZ]<;>omega);rw[Co,<-hlen];refine⟨.ref s.heap.objs.size,_,I.laid (t':=s.toks) (o := .lst (EL xs lo hi)) (λb ob q=>Sa _ q) (Sd _) ?_,rfl,q _ (I.hok.fresh (Sd _))⟩;exact⟨TH (Bt xs lo hi) hz,_,0,(r.drop (HT.sIx xs.length 0 lo)).take (HT.sIx xs.length xs.length hi - HT.sIx xs.length 0 lo),So _ rfl⟩
noncomputable def l8:V->Bool
 | .non=>true
 | .bl _=>true
 | .int _=>true
 | .str _=>true
 | _=>false
noncomputable def eqV:V->V->Bool
 | .non,.non=>true
 | .bl a,.bl b=>a == b
 | .bl a,.int b=>(if a then 1 else 0) == b
 | .int a,.bl b=>a == (if b then 1 else 0)
 | .int a,.int b=>a == b
 | .str a,.str b=>a == b
 | _,_=>false
theorem Jc{A:WH}{s:W4}{y x:V}{u v:Vz}(ry:RelV y u)(rx:RelV x v)(fy:l8 y=true)(fx:l8 x=true):SeqAt.EqAt A s u v (eqV y x):=by
 cases y with
 | non=>
   cases ry;cases x with
   | non=>cases rx;exact SeqAt.EqAt.same _
   | bl b=>cases rx;exact SeqAt.EqAt.none_bool b
   | int b=>obtain⟨t,rfl⟩:=rx;exact SeqAt.EqAt.none_int b t
   | str b=>obtain⟨t,rfl⟩:=rx;exact SeqAt.EqAt.none_str b t
   | _=>exact absurd (show false=true from fx) Si
 | bl a=>
   cases ry;cases x with
   | non=>cases rx;exact SeqAt.EqAt.bool_none a
   | bl b=>cases rx;exact SeqAt.EqAt.bool_bool a b
   | int b=>obtain⟨t,rfl⟩:=rx;exact SeqAt.EqAt.bool_int a b t
   | str b=>obtain⟨t,rfl⟩:=rx;exact SeqAt.EqAt.bool_str a b t
   | _=>exact absurd (show false=true from fx) Si
 | int a=>
   obtain⟨t',rfl⟩:=ry;cases x with
   | non=>cases rx;exact SeqAt.EqAt.int_none a t'
   | bl b=>cases rx;exact SeqAt.EqAt.int_bool a t' b
   | int b=>obtain⟨t,rfl⟩:=rx;exact SeqAt.EqAt.int_int a t' b t
   | str b=>obtain⟨t,rfl⟩:=rx;exact SeqAt.EqAt.int_str a t' b t
   | _=>exact absurd (show false=true from fx) Si
 | str a=>
   obtain⟨t',rfl⟩:=ry;cases x with
   | non=>cases rx;exact SeqAt.EqAt.str_none a t'
   | bl b=>cases rx;exact SeqAt.EqAt.str_bool a t' b
   | int b=>obtain⟨t,rfl⟩:=rx;exact SeqAt.EqAt.str_int a t' b t
   | str b=>obtain⟨t,rfl⟩:=rx;exact SeqAt.EqAt.str_str a t' b t
   | _=>exact absurd (show false=true from fx) Si
 | _=>exact absurd (show false=true from fy) Si
noncomputable def eqU(x:V)(u:Vz):Bool:=match u with
 | .none=>eqV .non x
 | .bool b=>eqV (.bl b) x
 | .int i _=>eqV (.int i) x
 | .str z _=>eqV (.str z) x
 | _=>false
theorem DX{x y:V}{u:Vz}(r:RelV y u)(f:l8 y=true):eqU x u=eqV y x:=by
 cases y with
 | non=>cases r;rfl
 | bl b=>cases r;rfl
 | int i=>obtain⟨t,rfl⟩:=r;rfl
 | str z=>obtain⟨t,rfl⟩:=r;rfl
 | _=>exact absurd (show false=true from f) Si
theorem BJ{x:V}:∀{xs:List V} {us:List Vz},Vals xs us->xs.all l8=true->us.any (eqU x)=xs.any λy=>eqV y x
 | _,_,.nil,_=>rfl
 | y::xs,u::us,.cons r t,f=>by
   rw[Tn,SW]at f;rw[Tx,Tx,DX r f.1,BJ t f.2]
theorem y7{A:WH}{s:W4}{x:V}{v:Vz}(rx:RelV x v)(fx:l8 x=true):∀{xs:List V} {us:List Vz},Vals xs us->xs.all l8=true->∀ u∈us,SeqAt.EqAt A s u v (eqU x u)
 | _,_,.nil,_=>λu hu=>by cases hu
 | y::xs,u::us,.cons r t,f=>λu' hu=>by
   rw[Tn,SW]at f;rcases Sm.mp hu with rfl | hu
   ·rw[DX r f.1];exact Jc r rx f.1 fx
   ·exact y7 rx fx t f.2 u' hu
noncomputable def inV(x:V)(xs:List V):Bool:=xs.any λy=>eqV y x
noncomputable def rIn(K:SU)(neg:Bool):R2:=λx y H Q=>∃ p xs,y = .ref p/\(SqL K H p xs\/SqT K H p xs)/\l8 x=true/\xs.all l8=true/\Q (.bl (if neg then !inV x xs else inV x xs)) H
theorem IE:OpR X (WJ .In) (rIn X.K false):=by
 intro pq s σ H x y v u Q I rx ry h;obtain⟨p,xs,rfl,hq,fx,fs,q⟩:=h;cases ry;rcases hq with hq | hq
 ·obtain⟨its,r,pl,hz⟩:=I.list hq;refine SeqAt.in_listAt (eqU x) pl.isList (λw hw=>y7 rx fx r fs w (by simpa using hw)) ⟨.bl _,H,I,rfl,?_⟩;rw[show its.toArray.any (eqU x)=its.any (eqU x) by simp,BJ r fs];exact q
 ·obtain⟨its,r,pl,hz⟩:=I.tuple hq;refine SeqAt.in_tupleAt (eqU x) pl (λw hw=>y7 rx fx r fs w (by simpa using hw)) ⟨.bl _,H,I,rfl,?_⟩;rw[show its.toArray.any (eqU x)=its.any (eqU x) by simp,BJ r fs];exact q
theorem DY:OpR X (WJ .NotIn) (rIn X.K true):=by
 intro pq s σ H x y v u Q I rx ry h;obtain⟨p,xs,rfl,hq,fx,fs,q⟩:=h;cases ry;rcases hq with hq | hq
 ·obtain⟨its,r,pl,hz⟩:=I.list hq;refine SeqAt.notIn_listAt (eqU x) pl.isList (λw hw=>y7 rx fx r fs w (by simpa using hw)) ⟨.bl _,H,I,rfl,?_⟩;rw[show its.toArray.any (eqU x)=its.any (eqU x) by simp,BJ r fs];exact q
 ·obtain⟨its,r,pl,hz⟩:=I.tuple hq;refine SeqAt.notIn_tupleAt (eqU x) pl (λw hw=>y7 rx fx r fs w (by simpa using hw)) ⟨.bl _,H,I,rfl,?_⟩;rw[show its.toArray.any (eqU x)=its.any (eqU x) by simp,BJ r fs];exact q
theorem DZ:CallR X (.builtin "len") (λxs H Q=>∃ p ys,xs=[.ref p]/\(SqL X.K H p ys\/SqT X.K H p ys)/\Q (.int ys.length) H):=by
 intro pq s σ H xs us Q I r h;obtain⟨p,ys,rfl,hq,q⟩:=h;obtain⟨u,rfl,rx⟩:=AI r;cases rx;have hn:=B9;rcases hq with hq | hq
 ·obtain⟨its,r',pl,hz⟩:=I.list hq;have hlen:=r'.length;exact Calls.call_len_list pl.isList (by simp only[SZ]<;>omega) ⟨.int ys.length,H,I.tok _,⟨s.toks+1,by rw[SZ,hlen]⟩,q⟩
 ·obtain⟨its,r',pl,hz⟩:=I.tuple hq;have hlen:=r'.length;exact len_tuple pl (by simp only[SZ]<;>omega) ⟨.int ys.length,H,I.tok _,⟨s.toks+1,by rw[SZ,hlen]⟩,q⟩
theorem CallR.or{f:Vz}{r r':List V->Hp->VK->Prop}(h:CallR X f r)(h':CallR X f r'):CallR X f (λxs H Q=>r xs H Q\/r' xs H Q):=by
 intro pq s σ H xs us Q I rs q;rcases q with q | q
 ·exact h pq s σ H xs us Q I rs q
 ·exact h' pq s σ H xs us Q I rs q
theorem Da:CallR X (.type "list") (λxs H Q=>∃ p ys,xs=[.ref p]/\(SqL X.K H p ys\/SqT X.K H p ys)/\∀ l,H l=none->Q (.ref l) (upd H l (.lst ys))):=by
 intro pq s σ H xs us Q I r h;obtain⟨p,ys,rfl,hq,q⟩:=h;obtain⟨u,rfl,rx⟩:=AI r;cases rx
 have fin:∀(its:List Vz),Vals ys its->ys.length<=W6->∀(h':Heap) (c':Nat),(∀ b o',s.heap.get? b=some o'->h'.get? b=some o')->
  h'.get? s.heap.objs.size=some {cls := .type "list",dict:=none,data := .seq its.toArray c',slots:=#[]}->EP X pq σ Q (.ref s.heap.objs.size) {s with heap:=h'}:=λits r' hz h' c' kp e=>
  ⟨.ref s.heap.objs.size,_,I.laid (t':=s.toks) kp (Sd _) (show ObjOk X.prog X.w _ h' _ (.lst ys) from ⟨hz,its,c',r',e⟩),rfl,q _ (I.hok.fresh (Sd _))⟩
 rcases hq with hq | hq
 ·obtain⟨its,r',pl,hz⟩:=I.list hq;have hlen:=r'.length;obtain⟨o,ho,hc,n,hd⟩:=pl.isList;exact call_list_seq p (.inl rfl) ho hc hd (λh' c' kp e=>fin its r' hz h' c' kp e) (by simp only[SZ]<;>omega)
 ·obtain⟨its,r',pl,hz⟩:=I.tuple hq;have hlen:=r'.length;obtain⟨o,ho,hc,n,hd⟩:=pl;exact call_list_seq p (.inr rfl) ho hc hd (λh' c' kp e=>fin its r' hz h' c' kp e) (by simp only[SZ]<;>omega)
theorem Cp:CallR X (.type "tuple") (λxs H Q=>∃ p ys,xs=[.ref p]/\((SqL X.K H p ys/\∀ l,H l=none->Q (.ref l) (upd H l (.tup ys)))\/(SqT X.K H p ys/\Q (.ref p) H))):=by
 intro pq s σ H xs us Q I r h;obtain⟨p,ys,rfl,h⟩:=h;obtain⟨u,rfl,rx⟩:=AI r;cases rx;rcases h with⟨hq,q⟩ | ⟨hq,q⟩
 ·obtain⟨its,r',pl,hz⟩:=I.list hq;have hlen:=r'.length;refine call_tuple_list pl.isList (λh' kp=>?_) (by simp only[SZ]<;>omega);have I1:Inv X pq σ H {s with heap:=h'}:=I.kept (t':=s.toks) kp
  have I2:Inv X pq σ (upd H h'.objs.size (.tup ys)) {s with heap:=h'.push {cls := .type "tuple",data := .seq its.toArray}}:=
   I1.laid (t':=s.toks) (λb o e=>Sa _ e) (Sd _) (show ObjOk X.prog X.w _ _ _ (.tup ys) from ⟨hz,its,r',IsTup.new _ _⟩)
  exact⟨.ref h'.objs.size,_,I2,rfl,q _ (I1.hok.fresh (Sd _))⟩
 ·obtain⟨its,r',pl,hz⟩:=I.tuple hq;exact call_tuple_same pl ⟨.ref p,H,I,rfl,q⟩
noncomputable def tyV(K:SU)(T:String)(x:V)(H:Hp):Prop:=match x with
 | .str _=>T="str"
 | .int _=>T="int"
 | .ref p=>(T="list"/\∃ xs,SqL K H p xs)\/(T="tuple"/\∃ o,K.lookup p=some o/\o.cls = .type "tuple"/\o.dict=none)\/
    (T="dict"/\((∃ kvs,H p=some (.dK kvs))\/∃ kvs,H p=some (.dT kvs)))\/(T="set"/\∃ S n,H p=some (.set S n))
 | _=>False
theorem Jd{pq:List (W3×Obj)}{σ:St}{H:Hp}{s:W4}{T:String}{x:V}{v:Vz}(I:Inv X pq σ H s)(r:RelV x v)(ty:tyV X.K T x H):
 s.TypeIs v T/\∀ a,v = .ref a->∃ ob,s.heap.get? a=some ob/\ob.dict=none:=by
 cases x with
 | str z=>
   obtain⟨t,rfl⟩:=r;cases(show T="str" from ty);exact⟨typeIs_str s z t,λ_ e=>nomatch e⟩
 | int i=>
   obtain⟨t,rfl⟩:=r;cases(show T="int" from ty);exact⟨Wx s i t,λ_ e=>nomatch e⟩
 | ref p=>
   cases r;rcases ty with⟨rfl,xs,hq⟩ | ⟨rfl,o,hk,hc,hd⟩ | ⟨rfl,hk⟩ | ⟨rfl,S,n,hk⟩
   ·obtain⟨its,_,pl,_⟩:=I.list hq;refine⟨pl.isList.typeIs,λa e=>?_⟩;cases e;obtain⟨o,n,e,c,hd,_⟩:=pl;exact⟨o,e,hd⟩
   ·refine⟨⟨o,I.kIn p o hk,hc⟩,λa e=>?_⟩;cases e;exact⟨o,I.kIn _ o hk,hd⟩
   ·have z:∃ o,s.heap.get? p=some o/\o.ExactDict:=by
     rcases hk with⟨kvs,hk⟩ | ⟨kvs,hk⟩
     ·obtain⟨_,_,_,_,o,_,_,e,ex,_⟩:=I.hok p _ hk;exact⟨o,e,ex⟩
     ·obtain⟨_,_,_,_,o,_,_,e,ex,_⟩:=I.hok p _ hk;exact⟨o,e,ex⟩
    obtain⟨o,e,ex⟩:=z;refine⟨⟨o,e,ex.1⟩,λa e2=>?_⟩;cases e2;exact⟨o,e,ex.2.1⟩
   ·obtain⟨o,_,_,_,e,ex,_⟩:=I.hok p _ hk;refine⟨⟨o,e,ex.1⟩,λa e2=>?_⟩;cases e2;exact⟨o,e,ex.2.1⟩
 | _=>exact False.elim ty
noncomputable def Os(K:SU)(T:String)(r:V->List V->Hp->VK->Prop)(to:TE):TE:=λσ H Q=>to σ H λx H1=>tyV K T x H1/\r x [] H1 Q
noncomputable def tBM(K:SU)(T:String)(r:V->List V->Hp->VK->Prop)(to:TE)(t:TA):TE:=λσ H Q=>to σ H λx H1=>tyV K T x H1/\t σ H1 λxs H2=>r x xs H2 Q
variable{o e:Expr}{es:List Expr}{to:TE}{t:TA}{name:Str}{apos cpos:Pos}{T id:String}{r:V->List V->Hp->VK->Prop}
theorem C9(pa:PlainAttrs T)(slot:Slot T name id)(hty:typeOf (.builtin id)=pure (.type "method_descriptor"))(hm:MtR X id r)(ho:PE X o to)
 (hbase:X0 o name X.env (eval o X.env)=eval o X.env:=by rfl) (hline:(apos.endLine == cpos.line)=true:=by rfl):PE X (.Call (.Attribute o name apos) [] [] cpos) (Os X.K T r to):=by
 intro pq s σ H Q I h;refine wpAny_Call_method0_late hbase hline (thn (ho pq s σ H _ I h) λv s1 ⟨x,H1,I1,r1,ty,q1⟩=>?_);obtain⟨h1,h2⟩:=Jd I1 r1 ty;exact⟨T,id,pa,slot,hty,h1,h2,Calls.callWith_builtin rfl (PySem.evalArgs_none (hm pq s1 σ H1 x [] v [] Q I1 r1 .nil q1))⟩
theorem EM(pa:PlainAttrs T)(slot:Slot T name id)(hty:typeOf (.builtin id)=pure (.type "method_descriptor"))(hm:MtR X id r)(ho:PE X o to)(ha:PA X (e::es) t)
 (hbase:X0 o name X.env (eval o X.env)=eval o X.env:=by rfl)
 (hfew:((backTo cpos (WG (e::es) X.env)).all (λx=>!x.1)&&(X4 cpos (Wl [] X.env)).all (λx=>x.1.isSome)
   && decide ((e::es).length+([]:List Keyword).length+(if ([]:List Keyword).isEmpty then 0 else 1)<30))=true:=by rfl)
 (hline:(apos.endLine == cpos.line)=true:=by rfl) (hs:WG (e::es) X.env=(false,eval e X.env)::WG es X.env:=by rfl) (hplain:(backTo cpos (WG es X.env)).any (·.1)=false:=by rfl):
 PE X (.Call (.Attribute o name apos) (e::es) [] cpos) (tBM X.K T r to t):=by
 intro pq s σ H Q I h;refine wpAny_Call_method_late hbase hfew hline rfl (thn (ho pq s σ H _ I h) λv s1 ⟨x,H1,I1,r1,ty,q1⟩=>?_);obtain⟨h1,h2⟩:=Jd I1 r1 ty;refine⟨T,id,pa,slot,hty,h1,h2,?_⟩;have hA:=ha cpos pq s1 σ H1 _ I1 q1;rw[hs]at hA ⊢;refine Calls.callWith_builtin (by show(false||(backTo cpos (WG es X.env)).any (·.1))=false;rw[hplain]<;>rfl) (Calls.evalArgs_plain ?_);exact thn hA λus s2 ⟨vs,H2,I2,r2,q2⟩=>hm pq s2 σ H2 x vs v us Q I2 r1 r2 q2
end
noncomputable def MtM(X:Cx)(id:String)(r:V->List V->Hp->VK->Prop):Prop:=
 ∀(pq:List (W3×Obj)) (s:W4) (σ:St) (H:Hp) (x:V) (xs:List V) (v:Vz) (us:List Vz) (Q:VK),Inv X pq σ H s->RelV x v->Vals xs us->r x xs H Q->
  W7 (WB X.prog X.w) X.A (call (.builtin id) (v::us)) (EP X pq σ Q) X.xe s
theorem Vals.one{x:V}{us:List Vz}(h:Vals [x] us):∃ u,us=[u]/\RelV x u:=by
 cases h with
 | cons r q=>cases q;exact⟨_,rfl,r⟩
theorem Vals.two{x y:V}{us:List Vz}(h:Vals [x,y] us):∃ u v,us=[u,v]/\RelV x u/\RelV y v:=by
 cases h with
 | cons r q=>
   obtain⟨v,rfl,s⟩:=Vals.one q;exact⟨_,v,rfl,r,s⟩
theorem Vals.zero:∀{us:List Vz},Vals [] us->us=[]
 | _,.nil=>rfl
theorem Vals.eraseIdx:∀{xs:List V} {us:List Vz} (i:Nat),Vals xs us->Vals (xs.eraseIdx i) (us.eraseIdx i)
 | _,_,_,.nil => .nil
 | _,_,0,.cons _ t=>t
 | _,_,i+1,.cons r t => .cons r (Vals.eraseIdx i t)
theorem Vals.reverse{xs:List V}{us:List Vz}(h:Vals xs us):Vals xs.reverse us.reverse:=by
 induction h with
 | nil=>exact .nil
 | cons r t ih=>rw[VO,VO];exact Vals.append ih (.cons r .nil)
theorem Vals.rep{xs:List V}{us:List Vz}(h:Vals xs us):∀ k:Nat,Vals (Sj k xs).flatten (Sj k us).flatten
 | 0 => .nil
 | k+1=>by
   rw[TX,TX,U1,U1];exact Vals.append h (Vals.rep h k)
theorem BY(its:List Vz):∀(k:Nat) (acc:List Vz),
 Uu (λx1 x2=>x1++x2) acc.toArray (Sj k its.toArray)=(acc++(Sj k its).flatten).toArray
 | 0,acc=>by simp
 | k+1,acc=>by
   have e:acc.toArray++its.toArray=(acc++its).toArray:=by simp
   have e2:(acc++its)++(Sj k its).flatten=acc++(Sj (k+1) its).flatten:=by
    rw[TX,U1,VP]
   rw[<-e2,<-BY its k (acc++its),<-e,TX,List.foldl_cons]
section
variable{X:Cx}{pq:List (W3×Obj)}{σ:St}{H:Hp}{s:W4}{l b:W3}{xs ys zs:List V}
theorem Inv.lset{its its':List Vz}{n:Nat}{f:Array Vz->Array Vz}{t':Nat}(I:Inv X pq σ H s)(hH:H l=some (.lst xs))
 (e:s.heap.get? l=some {cls := .type "list",data := .seq its.toArray n}) (hf:f its.toArray=its'.toArray) (hv:Vals ys its') (hz:ys.length<=W6):
 Inv X pq σ (upd H l (.lst ys)) {s with heap:=s.heap.update l (Obj.mapSeq f),toks:=t'}:=by
 have q:=PySem.IsL.update e f;rw[hf]at q;refine I.write (x:=l) (e:=l) (by rw[hH];exact trivial) (.inl rfl) (λb' u hb hu=>(U6 s.heap (Obj.mapSeq f) (Ne.symm hb)).trans hu) ⟨_,q⟩ ?_;exact⟨hz,its',_,hv,q⟩
theorem Inv.lnew{its:List Vz}{t':Nat}(I:Inv X pq σ H s)(hv:Vals ys its)(hz:ys.length<=W6):
 Inv X pq σ (upd H s.heap.objs.size (.lst ys)) {s with heap:=s.heap.push {cls := .type "list",data := .seq its.toArray},toks:=t'}:=
 I.laid (λ_ _ q=>Sa _ q) (Sd _) ⟨hz,its,0,hv,So _ rfl⟩
theorem Inv.fresh(I:Inv X pq σ H s):H s.heap.objs.size=none:=I.hok.fresh (Sd _)
theorem Inv.lstM(I:Inv X pq σ H s)(hH:H l=some (.lst xs)):xs.length<=W6/\∃(its:List Vz) (n:Nat),Vals xs its/\xs.length=its.length/\s.heap.get? l=some {cls := .type "list",data := .seq its.toArray n}:=by
 obtain⟨z,its,n,r,e⟩:=I.hok l _ hH;exact⟨z,its,n,r,r.length,e⟩
theorem EN{n:Nat}(h:n<=W6):Builtin.List.listTooLong n=false:=by
 unfold Builtin.List.listTooLong;exact decide_eq_false (by omega)
end
section
variable{X:Cx}
noncomputable def Gp:V->List V->Hp->VK->Prop:=λx vs H Q=>∃ l xs y,x = .ref l/\vs=[y]/\H l=some (.lst xs)/\xs.length<W6/\Q .non (upd H l (.lst (xs++[y])))
theorem BZ:MtM X "list.append" Gp:=by
 intro pq s σ H x vs v us Q I rx rv h;obtain⟨l,xs,y,rfl,rfl,hH,hz,q⟩:=h;cases rx;obtain⟨u,rfl,ru⟩:=rv.one;obtain⟨z,its,n,r,hl,e⟩:=I.lstM hH;refine Wh F.slot_list_append ⟨_,e,rfl⟩ F.entry_list_append (F.args_list_append_2 _ _) (PySem.list_append l its.toArray n u (by rw[SZ];omega)) ⟨e,?_⟩;refine⟨.non,_,I.lset (its':=its++[u]) hH e (by simp) (r.append (.cons ru .nil)) ?_,rfl,q⟩;rw[SY,TK];omega
noncomputable def Gq:V->List V->Hp->VK->Prop:=λx vs H Q=>∃ l b xs zs,x = .ref l/\vs=[.ref b]/\H l=some (.lst xs)/\H b=some (.lst zs)/\xs.length+zs.length<=W6/\Q .non (upd H l (.lst (xs++zs)))
theorem D5:MtM X "list.extend" Gq:=by
 intro pq s σ H x vs v us Q I rx rv h;obtain⟨l,b,xs,zs,rfl,rfl,hH,hB,hz,q⟩:=h;cases rx;obtain⟨u,rfl,ru⟩:=rv.one;cases ru;obtain⟨z,its,n,r,hl,e⟩:=I.lstM hH;obtain⟨z2,its2,n2,r2,hl2,e2⟩:=I.lstM hB;have hsz:its.toArray.size+its2.toArray.size<=W6:=by rw[SZ,SZ];omega
 have hlong:¬ (!its.toArray.isEmpty&&Builtin.List.listTooLong (its.toArray.size+its2.toArray.size))=true:=by
  rw[EN hsz,Bool.and_false];exact Si
 refine Wh F.slot_list_extend ⟨_,e,rfl⟩ F.entry_list_extend (F.args_list_extend_2 _ _)
  (AutoSeq1.list_extend_list_list_0 l its.toArray n b its2.toArray n2 hlong (by rw[SZ];omega) (by omega)) ⟨e,e2,?_⟩
 refine⟨.non,_,I.lset (its':=its++its2) hH e (by simp) (r.append r2) ?_,rfl,q⟩;rw[SY];omega
noncomputable def Qt:R2:=λx y H Q=>∃ l b xs zs,x = .ref l/\y = .ref b/\H l=some (.lst xs)/\H b=some (.lst zs)/\xs.length+zs.length<=W6/\∀ p,H p=none->Q (.ref p) (upd H p (.lst (xs++zs)))
theorem Ot:OpR X (WV .Add) Qt:=by
 intro pq s σ H x y v u Q I rx ry h;obtain⟨l,b,xs,zs,rfl,rfl,hH,hB,hz,q⟩:=h;cases rx;cases ry;obtain⟨z,its,n,r,hl,e⟩:=I.lstM hH;obtain⟨z2,its2,n2,r2,hl2,e2⟩:=I.lstM hB;refine PySem.P.add_list e e2 ?_ (by rw[SZ,SZ];omega);have ea:its.toArray++its2.toArray=(its++its2).toArray:=by simp
 rw[ea];exact⟨.ref _,_,I.lnew (t':=s.toks) (r.append r2) (by rw[SY];omega),rfl,q _ I.fresh⟩
noncomputable def Qu:R2:=λx y H Q=>∃ l k xs,x = .ref l/\y = .int k/\H l=some (.lst xs) /\ -(2 ^ 63)<=k/\k<2 ^ 63/\xs.length * k.toNat<=W6/\
 ∀ p,H p=none->Q (.ref p) (upd H p (.lst (Sj k.toNat xs).flatten))
theorem Gr{α:Type}(xs:List α)(k:Nat):(Sj k xs).flatten.length=k * xs.length:=by
 induction k with
 | zero=>simp
 | succ k ih=>rw[TX,U1,SY,ih,VQ,Nat.add_comm]
theorem Ou:OpR X (WV .Mult) Qu:=by
 intro pq s σ H x y v u Q I rx ry h;obtain⟨l,k,xs,rfl,rfl,hH,h1,h2,hz,q⟩:=h;cases rx;obtain⟨t,rfl⟩:=ry;obtain⟨z,its,n,r,hl,e⟩:=I.lstM hH;have hlen:its.toArray.size * k.toNat<=W6:=by rw[SZ,<-hl];exact hz
 have hcap:¬ its.toArray.size * k.toNat>(2 ^ 63 - 1) / 8:=by
  have:(W6:Nat)<=(2 ^ 63 - 1) / 8:=by decide
  omega
 have hfit:¬ (!Builtin.List.listFitsIndex k)=true:=by
  rw[Xs h1 h2];exact Si
 have hlong:¬ Builtin.List.listTooLong (its.toArray.size * k.toNat)=true:=by
  rw[EN hlen];exact Si
 have hnew:Uu (λx1 x2=>x1++x2) #[] (Sj (if its.toArray.isEmpty=true then 0 else k.toNat) its.toArray)=(Sj k.toNat its).flatten.toArray:=by
  have f0:∀ m:Nat,Uu (λx1 x2=>x1++x2) #[] (Sj m its.toArray)=(Sj m its).flatten.toArray:=λm=>by
   have:=BY its m [];rw[Ud]at this;exact this
  rw[f0];cases its with
  | nil=>simp
  | cons a r'=>rw[iG (by simp)]
 refine X7 (T:="list") (U:="int") (by decide) ⟨_,e,rfl⟩ (λs'=>Wx s' k t) noFill_list_mul F.fills_int_mul F.slot_int_rmul repeat_list F.slot_int_index.lookup
  (Wh F.slot_int_rmul (Wx s k t) F.entry_int_rmul (F.args_int_rmul_2 _ _) (int___rmul___int_list k t l its.toArray n)
    ⟨e,rfl,⟨_,e,rfl⟩,Wh F.slot_list_mul ⟨_,e,rfl⟩ F.entry_list_mul (F.args_list_mul_2 _ _) (AutoListH.list___mul___list_int_3 l its.toArray n k t hfit hcap hlong) ⟨e,?_⟩⟩)
 rw[hnew];exact⟨.ref _,_,I.lnew (t':=s.toks) (r.rep k.toNat) (by rw[Gr,VR];exact hz),rfl,q _ I.fresh⟩
end
end L2
namespace Att
open PySem PySem.W PySem.Calls PyProof.Rows
theorem Bx{P:Params}{h:Heap}:∀(ns:List Int) (vs:List Vz),WellAll P h vs (ns.map WData.int)->IntsAre vs ns:=by
 intro ns
 induction ns with
 | nil=>
   intro vs w;rw[Vs]at w;cases w;exact .nil
 | cons n ns ih=>
   intro vs w;rw[TU]at w;cases w with
   | cons a b=>
     cases a;exact .cons _ _ (ih _ b)
theorem IF{l:OpenLaw}{n:Nat}(hn:l.most=some n){P:Params}{h:Heap}{args:List WData}{vals:List Vz}
 (hpre:l.row.toRowW.claim.pre args=true) (hwl:WellAll P h vals args):
 ∃ a vs ns,vals=[Value.ref a]/\args=[WData.list (ns.map WData.int)]/\h.get? a=some {cls := .type "list",data := .seq vs.toArray}/\IntsAre vs ns/\ns.length<=n:=by
 have hsh:WShape.hasAll [] args [.list .int]=true:=(pre_splitW hpre).1;have hc:l.pre.holds [] {args:=args}=true:=(pre_splitW hpre).2;obtain⟨d,r,rfl,h1,h2⟩:=hasAllW_cons hsh;obtain rfl:=hasAllW_nil h2;obtain⟨xs,rfl,h3⟩:=hasW_list h1;obtain⟨ns,rfl⟩:=items_int h3
 have hlen:ns.length<=n:=by
  unfold OpenLaw.pre at hc
  have h4:(WTm.not (.lt (.lit (.int (n:Int))) (.len (.arg 0)))).holds [] {args:=[.list (ns.map .int)]}=true:=by
   have h4:=(holds_andW hc).1;rw[hn]at h4;exact h4
  have h5:=condW_of h4 (w_not (w_lt w_lit (w_len_list (w_arg rfl))));rw[SX]at h5;refine Nat.le_of_not_lt λq=>?_;have q':(n:Int)<((ns.length:Nat):Int):=by omega
  first
   | (rw[decide_eq_true q']at h5;exact absurd h5 (by decide))
   | (simp at h5;omega)
 cases hwl with
 | cons w1 w2=>
   cases w2;cases w1 with
   | list ho hall=>exact⟨_,_,ns,rfl,rfl,ho,Bx ns _ hall,hlen⟩
theorem IG(l:OpenLaw)(args:List WData):l.row.toRowW.claim.post args (.bool true) args=true:=
 postW_of (r:=l.row.toRowW) (X:=(true == true))
  (show WShape.has [] (.bool true) .bool=true by first | rfl | decide | simp[WShape.has,WShape.arms,WShape.armsAll])
  (show(WTm.eq .res (.lit (.bool true))).value [] {args:=args,res:=some (.bool true),after:=args}=some (.bool (true == true)) from w_eq_bool (w_res rfl) w_lit) rfl
theorem attach_call{l:OpenLaw}{n:Nat}{q:W8}{loose:List Str}{XP:(Str->Option Vz)->Heap->Prop}{YP:WC->Heap->Prop}{d:DefRec}
 (hn:l.most=some n) (hdf:d.params.defaults=[])
 (call:∀(w:WC) (s₀ s₁:W4) (mg mb:Str->Option Vz) (fa:W3) (o:Obj) (pm cd doc:Vz) (a:W3) (vs:List Vz) (ns:List Int),
   Ground q loose [] XP w s₀ mg mb s₁.heap->YP w s₁.heap->
   s₁.heap.get? fa=some o->o.data = .func (docDef d.name d.params d.body d.scope pm cd doc)->s₁.heap.CodeRec cd d.name->mg d.name=some (.ref fa)->
   s₁.heap.get? a=some {cls := .type "list",data := .seq vs.toArray}->IntsAre vs ns->ns.length<=n->s₁.gens=#[]->
   codeAny (WB l.prog w) callerA (.call (.ref fa) ⟨[.ref a],[]⟩) (λr s'=>r = .ok (.ret (.bool true))/\OldK s₁.heap s'.heap/\s'.os=s₁.os/\AllBare s'.gens) s₁):
 WalkO q loose XP YP l.row.toRowW d [] (λf vs=>PySem.call f vs):=by
 intro w s₀ s₁ mg mb G Y fa o pm cd doc dV kV ho hd hcd hD hmg hg args vals as hpre hlay hrd hwl hlo;obtain rfl:dV = .none:=Dflts.none hD hdf;obtain rfl:kV = .none:=Dflts.noKw hD;obtain⟨a,vs,ns,rfl,rfl,hobj,hints,hlen⟩:=IF hn hpre hwl;refine enter_call (Xd (call w s₀ s₁ mg mb fa o pm cd doc a vs ns G Y ho (fd_plain hd) hcd hmg hobj hints hlen hg) λr s' hq=>?_);obtain⟨rfl,h2,h3,h4⟩:=hq;exact⟨.inl ⟨.bool true,.bool true,[],rfl,λ_=>rfl,.bool true,IG l _,λ_=>⟨List.Pairwise.nil,λ_ hm=>(nomatch hm)⟩⟩,h2,h3,h4⟩
end Att
namespace L2
open PySem PySem.Spec PyProof.Rows
theorem D6:∀{vs:List Vz} {ns:List Int},IntsAre vs ns->Vals (ns.map V.int) vs
 | _,_,.nil => .nil
 | _,_,.cons n t h => .cons ⟨t,rfl⟩ (D6 h)
noncomputable def M9(H:Hp):Prop:=∀ b,H b=none\/∃ o xs,H b=some (.frz o (.lst xs))
theorem Je{P:W8}{w:WC}{K:SU}{mg mb:Str->Option Vz}{CX:CXT}{k:Nat}{fa a:W3}{fd:Wc}{x:Str}{sp:Sp}{s₁:W4}{vs:List Vz}{ns:List Int}
 (KX:K.In s₁.heap) (hns:s₁.heap.Ns W9 mg) (hb:s₁.heap.Ns XZ mb) (hbb:∀ x:Str,x≠"__name__"->mb x=WD x) (hlim:s₁.heap.NoLimit) (hg:s₁.gens=#[])
 (ha:s₁.heap.get? a=some {cls := .type "list",data := .seq vs.toArray}) (hi:IntsAre vs ns) (hl:ns.length<=W6) (hr:Room k callerA)
 (F:∀ base:Heap,K.In base->base.Ns W9 mg->FnOk P w K mg base CX k fa fd [x] sp) (hbind:∀(s:W4) (u:Vz),BindsTo s fd ⟨[u],[]⟩ [(x,u)])
 (hsp:∀ H:Hp,M9 H->SqL K H a (ns.map V.int)->sp [.ref a] H (λv _=>v = .bl true) λ_ _ _=>False)
 (hCX:∀ H e s',CX [] H s₁ (λ_ _ _=>False) e s'->False):
 codeAny (WB P w) callerA (.call (.ref fa) ⟨[.ref a],[]⟩) (λr s'=>r = .ok (.ret (.bool true))/\OldK s₁.heap s'.heap/\s'.os=s₁.os/\AllBare s'.gens) s₁:=by
 have rv:=D6 hi;have lenV:=hi.length
 have core:∀ H:Hp,M9 H->SqL K H a (ns.map V.int)->HOk P w H s₁.heap->(∀ b,H b≠none->b=a)->(H a≠none->K.lookup a=none)->
  codeAny (WB P w) callerA (.call (.ref fa) ⟨[.ref a],[]⟩) (λr s'=>r = .ok (.ret (.bool true))/\OldK s₁.heap s'.heap/\s'.os=s₁.os/\AllBare s'.gens) s₁:=by
  intro H hO hS hok hA hK;have n0:∀{b:W3} {o:Obj},s₁.heap.get? b=some o->H b=none->(DV s₁.heap H).get? b=some o:=λe n=>JG e n
  have noA:∀{b:W3} {o:Obj} {es:Array DictEntry} {ep:Nat},s₁.heap.get? b=some o->o.data = .dict es ep->H b=none:=λ{b o es ep} e d=>by
   cases q:H b with
   | none=>rfl
   | some u=>
     have e':b=a:=hA b (by rw[q];simp);subst e';rw[ha]at e;cases e;have d':Data.seq vs.toArray _=Data.dict es ep:=d;cases d'
  have nsK:∀{b:W3} {m:Str->Option Vz},s₁.heap.Ns b m->(DV s₁.heap H).Ns b m:=λ{b m} ⟨o,es,ep,e,d,r⟩=>⟨o,es,ep,n0 e (noA e d),d,r⟩
  have hKb:K.In (DV s₁.heap H):=λb o e=>n0 (KX b o e) (by
   cases q:H b with
   | none=>rfl
   | some u=>
     have e':b=a:=hA b (by rw[q];simp);subst e';rw[hK (by rw[q];simp)]at e;cases e)
  have hM:Mod K mg (DV s₁.heap H):=⟨hKb,nsK hns,⟨mb,nsK hb,hbb⟩,let ⟨mc,h1,h2⟩:=hlim;⟨mc,nsK h1,h2⟩⟩
  have e0:Env0 P w K mg (DV s₁.heap H) callerA [] s₁ H:=⟨rfl,hM,λb o e=>Lp e,Nat.le_of_eq (Ht _ _),trivial,λb hb=>absurd (show b∈([]:List W3) from hb) (by simp),hok,.of_eq hg⟩
  refine Xd ((F _ hKb (nsK hns)).run callerA [] s₁ H ⟨[.ref a],[]⟩ [.ref a] [.ref a] _ _ hr e0 (hbind s₁ (.ref a)) (.cons rfl .nil) (hsp H hO hS)) λr s' h=>?_;cases r with
  | error e=>exact(hCX H e s' h).elim
  | ok fl=>
    cases fl with
    | next=>exact False.elim h
    | brk=>exact False.elim h
    | cont=>exact False.elim h
    | ret u=>
      obtain⟨v,H',os,bare,un,hok',r',q⟩:=h;have q':v = .bl true:=q;subst q';obtain rfl:u=Value.bool true:=r';refine⟨rfl,OldK.of_keep λb o e=>?_,os,bare⟩;cases q:H b with
      | none=>exact un.keep b o e q (by intro z;exact absurd (show b∈([]:List W3) from z) (by simp)) (by simp)
      | some u=>
        rcases hO b with z | ⟨ob,xs,z⟩
        ·rw[q]at z;cases z
        ·have z2:=un.frzs b ob _ z;obtain⟨e1,_⟩:=hok b _ z;obtain⟨e2,_⟩:=hok' b _ z2;rw[e]at e1;cases e1;exact e2
 cases hk:K.lookup a with
 | some o=>
   have e:=KX a o hk;rw[ha]at e;cases e;refine core (λ_=>none) (λ_ => .inl rfl) (.inr ⟨_,vs.toArray,_,hk,rfl,rfl,rfl,by rw[SZ,lenV];exact hl,by simpa using rv⟩) (λb u z=>by have z':(none:Option HO)=some u:=z;cases z') (λb z=>absurd rfl z) λz=>absurd rfl z
 | none=>
   refine core (λb=>if b=a then some (.frz {cls := .type "list",data := .seq vs.toArray} (.lst (ns.map V.int))) else none) (λb=>?_) (.inl (.inr ⟨{cls := .type "list",data := .seq vs.toArray},iP rfl⟩)) (λb u z=>?_) (λb z=>?_) λ_=>hk
   ·by_cases hb:b=a
    ·exact .inr ⟨_,_,iP hb⟩
    ·exact .inl (iG hb)
   ·by_cases hb:b=a
    ·have z':=(iP hb).symm.trans z;cases z';subst hb;exact⟨ha,by rw[SX];exact hl,vs,_,rv,ha⟩
    ·have z':=(iG hb).symm.trans z;cases z'
   ·by_cases hb:b=a
    ·exact hb
    ·exact absurd (iG hb) z
theorem walk_of{l:PySem.W.OpenLaw}{n k:Nat}{q:W8}{loose:List Str}{XP:(Str->Option Vz)->Heap->Prop}{YP:WC->Heap->Prop}{d:DefRec}{K:Params->SU}{CX:WC->CXT}{sp:WC->Sp}{x:Str}
 (hn:l.most=some n) (hn2:n<=W6) (hdf:d.params.defaults=[]) (hr:Room k callerA)
 (hY:∀(w:WC) (h:Heap),YP w h->(K w.params).In h)
 (F:∀(w:WC) (mg:Str->Option Vz) (fa:W3) (h:Heap),(K w.params).In h->h.Ns W9 mg->mg d.name=some (.ref fa)->
   ∃ fd:Wc,(∀(s:W4) (u:Vz),BindsTo s fd ⟨[u],[]⟩ [(x,u)])/\
    ∀ base:Heap,(K w.params).In base->base.Ns W9 mg->FnOk l.prog w (K w.params) mg base (CX w) k fa fd [x] (sp w))
 (hsp:∀(w:WC) (H:Hp) (a:W3) (ns:List Int),ns.length<=n->M9 H->SqL (K w.params) H a (ns.map V.int)->sp w [.ref a] H (λv _=>v = .bl true) λ_ _ _=>False)
 (hCX:∀(w:WC) (H:Hp) (s:W4) (e:Vz) (s':W4),CX w [] H s (λ_ _ _=>False) e s'->False):
 PySem.W.WalkO q loose XP YP l.row.toRowW d [] (λf vs=>PySem.call f vs):=by
 refine Att.attach_call hn hdf λw s₀ s₁ mg mb fa o pm cd doc a vs ns G Y ho hd hcd hmg hobj hints hlen hg=>?_;have KX:=hY w _ Y;obtain⟨fd,hb,hF⟩:=F w mg fa _ KX G.T.g hmg;exact Je KX G.T.g G.T.b G.T.builtins G.T.nolimit hg hobj hints (TH hlen hn2) hr hF hb (λH hO hS=>hsp w H a ns hlen hO hS) λH e s'=>hCX w H s₁ e s'
noncomputable def defArgs(s:Stmt):Arguments:=match s with
 | .FunctionDef _ a _ _ _ _ _ _ _ _=>a
 | _=>{posonlyargs:=[],args:=[],vararg:=none,kwonlyargs:=[],kw_defaults:=[],kwarg:=none,defaults:=[]}
noncomputable def defBody(s:Stmt):List Stmt:=match s with
 | .FunctionDef _ _ b _ _ _ _ _ _ _=>b
 | _=>[]
noncomputable def defScope(s:Stmt):WK:=match s with
 | .FunctionDef _ _ _ _ _ _ sc _ _ _=>sc
 | _=>{kind := .function,names:=[],isGenerator:=false,isCoroutine:=false}
noncomputable abbrev CX0:CXT:=λ_ _ _ _ _ _=>False
noncomputable abbrev E0:XK:=λ_ _ _=>False
theorem Qv{X:Cx}:FW CX0 X E0:=λ_ _ _ _ _ _ _ h=>h.elim
structure Fun(K:SU)(x qual:Str)(st:Stmt)(f:W3)(fd:Wc):Prop where
 ex:∃(oc:Vz) (od:Option W3) (kV doc pm:Vz) (an:Option W3) (cdv ct:Vz) (osl:Array (Option Vz)),
  fd=PySem.W.fnOf x qual (defArgs st) (defBody st) (defScope st) .none kV doc pm an cdv ct/\K.lookup f=some ⟨oc,od,.func fd,osl⟩/\PySem.W.codeIn K cdv qual=true
 kp:PySem.W.keepIn K (.ref f)=true
section
variable{P:W8}{w:WC}{K:SU}{mg:Str->Option Vz}{base:Heap}
theorem Fun.ok{x qual:Str}{st:Stmt}{f:W3}{fd:Wc}{N ps:List Str}{k:Nat}{sp:Sp}(F:Fun K x qual st f fd)(S:FnScope N ps (defScope st))(len:∀ vs H Q E,sp vs H Q E->vs.length=ps.length)
 (hbody:∀(cdv:Vz) (A:WH) (outer:List Env) (s:W4) (H:Hp) (vs:List V) (Q:VK) (E:XK),Room k (A.deeper (envOfC qual (defScope st) s.heap.objs.size f cdv))->sp vs H Q E->
   ∃ t,PSs (FX CX0 P w K mg base N qual (defScope st) f cdv A outer s H E).nox (defBody st) t/\t {nx:=λ_ H'=>Q .non H',rt:=Q} (start N vs) H):FnOk P w K mg base CX0 (k+1) f fd ps sp:=by
 obtain⟨oc,od,kV,doc,pm,an,cdv,ct,osl,rfl,lk,hcd⟩:=F.ex;refine Qm lk hcd S len λA outer s H vs Q E hr hsp=>?_;obtain⟨t,h,q⟩:=hbody cdv A outer s H vs Q E hr hsp;exact⟨t,h.nox,q⟩
theorem Fun.binds{x qual:Str}{st:Stmt}{f:W3}{fd:Wc}{ps:List Str}(F:Fun K x qual st f fd)
 (h:∀(kV doc pm:Vz) (an:Option W3) (cdv ct:Vz) (us:List Vz),us.length=ps.length->bindArgs (PySem.W.fnOf x qual (defArgs st) (defBody st) (defScope st) .none kV doc pm an cdv ct) ⟨us,[]⟩=pure (ps.zip us)):Binds K fd ps []:=by
 obtain⟨oc,od,kV,doc,pm,an,cdv,ct,osl,rfl,lk,hcd⟩:=F.ex;exact .all (h kV doc pm an cdv ct)
theorem Fd{x qual:Str}{st:Stmt}{f:W3}{oc:Vz}{od an:Option W3}{osl:Array (Option Vz)}{kV doc pm cdv ct:Vz}(l:K.lookup f=some ⟨oc,od,.func (PySem.W.fnOf x qual (defArgs st) (defBody st) (defScope st) .none kV doc pm an cdv ct),osl⟩)
 (c:PySem.W.codeIn K cdv qual=true) (k:PySem.W.keepIn K (.ref f)=true):Fun K x qual st f (PySem.W.fnOf x qual (defArgs st) (defBody st) (defScope st) .none kV doc pm an cdv ct):=⟨⟨oc,od,kV,doc,pm,an,cdv,ct,osl,rfl,l,c⟩,k⟩
end
noncomputable def Same(H H':Hp):Prop:=∀ b o,H b=some o->H' b=some o
theorem Same.refl(H:Hp):Same H H:=λ_ _ h=>h
theorem Same.trans{H H1 H2:Hp}(a:Same H H1)(b:Same H1 H2):Same H H2:=λc o h=>b c o (a c o h)
theorem Same.free{H H':Hp}(e:Same H H'){l:W3}(h:H' l=Vx):H l=Vx:=by
 cases q:H l with
 | none=>rfl
 | some o=>
   rw[e l o q]at h;cases h
end L2
set_option maxHeartbeats 4000000
namespace L2
open PySem PySem.Spec PyProof.Rows
noncomputable def t9(env:Env):List (Str×WW)->List (Str×W3)->List (Str×W3)
 | [],acc=>acc
 | (n,k)::r,acc=>if k == .free then t9 env r ((n,(env.cells.lookup n).getD 0)::acc) else t9 env r acc
theorem AK{env:Env}{scope:WK}(h:∀ x∈scope.names,x.2 = .free->∃ c,env.cells.lookup x.1=some c):closureFor scope env=pure (t9 env scope.names []):=by
 unfold closureFor
 have go:∀(names:List (Str×WW)) (acc:List (Str×W3)),(∀ x∈names,x.2 = .free->∃ c,env.cells.lookup x.1=some c)->
  (forIn names acc λx r=>match x with
    | (name,kind)=>if (kind == NameKind.free)=true then do let __do_lift <- cellOf env name;pure (ForInStep.yield ((name,__do_lift)::r)) else pure (ForInStep.yield r):Sem (List (Str×W3)))=pure (t9 env names acc):=by
  intro names
  induction names with
  | nil=>intro acc _;rfl
  | cons x r ih=>
    intro acc hx;obtain⟨n,k⟩:=x;rw[V0];have hr:=λy hy=>hx y (Su _ hy);by_cases hk:k = .free
    ·subst hk;obtain⟨c,hc⟩:=hx (n,.free) T7 rfl;have hc':env.cells.lookup n=some c:=hc;unfold t9;simp only[beq_self_eq_true,if_true,cellOf,hc',VZ,pure_bind];exact ih _ hr
    ·have hb:(k == NameKind.free)=false:=by simpa using hk
     unfold t9;simp only[hb,Uh,if_false,pure_bind];exact ih _ hr
 have:=go scope.names [] h;simp only[this]
 first | rfl | simp
theorem Ba{env:Env}:∀(names:List (Str×WW)) (acc:List (Str×W3)),(∀ x∈names,x.2 = .free->∃ c,env.cells.lookup x.1=some c)->(∀ p∈acc,env.cells.lookup p.1=some p.2)->
 ∀ p∈t9 env names acc,env.cells.lookup p.1=some p.2
 | [],_,_,ha,p,hp=>ha p hp
 | (n,k)::r,acc,h,ha,p,hp=>by
   unfold t9 at hp;have hr:=λy hy=>h y (Su _ hy);split at hp
   ·rename_i hk;have hk:k = .free:=by simpa using hk
    obtain⟨c,hc⟩:=h (n,k) T7 hk;have hc':env.cells.lookup n=some c:=hc;refine Ba r _ hr (λq hq=>?_) p hp;rcases Sm.mp hq with rfl | hq
    ·show env.cells.lookup n=some ((env.cells.lookup n).getD 0);rw[hc'];rfl
    ·exact ha q hq
   ·exact Ba r acc hr ha p hp
theorem Bb{env:Env}:∀(names:List (Str×WW)) (acc:List (Str×W3)),∀ p∈acc,p∈t9 env names acc
 | [],_,_,hp=>hp
 | (n,k)::r,acc,p,hp=>by
   unfold t9;split
   ·exact Bb r _ p (Su _ hp)
   ·exact Bb r acc p hp
theorem Bc{env:Env}:∀(names:List (Str×WW)) (acc:List (Str×W3)) (n:Str),(n,NameKind.free)∈names->∃ c,(n,c)∈t9 env names acc
 | (m,k)::r,acc,n,hn=>by
   unfold t9;rcases Sm.mp hn with e | hn
   ·cases e;simp only[beq_self_eq_true,if_true];exact⟨_,Bb r _ _ T7⟩
   ·split
    ·exact Bc r _ n hn
    ·exact Bc r _ n hn
theorem Ad{env:Env}:∀(names:List (Str×WW)) (acc:List (Str×W3)),∀ p∈t9 env names acc,p∈acc\/(p.1,NameKind.free)∈names
 | [],_,_,hp => .inl hp
 | (n,k)::r,acc,p,hp=>by
   unfold t9 at hp;split at hp
   ·rename_i hk;have hk:k = .free:=by simpa using hk
    subst hk;rcases Ad r _ p hp with z | z
    ·rcases Sm.mp z with rfl | z
     ·exact .inr T7
     ·exact .inl z
    ·exact .inr (Su _ z)
   ·rcases Ad r _ p hp with z | z
    ·exact .inl z
    ·exact .inr (Su _ z)
theorem v7:∀(names:List (Str×WW)) (n:Nat) (acc:List (Str×W3)),∀ p∈WX n names acc,p∈acc\/(n<=p.2/\(p.1,NameKind.cell)∈names)
 | [],_,_,_,hp => .inl hp
 | (x,k)::r,n,acc,p,hp=>by
   unfold WX at hp;split at hp
   ·rename_i hk;have hk:k = .cell:=by simpa using hk
    subst hk;rcases v7 r (n+1) _ p hp with z | ⟨z,w⟩
    ·rcases Sm.mp z with rfl | z
     ·exact .inr ⟨Sd _,T7⟩
     ·exact .inl z
    ·exact .inr ⟨Nat.le_of_succ_le z,Su _ w⟩
   ·rcases v7 r n acc p hp with z | ⟨z,w⟩
    ·exact .inl z
    ·exact .inr ⟨z,Su _ w⟩
theorem v8:∀(names:List (Str×WW)) (n:Nat) (acc:List (Str×W3)),∀ p∈acc,p∈WX n names acc
 | [],_,_,_,hp=>hp
 | (x,k)::r,n,acc,p,hp=>by
   unfold WX;split
   ·exact v8 r _ _ p (Su _ hp)
   ·exact v8 r _ _ p hp
theorem AD:∀(names:List (Str×WW)) (n:Nat) (acc:List (Str×W3)) (x:Str),(x,NameKind.cell)∈names->∃ c,(x,c)∈WX n names acc
 | (y,k)::r,n,acc,x,hx=>by
   unfold WX;rcases Sm.mp hx with e | hx
   ·cases e;simp only[beq_self_eq_true,if_true];exact⟨_,v8 r _ _ _ T7⟩
   ·split
    ·exact AD r _ _ x hx
    ·exact AD r _ _ x hx
theorem AE:∀(names:List (Str×WW)) (h:Heap) (acc:List (Str×W3)),∀ p∈WX h.objs.size names acc,p∈acc\/(Xj h names).IsCell p.2 none
 | [],_,_,_,hp => .inl hp
 | (x,k)::r,h,acc,p,hp=>by
   unfold WX at hp;unfold Xj;split at hp
   ·rename_i hk;rw[iP hk];have:=AE r (h.push {cls := .type "cell",data := .cell none}) ((x,h.objs.size)::acc) p (by rw[TV];exact hp);rcases this with z | z
    ·rcases Sm.mp z with rfl | z
     ·exact .inr ⟨_,XM _ _ _ _ (So _ rfl),rfl⟩
     ·exact .inl z
    ·exact .inr z
   ·rename_i hk;rw[iG hk];exact AE r h acc p hp
theorem w5:∀(names:List (Str×WW)) (n:Nat) (acc:List (Str×W3)),(acc.Pairwise λx y=>x.2≠y.2)->(∀ p∈acc,p.2<n)->(WX n names acc).Pairwise λx y=>x.2≠y.2
 | [],_,_,h,_=>h
 | (x,k)::r,n,acc,h,hl=>by
   unfold WX;split
   ·refine w5 r (n+1) _ (VG.mpr ⟨λy hy e=>?_,h⟩) λp hp=>?_
    ·have h1:=hl y hy;have e':n=y.2:=e;exact absurd h1 (by rw[<-e'];exact Tu _)
    ·rcases Sm.mp hp with rfl | hp
     ·exact UT _
     ·exact UP (hl p hp)
   ·exact w5 r n acc h hl
theorem Ae{env:Env}(inj:∀ x y c,env.cells.lookup x=some c->env.cells.lookup y=some c->x=y):∀(names:List (Str×WW)) (acc:List (Str×W3)),(names.map (·.1)).Nodup->
 (∀ x∈names,x.2 = .free->∃ c,env.cells.lookup x.1=some c)->(acc.Pairwise λx y=>x.2≠y.2)->(∀ p∈acc,env.cells.lookup p.1=some p.2/\p.1∉names.map (·.1))->(t9 env names acc).Pairwise λx y=>x.2≠y.2
 | [],_,_,_,h,_=>h
 | (n,k)::r,acc,nd,hf,h,ha=>by
   unfold t9;have nd':=U3.mp nd;have hr:=λy hy=>hf y (Su _ hy);split
   ·rename_i hk;have hk:k = .free:=by simpa using hk
    obtain⟨c,hc⟩:=hf (n,k) T7 hk;have hc':env.cells.lookup n=some c:=hc;refine Ae inj r _ nd'.2 hr (VG.mpr ⟨λy hy e=>?_,h⟩) λp hp=>?_
    ·have e':(env.cells.lookup n).getD 0=y.2:=e;rw[hc']at e';have e2:c=y.2:=e';have q:=(ha y hy).1;have:=inj n y.1 c hc' (by rw[e2];exact q);exact(ha y hy).2 (by rw[<-this];exact T7)
    ·rcases Sm.mp hp with rfl | hp
     ·refine⟨?_,nd'.1⟩;show env.cells.lookup n=some ((env.cells.lookup n).getD 0);rw[hc'];rfl
     ·exact⟨(ha p hp).1,λz=>(ha p hp).2 (Su _ z)⟩
   ·exact Ae inj r acc nd'.2 hr h λp hp=>⟨(ha p hp).1,λz=>(ha p hp).2 (Su _ z)⟩
theorem u7{env:Env}:∀(names:List (Str×WW)) (x:Str),
 (names.map λ(n,k)=>if (k == NameKind.free&&env.scope.kind == .function&&env.kindOf n == some .cell) then (n,NameKind.cell) else (n,k)).lookup x=
   (names.lookup x).map λk=>if (k == NameKind.free&&env.scope.kind == .function&&env.kindOf x == some .cell) then NameKind.cell else k
 | [],x=>rfl
 | (n,k)::r,x=>by
   have ih:=u7 (env:=env) r x;rw[TU];show V3 x ((if (k == NameKind.free&&env.scope.kind == .function&&env.kindOf n == some .cell)=true then (n,NameKind.cell) else (n,k))::_)=_;split
   ·rename_i hc;rw[To,To];cases hx:x == n with
    | false=>exact ih
    | true=>
      have e:x=n:=by simpa using hx
      subst e;simp only[U5];rw[iP hc]
   ·rename_i hc;rw[To,To];cases hx:x == n with
    | false=>exact ih
    | true=>
      have e:x=n:=by simpa using hx
      subst e;simp only[U5];rw[iG hc]
theorem j6{α:Type}:∀{l:List (Str×α)} {n:Str} {c:α},(l.map (·.1)).Nodup->(n,c)∈l->l.lookup n=some c
 | (k,v)::r,n,c,nd,h=>by
   have nd':=U3.mp nd;rw[To];rcases Sm.mp h with e | h2
   ·cases e;simp
   ·cases hb:n == k with
    | true=>
      have e:n=k:=by simpa using hb
      exact absurd (TJ.mpr ⟨(n,c),h2,e⟩:k∈r.map (·.1)) nd'.1
    | false=>exact j6 nd'.2 h2
theorem B6{α:Type}:∀{l:List (Str×α)} {n:Str} {c:α},(n,c)∈l->∃ d,l.lookup n=some d
 | (k,v)::r,n,c,h=>by
   rw[To];cases hb:n == k with
   | true=>exact⟨v,rfl⟩
   | false=>
     rcases Sm.mp h with e | h
     ·cases e;simp at hb
     ·exact B6 h
noncomputable abbrev i7(X:Cx)(scope:WK)(N':List Str)(s2:W4)(H2:Hp)(cs:List (Str×W3))(C:W3)(fp:List W3):Cx where
 prog:=X.prog
 w:=X.w
 K:=X.K
 mg:=X.mg
 base:=X.base
 A:=X.A
 N:=N'
 s₀:=s2
 H₀:=H2
 env:=XF scope cs C X.env
 outer:=X.stack
 stack:=X.stack
 ex:=fp
 fn:=λx=>scope.names.lookup x == some .cell
 calm:=X.calm
 pn:=X.pn
 xe:=λ_ _=>False
noncomputable def v3(sc0 sc:WK)(own cn N:List Str)(js:List Nat):Bool:=
 (decide (sc.kind = .function))&&(sc.names.all λx=>!decide (x.2 = .free)||decide (sc0.names.lookup x.1=some .cell)||decide (sc0.names.lookup x.1=some .free))
 && decide ((sc.names.map (·.1)).Nodup)&&(own.all λx=>decide (sc.names.lookup x=some .local)||decide (sc.names.lookup x=some .cell))&&(cn.all λx=>decide (sc.names.lookup x=some .free))
 && decide ((own++cn).Nodup)&&decide (js.map (λj=>N[j]?)=cn.map some)
noncomputable def Ab(k:Nat)(js:List Nat)(σ:St):St:=Sj k none++js.map λj=>(σ[j]?).join
noncomputable def Cq(X:Cx)(ifs:List Expr)(t:TT):Prop:=
 ∀(pq:List (W3×Obj)) (s:W4) (σ:St) (H:Hp) (Q:Bool->Hp->Prop),Inv X pq σ H s->t σ H Q->
  W7 (WB X.prog X.w) X.A (forIn ifs true λc r=>if r=true then do let ok <- isTrue c X.env (eval c X.env);pure (ForInStep.yield ok) else pure (ForInStep.yield r)) (TP X pq σ Q) X.xe s
theorem Jf{X:Cx}:Cq X [] (λ_ H Q=>Q true H):=λ_ _ _ H _ I h=>wpAny_tests_nil ⟨H,I,h⟩
theorem Jg{X:Cx}{c:Expr}{t:TT}(h:PT X c t):Cq X [c] t:=λpq s σ H Q I hw=>wpAny_tests_one (h pq s σ H Q I hw)
theorem Jh{M:Model}{A:WH}{E:Vz->W4->Prop}{s:W4}{scope:WK}{env:Env}{cl:List (Str×W3)}{Q:Env->W4->Prop}
 (h:Q (newEnv scope s.heap.objs.size env.globals (WX (s.heap.objs.size+1) scope.names cl) env.qual none .none (some env) XZ) {s with heap:=Xj (s.heap.push {cls := .type "dict",data := .dict #[]}) scope.names}):
 W7 M A (X5 scope env.globals cl [] env.qual none .none (some env)) Q E s:=by
 simp only[X5,VI,if_true];refine W0 (wpAny_alloc ?_);refine W0 (wpAny_layCells _ (λname kind cells=>by cases hkc:kind == NameKind.cell<;>simp[hkc]) _ _ _ _ ?_);rw[show({s with heap:=s.heap.push {cls := .type "dict",data := .dict #[]}}:W4).heap.objs.size=s.heap.objs.size+1 from TV ..];refine W0 ?_;rw[V4];exact W5 (W5 h)
structure CForm(prog:W8)(w:WC)(A:WH)(E tg iter:Expr)(ifs:List Expr)(emit:Vz->Env->Sem Unit)(dp:Nat:=0):Prop where
 turn:∀(it:Vz) (D:W3) (env:Env),compTurn E dp it (.ref D) env=(do
  standAt iter.pos
  match <- pyNext it with
  | none=>pure (.done .next)
  | some v=>
    Wp tg it v
    assign tg env v
    let mut ok:=true
    for c in ifs do
     if ok then ok <- isTrue c env (eval c env)
    if ok then emit (.ref D) env
    again (.compLoop E dp it (.ref D) env))
 und:∀(it acc:Vz) (env:Env),A.under (.compLoop E dp it acc env)=A
 den:∀(it acc:Vz) (env:Env),(WB prog w).den (.compLoop E dp it acc env)=(compTurn E dp it acc env).onRaise (λx=>do noteFrame x env;theTreesLotGoes x)
 start:∀{R:Result->W4->Prop} {s:W4} {it acc:Vz} {env:Env},codeAny (WB prog w) A (.compLoop E dp it acc env) R s->W7 (WB prog w) A (pyIter it) (λit' s'=>codeAny (WB prog w) A (.compLoop E dp it' acc env) R s') (notedBy (WB prog w) A env λx s'=>R (.error x) s') s->
  codeAny (WB prog w) A (.compStart E dp it acc env) R s
theorem CForm.loop{prog:W8}{w:WC}{A:WH}{E tg iter:Expr}{ifs:List Expr}{emit:Vz->Env->Sem Unit}{dp:Nat}(F:CForm prog w A E tg iter ifs emit dp){R:Result->W4->Prop}{s:W4}{it:Vz}{D:W3}{env:Env}(I:Nat->W4->Prop)
 (turn:∀ n s,I n s->W7 (WB prog w) A (pyNext it) (λr s₁=>match r with
   | none=>R (.ok .next) s₁
   | some v=>W7 (WB prog w) A (Wp tg it v) (λ_ s₁'=>W7 (WB prog w) A (assign tg env v) (λ_ s₂=>
      W7 (WB prog w) A (forIn ifs true λc r=>if r=true then do let ok <- isTrue c env (eval c env);pure (ForInStep.yield ok) else pure (ForInStep.yield r)) (λok s₃=>
       if ok=true then W7 (WB prog w) A (emit (.ref D) env) (λ_ s₅=>∃ m,m<n/\I m s₅) (λ_ _=>False) s₃
       else ∃ m,m<n/\I m s₃) (λ_ _=>False) s₂) (λ_ _=>False) s₁') (λ_ _=>False) s₁) (λ_ _=>False) s)
 (n:Nat) (h:I n s):
 codeAny (WB prog w) A (.compLoop E dp it (.ref D) env) R s:=by
 refine codeAny_loop rfl I (λn s hI=>?_) n h;rw[F.und,F.den];refine wpAny_noted ?_;rw[F.turn];refine W0 (Wz (W0 (Wj (turn n s hI) (λr s₁ h₁=>?_) λ_ _ h'=>False.elim h')));cases r with
 | none=>exact W5 h₁
 | some v=>
   refine W0 (Wj h₁ (λ_ s₁' h₁'=>?_) λ_ _ h'=>False.elim h');refine W0 (Wj h₁' (λ_ s₂ h₂=>W0 (Wj h₂ (λok s₃ h₃=>?_) λ_ _ h'=>False.elim h')) λ_ _ h'=>False.elim h');cases ok with
   | false=>exact W5 ⟨rfl,h₃⟩
   | true=>exact W0 (Wj h₃ (λ_ s₅ h₅=>W5 ⟨rfl,h₅⟩) λ_ _ h'=>False.elim h')
noncomputable def Ov{α:Type}(J:It)(g:TG)(tt:TT)(tem:α->St->Hp->(α->Hp->Prop)->Prop)(σ':St)(Q:Hp->Prop)(W:Nat->Nat->α->Hp->Prop):Prop:=
 ∀ i m a H,W i m a H->(J.stop i H/\Q H)\/(J.go i H/\∃ N:α->Hp->Prop,(∀ a' H',N a' H'->∃ m',m'<m/\W (i+1) m' a' H')/\∀ x H',J.yld i H x H'->g x σ' H' λσ2 H2=>tt σ2 H2 λb H3=>if b=true then tem a σ2 H3 N else N a H3)
noncomputable def Qw(elt:Expr)(acc:Vz)(env:Env):Sem Unit:=do
 let x <- eval elt env
 let _ <- call (.builtin "list.append") [acc,x]
theorem Fe{prog:W8}{w:WC}{A:WH}{elt tg iter:Expr}{ifs:List Expr}{scope:WK}{pos:Pos}:CForm prog w A (.ListComp elt [⟨tg,iter,ifs,0⟩] scope pos) tg iter ifs (Qw elt) where
 turn:=λ_ _ _=>compTurn_list ..
 und:=λ_ _ _=>rfl
 den:=λ_ _ _=>rfl
 start:=λh0 h=>codeAny_compStart_list h0 h
noncomputable def Rx(te:TE)(D:W3)(ys:List V)(σ:St)(H:Hp)(N:List V->Hp->Prop):Prop:=te σ H λv H4=>H4 D=some (.lst ys)/\ys.length<W6/\N (ys++[v]) (upd H4 D (.lst (ys++[v])))
noncomputable def Ni(J:It)(g:TG)(tt:TT)(te:TE)(D:W3)(σ':St)(Q:List V->Hp->Prop)(W:Nat->Nat->List V->Hp->Prop):Prop:=
 ∀ i m ys H,W i m ys H->(J.stop i H/\Q ys H)\/(J.go i H/\∃ N:List V->Hp->Prop,(∀ ys' H',N ys' H'->∃ m',m'<m/\W (i+1) m' ys' H')/\∀ x H',J.yld i H x H'->g x σ' H' λσ2 H2=>tt σ2 H2 λb H3=>
  if b=true then te σ2 H3 λv H4=>H4 D=some (.lst ys)/\ys.length<W6/\N (ys++[v]) (upd H4 D (.lst (ys++[v]))) else N ys H3)
noncomputable def Ji(wi:TI)(g:TG)(tt:TT)(te:TE)(k:Nat)(js:List Nat):TE:=λσ H Q=>wi σ H λJ H1=>∀ D,H1 D=none->
 ∃ W:Nat->Nat->List V->Hp->Prop,(∃ m,W 0 m [] (upd H1 D (.lst [])))/\Ni J g tt te D (Ab k js σ) (λ_ H=>Q (.ref D) H) W
section
variable{X:Cx}{pq:List (W3×Obj)}{σ:St}{H2:Hp}{s2:W4}{tg elt iter:Expr}{ifs:List Expr}{scope:WK}{pos:Pos}{own cn:List Str}{js:List Nat}{g:TG}{tt:TT}{te:TE}
theorem EO{α:Type}{E:Expr}{emit:Vz->Env->Sem Unit}{mk:Sem Vz}{o0:Obj}{u0:HO}{a0:α}{tem:W3->α->St->Hp->(α->Hp->Prop)->Prop}(F:CForm X.prog X.w X.A E tg iter ifs emit)(hmk:∀{Q:Vz->W4->Prop},Q (.ref s2.heap.objs.size) {s2 with heap:=s2.heap.push o0}->W7 (WB X.prog X.w) X.A mk Q X.xe s2)(nf0:o0.isFreed=false)(new0:∀(H:Hp) (h:Heap),h.get? s2.heap.objs.size=some o0->ObjOk X.prog X.w H h s2.heap.objs.size u0)(hok:v3 X.env.scope scope own cn X.N js=true)(hc:X.calm=true)
 (hg:∀ s2 H2 cs C fp,PG (i7 X scope (own++cn) s2 H2 cs C fp) tg g) (ht:∀ s2 H2 cs C fp,Cq (i7 X scope (own++cn) s2 H2 cs C fp) ifs tt) (hem:∀ D s2 H2 cs C fp pq s σ H (a:α) (N:α->Hp->Prop),Inv (i7 X scope (own++cn) s2 H2 cs C fp) pq σ H s->tem D a σ H N->W7 (WB X.prog X.w) X.A (emit (.ref D) (XF scope cs C X.env)) (λ_ s1=>∃ σ1 a1 H1,Inv (i7 X scope (own++cn) s2 H2 cs C fp) pq σ1 H1 s1/\N a1 H1) (λ_ _=>False) s)
 (I2:Inv X pq σ H2 s2) {it:W3} {fp:List W3} {tn:Nat->Heap->Prop} {J:It} (T:Turn X.prog X.w X.K tg J fp it tn) (st2:tn 0 s2.heap) (f2:∀ b∈fp,FpOk X pq H2 b)
 {Qe:Hp->Prop} (hW:∃ W:Nat->Nat->α->Hp->Prop,(∃ m,W 0 m a0 (upd H2 s2.heap.objs.size u0))/\Ov J g tt (tem s2.heap.objs.size) (Ab own.length js σ) Qe W)
 {RR:Vz->W3->Result->W4->Prop}
 (hRR:∀ C H' s',Inv X pq σ H' s'->FpOk X pq H' C->(∃ m,s'.heap.Ns C m)->Qe H'->RR (.ref s2.heap.objs.size) C (.ok .next) s'):
 W7 (WB X.prog X.w) X.A mk (λacc s₃=>W7 (WB X.prog X.w) X.A (X5 scope X.env.globals (t9 X.env scope.names []) [] X.env.qual none .none (some X.env)) (λcenv s₄=>
  codeAny (WB X.prog X.w) X.A (.compStart E 0 (.ref it) acc {cenv with scope:=relabel scope X.env}) (RR acc cenv.locals) s₄) X.xe s₃) X.xe s2:=by
 unfold v3 at hok;simp only[SW,dQ,Sy,Td,T6,decide_eq_false_iff_not]at hok;obtain⟨⟨⟨⟨⟨⟨k1,k2⟩,k3⟩,k4⟩,k5⟩,k6⟩,k7⟩:=hok
 have hfreeK:∀ x∈scope.names,x.2 = .free->X.env.kindOf x.1=some .cell\/X.env.kindOf x.1=some .free:=λx hx hf=>by
  rcases k2 x hx with(z | z) | z
  ·exact absurd hf z
  ·exact .inl z
  ·exact .inr z
 have hfree:∀ x∈scope.names,x.2 = .free->∃ c,X.env.cells.lookup x.1=some c:=λx hx hf=>I2.ok.has x.1 (hfreeK x hx hf);refine hmk (Jh ?_);have hsz3:(s2.heap.push o0).objs.size=s2.heap.objs.size+1:=TV ..;dsimp only;generalize hh3:s2.heap.push o0=h3 at hsz3 ⊢;have old3:∀ b o,s2.heap.get? b=some o->h3.get? b=some o:=λb o e=>hh3▸Sa _ e;have hD3:h3.get? s2.heap.objs.size=some o0:=hh3▸So _ nf0;generalize hcs:WX (h3.objs.size+1) scope.names (t9 X.env scope.names [])=cs;generalize hh4:Xj (h3.push {cls := .type "dict",data := .dict #[]}) scope.names=h4;have old4:∀ b o,h3.get? b=some o->h4.get? b=some o:=λb o e=>hh4▸XM _ _ b o (Sa _ e);have old:∀ b o,s2.heap.get? b=some o->h4.get? b=some o:=λb o e=>old4 b o (old3 b o e);have hD4:h4.get? s2.heap.objs.size=some o0:=old4 _ _ hD3;have hNs:h4.Ns h3.objs.size (λ_=>none):=hh4▸(Heap.Ns.new h3 (.type "dict")).keeps (XM _ _);generalize hC:h3.objs.size=C at hNs hcs ⊢;have hCD:@Eq Nat C (s2.heap.objs.size+1):=by rw[<-hC];exact hsz3
 have clM:=Ba (env:=X.env) scope.names [] hfree (λp hp=>absurd hp (by simp));have cellLt:∀ x c,X.env.cells.lookup x=some c->@LT.lt Nat _ c s2.heap.objs.size:=λx c e=>by obtain⟨v,z⟩:=I2.cell x c e;exact z.lt
 have apart:cs.Pairwise λx y=>x.2≠y.2:=by
  rw[<-hcs];refine w5 _ _ _ (Ae I2.ok.inj scope.names [] k3 hfree List.Pairwise.nil λp hp=>absurd hp (by simp)) λp hp=>?_;have:=cellLt _ _ (clM p hp);show @LT.lt Nat _ p.2 (C+1);omega
 have csM:∀ p∈cs,X.env.cells.lookup p.1=some p.2\/(C+1<=p.2/\(p.1,NameKind.cell)∈scope.names/\h4.IsCell p.2 none):=λp hp=>by
  have hp0:=hp;rw[<-hcs]at hp;rcases v7 _ _ _ p hp with z | ⟨z,y⟩
  ·exact .inl (clM p z)
  ·have e:h3.objs.size+1=(h3.push {cls := .type "dict",data := .dict #[]}).objs.size:=by rw[TV]
   have hp':=hp;rw[<-hC,e]at hp';rcases AE _ _ _ p hp' with q | q
   ·exact .inl (clM p q)
   ·exact .inr ⟨z,y,hh4▸q⟩
 have hX:(i7 X scope (own++cn) s2 H2 cs C fp).Ok:=by
  refine⟨I2.ok.mod,k1,I2.ok.glob,I2.ok.blt,by show @LE.le Nat _ s2.heap.objs.size C;omega,λx y c h1 h2=>name_of_addr apart (PySem.mem_of_lookup h1) (PySem.mem_of_lookup h2),λx hx=>?_,λx c hf hx=>?_,I2.ok.hd,I2.ok.frames,.inl rfl,λb hb=>?_,I2.bs,TH I2.ok.bsz I2.sz,λb o e hb=>?_,λb hb hf=>?_,I2.stack,I2.stkFree⟩
  ·have hx':(relabel scope X.env).names.lookup x=some .cell\/(relabel scope X.env).names.lookup x=some .free:=hx
   have hl:scope.names.lookup x=some .cell\/scope.names.lookup x=some .free:=by
    unfold relabel at hx';dsimp only at hx';rw[u7]at hx';cases e:scope.names.lookup x with
    | none=>rw[e]at hx';simp at hx'
    | some k=>
      rw[e]at hx';cases k<;>simp_all
   have:∃ c,(x,c)∈cs:=by
    rw[<-hcs];rcases hl with hl | hl
    ·exact AD _ _ _ x (PySem.mem_of_lookup hl)
    ·obtain⟨c,hc'⟩:=Bc (env:=X.env) scope.names [] x (PySem.mem_of_lookup hl);exact⟨c,v8 _ _ _ _ hc'⟩
   obtain⟨c,hm⟩:=this;exact B6 hm
  ·have hf':scope.names.lookup x=some .cell:=by simpa using hf
   have hm:=PySem.mem_of_lookup (show cs.lookup x=some c from hx);rcases csM _ hm with z | ⟨z,_⟩
   ·
    rw[<-hcs]at hm;rcases v7 _ _ _ _ hm with q | ⟨q,_⟩
    ·rcases Ad (env:=X.env) scope.names [] _ q with q' | q'
     ·exact absurd q' (by simp)
     ·have:=j6 k3 q';have h2:scope.names.lookup x=some .free:=this;rw[hf']at h2;cases h2
    ·show @LE.le Nat _ s2.heap.objs.size c;have q2:@LE.le Nat _ (C+1) c:=q;omega
   ·show @LE.le Nat _ s2.heap.objs.size c;have z2:@LE.le Nat _ (C+1) c:=z;omega
  ·obtain⟨f0,f1,f2',f3,f4,f5⟩:=f2 b hb;obtain⟨o,ho,_⟩:=T.obj 0 _ st2 b hb;have hb2:@LT.lt Nat _ b s2.heap.objs.size:=Sb ho;refine⟨?_,λx c e=>?_⟩
   ·show @Ne Nat b C;omega
   ·rcases csM _ (PySem.mem_of_lookup (show cs.lookup x=some c from e)) with z | ⟨z,_⟩
    ·exact f4 x c z
    ·have z2:@LE.le Nat _ (C+1) c:=z;show @Ne Nat c b;omega
  ·obtain⟨f0,f1,f2',f3,f4,f5⟩:=f2 b hb;rcases f3 with z | z
   ·exact I2.ok.noex b o e z
   ·exact absurd (TB (Sb e) (TH I2.ok.bsz z)) (Tu _)
  ·obtain⟨f0,f1,f2',_⟩:=f2 b hb;rcases Sm.mp (I2.stkSub b hf) with z | z
   ·exact f1 z
   ·exact f2' z
 have hDn:H2 s2.heap.objs.size=none:=I2.fresh;have hCn:H2 C=none:=I2.hok.fresh (show @LE.le Nat _ s2.heap.objs.size C by omega)
 have stkNe:∀ b,b≠X.env.locals->b∉X.fs->b∉frs X.stack:=λb h1 h2 hb=>by
  rcases Sm.mp (I2.stkSub b hb) with z | z
  ·exact h1 z
  ·exact h2 z
 have I4:Inv (i7 X scope (own++cn) s2 H2 cs C fp) pq (Ab own.length js σ) (upd H2 s2.heap.objs.size u0) {s2 with heap:=h4}:=by
  refine⟨hX,rfl,I2.bare,Un.laid old (Sd _) hDn,⟨λ_=>none,hNs,λi x v e1 e2 e3=>?_⟩,λx c e=>?_,?_,λx c e=>?_,λp hp=>?_,I2.hok.laid old (Sd _) (new0 _ _ hD4),?_⟩
  ·
   have hi:own.length<=i:=by
    rcases UD i own.length with z | z
    ·exfalso;unfold Ab at e2;rw[Sv (by simpa using z),U0,iP z]at e2;cases e2
    ·exact z
   have e1':cn[i - own.length]?=some x:=by
    have:(own++cn)[i]?=some x:=e1;rw[TR hi]at this;exact this
   have e2':(js.map λj=>(σ[j]?).join)[i - own.length]?=some (some v):=by
    unfold Ab at e2;rw[TR (by simpa using hi)]at e2;simpa using e2
   rw[Sq]at e2';cases hj:js[i - own.length]? with
   | none=>rw[hj]at e2';cases e2'
   | some j=>
     rw[hj]at e2';have e2'':(σ[j]?).join=some v:=by simpa using e2'
     have hσ:σ[j]?=some (some v):=by
      cases q:σ[j]? with
      | none=>rw[q]at e2'';cases e2''
      | some z=>rw[q]at e2'';simp at e2'';rw[e2'']
     have hNx:X.N[j]?=some x:=by
      have:=congrArg (λl=>l[i - own.length]?) k7;simp only[Sq,hj,e1',U5]at this;exact oj this
     have hfx:scope.names.lookup x=some .free:=k5 x (Sh e1');have hK:=hfreeK (x,.free) (PySem.mem_of_lookup hfx) rfl;have hK':X.env.kindOf x=some .cell\/X.env.kindOf x=some .free:=hK;obtain⟨m,hn,hl⟩:=I2.loc
     have hvis:Vis X.env.scope x:=by
      rcases hK' with z | z
      ·exact .inr (.inl z)
      ·exact .inr (.inr z)
     obtain⟨u,r,l⟩:=hl j x v hNx hσ hvis;refine⟨u,r,.inr ?_⟩;rcases l with⟨l1,_⟩ | ⟨l1,c,l2,l3⟩
     ·rcases hK' with z | z
      ·rw[z]at l1;cases l1
      ·rw[z]at l1;cases l1
     ·have hrl:(XF scope cs C X.env).kindOf x=some .cell\/(XF scope cs C X.env).kindOf x=some .free:=by
       show(relabel scope X.env).names.lookup x=_\/(relabel scope X.env).names.lookup x=_;unfold relabel;dsimp only;rw[u7,hfx];simp only[U5];split
       ·exact .inl rfl
       ·exact .inr rfl
      refine⟨hrl,c,?_,l3.keeps λb o e=>old b o e⟩;show cs.lookup x=some c;obtain⟨c',hc'⟩:=hX.has x hrl;have hc2:cs.lookup x=some c':=hc';rw[hc2];have hm:=PySem.mem_of_lookup hc2
      have:X.env.cells.lookup x=some c':=by
       rcases csM _ hm with z | ⟨_,z,_⟩
       ·exact z
       ·have:=j6 k3 z;have h2:scope.names.lookup x=some .cell:=this;rw[hfx]at h2;cases h2
      rw[l2]at this;exact this.symm
  ·rcases csM _ (PySem.mem_of_lookup (show cs.lookup x=some c from e)) with z | ⟨_,_,z⟩
   ·obtain⟨v,q⟩:=I2.cell _ _ z;exact⟨v,q.keeps λb o e=>old b o e⟩
   ·exact⟨none,z⟩
  ·show upd H2 s2.heap.objs.size u0 C=none;rw[f9 (show @Ne Nat C s2.heap.objs.size by omega)];exact hCn
  ·have hne:c≠s2.heap.objs.size/\H2 c=none:=by
    rcases csM _ (PySem.mem_of_lookup (show cs.lookup x=some c from e)) with z | ⟨z,_,_⟩
    ·exact⟨Sl (cellLt _ _ z),I2.freeC _ _ z⟩
    ·have z2:@LE.le Nat _ (C+1) c:=z;exact⟨show @Ne Nat c s2.heap.objs.size by omega,I2.hok.fresh (show @LE.le Nat _ s2.heap.objs.size c by omega)⟩
   rw[f9 hne.1];exact hne.2
  ·obtain⟨e,n,ne,nf,d⟩:=I2.pin p hp;have hlt:@LT.lt Nat _ p.1 s2.heap.objs.size:=Sb e;refine⟨old _ _ e,?_,?_,stkNe _ ne nf,d⟩
   ·rw[f9 (Sl hlt)];exact n
   ·show @Ne Nat p.1 C;omega
  ·show(Ab own.length js σ).length=(own++cn).length;unfold Ab;have hl:=congrArg Uo k7;simp only[SX]at hl;simp[hl]
 have stat:∀{H':Hp},(∀ b∈fp,H' b=none)->∀ b∈fp,FpOk (i7 X scope (own++cn) s2 H2 cs C fp) pq H' b:=λhn b hb=>by
  obtain⟨f0,f1,f2',f3,f4,f5⟩:=f2 b hb;exact⟨hn b hb,(hX.exf b hb).1,stkNe b f1 f2',.inl hb,λx c e=>(hX.exf b hb).2 x c e,f5⟩
 have back:∀{σ':St} {H':Hp} {s':W4},Inv (i7 X scope (own++cn) s2 H2 cs C fp) pq σ' H' s'->Inv X pq σ H' s':=λ{σ' H' s'} J'=>
  I2.call' (ch:=fp) J'.os J'.base J'.hok J'.bare λb hb=>by
   obtain⟨f0,f1,f2',f3,f4,f5⟩:=f2 b hb;exact⟨f3,f1,f4,f5⟩
 obtain⟨W,⟨m0,w0⟩,turn⟩:=hW
 have loop:codeAny (WB X.prog X.w) X.A (.compLoop E 0 (.ref it) (.ref s2.heap.objs.size) (XF scope cs C X.env)) (RR (.ref s2.heap.objs.size) C) {s2 with heap:=h4}:=by
  refine F.loop (λn s'=>∃ i ys H',Inv (i7 X scope (own++cn) s2 H2 cs C fp) pq (Ab own.length js σ) H' s'/\tn i s'.heap/\(∀ b∈fp,H' b=none)/\W i n ys H') ?_ m0
   ⟨0,a0,_,I4,T.keep _ _ _ st2 λb hb o e=>old b o e,λb hb=>?_,w0⟩
  ·rintro n s3 ⟨i,ys,H3,I3,st3,fr3,w3⟩;rcases turn i n ys H3 w3 with⟨stop,q⟩ | ⟨go,N,hN,step⟩
   ·refine thn (T.done (i7 X scope (own++cn) s2 H2 cs C fp) rfl rfl rfl hc i pq s3 _ H3 _ I3 (stat fr3) st3 stop) λr s4 ⟨hr,I5⟩=>?_;subst hr;obtain⟨m,hn,_⟩:=I5.loc;exact hRR C H3 s4 (back I5) (I2.fpOk (show @LE.le Nat _ s2.heap.objs.size C by omega) I5.free) ⟨m,hn⟩ q
   ·refine thn (T.item (i7 X scope (own++cn) s2 H2 cs C fp) rfl rfl rfl hc i pq s3 _ H3 _ I3 (stat fr3) st3 go) λr s4 ⟨u,hr,h4'⟩=>?_;subst hr;refine thn h4' λ_ s5 ⟨x,H5,I5,r5,y5,st5,fr5⟩=>?_;have I5':=I5.pinned (stat fr5) (T.obj _ _ st5);refine thn (hg s2 H2 cs C fp _ s5 _ H5 x u _ I5' r5 (step x H5 y5)) λ_ s6 ⟨σ6,H6,I6,q6⟩=>?_;refine thn (ht s2 H2 cs C fp _ s6 σ6 H6 _ I6 q6) λb s7 ⟨H7,I7,q7⟩=>?_
    have again:∀{σ8:St} {H8:Hp} {s8:W4} {ys8:α},Inv (i7 X scope (own++cn) s2 H2 cs C fp) (pq++B8 fp s5.heap) σ8 H8 s8->(∀(j:Nat) v,(Ab own.length js σ)[j]?=some (some v)->σ8[j]?=some (some v))->(∃ m',m'<n/\W (i+1) m' ys8 H8)->
     ∃ m,m<n/\∃ i ys H',Inv (i7 X scope (own++cn) s2 H2 cs C fp) pq (Ab own.length js σ) H' s8/\tn i s8.heap/\(∀ b∈fp,H' b=none)/\W i m ys H':=λ{σ8 H8 s8 ys8} I8 hw8 ⟨m',hm,w8⟩=>by
     refine⟨m',hm,i+1,ys8,H8,I8.unpinned.weak (by rw[I8.len,I4.len]) hw8,T.keep _ _ _ st5 λb hb o e=>(I8.pin (b,o) (TL _ (TL _ (AU hb e)))).1,λb hb=>?_,w8⟩;obtain⟨o,e,d⟩:=T.obj _ _ st5 b hb;exact(I8.pin (b,o) (TL _ (TL _ (AU hb e)))).2.1
    have capK:∀{σ8:St} {H8:Hp} {s8:W4},Inv (i7 X scope (own++cn) s2 H2 cs C fp) (pq++B8 fp s5.heap) σ8 H8 s8->Inv (i7 X scope (own++cn) s2 H2 cs C fp) (pq++B8 fp s5.heap) (Ab own.length js σ) H8 s8:=λ{σ8 H8 s8} I8=>by
     have IX:=back I8.unpinned;refine⟨I8.ok,I8.os,I8.bare,I8.base,?_,I8.cell,I8.free,I8.freeC,I8.pin,I8.hok,I4.len⟩;obtain⟨m,hn,_⟩:=I8.loc;refine⟨m,hn,λi x v e1 e2 e3=>?_⟩;obtain⟨mx,hnx,hlx⟩:=IX.loc
     have hi:own.length<=i:=by
      rcases UD i own.length with z | z
      ·exfalso;unfold Ab at e2;rw[Sv (by simpa using z),U0,iP z]at e2;cases e2
      ·exact z
     have e1':cn[i - own.length]?=some x:=by
      have:(own++cn)[i]?=some x:=e1;rw[TR hi]at this;exact this
     have e2':(js.map λj=>(σ[j]?).join)[i - own.length]?=some (some v):=by
      unfold Ab at e2;rw[TR (by simpa using hi)]at e2;simpa using e2
     rw[Sq]at e2';cases hj:js[i - own.length]? with
     | none=>rw[hj]at e2';cases e2'
     | some j=>
       rw[hj]at e2';have e2'':(σ[j]?).join=some v:=by simpa using e2'
       have hσ:σ[j]?=some (some v):=by
        cases q:σ[j]? with
        | none=>rw[q]at e2'';cases e2''
        | some z=>rw[q]at e2'';simp at e2'';rw[e2'']
       have hNx:X.N[j]?=some x:=by
        have:=congrArg (λl=>l[i - own.length]?) k7;simp only[Sq,hj,e1',U5]at this;exact oj this
       have hfx:scope.names.lookup x=some .free:=k5 x (Sh e1');have hK':X.env.kindOf x=some .cell\/X.env.kindOf x=some .free:=hfreeK (x,.free) (PySem.mem_of_lookup hfx) rfl
       have hvis:Vis X.env.scope x:=by
        rcases hK' with z | z
        ·exact .inr (.inl z)
        ·exact .inr (.inr z)
       obtain⟨u,r,l⟩:=hlx j x v hNx hσ hvis;refine⟨u,r,.inr ?_⟩;rcases l with⟨l1,_⟩ | ⟨l1,c,l2,l3⟩
       ·rcases hK' with z | z
        ·rw[z]at l1;cases l1
        ·rw[z]at l1;cases l1
       ·have hrl:(XF scope cs C X.env).kindOf x=some .cell\/(XF scope cs C X.env).kindOf x=some .free:=by
         show(relabel scope X.env).names.lookup x=_\/(relabel scope X.env).names.lookup x=_;unfold relabel;dsimp only;rw[u7,hfx];simp only[U5];split
         ·exact .inl rfl
         ·exact .inr rfl
        refine⟨hrl,c,?_,l3⟩;show cs.lookup x=some c;obtain⟨c',hc'⟩:=hX.has x hrl;have hc2:cs.lookup x=some c':=hc';rw[hc2];have hm:=PySem.mem_of_lookup hc2
        have:X.env.cells.lookup x=some c':=by
         rcases csM _ hm with z | ⟨_,z,_⟩
         ·exact z
         ·have:=j6 k3 z;have h2:scope.names.lookup x=some .cell:=this;rw[hfx]at h2;cases h2
        rw[l2]at this;exact this.symm
    cases b with
    | false=>
      rw[iG Si];rw[iG Si]at q7;exact again (capK I7) (λ_ _ e=>e) (hN _ _ q7)
    | true=>
      rw[iP rfl];rw[iP rfl]at q7;exact thn (hem _ s2 H2 cs C fp _ s7 σ6 H7 _ _ I7 q7) λ_ s9 ⟨σ9,a9,H9,I9,q9⟩=>again (capK I9) (λ_ _ e=>e) (hN _ _ q9)
  ·obtain⟨f0,_⟩:=f2 b hb;obtain⟨o,ho,_⟩:=T.obj 0 _ st2 b hb;rw[f9 (Sl (Sb ho))];exact f0
 exact F.start loop (T.self _ 0 _ _ _ (T.keep _ _ _ st2 λb hb o e=>old b o e) loop)
theorem CA(hok:v3 X.env.scope scope own cn X.N js=true)(hc:X.calm=true)
 (hg:∀ s2 H2 cs C fp,PG (i7 X scope (own++cn) s2 H2 cs C fp) tg g) (ht:∀ s2 H2 cs C fp,Cq (i7 X scope (own++cn) s2 H2 cs C fp) ifs tt) (he:∀ s2 H2 cs C fp,PE (i7 X scope (own++cn) s2 H2 cs C fp) elt te)
 (I2:Inv X pq σ H2 s2) {it:W3} {fp:List W3} {tn:Nat->Heap->Prop} {J:It} (T:Turn X.prog X.w X.K tg J fp it tn) (st2:tn 0 s2.heap) (f2:∀ b∈fp,FpOk X pq H2 b)
 {Qe:Hp->Prop} (hW:∃ W:Nat->Nat->List V->Hp->Prop,(∃ m,W 0 m [] (upd H2 s2.heap.objs.size (.lst [])))/\Ni J g tt te s2.heap.objs.size (Ab own.length js σ) (λ_ H=>Qe H) W)
 {RR:Vz->W3->Result->W4->Prop}
 (hRR:∀ C H' s',Inv X pq σ H' s'->FpOk X pq H' C->(∃ m,s'.heap.Ns C m)->Qe H'->RR (.ref s2.heap.objs.size) C (.ok .next) s'):
 W7 (WB X.prog X.w) X.A (newList []) (λacc s₃=>W7 (WB X.prog X.w) X.A (X5 scope X.env.globals (t9 X.env scope.names []) [] X.env.qual none .none (some X.env)) (λcenv s₄=>
  codeAny (WB X.prog X.w) X.A (.compStart (.ListComp elt [⟨tg,iter,ifs,0⟩] scope pos) 0 (.ref it) acc {cenv with scope:=relabel scope X.env}) (RR acc cenv.locals) s₄) X.xe s₃) X.xe s2:=by
 obtain⟨W,w0,hw⟩:=hW;refine EO (RR:=RR) (a0:=[]) (o0:={cls := .type "list",dict:=none,data := .seq ([]:List Vz).toArray}) (u0 := .lst []) (tem:=Rx te) Fe (λhq=>WM hq) rfl (λ_ _ hD=>⟨UR _,[],0,.nil,hD⟩) hok hc hg ht (λD s2 H2 cs C fp pq s σ H ys N I h=>?_) I2 T st2 f2 ⟨W,w0,hw⟩ hRR;refine W0 (thn (he s2 H2 cs C fp _ s σ H _ I h) λy s8 ⟨v,H8,I8,r8,hD8,hz8,q8⟩=>?_);refine W0 (thn (BZ (X:=i7 X scope (own++cn) s2 H2 cs C fp) _ s8 σ H8 (.ref D) [v] (.ref D) [y] (λ_ H9=>H9=upd H8 D (.lst (ys++[v]))) I8 rfl (.cons r8 .nil) ⟨_,ys,v,rfl,rfl,hD8,hz8,rfl⟩) λ_ s9 ⟨z,H9,I9,r9,e9⟩=>?_);subst e9;exact W5 ⟨_,_,_,I9,q8⟩
theorem MA{wi:TI}(own cn:List Str)(js:List Nat)(hi:PI X tg iter wi)(hg:∀ s2 H2 cs C fp,PG (i7 X scope (own++cn) s2 H2 cs C fp) tg g)(ht:∀ s2 H2 cs C fp,Cq (i7 X scope (own++cn) s2 H2 cs C fp) ifs tt)
 (he:∀ s2 H2 cs C fp,PE (i7 X scope (own++cn) s2 H2 cs C fp) elt te) (hc:X.calm=true:=by rfl) (hok:v3 X.env.scope scope own cn X.N js=true:=by kernel_rfl)
 (hs:∀ x,Wu iter X.env x=pure x:=by intro _;rfl):PE X (.ListComp elt [⟨tg,iter,ifs,0⟩] scope pos) (Ji wi g tt te own.length js):=by
 intro pq s σ H Q I h;have hok':=hok;unfold v3 at hok';simp only[SW,dQ,Sy,Td,T6,decide_eq_false_iff_not]at hok';obtain⟨⟨⟨⟨⟨⟨k1,k2⟩,k3⟩,k4⟩,k5⟩,k6⟩,k7⟩:=hok'
 have hfree:∀ x∈scope.names,x.2 = .free->∃ c,X.env.cells.lookup x.1=some c:=λx hx hf=>I.ok.has x.1 (by
  rcases k2 x hx with(z | z) | z
  ·exact absurd hf z
  ·exact .inl z
  ·exact .inr z)
 rw[eval_ListComp];refine X9 (use:=none) rfl hs (AK hfree) k1 (λx hx hl=>?_) (thn (hi pq s σ H _ I h) λv s1 h1=>thn h1 λitv s2 h2=>?_)
 ·have:=j6 k3 (show(x.1,x.2)∈scope.names from hx);rw[this,hl]
 ·obtain⟨it,fp,tn,J,H2,e,I2,T,st2,f2,q⟩:=h2;subst e;refine CA (RR:=λacc C=>compPost (WB X.prog X.w) X.A X.xe none (EP X pq σ Q) acc C) hok hc hg ht he I2 T st2 f2 (q _ I2.fresh) ?_;intro C H' s' I' fC ⟨m,hn⟩ q';obtain⟨f0,f1,f2',f3,f4,f5⟩:=fC;refine⟨m,hn,λh' hs'=>⟨.ref s2.heap.objs.size,H',?_,rfl,q'⟩⟩;exact I'.turned (t':=s'.toks) (λb o hb e=>(hs'.2 b hb).trans e) f0 f1 f3 f4 f5
theorem Ff{wi:TI}{i:Nat}{x:Str}{px spos:Pos}(own cn:List Str)(js:List Nat)(hN:X.N.Nodup)(hix:X.N[i]?=some x)(hx:X.env.scope.names.lookup x=some .local)(hi:PI X tg iter wi)
 (hg:∀ s2 H2 cs C fp,PG (i7 X scope (own++cn) s2 H2 cs C fp) tg g) (ht:∀ s2 H2 cs C fp,Cq (i7 X scope (own++cn) s2 H2 cs C fp) ifs tt)
 (he:∀ s2 H2 cs C fp,PE (i7 X scope (own++cn) s2 H2 cs C fp) elt te) (hc:X.calm=true:=by rfl) (hok:v3 X.env.scope scope own cn X.N js=true:=by kernel_rfl)
 (hsw:Wn (.ListComp elt [⟨tg,iter,ifs,0⟩] scope pos) (some (.Name x px)) spos.line X.env=pure true:=by rfl)
 (hs:∀ x,Wu iter X.env x=pure x:=by intro _;rfl):PS X (.Assign [.Name x px] (.ListComp elt [⟨tg,iter,ifs,0⟩] scope pos) spos) (Hu (Ji wi g tt te own.length js) (Ga i)):=by
 intro pq s σ H D I h;have hok':=hok;unfold v3 at hok';simp only[SW,dQ,Sy,Td,T6,decide_eq_false_iff_not]at hok';obtain⟨⟨⟨⟨⟨⟨k1,k2⟩,k3⟩,k4⟩,k5⟩,k6⟩,k7⟩:=hok'
 have hfree:∀ x∈scope.names,x.2 = .free->∃ c,X.env.cells.lookup x.1=some c:=λx hx hf=>I.ok.has x.1 (by
  rcases k2 x hx with(z | z) | z
  ·exact absurd hf z
  ·exact .inl z
  ·exact .inr z)
 rw[exec_Assign_Name_used _ _ _ _ hsw];refine W0 (Wz (W0 ?_));show W7 _ X.A (do let _ <- comprehension (.ListComp elt [⟨tg,iter,ifs,0⟩] scope pos) scope X.env _ (newList []) false (eval iter X.env) (some (assign (.Name x px) X.env))) _ _ s
 refine W0 (Wj (X9 (use:=some (assign (.Name x px) X.env)) (Q:=λ_ s'=>SP X pq D .next s') rfl hs (AK hfree) k1 (λx hx hl=>?_)
  (thn (hi pq s σ H _ I h) λv s1 h1=>thn h1 λitv s2 h2=>?_)) (λ_ s' hq=>W5 (W5 hq)) λ_ _ e=>e)
 ·have:=j6 k3 (show(x.1,x.2)∈scope.names from hx);rw[this,hl]
 ·obtain⟨it,fp,tn,J,H2,e,I2,T,st2,f2,q⟩:=h2;subst e;refine CA (RR:=λacc C=>compPost (WB X.prog X.w) X.A X.xe (some (assign (.Name x px) X.env)) (λ_ s'=>SP X pq D .next s') acc C) hok hc hg ht he I2 T st2 f2 (q _ I2.fresh) ?_;intro C H' s' I' fC ⟨m,hn⟩ q';obtain⟨f0,f1,f2',f3,f4,f5⟩:=fC;show W7 _ X.A (assign (.Name x px) X.env (.ref s2.heap.objs.size)) _ _ _;refine Xb (Cz I' hN hix (.inl hx) (v := .ref s2.heap.objs.size) rfl (λs3 I3 hch=>?_) (.inr hx));obtain⟨a,hsb,ha⟩:=hch
  have hCa:C≠a:=by
   rcases ha with z | z
   ·rw[z];exact f1
   ·exact λe=>f4 x a z e.symm
  refine⟨m,hn.sameBut hsb hCa,λh' hs'=>?_⟩;exact⟨_,H',I3.turned (t':=s3.toks) (λb o hb e=>(hs'.2 b hb).trans e) f0 f1 f3 f4 f5,q'⟩
end
end L2
namespace PySem
open AutoSeq1 (wpAny_loadPart')
section
variable{prog:W8}{w:WC}{A:WH}{E:Vz->W4->Prop}{s:W4}
theorem Ac{it l:W3}{i:Nat}{items}{x:Vz}{Q:Vz->W4->Prop}(hit:s.heap.IsTupleIter it l i)
 (hl:s.heap.IsTuple l items) (hx:items[i]?=some x)
 (hQ:∀ h',h'.IsTupleIter it l (i+1)->Tv it s.heap h'->Q x {s with heap:=h'}):
 W7 (WB prog w) A (Builtin.SmallTypes.nextOf (.ref it)) Q E s:=by
 obtain⟨o,ho,hc,hd⟩:=id hit;obtain⟨ol,hol,_,nl,hdl⟩:=hl;unfold Builtin.SmallTypes.nextOf
 refine W0 (WQ (name:=Str.ofString "__next__") hit.typeIs F.slot_tuple_iterator_next
  (Wi F.slot_tuple_iterator_next hit.typeIs F.entry_tuple_iterator_next ?_ (F.args_tuple_iterator_next_1 _)))
 show W7 _ _ (field (.ref it) 0 >>= _) _ _ s;refine W0 (WN ho hd (x := .ref l) rfl ?_);show W7 _ _ (if (Value.ref l == Value.none)=true then _ else _) _ _ s;rw[iG (show ¬ ((Value.ref l == Value.none)=true) from Si)];show W7 _ _ (field (.ref it) 1 >>= _) _ _ s;refine W0 (WN ho hd (x := .int i 0) rfl ?_);show W7 _ _ (XS (.ref l) >>= _) _ _ s;refine W0 (WR hol hdl ?_);simp only[VT,hx];refine W0 (Xt ho hd (by simp) (W5 ⟨x,rfl,W5 (hQ _ ?_ (Tv.update ..))⟩))
 exact⟨_,UA _ ho (Obj.isFreed_of_fields (Obj.data_mapFields hd _)),(Obj.cls_mapFields ..).trans hc,by
  rw[Obj.data_mapFields hd];simp[rawInt]⟩
theorem Af{it l:W3}{i:Nat}{items}{Q:Vz->W4->Prop}(hh:A.handled=none)
 (hit:s.heap.IsTupleIter it l i) (hl:s.heap.IsTuple l items) (hx:items[i]?=none)
 (hE:∀ h' e,Heap.ExtBut it s.heap h'->(∃ o,h'.get? e=some o/\o.cls = .type "StopIteration")->E (.ref e) {s with heap:=h'}):
 W7 (WB prog w) A (Builtin.SmallTypes.nextOf (.ref it)) Q E s:=by
 obtain⟨o,ho,hc,hd⟩:=id hit;obtain⟨ol,hol,_,nl,hdl⟩:=hl;unfold Builtin.SmallTypes.nextOf
 refine W0 (WQ (name:=Str.ofString "__next__") hit.typeIs F.slot_tuple_iterator_next
  (Wi F.slot_tuple_iterator_next hit.typeIs F.entry_tuple_iterator_next ?_ (F.args_tuple_iterator_next_1 _)))
 show W7 _ _ (field (.ref it) 0 >>= _) _ _ s;refine W0 (WN ho hd (x := .ref l) rfl ?_);show W7 _ _ (if (Value.ref l == Value.none)=true then _ else _) _ _ s;rw[iG (show ¬ ((Value.ref l == Value.none)=true) from Si)];show W7 _ _ (field (.ref it) 1 >>= _) _ _ s;refine W0 (WN ho hd (x := .int i 0) rfl ?_);show W7 _ _ (XS (.ref l) >>= _) _ _ s;refine W0 (WR hol hdl ?_);simp only[VT,hx];refine W0 (Wq (W0 (Xt ho hd (by simp) ?_)))
 first
  | refine W0 (Wt ?_)
  | skip
 show W7 _ _ (newExc (.type "StopIteration") [] >>= _) _ _ _;refine W0 ?_;simp only[newExc,newTuple];refine W0 (WM ?_ (by size_fits));refine W0 (m:=Xu _ _) (wpAny_of_eq (a:=Value.none) (by first | rfl | (simp only[Xu];rfl)) ?_);refine WM ?_ (by size_fits);simp only[raiseNew];refine W0 (wpAny_handled ?_)
 first | rw[show A.in1.handled=none from hh] | rw[hh]
 refine W0 (W5 (wpAny_throw ?_));exact hE _ _ (((Tv.update ..).extBut.push _).push _) ⟨_,So _ rfl,rfl⟩
end
theorem l9{prog:W8}{w:WC}{A:WH}(hh:A.handled=none)(it l:W3)(hne:l≠it)(items:Array Vz):
 Draws prog w A it [it,l] items.size (λi v=>items[i]?=some v) (λi h=>h.IsTupleIter it l i/\h.IsTuple l items) where
 live:=λ_ _ st=>let ⟨o,ho,_⟩:=st.1;⟨o,ho⟩
 frame:=λ_ _ _ st hk=>⟨st.1.at λo e=>hk it (by simp) o e,let ⟨o,ho,r⟩:=st.2;⟨o,hk l (by simp) o ho,r⟩⟩
 item:=λi s Q E hi st hQ=>by
  refine Ac st.1 st.2 (x:=items[i]) (by simp[hi]) λh' hit' hs'=>?_;exact hQ _ h' s.toks (by simp[hi]) ⟨hit',st.2.extBut hs'.extBut hne⟩ hs'
 done:=λs Q E st hE=>Af hh st.1 st.2 (by simp) hE
theorem BA(l:W3)(items:Array Vz)(n:Nat)(dct:Option W3)(sl:Array (Option Vz)):
 Meets (Builtin.«enumerate.__new__» ⟨[.type "enumerate",.ref l],[]⟩) (λ_ R s=>s.heap.get? l=some {cls := .type "tuple",dict:=dct,data := .seq items n,slots:=sl}/\
  R (.ok (.ret (.ref (s.heap.push {cls := .type "tuple_iterator",data := .fields #[.ref l,.int 0 0]}).objs.size)))
   {s with heap:=(s.heap.push {cls := .type "tuple_iterator",data := .fields #[.ref l,.int 0 0]}).push {cls := .type "enumerate",data := .fields #[.none,.bool false,.ref s.heap.objs.size,rawInt 0,.none,.none]}}):=
 .of_wp λprog w A R s h=>by
  obtain⟨hp,g,d,tk,os⟩:=s;obtain⟨hl,h⟩:=h;have hsub:=sub_enumerate;have hL:VU (Shared.heap ⟨hp,g,d,tk,os⟩) l items:=⟨_,hl,rfl,n,rfl⟩
  wp_walk using wpAny_loadPart' hl
  refine wpAny_stack_any λst=>W5 ?_;split
  ·rename_i c _ _ _ _ _;cases(c == Value.type "enumerate")
   ·wp_walk using wpAny_loadPart' hl,WZ hL
    exact⟨_,rfl,h⟩
   ·wp_walk using wpAny_loadPart' hl,WZ hL
    exact⟨_,rfl,h⟩
  ·wp_walk using wpAny_loadPart' hl,WZ hL
   exact⟨_,rfl,h⟩
section
variable{prog:W8}{w:WC}{A:WH}{E:Vz->W4->Prop}{s:W4}
theorem AF{l:W3}{items:Array Vz}{Q:Vz->W4->Prop}(hL:s.heap.IsTuple l items)
 (h:∀ h',IsEnum h' (s.heap.objs.size+1) s.heap.objs.size 0 .none->h'.IsTupleIter s.heap.objs.size l 0->h'.objs.size=s.heap.objs.size+2->
   (∀ b o,s.heap.get? b=some o->h'.get? b=some o)->Q (.ref (s.heap.objs.size+1)) {s with heap:=h'}):
 W7 (WB prog w) A (call (.type "enumerate") [.ref l]) Q E s:=by
 obtain⟨⟨c,dct,dt,sl⟩,hl,hc,n,hd⟩:=hL;replace hc:c = .type "tuple":=hc;replace hd:dt = .seq items n:=hd;subst hc hd
 refine callType_new F.called_enumerate (by decide) (F.typeCall_enumerate_1 _) (F.newCall_enumerate_1 _) (λobj=>F.args_object_init_2 obj _) F.entry_enumerate_new
  (BA l items n dct sl) ⟨hl,?_⟩
 have hz:(s.heap.push {cls := .type "tuple_iterator",data := .fields #[.ref l,.int 0 0]}).objs.size=s.heap.objs.size+1:=TV ..;show _/\_;rw[hz]
 have he:IsEnum ((s.heap.push {cls := .type "tuple_iterator",data := .fields #[.ref l,.int 0 0]}).push
  {cls := .type "enumerate",data := .fields #[.none,.bool false,.ref s.heap.objs.size,rawInt 0,.none,.none]}) (s.heap.objs.size+1) s.heap.objs.size 0 .none:=by
  have:=So (s.heap.push {cls := .type "tuple_iterator",data := .fields #[.ref l,.int 0 0]})
   (o:={cls := .type "enumerate",data := .fields #[.none,.bool false,.ref s.heap.objs.size,rawInt 0,.none,.none]}) rfl
  rw[hz]at this;exact this
 refine⟨⟨_,he,rfl⟩,h _ he ⟨_,Sa _ (So _ rfl),rfl,rfl⟩ (by rw[TV,hz]) λb o x=>Sa _ (Sa _ x)⟩
end
end PySem
namespace L2
open PySem PySem.Spec PyProof.Rows
section
variable{X:Cx}{pq:List (W3×Obj)}{σ:St}{H:Hp}{s:W4}{h':Heap}
theorem Inv.turnedL{t':Nat}{ch:List W3}(I:Inv X pq σ H s)(k:∀ b o,b∉ch->s.heap.get? b=some o->h'.get? b=some o)(hf:∀ b∈ch,FpOk X pq H b):Inv X pq σ H {s with heap:=h',toks:=t'}:=by
 have nit:∀ b u,H b=some u->b∉ch:=λb u e z=>by rw[(hf b z).1]at e;cases e
 refine I.step (g':=s.gens) (d':=s.drawn) (ch:=ch) (λb hb=>?_) (λb o _ _ hc e _=>k b o hc e) (λb o _ _ hc e _=>⟨o.slots,k b o hc e⟩) (λ_ _ _ _ n=>n)
  (λb o hc e=>⟨o,k b o hc e⟩) (λ_ _ e=>e) (λ_ _ _ e=>e) (λb ps e=>⟨#[],by rw[e];simp⟩) (λm hm=>?_) (λb u e=>?_) I.bare
 ·obtain⟨f0,f1,f2,f3,f4,f5⟩:=hf b hb;exact⟨f3,f1,f4,f5⟩
 ·obtain⟨o,es,ep,ho,r⟩:=hm;exact⟨o,es,ep,k _ o (λz=>(hf _ z).2.1 rfl) ho,r⟩
 ·refine(I.hok b u e).stay (λc v hc q=>k c v ?_ q) (λ_ q=>q) λ_ _ q=>q;rcases hc with z | z
  ·rw[z];exact nit b u e
  ·exact nit c _ z
theorem Inv.turnLay{t':Nat}{ch:List W3}{o:HO}(I:Inv X pq σ H s)(k:∀ b u,b∉ch->s.heap.get? b=some u->h'.get? b=some u)(hf:∀ b∈ch,FpOk X pq H b)
 (new:ObjOk X.prog X.w (upd H s.heap.objs.size o) h' s.heap.objs.size o):Inv X pq σ (upd H s.heap.objs.size o) {s with heap:=h',toks:=t'}:=by
 have hT:H s.heap.objs.size=none:=I.fresh;have nit:∀ b u,H b=some u->b∉ch:=λb u e z=>by rw[(hf b z).1]at e;cases e
 have lt:∀ b u,s.heap.get? b=some u->b≠s.heap.objs.size:=λb u e=>Sl (Sb e)
 refine I.step (g':=s.gens) (d':=s.drawn) (ch:=ch) (λb hb=>?_) (λb o _ _ hc e _=>k b o hc e) (λb o _ _ hc e _=>⟨o.slots,k b o hc e⟩) (λb u _ e n=>by rw[f9 (lt b u e)];exact n)
  (λb o hc e=>⟨o,k b o hc e⟩) (λb xs e=>by rw[f9 (g8 e hT)];exact e) (λb u xs e=>by rw[f9 (g8 e hT)];exact e) (λb ps e=>⟨#[],by rw[f9 (g8 e hT),e];simp⟩) (λm hm=>?_) (λb u e=>?_) I.bare
 ·obtain⟨f0,f1,f2,f3,f4,f5⟩:=hf b hb;exact⟨f3,f1,f4,f5⟩
 ·obtain⟨o,es,ep,ho,r⟩:=hm;exact⟨o,es,ep,k _ o (λz=>(hf _ z).2.1 rfl) ho,r⟩
 ·by_cases hb:b=s.heap.objs.size
  ·subst hb;rw[k8]at e;cases e;exact new
  ·rw[f9 hb]at e;refine(I.hok b u e).stay (λc v hc q=>k c v ?_ q) (λc q=>by rw[f9 (g8 q hT)];exact q) λc xs q=>by rw[f9 (g8 q hT)];exact q
   rcases hc with z | z
   ·rw[z];exact nit b u e
   ·exact nit c _ z
end
noncomputable def Ow(K:SU)(a:W3):It:=
 ⟨λi H=>∃ xs x,SqL K H a xs/\xs[i]?=some x,λi H x H'=>∃ p v,H p=none/\x = .ref p/\(∀ xs,SqL K H a xs->xs[i]?=some v)/\H'=upd H p (.tup [.int i,v]),λi H=>∃ xs,SqL K H a xs/\xs.length=i⟩
noncomputable def Ox(K:SU)(a:W3):It:=
 ⟨λi H=>∃ xs x,SqT K H a xs/\xs[i]?=some x,λi H x H'=>∃ p v,H p=none/\x = .ref p/\(∀ xs,SqT K H a xs->xs[i]?=some v)/\H'=upd H p (.tup [.int i,v]),λi H=>∃ xs,SqT K H a xs/\xs.length=i⟩
theorem Db:2<=W6:=by decide
theorem Fg{P:W8}{w:WC}{K:SU}{elts:List Expr}{kx:Nat}{tp:Pos}(a e it:W3)(hei:e≠it)(hae:a≠e)(hai:a≠it):Turn P w K (.Tuple elts kx tp) (Ow K a) [e,it] e (λi h=>(∃ old,IsEnum h e it i old)/\h.IsListIter it a i) where
 mem:=by simp
 obj:=λi h st b hb=>by
  rcases Sm.mp hb with rfl | hb
  ·obtain⟨⟨old,z⟩,_⟩:=st;exact⟨_,z,λv q=>by cases q⟩
  ·have e':b=it:=by simpa using hb
   subst e';obtain⟨o,q,c,d⟩:=st.2;exact⟨o,q,λv z=>by rw[d]at z;cases z⟩
 keep:=λi h h' st k=>⟨let ⟨old,z⟩:=st.1;⟨old,k e (by simp) _ z⟩,st.2.at λo q=>k it (by simp) o q⟩
 item:=by
  intro X hP hw hK hc i pq s σ H E I hf st hg;subst hP hw hK;obtain⟨xs,x,hq,hx⟩:=hg;obtain⟨its,rv,p,hz⟩:=I.list hq;obtain⟨u,hu,ru⟩:=rv.get hx;obtain⟨⟨old,he⟩,hli⟩:=st
  have hil:i<its.toArray.size:=by
   have:=(gM hu).1;simpa using this
  refine XG (Draws.list (prog:=X.prog) (w:=X.w) (A:=X.A.in1) (show X.A.in1.handled=none from I.ok.hd hc) it a hai its.toArray) he ⟨hli,p.isList⟩ hil hei (by simp[hei,Ne.symm hae]) λy h' tk hy ho hs' hT hsz hk=>?_
  have hyu:y=u:=by
   have:its.toArray[i]?=some u:=by simpa using hu
   rw[this]at hy;exact(oj hy).symm
  subst hyu;refine⟨_,rfl,?_⟩
  have I1:Inv X pq σ (upd H s.heap.objs.size (.tup [.int i,x])) {s with heap:=h',toks:=tk+1}:=
   I.turnLay (ch:=[e,it]) (λb o hb q=>hk b o (λz=>hb (by simp[z])) (λz=>hb (by simp[z])) q) hf ⟨Db,[.int i tk,y],.cons ⟨tk,rfl⟩ (.cons ru .nil),⟨_,hT,rfl,_,rfl⟩⟩
  refine X6 ho λh2 he2 hs2=>?_
  have hfp1:∀ b∈[e,it],FpOk X pq (upd H s.heap.objs.size (.tup [.int i,x])) b:=λb hb=>by
   obtain⟨f0,f1⟩:=hf b hb
   have hbl:b≠s.heap.objs.size:=by
    rcases Sm.mp hb with rfl | hb
    ·exact Sl (Sb he)
    ·have e':b=it:=by simpa using hb
     subst e';obtain⟨o,q,_⟩:=hli;exact Sl (Sb q)
   exact⟨by rw[f9 hbl];exact f0,f1⟩
  have I2:Inv X pq σ (upd H s.heap.objs.size (.tup [.int i,x])) {s with heap:=h2,toks:=tk+1}:=
   Inv.turnedL (s:={s with heap:=h',toks:=tk+1}) (t':=tk+1) (ch:=[e,it]) I1 (λb o hb q=>(hs2.2 b (λz=>hb (by simp[z]))).trans q) hfp1
  refine⟨.ref s.heap.objs.size,_,I2,rfl,⟨_,x,I.fresh,rfl,λys hy=>by rw[I.list_inj hy hq];exact hx,rfl⟩,⟨⟨y,by simpa using he2⟩,hs'.1.extBut hs2.extBut (Ne.symm hei)⟩,λb hb=>(hfp1 b hb).1⟩
 done:=by
   intro X hP hw hK hc i pq s σ H E I hf st hg;subst hP hw hK;obtain⟨xs,hq,hx⟩:=hg;obtain⟨its,rv,p,hz⟩:=I.list hq;obtain⟨⟨old,he⟩,hli⟩:=st;have hl:=rv.length;have hn:its.toArray.size=i:=by simp;omega
   refine XJ (Draws.list (prog:=X.prog) (w:=X.w) (A:=X.A.in1) (show X.A.in1.handled=none from I.ok.hd hc) it a hai its.toArray) he (by rw[hn];exact⟨hli,p.isList⟩) λh' eb=>⟨rfl,I.turnedL (t':=s.toks) (ch:=[e,it]) (λb o hb q=>eb b o (λz=>hb (by simp[z])) q) hf⟩
 self:=λ_ _ _ _ _ st h=>let ⟨old,z⟩:=st.1;Wv z h
theorem Fh{P:W8}{w:WC}{K:SU}{elts:List Expr}{kx:Nat}{tp:Pos}(a e it:W3)(hei:e≠it)(hae:a≠e)(hai:a≠it):Turn P w K (.Tuple elts kx tp) (Ox K a) [e,it] e (λi h=>(∃ old,IsEnum h e it i old)/\h.IsTupleIter it a i) where
 mem:=by simp
 obj:=λi h st b hb=>by
  rcases Sm.mp hb with rfl | hb
  ·obtain⟨⟨old,z⟩,_⟩:=st;exact⟨_,z,λv q=>by cases q⟩
  ·have e':b=it:=by simpa using hb
   subst e';obtain⟨o,q,c,d⟩:=st.2;exact⟨o,q,λv z=>by rw[d]at z;cases z⟩
 keep:=λi h h' st k=>⟨let ⟨old,z⟩:=st.1;⟨old,k e (by simp) _ z⟩,st.2.at λo q=>k it (by simp) o q⟩
 item:=by
  intro X hP hw hK hc i pq s σ H E I hf st hg;subst hP hw hK;obtain⟨xs,x,hq,hx⟩:=hg;obtain⟨its,rv,p,hz⟩:=I.tuple hq;obtain⟨u,hu,ru⟩:=rv.get hx;obtain⟨⟨old,he⟩,hli⟩:=st
  have hil:i<its.toArray.size:=by
   have:=(gM hu).1;simpa using this
  refine XG (l9 (prog:=X.prog) (w:=X.w) (A:=X.A.in1) (show X.A.in1.handled=none from I.ok.hd hc) it a hai its.toArray) he ⟨hli,p⟩ hil hei (by simp[hei,Ne.symm hae]) λy h' tk hy ho hs' hT hsz hk=>?_
  have hyu:y=u:=by
   have:its.toArray[i]?=some u:=by simpa using hu
   rw[this]at hy;exact(oj hy).symm
  subst hyu;refine⟨_,rfl,?_⟩
  have I1:Inv X pq σ (upd H s.heap.objs.size (.tup [.int i,x])) {s with heap:=h',toks:=tk+1}:=
   I.turnLay (ch:=[e,it]) (λb o hb q=>hk b o (λz=>hb (by simp[z])) (λz=>hb (by simp[z])) q) hf ⟨Db,[.int i tk,y],.cons ⟨tk,rfl⟩ (.cons ru .nil),⟨_,hT,rfl,_,rfl⟩⟩
  refine X6 ho λh2 he2 hs2=>?_
  have hfp1:∀ b∈[e,it],FpOk X pq (upd H s.heap.objs.size (.tup [.int i,x])) b:=λb hb=>by
   obtain⟨f0,f1⟩:=hf b hb
   have hbl:b≠s.heap.objs.size:=by
    rcases Sm.mp hb with rfl | hb
    ·exact Sl (Sb he)
    ·have e':b=it:=by simpa using hb
     subst e';obtain⟨o,q,_⟩:=hli;exact Sl (Sb q)
   exact⟨by rw[f9 hbl];exact f0,f1⟩
  have I2:Inv X pq σ (upd H s.heap.objs.size (.tup [.int i,x])) {s with heap:=h2,toks:=tk+1}:=
   Inv.turnedL (s:={s with heap:=h',toks:=tk+1}) (t':=tk+1) (ch:=[e,it]) I1 (λb o hb q=>(hs2.2 b (λz=>hb (by simp[z]))).trans q) hfp1
  refine⟨.ref s.heap.objs.size,_,I2,rfl,⟨_,x,I.fresh,rfl,λys hy=>by rw[I.tuple_inj hy hq];exact hx,rfl⟩,⟨⟨y,by simpa using he2⟩,hs'.1.extBut hs2.extBut (Ne.symm hei)⟩,λb hb=>(hfp1 b hb).1⟩
 done:=by
   intro X hP hw hK hc i pq s σ H E I hf st hg;subst hP hw hK;obtain⟨xs,hq,hx⟩:=hg;obtain⟨its,rv,p,hz⟩:=I.tuple hq;obtain⟨⟨old,he⟩,hli⟩:=st;have hl:=rv.length;have hn:its.toArray.size=i:=by simp;omega
   refine XJ (l9 (prog:=X.prog) (w:=X.w) (A:=X.A.in1) (show X.A.in1.handled=none from I.ok.hd hc) it a hai its.toArray) he (by rw[hn];exact⟨hli,p⟩) λh' eb=>⟨rfl,I.turnedL (t':=s.toks) (ch:=[e,it]) (λb o hb q=>eb b o (λz=>hb (by simp[z])) q) hf⟩
 self:=λ_ _ _ _ _ st h=>let ⟨old,z⟩:=st.1;Wv z h
section
variable{X:Cx}
noncomputable def Qx(K:SU)(ta:TA):TI:=λσ H R=>ta σ H λvs H1=>∃ a,vs=[.ref a]/\(((∃ xs,SqL K H1 a xs)/\R (Ow K a) H1)\/((∃ xs,SqT K H1 a xs)/\R (Ox K a) H1))
theorem CB:WD "enumerate"=some (.type "enumerate"):=by decide +kernel
theorem EQ:WD "zip"=some (.type "zip"):=by decide +kernel
theorem MB{a:Expr}{ta:TA}{p pos:Pos}{elts:List Expr}{kx:Nat}{tp:Pos}(hg:Gl X "enumerate")(hm:X.mg "enumerate"=none)(ha:PA X [a] ta)(hs:WG [a] X.env=[(false,eval a X.env)]:=by rfl):
 PI X (.Tuple elts kx tp) (.Call (.Name "enumerate" p) [a] [] pos) (Qx X.K ta):=by
 intro pq s σ H R I h;refine Call_ (AT I hg hm CB (PyProof.Rows.callWith_type1 (thn (ha pos pq s σ H _ I h) λus s1 ⟨vs,H1,I1,r1,q1⟩=>?_) hs rfl));obtain⟨l,e,q1⟩:=q1;subst e;cases r1 with
 | cons r rr=>
   cases rr;cases r;rcases q1 with⟨⟨xs,hq⟩,q⟩ | ⟨⟨xs,hq⟩,q⟩
   ·obtain⟨its,rv,pl,hz⟩:=I1.list hq;have hlt:@LT.lt Nat _ l s1.heap.objs.size:=by obtain⟨o,n,e,_⟩:=pl;exact Sb e
    refine call_enumerate_list pl.isList λh' he hli hsz hk=>?_;refine Wv he ?_;have I2:Inv X pq σ H1 {s1 with heap:=h'}:=I1.kept (t':=s1.toks) hk;refine⟨s1.heap.objs.size+1,[s1.heap.objs.size+1,s1.heap.objs.size],_,_,H1,rfl,I2,Fg l _ s1.heap.objs.size (show @Ne Nat _ _ by omega) (show @Ne Nat _ _ by omega) (show @Ne Nat _ _ by omega),⟨⟨_,he⟩,hli⟩,λb hb=>?_,q⟩
    have hb2:@LE.le Nat _ s1.heap.objs.size b:=by
     rcases Sm.mp hb with rfl | hb
     ·exact V5 _
     ·have e:b=s1.heap.objs.size:=by simpa using hb
      rw[e];exact Sd _
    exact I1.fpOk hb2 (I1.hok.fresh hb2)
   ·obtain⟨its,rv,pl,hz⟩:=I1.tuple hq;have hlt:@LT.lt Nat _ l s1.heap.objs.size:=by obtain⟨o,e,_⟩:=pl;exact Sb e
    refine AF (show s1.heap.IsTuple l its.toArray from pl) λh' he hli hsz hk=>?_;refine Wv he ?_;have I2:Inv X pq σ H1 {s1 with heap:=h'}:=I1.kept (t':=s1.toks) hk;refine⟨s1.heap.objs.size+1,[s1.heap.objs.size+1,s1.heap.objs.size],_,_,H1,rfl,I2,Fh l _ s1.heap.objs.size (show @Ne Nat _ _ by omega) (show @Ne Nat _ _ by omega) (show @Ne Nat _ _ by omega),⟨⟨_,he⟩,hli⟩,λb hb=>?_,q⟩
    have hb2:@LE.le Nat _ s1.heap.objs.size b:=by
     rcases Sm.mp hb with rfl | hb
     ·exact V5 _
     ·have e:b=s1.heap.objs.size:=by simpa using hb
      rw[e];exact Sd _
    exact I1.fpOk hb2 (I1.hok.fresh hb2)
end
noncomputable def Itz(K:SU)(a b:W3):It:=
 ⟨λi H=>∃ xs ys x y,SqL K H a xs/\SqL K H b ys/\xs[i]?=some x/\ys[i]?=some y,
  λi H x H'=>∃ p v u,H p=none/\x = .ref p/\(∀ xs,SqL K H a xs->xs[i]?=some v)/\(∀ ys,SqL K H b ys->ys[i]?=some u)/\H'=upd H p (.tup [v,u]),
  λi H=>∃ xs ys,SqL K H a xs/\SqL K H b ys/\(xs.length<=i\/ys.length<=i)⟩
theorem Jj{P:W8}{w:WC}{K:SU}{elts:List Expr}{kx:Nat}{tp:Pos}(z TI TO i1 i2 l1 l2:W3)(D:ZipApart z TI TO i1 i2 l1 l2):Turn P w K (.Tuple elts kx tp) (Itz K l1 l2) [z,TI,TO,i1,i2] z
 (λi h=>IsZip h z TI TO .none/\IsPair h TI (.ref i1) (.ref i2)/\(∃ a b,IsPair h TO a b)/\h.IsListIter i1 l1 i/\h.IsListIter i2 l2 i) where
 mem:=by simp
 obj:=λi h st b hb=>by
  obtain⟨hz,hTI,⟨a',b',hTO⟩,⟨o1,e1,c1,d1⟩,⟨o2,e2,c2,d2⟩⟩:=st;simp only[Sm,U8,or_false]at hb;rcases hb with rfl | rfl | rfl | rfl | rfl
  ·exact⟨_,hz,λv q=>by cases q⟩
  ·exact⟨_,hTI,λv q=>by cases q⟩
  ·exact⟨_,hTO,λv q=>by cases q⟩
  ·exact⟨o1,e1,λv q=>by rw[d1]at q;cases q⟩
  ·exact⟨o2,e2,λv q=>by rw[d2]at q;cases q⟩
 keep:=λi h h' st k=>by
  obtain⟨hz,hTI,⟨a',b',hTO⟩,h1,h2⟩:=st;exact⟨k z (by simp) _ hz,k TI (by simp) _ hTI,⟨a',b',k TO (by simp) _ hTO⟩,h1.at λo q=>k i1 (by simp) o q,h2.at λo q=>k i2 (by simp) o q⟩
 item:=by
  intro X hP hw hK hc i pq s σ H E I hf st hg;subst hP hw hK;obtain⟨xs,ys,x,y,hq1,hq2,hx,hy⟩:=hg;obtain⟨its1,rv1,p1,hz1⟩:=I.list hq1;obtain⟨its2,rv2,p2,hz2⟩:=I.list hq2;obtain⟨u1,hu1,ru1⟩:=rv1.get hx;obtain⟨u2,hu2,ru2⟩:=rv2.get hy;obtain⟨hz,hTI,⟨a',b',hTO⟩,h1,h2⟩:=st;refine wpAny_pyNext_zip_item D hz hTI hTO h1 h2 p1.isList p2.isList (x:=u1) (y:=u2) (by simpa using hu1) (by simpa using hu2) λh' b1 b2 b3 b4 b5 b6 hk=>?_;refine⟨_,rfl,?_⟩
  have I1:Inv X pq σ (upd H s.heap.objs.size (.tup [x,y])) {s with heap:=h'}:=
   I.turnLay (t':=s.toks) (ch:=[z,TI,TO,i1,i2]) (λb o hb q=>hk b o (λe=>hb (by simp[e])) (λe=>hb (by simp[e])) (λe=>hb (by simp[e])) (λe=>hb (by simp[e])) q) hf ⟨Db,[u1,u2],.cons ru1 (.cons ru2 .nil),⟨_,b5,rfl,_,rfl⟩⟩
  have lt1:i1<s.heap.objs.size:=by obtain⟨_,q,_⟩:=h1;exact Sb q
  have lt2:i2<s.heap.objs.size:=by obtain⟨_,q,_⟩:=h2;exact Sb q
  have hfp1:∀ b∈[z,TI,TO,i1,i2],FpOk X pq (upd H s.heap.objs.size (.tup [x,y])) b:=λb hb=>by
   obtain⟨f0,f1⟩:=hf b hb
   have hbl:b≠s.heap.objs.size:=by
    simp only[Sm,U8,or_false]at hb;rcases hb with rfl | rfl | rfl | rfl | rfl
    ·exact Sl (Sb hz)
    ·exact Sl (Sb hTI)
    ·exact Sl (Sb hTO)
    ·exact Sl lt1
    ·exact Sl lt2
   exact⟨by rw[f9 hbl];exact f0,f1⟩
  refine X8 b1 λh2' hz' hs'=>?_
  have I2:Inv X pq σ (upd H s.heap.objs.size (.tup [x,y])) {s with heap:=h2'}:=
   Inv.turnedL (s:={s with heap:=h'}) (t':=s.toks) (ch:=[z,TI,TO,i1,i2]) I1 (λb o hb q=>(hs'.2 b (λe=>hb (by simp[e]))).trans q) hfp1
  refine⟨.ref s.heap.objs.size,_,I2,rfl,⟨_,x,y,I.fresh,rfl,λzs hy'=>by rw[I.list_inj hy' hq1];exact hx,λzs hy'=>by rw[I.list_inj hy' hq2];exact hy,rfl⟩,
   ⟨hz',hs'.extBut _ _ D.TIz (hk _ _ D.TIz D.TITO D.TIi1 D.TIi2 hTI),⟨_,_,hs'.extBut _ _ D.TOz b2⟩,b3.extBut hs'.extBut D.i1z,b4.extBut hs'.extBut D.i2z⟩,λb hb=>(hfp1 b hb).1⟩
 done:=by
   intro X hP hw hK hc i pq s σ H E I hf st hg;subst hP hw hK;obtain⟨xs,ys,hq1,hq2,hx⟩:=hg;obtain⟨its1,rv1,p1,hz1⟩:=I.list hq1;obtain⟨its2,rv2,p2,hz2⟩:=I.list hq2;obtain⟨hz,hTI,⟨a',b',hTO⟩,h1,h2⟩:=st;have hl1:=rv1.length;have hl2:=rv2.length
   have hend:its1.toArray[i]?=none\/its2.toArray[i]?=none:=by
    rcases hx with h | h
    ·exact .inl (by simp;omega)
    ·exact .inr (by simp;omega)
   exact wpAny_pyNext_zip_end (I.ok.hd hc) D hz hTI hTO h1 h2 p1.isList p2.isList hend λh' hk=>⟨rfl,I.turnedL (t':=s.toks) (ch:=[z,TI,TO,i1,i2]) (λb o hb q=>hk b o (λe=>hb (by simp[e])) (λe=>hb (by simp[e])) (λe=>hb (by simp[e])) (λe=>hb (by simp[e])) q) hf⟩
 self:=λ_ _ _ _ _ st h=>Wy st.1 h
section
variable{X:Cx}
noncomputable def Ry(K:SU)(ta:TA):TI:=λσ H R=>ta σ H λvs H1=>∃ a b,vs=[.ref a,.ref b]/\(∃ xs,SqL K H1 a xs)/\(∃ ys,SqL K H1 b ys)/\R (Itz K a b) H1
theorem Oy{a b:Expr}{ta:TA}{p pos:Pos}{elts:List Expr}{kx:Nat}{tp:Pos}(hg:Gl X "zip")(hm:X.mg "zip"=none)(ha:PA X [a,b] ta)(hs:WG [a,b] X.env=[(false,eval a X.env),(false,eval b X.env)]:=by rfl)
 (hs2:WG [b] X.env=[(false,eval b X.env)]:=by rfl):PI X (.Tuple elts kx tp) (.Call (.Name "zip" p) [a,b] [] pos) (Ry X.K ta):=by
 intro pq s σ H R I h;refine Call_ (AT I hg hm EQ (PyProof.Rows.callWith_type1 (thn (ha pos pq s σ H _ I h) λus s1 ⟨vs,H1,I1,r1,q1⟩=>?_) (by rw[hs,hs2]) (by rw[hs2];rfl)));obtain⟨l1,l2,e,⟨xs,hq1⟩,⟨ys,hq2⟩,q⟩:=q1;subst e;obtain⟨u1,u2,rfl,r1',r2'⟩:=Vals.two r1;cases r1';cases r2';obtain⟨its1,rv1,p1,hz1⟩:=I1.list hq1;obtain⟨its2,rv2,p2,hz2⟩:=I1.list hq2;have hl1:@LT.lt Nat _ l1 s1.heap.objs.size:=by obtain⟨o,n,e,_⟩:=p1;exact Sb e
 have hl2:@LT.lt Nat _ l2 s1.heap.objs.size:=by obtain⟨o,n,e,_⟩:=p2;exact Sb e
 refine call_zip_2 p1.isList p2.isList λh' c1 c2 c3 c4 c5 c6 hk=>?_;refine Wy c1 ?_;have I2:Inv X pq σ H1 {s1 with heap:=h'}:=I1.kept (t':=s1.toks) hk;refine⟨s1.heap.objs.size+4,[s1.heap.objs.size+4,s1.heap.objs.size+2,s1.heap.objs.size+3,s1.heap.objs.size,s1.heap.objs.size+1],_,_,H1,rfl,I2,Jj _ _ _ _ _ l1 l2 ?_,⟨c1,c2,⟨_,_,c3⟩,c4,c5⟩,λb hb=>?_,q⟩
 ·constructor<;>(show @Ne Nat _ _)<;>omega
 ·have hb2:@LE.le Nat _ s1.heap.objs.size b:=by
   simp only[Sm,U8,or_false]at hb;rcases hb with rfl | rfl | rfl | rfl | rfl
   ·exact Tt _ _
   ·exact Tt _ _
   ·exact Tt _ _
   ·exact Sd _
   ·exact Tt _ _
  exact I1.fpOk hb2 (I1.hok.fresh hb2)
end
theorem IH(its:List Vz)(k:Nat)(y:Vz):(its.toArray.extract 0 k).push y++its.toArray.extract k=(its.take k++y::its.drop k).toArray:=by
 apply Array.toList_inj.mp;simp
 first
  | done
  | exact List.take_of_length_le (by simp)
section
variable{X:Cx}
noncomputable def Gs:V->List V->Hp->VK->Prop:=λx vs H Q=>∃ l xs i y,x = .ref l/\vs=[.int i,y]/\H l=some (.lst xs)/\0<=i/\i<=xs.length/\xs.length<W6/\Q .non (upd H l (.lst (xs.take i.toNat++y::xs.drop i.toNat)))
theorem D7:MtM X "list.insert" Gs:=by
 intro pq s σ H x vs v us Q I rx rv h;obtain⟨l,xs,i,y,rfl,rfl,hH,h0,h1,hz,q⟩:=h;cases rx;obtain⟨u1,u2,rfl,⟨t,rfl⟩,ru⟩:=Vals.two rv;obtain⟨z,its,n,r,hl,e⟩:=I.lstM hH;have hn:=B9;refine Wh F.slot_list_insert ⟨_,e,rfl⟩ F.entry_list_insert (F.args_list_insert_3 _ _ _) (AutoSeq1.list_insert_list_int_val_1 l its.toArray n i t u2 (by rw[Xs (by omega) (by omega)];exact Si) (by rw[SZ];omega)) ⟨e,?_⟩;refine⟨.non,_,I.lset (its':=its.take i.toNat++u2::its.drop i.toNat) hH e ?_ (Vals.append (r.take _) (.cons ru (r.drop _))) ?_,rfl,q⟩
 ·have hk:(if i<0 then (i+(its.toArray.size:Int)).toNat else min i.toNat its.toArray.size)=i.toNat:=by
   rw[iG (by omega),SZ];omega
  show(let k:=if i<0 then (i+(its.toArray.size:Int)).toNat else min i.toNat its.toArray.size;(its.toArray.extract 0 k).push u2++its.toArray.extract k)=_;rw[hk];exact IH its i.toNat u2
 ·rw[SY,UH,TM,UI];omega
noncomputable def AG(xs ys:List V):Bool:=xs.length == ys.length&&(xs.zip ys).all λp=>eqV p.1 p.2
noncomputable def MC(K:SU)(neg:Bool):R2:=λx y H Q=>∃ a b xs ys,x = .ref a/\y = .ref b/\SqL K H a xs/\SqL K H b ys/\((xs.all l8=true/\ys.all l8=true)\/xs=[]\/ys=[])/\Q (.bl (if neg then !AG xs ys else AG xs ys)) H
theorem CC{xs ys:List V}(hl:xs.length=ys.length):(Sf xs.length).all (λj=>eqV (xs.getD j .non) (ys.getD j .non))=AG xs ys:=by
 have e1:AG xs ys=(xs.zip ys).all λp=>eqV p.1 p.2:=by unfold AG;simp[hl]
 rw[e1,Tc,Sy,Sy];constructor
 ·intro h p hp;obtain⟨j,hj,e⟩:=US.mp hp;have hj1:j<xs.length:=by simp at hj;omega
  have hj2:j<ys.length:=by omega
  have:=h j (TC.mpr hj1);rw[<-e];simpa[Th,hj1,hj2] using this
 ·intro h j hj;have hj1:j<xs.length:=TC.mp hj;have hj2:j<ys.length:=by omega
  have:=h (xs[j],ys[j]) (US.mpr ⟨j,by simp;omega,by simp⟩);simpa[Th,hj1,hj2] using this
theorem BB{xs ys:List V}{us ws:List Vz}{A:WH}{s:W4}(r1:Vals xs us)(r2:Vals ys ws)(f:(xs.all l8=true/\ys.all l8=true)\/xs=[]\/ys=[]):
 ∀ j (h1:j<us.toArray.size) (h2:j<ws.toArray.size),SeqAt.EqAt A s us.toArray[j] ws.toArray[j] (eqV (xs.getD j .non) (ys.getD j .non)):=by
 intro j h1 h2;have l1:=r1.length;have l2:=r2.length;simp only[SZ]at h1 h2;have hj1:j<xs.length:=by omega
 have hj2:j<ys.length:=by omega
 obtain⟨f1,f2⟩:xs.all l8=true/\ys.all l8=true:=by
  rcases f with f | f | f
  ·exact f
  ·subst f;simp at hj1
  ·subst f;simp at hj2
 obtain⟨u,eu,ru⟩:=r1.get (i:=j) (x:=xs[j]) (by simp[hj1]);obtain⟨w',ew,rw'⟩:=r2.get (i:=j) (x:=ys[j]) (by simp[hj2])
 have e1:us.toArray[j]=u:=by
  have:=gM eu;obtain⟨_,q⟩:=this;simpa using q
 have e2:ws.toArray[j]=w':=by
  obtain⟨_,q⟩:=gM ew;simpa using q
 rw[e1,e2];have g1:xs.getD j .non=xs[j]:=by simp[Th,hj1]
 have g2:ys.getD j .non=ys[j]:=by simp[Th,hj2]
 rw[g1,g2];exact Jc ru rw' (Sy.mp f1 _ (TY hj1)) (Sy.mp f2 _ (TY hj2))
theorem Oz(hu:X.A.units<cLine):OpR X (WJ .Eq) (MC X.K false):=by
 intro pq s σ H x y v u Q I rx ry h;obtain⟨a,b,xs,ys,rfl,rfl,h1,h2,f,q⟩:=h;cases rx;cases ry;obtain⟨its1,r1,p1,_⟩:=I.list h1;obtain⟨its2,r2,p2,_⟩:=I.list h2;have l1:=r1.length;have l2:=r2.length;by_cases hl:xs.length=ys.length
 ·refine SeqAt.eq_listAt p1.isList p2.isList (by simp;omega) hu (BB r1 r2 f) ⟨.bl _,H,I,rfl,?_⟩;rw[SZ,<-l1,CC hl];exact q
 ·refine SeqAt.eq_list_lengthsAt p1.isList p2.isList (by simp;omega) hu ⟨.bl false,H,I,rfl,?_⟩;have e:AG xs ys=false:=by unfold AG;simp[hl]
  rw[show(if false=true then !AG xs ys else AG xs ys)=AG xs ys from rfl,e]at q;exact q
theorem P0(hu:X.A.units<cLine):OpR X (WJ .NotEq) (MC X.K true):=by
 intro pq s σ H x y v u Q I rx ry h;obtain⟨a,b,xs,ys,rfl,rfl,h1,h2,f,q⟩:=h;cases rx;cases ry;obtain⟨its1,r1,p1,_⟩:=I.list h1;obtain⟨its2,r2,p2,_⟩:=I.list h2;have l1:=r1.length;have l2:=r2.length;by_cases hl:xs.length=ys.length
 ·refine(SeqAt.RcNeAt.lists p1.isList p2.isList (by simp;omega) hu (BB r1 r2 f)) _ _ _ _ ?_;refine⟨.bl _,H,I,rfl,?_⟩;rw[SZ,<-l1,CC hl];exact q
 ·refine(SeqAt.RcNeAt.lists_lengths p1.isList p2.isList (by simp;omega) hu) _ _ _ _ ?_;refine⟨.bl true,H,I,rfl,?_⟩;have e:AG xs ys=false:=by unfold AG;simp[hl]
  rw[show(if true=true then !AG xs ys else AG xs ys)=!AG xs ys from rfl,e]at q;exact q
theorem call_isi1:CallR X (.builtin "isinstance") (λxs H Q=>∃ x T t b,xs=[x,.ty T]/\TyOf X.K H x t/\PySem.W.kitOne X.K t (.type T)=some b/\Q (.bl b) H):=by
 intro pq s σ H xs us Q I r h;obtain⟨x,T,t,b,rfl,ty,e,q⟩:=h;obtain⟨u1,u2,rfl,r1,r2⟩:=Vals.two r;cases r2;exact IC I r1 ty e λtk=>⟨.bl b,H,I.tok tk,rfl,q⟩
theorem Fi{pq:List (W3×Obj)}{σ:St}{H:Hp}{s:W4}{A:WH}{E:Vz->W4->Prop}{Q:Vz->W4->Prop}{b:Bool}{x:V}{u t:Vz}{tp:W3}{dd:Option W3}{its:List Vz}{n:Nat}{sl:Array (Option Vz)}(I:Inv X pq σ H s)(rx:RelV x u)(ty:TyOf X.K H x t)
 (htp:s.heap.get? tp=some ⟨.type "tuple",dd,.seq its.toArray n,sl⟩) (e:PySem.W.kitAny X.K t its=some b) (h:∀ tk,Q (.bool b) {s with toks:=tk}):
 W7 (WB X.prog X.w) A (call (.builtin "isinstance") [u,.ref tp]) Q E s:=by
 cases ty with
 | non=>cases(show u=Value.none from rx);exact PySem.W.kia_tup PySem.W.kitx_none I.kIn True.intro htp e (λz=>nomatch z) h
 | bl y=>cases(show u=Value.bool y from rx);exact PySem.W.kia_tup PySem.W.kitx_bool I.kIn True.intro htp e (λz=>nomatch z) h
 | int i=>obtain⟨t,q⟩:=(show ∃ t,u=Value.int i t from rx);cases q;exact PySem.W.kia_tup PySem.W.kitx_int I.kIn True.intro htp e (λz=>nomatch z) h
 | str y=>obtain⟨t,q⟩:=(show ∃ t,u=Value.str y t from rx);cases q;exact PySem.W.kia_tup PySem.W.kitx_str I.kIn True.intro htp e (λz=>nomatch z) h
 | flt y=>obtain⟨t,q⟩:=(show ∃ t,u=Value.float y t from rx);cases q;exact PySem.W.kia_tup PySem.W.kitx_float I.kIn True.intro htp e (λz=>nomatch z) h
 | @lst a xs ea=>
   cases(show u=Value.ref a from rx);obtain⟨_,_,n,_,h1⟩:=(show ObjOk X.prog X.w H s.heap a (.lst xs) from I.hok a _ ea)
   exact PySem.W.kia_tup PySem.W.kitx_list I.kIn ⟨_,h1,rfl⟩ htp e (λz=>nomatch z) h
 | @frz a ob xs ea=>
   cases(show u=Value.ref a from rx);obtain⟨_,_,_,n,_,h1⟩:=(show ObjOk X.prog X.w H s.heap a (.frz ob (.lst xs)) from I.hok a _ ea)
   exact PySem.W.kia_tup PySem.W.kitx_list I.kIn ⟨_,h1,rfl⟩ htp e (λz=>nomatch z) h
 | @tup a xs ea=>
   cases(show u=Value.ref a from rx);obtain⟨_,_,_,p⟩:=(show ObjOk X.prog X.w H s.heap a (.tup xs) from I.hok a _ ea)
   obtain⟨o,h1,h2,_⟩:=p;exact PySem.W.kia_tup PySem.W.kitx_tuple I.kIn ⟨o,h1,h2⟩ htp e (λz=>nomatch z) h
 | @dK a kvs ea=>
   cases(show u=Value.ref a from rx);obtain⟨_,_,vs,_,p⟩:=(show ObjOk X.prog X.w H s.heap a (.dK kvs) from I.hok a _ ea)
   obtain⟨o,es,ep,h1,h2,_⟩:=p;exact PySem.W.kia_tup PySem.W.kitx_dict I.kIn ⟨o,h1,h2.1⟩ htp e (λz=>nomatch z) h
 | @dT a kvs ea=>
   cases(show u=Value.ref a from rx);obtain⟨_,_,xs,_,o,es,ep,h1,h2,_⟩:=(show ObjOk X.prog X.w H s.heap a (.dT kvs) from I.hok a _ ea)
   exact PySem.W.kia_tup PySem.W.kitx_dict I.kIn ⟨o,h1,h2.1⟩ htp e (λz=>nomatch z) h
 | @ins a C dx fs ea cl ha hn htk hm=>
   cases(show u=Value.ref a from rx);obtain⟨mA,O,_⟩:=Gh I.hok ea;obtain⟨od,J,_⟩:=O.look;exact PySem.W.kia_tup (PySem.W.kitx_own (cl.get _) cl.hd ha hn htk hm) I.kIn J htp e (λz=>nomatch z) h
theorem Gv:∀(Ts:List String) {us:List Vz},Vals (Ts.map V.ty) us->us=Ts.map Value.type
 | [],_,.nil=>rfl
 | T::r,_,.cons h t=>by cases h;rw[Gv r t];rfl
theorem II:CallR X (.builtin "isinstance") (λxs H Q=>∃(x:V) (p:W3) (Ts:List String) (t:Vz) (b:Bool),xs=[x,.ref p]/\H p=some (.tup (Ts.map V.ty))/\TyOf X.K H x t/\PySem.W.kitAny X.K t (Ts.map Value.type)=some b/\Q (.bl b) H):=by
 intro pq s σ H xs us Q I r h;obtain⟨x,p,Ts,t,b,rfl,hp,ty,e,q⟩:=h;obtain⟨u1,u2,rfl,r1,r2⟩:=Vals.two r;cases r2;obtain⟨_,its,rv,⟨⟨c,dd,dt,sl⟩,h1,h2,n,h3⟩⟩:=(show ObjOk X.prog X.w H s.heap p (.tup (Ts.map V.ty)) from I.hok p _ hp)
 have ei:=Gv Ts rv;subst ei;replace h2:c = .type "tuple":=h2;replace h3:dt = .seq (Ts.map Value.type).toArray n:=h3;subst h2 h3;exact Fi I r1 ty h1 e λtk=>⟨.bl b,H,I.tok tk,rfl,q⟩
theorem IJ(hc:X.calm=true):CallR X (.builtin "all") (λxs H Q=>∃(a:W3) (bs:List Bool),xs=[.ref a]/\SqL X.K H a (bs.map V.bl)/\Q (.bl (bs.all id)) H):=by
 intro pq s σ H xs us Q I r h;obtain⟨a,bs,rfl,hq,q⟩:=h;obtain⟨u,rfl,ru⟩:=AI r;cases ru;obtain⟨its,rv,pl,hz⟩:=I.list hq;have hl:=rv.length;rw[SX]at hl;refine call_all_walk (Wd pl.isList ?_);have hlt:a<s.heap.objs.size:=by obtain⟨o,n,e,_⟩:=pl;exact Sb e
 refine⟨s.heap.objs.size,_,_,_,_,_,λi=>bs.getD i false,rfl,Walks.list (by exact I.ok.hd hc) s.heap.objs.size a (Sl hlt) its.toArray,⟨⟨_,So _ rfl,rfl,rfl⟩,pl.isList.push _⟩,?_,λh' tk hk=>?_⟩
 ·intro i v s' Q' E' hv hQ';have hv':its[i]?=some v:=by simpa using hv
  have hi:i<its.length:=(gM hv').1;have hb:(bs.map V.bl)[i]?=some (.bl (bs[i]'(by omega))):=by simp
  obtain⟨u',eu,ru'⟩:=rv.get hb;rw[hv']at eu;cases eu;cases ru';have hg:bs.getD i false=bs[i]'(by omega):=by simp[Th,show i<bs.length by omega]
  have hQ2:Q' (bs.getD i false) s':=hQ';rw[hg]at hQ2;exact WL hQ2
 ·have I1:Inv X pq σ H {s with heap:=h',toks:=tk}:=I.kept λb o e=>hk b o (by simp;exact Sl (Sb e)) (Sa _ e);refine⟨.bl _,H,I1,rfl,?_⟩
  have e:(Sf its.toArray.size).all (λi=>bs.getD i false)=bs.all id:=by
   rw[SZ,<-hl,Tc,Sy,Sy];constructor
   ·intro h b hb;obtain⟨j,hj,e⟩:=US.mp hb;have:=h j (TC.mpr hj);simpa[Th,hj,e] using this
   ·intro h j hj;have hj1:j<bs.length:=TC.mp hj;have:=h bs[j] (TY hj1);simpa[Th,hj1] using this
  rw[e];exact q
end
noncomputable def srt(ns:List Int):List Int:=ns.mergeSort (λa b=>decide (a<=b))
theorem Jk(ns:List Int):(srt ns).Perm ns:=List.mergeSort_perm _ _
theorem P4(ns:List Int):(srt ns).Pairwise (·<=·):=by
 have h:=List.pairwise_mergeSort (le:=λ(a b:Int)=>decide (a<=b)) (λa b c h1 h2=>by simp only[dQ]at *;omega) (λa b=>by simp only[Td,dQ];omega) ns;exact h.imp λh=>of_decide_eq_true h
theorem P5{ns ns':List Int}(hp:ns'.Perm ns)(hs:ns'.Pairwise (·<=·)):ns'=srt ns:=
 List.Perm.eq_of_pairwise (λ_ _ _ _ a b=>V1 a b) hs (P4 ns) (hp.trans (Jk ns).symm)
theorem BK:∀{ns:List Int} {us:List Vz},Vals (ns.map V.int) us->IntsAre us ns
 | [],_,.nil => .nil
 | _::_,_,.cons ⟨_,e⟩ t=>by subst e;exact .cons _ _ (BK t)
theorem D8:∀{ns:List Int} {us:List Vz},IntsAre us ns->Vals (ns.map V.int) us
 | _,_,.nil => .nil
 | _,_,.cons _ _ t => .cons ⟨_,rfl⟩ (D8 t)
theorem Jl:WD "sorted"=some (.builtin "sorted"):=by decide +kernel
section
variable{X:Cx}
theorem ER:CallR X (.builtin "sorted") (λxs H Q=>∃ p ns,xs=[.ref p]/\SqL X.K H p (ns.map V.int)/\ns.length<64/\∀ l,H l=none->Q (.ref l) (upd H l (.lst ((srt ns).map V.int)))):=by
 intro pq s σ H xs us Q I r h;obtain⟨p,ns,rfl,hq,h64,q⟩:=h;obtain⟨u,rfl,rx⟩:=AI r;cases rx;obtain⟨its,r',pl,hz⟩:=I.list hq;have hlen:=r'.length;rw[SX]at hlen;refine sorted_ints pl.isList (BK r') (by omega) λout ns' a1 a2 a3=>?_;obtain⟨e,he⟩:=sortedAll_at s.heap its out;have en:=P5 a2 a3;subst en;refine⟨.ref (s.heap.objs.size+1),_,I.laid (t':=s.toks) (λb o h=>sortedAll_old h) (V5 _) (show ObjOk X.prog X.w _ _ _ (.lst ((srt ns).map V.int)) from ⟨?_,out.toList,e,D8 a1,by simpa using he⟩),rfl,q _ (I.hok.fresh (V5 _))⟩;rw[SX,a2.length_eq];exact TH (UY h64) (by decide)
end
end L2
set_option maxHeartbeats 1000000
namespace Rf
open PySem L2
inductive TyN where
 | int | bool | str | list | tuple | none
 deriving DecidableEq
noncomputable def TyN.nm:TyN->String
 | .int=>"int" | .bool=>"bool" | .str=>"str" | .list=>"list" | .tuple=>"tuple" | .none=>"NoneType"
inductive SV where
 | non | bl (b:Bool) | int (i:Int) | str (x:Str) | tup (xs:List SV) | loc (k:Nat) | ro (xs:List SV) | ty (t:TyN)
inductive SO where
 | lst (xs:List SV)
 | iset (ms:List Int)
 | dtp (kvs:List ((Int×Int)×Int)) | dtl (kvs:List (List Int×SV)) | dtf (o:Obj) (us:List (List Key×V)) (kvs:List (List Int×SV)) | dct (kvs:List (Int×SV)) | dcf (o:Obj) (ks:List (Key×V)) (kvs:List (Int×SV))
noncomputable abbrev Sto:=List SO
noncomputable abbrev EnvS:=List (Option SV)
noncomputable def FzL(K:SU)(H:Hp)(a:W3)(vs:List V):Prop:=(∃ o,H a=some (.frz o (.lst vs)))\/
 ∃(o:Obj) (its:Array Vz) (n:Nat),K.lookup a=some o/\o.cls = .type "list"/\o.dict=none/\o.data = .seq its n/\its.size<=W6/\Vals vs its.toList
theorem FzL.sq{K:SU}{H:Hp}{a:W3}{vs:List V}(h:FzL K H a vs):SqL K H a vs:=h.imp (λ⟨o,e⟩ => .inr ⟨o,e⟩) id
mutual
noncomputable def Rl(K:SU)(as:List W3)(H:Hp):V->SV->Prop
 | v,.non=>v = .non
 | v,.bl b=>v = .bl b
 | v,.int i=>v = .int i
 | v,.str x=>v = .str x
 | v,.tup xs=>∃ p vs,v = .ref p/\H p=some (.tup vs)/\RlAll K as H vs xs
 | v,.loc k=>∃ a,as[k]?=some a/\v = .ref a
 | v,.ro xs=>∃ a vs,v = .ref a/\FzL K H a vs/\RlAll K as H vs xs
 | v,.ty t=>v = .ty t.nm
noncomputable def RlAll(K:SU)(as:List W3)(H:Hp):List V->List SV->Prop
 | vs,[]=>vs=[]
 | vs,x::xs=>∃ v r,vs=v::r/\Rl K as H v x/\RlAll K as H r xs
end
noncomputable def imm:HO->Bool
 | .tup _=>true
 | .frz _ (.lst _)=>true
 | _=>false
noncomputable def KeepU(H H':Hp):Prop:=∀ b o,H b=some o->imm o=true->H' b=some o
theorem KeepU.refl(H:Hp):KeepU H H:=λ_ _ h _=>h
theorem KeepU.trans{H H' H'':Hp}(a:KeepU H H')(b:KeepU H' H''):KeepU H H'':=λx o h i=>b x o (a x o h i) i
theorem n9{H:Hp}{p:W3}{o:HO}(hp:H p=none):KeepU H (upd H p o):=λb u h _=>by
 rw[f9 (g8 h hp)];exact h
theorem Bd{H:Hp}{a:W3}{u o:HO}(h:H a=some u)(i:imm u=false):KeepU H (upd H a o):=λb v hb iv=>by
 rw[f9 (NZ hb h (by intro z;rw[z,i]at iv;cases iv))];exact hb
theorem FzL.mono{K:SU}{H H':Hp}{a:W3}{vs:List V}(k:KeepU H H')(h:FzL K H a vs):FzL K H' a vs:=h.imp (λ⟨o,e⟩=>⟨o,k _ _ e rfl⟩) id
theorem Dc{α:Type}{as as':List α}(h:as <+: as'){k:Nat}{a:α}(e:as[k]?=some a):as'[k]?=some a:=by
 obtain⟨t,rfl⟩:=h;rw[Sv ((gM e).1)];exact e
mutual
theorem Rl.mono{K:SU}{as as':List W3}{H H':Hp}(ha:as <+: as')(hH:KeepU H H'):∀(x:SV) (v:V),Rl K as H v x->Rl K as' H' v x
 | .non,v,h=>by unfold Rl at h ⊢;exact h
 | .bl _,v,h=>by unfold Rl at h ⊢;exact h
 | .int _,v,h=>by unfold Rl at h ⊢;exact h
 | .str _,v,h=>by unfold Rl at h ⊢;exact h
 | .tup xs,v,h=>by
   unfold Rl at h ⊢;obtain⟨p,vs,e,hp,h⟩:=h;exact⟨p,vs,e,hH p _ hp rfl,RlAll.mono ha hH xs vs h⟩
 | .ro xs,v,h=>by
   unfold Rl at h ⊢;obtain⟨p,vs,e,hp,h⟩:=h;exact⟨p,vs,e,hp.mono hH,RlAll.mono ha hH xs vs h⟩
 | .ty _,v,h=>by unfold Rl at h ⊢;exact h
 | .loc k,v,h=>by
   unfold Rl at h ⊢;obtain⟨a,e,z⟩:=h;exact⟨a,Dc ha e,z⟩
theorem RlAll.mono{K:SU}{as as':List W3}{H H':Hp}(ha:as <+: as')(hH:KeepU H H'):∀(xs:List SV) (vs:List V),RlAll K as H vs xs->RlAll K as' H' vs xs
 | [],vs,h=>by unfold RlAll at h ⊢;exact h
 | x::xs,vs,h=>by
   unfold RlAll at h ⊢;obtain⟨v,r,e,h1,h2⟩:=h;exact⟨v,r,e,Rl.mono ha hH x v h1,RlAll.mono ha hH xs r h2⟩
end
section
variable{K:SU}{as:List W3}{H:Hp}
theorem rl_non{v:V}:Rl K as H v .non↔v = .non:=by unfold Rl;exact Iff.rfl
theorem rl_bl{v:V}{b:Bool}:Rl K as H v (.bl b)↔v = .bl b:=by unfold Rl;exact Iff.rfl
theorem rl_int{v:V}{i:Int}:Rl K as H v (.int i)↔v = .int i:=by unfold Rl;exact Iff.rfl
theorem rl_str{v:V}{x:Str}:Rl K as H v (.str x)↔v = .str x:=by unfold Rl;exact Iff.rfl
theorem rl_tup{v:V}{xs:List SV}:Rl K as H v (.tup xs)↔∃ p vs,v = .ref p/\H p=some (.tup vs)/\RlAll K as H vs xs:=by rw[Rl]
theorem rl_loc{v:V}{k:Nat}:Rl K as H v (.loc k)↔∃ a,as[k]?=some a/\v = .ref a:=by unfold Rl;exact Iff.rfl
theorem rl_ro{v:V}{xs:List SV}:Rl K as H v (.ro xs)↔∃ a vs,v = .ref a/\FzL K H a vs/\RlAll K as H vs xs:=by rw[Rl]
theorem rl_ty{v:V}{n:TyN}:Rl K as H v (.ty n)↔v = .ty n.nm:=by unfold Rl;exact Iff.rfl
theorem rla_nil{vs:List V}:RlAll K as H vs []↔vs=[]:=by unfold RlAll;exact Iff.rfl
theorem rla_cons{vs:List V}{x:SV}{xs:List SV}:RlAll K as H vs (x::xs)↔∃ v r,vs=v::r/\Rl K as H v x/\RlAll K as H r xs:=by rw[RlAll]
theorem RlAll.nil:RlAll K as H [] []:=rla_nil.mpr rfl
theorem RlAll.cons{v:V}{x:SV}{vs:List V}{xs:List SV}(h:Rl K as H v x)(t:RlAll K as H vs xs):RlAll K as H (v::vs) (x::xs):=rla_cons.mpr ⟨v,vs,rfl,h,t⟩
theorem RlAll.length:∀{xs:List SV} {vs:List V},RlAll K as H vs xs->vs.length=xs.length
 | [],_,h=>by rw[rla_nil.mp h];rfl
 | x::xs,_,h=>by
   obtain⟨v,r,rfl,_,t⟩:=rla_cons.mp h;simp[t.length]
theorem RlAll.get:∀{xs:List SV} {vs:List V} {i:Nat} {x:SV},RlAll K as H vs xs->xs[i]?=some x->∃ v,vs[i]?=some v/\Rl K as H v x
 | [],_,i,_,_,e=>by simp at e
 | y::xs,_,0,_,h,e=>by
   obtain⟨v,r,rfl,a,_⟩:=rla_cons.mp h;simp at e;subst e;exact⟨v,rfl,a⟩
 | y::xs,_,i+1,_,h,e=>by
   obtain⟨v,r,rfl,_,t⟩:=rla_cons.mp h;simpa using t.get (by simpa using e)
theorem RlAll.get'{xs:List SV}{vs:List V}{i:Nat}{v:V}(h:RlAll K as H vs xs)(e:vs[i]?=some v):∃ x,xs[i]?=some x/\Rl K as H v x:=by
 have hl:i<xs.length:=by rw[<-h.length];exact(gM e).1
 obtain⟨v',e',r⟩:=h.get (Se hl);rw[e]at e';cases e';exact⟨_,Se hl,r⟩
theorem RlAll.append:∀{xs ys:List SV} {vs us:List V},RlAll K as H vs xs->RlAll K as H us ys->RlAll K as H (vs++us) (xs++ys)
 | [],_,_,_,h,h'=>by rw[rla_nil.mp h];exact h'
 | x::xs,_,_,_,h,h'=>by
   obtain⟨v,r,rfl,a,t⟩:=rla_cons.mp h;exact .cons a (t.append h')
theorem RlAll.take:∀{xs:List SV} {vs:List V} (n:Nat),RlAll K as H vs xs->RlAll K as H (vs.take n) (xs.take n)
 | _,_,0,_=>by simpa using RlAll.nil
 | [],_,n+1,h=>by rw[rla_nil.mp h];exact .nil
 | x::xs,_,n+1,h=>by
   obtain⟨v,r,rfl,a,t⟩:=rla_cons.mp h;exact .cons a (t.take n)
theorem RlAll.drop:∀{xs:List SV} {vs:List V} (n:Nat),RlAll K as H vs xs->RlAll K as H (vs.drop n) (xs.drop n)
 | _,_,0,h=>h
 | [],_,n+1,h=>by rw[rla_nil.mp h];exact .nil
 | x::xs,_,n+1,h=>by
   obtain⟨v,r,rfl,a,t⟩:=rla_cons.mp h;exact t.drop n
theorem RlAll.set{x:SV}{v:V}(hx:Rl K as H v x):∀{xs:List SV} {vs:List V} (n:Nat),RlAll K as H vs xs->RlAll K as H (vs.set n v) (xs.set n x)
 | [],_,n,h=>by rw[rla_nil.mp h];exact .nil
 | y::xs,_,0,h=>by
   obtain⟨_,r,rfl,_,t⟩:=rla_cons.mp h;exact .cons hx t
 | y::xs,_,n+1,h=>by
   obtain⟨_,r,rfl,a,t⟩:=rla_cons.mp h;exact .cons a (t.set hx n)
theorem RlAll.ins{x:SV}{v:V}(hx:Rl K as H v x){xs:List SV}{vs:List V}(h:RlAll K as H vs xs)(n:Nat):RlAll K as H (vs.take n++v::vs.drop n) (xs.take n++x::xs.drop n):=(h.take n).append (.cons hx (h.drop n))
theorem RlAll.ints{is:List Int}:RlAll K as H (is.map V.int) (is.map SV.int):=by
 induction is with
 | nil=>exact .nil
 | cons i is ih=>exact .cons (rl_int.mpr rfl) ih
end
noncomputable def RlD(K:SU)(as:List W3)(H:Hp):List (Key×V)->List (Int×SV)->Prop
 | ks,[]=>ks=[]
 | ks,p::r=>∃ v t,ks=(.inl p.1,v)::t/\Rl K as H v p.2/\RlD K as H t r
theorem RlD.mono{K:SU}{as as':List W3}{H H':Hp}(ha:as <+: as')(hH:KeepU H H'):∀(kvs:List (Int×SV)) (ks:List (Key×V)),RlD K as H ks kvs->RlD K as' H' ks kvs
 | [],_,h=>h
 | p::r,_,⟨v,t,e,h1,h2⟩=>⟨v,t,e,Rl.mono ha hH p.2 v h1,RlD.mono ha hH r t h2⟩
noncomputable def RlT(K:SU)(as:List W3)(H:Hp):List (List Key×V)->List (List Int×SV)->Prop
 | us,[]=>us=[]
 | us,p::r=>∃ v t,us=(p.1.map Sum.inl,v)::t/\Rl K as H v p.2/\RlT K as H t r
theorem RlT.mono{K:SU}{as as':List W3}{H H':Hp}(ha:as <+: as')(hH:KeepU H H'):∀(kvs:List (List Int×SV)) (us:List (List Key×V)),RlT K as H us kvs->RlT K as' H' us kvs
 | [],_,h=>h
 | p::r,_,⟨v,t,e,h1,h2⟩=>⟨v,t,e,Rl.mono ha hH p.2 v h1,RlT.mono ha hH r t h2⟩
noncomputable def dtV(kvs:List ((Int×Int)×Int)):List (List Key×V):=kvs.map λp=>([.inl p.1.1,.inl p.1.2],V.int p.2)
noncomputable def RlO(K:SU)(as:List W3)(H:Hp)(a:W3):SO->Prop
 | .lst xs=>∃ vs,H a=some (.lst vs)/\RlAll K as H vs xs
 | .iset ms=>∃ F,H a=some (.set F ms.length)/\∀ k,F k=decide (k∈ms)
 | .dtp kvs=>H a=some (.dT (dtV kvs))
 | .dtl kvs=>∃ us,H a=some (.dT us)/\RlT K as H us kvs
 | .dtf o us kvs=>H a=some (.frz o (.dT us))/\RlT K as H us kvs
 | .dct kvs=>∃ ks,H a=some (.dK ks)/\RlD K as H ks kvs
 | .dcf o ks kvs=>H a=some (.frz o (.dK ks))/\RlD K as H ks kvs
structure Ok(K:SU)(as:List W3)(H:Hp)(S:Sto):Prop where
 len:as.length=S.length
 nd:as.Nodup
 obj:∀(k:Nat) (o:SO) (a:W3),S[k]?=some o->as[k]?=some a->RlO K as H a o
noncomputable def EnvOk(K:SU)(as:List W3)(H:Hp)(σ:St)(ρ:EnvS):Prop:=σ.length=ρ.length/\∀(i:Nat) (x:SV),ρ[i]?=some (some x)->∃ v,σ[i]?=some (some v)/\Rl K as H v x
theorem EnvOk.mono{K:SU}{as as':List W3}{H H':Hp}{σ:St}{ρ:EnvS}(h:EnvOk K as H σ ρ)(ha:as <+: as')(hH:KeepU H H'):EnvOk K as' H' σ ρ:=⟨h.1,λi x e=>let ⟨v,a,b⟩:=h.2 i x e;⟨v,a,Rl.mono ha hH x v b⟩⟩
theorem EnvOk.set{K:SU}{as:List W3}{H:Hp}{σ:St}{ρ:EnvS}(h:EnvOk K as H σ ρ){i:Nat}{v:V}{x:SV}(hx:Rl K as H v x):EnvOk K as H (σ.set i (some v)) (ρ.set i (some x)):=⟨by rw[Ti,Ti];exact h.1,λj y e=>by
 by_cases hij:i=j
 ·subst hij;have hi:i<ρ.length:=by have:=(gM e).1;rwa [Ti]at this
  rw[TQ hi]at e;rw[TQ (by rw[h.1];exact hi)];cases e;exact⟨v,rfl,hx⟩
 ·rw[Tz hij]at e ⊢;exact h.2 j y e⟩
section
variable{K:SU}{as:List W3}{H:Hp}{S:Sto}
theorem RlO.mono{as':List W3}{H':Hp}{a:W3}(ha:as <+: as')(hH:KeepU H H')(e:∀ u,H a=some u->H' a=some u):∀{o:SO},RlO K as H a o->RlO K as' H' a o
 | .lst xs,⟨vs,h1,h2⟩=>⟨vs,e _ h1,RlAll.mono ha hH xs vs h2⟩
 | .iset ms,⟨F,h1,h2⟩=>⟨F,e _ h1,h2⟩
 | .dtp kvs,h1=>e _ h1
 | .dtl kvs,⟨us,h1,h2⟩=>⟨us,e _ h1,RlT.mono ha hH kvs us h2⟩
 | .dtf _ us kvs,⟨h1,h2⟩=>⟨e _ h1,RlT.mono ha hH kvs us h2⟩
 | .dct kvs,⟨ks,h1,h2⟩=>⟨ks,e _ h1,RlD.mono ha hH kvs ks h2⟩
 | .dcf _ ks kvs,⟨h1,h2⟩=>⟨e _ h1,RlD.mono ha hH kvs ks h2⟩
theorem RlO.some{a:W3}:∀{o:SO},RlO K as H a o->∃ u,H a=some u/\imm u=false
 | .lst _,⟨_,h,_⟩=>⟨_,h,rfl⟩
 | .iset _,⟨_,h,_⟩=>⟨_,h,rfl⟩
 | .dtp _,h=>⟨_,h,rfl⟩
 | .dtl _,⟨_,h,_⟩=>⟨_,h,rfl⟩
 | .dtf _ _ _,⟨h,_⟩=>⟨_,h,rfl⟩
 | .dct _,⟨_,h,_⟩=>⟨_,h,rfl⟩
 | .dcf _ _ _,⟨h,_⟩=>⟨_,h,rfl⟩
theorem Ok.at(h:Ok K as H S){k:Nat}{o:SO}(e:S[k]?=some o):∃ a,as[k]?=some a/\RlO K as H a o:=by
 have hk:k<as.length:=by rw[h.len];exact(gM e).1
 exact⟨as[k],Se hk,h.obj k o _ e (Se hk)⟩
theorem Ok.of(h:Ok K as H S){k:Nat}{a:W3}(e:as[k]?=some a):∃ o,S[k]?=some o/\RlO K as H a o:=by
 have hk:k<S.length:=by rw[<-h.len];exact(gM e).1
 exact⟨S[k],Se hk,h.obj k _ a (Se hk) e⟩
theorem Ok.new(h:Ok K as H S){p:W3}{o:HO}(hp:H p=none):Ok K as (upd H p o) S:=⟨h.len,h.nd,λk u a e ea=>by
 have r:=h.obj k u a e ea;obtain⟨z,hz,_⟩:=r.some;exact r.mono (TN as) (n9 hp) λvs hv=>by rw[f9 (g8 hz hp)];exact hv⟩
theorem Ok.free(h:Ok K as H S){p:W3}(hp:H p=none):p∉as:=λhm=>by
 obtain⟨k,hk⟩:=Tp hm;obtain⟨o,_,r⟩:=h.of hk;obtain⟨z,hz,_⟩:=r.some;rw[hp]at hz;cases hz
theorem Ok.pushO(h:Ok K as H S){p:W3}(hp:H p=none){u:HO}{x:SO}(r:RlO K (as++[p]) (upd H p u) p x):Ok K (as++[p]) (upd H p u) (S++[x]):=by
 have pre:as <+: as++[p]:=UL _ _;refine⟨by rw[SY,SY,h.len];rfl,?_,λk o a e ea=>?_⟩
 ·rw[UQ];refine⟨h.nd,by simp,λa ha b hb=>?_⟩;rw[Sg.mp hb];intro z;subst z;exact h.free hp ha
 ·by_cases hk:k<S.length
  ·rw[Sv hk]at e;rw[Sv (by rw[h.len];exact hk)]at ea;exact((h.new (o:=u) hp).obj k o a e ea).mono pre (KeepU.refl _) λ_ z=>z
  ·have hk':k=S.length:=by
    have:=(gM e).1;rw[SY,TK]at this;omega
   subst hk';rw[TF]at e;rw[<-h.len,TF]at ea;cases e;cases ea;exact r
theorem Ok.push(h:Ok K as H S){p:W3}(hp:H p=none){vs:List V}{xs:List SV}(r:RlAll K as H vs xs):Ok K (as++[p]) (upd H p (.lst vs)) (S++[.lst xs]):=h.pushO hp ⟨vs,k8,RlAll.mono (UL _ _) (n9 hp) xs vs r⟩
theorem Ok.writeO(h:Ok K as H S){k:Nat}{a:W3}{y x:SO}{u:HO}(e:S[k]?=some y)(ea:as[k]?=some a)(r:KeepU H (upd H a u)->RlO K as (upd H a u) a x):Ok K as (upd H a u) (S.set k x)/\KeepU H (upd H a u):=by
 obtain⟨z,h1,iz⟩:=(h.obj k _ a e ea).some;have ku:KeepU H (upd H a u):=Bd h1 iz;refine⟨⟨by rw[Ti];exact h.len,h.nd,λj o b eo eb=>?_⟩,ku⟩;by_cases hj:k=j
 ·subst hj;rw[TQ ((gM e).1)]at eo;rw[ea]at eb;cases eo;cases eb;exact r ku
 ·rw[Tz hj]at eo
  have hab:b≠a:=λz=>by
   subst z;exact hj ((List.getElem?_inj ((gM ea).1) h.nd).mp (ea.trans eb.symm))
  exact(h.obj j o b eo eb).mono (TN as) ku λws hw=>by rw[f9 hab];exact hw
theorem Ok.write(h:Ok K as H S){k:Nat}{a:W3}{ys xs:List SV}{vs:List V}(e:S[k]?=some (.lst ys))(ea:as[k]?=some a)(r:RlAll K as H vs xs):Ok K as (upd H a (.lst vs)) (S.set k (.lst xs))/\KeepU H (upd H a (.lst vs)):=h.writeO e ea λku=>⟨vs,k8,RlAll.mono (TN as) ku xs vs r⟩
end
structure Go(as:List W3)(H:Hp)(as':List W3)(H':Hp):Prop where
 pre:as <+: as'
 keep:∀ b o,H b=some o->b∉as->H' b=some o/\b∉as'
theorem Go.refl(as:List W3)(H:Hp):Go as H as H:=⟨TN _,λ_ _ h n=>⟨h,n⟩⟩
theorem Go.trans{as as1 as2:List W3}{H H1 H2:Hp}(a:Go as H as1 H1)(b:Go as1 H1 as2 H2):Go as H as2 H2:=⟨a.pre.trans b.pre,λx o h n=>let ⟨h1,n1⟩:=a.keep x o h n;b.keep x o h1 n1⟩
theorem Go.new{as:List W3}{H:Hp}{p:W3}{o:HO}(hp:H p=none):Go as H as (upd H p o):=⟨TN _,λb u h n=>⟨by rw[f9 (g8 h hp)];exact h,n⟩⟩
theorem Go.push{as:List W3}{H:Hp}{p:W3}{o:HO}(hp:H p=none):Go as H (as++[p]) (upd H p o):=⟨UL _ _,λb u h n=>⟨by rw[f9 (g8 h hp)];exact h,by
 rw[Sw,Sg];rintro(z | z)
 ·exact n z
 ·exact g8 h hp z⟩⟩
theorem Go.write{as:List W3}{H:Hp}{a:W3}{o:HO}(ha:a∈as):Go as H as (upd H a o):=⟨TN _,λb u h n=>⟨by rw[f9 (λz=>n (by rw[z];exact ha))];exact h,n⟩⟩
section
variable{K:SU}{as as':List W3}{H H':Hp}{S:Sto}
theorem Ok.away(h:Ok K as H S){b:W3}{o:HO}(e:H b=some o)(i:imm o=true):b∉as:=λhm=>by
 obtain⟨k,hk⟩:=Tp hm;obtain⟨_,_,r⟩:=h.of hk;obtain⟨z,hz,iz⟩:=r.some;rw[e]at hz;cases hz;rw[i]at iz;cases iz
theorem Go.ku(g:Go as H as' H')(ok:Ok K as H S):KeepU H H':=λb o h i=>(g.keep b o h (ok.away h i)).1
theorem Ok.other(h:Ok K as H S){b:W3}{vs us:List V}(hb:H b=some (.lst vs))(n:b∉as):Ok K as (upd H b (.lst us)) S:=⟨h.len,h.nd,λk o a e ea=>(h.obj k o a e ea).mono (TN as) (Bd hb rfl) λws hw=>by
 rw[f9 (λz=>n (by rw[<-z];exact Sh ea))];exact hw⟩
end
end Rf
namespace L2
open PySem PySem.Spec PyProof.Rows
section
variable{κ:Type}[DecidableEq κ]
noncomputable def v4(kvs:List (κ×V))(k:κ):Option V:=(kvs.find? λkv=>decide (kv.1=k)).map (·.2)
noncomputable def B1(kvs:List (κ×V))(k:κ)(v:V):List (κ×V):=
 if (kvs.any λkv=>decide (kv.1=k))=true then kvs.map (λkv=>if kv.1=k then (kv.1,v) else kv) else kvs++[(k,v)]
theorem Ag{p:κ×V}{r:List (κ×V)}{k:κ}(e:p.1=k):v4 (p::r) k=some p.2:=by simp[v4,TZ,e]
theorem Ai{p:κ×V}{r:List (κ×V)}{k:κ}(e:¬ p.1=k):v4 (p::r) k=v4 r k:=by simp[v4,TZ,e]
theorem CD(k:κ):∀ kvs:List (κ×V),(kvs.any λkv=>decide (kv.1=k))=(v4 kvs k).isSome
 | []=>rfl
 | p::r=>by
   rw[Tx];by_cases e:p.1=k
   ·simp only[Ag e,decide_eq_true e,Bool.true_or,VI]
   ·rw[Ai e,decide_eq_false e,Vo];exact CD k r
theorem ES(kvs:List (κ×V))(k:κ)(v:V):(B1 kvs k v).length<=kvs.length+1:=by
 unfold B1;split
 ·rw[SX];omega
 ·rw[SY,TM,U4];omega
theorem Jm{kvs:List (κ×V)}{k:κ}(v:V)(h:v4 kvs k=none):B1 kvs k v=kvs++[(k,v)]:=by
 unfold B1;rw[CD,h];exact iG (by decide)
theorem RelO.isSome_eq{o:Option V}{u:Option Vz}(r:RelO o u):o.isSome=u.isSome:=by
 cases o with
 | none=>cases u with
   | none=>rfl
   | some _=>exact(show False from r).elim
 | some _=>cases u with
   | none=>exact(show False from r).elim
   | some _=>rfl
theorem RelO.getD{o:Option V}{u:Option Vz}{d:V}{d':Vz}(r:RelO o u)(rd:RelV d d'):RelV (o.getD d) (u.getD d'):=by
 cases o with
 | none=>cases u with
   | none=>exact rd
   | some _=>exact(show False from r).elim
 | some _=>cases u with
   | none=>exact(show False from r).elim
   | some _=>exact r
theorem KV.val{kvs:List (κ×V)}{vs:List (κ×Vz)}(r:KV kvs vs)(k:κ):RelO (v4 kvs k) (valueAt vs k):=by
 unfold KV at r
 induction r with
 | nil=>exact True.intro
 | @cons p q ps qs h t ih=>
   obtain⟨h1,h2⟩:=h;by_cases e:p.1=k
   ·have e':q.1=k:=h1.symm.trans e;have b:valueAt (q::qs) k=some q.2:=by simp[valueAt,TZ,e']
    rw[Ag e,b];exact h2
   ·have e':¬ q.1=k:=λz=>e (h1.trans z);have b:valueAt (q::qs) k=valueAt qs k:=by simp[valueAt,TZ,e']
    rw[Ai e,b];exact ih
theorem KV.any{kvs:List (κ×V)}{vs:List (κ×Vz)}(r:KV kvs vs)(k:κ):(kvs.any λkv=>decide (kv.1=k))=vs.any λkv=>decide (kv.1=k):=by
 unfold KV at r
 induction r with
 | nil=>rfl
 | cons h t ih=>rw[Tx,Tx,ih,h.1]
theorem KV.repl{kvs:List (κ×V)}{vs:List (κ×Vz)}(r:KV kvs vs)(k:κ){y:V}{u:Vz}(ry:RelV y u):
 KV (kvs.map λkv=>if kv.1=k then (kv.1,y) else kv) (vs.map λkv=>if kv.1=k then (kv.1,u) else kv):=by
 unfold KV at r ⊢
 induction r with
 | nil=>exact .nil
 | @cons p q ps qs h t ih=>
   rw[TU,TU];refine .cons ?_ ih;obtain⟨h1,h2⟩:=h;by_cases e:p.1=k
   ·rw[iP e,iP (h1.symm.trans e)];exact⟨h1,ry⟩
   ·rw[iG e,iG (λz=>e (h1.trans z))];exact⟨h1,h2⟩
theorem KV.put{kvs:List (κ×V)}{vs:List (κ×Vz)}(r:KV kvs vs)(k:κ){y:V}{u:Vz}(ry:RelV y u):KV (B1 kvs k y) (stored vs k u):=by
 unfold B1 stored;rw[r.any k];by_cases e:(vs.any λkv=>decide (kv.1=k))=true
 ·rw[iP e,iP e];exact r.repl k ry
 ·rw[iG e,iG e];exact Paired.snoc r ⟨rfl,ry⟩
theorem KV.keys{kvs:List (κ×V)}{vs:List (κ×Vz)}(r:KV kvs vs):kvs.map (·.1)=vs.map (·.1):=by
 unfold KV at r
 induction r with
 | nil=>rfl
 | cons h t ih=>rw[TU,TU,ih,h.1]
theorem KV.length{kvs:List (κ×V)}{vs:List (κ×Vz)}(r:KV kvs vs):kvs.length=vs.length:=Paired.length r
end
theorem Qy{P:W8}{w:WC}{k:Key}{u:Vz}(r:RelV (kV k) u):(m9 P w).is k u=true:=by
 cases k with
 | inl i=>obtain⟨t,e⟩:=(show ∃ t,u=Value.int i t from r);subst e;exact EF P w i t
 | inr x=>obtain⟨t,e⟩:=(show ∃ t,u=Value.str x t from r);subst e;exact EG P w x t
theorem D9{P:W8}{w:WC}:∀{ks:List Key} {us:List Vz},Vals (ks.map kV) us->ItemsAre (m9 P w) ks us
 | [],_,r=>by rw[Vs]at r;cases r;exact .nil
 | k::ks,_,r=>by
   rw[TU]at r;cases r with
   | cons h t=>exact .cons (Qy h) (D9 t)
noncomputable abbrev KT(H:Hp):List (List Key×V)->List (List Key×W3×Vz)->Prop:=Paired λp q=>p.1=q.1/\H q.2.1=some (.tup (p.1.map kV))/\RelV p.2 q.2.2
theorem KT.val{H:Hp}{kvs:List (List Key×V)}{xs:List (List Key×W3×Vz)}(r:KT H kvs xs)(k:List Key):RelO (v4 kvs k) ((atKey xs k).map (·.2)):=by
 induction r with
 | nil=>exact True.intro
 | @cons p q ps qs h t ih=>
   obtain⟨h1,_,h2⟩:=h;by_cases e:p.1=k
   ·have e':q.1=k:=h1.symm.trans e;have b:atKey (q::qs) k=some q.2:=by simp[atKey,TZ,e']
    rw[Ag e,b];exact h2
   ·have e':¬ q.1=k:=λz=>e (h1.trans z);have b:atKey (q::qs) k=atKey qs k:=by simp[atKey,TZ,e']
    rw[Ai e,b];exact ih
theorem KT.repl{H:Hp}{kvs:List (List Key×V)}{xs:List (List Key×W3×Vz)}(r:KT H kvs xs)(k:List Key){y:V}{u:Vz}(ry:RelV y u):
 KT H (kvs.map λkv=>if kv.1=k then (kv.1,y) else kv) (xs.map (putAt k u)):=by
 induction r with
 | nil=>exact .nil
 | @cons p q ps qs h t ih=>
   rw[TU,TU];refine .cons ?_ ih;obtain⟨h1,h2,h3⟩:=h;unfold putAt;by_cases e:p.1=k
   ·rw[iP e,iP (h1.symm.trans e)];exact⟨h1,h2,ry⟩
   ·rw[iG e,iG (λz=>e (h1.trans z))];exact⟨h1,h2,h3⟩
theorem KT.put{H:Hp}{kvs:List (List Key×V)}{xs:List (List Key×W3×Vz)}(r:KT H kvs xs)(k:List Key){b:W3}{y:V}{u:Vz}(hb:H b=some (.tup (k.map kV)))(ry:RelV y u):
 KT H (B1 kvs k y) (storedH xs k b u):=by
 have e:(kvs.any λkv=>decide (kv.1=k))=(atKey xs k).isSome:=by
  rw[CD,(r.val k).isSome_eq,Option.isSome_map]
 unfold B1 storedH;rw[e];by_cases q:(atKey xs k).isSome=true
 ·rw[iP q,iP q];exact r.repl k ry
 ·rw[iG q,iG q];exact Paired.snoc r ⟨rfl,hb,ry⟩
theorem KT.keeps{H H':Hp}{kvs:List (List Key×V)}{xs:List (List Key×W3×Vz)}(r:KT H kvs xs)(ht:∀ b ys,H b=some (.tup ys)->H' b=some (.tup ys)):KT H' kvs xs:=
 Paired.mapP r λ_ _ z=>⟨z.1,ht _ _ z.2.1,z.2.2⟩
section
variable{P:W8}{w:WC}{H:Hp}{h:Heap}{a:W3}
theorem Nj{u:HO}(ok:HOk P w H h)(e:Rd H a u):ObjOk P w H h a u:=e.ok ok
theorem Qz{kvs:List (Key×V)}(ok:HOk P w H h)(e:Rd H a (.dK kvs)):kvs.length<=W6/\(a == We)=false/\∃ vs,KV kvs vs/\h.DictOf (m9 P w) a vs:=
 show ObjOk P w H h a (.dK kvs) from Nj ok e
theorem Jn{ks:List Key}(ok:HOk P w H h)(e:H a=some (.tup (ks.map kV))):(XC (m9 P w)).is h ks a:=by
 obtain⟨_,its,r,o,h1,h2,n,h3⟩:=(show ObjOk P w H h a (.tup (ks.map kV)) from ok a _ e)
 exact⟨o,its.toArray,n,h1,h2,h3,by simpa using D9 r⟩
theorem Nk{kvs:List (List Key×V)}(ok:HOk P w H h)(e:Rd H a (.dT kvs)):kvs.length<=W6/\(a == We)=false/\
 ∃ xs,KT H kvs xs/\h.DictOfH (XC (m9 P w)) a xs:=by
 obtain⟨z,y,xs,r,o,es,ep,h1,h2,h3,h4,h5⟩:=(show ObjOk P w H h a (.dT kvs) from Nj ok e)
 refine⟨z,y,xs,r,o,es,ep,h1,h2,h3,h4,λx hx=>?_,h5⟩
 have all:∀{l:List (List Key×V)} {m:List (List Key×W3×Vz)},KT H l m->∀ x∈m,(XC (m9 P w)).is h x.1 x.2.1:=by
  intro l m q
  induction q with
  | nil=>intro x hx;exact nomatch hx
  | @cons p q ps qs hq t ih=>
    intro x hx;rcases Sm.mp hx with e | hx
    ·subst e;exact Jn ok (by rw[<-hq.1];exact hq.2.1)
    ·exact ih x hx
 exact all r x hx
theorem R0{kvs:List (List Key×V)}(ok:HOk P w H h)(e:H a=some (.dT kvs)):kvs.length<=W6/\(a == We)=false/\
 ∃ xs,KT H kvs xs/\h.DictOfH (XC (m9 P w)) a xs:=Nk ok (.inl e)
end
noncomputable def DGet(H:Hp)(a:W3)(y:V)(r:Option V):Prop:=
 (∃ kvs k,Rd H a (.dK kvs)/\y=kV k/\r=v4 kvs k)\/∃ kvs k b,Rd H a (.dT kvs)/\y = .ref b/\H b=some (.tup (k.map kV))/\r=v4 kvs k
noncomputable def DPut(H:Hp)(a:W3)(y v:V)(H':Hp):Prop:=
 (∃ kvs k,H a=some (.dK kvs)/\y=kV k/\kvs.length<W6/\H'=upd H a (.dK (B1 kvs k v)))\/
 ∃ kvs k b,H a=some (.dT kvs)/\y = .ref b/\H b=some (.tup (k.map kV))/\kvs.length<W6/\H'=upd H a (.dT (B1 kvs k v))
theorem DGet.k{H:Hp}{a:W3}{kvs:List (Key×V)}{k:Key}(e:H a=some (.dK kvs)):DGet H a (kV k) (v4 kvs k) := .inl ⟨kvs,k,.inl e,rfl,rfl⟩
theorem DGet.t{H:Hp}{a b:W3}{kvs:List (List Key×V)}{k:List Key}(e:H a=some (.dT kvs))(eb:H b=some (.tup (k.map kV))):DGet H a (.ref b) (v4 kvs k) := .inr ⟨kvs,k,b,.inl e,rfl,eb,rfl⟩
theorem DPut.k{H:Hp}{a:W3}{kvs:List (Key×V)}{k:Key}{v:V}(e:H a=some (.dK kvs))(hl:kvs.length<W6):DPut H a (kV k) v (upd H a (.dK (B1 kvs k v))) := .inl ⟨kvs,k,e,rfl,hl,rfl⟩
theorem DPut.t{H:Hp}{a b:W3}{kvs:List (List Key×V)}{k:List Key}{v:V}(e:H a=some (.dT kvs))(eb:H b=some (.tup (k.map kV)))(hl:kvs.length<W6):
 DPut H a (.ref b) v (upd H a (.dT (B1 kvs k v))) := .inr ⟨kvs,k,b,e,rfl,eb,hl,rfl⟩
section
variable{X:Cx}{pq:List (W3×Obj)}{σ:St}{H:Hp}{s:W4}{a:W3}{y v:V}{u r:Vz}{o:Option V}{A:WH}{E:Vz->W4->Prop}
theorem Inv.big(I:Inv X pq σ H s):We<s.heap.objs.size:=by
 have h:W9<s.heap.objs.size:=(I.mod.glob.keeps I.bk).lt;exact Nat.lt_trans (by decide) h
theorem MD{h':Heap}{t':Nat}{ob:HO}(I:Inv X pq σ H s)(mu:Mut (H a))(hs:Tv a s.heap h')(he:∃ q,h'.get? a=some q)(new:ObjOk X.prog X.w (upd H a ob) h' a ob):
 Inv X pq σ (upd H a ob) {s with heap:=h',toks:=t'}:=
 I.write (x:=a) (e:=a) mu (.inl rfl) (λb q hb z=>(hs.2 b hb).trans z) he new
end
theorem Jo{P:W8}{w:WC}{H:Hp}(h:Heap)(hb:We<h.objs.size):ObjOk P w H (h.push {cls := .type "dict",data := .dict #[]}) h.objs.size (.dT []):=
 ⟨UR _,beq_eq_false_iff_ne.mpr (Ne.symm (Sl hb)),[],.nil,_,#[],0,So _ rfl,⟨rfl,rfl,rfl⟩,rfl,rfl,V6⟩
noncomputable def P6:TE:=λ_ H Q=>∀ p,H p=none->Q (.ref p) (upd H p (.dT []))
section
variable{X:Cx}{pos:Pos}
theorem Jp:PE X (.Dict [] [] pos) P6:=λpq s σ H Q I h=>
 wpAny_Dict_empty ⟨.ref s.heap.objs.size,_,I.laid (a:=s.heap.objs.size) (o := .dT []) (t':=s.toks) (λ_ _ q=>Sa _ q) (Sd _) (Jo s.heap I.big),rfl,h _ (I.hok.fresh (Sd _))⟩
end
structure M2(X:Cx)(o:Expr)(m:Str)(apos:Pos)(e f:Expr)(cpos:Pos):Prop where
 base:X0 o m X.env (eval o X.env)=eval o X.env
 few:((backTo cpos (WG [e,f] X.env)).all (λx=>!x.1)&&(X4 cpos (Wl [] X.env)).all (λx=>x.1.isSome)
  && decide (([e,f]:List Expr).length+([]:List Keyword).length+(if ([]:List Keyword).isEmpty then 0 else 1)<30))=true
 line:(apos.endLine == cpos.line)=true
 trees:backTo cpos (WG [e,f] X.env)=[(false,eval e X.env),(false,eval f X.env)]
noncomputable def IsD(H:Hp)(a:W3):Prop:=(∃ kvs,Rd H a (.dK kvs))\/∃ kvs,Rd H a (.dT kvs)
theorem P7{X:Cx}{pq:List (W3×Obj)}{σ:St}{H:Hp}{s:W4}{a:W3}(I:Inv X pq σ H s)(d:IsD H a):
 s.TypeIs (.ref a) "dict"/\(∀ b,Value.ref a = .ref b->∃ ob,s.heap.get? b=some ob/\ob.dict=none)/\(a == We)=false:=by
 rcases d with⟨kvs,e⟩ | ⟨kvs,e⟩
 ·obtain⟨_,hd,vs,_,dd⟩:=Qz I.hok e;refine⟨dd.typeIs,λb q=>?_,hd⟩;cases q;obtain⟨ob,_,_,h1,h2,_⟩:=dd;exact⟨ob,h1,h2.2.1⟩
 ·obtain⟨_,hd,xs,_,dd⟩:=Nk I.hok e;refine⟨dd.typeIs,λb q=>?_,hd⟩;cases q;obtain⟨ob,_,_,h1,h2,_⟩:=dd;exact⟨ob,h1,h2.2.1⟩
section
variable{X:Cx}
noncomputable def Jq:V->List V->Hp->VK->Prop:=λx vs H Q=>∃(l:W3) (ns:List Int) (n:Int) (j:Nat),x = .ref l/\vs=[.int n]/\H l=some (.lst (ns.map V.int))/\ns[j]?=some n/\(∀ m,m<j->ns[m]?≠some n)/\Q (.int (j:Nat)) H
theorem ET:MtM X "list.index" Jq:=by
 intro pq s σ H x vs v us Q I rx rv h;obtain⟨l,ns,n,j,rfl,rfl,hH,hj,hno,q⟩:=h;cases rx;obtain⟨u,rfl,ru⟩:=rv.one;obtain⟨z,its,k,r,hl,e⟩:=I.lstM hH;have hlen:=hl;rw[SX]at hlen z;have hjl:j<ns.length:=(gM hj).1;have hjs:j<its.toArray.size:=by rw[SZ];omega
 have fl:(ns.map V.int).all l8=true:=Sy.mpr λv hv=>by
  obtain⟨n,_,rfl⟩:=TJ.mp hv;rfl
 have at':∀ m (hm:m<its.toArray.size),eqU (.int n) its.toArray[m]=(ns[m]'(by rw[SZ]at hm;omega) == n):=λm hm=>by
  have hm':m<ns.length:=by rw[SZ]at hm;omega
  obtain⟨u',hu',ru'⟩:=r.get (show(ns.map V.int)[m]?=some (V.int ns[m]) by simp[hm'])
  have e2:its.toArray[m]=u':=by
   have:its[m]?=some its.toArray[m]:=by simp
   rw[hu']at this;exact(oj this).symm
  rw[e2,DX ru' rfl];rfl
 refine Wh F.slot_list_index ⟨_,e,rfl⟩ F.entry_list_index (F.args_list_index_2 _ _)
  (SeqAt.list_indexAt l its.toArray k none #[] u (eqU (.int n)) j hjs ?_ ?_ ?_) ⟨e,?_,?_⟩
 ·have:ns.length<=W6:=z;have h2:=B9;omega
 ·rw[at' j hjs];have:=(gM hj).2;simp[this]
 ·intro m hm hmj;rw[at' m hm];have hm':m<ns.length:=by rw[SZ]at hm;omega
  have:=hno m hmj;simpa[hm'] using this
 ·intro y hy;exact y7 ru rfl r fl y (by simpa using hy)
 ·exact⟨.int (j:Nat),H,I.tok _,⟨_,rfl⟩,q⟩
end
mutual
noncomputable def Dat(H:Hp):V->PyData->Prop
 | x,.none=>x = .non
 | x,.bool b=>x = .bl b
 | x,.int i=>x = .int i
 | x,.str s=>x = .str s
 | x,.list ds=>∃ a xs,x = .ref a/\H a=some (.lst xs)/\DatAll H xs ds
 | x,.tuple ds=>∃ a xs,x = .ref a/\H a=some (.tup xs)/\DatAll H xs ds
 | _,.dict _=>False
noncomputable def DatAll(H:Hp):List V->List PyData->Prop
 | [],[]=>True
 | x::xs,d::ds=>Dat H x d/\DatAll H xs ds
 | [],_::_=>False
 | _::_,[]=>False
end
mutual
theorem Dat.mono{H H':Hp}(k:∀ b o,H b=some o->H' b=some o):∀(x:V) (d:PyData),Dat H x d->Dat H' x d
 | _,.none,h=>by unfold Dat at h ⊢;exact h
 | _,.bool _,h=>by unfold Dat at h ⊢;exact h
 | _,.int _,h=>by unfold Dat at h ⊢;exact h
 | _,.str _,h=>by unfold Dat at h ⊢;exact h
 | x,.list ds,h=>by
   unfold Dat at h ⊢;obtain⟨a,xs,e,h1,h2⟩:=h;exact⟨a,xs,e,k _ _ h1,DatAll.mono k xs ds h2⟩
 | x,.tuple ds,h=>by
   unfold Dat at h ⊢;obtain⟨a,xs,e,h1,h2⟩:=h;exact⟨a,xs,e,k _ _ h1,DatAll.mono k xs ds h2⟩
 | _,.dict _,h=>by unfold Dat at h;exact h.elim
theorem DatAll.mono{H H':Hp}(k:∀ b o,H b=some o->H' b=some o):∀(xs:List V) (ds:List PyData),DatAll H xs ds->DatAll H' xs ds
 | [],[],_=>by unfold DatAll;trivial
 | x::xs,d::ds,h=>by
   unfold DatAll at h ⊢;exact⟨Dat.mono k x d h.1,DatAll.mono k xs ds h.2⟩
 | [],_::_,h=>by unfold DatAll at h;exact h.elim
 | _::_,[],h=>by unfold DatAll at h;exact h.elim
end
theorem DatAll.length{H:Hp}:∀{xs:List V} {ds:List PyData},DatAll H xs ds->xs.length=ds.length
 | [],[],_=>rfl
 | x::xs,d::ds,h=>by unfold DatAll at h;simp[DatAll.length h.2]
 | [],_::_,h=>by unfold DatAll at h;exact h.elim
 | _::_,[],h=>by unfold DatAll at h;exact h.elim
section
variable{X:Cx}{a b:Expr}{ta:TE}{pos:Pos}
theorem IK:OpR X (WJ .IsNot) (λx y H Q=>∃ c d,x = .bl c/\y = .bl d/\Q (.bl (c != d)) H):=by
 intro pq s σ H x y v u Q I rx ry h;obtain⟨c,d,rfl,rfl,q⟩:=h;cases rx;cases ry;exact isnot_bool ⟨.bl (c != d),H,I,rfl,q⟩
end
section
variable{X:Cx}
theorem Jr{prog:W8}{w:WC}{A:WH}{E:Vz->W4->Prop}{s:W4}{t b:W3}{ws:List Vz}{Q:Vz->W4->Prop}(ht:IsTup s.heap t #[])(hb:IsTup s.heap b ws.toArray)(h1:Q (.ref b) s):
 W7 (WB prog w) A (WV .Add (.ref t) (.ref b)) Q E s:=by
 obtain⟨⟨cls,dd,data,sl⟩,ho,hc,n,hd⟩:=id ht;obtain⟨⟨cls2,dd2,data2,sl2⟩,ho2,hc2,n2,hd2⟩:=id hb;simp only at hc hd hc2 hd2;subst hc hd hc2 hd2
 exact Xe ⟨_,ho,rfl⟩ ⟨_,ho2,rfl⟩ XE XX PySem.F.slot_tuple_add PySem.F.entry_tuple_add (PySem.F.args_tuple_add_2 _ _)
  (tuple_addW0 t b #[] ws.toArray n n2 dd dd2 sl sl2 (by simp)) ⟨ho,ho2,h1⟩
noncomputable def Js(K:SU):R2:=λx y H Q=>∃ a b ys,x = .ref a/\y = .ref b/\SqT K H a []/\SqT K H b ys/\Q (.ref b) H
theorem ME:OpR X (WV .Add) (Js X.K):=by
 intro pq s σ H x y v u Q I rx ry h;obtain⟨a,b,ys,rfl,rfl,ha,hb,q⟩:=h;cases rx;cases ry;obtain⟨its,r1,p1,_⟩:=I.tuple ha;obtain⟨its2,r2,p2,_⟩:=I.tuple hb;cases r1;exact Jr p1 p2 ⟨.ref b,H,I,rfl,q⟩
theorem MF:OpR X (WV .Add) (λx y H Q=>JZ X.K x y H Q\/Js X.K x y H Q):=op_catT.or ME
end
section
variable{prog:W8}{w:WC}{A:WH}{E:Vz->W4->Prop}{s:W4}
open HT in
theorem Cr{t sl:W3}{items:Array Vz}{vl vu:Vz}{lo hi:Option Int}{Q:Vz->W4->Prop}(ht:IsTup s.heap t items)(hs:s.heap.IsSliceOf sl vl vu .none)(pl:IsPart vl lo)(pu:IsPart vu hi)
 (hw:sIx items.size 0 lo=0/\sIx items.size items.size hi=items.size) (h:Q (.ref t) s):W7 (WB prog w) A (getItem (.ref t) (.ref sl)) Q E s:=by
 obtain⟨os,hos,hcs,hds⟩:=id hs;have hTs:s.TypeIs (.ref sl) "slice":=⟨os,hos,hcs⟩
 unfold getItem
 try with_reducible refine Wf ?_
 first | refine W0 (W5 ?_) | skip
 refine W0 (Xf ht.typeIs (by decide) ?_)
 refine W0 (WQ (name:=Str.ofString "__getitem__") ht.typeIs PyProof.Rows.slot_tuple_getitem
  (Wi PyProof.Rows.slot_tuple_getitem ht.typeIs XT ?_ (Xa _ _)))
 show W7 _ _ (Builtin.Tuple.tupleItemsOf (.ref t) >>= _) _ _ s;refine W0 (tupleItemsOf_ ht ?_);refine W0 (Xg hTs ?_);rw[iP (by decide)];refine W0 (AJ hs pl pu ?_)
 have hyes:(((sIx items.size 0 lo:Nat):Int) == 0&&(1:Int) == 1&&(sIx items.size items.size hi - sIx items.size 0 lo) == items.size)=true:=by
  rw[hw.1,hw.2];simp
 show W7 _ _ (if (((sIx items.size 0 lo:Nat):Int) == 0&&(1:Int) == 1&&(sIx items.size items.size hi - sIx items.size 0 lo) == items.size)=true then _ else _) _ _ s;rw[iP hyes];unfold Builtin.Tuple.tupleIsExact;refine W0 (W0 (Xg ht.typeIs (W5 ?_)));rw[iP (by decide)];exact W0 (Wq (W5 ⟨_,rfl,W5 h⟩))
end
section
variable{X:Cx}
noncomputable def R1(K:SU):V->Option Int->Option Int->Hp->VK->Prop:=λx lo hi H Q=>∃ a xs,x = .ref a/\SqT K H a xs/\(HT.sIx xs.length 0 lo=0/\HT.sIx xs.length xs.length hi=xs.length)/\Q (.ref a) H
theorem MG:SlR X (R1 X.K):=by
 intro pq s σ H x v vl vu lo hi sl Q I rx hs pl pu h;obtain⟨a,xs,rfl,hx,hw,q⟩:=h;cases rx;obtain⟨its,r,ht,hz⟩:=I.tuple hx;have hlen:its.toArray.size=xs.length:=by rw[SZ];exact r.length.symm
 exact⟨"tuple",_,PyProof.Rows.slot_tuple_getitem.lookup,ht.typeIs,Cr ht hs pl pu (by rw[hlen];exact hw) ⟨.ref a,H,I,rfl,q⟩⟩
end
section
variable{prog:W8}{w:WC}{A:WH}{E:Vz->W4->Prop}{s:W4}
noncomputable def IsPr(h:Heap)(v:Vz)(a b:Int):Prop:=∃ p o n t u,v = .ref p/\h.get? p=some o/\o.cls = .type "tuple"/\o.data = .seq #[.int a t,.int b u] n
theorem IsPr.at{h h':Heap}{v:Vz}{a b:Int}(x:IsPr h v a b)(k:∀ p o,h.get? p=some o->o.cls = .type "tuple"->h'.get? p=some o):IsPr h' v a b:=by
 obtain⟨p,o,n,t1,t2,e,ho,hc,hd⟩:=x;exact⟨p,o,n,t1,t2,e,k p o ho hc,hc,hd⟩
end
noncomputable def Up(xs:Array Nat):Prop:=∀ i j (hi:i<xs.size) (hj:j<xs.size),i<j->xs[i]<xs[j]
structure Tab(w:WC)(t:XH):Prop where
 up:Up t.place
 no:t.dummies=#[]
 led:t.led=!w.params.followText "set-order"
noncomputable def SetX(prog:W8)(w:WC)(h:Heap)(a:W3)(L:List Int):Prop:=
 ∃ o es ep t,h.get? a=some o/\o.ExactSet/\o.data = .set es ep t/\ElemsOf (intKind prog w) es.toList/\es.size<scanBound/\t.fits es.size=true/\Tab w t/\(es.toList.map λe=>numOf e.2).Perm L
section
variable{prog:W8}{w:WC}{A:WH}{E:Vz->W4->Prop}{s:W4}
theorem SetX.keep{h h':Heap}{a:W3}{L:List Int}(x:SetX prog w h a L)(k:∀ o,h.get? a=some o->h'.get? a=some o):SetX prog w h' a L:=by
 obtain⟨o,es,ep,t,ho,r⟩:=x;exact⟨o,es,ep,t,k o ho,r⟩
theorem Gx{k:Int}{v:Vz}(h:(intKind prog w).is k v=true):numOf v=k:=by
 obtain⟨t,rfl⟩:=Value.isInt_shape (k:=k) (v:=v) h;rfl
end
end L2
set_option maxHeartbeats 400000
namespace L2
open PySem PySem.Spec PyProof.Rows
noncomputable def SetAt(w:WC)(h:Heap)(a:W3)(es:Array (Int×Vz))(ep:Nat)(t:XH):Prop:=∃ o,h.get? a=some o/\o.cls = .type "set"/\o.data = .set es ep t/\t.fits es.size=true/\Tab w t
theorem SetAt.keep{w:WC}{h h':Heap}{a:W3}{es:Array (Int×Vz)}{ep:Nat}{t:XH}(x:SetAt w h a es ep t)(k:∀ o,h.get? a=some o->h'.get? a=some o):SetAt w h' a es ep t:=let ⟨o,e,r⟩:=x;⟨o,k o e,r⟩
noncomputable def slotAt(t:XH)(i:Nat):Nat:=if i=0 then 0 else t.place.getD (i - 1) 0+1
inductive Way(w:WC)(h:Heap)(T0 S:W3)(es:Array (Int×Vz))(ep:Nat)(t:XH)(fs:List (Int×Vz))(i:Nat):Vz->Prop where
 | text (hw:w.params.followText "set-order"=true) (hf:fs=(pickOrder (w.params.setOrder S ep) es).toList):Way w h T0 S es ep t fs i (.int 0 0)
 | table (hw:w.params.followText "set-order"=false) (hd:(!t.plain&&decide (es.size>1))=false) (hf:fs=es.toList):Way w h T0 S es ep t fs i (.int (slotAt t i:Nat) 0)
 | drawn (hw:w.params.followText "set-order"=false) (pl:List Nat) (o:Obj) (n:Nat) (ho:h.get? T0=some o) (hd:o.data = .seq (pl.map λk=>Value.int (k:Nat) 0).toArray n) (hl:pl.length=fs.length)
    (hf:∀(k:Nat) p,pl[k]?=some p->es[p]?=fs[k]?):Way w h T0 S es ep t fs i (.ref T0)
noncomputable def Sit(w:WC)(h:Heap)(T0 I S:W3)(es:Array (Int×Vz))(ep:Nat)(t:XH)(fs:List (Int×Vz))(i:Nat):Prop:=
 ∃ o first,h.get? I=some o/\o.cls = .type "set_iterator"/\o.data = .fields #[first,.int (i:Nat) 0,.ref S,.int (es.size:Nat) 0,.int (ep:Nat) 0]/\Way w h T0 S es ep t fs i first
section
variable{prog:W8}{w:WC}{A:WH}{E:Vz->W4->Prop}{s:W4}{T0 I S:W3}{es:Array (Int×Vz)}{ep:Nat}{t:XH}{fs:List (Int×Vz)}{i:Nat}
theorem Sit.typeIs(x:Sit w s.heap T0 I S es ep t fs i):s.TypeIs (.ref I) "set_iterator":=let ⟨o,_,e,c,_⟩:=x;⟨o,e,c⟩
theorem Sit.keep{h h':Heap}(x:Sit w h T0 I S es ep t fs i)(k:∀ b,b=I\/b=T0->∀ o,h.get? b=some o->h'.get? b=some o):Sit w h' T0 I S es ep t fs i:=by
 obtain⟨o,first,ho,hc,hd,W⟩:=x;refine⟨o,first,k I (.inl rfl) _ ho,hc,hd,?_⟩;cases W with
 | text hw hf=>exact .text hw hf
 | table hw hp hf=>exact .table hw hp hf
 | drawn hw pl oT n hoT hdT hl hf=>exact .drawn hw pl oT n (k T0 (.inr rfl) _ hoT) hdT hl hf
end
end L2
set_option maxHeartbeats 800000
namespace L2
open PySem PySem.Spec PyProof.Rows
section
variable{X:Cx}
noncomputable def Rz(ns:List Int):List Int:=firstMet (λi=>ns.getD i 0) ns.length
end
end L2
set_option maxHeartbeats 2000000
namespace L2
open PySem PySem.Spec PyProof.Rows
open PySem.AutoSeq1 (wpAny_loadPart')
open PySem.MeetsSeq PySem.MeetsSeq2 PySem.MeetsSeq3
theorem rcLt_int{prog:W8}{w:WC}{A:WH}{E:Vz->W4->Prop}{s:W4}{a b:Int}{t u:Tok}{Q:Vz->W4->Prop}(h:Q (.bool (decide (a<b))) s):W7 (WB prog w) A (X1 .Lt (.int a t) (.int b u)) Q E s:=by
 exact wpAny_richCompare_same (Wx s a t) (Wx s b u) slot_int_lt (call_int_lt ⟨(λx=>nomatch x),h⟩)
section
variable{prog:W8}{w:WC}{A:WH}{E:Vz->W4->Prop}{s:W4}{a₀:Array Keyed}
structure SBk(κ:SortKind)(a₀:Array Keyed)(st:SortSt):Prop where
 perm:(arrOf st).Perm a₀
 kind:kindOf st=κ
 failed:failedOf st=none
 pend:pendingOf st=#[]
theorem SBk.size{κ:SortKind}{st:SortSt}(h:SBk κ a₀ st):(arrOf st).size=a₀.size:=h.perm.size_eq
variable{κ:SortKind}
end
section
variable{X:Cx}
theorem R3:WD "any"=some (.builtin "any"):=by decide +kernel
theorem IL(hc:X.calm=true):CallR X (.builtin "any") (λxs H Q=>∃(a:W3) (bs:List Bool),xs=[.ref a]/\SqL X.K H a (bs.map V.bl)/\Q (.bl (bs.any id)) H):=by
 intro pq s σ H xs us Q I r h;obtain⟨a,bs,rfl,hq,q⟩:=h;obtain⟨u,rfl,ru⟩:=AI r;cases ru;obtain⟨its,rv,pl,hz⟩:=I.list hq;have hl:=rv.length;rw[SX]at hl;refine call_any_walk (Wd pl.isList ?_);have hlt:a<s.heap.objs.size:=by obtain⟨o,n,e,_⟩:=pl;exact Sb e
 refine⟨s.heap.objs.size,_,_,_,_,_,λi=>bs.getD i false,rfl,Walks.list (by exact I.ok.hd hc) s.heap.objs.size a (Sl hlt) its.toArray,⟨⟨_,So _ rfl,rfl,rfl⟩,pl.isList.push _⟩,?_,λh' tk hk=>?_⟩
 ·intro i v s' Q' E' hv hQ';have hv':its[i]?=some v:=by simpa using hv
  have hi:i<its.length:=(gM hv').1;have hb:(bs.map V.bl)[i]?=some (.bl (bs[i]'(by omega))):=by simp
  obtain⟨u',eu,ru'⟩:=rv.get hb;rw[hv']at eu;cases eu;cases ru';have hg:bs.getD i false=bs[i]'(by omega):=by simp[Th,show i<bs.length by omega]
  have hQ2:Q' (bs.getD i false) s':=hQ';rw[hg]at hQ2;exact WL hQ2
 ·have I1:Inv X pq σ H {s with heap:=h',toks:=tk}:=I.kept λb o e=>hk b o (by simp;exact Sl (Sb e)) (Sa _ e);refine⟨.bl _,H,I1,rfl,?_⟩
  have e:(Sf its.toArray.size).any (λi=>bs.getD i false)=bs.any id:=by
   rw[SZ,<-hl,Tc,UJ,UJ];constructor
   ·rintro⟨j,hj,e⟩;have hj1:j<bs.length:=TC.mp hj;exact⟨bs[j],TY hj1,by simpa[Th,hj1] using e⟩
   ·rintro⟨b,hb,e⟩;obtain⟨j,hj,e2⟩:=US.mp hb;exact⟨j,TC.mpr hj,by simpa[Th,hj,e2] using e⟩
  rw[e];exact q
end
end L2
namespace Rf
open PySem L2
noncomputable abbrev QE:=SV->Sto->Prop
noncomputable abbrev WE:=EnvS->Sto->QE->Prop
noncomputable abbrev WA:=EnvS->Sto->(List SV->Sto->Prop)->Prop
noncomputable abbrev WT:=EnvS->Sto->(Bool->Sto->Prop)->Prop
noncomputable def Post(K:SU)(as:List W3)(H:Hp)(Q:VK):QE:=λx S'=>∀ as' H' v,Go as H as' H'->Ok K as' H' S'->Rl K as' H' v x->Q v H'
noncomputable def R4(K:SU)(as:List W3)(H:Hp)(Q:List V->Hp->Prop):List SV->Sto->Prop:=λxs S'=>∀ as' H' vs,Go as H as' H'->Ok K as' H' S'->RlAll K as' H' vs xs->Q vs H'
noncomputable def PostT(K:SU)(as:List W3)(H:Hp)(Q:Bool->Hp->Prop):Bool->Sto->Prop:=λb S'=>∀ as' H',Go as H as' H'->Ok K as' H' S'->Q b H'
noncomputable def lift(K:SU)(w:WE):TE:=λσ H Q=>∃ as ρ S,Ok K as H S/\EnvOk K as H σ ρ/\w ρ S (Post K as H Q)
noncomputable def liftA(K:SU)(w:WA):TA:=λσ H Q=>∃ as ρ S,Ok K as H S/\EnvOk K as H σ ρ/\w ρ S (R4 K as H Q)
noncomputable def liftT(K:SU)(w:WT):TT:=λσ H Q=>∃ as ρ S,Ok K as H S/\EnvOk K as H σ ρ/\w ρ S (PostT K as H Q)
noncomputable def Mono(w:WE):Prop:=∀ ρ S (P P':QE),(∀ x S',P x S'->P' x S')->w ρ S P->w ρ S P'
noncomputable def MonoA(w:WA):Prop:=∀ ρ S (P P':List SV->Sto->Prop),(∀ x S',P x S'->P' x S')->w ρ S P->w ρ S P'
noncomputable def MonoT(w:WT):Prop:=∀ ρ S (P P':Bool->Sto->Prop),(∀ x S',P x S'->P' x S')->w ρ S P->w ρ S P'
theorem i5{X:Cx}{e:Expr}{t:TE}(t':TE)(h:PE X e t)(imp:∀ σ H Q,t' σ H Q->t σ H Q):PE X e t':=λpq s σ H Q I hw=>h pq s σ H Q I (imp σ H Q hw)
theorem CF{X:Cx}{e:Expr}{t:TT}(t':TT)(h:PT X e t)(imp:∀ σ H Q,t' σ H Q->t σ H Q):PT X e t':=λpq s σ H Q I hw=>h pq s σ H Q I (imp σ H Q hw)
theorem Jt{X:Cx}{e:List Expr}{t:TA}(t':TA)(h:PA X e t)(imp:∀ σ H Q,t' σ H Q->t σ H Q):PA X e t':=λp pq s σ H Q I hw=>h p pq s σ H Q I (imp σ H Q hw)
section
variable{K:SU}{as as1 as2:List W3}{H H1 H2:Hp}
theorem Post.mono{Q:VK}{x:SV}{S:Sto}(h:Post K as H Q x S)(g:Go as H as1 H1):Post K as1 H1 Q x S:=λas' H' v g'=>h as' H' v (g.trans g')
end
noncomputable abbrev S2:=SV->SV->Sto->QE->Prop
noncomputable abbrev S1:=SV->Sto->QE->Prop
noncomputable abbrev Sn:=List SV->Sto->QE->Prop
noncomputable def w2(s:S2)(a b:WE):WE:=λρ S Q=>a ρ S λx S1=>b ρ S1 λy S2=>s x y S2 Q
noncomputable def w1(s:S1)(a:WE):WE:=λρ S Q=>a ρ S λx S1=>s x S1 Q
noncomputable def wn(s:Sn)(a:WA):WE:=λρ S Q=>a ρ S λxs S1=>s xs S1 Q
noncomputable def Mono2(s:S2):Prop:=∀ x y S (P P':QE),(∀ x S',P x S'->P' x S')->s x y S P->s x y S P'
noncomputable def EU(s:S1):Prop:=∀ x S (P P':QE),(∀ x S',P x S'->P' x S')->s x S P->s x S P'
noncomputable def MonoN(s:Sn):Prop:=∀ x S (P P':QE),(∀ x S',P x S'->P' x S')->s x S P->s x S P'
theorem Mono.two{s:S2}{a b:WE}(hs:Mono2 s)(ha:Mono a)(hb:Mono b):Mono (w2 s a b):=λρ S P P' i h=>ha _ _ _ _ (λ_ _ h=>hb _ _ _ _ (λ_ _ h=>hs _ _ _ _ _ i h) h) h
theorem Mono.one{s:S1}{a:WE}(hs:EU s)(ha:Mono a):Mono (w1 s a):=λρ S P P' i h=>ha _ _ _ _ (λ_ _ h=>hs _ _ _ _ i h) h
theorem Mono.n{s:Sn}{a:WA}(hs:MonoN s)(ha:MonoA a):Mono (wn s a):=λρ S P P' i h=>ha _ _ _ _ (λ_ _ h=>hs _ _ _ _ i h) h
noncomputable def B2(K:SU)(s:S2)(r:R2):Prop:=∀ as H S x y v u Q,Ok K as H S->Rl K as H v x->Rl K as H u y->s x y S (Post K as H Q)->r v u H Q
noncomputable def SA(K:SU)(s:S1)(r:V->Hp->VK->Prop):Prop:=∀ as H S x v Q,Ok K as H S->Rl K as H v x->s x S (Post K as H Q)->r v H Q
noncomputable def R5(K:SU)(s:Sn)(r:List V->Hp->VK->Prop):Prop:=∀ as H S xs vs Q,Ok K as H S->RlAll K as H vs xs->s xs S (Post K as H Q)->r vs H Q
theorem Av{K:SU}{s:S2}{r:R2}{wa wb:WE}(sim:B2 K s r)(ms:Mono2 s)(ma:Mono wa)(mb:Mono wb):∀ σ H Q,lift K (w2 s wa wb) σ H Q->tOp r (lift K wa) (lift K wb) σ H Q:=by
 rintro σ H Q ⟨as,ρ,S,ok,en,h⟩;refine⟨as,ρ,S,ok,en,ma _ _ _ _ (λx S1 hb as1 H1 v g1 ok1 rv=>?_) h⟩;refine⟨as1,ρ,S1,ok1,en.mono g1.pre (g1.ku ok),mb _ _ _ _ (λy S2 hs as2 H2 u g2 ok2 ru=>?_) hb⟩;exact sim as2 H2 S2 x y v u Q ok2 (Rl.mono g2.pre (g2.ku ok1) x v rv) ru (ms _ _ _ _ _ (λz S3 hz=>hz.mono (g1.trans g2)) hs)
theorem P8{K:SU}{s:S1}{r:V->Hp->VK->Prop}{wa:WE}(sim:SA K s r)(ms:EU s)(ma:Mono wa):∀ σ H Q,lift K (w1 s wa) σ H Q->tUn r (lift K wa) σ H Q:=by
 rintro σ H Q ⟨as,ρ,S,ok,en,h⟩;refine⟨as,ρ,S,ok,en,ma _ _ _ _ (λx S1 hs as1 H1 v g1 ok1 rv=>?_) h⟩;exact sim as1 H1 S1 x v Q ok1 rv (ms _ _ _ _ (λz S3 hz=>hz.mono g1) hs)
theorem R6{K:SU}{s:Sn}{r:List V->Hp->VK->Prop}{wa:WA}(sim:R5 K s r)(ms:MonoN s)(ma:MonoA wa):∀ σ H Q,lift K (wn s wa) σ H Q->tCB r (liftA K wa) σ H Q:=by
 rintro σ H Q ⟨as,ρ,S,ok,en,h⟩;refine⟨as,ρ,S,ok,en,ma _ _ _ _ (λx S1 hs as1 H1 v g1 ok1 rv=>?_) h⟩;exact sim as1 H1 S1 x v Q ok1 rv (ms _ _ _ _ (λz S3 hz=>hz.mono g1) hs)
noncomputable def DA:WA:=λ_ S Q=>Q [] S
noncomputable def CG(a:WE)(b:WA):WA:=λρ S Q=>a ρ S λx S1=>b ρ S1 λxs S2=>Q (x::xs) S2
theorem MonoA.nil:MonoA DA:=λ_ _ _ _ i h=>i _ _ h
theorem MonoA.cons{a:WE}{b:WA}(ha:Mono a)(hb:MonoA b):MonoA (CG a b):=λ_ _ _ _ i h=>ha _ _ _ _ (λ_ _ h=>hb _ _ _ _ (λ_ _ h=>i _ _ h) h) h
theorem MH{X:Cx}{K:SU}:PA X [] (liftA K DA):=Jt _ AV λσ H Q ⟨as,ρ,S,ok,en,h⟩=>h as H [] (Go.refl _ _) ok .nil
theorem Ju{K:SU}{a:WE}{b:WA}(ma:Mono a)(mb:MonoA b):∀ σ H Q,liftA K (CG a b) σ H Q->C5 (lift K a) (liftA K b) σ H Q:=by
 rintro σ H Q ⟨as,ρ,S,ok,en,h⟩;refine⟨as,ρ,S,ok,en,ma _ _ _ _ (λx S1 hs as1 H1 v g1 ok1 rv=>?_) h⟩;refine⟨as1,ρ,S1,ok1,en.mono g1.pre (g1.ku ok),mb _ _ _ _ (λxs S2 hq as2 H2 vs g2 ok2 rs=>?_) hs⟩;exact hq as2 H2 _ (g1.trans g2) ok2 (.cons (Rl.mono g2.pre (g2.ku ok1) x v rv) rs)
theorem Jv{X:Cx}{K:SU}{e:Expr}{es:List Expr}{a:WE}{b:WA}(ma:Mono a)(mb:MonoA b)(h1:PE X e (lift K a))(h2:PA X es (liftA K b))(hs:WG (e::es) X.env=(false,eval e X.env)::WG es X.env):PA X (e::es) (liftA K (CG a b)):=Jt _ (t5 h1 h2 hs) (Ju ma mb)
noncomputable def P9(i:Nat):WE:=λρ S Q=>∃ x,ρ[i]?=some (some x)/\Q x S
noncomputable def wC(x:SV):WE:=λ_ S Q=>Q x S
theorem Mono.var{i:Nat}:Mono (P9 i):=λ_ _ _ _ i ⟨x,a,b⟩=>⟨x,a,i _ _ b⟩
theorem Mono.c{x:SV}:Mono (wC x):=λ_ _ _ _ i h=>i _ _ h
theorem MI{K:SU}{i:Nat}:∀ σ H Q,lift K (P9 i) σ H Q->EI i σ H Q:=λσ H Q ⟨as,ρ,S,ok,en,x,e,h⟩=>let ⟨v,ev,rv⟩:=en.2 i x e;⟨v,ev,h as H v (Go.refl _ _) ok rv⟩
theorem EV{K:SU}{x:SV}{v:V}(hx:∀ as H,Rl K as H v x):∀ σ H Q,lift K (wC x) σ H Q->tC v σ H Q:=λσ H Q ⟨as,ρ,S,ok,en,h⟩=>h as H v (Go.refl _ _) ok (hx as H)
noncomputable def big:Nat:=100000
theorem u8{n:Nat}(h:n<=big):n<=W6:=TH h (by decide)
theorem Fj{n:Nat}(h:n<big):n<W6:=TB h (by decide)
noncomputable def MJ:Sn:=λxs S Q=>xs.length<=big/\Q (.tup xs) S
noncomputable def MK:Sn:=λxs S Q=>xs.length<=big/\Q (.loc S.length) (S++[.lst xs])
theorem MonoN.tup:MonoN MJ:=λ_ _ _ _ i h=>⟨h.1,i _ _ h.2⟩
theorem MonoN.lst:MonoN MK:=λ_ _ _ _ i h=>⟨h.1,i _ _ h.2⟩
theorem PB{K:SU}{as:List W3}{H:Hp}{S:Sto}{p:W3}(ok:Ok K as H S):Rl K (as++[p]) (upd H p (.lst vs)) (.ref p) (.loc S.length):=rl_loc.mpr ⟨p,by rw[<-ok.len,TF],rfl⟩
theorem AL{K:SU}{as:List W3}{H:Hp}{S:Sto}{Q:VK}{xs:List SV}{vs:List V}(ok:Ok K as H S)(r:RlAll K as H vs xs)(h:Post K as H Q (.loc S.length) (S++[.lst xs])):∀ p,H p=none->Q (.ref p) (upd H p (.lst vs)):=λp hp=>
 h (as++[p]) _ (.ref p) (Go.push hp) (ok.push hp r) (PB ok)
theorem AM{K:SU}{as:List W3}{H:Hp}{S:Sto}{Q:VK}{xs:List SV}{vs:List V}(ok:Ok K as H S)(r:RlAll K as H vs xs)(h:Post K as H Q (.tup xs) S):∀ p,H p=none->Q (.ref p) (upd H p (.tup vs)):=λp hp=>
 h as _ (.ref p) (Go.new hp) (ok.new hp) (rl_tup.mpr ⟨p,vs,rfl,k8,RlAll.mono (TN _) (n9 hp) xs vs r⟩)
theorem ML{K:SU}{wa:WA}(ma:MonoA wa):∀ σ H Q,lift K (wn MJ wa) σ H Q->Qk (liftA K wa) σ H Q:=by
 rintro σ H Q ⟨as,ρ,S,ok,en,h⟩;refine⟨as,ρ,S,ok,en,ma _ _ _ _ (λxs S1 hs as1 H1 vs g1 ok1 rv=>?_) h⟩;exact⟨by rw[rv.length];exact u8 hs.1,AM ok1 rv (hs.2.mono g1)⟩
theorem MM{K:SU}{wa:WA}(ma:MonoA wa):∀ σ H Q,lift K (wn MK wa) σ H Q->Ql (liftA K wa) σ H Q:=by
 rintro σ H Q ⟨as,ρ,S,ok,en,h⟩;refine⟨as,ρ,S,ok,en,ma _ _ _ _ (λxs S1 hs as1 H1 vs g1 ok1 rv=>?_) h⟩;exact⟨by rw[rv.length];exact u8 hs.1,AL ok1 rv (hs.2.mono g1)⟩
end Rf
namespace L2
open PySem PySem.Spec PyProof.Rows
section
variable{prog:W8}{w:WC}{A:WH}{E:Vz->W4->Prop}{s:W4}
theorem SetX.kind{h:Heap}{a:W3}{L:List Int}(x:SetX prog w h a L):h.SetOf (intKind prog w) a (λk=>decide (k∈L)) L.length:=by
 obtain⟨o,es,ep,t,ho,hx,hd,hel,hb,hf,hT,hp⟩:=x;refine⟨o,es,ep,t,ho,hx,hd,hel,λk=>?_,hb,hf,by rw[<-hp.length_eq];simp⟩;rw[dQ,<-hp.mem_iff,TJ];constructor
 ·rintro⟨e,he,rfl⟩;obtain⟨⟨k,hk,_⟩,_⟩:=hel e he;exact⟨e,he,by rw[Gx hk];exact hk⟩
 ·rintro⟨e,he,hk⟩;exact⟨e,he,Gx hk⟩
end
section
variable{X:Cx}
theorem Jw:OpR X (WJ .In) (λx y H Q=>∃(k:Int) (p:W3) (S:Int->Bool) (n:Nat),x = .int k/\y = .ref p/\H p=some (.set S n)/\Q (.bl (S k)) H):=by
 intro pq s σ H x y v u Q I rx ry h;obtain⟨k,p,S,n,rfl,rfl,hp,q⟩:=h;obtain⟨t,rfl⟩:=rx;cases ry;have hS:s.heap.SetOf (intKind X.prog X.w) p S n:=I.hok p _ hp;exact wpAny_inSet_of (k:=k) (intKind_is _ _ _ _) rfl hS ⟨.bl _,H,I.tok _,rfl,q⟩
end
end L2
namespace PySem
open PyProof.Rows Builtin
theorem Aj:fillsNumberSlot (.type "tuple") "mul"=pure false:=
 fillsNumberSlot_seq (id:="tuple.__mul__") (r:=some (.builtin "tuple.__rmul__")) F.slot_tuple_mul.lookup (by decide +kernel) F.slot_tuple_rmul.lookup (by decide +kernel)
theorem Be:seqRepeat? (.type "tuple")=pure (some (.builtin "tuple.__mul__")):=by
 unfold seqRepeat?;rw[seqSlot_of (T:="tuple") (name:="__mul__") (id:="tuple.__mul__") F.slot_tuple_mul.lookup (by decide +kernel),seqSlot_of (T:="tuple") (name:="__rmul__") (id:="tuple.__rmul__") F.slot_tuple_rmul.lookup (by decide +kernel)];rfl
theorem CH(a:Int)(t:Tok)(l:W3)(items:Array Vz)(n:Nat)(dd:Option W3)(sl:Array (Option Vz)):
 Meets (Builtin.«int.__rmul__» ⟨[.int a t,.ref l],[]⟩) (λ_ R s=>s.heap.get? l=some {cls := .type "tuple",dict:=dd,data := .seq items n,slots:=sl}/\R (.ok (.ret Value.notImplemented)) s):=
 .of_wp λprog w A R s h=>by obtain⟨hp,g,d,tk,os⟩:=s;obtain⟨hl,h⟩:=h;wp_walk;exact⟨_,rfl,h⟩
theorem Jx(l:W3)(items:Array Vz)(n:Nat)(dd:Option W3)(sl:Array (Option Vz))(x:Int)(u:Tok)(hc0:¬ (decide (x < -(2 ^ 63))||decide (x≥2 ^ 63))=true)(hc1:(items.isEmpty||x == 1)=true):
 Meets (Builtin.«tuple.__mul__» ⟨[.ref l,.int x u],[]⟩) (λ_ R s=>s.heap.get? l=some {cls := .type "tuple",dict:=dd,data := .seq items n,slots:=sl}/\R (.ok (.ret (Value.ref l))) {s with heap:=s.heap,toks:=s.toks}):=
 .of_wp λprog w A R s h=>by
  obtain⟨hp,g,d,tk,os⟩:=s;obtain⟨hl,h⟩:=h;have f1:=AutoSeq1.idx_int;have f2:=AutoSeq1.sub_tuple_tuple
  wp_walk using AutoSeq1.wpAny_loadPart' hl
  rw[iG hc0]
  wp_walk using AutoSeq1.wpAny_loadPart' hl
  exact⟨_,rfl,h⟩
theorem Jy(l:W3)(items:Array Vz)(n:Nat)(dd:Option W3)(sl:Array (Option Vz))(x:Int)(u:Tok)(hc0:¬ (decide (x < -(2 ^ 63))||decide (x≥2 ^ 63))=true)(hc1:¬ (items.isEmpty||x == 1)=true)(hc2:¬ (decide (x<=0)||items.isEmpty)=true)
 (hc3:¬ (items.size * x>(2 ^ 63 - 1) / 8)) (hc4:¬ Builtin.Tuple.tupleTooMany (items.size * x)=true) (hc5:¬ (Uu (λx1 x2=>x1++x2) #[] (Sj x.toNat items)).size>W6):
 Meets (Builtin.«tuple.__mul__» ⟨[.ref l,.int x u],[]⟩) (λ_ R s=>s.heap.get? l=some {cls := .type "tuple",dict:=dd,data := .seq items n,slots:=sl}/\R (.ok (.ret (Value.ref s.heap.objs.size))) {s with heap:=s.heap.push {cls:=Value.type "tuple",data:=Data.seq ((Sj x.toNat items).foldl (·++·) #[])},toks:=s.toks}):=
 .of_wp λprog w A R s h=>by
  obtain⟨hp,g,d,tk,os⟩:=s;obtain⟨hl,h⟩:=h;have f1:=AutoSeq1.idx_int;have f2:=AutoSeq1.sub_tuple_tuple
  wp_walk using AutoSeq1.wpAny_loadPart' hl
  rw[iG hc0]
  wp_walk using AutoSeq1.wpAny_loadPart' hl
  rw[iG hc3]
  wp_walk using AutoSeq1.wpAny_loadPart' hl
  exact⟨_,rfl,h⟩
theorem Jz(l:W3)(items:Array Vz)(n:Nat)(dd:Option W3)(sl:Array (Option Vz))(u:Tok)(hc1:¬ items.isEmpty=true):
 Meets (Builtin.«tuple.__mul__» ⟨[.ref l,.int 0 u],[]⟩) (λ_ R s=>s.heap.get? l=some {cls := .type "tuple",dict:=dd,data := .seq items n,slots:=sl}/\R (.ok (.ret (Value.ref s.heap.objs.size))) {s with heap:=s.heap.push {cls:=Value.type "tuple",data:=Data.seq #[]},toks:=s.toks}):=
 .of_wp λprog w A R s h=>by
  obtain⟨hp,g,d,tk,os⟩:=s;obtain⟨hl,h⟩:=h;have f1:=AutoSeq1.idx_int;have f2:=AutoSeq1.sub_tuple_tuple
  wp_walk using AutoSeq1.wpAny_loadPart' hl
  exact⟨_,rfl,h⟩
end PySem
namespace L2
open PySem PySem.Spec PyProof.Rows
section
variable{X:Cx}
noncomputable def Nl(K:SU):R2:=λx y H Q=>∃ a k xs,x = .ref a/\y = .int k/\SqT K H a xs/\0<=k/\k<=1000/\xs.length * k.toNat<=W6/\
 (xs=[]\/k=1->Q (.ref a) H)/\(xs≠[]->k≠1->∀ p,H p=none->Q (.ref p) (upd H p (.tup (Sj k.toNat xs).flatten)))
theorem MN:OpR X (WV .Mult) (Nl X.K):=by
 intro pq s σ H x y v u Q I rx ry h;obtain⟨l,k,xs,rfl,rfl,hH,h1,h2,hz,q1,q2⟩:=h;cases rx;obtain⟨t,rfl⟩:=ry;obtain⟨its,r,p1,_⟩:=I.tuple hH;obtain⟨⟨cls,dd,data,sl⟩,ho,hc,n,hd⟩:=id p1;simp only at hc hd;subst hc hd;have hc0:¬ (decide (k < -(2 ^ 63))||decide (k≥2 ^ 63))=true:=by simp;omega
 refine X7 (T:="tuple") (U:="int") (by decide) ⟨_,ho,rfl⟩ (λs'=>Wx s' k t) Aj F.fills_int_mul F.slot_int_rmul Be F.slot_int_index.lookup
  (Wh F.slot_int_rmul (Wx s k t) F.entry_int_rmul (F.args_int_rmul_2 _ _) (CH k t l its.toArray n dd sl) ⟨ho,rfl,⟨_,ho,rfl⟩,?_⟩)
 by_cases hx:xs=[]\/k=1
 ·have hi:its=[]\/k=1:=hx.imp r.nil_iff.mpr id;exact Wh F.slot_tuple_mul ⟨_,ho,rfl⟩ F.entry_tuple_mul (F.args_tuple_mul_2 _ _) (Jx l its.toArray n dd sl k t hc0 (by rcases hi with hi | hi<;>simp[hi])) ⟨ho,⟨.ref l,H,I,rfl,q1 hx⟩⟩
 ·have hk1:k≠1:=λz=>hx (.inr z);have hx':xs≠[]:=λz=>hx (.inl z);clear hx;have hx:xs≠[]:=hx';have hi:its≠[]:=λz=>hx (r.nil_iff.mp z);by_cases h0:k=0
  ·subst h0;refine Wh F.slot_tuple_mul ⟨_,ho,rfl⟩ F.entry_tuple_mul (F.args_tuple_mul_2 _ _) (Jz l its.toArray n dd sl t (by simpa using hi)) ⟨ho,?_⟩;refine⟨.ref s.heap.objs.size,_,I.laid (t':=s.toks) (o := .tup []) (λb ob q=>Sa _ q) (Sd _) ⟨by simp,[],.nil,IsTup.new _ _⟩,rfl,?_⟩;have:=q2 hx hk1 _ (I.hok.fresh (Sd _));simpa using this
  have hl:xs.length=its.length:=r.length
  have hzz:(its.length:Int) * k<=(W6:Int):=by
   have:((xs.length * k.toNat:Nat):Int)<=(W6:Int):=by exact_mod_cast hz
   rw[hl]at this
   push_cast at this
   rwa [UF (by omega)]at this
  have hnew:Uu (λx1 x2=>x1++x2) #[] (Sj k.toNat its.toArray)=(Sj k.toNat its).flatten.toArray:=by
   have:=BY its k.toNat [];rw[Ud]at this;exact this
  refine Wh F.slot_tuple_mul ⟨_,ho,rfl⟩ F.entry_tuple_mul (F.args_tuple_mul_2 _ _) (Jy l its.toArray n dd sl k t hc0 (by simp[hi];omega) (by simp[hi];omega) ?_ ?_ (by
   rw[AutoSeq1.size_joined,show its.toArray.size=xs.length by rw[SZ,hl],VR];simp only[SZ,U4];omega)) ⟨ho,?_⟩
  ·have:(W6:Int)<=(2 ^ 63 - 1) / 8:=by decide
   rw[SZ];omega
  ·unfold Builtin.Tuple.tupleTooMany;rw[SZ];simp;omega
  ·rw[hnew];refine⟨.ref s.heap.objs.size,_,I.laid (t':=s.toks) (o := .tup (Sj k.toNat xs).flatten) (λb ob q=>Sa _ q) (Sd _) ?_,rfl,q2 hx hk1 _ (I.hok.fresh (Sd _))⟩;exact⟨by rw[Gr,VR];exact hz,_,r.rep k.toNat,IsTup.new _ _⟩
end
open PySem PySem.Spec PyProof.Rows PySem.SeqAt
section
variable{X:Cx}
noncomputable def Nm(K:SU):R2:=λx y H Q=>∃ a t,x = .ref a/\y = .str t/\((∃ xs,SqL K H a xs)\/∃ xs,SqT K H a xs)/\Q (.bl false) H
theorem MO(hu:X.A.units<cLine):OpR X (WJ .Eq) (Nm X.K):=by
 intro pq s σ H x y v u Q I rx ry h;obtain⟨a,t,rfl,rfl,h1,q⟩:=h;cases rx;obtain⟨tk,rfl⟩:=ry
 have e:W7 (WB X.prog X.w) X.A (X1 .Eq (.ref a) (.str t tk)) (EP X pq σ Q) X.xe s:=by
  rcases h1 with⟨xs,h1⟩ | ⟨xs,h1⟩
  ·obtain⟨its,r1,p1,_⟩:=I.list h1;exact RcAt.list_str t tk p1.isList hu _ _ _ _ ⟨.bl false,H,I,rfl,q⟩
  ·obtain⟨its,r1,p1,_⟩:=I.tuple h1;exact RcAt.tuple_str (items:=its.toArray) t tk p1 hu _ _ _ _ ⟨.bl false,H,I,rfl,q⟩
 exact e
end
end L2
namespace Rf
open PySem L2
noncomputable def t7:SV->Bool
 | .non=>true | .bl _=>true | .int _=>true | .str _=>true | _=>false
noncomputable def toV:SV->V
 | .non => .non | .bl b => .bl b | .int i => .int i | .str x => .str x | _ => .non
noncomputable def eqF:SV->SV->Bool
 | .non,.non=>true
 | .bl a,.bl b=>a == b
 | .bl a,.int b=>(if a then 1 else 0) == b
 | .int a,.bl b=>a == (if b then 1 else 0)
 | .int a,.int b=>a == b
 | .str a,.str b=>a == b
 | _,_=>false
noncomputable def CI(xs ys:List SV):Bool:=xs.length == ys.length&&(xs.zip ys).all λp=>eqF p.1 p.2
noncomputable def inS(x:SV)(xs:List SV):Bool:=xs.any λy=>eqF y x
section
variable{K:SU}{as:List W3}{H:Hp}
theorem Gy{x:SV}{v:V}(f:t7 x=true)(r:Rl K as H v x):v=toV x:=by
 cases x with
 | non=>exact rl_non.mp r
 | bl _=>exact rl_bl.mp r
 | int _=>exact rl_int.mp r
 | str _=>exact rl_str.mp r
 | _=>cases f
theorem AN:∀{xs:List SV} {vs:List V},xs.all t7=true->RlAll K as H vs xs->vs=xs.map toV
 | [],_,_,r=>rla_nil.mp r
 | x::xs,_,f,r=>by
   rw[Tn,SW]at f;obtain⟨v,vs,rfl,r1,r2⟩:=rla_cons.mp r;rw[Gy f.1 r1,AN f.2 r2];rfl
theorem EW{x:SV}(f:t7 x=true):l8 (toV x)=true:=by cases x<;>first | rfl | cases f
theorem Bf{xs:List SV}(f:xs.all t7=true):(xs.map toV).all l8=true:=by
 rw[Sy]at f ⊢;intro v hv;obtain⟨x,hx,rfl⟩:=TJ.mp hv;exact EW (f x hx)
theorem Dd{x y:SV}(fx:t7 x=true)(fy:t7 y=true):eqV (toV x) (toV y)=eqF x y:=by
 cases x<;>first | cases fx;done | (cases y<;>first | rfl | cases fy)
theorem PC{x:SV}{xs:List SV}(fx:t7 x=true)(f:xs.all t7=true):inV (toV x) (xs.map toV)=inS x xs:=by
 unfold inV inS;rw[Uv];rw[Sy]at f;rw[Tc,UJ,UJ];constructor
 ·rintro⟨y,hy,e⟩;exact⟨y,hy,by rw[<-Dd (f y hy) fx];exact e⟩
 ·rintro⟨y,hy,e⟩;exact⟨y,hy,by show eqV (toV y) (toV x)=true;rw[Dd (f y hy) fx];exact e⟩
theorem MP:∀{xs ys:List SV},xs.all t7=true->ys.all t7=true->AG (xs.map toV) (ys.map toV)=CI xs ys:=by
 intro xs ys fx fy;unfold AG CI;rw[SX,SX,List.zip_map,VV]
 congr 1
 rw[Tc,Sy,Sy];rw[Sy]at fx fy;constructor
 ·rintro h ⟨a,b⟩ hm;have:=h (a,b) hm;rw[<-Dd (fx a (UC hm).1) (fy b (UC hm).2)];exact this
 ·rintro h ⟨a,b⟩ hm;have:=h (a,b) hm;show eqV (toV a) (toV b)=true;rw[Dd (fx a (UC hm).1) (fy b (UC hm).2)];exact this
noncomputable def seqS:SV->Sto->Option (List SV)
 | .tup xs,_=>some xs
 | .ro xs,_=>some xs
 | .loc k,S=>match S[k]? with | some (.lst xs)=>some xs | _=>none
 | _,_=>none
theorem De{x:SV}{v:V}{S:Sto}{xs:List SV}(ok:Ok K as H S)(r:Rl K as H v x)(h:seqS x S=some xs):∃ a vs,v = .ref a/\(SqL K H a vs\/SqT K H a vs)/\RlAll K as H vs xs:=by
 cases x with
 | tup ys=>
   cases h;obtain⟨p,vs,rfl,hp,rr⟩:=rl_tup.mp r;exact⟨p,vs,rfl,.inr (SqT.of hp),rr⟩
 | ro ys=>
   cases h;obtain⟨p,vs,rfl,hp,rr⟩:=rl_ro.mp r;exact⟨p,vs,rfl,.inl hp.sq,rr⟩
 | loc k=>
   obtain⟨a,ea,rfl⟩:=rl_loc.mp r;unfold seqS at h;cases hs:S[k]? with
   | none=>simp only[hs]at h;cases h
   | some o=>
     cases o with
     | lst ys=>
       simp only[hs]at h;cases h;obtain⟨vs,h1,rr⟩:=ok.obj k _ a hs ea;exact⟨a,vs,rfl,.inl (SqL.of h1),rr⟩
     | iset _=>simp only[hs]at h;cases h
     | dtl _=>simp only[hs]at h;cases h
     | dtf _ _ _=>simp only[hs]at h;cases h
     | dtp _=>simp only[hs]at h;cases h
     | dct _=>simp only[hs]at h;cases h
     | dcf _ _ _=>simp only[hs]at h;cases h
 | _=>cases h
theorem j7{k:Nat}{v:V}{S:Sto}{xs:List SV}(ok:Ok K as H S)(r:Rl K as H v (.loc k))(h:S[k]?=some (.lst xs)):∃ a vs,v = .ref a/\as[k]?=some a/\H a=some (.lst vs)/\RlAll K as H vs xs:=by
 obtain⟨a,ea,rfl⟩:=rl_loc.mp r;obtain⟨vs,h1,rr⟩:=ok.obj k _ a h ea;exact⟨a,vs,rfl,ea,h1,rr⟩
end
noncomputable def K0:S2
 | .int i,.int j,S,Q=>Q (.int (i+j)) S
 | .str i,.str j,S,Q=>i.length+j.length<=big/\Q (.str (i++j)) S
 | .tup xs,.tup ys,S,Q=>xs.length+ys.length<=big/\Q (.tup (xs++ys)) S
 | .loc k,.loc l,S,Q=>∃ xs ys,S[k]?=some (.lst xs)/\S[l]?=some (.lst ys)/\xs.length+ys.length<=big/\Q (.loc S.length) (S++[.lst (xs++ys)])
 | _,_,_,_=>False
noncomputable def Fk(C:Int->Int->Prop)(g:Int->Int->SV):S2
 | .int i,.int j,S,Q=>C i j/\Q (g i j) S
 | _,_,_,_=>False
noncomputable def BL(g:Int->Int->SV):S2
 | .int i,.int j,S,Q=>Q (g i j) S
 | _,_,_,_=>False
noncomputable def K3:S2
 | .int i,.int j,S,Q=>CMul i j/\Q (.int (i * j)) S
 | .loc k,.int j,S,Q=>∃ xs,S[k]?=some (.lst xs)/\(-1000000<j/\j<1000000)/\xs.length * j.toNat<=big/\Q (.loc S.length) (S++[.lst (Sj j.toNat xs).flatten])
 | .tup xs,.int j,S,Q=>(0<=j/\j<=1000)/\xs.length * j.toNat<=big/\Q (.tup (Sj j.toNat xs).flatten) S
 | _,_,_,_=>False
theorem Mono2.add:Mono2 K0:=λx y S P P' i h=>by
 unfold K0 at h ⊢
 split at h<;>first
  | exact i _ _ h
  | exact⟨h.1,i _ _ h.2⟩
  | (obtain⟨xs,ys,a,b,c,d⟩:=h;exact⟨xs,ys,a,b,c,i _ _ d⟩)
  | exact h.elim
theorem Mono2.int{C:Int->Int->Prop}{g:Int->Int->SV}:Mono2 (Fk C g):=λx y S P P' i h=>by
 unfold Fk at h ⊢;split at h
 ·exact⟨h.1,i _ _ h.2⟩
 ·exact h.elim
theorem Mono2.int0{g:Int->Int->SV}:Mono2 (BL g):=λx y S P P' i h=>by
 unfold BL at h ⊢;split at h
 ·exact i _ _ h
 ·exact h.elim
theorem Mono2.mul:Mono2 K3:=λx y S P P' i h=>by
 unfold K3 at h ⊢;split at h
 ·exact⟨h.1,i _ _ h.2⟩
 ·obtain⟨xs,a,b,c,d⟩:=h;exact⟨xs,a,b,c,i _ _ d⟩
 ·exact⟨h.1,h.2.1,i _ _ h.2.2⟩
 ·exact h.elim
section
variable{K:SU}
theorem Post.here{as:List W3}{H:Hp}{Q:VK}{x:SV}{S:Sto}{v:V}(h:Post K as H Q x S)(ok:Ok K as H S)(r:Rl K as H v x):Q v H:=h as H v (Go.refl _ _) ok r
theorem Dg{C:Int->Int->Prop}{g:Int->Int->SV}{g':Int->Int->V}(hg:∀ as H i j,Rl K as H (g' i j) (g i j)):B2 K (Fk C g) (rI C g'):=λas H S x y v u Q ok rx ry h=>by
 unfold Fk at h;split at h
 ·rw[rl_int]at rx ry;exact⟨_,_,rx,ry,h.1,h.2.here ok (hg _ _ _ _)⟩
 ·exact h.elim
theorem Ak{g:Int->Int->SV}{g':Int->Int->V}(hg:∀ as H i j,Rl K as H (g' i j) (g i j)):B2 K (BL g) (rI0 g'):=λas H S x y v u Q ok rx ry h=>by
 unfold BL at h;split at h
 ·rw[rl_int]at rx ry;exact⟨_,_,rx,ry,h.here ok (hg _ _ _ _)⟩
 ·exact h.elim
noncomputable def R7(K:SU):R2:=λx y H Q=>(((rI0 λi j => .int (i+j)) x y H Q\/Qt x y H Q)\/(JZ K x y H Q\/Js K x y H Q))\/∃ i j,x = .str i/\y = .str j/\i.length+j.length<=W6/\Q (.str (i++j)) H
theorem MQ{X:Cx}:OpR X (WV .Add) (R7 X.K):=((op_add.or Ot).or MF).or FV
theorem MR:B2 K K0 (R7 K):=λas H S x y v u Q ok rx ry h=>by
 unfold K0 at h;split at h
 ·rw[rl_int]at rx ry;exact .inl (.inl (.inl ⟨_,_,rx,ry,h.here ok (rl_int.mpr rfl)⟩))
 ·rw[rl_str]at rx ry;exact .inr ⟨_,_,rx,ry,u8 h.1,h.2.here ok (rl_str.mpr rfl)⟩
 ·rename_i xs ys;obtain⟨a,vs,rfl,ha,ra⟩:=rl_tup.mp rx;obtain⟨b,us,rfl,hb,rb⟩:=rl_tup.mp ry;have l1:=ra.length;have l2:=rb.length;by_cases hx:vs=[]
  ·subst hx;have:xs=[]:=UW.mp (by rw[<-l1];rfl);subst this;exact .inl (.inr (.inr ⟨a,b,us,rfl,rfl,SqT.of ha,SqT.of hb,h.2.here ok ry⟩))
  ·refine .inl (.inr (.inl ⟨a,b,vs,us,rfl,rfl,SqT.of ha,SqT.of hb,hx,by rw[l1,l2];exact u8 h.1,λz=>?_,λ_=>AM ok (ra.append rb) h.2⟩));have:ys=[]:=UW.mp (by rw[<-l2,z];rfl);subst this;rw[U2]at h;exact h.2.here ok rx
 ·obtain⟨xs,ys,h1,h2,h3,h4⟩:=h;obtain⟨a,vs,rfl,_,ha,ra⟩:=j7 ok rx h1;obtain⟨b,us,rfl,_,hb,rb⟩:=j7 ok ry h2;exact .inl (.inl (.inr ⟨a,b,vs,us,rfl,rfl,ha,hb,by rw[ra.length,rb.length];exact u8 h3,AL ok (ra.append rb) h4⟩))
 ·exact h.elim
theorem RlAll.rep{as:List W3}{H:Hp}{vs:List V}{xs:List SV}(h:RlAll K as H vs xs):∀ n,RlAll K as H (Sj n vs).flatten (Sj n xs).flatten
 | 0=>by simpa using RlAll.nil
 | n+1=>by
   rw[TX,TX,U1,U1];exact h.append (RlAll.rep h n)
theorem MS:B2 K K3 (λx y H Q=>((rI CMul λi j => .int (i * j)) x y H Q\/Qu x y H Q)\/Nl K x y H Q):=λas H S x y v u Q ok rx ry h=>by
 unfold K3 at h;split at h
 ·rw[rl_int]at rx ry;exact .inl (.inl ⟨_,_,rx,ry,h.1,h.2.here ok (rl_int.mpr rfl)⟩)
 ·rename_i k j;obtain⟨xs,h1,h2,h3,h4⟩:=h;obtain⟨a,vs,rfl,_,ha,ra⟩:=j7 ok rx h1;rw[rl_int]at ry;subst ry;exact .inl (.inr ⟨a,j,vs,rfl,rfl,ha,by omega,by omega,by rw[ra.length];exact u8 h3,AL ok (ra.rep _) h4⟩)
 ·rename_i xs j;obtain⟨h2,h3,h4⟩:=h;obtain⟨p,vs,rfl,hp,ra⟩:=rl_tup.mp rx;rw[rl_int]at ry;subst ry;refine .inr ⟨p,j,vs,rfl,rfl,SqT.of hp,h2.1,h2.2,by rw[ra.length];exact u8 h3,λz=>?_,λ_ _=>AM ok (ra.rep _) h4⟩;rcases z with z | z
  case inr=>
   subst z;have e2:(Sj (1:Int).toNat xs).flatten=xs:=by simp
   rw[e2]at h4;exact h4.here ok rx
  subst z
  have e:xs=[]:=by
   cases xs with
   | nil=>rfl
   | cons y ys=>have:=ra.length;simp at this
  subst e;have e2:(Sj j.toNat ([]:List SV)).flatten=[]:=by simp
  rw[e2]at h4;exact h4.here ok rx
 ·exact h.elim
end
noncomputable def scS:SV->SV->Option Bool
 | .int i,.int j=>some (decide (i=j))
 | .bl i,.bl j=>some (decide (i=j))
 | .str i,.str j=>some (decide (i=j))
 | .non,.non=>some true
 | .non,.int _=>some false | .int _,.non=>some false | .non,.bl _=>some false | .bl _,.non=>some false | .non,.str _=>some false | .str _,.non=>some false
 | .int _,.str _=>some false | .str _,.int _=>some false | .bl _,.str _=>some false | .str _,.bl _=>some false
 | _,_=>none
noncomputable def Fl:SV->SV->Sto->(Bool->Prop)->Prop
 | .loc k,.loc l,S,Q=>∃ xs ys,S[k]?=some (.lst xs)/\S[l]?=some (.lst ys)/\((xs.all t7=true/\ys.all t7=true)\/xs=[]\/ys=[])/\Q (CI xs ys)
 | _,_,_,_=>False
noncomputable def IM:SV->SV->Sto->(Bool->Prop)->Prop
 | .loc k,.loc l,S,Q=>∃ xs ys,S[k]?=some (.lst xs)/\S[l]?=some (.lst ys)/\((xs.all t7=true/\ys.all t7=true)\/xs=[]\/ys=[])/\Q (CI xs ys)
 | .loc k,.str _,S,Q=>(∃ xs,S[k]?=some (.lst xs))/\Q false
 | .tup _,.str _,_,Q=>Q false
 | _,_,_,_=>False
theorem PD{x y:SV}{S:Sto}{Q:Bool->Prop}(h:IM x y S Q):Fl x y S Q\/(∃ t,y = .str t/\((∃ k xs,x = .loc k/\S[k]?=some (.lst xs))\/∃ xs,x = .tup xs)/\Q false):=by
 unfold IM at h;split at h
 ·exact .inl h
 ·obtain⟨⟨xs,e⟩,q⟩:=h;exact .inr ⟨_,rfl,.inl ⟨_,xs,rfl,e⟩,q⟩
 ·exact .inr ⟨_,rfl,.inr ⟨_,rfl⟩,h⟩
 ·exact h.elim
theorem IN{x y:SV}{S:Sto}{P P':Bool->Prop}(i:∀ b,P b->P' b)(h:IM x y S P):IM x y S P':=by
 unfold IM at h ⊢;split at h
 ·obtain⟨xs,ys,a,b,c,d⟩:=h;exact⟨xs,ys,a,b,c,i _ d⟩
 ·exact⟨h.1,i _ h.2⟩
 ·exact i _ h
 ·exact h.elim
noncomputable def sEq:S2:=λx y S Q=>match scS x y with | some b=>Q (.bl b) S | none=>IM x y S λb=>Q (.bl b) S
noncomputable def sNe:S2:=λx y S Q=>match scS x y with | some b=>Q (.bl (!b)) S | none=>Fl x y S λb=>Q (.bl (!b)) S
noncomputable def Bu:SV->Sto->Option (List Int)
 | .loc k,S=>match S[k]? with | some (.iset ms)=>some ms | _=>none
 | _,_=>none
noncomputable def sIn(neg:Bool):S2:=λx y S Q=>match Bu y S with
 | some ms=>∃ i,x = .int i/\neg=false/\Q (.bl (decide (i∈ms))) S
 | none=>t7 x=true/\∃ ys,seqS y S=some ys/\ys.all t7=true/\Q (.bl (if neg then !inS x ys else inS x ys)) S
noncomputable def DB:SV->Bool
 | .non=>true
 | _=>false
noncomputable def K4(neg:Bool):S2:=λx y S Q=>(y = .non/\Q (.bl (if neg then !DB x else DB x)) S)\/∃ c d,neg=true/\x = .bl c/\y = .bl d/\Q (.bl (c != d)) S
theorem IO{x y:SV}{S:Sto}{P P':Bool->Prop}(i:∀ b,P b->P' b)(h:Fl x y S P):Fl x y S P':=by
 unfold Fl at h ⊢;split at h
 ·obtain⟨xs,ys,a,b,c,d⟩:=h;exact⟨xs,ys,a,b,c,i _ d⟩
 ·exact h.elim
theorem Mono2.eq:Mono2 sEq:=λx y S P P' i h=>by
 unfold sEq at h ⊢;split at h
 ·exact i _ _ h
 ·exact IN (λ_=>i _ _) h
theorem Mono2.ne:Mono2 sNe:=λx y S P P' i h=>by
 unfold sNe at h ⊢;split at h
 ·exact i _ _ h
 ·exact IO (λ_=>i _ _) h
theorem Mono2.in'{n:Bool}:Mono2 (sIn n):=λx y S P P' i h=>by
 unfold sIn at h ⊢;split at h
 ·obtain⟨j,e,z,h⟩:=h;exact⟨j,e,z,i _ _ h⟩
 ·obtain⟨f,ys,a,b,h⟩:=h;exact⟨f,ys,a,b,i _ _ h⟩
theorem Mono2.isN{n:Bool}:Mono2 (K4 n):=λx y S P P' i h=>h.imp (λh=>⟨h.1,i _ _ h.2⟩) λ⟨c,d,z,a,b,h⟩=>⟨c,d,z,a,b,i _ _ h⟩
section
variable{K:SU}
theorem K5{as:List W3}{H:Hp}{x y:SV}{v u:V}{b:Bool}(e:scS x y=some b)(rx:Rl K as H v x)(ry:Rl K as H u y):Og v u=true/\decide (v=u)=b:=by
 cases x<;>first | (unfold scS at e;cases e;done) | (cases y<;>first | (unfold scS at e;cases e;done) | (simp only[rl_non,rl_bl,rl_int,rl_str]at rx ry;subst rx ry;unfold scS at e;injection e with e;subst e;exact⟨rfl,by simp⟩))
theorem Gz{as:List W3}{H:Hp}{S:Sto}{x y:SV}{v u:V}{Q:Bool->Prop}(ok:Ok K as H S)(rx:Rl K as H v x)(ry:Rl K as H u y)(h:Fl x y S Q):∃ a b xs ys,v = .ref a/\u = .ref b/\SqL K H a xs/\SqL K H b ys/\((xs.all l8=true/\ys.all l8=true)\/xs=[]\/ys=[])/\Q (AG xs ys):=by
 unfold Fl at h;split at h
 ·obtain⟨xs,ys,h1,h2,h3,h4⟩:=h;obtain⟨a,vs,rfl,_,ha,ra⟩:=j7 ok rx h1;obtain⟨b,us,rfl,_,hb,rb⟩:=j7 ok ry h2;refine⟨a,b,vs,us,rfl,rfl,SqL.of ha,SqL.of hb,?_,?_⟩
  ·rcases h3 with⟨f1,f2⟩ | h3 | h3
   ·rw[AN f1 ra,AN f2 rb];exact .inl ⟨Bf f1,Bf f2⟩
   ·subst h3;exact .inr (.inl (rla_nil.mp ra))
   ·subst h3;exact .inr (.inr (rla_nil.mp rb))
  ·have e:AG vs us=CI xs ys:=by
    rcases h3 with⟨f1,f2⟩ | h3 | h3
    ·rw[AN f1 ra,AN f2 rb,MP f1 f2]
    ·subst h3;have:=rla_nil.mp ra;subst this;have l:=rb.length;unfold AG CI;simp[l]
    ·subst h3;have:=rla_nil.mp rb;subst this;have l:=ra.length;unfold AG CI;simp[l]
   rw[e];exact h4
 ·exact h.elim
theorem PF:B2 K sEq (λx y H Q=>rEq x y H Q\/(MC K false x y H Q\/Nm K x y H Q)):=λas H S x y v u Q ok rx ry h=>by
 unfold sEq at h;split at h
 ·rename_i b e;obtain⟨h1,h2⟩:=K5 e rx ry;exact .inl ⟨h1,by rw[h2];exact h.here ok (rl_bl.mpr rfl)⟩
 ·rcases PD h with h | ⟨t,rfl,h,q⟩
  ·obtain⟨a,b,xs,ys,e1,e2,h1,h2,h3,h4⟩:=Gz ok rx ry h;exact .inr (.inl ⟨a,b,xs,ys,e1,e2,h1,h2,h3,h4.here ok (rl_bl.mpr rfl)⟩)
  ·rw[rl_str]at ry;subst ry;rcases h with⟨k,xs,rfl,hk⟩ | ⟨xs,rfl⟩
   ·obtain⟨a,vs,rfl,_,ha,_⟩:=j7 ok rx hk;exact .inr (.inr ⟨a,t,rfl,rfl,.inl ⟨vs,SqL.of ha⟩,Post.here q ok (rl_bl.mpr rfl)⟩)
   ·obtain⟨p,vs,rfl,hp,_⟩:=rl_tup.mp rx;exact .inr (.inr ⟨p,t,rfl,rfl,.inr ⟨vs,SqT.of hp⟩,Post.here q ok (rl_bl.mpr rfl)⟩)
theorem PH:B2 K sNe (λx y H Q=>rNe x y H Q\/MC K true x y H Q):=λas H S x y v u Q ok rx ry h=>by
 unfold sNe at h;split at h
 ·rename_i b e;obtain⟨h1,h2⟩:=K5 e rx ry;exact .inl ⟨h1,by rw[h2];exact h.here ok (rl_bl.mpr rfl)⟩
 ·obtain⟨a,b,xs,ys,e1,e2,h1,h2,h3,h4⟩:=Gz ok rx ry h;exact .inr ⟨a,b,xs,ys,e1,e2,h1,h2,h3,h4.here ok (rl_bl.mpr rfl)⟩
theorem MU{as:List W3}{H:Hp}{S:Sto}{y:SV}{u:V}{ms:List Int}(ok:Ok K as H S)(r:Rl K as H u y)(h:Bu y S=some ms):∃ a k F,y = .loc k/\u = .ref a/\as[k]?=some a/\S[k]?=some (.iset ms)/\H a=some (.set F ms.length)/\∀ k,F k=decide (k∈ms):=by
 cases y with
 | loc k=>
   obtain⟨a,ea,rfl⟩:=rl_loc.mp r;unfold Bu at h;cases hs:S[k]? with
   | none=>simp only[hs]at h;cases h
   | some o=>
     cases o with
     | lst ys=>simp only[hs]at h;cases h
     | iset ns=>
       simp only[hs]at h;cases h;obtain⟨F,h1,h2⟩:=ok.obj k _ a hs ea;exact⟨a,k,F,rfl,rfl,ea,hs,h1,h2⟩
     | dtl _=>simp only[hs]at h;cases h
     | dtf _ _ _=>simp only[hs]at h;cases h
     | dtp _=>simp only[hs]at h;cases h
     | dct _=>simp only[hs]at h;cases h
     | dcf _ _ _=>simp only[hs]at h;cases h
 | _=>cases h
noncomputable def PJ(K:SU)(neg:Bool):R2:=λx y H Q=>rIn K neg x y H Q\/(neg=false/\∃(k:Int) (p:W3) (S:Int->Bool) (n:Nat),x = .int k/\y = .ref p/\H p=some (.set S n)/\Q (.bl (S k)) H)
theorem PL{X:Cx}:OpR X (WJ .In) (PJ X.K false):=λpq s σ H x y v u Q I rx ry h=>h.elim (IE pq s σ H x y v u Q I rx ry) λh=>Jw pq s σ H x y v u Q I rx ry h.2
theorem IP{X:Cx}:OpR X (WJ .NotIn) (PJ X.K true):=λpq s σ H x y v u Q I rx ry h=>h.elim (DY pq s σ H x y v u Q I rx ry) λh=>by cases h.1
theorem K6{n:Bool}:B2 K (sIn n) (PJ K n):=λas H S x y v u Q ok rx ry h=>by
 unfold sIn at h;split at h
 ·rename_i ms hi;obtain⟨i,rfl,rfl,h⟩:=h;obtain⟨a,k,F,rfl,rfl,ea,es,hF,hk⟩:=MU ok ry hi;rw[rl_int]at rx;exact .inr ⟨rfl,i,a,F,_,rx,rfl,hF,by rw[hk];exact h.here ok (rl_bl.mpr rfl)⟩
 ·obtain⟨f,ys,hs,fs,h⟩:=h;obtain⟨a,vs,rfl,hq,rr⟩:=De ok ry hs;have ev:=Gy f rx;have es:=AN fs rr;subst ev es;exact .inl ⟨a,_,rfl,hq,EW f,Bf fs,by rw[PC f fs];exact h.here ok (rl_bl.mpr rfl)⟩
theorem EX{as:List W3}{H:Hp}{x:SV}{v:V}(r:Rl K as H v x):decide (v=V.non)=DB x:=by
 cases x with
 | non=>rw[rl_non.mp r];rfl
 | bl _=>rw[rl_bl.mp r];rfl
 | int _=>rw[rl_int.mp r];rfl
 | str _=>rw[rl_str.mp r];rfl
 | tup _=>obtain⟨p,vs,rfl,_⟩:=rl_tup.mp r;rfl
 | loc _=>obtain⟨p,_,rfl⟩:=rl_loc.mp r;rfl
 | ro _=>obtain⟨p,vs,rfl,_⟩:=rl_ro.mp r;rfl
 | ty _=>rw[rl_ty.mp r];rfl
theorem MV:B2 K (K4 false) (λx y H Q=>y = .non/\Q (.bl (decide (x = .non))) H):=λas H S x y v u Q ok rx ry h=>by
 rcases h with⟨e,h⟩ | ⟨c,d,z,_⟩
 ·subst e;exact⟨rl_non.mp ry,by rw[EX rx];exact h.here ok (rl_bl.mpr rfl)⟩
 ·cases z
theorem K7:B2 K (K4 true) (λx y H Q=>(y = .non/\Q (.bl (!decide (x = .non))) H)\/∃ c d,x = .bl c/\y = .bl d/\Q (.bl (c != d)) H):=λas H S x y v u Q ok rx ry h=>by
 rcases h with⟨e,h⟩ | ⟨c,d,_,rfl,rfl,h⟩
 ·subst e;exact .inl ⟨rl_non.mp ry,by rw[EX rx];exact h.here ok (rl_bl.mpr rfl)⟩
 ·exact .inr ⟨c,d,rl_bl.mp rx,rl_bl.mp ry,h.here ok (rl_bl.mpr rfl)⟩
end
noncomputable def sIx:S2
 | x,.int i,S,Q=>∃ xs y,seqS x S=some xs/\atI xs i=some y/\Q y S
 | _,_,_,_=>False
theorem Mono2.ix:Mono2 sIx:=λx y S P P' i h=>by
 unfold sIx at h ⊢;split at h
 ·obtain⟨xs,z,a,b,c⟩:=h;exact⟨xs,z,a,b,i _ _ c⟩
 ·exact h.elim
section
variable{K:SU}
theorem RlAll.atI{as:List W3}{H:Hp}{xs:List SV}{vs:List V}{i:Int}{y:SV}(h:RlAll K as H vs xs)(e:L2.atI xs i=some y):∃ v,L2.atI vs i=some v/\Rl K as H v y:=by
 unfold L2.atI at e ⊢;rw[h.length];cases hj:ixN xs.length i with
 | none=>rw[hj]at e;cases e
 | some j=>
   rw[hj]at e;exact h.get e
theorem PM:B2 K sIx (λx y H Q=>Qq K x y H Q\/Qr K x y H Q):=λas H S x y v u Q ok rx ry h=>by
 unfold sIx at h;split at h
 ·obtain⟨xs,z,h1,h2,h3⟩:=h;obtain⟨a,vs,rfl,hq,rr⟩:=De ok rx h1;obtain⟨w,hw,rw'⟩:=rr.atI h2;rw[rl_int]at ry;rcases hq with hq | hq
  ·exact .inl ⟨a,vs,_,w,rfl,ry,hq,hw,h3.here ok rw'⟩
  ·exact .inr ⟨a,vs,_,w,rfl,ry,hq,hw,h3.here ok rw'⟩
 ·exact h.elim
end
end Rf
namespace L2
open PySem PySem.Spec PyProof.Rows
section
variable{prog:W8}{w:WC}{A:WH}{R:Result->W4->Prop}{I:W3}{fp wr:List W3}{n:Nat}{P:Nat->Vz->Prop}{St:Nat->Heap->Prop}
structure CmpIn(prog:W8)(w:WC)(A:WH)(wr:List W3)(S:W3)(P:Nat->Vz->Prop)(bt:Nat->Nat->Bool)(G:Heap->Prop):Prop where
 keep:∀ h h',G h->(∀ b o,b∉wr->b≠S->h.get? b=some o->h'.get? b=some o)->G h'
 cmp:∀(s:W4),G s.heap->∀(i j:Nat) (vi vj:Vz) (Q:Vz->W4->Prop) (E:Vz->W4->Prop),P i vi->P j vj->Q (.bool (bt i j)) s->W7 (WB prog w) A (X1 .Lt vi vj) Q E s
theorem Dh{kw:List (Str×Vz)}(W:Walks prog w A.in1 I fp wr n P St){bt:Nat->Nat->Bool}{S:W3}{G:Heap->Prop}(C:CmpIn prog w A.in1 wr S P bt G)(hSf:S∉fp)(k:Nat):
 ∀(j:Nat) (s:W4) (vb:Vz) (c:Nat),n=j+1+k->St (j+1) s.heap->G s.heap->P (argBest bt j) vb->
 s.heap.get? S=some {cls := .type "list",dict:=none,data := .seq #[vb,vb] c,slots:=#[]}->
 (∀ v h' tk,P (argBest bt (n - 1)) v->(∀ b o,b∉wr->b≠S->s.heap.get? b=some o->h'.get? b=some o)->R (.ok (.ret v)) {s with heap:=h',toks:=tk})->
 codeAny (WB prog w) A (.builtin "min.loop" ⟨[.ref I,.none,.ref S],kw⟩) R s:=by
 have hSw:S∉wr:=λz=>hSf (W.sub _ z);have nm:(toString "min"++toString ".loop":String)="min.loop":=by decide
 induction k with
 | zero=>
   intro j s vb c hk hst hG hPb hS hR;refine XN F.entry_min_loop ?_;rw[Around.under_plainId F.plain_min_loop _];refine W0 (m:=XS (.ref S)) (WR hS rfl ?_);have hst':St n s.heap:=by rw[hk];exact hst
   refine W0 (m:=tryCatch (pyNext (.ref I)) _) (Ww (W.done s _ _ hst' λh1 tk k1=>?_));have hS1:=k1 S _ hSw hS;refine W0 (m:=updateSeq S (λ_=>#[])) (XO hS1 rfl (W0 (Wt (W5 ?_))));exact hR vb _ tk (by rw[hk];exact hPb) λb o hb hn e=>(U6 _ _ (Ne.symm hn)).trans (k1 b o hb e)
 | succ k ih=>
   intro j s vb c hk hst hG hPb hS hR;refine XN F.entry_min_loop ?_;rw[Around.under_plainId F.plain_min_loop _];refine W0 (m:=XS (.ref S)) (WR hS rfl ?_);refine W0 (m:=tryCatch (pyNext (.ref I)) _) (Ww (W.item (j+1) s _ _ (by omega) hst λv h1 tk hP st1 k1=>?_));have hS1:=k1 S _ hSw hS;have hG1:=C.keep _ _ hG λb o hb _ e=>k1 b o hb e;refine W0 (m:=tryCatch (holding [v,v] (X1 .Lt v vb >>= _)) _) (Ww (Wf (W0 (C.cmp _ hG1 (j+1) (argBest bt j) v vb _ _ hP hPb ?_))));refine W0 (Wf (WL (W0 (Wt (W5 ?_)))));cases hb:bt (j+1) (argBest bt j) with
   | true=>
     simp only[if_true];refine W0 (XO hS1 rfl (W0 (Wt ?_)));rw[nm];have up:∀ b o,b≠S->h1.get? b=some o->(Vy h1 S (Obj.mapSeq λ_=>#[v,v])).get? b=some o:=λb o hn e=>(U6 _ _ (Ne.symm hn)).trans e;refine W5 ⟨XA F.plain_min_loop _,ih (j+1) _ v _ (by omega) (W.frame _ _ _ st1 λb hbf o e=>up b o (λz=>hSf (z▸hbf)) e) (C.keep _ _ hG1 λb o _ hn e=>up b o hn e) ?_ (UA _ hS1 rfl) λv' h2 tk2 hP' k2=>?_⟩
     ·simp only[argBest,hb,if_true];exact hP
     ·exact hR v' h2 tk2 hP' λb o hbw hn e=>k2 b o hbw hn (up b o hn (k1 b o hbw e))
   | false=>
     simp only[Uh,if_false];refine W0 (Wt ?_);rw[nm];refine W5 ⟨XA F.plain_min_loop _,ih (j+1) _ vb c (by omega) st1 hG1 ?_ hS1 λv' h2 tk2 hP' k2=>?_⟩
     ·simp only[argBest,hb,Uh,if_false];exact hPb
     ·exact hR v' h2 tk2 hP' λb o hbw hn e=>k2 b o hbw hn (k1 b o hbw e)
theorem Cs{d:Vz}(W:Walks prog w A.in1 I fp wr n P St){bt:Nat->Nat->Bool}{S:W3}{G:Heap->Prop}(C:CmpIn prog w A.in1 wr S P bt G)(hSf:S∉fp){s:W4}{c:Nat}(hst:St 0 s.heap)(hG:G s.heap)
 (hS:s.heap.get? S=some {cls := .type "list",dict:=none,data := .seq #[] c,slots:=#[]})
 (h0:n=0->∀ h' tk,(∀ b o,b∉wr->b≠S->s.heap.get? b=some o->h'.get? b=some o)->R (.ok (.ret d)) {s with heap:=h',toks:=tk})
 (hR:0<n->∀ v h' tk,P (argBest bt (n - 1)) v->(∀ b o,b∉wr->b≠S->s.heap.get? b=some o->h'.get? b=some o)->R (.ok (.ret v)) {s with heap:=h',toks:=tk}):
 codeAny (WB prog w) A (.builtin "min.loop" ⟨[.ref I,.none,.ref S],[(Str.ofString "default",d)]⟩) R s:=by
 have hSw:S∉wr:=λz=>hSf (W.sub _ z);have nm:(toString "min"++toString ".loop":String)="min.loop":=by decide
 refine XN F.entry_min_loop ?_;rw[Around.under_plainId F.plain_min_loop _];refine W0 (m:=XS (.ref S)) (WR hS rfl ?_);by_cases hn:n=0
 ·subst hn;refine W0 (m:=tryCatch (pyNext (.ref I)) _) (Ww (W.done s _ _ hst λh1 tk k1=>?_));exact W0 (Wq (W5 (h0 rfl h1 tk λb o hb _ e=>k1 b o hb e)))
 ·refine W0 (m:=tryCatch (pyNext (.ref I)) _) (Ww (W.item 0 s _ _ (by omega) hst λv h1 tk hP st1 k1=>?_));have hS1:=k1 S _ hSw hS;have up:∀ b o,b≠S->h1.get? b=some o->(Vy h1 S (Obj.mapSeq λ_=>#[v,v])).get? b=some o:=λb o hn e=>(U6 _ _ (Ne.symm hn)).trans e;refine W0 (m:=updateSeq S (λ_=>#[v,v])) (XO hS1 rfl ?_);rw[nm];refine W5 ⟨XA F.plain_min_loop _,Dh W C hSf (n - 1) 0 _ v _ (by omega) (W.frame _ _ _ st1 λb hbf o e=>up b o (λz=>hSf (z▸hbf)) e) (C.keep _ _ (C.keep _ _ hG λb o hb _ e=>k1 b o hb e) λb o _ hn e=>up b o hn e) hP (UA _ hS1 rfl) λv' h2 tk2 hP' k2=>?_⟩;exact hR (by omega) v' h2 tk2 hP' λb o hbw hn e=>k2 b o hbw hn (up b o hn (k1 b o hbw e))
end
theorem Ct{a b:Int}{us:List Vz}(r:Vals [V.int a,V.int b] us):IntsAre us [a,b]:=by
 cases r with
 | cons r1 r2=>
   obtain⟨t1,rfl⟩:=r1;cases r2 with
   | cons r2 r3=>
     obtain⟨t2,rfl⟩:=r2;cases r3;exact .cons _ _ (.cons _ _ .nil)
theorem Di(a v:Vz):argsOk "min" ⟨[a],[(Str.ofString "default",v)]⟩:=by unfold argsOk;kernel_rfl
section
variable{prog:W8}{w:WC}{A:WH}{E:Vz->W4->Prop}{s:W4}
theorem Dj{l:W3}{items:Array Vz}{d:Vz}{Q:Vz->W4->Prop}(hh:A.handled=none)(hl:s.heap.IsList l items)(bt:Nat->Nat->Bool)(G:Heap->Prop)(hG:G s.heap)
 (hkeep:∀ h h',G h->(∀ b o,b<s.heap.objs.size->h.get? b=some o->h'.get? b=some o)->G h')
 (hcmp:∀(s':W4),G s'.heap->∀(i j:Nat) (vi vj:Vz) (Q:Vz->W4->Prop) (E:Vz->W4->Prop),items[i]?=some vi->items[j]?=some vj->Q (.bool (bt i j)) s'->W7 (WB prog w) A.in1 (X1 .Lt vi vj) Q E s')
 (h0:items.size=0->∀ h' tk,(∀ b o,s.heap.get? b=some o->h'.get? b=some o)->Q d {s with heap:=h',toks:=tk})
 (hR:0<items.size->∀ v h' tk,items[argBest bt (items.size - 1)]?=some v->(∀ b o,s.heap.get? b=some o->h'.get? b=some o)->Q v {s with heap:=h',toks:=tk}):
 W7 (WB prog w) A (call (.builtin "min") [.ref l] [(Str.ofString "default",d)]) Q E s:=by
 have nm:(toString "min"++toString ".loop":String)="min.loop":=by decide
 have hlt:l<s.heap.objs.size:=by obtain⟨o,ho,_⟩:=hl;exact Sb ho
 refine kmb_tree F.kind_min F.plain_min F.entry_min (Di _ _) ?_;refine W0 (m:=Builtin.Builtins.bindParams "min" ["key","default"] 0 ⟨[],[(Str.ofString "default",d)]⟩) (wpAny_of_eq (show Builtin.Builtins.bindParams "min" ["key","default"] 0 ⟨[],[(Str.ofString "default",d)]⟩=pure [none,some d] from rfl) ?_);refine W0 (W5 ?_);refine W0 (Wd hl ?_);refine W0 (WM ?_);rw[nm];have W:=Walks.list (prog:=prog) (w:=w) (A:=A.in1) hh s.heap.objs.size l (Sl hlt) items;have k1:∀ b o,s.heap.get? b=some o->((s.heap.push {cls := .type "list_iterator",data := .fields #[.ref l,.int 0 0]}).push {cls := .type "list",data := .seq ([]:List Vz).toArray}).get? b=some o:=λb o e=>Sa _ (Sa _ e);have nS:(s.heap.push {cls := .type "list_iterator",data := .fields #[.ref l,.int 0 0]}).objs.size=s.heap.objs.size+1:=by simp[TV]
 have C:CmpIn prog w A.in1 [s.heap.objs.size] (s.heap.push {cls := .type "list_iterator",data := .fields #[.ref l,.int 0 0]}).objs.size (λi v=>items[i]?=some v) bt G:=⟨λh h' g k=>hkeep h h' g λb o hb e=>k b o (by simp;exact Sl hb) (by rw[nS];exact Sl (UP hb)) e,hcmp⟩
 have old:∀(h:Heap),(∀ b o,b∉[s.heap.objs.size]->b≠(s.heap.push {cls := .type "list_iterator",data := .fields #[.ref l,.int 0 0]}).objs.size->((s.heap.push {cls := .type "list_iterator",data := .fields #[.ref l,.int 0 0]}).push {cls := .type "list",data := .seq ([]:List Vz).toArray}).get? b=some o->h.get? b=some o)->∀ b o,s.heap.get? b=some o->h.get? b=some o:=λh k b o e=>k b o (by simp;exact Sl (Sb e)) (by rw[nS];have:=Sb e;exact Sl (UP this)) (k1 b o e);refine W5 ⟨XA F.plain_min_loop _,Cs (d:=d) W C ?_ ?_ (hkeep _ _ hG λb o _ e=>k1 b o e) (So _ rfl) (λhz h' tk k=>h0 hz h' tk (old h' k)) (λhz v h' tk hv k=>hR hz v h' tk hv (old h' k))⟩
 ·rw[nS];simp only[Sm,U8,or_false,not_or];exact⟨Nat.succ_ne_self _,λz=>absurd hlt (by rw[<-z];exact Nat.not_lt_of_gt (UT _))⟩
 ·exact⟨⟨_,Sa _ (So _ rfl),rfl,rfl⟩,hl.at λo e=>k1 _ _ e⟩
end
section
variable{X:Cx}
noncomputable def K8(X:Cx)(f:Vz)(ks:List Str)(r:List V->List V->Hp->VK->Prop):Prop:=
 ∀(pq:List (W3×Obj)) (s:W4) (σ:St) (H:Hp) (vs zs:List V) (us ws:List Vz) (Q:VK),Inv X pq σ H s->Vals vs us->Vals zs ws->r vs zs H Q->W7 (WB X.prog X.w) X.A (call f us (ks.zip ws)) (EP X pq σ Q) X.xe s
noncomputable def SB(r:List V->List V->Hp->VK->Prop)(t tk:TA):TE:=λσ H Q=>t σ H λvs H1=>tk σ H1 λzs H2=>r vs zs H2 Q
theorem IQ{id:String}{ks:List Str}{r:List V->List V->Hp->VK->Prop}{x:Str}{p pos:Pos}{e:Expr}{es:List Expr}{kws:List Keyword}{t tk:TA}(hc:K8 X (.builtin id) ks r)(hg:Gl X x)(hm:X.mg x=none)(hv:WD x=some (.builtin id))(ha:PA X (e::es) t)(hkw:PK X kws tk)
 (hks:(X4 pos (Wl kws X.env)).filterMap (·.1)=ks:=by rfl) (hn:x≠"__name__":=by decide) (hdb:(x == ("__debug__":Str))=false:=by decide)
 (he:backTo pos (WG (e::es) X.env)=(false,eval e X.env)::backTo pos (WG es X.env):=by rfl) (hpl:(backTo pos (WG (e::es) X.env)).any (·.1)=false:=by rfl)
 (hall:(X4 pos (Wl kws X.env)).all (·.1.isSome)=true:=by rfl) (hno:(X4 pos (Wl kws X.env)).any (·.1.isNone)=false:=by rfl):PE X (.Call (.Name x p) (e::es) kws pos) (SB r t tk):=by
 intro pq s σ H Q I h;refine Wr (AT I hg hm hv ?_ hn hdb);refine callWith_kw (thn (ha pos pq s σ H _ I h) λus s1 ⟨vs,H1,I1,r1,q1⟩=>thn (hkw pos pq s1 σ H1 _ I1 q1) λws s2 ⟨zs,H2,I2,r2,q2⟩=>?_) he hpl hall hno;rw[hks];exact hc pq s2 σ H2 vs zs us ws Q I2 r1 r2 q2
noncomputable def MW(H:Hp)(vs:List V)(ps:List (Int×Int)):Prop:=vs.length=ps.length/\∀(i:Nat) (p:Int×Int),ps[i]?=some p->∃ q,vs[i]?=some (.ref q)/\H q=some (.tup [.int p.1,.int p.2])
noncomputable def lt2(p q:Int×Int):Bool:=HT.lexLt [p.1,p.2] [q.1,q.2]
noncomputable def R8:List V->List V->Hp->VK->Prop:=λxs zs H Q=>∃ l vs ps,xs=[.ref l]/\zs=[.non]/\H l=some (.lst vs)/\MW H vs ps/\(ps=[]->Q .non H)/\
 ∀(i:Nat) p q,ps[i]?=some p->vs[i]?=some (.ref q)->i=argBest (λa b=>lt2 (ps.getD a (0,0)) (ps.getD b (0,0))) (ps.length - 1)->0<ps.length->Q (.ref q) H
theorem IR(hc:X.calm=true)(hu:X.A.units+1<cLine):K8 X (.builtin "min") ["default"] R8:=by
 intro pq s σ H xs zs us ws Q I r rz h;obtain⟨l,vs,ps,rfl,rfl,hl,⟨hlen,hps⟩,q0,q1⟩:=h;obtain⟨u,rfl,ru⟩:=AI r;cases ru;obtain⟨z,rfl,rz'⟩:=AI rz;cases rz';obtain⟨its,rv,pl,hz⟩:=I.list (SqL.of hl);have hl2:=rv.length
 have tup:∀(i:Nat) (v:Vz),its.toArray[i]?=some v->∃ q p,v = .ref q/\ps[i]?=some p/\vs[i]?=some (.ref q)/\H q=some (.tup [.int p.1,.int p.2])/\∃ ti:List Vz,IsTup s.heap q ti.toArray/\IntsAre ti [p.1,p.2]:=λi v hv=>by
  have hv':its[i]?=some v:=by simpa using hv
  have hi:i<ps.length:=by have:=(gM hv').1;omega
  obtain⟨q,e1,e2⟩:=hps i ps[i] (by simp[hi]);obtain⟨u',eu,ru'⟩:=rv.get e1;rw[hv']at eu;cases eu;cases ru';obtain⟨ti,rt,pt,_⟩:=I.tuple (SqT.of e2);exact⟨q,ps[i],rfl,by simp[hi],e1,e2,ti,pt,Ct rt⟩
 refine Dj (I.ok.hd hc) pl.isList (λa b=>lt2 (ps.getD a (0,0)) (ps.getD b (0,0))) (λh=>∀(i:Nat) (v:Vz),its.toArray[i]?=some v->∃ q p,v = .ref q/\q<s.heap.objs.size/\ps[i]?=some p/\∃ ti:List Vz,IsTup h q ti.toArray/\IntsAre ti [p.1,p.2]) ?_ ?_ ?_ ?_ ?_
 ·intro i v hv;obtain⟨q,p,e1,e2,_,_,ti,e3,e4⟩:=tup i v hv;obtain⟨o,ho,_⟩:=e3;exact⟨q,p,e1,Sb ho,e2,ti,⟨o,ho,by assumption⟩,e4⟩
 ·intro h h' g k i v hv;obtain⟨q,p,e1,e2,e3,ti,⟨o,ho,hr⟩,e5⟩:=g i v hv;exact⟨q,p,e1,e2,e3,ti,⟨o,k q o e2 ho,hr⟩,e5⟩
 ·intro s' g i j vi vj Q' E' hi hj q;obtain⟨qi,pi,rfl,_,ei,ti,ti1,ti2⟩:=g i vi hi;obtain⟨qj,pj,rfl,_,ej,tj,tj1,tj2⟩:=g j vj hj;refine HT.lt_tupInts ti1 tj1 (by simpa using ti2) (by simpa using tj2) (show X.A.units+1<cLine from hu) ?_;have e1:ps.getD i (0,0)=pi:=by simp[Th,ei]
  have e2:ps.getD j (0,0)=pj:=by simp[Th,ej]
  rw[e1,e2]at q;exact q
 ·intro hz' h' tk k
  have:ps=[]:=by
   cases ps with
   | nil=>rfl
   | cons p r=>rw[SZ]at hz';simp at hlen;omega
  exact⟨.non,H,I.kept (t':=tk) k,rfl,q0 this⟩
 ·intro hp v h' tk hv k;obtain⟨q,p,rfl,e2,e3,e4,_⟩:=tup _ v hv;have hsz:its.toArray.size=ps.length:=by rw[SZ];omega
  rw[hsz]at e2 e3 hp;exact⟨.ref q,H,I.kept (t':=tk) k,rfl,q1 _ p q e2 e3 rfl hp⟩
end
section
variable{prog:W8}{w:WC}{κ:Type}[DecidableEq κ]{knd:HeapKind prog w κ}{A:WH}{E:Vz->W4->Prop}{s:W4}
theorem Fm{d a:W3}{o:Obj}{es:Array DictEntry}{ep:Nat}{xs:List (κ×W3×Vz)}{k:κ}{v:Vz}(hkey:knd.is s.heap k a)(ho:s.heap.get? d=some o)(hc:o.ExactDict)(hd:o.data = .dict es ep)(he:es.toList=xs.map (Xl knd))(his:∀ x∈xs,knd.is s.heap x.1 x.2.1)(hn:(xs.map (·.1)).Nodup)
 (hno:atKey xs k=none) (hnot:k∉xs.map (·.1)):(s.heap.update d (Obj.mapDictKeys (·.push ⟨knd.hash k,.ref a,v⟩))).DictOfH knd d (storedH xs k a v):=by
 have same:Tv d s.heap (s.heap.update d (Obj.mapDictKeys (·.push ⟨knd.hash k,.ref a,v⟩))):=Tv.update ..;rw[storedH_new hno];refine⟨_,_,ep+1,UA _ ho (Obj.isFreed_of_dict (Obj.data_mapDictKeys hd _)),hc.mapDictKeys _,Obj.data_mapDictKeys hd _,by simp[he,Xl],λx hx=>?_,?_⟩
 ·have hx':x∈xs\/x=(k,a,v):=by simpa using hx
  rcases hx' with hx' | rfl
  ·exact knd.keeps (his x hx') ho hd same
  ·exact knd.keeps hkey ho hd same
 ·rw[Sx];exact UQ.mpr ⟨hn,by simp,λx hx y hy z=>hnot (by simp at hy;subst hy;rw[<-z];exact hx)⟩
theorem K9{d a:W3}{xs:List (κ×W3×Vz)}{k:κ}{v:Vz}{Q:Vz->W4->Prop}(hu:knd.room A)(hkey:knd.is s.heap k a)(hm:s.heap.DictOfH knd d xs)
 (h1:∀ p,atKey xs k=some p->∀ tk,Q p.2 {s with toks:=tk})
 (h2:atKey xs k=none->∀ h' tk,h'.DictOfH knd d (storedH xs k a v)->Tv d s.heap h'->Q v {s with heap:=h',toks:=tk}) (hsz:xs.length<=W6):W7 (WB prog w) A (XQ d (.ref a) v) Q E s:=by
 obtain⟨o,es,ep,ho,hc,hd,he,his,hn⟩:=id hm;unfold XQ
 try with_reducible refine Wf ?_
 refine W0 (knd.pyHash hu hkey (W0 (wpAny_dictFind_heap (s:={s with toks:=s.toks+knd.draws k}) hu hkey ho hd he his hn (λhno=>?_) (λj p hj=>?_))))
 ·have e0:=atKey_none_of_get hno;refine W0 (Wq (W0 (wpAny_updateDictKeys (hz:=by have e:=size_of_entries he;omega) (s:={s with toks:=s.toks+knd.draws k}) ho hd (W5 ?_))));exact h2 e0 _ _ (Fm hkey ho hc hd he his hn e0 (not_mem_keys_of_get hno)) (Tv.update ..)
 ·refine W0 (wpAny_dictEntries (s:={s with toks:=s.toks+knd.draws k}) ho hd ?_);rw[entry_at he j,hj];exact W0 (Wq (W5 (h1 p (atKey_of_get hn hj) _)))
theorem CJ(d a:W3)(hd:(d == We)=false)(v:Vz):
 MeetsIn prog w (Builtin.«dict.setdefault» ⟨[.ref d,.ref a,v],[]⟩) (λA R s=>knd.room A.in1/\∃ k xs,knd.is s.heap k a/\s.heap.DictOfH knd d xs/\xs.length<=W6/\s.TypeIs (.ref d) "dict"/\
  (∀ p,atKey xs k=some p->∀ tk,R (.ok (.ret p.2)) {s with toks:=tk})/\
  (atKey xs k=none->∀ h' tk,h'.DictOfH knd d (storedH xs k a v)->Tv d s.heap h'->R (.ok (.ret v)) {s with heap:=h',toks:=tk})):=
 .of_wp λA R s ⟨hu,k,xs,hkey,hm,hz,ht,h1,h2⟩=>by
  unfold Builtin.«dict.setdefault»;refine W0 ?_;unfold Builtin.Dict.keyAndDefault;refine W0 (wpAny_notOrdered_dict ht ?_);refine W5 ?_;show W7 _ _ (if (d == We)=true then _ else (XQ d (.ref a) v >>= _)) _ _ s;rw[hd];rw[iG Si];exact W0 (K9 hu hkey hm (λp e tk=>W5 ⟨p.2,rfl,h1 p e tk⟩) (λe h' tk m' b'=>W5 ⟨v,rfl,h2 e h' tk m' b'⟩) hz)
end
section
variable{X:Cx}{o e f:Expr}{apos cpos:Pos}{td ty tx:TE}
noncomputable def R9(td ty tx:TE):TE:=λσ H Q=>td σ H λx H1=>∃ a,x = .ref a/\IsD H1 a/\ty σ H1 λy H2=>tx σ H2 λz H3=>∃ kvs k b,y = .ref b/\H3 a=some (.dT kvs)/\H3 b=some (.tup (k.map kV))/\kvs.length<W6/\
 (∀ v,v4 kvs k=some v->Q v H3)/\(v4 kvs k=none->Q z (upd H3 a (.dT (B1 kvs k z))))
theorem MX(hu:X.A.units+1<cLine)(ho:PE X o td)(he:PE X e ty)(hf:PE X f tx)(m:M2 X o "setdefault" apos e f cpos):PE X (.Call (.Attribute o "setdefault" apos) [e,f] [] cpos) (R9 td ty tx):=by
 intro pq s σ H Q I h;refine wpAny_Call_method m.base m.few m.line PySem.F.plainAttrs_dict PySem.F.slot_dict_setdefault PySem.F.type_dict_setdefault (thn (ho pq s σ H _ I h) λu s1 ⟨x,H1,I1,rx,a,ex,d,q1⟩=>?_);subst ex;obtain rfl:u=Value.ref a:=rx;obtain⟨t1,t2,_⟩:=P7 I1 d;refine⟨t1,t2,?_⟩;rw[m.trees]
 refine Calls.callWith_builtin rfl (Calls.evalArgs_plain (Calls.spliced_cons (thn (he pq s1 σ H1 _ I1 q1) λiv s2 ⟨y,H2,I2,ry,q2⟩=>
  Calls.spliced_cons (thn (hf pq s2 σ H2 _ I2 q2) λfv s3 ⟨z,H3,I3,rz,kvs,k,b,ey,ha,hb,hz,qs,qn⟩=>Calls.spliced_nil ?_))))
 subst ey;cases ry;obtain⟨hl,hd,xs,rel,dd⟩:=R0 I3.hok ha;have hxl:xs.length<=W6:=by rw[<-Paired.length rel];exact hl
 refine call_meetsIn PySem.F.slot_dict_setdefault dd.typeIs PySem.F.entry_dict_setdefault (PySem.F.args_dict_setdefault_3 _ _ _) (CJ (knd:=XC (m9 X.prog X.w)) a b hd fv) ⟨tupleKind_room_in1 hu,k,xs,Jn I3.hok hb,dd,hxl,dd.typeIs,λp e tk=>?_,λe h' tk dd' hs=>?_⟩
 ·have rv:=rel.val k;rw[e]at rv;cases hv:v4 kvs k with
  | none=>rw[hv]at rv;exact rv.elim
  | some v=>rw[hv]at rv;exact⟨v,H3,I3.tok tk,rv,qs v hv⟩
 ·have hv:v4 kvs k=none:=by
   have rv:=rel.val k;rw[e]at rv;cases hv:v4 kvs k with
   | none=>rfl
   | some v=>rw[hv]at rv;exact rv.elim
  refine⟨z,_,?_,rz,qn hv⟩;obtain⟨q,es,ep,hq,h2,h3,h4,_,h5⟩:=dd';have hl2:(B1 kvs k z).length<=W6:=by have:=ES kvs k z;omega
  refine MD I3 (by rw[ha];exact True.intro) hs ⟨q,hq⟩ ⟨hl2,hd,_,(rel.put k hb rz).keeps λc ys ec=>?_,q,es,ep,hq,h2,h3,h4,h5⟩;rw[f9 (NZ ec ha (λz=>nomatch z))];exact ec
end
section
variable{X:Cx}
noncomputable def gtB(ns:List Int)(a b:Nat):Bool:=decide (ns.getD a 0>ns.getD b 0)
theorem HA(ns:List Int):∀ k j,j<=k->ns.getD j 0<=ns.getD (argBest (gtB ns) k) 0
 | 0,j,hj=>by
   have:j=0:=by omega
   subst this;exact V7 _
 | k+1,j,hj=>by
   have ih:=HA ns k;simp only[argBest];split
   ·rename_i hb;have hb:=of_decide_eq_true hb;by_cases e:j=k+1
    ·subst e;exact V7 _
    ·have:=ih j (by omega);omega
   ·rename_i hb;have hb:¬ ns.getD (k+1) 0>ns.getD (argBest (gtB ns) k) 0:=λz=>hb (decide_eq_true z);by_cases e:j=k+1
    ·subst e;omega
    ·exact ih j (by omega)
theorem CK(bt:Nat->Nat->Bool):∀ k,argBest bt k<=k
 | 0=>Sd _
 | k+1=>by
   simp only[argBest];split
   ·exact Sd _
   ·exact Nat.le_succ_of_le (CK bt k)
noncomputable def Grt(ns:List Int)(m:Int):Prop:=m∈ns/\∀ n∈ns,n<=m
theorem KA{ns:List Int}(h:0<ns.length):Grt ns (ns.getD (argBest (gtB ns) (ns.length - 1)) 0):=by
 have hb:=CK (gtB ns) (ns.length - 1);have hlt:argBest (gtB ns) (ns.length - 1)<ns.length:=by omega
 refine⟨by rw[show ns.getD (argBest (gtB ns) (ns.length - 1)) 0=ns[argBest (gtB ns) (ns.length - 1)] by simp[Th,hlt]];exact TY hlt,λn hn=>?_⟩;obtain⟨j,hj⟩:=Tp hn;have hjl:=(gM hj).1;have:=HA ns (ns.length - 1) j (by omega);rw[show ns.getD j 0=n by simp[Th,hj]]at this;exact this
theorem C0{ns:List Int}{its:List Vz}(rv:Vals (ns.map V.int) its){i:Nat}{v:Vz}(h:its[i]?=some v):∃ n t,ns[i]?=some n/\v = .int n t:=by
 have hl:=rv.length;rw[SX]at hl;have hi:i<ns.length:=by have:=(gM h).1;omega
 have e:(ns.map V.int)[i]?=some (.int ns[i]):=by simp[hi]
 obtain⟨u,eu,ru⟩:=rv.get e;rw[h]at eu;cases eu;obtain⟨t,rfl⟩:=ru;exact⟨_,t,by simp[hi],rfl⟩
theorem IS(hc:X.calm=true):CallR X (.builtin "max") (λxs H Q=>∃ l ns,xs=[.ref l]/\H l=some (.lst (ns.map V.int))/\0<ns.length/\∀ m,Grt ns m->Q (.int m) H):=by
 intro pq s σ H xs us Q I r h;obtain⟨l,ns,rfl,hl,hn,q1⟩:=h;obtain⟨u,rfl,ru⟩:=AI r;cases ru;obtain⟨its,rv,pl,hz⟩:=I.list (SqL.of hl);have hl2:ns.length=its.length:=by have:=rv.length;rwa [SX]at this
 have hlt:l<s.heap.objs.size:=by obtain⟨o,ho,_⟩:=pl.isList;exact Sb ho
 have hne:l≠s.heap.objs.size:=Sl hlt;refine call_max_walk (Wd pl.isList ⟨s.heap.objs.size,[s.heap.objs.size,l],[s.heap.objs.size],its.toArray.size,_,_,gtB ns,rfl,Walks.list (prog:=X.prog) (w:=X.w) (A:=X.A.in1) (I.ok.hd hc) s.heap.objs.size l hne its.toArray,?_,?_,?_,?_,?_⟩)
 ·exact⟨⟨_,So _ rfl,rfl,rfl⟩,pl.isList.at λo e=>Sa _ e⟩
 ·intro b hb;rcases Sm.mp hb with rfl | hb
  ·show _<(s.heap.push _).objs.size;rw[TV];exact UT _
  ·rw[Sg.mp hb];show _<(s.heap.push _).objs.size;rw[TV];exact UP hlt
 ·rw[SZ];omega
 ·exact CmpOf.ints_gt (λi=>ns.getD i 0) (λi v h=>by
   obtain⟨n,t1,e1,rfl⟩:=C0 rv (show its[i]?=some v by simpa using h);exact⟨t1,by simp[Th,e1]⟩)
 ·intro v h' tk hv k;obtain⟨n,t1,e1,rfl⟩:=C0 rv (show its[argBest (gtB ns) (its.toArray.size - 1)]?=some v by simpa using hv);have hsz:its.toArray.size=ns.length:=by rw[SZ];omega
  rw[hsz]at e1;have g:=KA hn;rw[show ns.getD (argBest (gtB ns) (ns.length - 1)) 0=n by simp[Th,e1]]at g;refine⟨.int n,H,I.kept (t':=tk) (λb o e=>k b o (λz=>?_) (Sa _ e)),⟨t1,rfl⟩,q1 n g⟩;rw[Sg.mp z]at e;exact Tu _ (Sb e)
theorem MY{body:List Stmt}{h₀:XB}{hs:List XB}{pos:Pos}{t:TS}(hx:∀ e s,¬ X.xe e s)(hb:PSs X body t):PS X (.Try body (h₀::hs) [] [] pos) t:=by
 intro pq s σ H D I hw;refine wpAny_Try_except (Wj (hb pq s σ H D I hw) (λf s1 q=>?_) λe s1 z=>(hx e s1 z).elim);cases f with
 | next=>exact X2 q
 | _=>exact q
noncomputable def ltB(ns:List Int)(a b:Nat):Bool:=decide (ns.getD a 0<ns.getD b 0)
theorem HB(ns:List Int):∀ k j,j<=k->ns.getD (argBest (ltB ns) k) 0<=ns.getD j 0
 | 0,j,hj=>by
   have:j=0:=by omega
   subst this;exact V7 _
 | k+1,j,hj=>by
   have ih:=HB ns k;simp only[argBest];split
   ·rename_i hb;have hb:=of_decide_eq_true hb;by_cases e:j=k+1
    ·subst e;exact V7 _
    ·have:=ih j (by omega);omega
   ·rename_i hb;have hb:¬ ns.getD (k+1) 0<ns.getD (argBest (ltB ns) k) 0:=λz=>hb (decide_eq_true z);by_cases e:j=k+1
    ·subst e;omega
    ·exact ih j (by omega)
noncomputable def Sml(ns:List Int)(m:Int):Prop:=m∈ns/\∀ n∈ns,m<=n
theorem KB{ns:List Int}(h:0<ns.length):Sml ns (ns.getD (argBest (ltB ns) (ns.length - 1)) 0):=by
 have hb:=CK (ltB ns) (ns.length - 1);have hlt:argBest (ltB ns) (ns.length - 1)<ns.length:=by omega
 refine⟨by rw[show ns.getD (argBest (ltB ns) (ns.length - 1)) 0=ns[argBest (ltB ns) (ns.length - 1)] by simp[Th,hlt]];exact TY hlt,λn hn=>?_⟩;obtain⟨j,hj⟩:=Tp hn;have hjl:=(gM hj).1;have:=HB ns (ns.length - 1) j (by omega);rw[show ns.getD j 0=n by simp[Th,hj]]at this;exact this
theorem IT(hc:X.calm=true):CallR X (.builtin "min") (λxs H Q=>∃ l ns,xs=[.ref l]/\H l=some (.lst (ns.map V.int))/\0<ns.length/\∀ m,Sml ns m->Q (.int m) H):=by
 intro pq s σ H xs us Q I r h;obtain⟨l,ns,rfl,hl,hn,q1⟩:=h;obtain⟨u,rfl,ru⟩:=AI r;cases ru;obtain⟨its,rv,pl,hz⟩:=I.list (SqL.of hl);have hl2:ns.length=its.length:=by have:=rv.length;rwa [SX]at this
 have hlt:l<s.heap.objs.size:=by obtain⟨o,ho,_⟩:=pl.isList;exact Sb ho
 have hne:l≠s.heap.objs.size:=Sl hlt;refine call_min_walk (Wd pl.isList ⟨s.heap.objs.size,[s.heap.objs.size,l],[s.heap.objs.size],its.toArray.size,_,_,ltB ns,rfl,Walks.list (prog:=X.prog) (w:=X.w) (A:=X.A.in1) (I.ok.hd hc) s.heap.objs.size l hne its.toArray,?_,?_,?_,?_,?_⟩)
 ·exact⟨⟨_,So _ rfl,rfl,rfl⟩,pl.isList.at λo e=>Sa _ e⟩
 ·intro b hb;rcases Sm.mp hb with rfl | hb
  ·show _<(s.heap.push _).objs.size;rw[TV];exact UT _
  ·rw[Sg.mp hb];show _<(s.heap.push _).objs.size;rw[TV];exact UP hlt
 ·rw[SZ];omega
 ·exact CmpOf.ints_lt (λi=>ns.getD i 0) (λi v h=>by
   obtain⟨n,t1,e1,rfl⟩:=C0 rv (show its[i]?=some v by simpa using h);exact⟨t1,by simp[Th,e1]⟩)
 ·intro v h' tk hv k;obtain⟨n,t1,e1,rfl⟩:=C0 rv (show its[argBest (ltB ns) (its.toArray.size - 1)]?=some v by simpa using hv);have hsz:its.toArray.size=ns.length:=by rw[SZ];omega
  rw[hsz]at e1;have g:=KB hn;rw[show ns.getD (argBest (ltB ns) (ns.length - 1)) 0=n by simp[Th,e1]]at g;refine⟨.int n,H,I.kept (t':=tk) (λb o e=>k b o (λz=>?_) (Sa _ e)),⟨t1,rfl⟩,q1 n g⟩;rw[Sg.mp z]at e;exact Tu _ (Sb e)
theorem Bv(n:Int):∀{ns:List Int} {its:List Vz},Vals (ns.map V.int) its->its.countP (eqU (.int n))=ns.count n
 | [],_,r=>by cases r;rfl
 | m::ns,_,r=>by
   cases r with
   | cons r1 r2=>
     rw[List.countP_cons,List.count_cons,Bv n r2,DX r1 rfl];rfl
noncomputable def HC:V->List V->Hp->VK->Prop:=λx vs H Q=>∃(l:W3) (ns:List Int) (n:Int),x = .ref l/\vs=[.int n]/\H l=some (.lst (ns.map V.int))/\Q (.int (ns.count n:Nat)) H
theorem DC:MtM X "list.count" HC:=by
 intro pq s σ H x vs v us Q I rx rv h;obtain⟨l,ns,n,rfl,rfl,hH,q⟩:=h;cases rx;obtain⟨u,rfl,ru⟩:=rv.one;obtain⟨z,its,k,r,hl,e⟩:=I.lstM hH
 have fl:(ns.map V.int).all l8=true:=Sy.mpr λv hv=>by
  obtain⟨n,_,rfl⟩:=TJ.mp hv;rfl
 refine Wh F.slot_list_count ⟨_,e,rfl⟩ F.entry_list_count (F.args_list_count_2 _ _) (SeqAt.list_countAt l its.toArray k none #[] u (eqU (.int n))) ⟨e,λy hy=>y7 ru rfl r fl y (by simpa using hy),?_⟩;show EP X pq σ Q (.int ((its.toArray.toList.countP (eqU (.int n)):Nat):Int) s.toks) _;rw[show its.toArray.toList=its from rfl,Bv n r];exact⟨.int (ns.count n:Nat),H,I.tok _,⟨_,rfl⟩,q⟩
end
end L2
namespace Rf
open PySem L2
inductive BI where
 | len | abs | min | max | int | list | tuple | all | any | sorted | isi | str | repr
 deriving DecidableEq
noncomputable def BI.name:BI->Str
 | .len=>"len" | .abs=>"abs" | .min=>"min" | .max=>"max" | .int=>"int" | .list=>"list" | .tuple=>"tuple" | .all=>"all" | .any=>"any" | .sorted=>"sorted" | .isi=>"isinstance" | .str=>"str" | .repr=>"repr"
noncomputable def blS:List SV->Option (List Bool)
 | []=>some []
 | .bl b::xs=>(blS xs).map (b::·)
 | _::_=>none
noncomputable def Fn:List SV->Option (List Int)
 | []=>some []
 | .int i::xs=>(Fn xs).map (i::·)
 | _::_=>none
noncomputable def tyS:SV->Sto->Option TyN
 | .non,_=>some .none
 | .bl _,_=>some .bool
 | .int _,_=>some .int
 | .str _,_=>some .str
 | .tup _,_=>some .tuple
 | .loc k,S=>match S[k]? with | some (.lst _)=>some .list | _=>none
 | _,_=>none
noncomputable def EY:TyN->TyN->Bool
 | .bool,.int=>true
 | a,b=>decide (a=b)
noncomputable def IU:List SV->Option (List TyN)
 | []=>some []
 | .ty t::xs=>(IU xs).map (t::·)
 | _::_=>none
noncomputable def a0(f:Sto->QE->Prop):Sn:=λxs S Q=>match xs with | []=>f S Q | _=>False
noncomputable def a1(f:S1):Sn:=λxs S Q=>match xs with | [x]=>f x S Q | _=>False
noncomputable def a2(f:S2):Sn:=λxs S Q=>match xs with | [x,y]=>f x y S Q | _=>False
noncomputable def oI(f:Int->Sto->QE->Prop):S1:=λx S Q=>match x with | .int i=>f i S Q | _=>False
theorem Bg{f:S1}{xs:List SV}{S:Sto}{Q:QE}(h:a1 f xs S Q):∃ x,xs=[x]/\f x S Q:=match xs,h with | [x],h=>⟨x,rfl,h⟩
theorem KC{f:S2}{xs:List SV}{S:Sto}{Q:QE}(h:a2 f xs S Q):∃ x y,xs=[x,y]/\f x y S Q:=match xs,h with | [x,y],h=>⟨x,y,rfl,h⟩
theorem B3{f:Int->Sto->QE->Prop}{x:SV}{S:Sto}{Q:QE}(h:oI f x S Q):∃ i,x = .int i/\f i S Q:=match x,h with | .int i,h=>⟨i,rfl,h⟩
theorem t6{f:S1}(m:EU f):MonoN (a1 f):=λxs S P P' i h=>by
 replace h:=Bg h;obtain⟨x,rfl,h⟩:=h;exact m x S P P' i h
theorem C1{f:S2}(m:Mono2 f):MonoN (a2 f):=λxs S P P' i h=>by
 replace h:=KC h;obtain⟨x,y,rfl,h⟩:=h;exact m x y S P P' i h
theorem MZ{f:Int->Sto->QE->Prop}(m:∀ k S P P',(∀ x S',P x S'->P' x S')->f k S P->f k S P'):EU (oI f):=λx S P P' i h=>by
 replace h:=B3 h;obtain⟨k,rfl,h⟩:=h;exact m k S P P' i h
noncomputable def RA:S1
 | .int i,S,Q=>Q (.int i) S
 | .bl b,S,Q=>Q (.int (if b then 1 else 0)) S
 | _,_,_=>False
theorem Nn{x:SV}{S:Sto}{Q:QE}(h:RA x S Q):(∃ i,x = .int i/\Q (.int i) S)\/∃ b,x = .bl b/\Q (.int (if b then 1 else 0)) S:=match x,h with
 | .int i,h => .inl ⟨i,rfl,h⟩
 | .bl b,h => .inr ⟨b,rfl,h⟩
noncomputable def RB:S2:=λx y S Q=>match y with
 | .ty t=>∃ a,t ≠ .none/\tyS x S=some a/\Q (.bl (EY a t)) S
 | .tup ts=>∃ a bs,TyN.none∉bs/\tyS x S=some a/\IU ts=some bs/\Q (.bl (bs.any (EY a))) S
 | _=>False
theorem No{x y:SV}{S:Sto}{Q:QE}(h:RB x y S Q):(∃ t a,y = .ty t/\t ≠ .none/\tyS x S=some a/\Q (.bl (EY a t)) S)\/∃ ts a bs,y = .tup ts/\TyN.none∉bs/\tyS x S=some a/\IU ts=some bs/\Q (.bl (bs.any (EY a))) S:=match y,h with
 | .ty t,⟨a,h⟩ => .inl ⟨t,a,rfl,h⟩
 | .tup ts,⟨a,bs,h⟩ => .inr ⟨ts,a,bs,rfl,h⟩
noncomputable def SC:S1:=λx S Q=>∃ xs,seqS x S=some xs/\Q (.int xs.length) S
noncomputable def SD:S1:=oI λi S Q=>Q (.int (if i<0 then -i else i)) S
noncomputable def SE:S2:=λx y S Q=>oI (λi S Q=>oI (λj S Q=>Q (.int (if j<i then j else i)) S) y S Q) x S Q
noncomputable def SF:S2:=λx y S Q=>oI (λi S Q=>oI (λj S Q=>Q (.int (if j>i then j else i)) S) y S Q) x S Q
noncomputable def RC:S1:=λx S Q=>∃ xs,seqS x S=some xs/\Q (.loc S.length) (S++[.lst xs])
noncomputable def PN:S1:=λx S Q=>∃ xs,seqS x S=some xs/\Q (.tup xs) S
noncomputable def SG:S1:=λx S Q=>∃ xs bs,x ≠ .tup xs/\seqS x S=some xs/\blS xs=some bs/\Q (.bl (bs.all id)) S
noncomputable def SH:S1:=λx S Q=>∃ xs bs,x ≠ .tup xs/\seqS x S=some xs/\blS xs=some bs/\Q (.bl (bs.any id)) S
noncomputable def Ma:S1:=λx S Q=>∃ xs ns,x ≠ .tup xs/\seqS x S=some xs/\Fn xs=some ns/\ns.length<64/\Q (.loc S.length) (S++[.lst ((srt ns).map SV.int)])
noncomputable def sBi:BI->Sn
 | .len=>a1 SC
 | .abs=>a1 SD
 | .min=>a2 SE
 | .max=>a2 SF
 | .int=>a1 RA
 | .list=>a1 RC
 | .tuple=>a1 PN
 | .all=>a1 SG
 | .any=>a1 SH
 | .sorted=>a1 Ma
 | .isi=>a2 RB
 | .str=>λ_ _ _=>False
 | .repr=>λ_ _ _=>False
theorem MonoN.bi:∀{b:BI},MonoN (sBi b)
 | .len=>t6 λ_ _ _ _ i ⟨a,c,d⟩=>⟨a,c,i _ _ d⟩
 | .abs=>t6 (MZ λ_ _ _ _ i h=>i _ _ h)
 | .min=>C1 λx y S P P' i h=>by
   replace h:=B3 h;obtain⟨k,rfl,h1⟩:=h;obtain⟨l,rfl,h2⟩:=B3 h1;exact i _ _ h2
 | .max=>C1 λx y S P P' i h=>by
   replace h:=B3 h;obtain⟨k,rfl,h1⟩:=h;obtain⟨l,rfl,h2⟩:=B3 h1;exact i _ _ h2
 | .int=>t6 λx S P P' i h=>by
   replace h:=Nn h;rcases h with⟨k,rfl,h⟩ | ⟨b,rfl,h⟩
   ·exact i _ _ h
   ·exact i _ _ h
 | .list=>t6 λ_ _ _ _ i ⟨a,c,d⟩=>⟨a,c,i _ _ d⟩
 | .tuple=>t6 λ_ _ _ _ i ⟨a,c,d⟩=>⟨a,c,i _ _ d⟩
 | .all=>t6 λ_ _ _ _ i ⟨a,b,c,d,e,f⟩=>⟨a,b,c,d,e,i _ _ f⟩
 | .any=>t6 λ_ _ _ _ i ⟨a,b,c,d,e,f⟩=>⟨a,b,c,d,e,i _ _ f⟩
 | .sorted=>t6 λ_ _ _ _ i ⟨a,b,c,d,e,f,g⟩=>⟨a,b,c,d,e,f,i _ _ g⟩
 | .isi=>C1 λx y S P P' i h=>by
   replace h:=No h;rcases h with⟨t,a,rfl,h1,h2,h⟩ | ⟨ts,a,bs,rfl,h1,h2,h3,h⟩
   ·exact⟨a,h1,h2,i _ _ h⟩
   ·exact⟨a,bs,h1,h2,h3,i _ _ h⟩
 | .str=>λ_ _ _ _ _ h=>h
 | .repr=>λ_ _ _ _ _ h=>h
section
variable{K:SU}{as:List W3}{H:Hp}{S:Sto}
theorem Fo:∀{xs:List SV} {bs:List Bool} {vs:List V},blS xs=some bs->RlAll K as H vs xs->vs=bs.map V.bl
 | [],_,_,e,r=>by cases e;exact rla_nil.mp r
 | .bl b::xs,_,_,e,r=>by
   obtain⟨v,vs,rfl,r1,r2⟩:=rla_cons.mp r;unfold blS at e;cases h:blS xs with
   | none=>rw[h]at e;cases e
   | some cs=>
     rw[h]at e;cases e;rw[rl_bl.mp r1,Fo h r2];rfl
 | .non::_,_,_,e,_=>by cases e
 | .int _::_,_,_,e,_=>by cases e
 | .str _::_,_,_,e,_=>by cases e
 | .tup _::_,_,_,e,_=>by cases e
 | .loc _::_,_,_,e,_=>by cases e
 | .ro _::_,_,_,e,_=>by cases e
 | .ty _::_,_,_,e,_=>by cases e
theorem HD:∀{xs:List SV} {bs:List Int} {vs:List V},Fn xs=some bs->RlAll K as H vs xs->vs=bs.map V.int
 | [],_,_,e,r=>by cases e;exact rla_nil.mp r
 | .int b::xs,_,_,e,r=>by
   obtain⟨v,vs,rfl,r1,r2⟩:=rla_cons.mp r;unfold Fn at e;cases h:Fn xs with
   | none=>rw[h]at e;cases e
   | some cs=>
     rw[h]at e;cases e;rw[rl_int.mp r1,HD h r2];rfl
 | .non::_,_,_,e,_=>by cases e
 | .bl _::_,_,_,e,_=>by cases e
 | .str _::_,_,_,e,_=>by cases e
 | .tup _::_,_,_,e,_=>by cases e
 | .loc _::_,_,_,e,_=>by cases e
 | .ro _::_,_,_,e,_=>by cases e
 | .ty _::_,_,_,e,_=>by cases e
theorem o9{x:SV}{v:V}{xs:List SV}(ok:Ok K as H S)(r:Rl K as H v x)(n:x ≠ .tup xs)(h:seqS x S=some xs):∃ a vs,v = .ref a/\SqL K H a vs/\RlAll K as H vs xs:=by
 cases x with
 | tup ys=>cases h;exact absurd rfl n
 | ro ys=>
   cases h;obtain⟨p,vs,rfl,hp,rr⟩:=rl_ro.mp r;exact⟨p,vs,rfl,hp.sq,rr⟩
 | loc k=>
   obtain⟨a,ea,rfl⟩:=rl_loc.mp r;unfold seqS at h;cases hs:S[k]? with
   | none=>simp only[hs]at h;cases h
   | some o=>
     cases o with
     | lst ys=>
       simp only[hs]at h;cases h;obtain⟨vs,h1,rr⟩:=ok.obj k _ a hs ea;exact⟨a,vs,rfl,SqL.of h1,rr⟩
     | iset _=>simp only[hs]at h;cases h
     | dtl _=>simp only[hs]at h;cases h
     | dtf _ _ _=>simp only[hs]at h;cases h
     | dtp _=>simp only[hs]at h;cases h
     | dct _=>simp only[hs]at h;cases h
     | dcf _ _ _=>simp only[hs]at h;cases h
 | _=>cases h
theorem Bh{vs:List V}{x:SV}(r:RlAll K as H vs [x]):∃ v,vs=[v]/\Rl K as H v x:=by
 obtain⟨v,t,rfl,r1,r2⟩:=rla_cons.mp r;rw[rla_nil.mp r2];exact⟨v,rfl,r1⟩
theorem IV{vs:List V}{x y:SV}(r:RlAll K as H vs [x,y]):∃ v u,vs=[v,u]/\Rl K as H v x/\Rl K as H u y:=by
 obtain⟨v,t,rfl,r1,r2⟩:=rla_cons.mp r;obtain⟨u,rfl,r3⟩:=Bh r2;exact⟨v,u,rfl,r1,r3⟩
end
theorem KD{K:SU}{as:List W3}{H:Hp}{S:Sto}{Q:VK}{x:SV}{v:V}{ys:List SV}(ok:Ok K as H S)(r1:Rl K as H v x)(h1:seqS x S=some ys)(h2:Post K as H Q (.tup ys) S):∃ p us,v = .ref p/\((SqL K H p us/\∀ l,H l=none->Q (.ref l) (upd H l (.tup us)))\/(SqT K H p us/\Q (.ref p) H)):=by
 cases x with
 | tup zs=>
   cases h1;obtain⟨p,us,rfl,hp,rr⟩:=rl_tup.mp r1;exact⟨p,us,rfl,.inr ⟨SqT.of hp,h2.here ok r1⟩⟩
 | loc k=>
   obtain⟨a,us,rfl,hq,rr⟩:=o9 ok r1 (by intro z;cases z) h1;exact⟨a,us,rfl,.inl ⟨hq,AM ok rr h2⟩⟩
 | ro k=>
   obtain⟨a,us,rfl,hq,rr⟩:=o9 ok r1 (by intro z;cases z) h1;exact⟨a,us,rfl,.inl ⟨hq,AM ok rr h2⟩⟩
 | _=>cases h1
section
variable{K:SU}{as:List W3}{H:Hp}{S:Sto}
theorem Np{x:SV}{v:V}{a:TyN}(ok:Ok K as H S)(r:Rl K as H v x)(h:tyS x S=some a):TyOf K H v (.type a.nm):=by
 cases x with
 | non=>cases h;rw[rl_non.mp r];exact .non
 | bl b=>cases h;rw[rl_bl.mp r];exact .bl b
 | int b=>cases h;rw[rl_int.mp r];exact .int b
 | str b=>cases h;rw[rl_str.mp r];exact .str b
 | tup xs=>cases h;obtain⟨p,vs,rfl,hp,_⟩:=rl_tup.mp r;exact .tup hp
 | loc k=>
   obtain⟨b,eb,rfl⟩:=rl_loc.mp r;unfold tyS at h;cases hs:S[k]? with
   | none=>simp only[hs]at h;cases h
   | some o=>
     cases o with
     | lst ys=>
       simp only[hs]at h;cases h;obtain⟨vs,h1,_⟩:=ok.obj k _ b hs eb;exact .lst h1
     | iset _=>simp only[hs]at h;cases h
     | dtl _=>simp only[hs]at h;cases h
     | dtf _ _ _=>simp only[hs]at h;cases h
     | dtp _=>simp only[hs]at h;cases h
     | dct _=>simp only[hs]at h;cases h
     | dcf _ _ _=>simp only[hs]at h;cases h
 | _=>cases h
noncomputable def ktn(t c:String):Option Bool:=if (Value.type t == Value.type c)=true then some true else if PySem.W.kitMeta c=true then (fastBuiltinMro t).map (·.contains (.type c)) else none
theorem HE{K:SU}(a:TyN)(t:TyN)(ht:t ≠ .none):PySem.W.kitOne K (.type a.nm) (.type t.nm)=some (EY a t):=by
 have e:PySem.W.kitOne K (.type a.nm) (.type t.nm)=ktn a.nm t.nm:=rfl;rw[e];cases a<;>cases t<;>first | exact absurd rfl ht | decide +kernel
theorem HF{K:SU}(a:TyN):∀(bs:List TyN),TyN.none∉bs->PySem.W.kitAny K (.type a.nm) ((bs.map TyN.nm).map Value.type)=some (bs.any (EY a))
 | [],_=>rfl
 | b::bs,h=>by
   rw[TU,TU,PySem.W.kitAny,HE a b (λz=>h (by rw[z];simp)),Tx];cases EY a b with
   | true=>rfl
   | false=>exact HF a bs (λz=>h (Su _ z))
theorem KF:∀{xs:List SV} {bs:List TyN} {vs:List V},IU xs=some bs->RlAll K as H vs xs->vs=(bs.map TyN.nm).map V.ty
 | [],_,_,e,r=>by cases e;exact rla_nil.mp r
 | .ty b::xs,_,_,e,r=>by
   obtain⟨v,vs,rfl,r1,r2⟩:=rla_cons.mp r;unfold IU at e;cases h:IU xs with
   | none=>rw[h]at e;cases e
   | some cs=>
     rw[h]at e;cases e;rw[rl_ty.mp r1,KF h r2];rfl
 | .non::_,_,_,e,_=>by cases e
 | .bl _::_,_,_,e,_=>by cases e
 | .str _::_,_,_,e,_=>by cases e
 | .tup _::_,_,_,e,_=>by cases e
 | .loc _::_,_,_,e,_=>by cases e
 | .ro _::_,_,_,e,_=>by cases e
 | .int _::_,_,_,e,_=>by cases e
end
noncomputable def rBi(K:SU):BI->List V->Hp->VK->Prop
 | .len=>λxs H Q=>∃ p ys,xs=[.ref p]/\(SqL K H p ys\/SqT K H p ys)/\Q (.int ys.length) H
 | .abs=>λxs H Q=>∃ i,xs=[.int i]/\Q (.int (if i<0 then -i else i)) H
 | .min=>λxs H Q=>∃ i j,xs=[.int i,.int j]/\Q (.int (if j<i then j else i)) H
 | .max=>λxs H Q=>∃ i j,xs=[.int i,.int j]/\Q (.int (if j>i then j else i)) H
 | .int=>λxs H Q=>(∃ i,xs=[.int i]/\Q (.int i) H)\/∃ k,xs=[.bl k]/\Q (.int (if k then 1 else 0)) H
 | .list=>λxs H Q=>∃ p ys,xs=[.ref p]/\(SqL K H p ys\/SqT K H p ys)/\∀ l,H l=none->Q (.ref l) (upd H l (.lst ys))
 | .tuple=>λxs H Q=>∃ p ys,xs=[.ref p]/\((SqL K H p ys/\∀ l,H l=none->Q (.ref l) (upd H l (.tup ys)))\/(SqT K H p ys/\Q (.ref p) H))
 | .all=>λxs H Q=>∃(a:W3) (bs:List Bool),xs=[.ref a]/\SqL K H a (bs.map V.bl)/\Q (.bl (bs.all id)) H
 | .any=>λxs H Q=>∃(a:W3) (bs:List Bool),xs=[.ref a]/\SqL K H a (bs.map V.bl)/\Q (.bl (bs.any id)) H
 | .sorted=>λxs H Q=>∃ p ns,xs=[.ref p]/\SqL K H p (ns.map V.int)/\ns.length<64/\∀ l,H l=none->Q (.ref l) (upd H l (.lst ((srt ns).map V.int)))
 | .isi=>λxs H Q=>(∃ x T t b,xs=[x,.ty T]/\TyOf K H x t/\PySem.W.kitOne K t (.type T)=some b/\Q (.bl b) H)\/(∃(x:V) (p:W3) (Ts:List String) (t:Vz) (b:Bool),xs=[x,.ref p]/\H p=some (.tup (Ts.map V.ty))/\TyOf K H x t/\PySem.W.kitAny K t (Ts.map Value.type)=some b/\Q (.bl b) H)
 | .str=>λ_ _ _=>False
 | .repr=>λ_ _ _=>False
theorem PP{K:SU}:∀{b:BI},R5 K (sBi b) (rBi K b)
 | .len=>λas H S xs vs Q ok r h=>by
   replace h:=Bg h;obtain⟨x,rfl,ys,h1,h2⟩:=h;obtain⟨v,rfl,r1⟩:=Bh r;obtain⟨a,us,rfl,hq,rr⟩:=De ok r1 h1;exact⟨a,us,rfl,hq,by rw[rr.length];exact h2.here ok (rl_int.mpr rfl)⟩
 | .abs=>λas H S xs vs Q ok r h=>by
   replace h:=Bg h;obtain⟨x,rfl,h⟩:=h;replace h:=B3 h;obtain⟨i,rfl,h⟩:=h;obtain⟨v,rfl,r1⟩:=Bh r;exact⟨_,by rw[rl_int.mp r1],Post.here h ok (rl_int.mpr rfl)⟩
 | .min=>λas H S xs vs Q ok r h=>by
   replace h:=KC h;obtain⟨x,y,rfl,h⟩:=h;replace h:=B3 h;obtain⟨i,rfl,h⟩:=h;replace h:=B3 h;obtain⟨j,rfl,h⟩:=h;obtain⟨v,u,rfl,r1,r2⟩:=IV r;exact⟨_,_,by rw[rl_int.mp r1,rl_int.mp r2],Post.here h ok (rl_int.mpr rfl)⟩
 | .max=>λas H S xs vs Q ok r h=>by
   replace h:=KC h;obtain⟨x,y,rfl,h⟩:=h;replace h:=B3 h;obtain⟨i,rfl,h⟩:=h;replace h:=B3 h;obtain⟨j,rfl,h⟩:=h;obtain⟨v,u,rfl,r1,r2⟩:=IV r;exact⟨_,_,by rw[rl_int.mp r1,rl_int.mp r2],Post.here h ok (rl_int.mpr rfl)⟩
 | .int=>λas H S xs vs Q ok r h=>by
   replace h:=Bg h;obtain⟨x,rfl,h⟩:=h;obtain⟨v,rfl,r1⟩:=Bh r;replace h:=Nn h;rcases h with⟨k,rfl,h⟩ | ⟨b,rfl,h⟩
   ·exact .inl ⟨_,by rw[rl_int.mp r1],Post.here h ok (rl_int.mpr rfl)⟩
   ·exact .inr ⟨_,by rw[rl_bl.mp r1],Post.here h ok (rl_int.mpr rfl)⟩
 | .list=>λas H S xs vs Q ok r h=>by
   replace h:=Bg h;obtain⟨x,rfl,ys,h1,h2⟩:=h;obtain⟨v,rfl,r1⟩:=Bh r;obtain⟨a,us,rfl,hq,rr⟩:=De ok r1 h1;exact⟨a,us,rfl,hq,AL ok rr h2⟩
 | .tuple=>λas H S xs vs Q ok r h=>by
   replace h:=Bg h;obtain⟨x,rfl,ys,h1,h2⟩:=h;obtain⟨v,rfl,r1⟩:=Bh r;obtain⟨p,us,rfl,z⟩:=KD ok r1 h1 h2;exact⟨p,us,rfl,z⟩
 | .all=>λas H S xs vs Q ok r h=>by
   replace h:=Bg h;obtain⟨x,rfl,ys,bs,h0,h1,h2,h3⟩:=h;obtain⟨v,rfl,r1⟩:=Bh r;obtain⟨a,us,rfl,hq,rr⟩:=o9 ok r1 h0 h1;rw[Fo h2 rr]at hq;exact⟨a,bs,rfl,hq,h3.here ok (rl_bl.mpr rfl)⟩
 | .any=>λas H S xs vs Q ok r h=>by
   replace h:=Bg h;obtain⟨x,rfl,ys,bs,h0,h1,h2,h3⟩:=h;obtain⟨v,rfl,r1⟩:=Bh r;obtain⟨a,us,rfl,hq,rr⟩:=o9 ok r1 h0 h1;rw[Fo h2 rr]at hq;exact⟨a,bs,rfl,hq,h3.here ok (rl_bl.mpr rfl)⟩
 | .sorted=>λas H S xs vs Q ok r h=>by
   replace h:=Bg h;obtain⟨x,rfl,ys,ns,h0,h1,h2,h3,h4⟩:=h;obtain⟨v,rfl,r1⟩:=Bh r;obtain⟨a,us,rfl,hq,rr⟩:=o9 ok r1 h0 h1;rw[HD h2 rr]at hq;exact⟨a,ns,rfl,hq,h3,AL ok RlAll.ints h4⟩
 | .isi=>λas H S xs vs Q ok r h=>by
   replace h:=KC h;obtain⟨x,y,rfl,h⟩:=h;obtain⟨v,u,rfl,r1,r2⟩:=IV r;replace h:=No h;rcases h with⟨t,a,rfl,h0,h1,h2⟩ | ⟨ts,a,bs,rfl,h0,h1,h2,h3⟩
   ·rw[rl_ty.mp r2];exact .inl ⟨v,_,_,_,rfl,Np ok r1 h1,HE _ _ h0,h2.here ok (rl_bl.mpr rfl)⟩
   ·obtain⟨p,vs,rfl,hp,rr⟩:=rl_tup.mp r2;rw[KF h2 rr]at hp;exact .inr ⟨v,p,_,_,_,rfl,hp,Np ok r1 h1,HF _ _ h0,h3.here ok (rl_bl.mpr rfl)⟩
 | .str=>λ_ _ _ _ _ _ _ _ h=>False.elim h
 | .repr=>λ_ _ _ _ _ _ _ _ h=>False.elim h
theorem BM{K:SU}{as:List W3}{H:Hp}:∀{ns:List Int} {vs:List V},RlAll K as H vs (ns.map SV.int)->vs=ns.map V.int
 | [],vs,h=>rla_nil.mp h
 | n::ns,vs,h=>by
   obtain⟨v,r,rfl,h1,h2⟩:=rla_cons.mp h;rw[rl_int.mp h1,BM h2];rfl
inductive MT where
 | append | extend | insert | index | count
 deriving DecidableEq
noncomputable def MT.name:MT->Str
 | .append=>"append" | .extend=>"extend" | .insert=>"insert" | .index=>"index" | .count=>"count"
noncomputable def oL(f:Nat->Sto->QE->Prop):S1:=λx S Q=>match x with | .loc k=>f k S Q | _=>False
theorem By{f:Nat->Sto->QE->Prop}{x:SV}{S:Sto}{Q:QE}(h:oL f x S Q):∃ k,x = .loc k/\f k S Q:=match x,h with | .loc k,h=>⟨k,rfl,h⟩
noncomputable def Mb(x:SV):S1:=λy S Q=>oL (λk S Q=>∃ xs,S[k]?=some (.lst xs)/\xs.length<big/\Q .non (S.set k (.lst (xs++[y])))) x S Q
noncomputable def Mc(x:SV):S1:=λy S Q=>oL (λk S Q=>oL (λl S Q=>∃ xs ys,S[k]?=some (.lst xs)/\S[l]?=some (.lst ys)/\xs.length+ys.length<=big/\Q .non (S.set k (.lst (xs++ys)))) y S Q) x S Q
noncomputable def Md(x:SV):S2:=λz y S Q=>oL (λk S Q=>oI (λi S Q=>∃ xs,S[k]?=some (.lst xs)/\(0<=i/\i<=xs.length)/\xs.length<big/\Q .non (S.set k (.lst (xs.take i.toNat++y::xs.drop i.toNat)))) z S Q) x S Q
noncomputable def PR(x:SV):S1:=λy S Q=>oL (λk S Q=>oI (λn S Q=>∃(ns:List Int) (j:Nat),S[k]?=some (.lst (ns.map SV.int))/\ns[j]?=some n/\(∀ m,m<j->ns[m]?≠some n)/\Q (.int (j:Nat)) S) y S Q) x S Q
noncomputable def PU(x:SV):S1:=λy S Q=>oL (λk S Q=>oI (λn S Q=>∃ ns:List Int,S[k]?=some (.lst (ns.map SV.int))/\Q (.int (ns.count n:Nat)) S) y S Q) x S Q
noncomputable def sMt:MT->SV->Sn
 | .append,x=>a1 (Mb x)
 | .extend,x=>a1 (Mc x)
 | .insert,x=>a2 (Md x)
 | .index,x=>a1 (PR x)
 | .count,x=>a1 (PU x)
theorem Dk:∀{m:MT} {x:SV},MonoN (sMt m x)
 | .append,x=>t6 λy S P P' i h=>by
   replace h:=By h;obtain⟨k,rfl,a,c,d,e⟩:=h;exact⟨a,c,d,i _ _ e⟩
 | .extend,x=>t6 λy S P P' i h=>by
   replace h:=By h;obtain⟨k,rfl,h⟩:=h;replace h:=By h;obtain⟨l,rfl,a,c,d,e,f,g⟩:=h;exact⟨a,c,d,e,f,i _ _ g⟩
 | .insert,x=>C1 λz y S P P' i h=>by
   replace h:=By h;obtain⟨k,rfl,h⟩:=h;replace h:=B3 h;obtain⟨j,rfl,a,c,d,e,f⟩:=h;exact⟨a,c,d,e,i _ _ f⟩
 | .count,x=>t6 λy S P P' i h=>by
   replace h:=By h;obtain⟨k,rfl,h⟩:=h;replace h:=B3 h;obtain⟨n,rfl,a,b,c⟩:=h;exact⟨a,b,i _ _ c⟩
 | .index,x=>t6 λy S P P' i h=>by
   replace h:=By h;obtain⟨k,rfl,h⟩:=h;replace h:=B3 h;obtain⟨n,rfl,a,c,d,e,f,g⟩:=h;exact⟨a,c,d,e,f,i _ _ g⟩
noncomputable def rMt:MT->V->List V->Hp->VK->Prop
 | .append=>Gp
 | .extend=>Gq
 | .insert=>Gs
 | .index=>Jq
 | .count=>HC
section
variable{K:SU}{as:List W3}{H:Hp}{S:Sto}
theorem RlAll.erase:∀{xs:List SV} {vs:List V} (n:Nat),RlAll K as H vs xs->RlAll K as H (vs.eraseIdx n) (xs.eraseIdx n)
 | [],_,n,h=>by rw[rla_nil.mp h];exact .nil
 | x::xs,_,0,h=>by
   obtain⟨v,r,rfl,a,t⟩:=rla_cons.mp h;exact t
 | x::xs,_,n+1,h=>by
   obtain⟨v,r,rfl,a,t⟩:=rla_cons.mp h;exact .cons a (t.erase n)
theorem BC{Q:VK}{k:Nat}{a:W3}{xs ys:List SV}{us:List V}{x:SV}{v:V}(ok:Ok K as H S)(e:S[k]?=some (.lst xs))(ea:as[k]?=some a)(r:RlAll K as H us ys)(h:Post K as H Q x (S.set k (.lst ys)))(rx:Rl K as H v x):Q v (upd H a (.lst us)):=by
 obtain⟨ok',ku⟩:=ok.write e ea r;exact h as _ v (Go.write (Sh ea)) ok' (Rl.mono (TN _) ku x v rx)
theorem KG:∀{m:MT} {Q:VK} {x:SV} {v:V} {xs:List SV} {vs:List V} (ok:Ok K as H S) (rx:Rl K as H v x) (r:RlAll K as H vs xs) (h:sMt m x xs S (Post K as H Q)),rMt m v vs H Q
 | .append,Q,x,v,xs,vs,ok,rx,r,h=>by
   replace h:=Bg h;obtain⟨y,rfl,h⟩:=h;replace h:=By h;obtain⟨k,rfl,ys,h1,h2,h3⟩:=h;obtain⟨a,us,rfl,ea,ha,ra⟩:=j7 ok rx h1;obtain⟨u,rfl,ru⟩:=Bh r;exact⟨a,us,u,rfl,rfl,ha,by rw[ra.length];exact Fj h2,BC ok h1 ea (ra.append (.cons ru .nil)) h3 (rl_non.mpr rfl)⟩
 | .extend,Q,x,v,xs,vs,ok,rx,r,h=>by
   replace h:=Bg h;obtain⟨y,rfl,h⟩:=h;replace h:=By h;obtain⟨k,rfl,h⟩:=h;replace h:=By h;obtain⟨l,rfl,ys,zs,h1,h2,h3,h4⟩:=h;obtain⟨a,us,rfl,ea,ha,ra⟩:=j7 ok rx h1;obtain⟨u,rfl,ru⟩:=Bh r;obtain⟨b,ws,rfl,eb,hb,rb⟩:=j7 ok ru h2;exact⟨a,b,us,ws,rfl,rfl,ha,hb,by rw[ra.length,rb.length];exact u8 h3,BC ok h1 ea (ra.append rb) h4 (rl_non.mpr rfl)⟩
 | .insert,Q,x,v,xs,vs,ok,rx,r,h=>by
   replace h:=KC h;obtain⟨z,y,rfl,h⟩:=h;replace h:=By h;obtain⟨k,rfl,h⟩:=h;replace h:=B3 h;obtain⟨i,rfl,ys,h1,h2,h3,h4⟩:=h;obtain⟨a,us,rfl,ea,ha,ra⟩:=j7 ok rx h1;obtain⟨u,w,rfl,ru,rw'⟩:=IV r;rw[rl_int.mp ru];exact⟨a,us,i,w,rfl,rfl,ha,h2.1,by rw[ra.length];exact h2.2,by rw[ra.length];exact Fj h3,BC ok h1 ea (ra.ins rw' _) h4 (rl_non.mpr rfl)⟩
 | .count,Q,x,v,xs,vs,ok,rx,r,h=>by
   replace h:=Bg h;obtain⟨y,rfl,h⟩:=h;replace h:=By h;obtain⟨k,rfl,h⟩:=h;replace h:=B3 h;obtain⟨n,rfl,ns,h1,h4⟩:=h;obtain⟨a,us,rfl,ea,ha,ra⟩:=j7 ok rx h1;obtain⟨u,rfl,ru⟩:=Bh r;rw[BM ra]at ha;exact⟨a,ns,n,rfl,by rw[rl_int.mp ru],ha,h4.here ok (rl_int.mpr rfl)⟩
 | .index,Q,x,v,xs,vs,ok,rx,r,h=>by
   replace h:=Bg h;obtain⟨y,rfl,h⟩:=h;replace h:=By h;obtain⟨k,rfl,h⟩:=h;replace h:=B3 h;obtain⟨n,rfl,ns,j,h1,h2,h3,h4⟩:=h;obtain⟨a,us,rfl,ea,ha,ra⟩:=j7 ok rx h1;obtain⟨u,rfl,ru⟩:=Bh r;rw[BM ra]at ha;exact⟨a,ns,n,j,rfl,by rw[rl_int.mp ru],ha,h2,h3,h4.here ok (rl_int.mpr rfl)⟩
end
mutual
inductive Tg where
 | nm (i:Nat) | tup (ts:Tgs)
inductive Tgs where
 | nil | cons (t:Tg) (ts:Tgs)
end
mutual
inductive Ex where
 | var (i:Nat) | c (x:SV) | op (o:XD) (a b:Ex) | neg (a:Ex) | cmp (o:CmpOp) (a b:Ex) | chn (o p:CmpOp) (a b c:Ex)
 | and (a b:Ex) | or (a b:Ex) | not (a:Ex) | ife (t a b:Ex) | tup (es:Exs) | lst (es:Exs) | ix (a b:Ex) | slc (a:Ex) (lo hi:Eo)
 | call (f:Nat) (es:Exs) | bi (b:BI) (es:Exs) | mt (m:MT) (a:Ex) (es:Exs) | comp (own cn:List Str) (js:List Nat) (g:Tg) (it:Itb) (t:Eo) (e:Ex) | tyc (t:TyN) | max1 (a:Ex) | min1 (a:Ex) | eqd (n:Bool) (a b:Ex) | mind (a d:Ex) | dnewp | setd (d e v:Ex) | no
inductive Exs where
 | nil | cons (e:Ex) (es:Exs)
inductive Eo where
 | no | yes (e:Ex)
inductive Itb where
 | seq (e:Ex) | rng1 (a:Ex) | rng2 (a b:Ex) | enum (e:Ex) | zip (i j:Nat)
end
inductive Stm where
 | asg (t:Tg) (e:Ex) | par (i j:Nat) (a b:Ex) | put (o i e:Ex) | expr (e:Ex) | iff (t:Ex) (a b:List Stm) | loop (g:Tg) (it:Itb) (b:List Stm) | whl (t:Ex) (b:List Stm) | tri (b:List Stm)
 | ret (e:Ex) | no
noncomputable def sOp:XD->S2
 | .Add=>K0
 | .Sub=>BL λi j => .int (i - j)
 | .Mult=>K3
 | .FloorDiv=>Fk Qd λi j => .int (i / j)
 | .Mod=>Fk (λ_ j=>0<j) λi j => .int (i % j)
 | .Pow=>Fk Qf λi j => .int (i ^ j.toNat)
 | _=>λ_ _ _ _=>False
noncomputable def AW:CmpOp->S2
 | .Eq=>sEq
 | .NotEq=>sNe
 | .Lt=>BL λi j => .bl (decide (i<j))
 | .LtE=>BL λi j => .bl (decide (i<=j))
 | .Gt=>BL λi j => .bl (decide (j<i))
 | .GtE=>BL λi j => .bl (decide (j<=i))
 | .In=>sIn false
 | .NotIn=>sIn true
 | .Is=>K4 false
 | .IsNot=>K4 true
noncomputable def KH:S1
 | .int i,S,Q=>Q (.int (-i)) S
 | _,_,_=>False
noncomputable def KI:SV->Sto->Option Bool
 | .bl b,_=>some b
 | .tup xs,_=>some (!xs.isEmpty)
 | .loc k,S=>match S[k]? with | some (.lst xs)=>some (!xs.isEmpty) | _=>none
 | _,_=>none
noncomputable def PV(w:WE):WT:=λρ S Q=>w ρ S λx S'=>∃ b,KI x S'=some b/\Q b S'
noncomputable def KJ(a b:WE):WE:=λρ S Q=>a ρ S λx S1=>∃ c,x = .bl c/\if c=true then b ρ S1 Q else Q (.bl false) S1
noncomputable def wOr(a b:WE):WE:=λρ S Q=>a ρ S λx S1=>∃ c,x = .bl c/\if c=true then Q (.bl true) S1 else b ρ S1 Q
noncomputable def Me(a:WE):WE:=λρ S Q=>a ρ S λx S1=>∃ c,x = .bl c/\Q (.bl (!c)) S1
noncomputable def CL(a b:WT):WT:=λρ S Q=>a ρ S λc S1=>if c=true then b ρ S1 Q else Q false S1
noncomputable def Fp(a b:WT):WT:=λρ S Q=>a ρ S λc S1=>if c=true then Q true S1 else b ρ S1 Q
noncomputable def HH(a:WT):WT:=λρ S Q=>a ρ S λc S1=>Q (!c) S1
noncomputable def Mf(t:WT)(a b:WE):WE:=λρ S Q=>t ρ S λc S1=>if c=true then a ρ S1 Q else b ρ S1 Q
noncomputable def KK(s s':S2)(a b c:WE):WE:=λρ S Q=>a ρ S λx S1=>b ρ S1 λy S2=>s x y S2 λz S3=>∃ k,z = .bl k/\if k=true then c ρ S3 λu S4=>s' y u S4 Q else Q (.bl false) S3
noncomputable abbrev WO:=EnvS->Sto->(Option Int->Sto->Prop)->Prop
noncomputable def PX:WO:=λ_ S Q=>Q none S
noncomputable def KL(w:WE):WO:=λρ S Q=>w ρ S λx S1=>∃ i,x = .int i/\Q (some i) S1
noncomputable def Fq(xs:List SV)(lo hi:Option Int):List SV:=(xs.drop (HT.sIx xs.length 0 lo)).take (HT.sIx xs.length xs.length hi - HT.sIx xs.length 0 lo)
noncomputable def KM:SV->Option Int->Option Int->Sto->QE->Prop
 | .loc k,lo,hi,S,Q=>∃ xs,S[k]?=some (.lst xs)/\Q (.loc S.length) (S++[.lst (Fq xs lo hi)])
 | .tup xs,lo,hi,S,Q=>Q (.tup (Fq xs lo hi)) S
 | _,_,_,_,_=>False
noncomputable def PY(a:WE)(lo hi:WO):WE:=λρ S Q=>a ρ S λx S1=>lo ρ S1 λl S2=>hi ρ S2 λh S3=>KM x l h S3 Q
noncomputable abbrev WI:=EnvS->Sto->((Sto->Prop)->List SV->Sto->Prop)->Prop
noncomputable def keepS:SV->Sto->Sto->Prop
 | .loc k,S,S'=>S'[k]?=S[k]?
 | _,_,_=>True
noncomputable def Nq(w:WE):WI:=λρ S R=>w ρ S λx S1=>∃ xs,seqS x S1=some xs/\R (keepS x S1) xs S1
noncomputable def B4(lo hi:Int):List SV:=(Sf (hi - lo).toNat).map λ(i:Nat) => .int (lo+i)
noncomputable def KN(w:WE):WI:=λρ S R=>w ρ S λx S1=>∃ j,x = .int j/\(-(2 ^ 62)<=j/\j<2 ^ 62)/\R (λ_=>True) (B4 0 j) S1
noncomputable def KO(w u:WE):WI:=λρ S R=>w ρ S λx S1=>u ρ S1 λy S2=>∃ i j,x = .int i/\y = .int j/\(-(2 ^ 62)<=i/\i<2 ^ 62 /\ -(2 ^ 62)<=j/\j<2 ^ 62)/\R (λ_=>True) (B4 i j) S2
noncomputable def Al(xs:List SV):List SV:=(Sf xs.length).zipWith (λ(i:Nat) x => .tup [.int i,x]) xs
noncomputable def KP(w:WE):WI:=λρ S R=>w ρ S λx S1=>∃ xs,seqS x S1=some xs/\R (keepS x S1) (Al xs) S1
noncomputable def Dl:SV->Bool
 | .tup _=>true
 | _=>false
noncomputable def Fr(xs ys:List SV):List SV:=xs.zipWith (λx y => .tup [x,y]) ys
noncomputable def Nr(i j:Nat):WI:=λρ S R=>∃ x y xs ys,ρ[i]?=some (some x)/\ρ[j]?=some (some y)/\seqS x S=some xs/\seqS y S=some ys/\Dl x=Dl y/\xs.length=ys.length/\R (λS'=>keepS x S S'/\keepS y S S') (Fr xs ys) S
noncomputable def KQ(a:WE):WE:=λρ S Q=>a ρ S λx S1=>∃ k ns,x = .loc k/\S1[k]?=some (.lst (ns.map SV.int))/\0<ns.length/\∀ m,Sml ns m->Q (.int m) S1
noncomputable def KR(a:WE):WE:=λρ S Q=>a ρ S λx S1=>∃ k ns,x = .loc k/\S1[k]?=some (.lst (ns.map SV.int))/\0<ns.length/\∀ m,Grt ns m->Q (.int m) S1
noncomputable def KS(a d:WE):WE:=λρ S Q=>a ρ S λx S1=>d ρ S1 λy S2=>∃ k ps,x = .loc k/\y = .non/\S2[k]?=some (.lst (ps.map λp:Int×Int=>SV.tup [.int p.1,.int p.2]))/\(ps=[]->Q .non S2)/\∀ p∈ps,Q (.tup [.int p.1,.int p.2]) S2
noncomputable def dpv(kvs:List ((Int×Int)×Int))(k:Int×Int):Option Int:=(kvs.find? λp=>decide (p.1=k)).map (·.2)
noncomputable def KU(d e v:WE):WE:=λρ S Q=>d ρ S λx S1=>∃ k kv0,x = .loc k/\S1[k]?=some (.dtp kv0)/\e ρ S1 λy S2=>v ρ S2 λz S3=>∃ i j m kvs,y = .tup [.int i,.int j]/\z = .int m/\S3[k]?=some (.dtp kvs)/\kvs.length<big/\
 (∀ n,dpv kvs (i,j)=some n->Q (.int n) S3)/\(dpv kvs (i,j)=none->Q (.int m) (S3.set k (.dtp (kvs++[((i,j),m)]))))
noncomputable def IW(kvs:List (List Int×SV))(k:List Int):Option SV:=(kvs.find? λp=>decide (p.1=k)).map (·.2)
noncomputable def EqS(S:Sto):Nat->SV->SV->Prop
 | 0,x,y=>t7 x=true/\x=y
 | k+1,x,y=>EqS S k x y\/(∃ a b xs ys,x = .loc a/\y = .loc b/\S[a]?=some (.lst xs)/\S[b]?=some (.lst ys)/\xs.length=ys.length/\∀(i:Nat) u v,xs[i]?=some u->ys[i]?=some v->EqS S k u v)\/(∃ xs ys,x = .tup xs/\y = .tup ys/\xs.length=ys.length/\∀(i:Nat) u v,xs[i]?=some u->ys[i]?=some v->EqS S k u v)
noncomputable def KW(n:Bool):S2:=λx y S Q=>∃(a b:Nat) (xs ys:List SV),x = .loc a/\y = .loc b/\S[a]?=some (.lst xs)/\S[b]?=some (.lst ys)/\xs.length=ys.length/\(∀(i:Nat) u v,xs[i]?=some u->ys[i]?=some v->EqS S 2 u v)/\Q (.bl (!n)) S
noncomputable def IY(kvs:List (Int×SV))(i:Int):Option SV:=(kvs.find? λp=>decide (p.1=i)).map (·.2)
noncomputable def Nt(kvs:List (Int×SV))(i:Int)(x:SV):List (Int×SV):=if (kvs.any λp=>decide (p.1=i))=true then kvs.map (λp=>if p.1=i then (p.1,x) else p) else kvs++[(i,x)]
noncomputable def Fs:WE:=λ_ S Q=>Q (.loc S.length) (S++[.dtp []])
noncomputable def wMt(m:MT)(a:WE)(b:WA):WE:=λρ S Q=>a ρ S λx S1=>(∃ k xs,x = .loc k/\S1[k]?=some (.lst xs))/\b ρ S1 λxs S2=>sMt m x xs S2 Q
mutual
noncomputable def wTg:Tg->SV->EnvS->(EnvS->Prop)->Prop
 | .nm i,x,ρ,Q=>Q (ρ.set i (some x))
 | .tup ts,.tup xs,ρ,Q=>AA ts xs ρ Q
 | .tup _,_,_,_=>False
noncomputable def AA:Tgs->List SV->EnvS->(EnvS->Prop)->Prop
 | .nil,[],ρ,Q=>Q ρ
 | .cons t ts,x::xs,ρ,Q=>wTg t x ρ λρ'=>AA ts xs ρ' Q
 | _,_,_,_=>False
end
noncomputable def EZ(k:Nat)(js:List Nat)(ρ:EnvS):EnvS:=Sj k none++js.map λj=>(ρ[j]?).join
noncomputable def m7(keep:Sto->Prop)(g:Tg)(t:WT)(e:WE)(ρ:EnvS)(Q:List SV->Sto->Prop):List SV->List SV->Sto->Prop
 | [],ys,S=>keep S/\Q ys S
 | x::xs,ys,S=>keep S/\wTg g x ρ λρ2=>t ρ2 S λb S1=>if b=true then e ρ2 S1 λy S2=>ys.length<big/\m7 keep g t e ρ Q xs (ys++[y]) S2 else m7 keep g t e ρ Q xs ys S1
noncomputable def HI(k:Nat)(js:List Nat)(g:Tg)(i:WI)(t:WT)(e:WE):WE:=λρ S Q=>i ρ S λkeep xs S1=>m7 keep g t e (EZ k js ρ) (λys S2=>Q (.loc S2.length) (S2++[.lst ys])) xs [] S1
noncomputable def tt1(w:WE):WE×WT:=(w,PV w)
noncomputable def wBl(w:WE):WT:=λρ S Q=>w ρ S λx S'=>∃ b,x = .bl b/\Q b S'
noncomputable def tt2(w:WE):WE×WT:=(w,wBl w)
noncomputable def RD:WT:=λ_ S Q=>Q true S
mutual
noncomputable def wEx(Δ:Nat->Sn):Ex->WE×WT
 | .var i=>tt1 (P9 i)
 | .c x=>tt1 (wC x)
 | .op o a b=>tt1 (w2 (sOp o) (wEx Δ a).1 (wEx Δ b).1)
 | .neg a=>tt1 (w1 KH (wEx Δ a).1)
 | .cmp o a b=>tt2 (w2 (AW o) (wEx Δ a).1 (wEx Δ b).1)
 | .chn o p a b c=>tt2 (KK (AW o) (AW p) (wEx Δ a).1 (wEx Δ b).1 (wEx Δ c).1)
 | .and a b=>(KJ (wEx Δ a).1 (wEx Δ b).1,CL (wEx Δ a).2 (wEx Δ b).2)
 | .or a b=>(wOr (wEx Δ a).1 (wEx Δ b).1,Fp (wEx Δ a).2 (wEx Δ b).2)
 | .not a=>(Me (wEx Δ a).1,HH (wEx Δ a).2)
 | .ife t a b=>(Mf (wEx Δ t).2 (wEx Δ a).1 (wEx Δ b).1,λ_ _ _=>False)
 | .tup es=>tt1 (wn MJ (Dm Δ es))
 | .lst es=>tt1 (wn MK (Dm Δ es))
 | .ix a b=>tt1 (w2 sIx (wEx Δ a).1 (wEx Δ b).1)
 | .slc a lo hi=>tt1 (PY (wEx Δ a).1 (wEo Δ lo).1 (wEo Δ hi).1)
 | .call f es=>tt1 (wn (Δ f) (Dm Δ es))
 | .bi b es=>tt1 (wn (sBi b) (Dm Δ es))
 | .mt m a es=>tt1 (wMt m (wEx Δ a).1 (Dm Δ es))
 | .comp own _ js g it t e=>tt1 (HI own.length js g (Mg Δ it) (wEo Δ t).2 (wEx Δ e).1)
 | .tyc t=>tt1 (wC (.ty t))
 | .max1 a=>tt1 (KR (wEx Δ a).1)
 | .min1 a=>tt1 (KQ (wEx Δ a).1)
 | .eqd n a b=>tt2 (w2 (KW n) (wEx Δ a).1 (wEx Δ b).1)
 | .dnewp=>tt1 Fs
 | .setd d e v=>tt1 (KU (wEx Δ d).1 (wEx Δ e).1 (wEx Δ v).1)
 | .mind a d=>tt1 (KS (wEx Δ a).1 (wEx Δ d).1)
 | .no=>(λ_ _ _=>False,λ_ _ _=>False)
noncomputable def Dm(Δ:Nat->Sn):Exs->WA
 | .nil=>DA
 | .cons e es=>CG (wEx Δ e).1 (Dm Δ es)
noncomputable def wEo(Δ:Nat->Sn):Eo->WO×WT
 | .no=>(PX,RD)
 | .yes e=>(KL (wEx Δ e).1,(wEx Δ e).2)
noncomputable def Mg(Δ:Nat->Sn):Itb->WI
 | .seq e=>Nq (wEx Δ e).1
 | .rng1 a=>KN (wEx Δ a).1
 | .rng2 a b=>KO (wEx Δ a).1 (wEx Δ b).1
 | .enum e=>KP (wEx Δ e).1
 | .zip i j=>Nr i j
end
structure EndsS where
 nx:EnvS->Sto->Prop
 rt:SV->Sto->Prop
 bk:EnvS->Sto->Prop:=λ_ _=>False
 ct:EnvS->Sto->Prop:=λ_ _=>False
noncomputable abbrev WS:=EndsS->EnvS->Sto->Prop
noncomputable def Ft:SV->SV->SV->Sto->(Sto->Prop)->Prop
 | .loc k,.int i,v,S,Q=>∃ xs j,S[k]?=some (.lst xs)/\ixN xs.length i=some j/\Q (S.set k (.lst (xs.set j v)))
 | _,_,_,_,_=>False
noncomputable def p8(keep:Sto->Prop)(g:Tg)(b:WS)(D:EndsS):List SV->EnvS->Sto->Prop
 | [],ρ,S=>keep S/\D.nx ρ S
 | x::xs,ρ,S=>keep S/\wTg g x ρ λρ2=>b {D with nx:=p8 keep g b D xs,ct:=p8 keep g b D xs,bk:=D.nx} ρ2 S
noncomputable def PZ(t:WT)(b:WS):WS:=λD ρ S=>∃ W:Nat->EnvS->Sto->Prop,(∃ m,W m ρ S)/\∀ m ρ S,W m ρ S->t ρ S λc S1=>if c=true then
 b {D with nx:=λρ' S'=>∃ m',m'<m/\W m' ρ' S',ct:=λρ' S'=>∃ m',m'<m/\W m' ρ' S',bk:=D.nx} ρ S1 else D.nx ρ S1
mutual
noncomputable def wSt(Δ:Nat->Sn):Stm->WS
 | .asg t e=>λD ρ S=>(wEx Δ e).1 ρ S λx S1=>wTg t x ρ λρ'=>D.nx ρ' S1
 | .par i j a b=>λD ρ S=>(wEx Δ a).1 ρ S λx S1=>(wEx Δ b).1 ρ S1 λy S2=>D.nx ((ρ.set i (some x)).set j (some y)) S2
 | .put o i e=>λD ρ S=>(wEx Δ e).1 ρ S λv S1=>(wEx Δ o).1 ρ S1 λx S2=>(wEx Δ i).1 ρ S2 λy S3=>Ft x y v S3 λS4=>D.nx ρ S4
 | .expr e=>λD ρ S=>(wEx Δ e).1 ρ S λ_ S1=>D.nx ρ S1
 | .iff t a b=>λD ρ S=>(wEx Δ t).2 ρ S λc S1=>if c=true then wSs Δ a D ρ S1 else wSs Δ b D ρ S1
 | .loop g it b=>λD ρ S=>Mg Δ it ρ S λkeep xs S1=>p8 keep g (wSs Δ b) D xs ρ S1
 | .whl t b=>PZ (wEx Δ t).2 (wSs Δ b)
 | .tri b=>wSs Δ b
 | .ret e=>λD ρ S=>(wEx Δ e).1 ρ S D.rt
 | .no=>λ_ _ _=>False
noncomputable def wSs(Δ:Nat->Sn):List Stm->WS
 | []=>λD ρ S=>D.nx ρ S
 | s::ss=>λD ρ S=>wSt Δ s {D with nx:=wSs Δ ss D} ρ S
end
theorem n8{α:Type}{P:Prop}{x:α}(h:(none:Option α)=some x):P:=nomatch h
noncomputable def Ea(scope sc:WK):WK:={scope with names:=scope.names.map λ(n,k)=>if (k == .free&&sc.kind == .function&&sc.names.lookup n == some .cell) then (n,.cell) else (n,k)}
noncomputable def f6:Expr->Bool
 | .Starred ..=>false
 | _=>true
theorem g7{e:Expr}{es:List Expr}{env:Env}(h:f6 e=true):WG (e::es) env=(false,eval e env)::WG es env:=by
 cases e<;>first | rfl | cases h
theorem BN{env:Env}{pos:Pos}:∀{es:List Expr},es.all f6=true->(backTo pos (WG es env)).any (·.1)=false
 | [],_=>rfl
 | e::es,h=>by
   rw[Tn,SW]at h;rw[g7 h.1];exact BN (es:=es) h.2
theorem DD{env:Env}{pos:Pos}:∀{es:List Expr},es.all f6=true->(backTo pos (WG es env)).all (λx=>!x.1)=true
 | [],_=>rfl
 | e::es,h=>by
   rw[Tn,SW]at h;rw[g7 h.1];exact DD (es:=es) h.2
noncomputable def glo(sc:WK)(x:Str):Bool:=sc.names.lookup x == some .globalImplicit&&!(x == ("__name__":Str))&&!(x == ("__debug__":Str))
noncomputable def vis(sc:WK)(x:Str):Bool:=sc.names.lookup x == some .local||sc.names.lookup x == some .cell||sc.names.lookup x == some .free
noncomputable def loc(sc:WK)(x:Str):Bool:=sc.names.lookup x == some .local||sc.names.lookup x == some .cell
noncomputable def Pa:SV->Const->Bool
 | .non,.none=>true
 | .bl a,.bool b=>a == b
 | .int i,.int j=>decide (i=j)
 | .str x,.str y=>decide (x=y)
 | _,_=>false
noncomputable def Am:Expr->Bool
 | .Slice ..=>false
 | _=>true
noncomputable def w6:Expr->Bool
 | .Set ..=>false
 | _=>true
noncomputable def KY:Expr->Bool
 | .UnaryOp .Not _ _=>false
 | .BoolOp ..=>false
 | .IfExp ..=>false
 | .Compare ..=>false
 | _=>true
noncomputable def Aw:Expr->Bool
 | .Call (.Name _ _) [] [] _=>false
 | _=>true
noncomputable def AO:Expr->Option Str
 | .Name x _=>some x
 | _=>none
noncomputable def KZ:Expr->Option Const
 | .Constant k _ _=>some k
 | _=>none
noncomputable def RE:Expr->Option (Expr×XD×Expr)
 | .BinOp a o b _=>some (a,o,b)
 | _=>none
noncomputable def vUn:Expr->Option (UnaryOp×Expr)
 | .UnaryOp o a _=>some (o,a)
 | _=>none
noncomputable def Mh:Expr->Option (Expr×List CmpOp×List Expr)
 | .Compare a os bs _=>some (a,os,bs)
 | _=>none
noncomputable def Ka:Expr->Option (BoolOp×List Expr×Pos)
 | .BoolOp o vs p=>some (o,vs,p)
 | _=>none
noncomputable def RF:Expr->Option (Expr×Expr×Expr)
 | .IfExp t a b _=>some (t,a,b)
 | _=>none
noncomputable def Cu:Expr->Option (List Expr)
 | .Tuple es _ _=>some es
 | _=>none
noncomputable def RG:Expr->Option (List Expr)
 | .List es _=>some es
 | _=>none
noncomputable def Mi:Expr->Option (Expr×Expr)
 | .Subscript a b _=>some (a,b)
 | _=>none
noncomputable def RH:Expr->Option (Option Expr×Option Expr×Option Expr)
 | .Slice l h s _=>some (l,h,s)
 | _=>none
noncomputable def CM:Expr->Option (Expr×List Expr×List Keyword)
 | .Call f as ks _=>some (f,as,ks)
 | _=>none
noncomputable def Fu:Expr->Nat
 | .Call _ _ _ p=>p.line
 | _=>0
noncomputable def Kb:Expr->Option (Expr×Str×Nat)
 | .Attribute o n p=>some (o,n,p.endLine)
 | _=>none
noncomputable def Kc:Expr->Option (Expr×List Comprehension×WK)
 | .ListComp e gs s _=>some (e,gs,s)
 | _=>none
noncomputable def Nu:Expr->Option (List (Option Expr)×List Expr)
 | .Dict ks vs _=>some (ks,vs)
 | _=>none
theorem Kd{r:Expr}{x:List (Option Expr)×List Expr}(h:Nu r=some x):∃ p,r = .Dict x.1 x.2 p:=by cases r<;>first | (cases h;exact⟨_,rfl⟩) | exact n8 h
theorem y8{r:Expr}{x:Str}(h:AO r=some x):∃ p,r = .Name x p:=by cases r<;>first | (cases h;exact⟨_,rfl⟩) | exact n8 h
theorem IZ{r:Expr}{x:Const}(h:KZ r=some x):∃ j p,r = .Constant x j p:=by cases r<;>first | (cases h;exact⟨_,_,rfl⟩) | exact n8 h
theorem Mj{r:Expr}{x:Expr×XD×Expr}(h:RE r=some x):∃ p,r = .BinOp x.1 x.2.1 x.2.2 p:=by cases r<;>first | (cases h;exact⟨_,rfl⟩) | exact n8 h
theorem Ke{r:Expr}{x:UnaryOp×Expr}(h:vUn r=some x):∃ p,r = .UnaryOp x.1 x.2 p:=by cases r<;>first | (cases h;exact⟨_,rfl⟩) | exact n8 h
theorem Do{r:Expr}{x:Expr×List CmpOp×List Expr}(h:Mh r=some x):∃ p,r = .Compare x.1 x.2.1 x.2.2 p:=by cases r<;>first | (cases h;exact⟨_,rfl⟩) | exact n8 h
theorem Eb{r:Expr}{x:BoolOp×List Expr×Pos}(h:Ka r=some x):r = .BoolOp x.1 x.2.1 x.2.2:=by cases r<;>first | (cases h;exact rfl) | exact n8 h
theorem Mk{r:Expr}{x:Expr×Expr×Expr}(h:RF r=some x):∃ p,r = .IfExp x.1 x.2.1 x.2.2 p:=by cases r<;>first | (cases h;exact⟨_,rfl⟩) | exact n8 h
theorem AX{r:Expr}{x:List Expr}(h:Cu r=some x):∃ j p,r = .Tuple x j p:=by cases r<;>first | (cases h;exact⟨_,_,rfl⟩) | exact n8 h
theorem Ml{r:Expr}{x:List Expr}(h:RG r=some x):∃ p,r = .List x p:=by cases r<;>first | (cases h;exact⟨_,rfl⟩) | exact n8 h
theorem Dp{r:Expr}{x:Expr×Expr}(h:Mi r=some x):∃ p,r = .Subscript x.1 x.2 p:=by cases r<;>first | (cases h;exact⟨_,rfl⟩) | exact n8 h
theorem Mm{r:Expr}{x:Option Expr×Option Expr×Option Expr}(h:RH r=some x):∃ p,r = .Slice x.1 x.2.1 x.2.2 p:=by cases r<;>first | (cases h;exact⟨_,rfl⟩) | exact n8 h
theorem CN{r:Expr}{x:Expr×List Expr×List Keyword}(h:CM r=some x):∃ p,r = .Call x.1 x.2.1 x.2.2 p/\Fu r=p.line:=by cases r<;>first | (cases h;exact⟨_,rfl,rfl⟩) | exact n8 h
theorem Kf{r:Expr}{x:Expr×Str×Nat}(h:Kb r=some x):∃ p,r = .Attribute x.1 x.2.1 p/\x.2.2=p.endLine:=by cases r<;>first | (cases h;exact⟨_,rfl,rfl⟩) | exact n8 h
theorem Ec{r:Expr}{x:Expr×List Comprehension×WK}(h:Kc r=some x):∃ p,r = .ListComp x.1 x.2.1 x.2.2 p:=by cases r<;>first | (cases h;exact⟨_,rfl⟩) | exact n8 h
theorem c7{α:Type}{o:Option α}{p:α->Bool}(h:o.any p=true):∃ x,o=some x/\p x=true:=by
 cases o with
 | none=>cases h
 | some x=>exact⟨x,rfl,h⟩
theorem AB{α:Type}{l:List α}{x:α}(h:l.head?=some x):l=x::l.tail:=by
 cases l with
 | nil=>cases h
 | cons y r=>cases h;rfl
noncomputable def l1{α:Type}:List α->Option α
 | [x]=>some x
 | _=>none
noncomputable def l2{α:Type}:List α->Option (α×α)
 | [x,y]=>some (x,y)
 | _=>none
theorem y9{α:Type}{l:List α}{x:α}(h:l1 l=some x):l=[x]:=by
 match l,h with
 | [y],h=>cases h;rfl
theorem DE{α:Type}{l:List α}{x:α×α}(h:l2 l=some x):l=[x.1,x.2]:=by
 match l,h with
 | [y,z],h=>cases h;rfl
noncomputable def l3{α:Type}:List α->Option (α×α×α)
 | [x,y,z]=>some (x,y,z)
 | _=>none
noncomputable def Pb(r:Expr):Option (Str×List Expr×Keyword):=(CM r).bind λc=>match c.2.2 with
 | [kw]=>(AO c.1).map λx=>(x,c.2.1,kw)
 | _=>none
theorem Mn{r:Expr}{x:Str×List Expr×Keyword}(h:Pb r=some x):∃ p q,r = .Call (.Name x.1 p) x.2.1 [x.2.2] q:=by
 unfold Pb at h;cases hc:CM r with
 | none=>rw[hc]at h;cases h
 | some c=>
   rw[hc]at h;obtain⟨q,e,_⟩:=CN hc;obtain⟨f,as,ks⟩:=c
   match ks,h with
   | [kw],h=>
     replace h:(AO f).map (λx=>(x,as,kw))=some x:=h;cases hn:AO f with
     | none=>rw[hn]at h;cases h
     | some nm=>
       rw[hn]at h;cases h;obtain⟨p,e2⟩:=y8 hn;exact⟨p,q,by rw[e,e2]⟩
   | [],h=>cases h
   | _::_::_,h=>cases h
noncomputable def vFn(r:Expr):Option (Str×List Expr):=(CM r).bind λc=>if c.2.2.isEmpty then (AO c.1).map λx=>(x,c.2.1) else none
theorem An{r:Expr}{x:Str×List Expr}(h:vFn r=some x):∃ p q,r = .Call (.Name x.1 p) x.2 [] q:=by
 unfold vFn at h;cases hc:CM r with
 | none=>rw[hc]at h;cases h
 | some c=>
   rw[hc]at h;obtain⟨q,e,_⟩:=CN hc;simp only[Ur]at h;by_cases hk:c.2.2.isEmpty=true
   ·rw[iP hk]at h;cases hn:AO c.1 with
    | none=>rw[hn]at h;cases h
    | some y=>
      rw[hn]at h;cases h;obtain⟨p,ep⟩:=y8 hn;rw[e,ep,Ta.mp hk];exact⟨p,q,rfl⟩
   ·rw[iG hk]at h;cases h
noncomputable def vMt(r:Expr):Option (Expr×Str×List Expr):=(CM r).bind λc=>if c.2.2.isEmpty then (Kb c.1).bind λa=>if a.2.2 == Fu r then some (a.1,a.2.1,c.2.1) else none else none
theorem Kg{r:Expr}{x:Expr×Str×List Expr}(h:vMt r=some x):∃ ap cp,r = .Call (.Attribute x.1 x.2.1 ap) x.2.2 [] cp/\(ap.endLine == cp.line)=true:=by
 unfold vMt at h;cases hc:CM r with
 | none=>rw[hc]at h;cases h
 | some c=>
   rw[hc]at h;obtain⟨q,e,el⟩:=CN hc;simp only[Ur]at h;by_cases hk:c.2.2.isEmpty=true
   ·rw[iP hk]at h;cases hn:Kb c.1 with
    | none=>rw[hn]at h;cases h
    | some y=>
      rw[hn]at h;simp only[Ur]at h;obtain⟨p,ep,el2⟩:=Kf hn;by_cases hl:(y.2.2 == Fu r)=true
      ·rw[iP hl]at h;cases h;refine⟨p,q,?_,?_⟩
       ·rw[e,ep,Ta.mp hk]
       ·rw[<-el2,<-el];exact hl
      ·rw[iG hl]at h;cases h
   ·rw[iG hk]at h;cases h
mutual
noncomputable def Ao(k:Nat)(N:List Str)(sc:WK):Tg->Expr->Bool
 | .nm i,r=>(AO r).any λx=>decide (i<k)&&decide (N[i]?=some x)&&loc sc x
 | .tup ts,r=>(Cu r).any λes=>A0 k N sc ts es
noncomputable def A0(k:Nat)(N:List Str)(sc:WK):Tgs->List Expr->Bool
 | .nil,r=>r.isEmpty
 | .cons t ts,r=>(r.head?).any λe=>Ao k N sc t e&&f6 e&&A0 k N sc ts r.tail
end
noncomputable def nmB(N:List Str)(sc:WK)(i:Nat)(x:Str):Bool:=decide (N[i]?=some x)&&vis sc x&&!(x == ("__debug__":Str))&&!(x == ("__classdict__":Str))
mutual
noncomputable def i9(T:List Str)(N:List Str)(sc:WK):Ex->Expr->Bool
 | .var i,r=>(AO r).any λx=>nmB N sc i x
 | .c x,r=>(KZ r).any λk=>Pa x k
 | .op o a b,r=>(RE r).any λv=>decide (o=v.2.1)&&i9 T N sc a v.1&&i9 T N sc b v.2.2
 | .neg a,r=>(vUn r).any λv=>decide (v.1 = .USub)&&i9 T N sc a v.2
 | .cmp o a b,r=>(Mh r).any λv=>(l1 v.2.2).any λrb=>decide (v.2.1=[o])&&i9 T N sc a v.1&&i9 T N sc b rb&&w6 rb
 | .chn o p a b c,r=>(Mh r).any λv=>(l2 v.2.2).any λrs=>decide (v.2.1=[o,p])&&i9 T N sc a v.1&&i9 T N sc b rs.1&&i9 T N sc c rs.2&&w6 rs.2
 | .and a b,r=>(Ka r).any λv=>decide (v.1 = .And)&&(v.2.1.head?).any λx=>i9 T N sc a x&&(match l1 v.2.1.tail with | some y=>i9 T N sc b y | none=>decide (2<=v.2.1.tail.length)&&i9 T N sc b (.BoolOp .And v.2.1.tail v.2.2))
 | .or a b,r=>(Ka r).any λv=>decide (v.1 = .Or)&&(v.2.1.head?).any λx=>i9 T N sc a x&&(match l1 v.2.1.tail with | some y=>i9 T N sc b y | none=>decide (2<=v.2.1.tail.length)&&i9 T N sc b (.BoolOp .Or v.2.1.tail v.2.2))
 | .not a,r=>(vUn r).any λv=>decide (v.1 = .Not)&&i9 T N sc a v.2
 | .ife t a b,r=>(RF r).any λv=>i9 T N sc t v.1&&i9 T N sc a v.2.1&&i9 T N sc b v.2.2
 | .tup es,r=>(Cu r).any λrs=>AQ T N sc es rs
 | .lst es,r=>(RG r).any λrs=>AQ T N sc es rs
 | .ix a b,r=>(Mi r).any λv=>i9 T N sc a v.1&&i9 T N sc b v.2&&Am v.2
 | .slc a lo hi,r=>(Mi r).any λv=>(RH v.2).any λs=>i9 T N sc a v.1&&Kh T N sc lo s.1&&Kh T N sc hi s.2.1&&s.2.2.isNone
 | .call f es,r=>(vFn r).any λv=>decide (T[f]?=some v.1)&&glo sc v.1&&AQ T N sc es v.2&&!v.2.isEmpty
 | .bi b es,r=>(vFn r).any λv=>decide (b.name=v.1)&&glo sc v.1&&AQ T N sc es v.2&&!v.2.isEmpty
 | .mt m a es,r=>(vMt r).any λv=>decide (v.2.1=m.name)&&Aw v.1&&decide (v.2.2.length<29)&&i9 T N sc a v.1&&AQ T N sc es v.2.2
 | .comp own cn js g it t e,r=>(Kc r).any λv=>(l1 v.2.1).any λc=>decide (c.is_async=0)&&v3 sc v.2.2 own cn N js&&Ao own.length (own++cn) (Ea v.2.2 sc) g c.target&&Mo T N sc it c.target c.iter&&w6 c.iter&&Ed T (own++cn) (Ea v.2.2 sc) t c.ifs&&i9 T (own++cn) (Ea v.2.2 sc) e v.1
 | .tyc t,r=>(AO r).any λx=>decide (x=Str.ofString t.nm)&&glo sc x&&decide (t ≠ .none)
 | .min1 a,r=>(vFn r).any λv=>(l1 v.2).any λra=>decide (v.1=("min":Str))&&glo sc v.1&&i9 T N sc a ra&&f6 ra
 | .max1 a,r=>(vFn r).any λv=>(l1 v.2).any λra=>decide (v.1=("max":Str))&&glo sc v.1&&i9 T N sc a ra&&f6 ra
 | .eqd n a b,r=>(Mh r).any λv=>(l1 v.2.2).any λrb=>decide (v.2.1=[if n then CmpOp.NotEq else CmpOp.Eq])&&i9 T N sc a v.1&&i9 T N sc b rb&&w6 rb
 | .mind a d,r=>(Pb r).any λv=>(l1 v.2.1).any λra=>decide (v.1=("min":Str))&&glo sc v.1&&i9 T N sc a ra&&i9 T N sc d v.2.2.value&&f6 ra&&decide (v.2.2.arg=some ("default":Str))
 | .setd d e v,r=>(vMt r).any λu=>(l2 u.2.2).any λra=>decide (u.2.1=("setdefault":Str))&&Aw u.1&&i9 T N sc d u.1&&i9 T N sc e ra.1&&f6 ra.1&&i9 T N sc v ra.2&&f6 ra.2
 | .dnewp,r=>(Nu r).any λv=>v.1.isEmpty&&v.2.isEmpty
 | .no,_=>true
noncomputable def AQ(T:List Str)(N:List Str)(sc:WK):Exs->List Expr->Bool
 | .nil,r=>r.isEmpty
 | .cons e es,r=>(r.head?).any λx=>i9 T N sc e x&&f6 x&&AQ T N sc es r.tail
noncomputable def Kh(T:List Str)(N:List Str)(sc:WK):Eo->Option Expr->Bool
 | .no,r=>r.isNone
 | .yes e,r=>r.any λx=>i9 T N sc e x
noncomputable def Ed(T:List Str)(N:List Str)(sc:WK):Eo->List Expr->Bool
 | .no,r=>r.isEmpty
 | .yes e,r=>(l1 r).any λx=>i9 T N sc e x
noncomputable def Mo(T:List Str)(N:List Str)(sc:WK):Itb->Expr->Expr->Bool
 | .seq e,_,r=>i9 T N sc e r
 | .rng1 a,_,r=>(vFn r).any λv=>(l1 v.2).any λra=>decide (v.1=("range":Str))&&glo sc v.1&&i9 T N sc a ra&&f6 ra
 | .rng2 a b,_,r=>(vFn r).any λv=>(l2 v.2).any λra=>decide (v.1=("range":Str))&&glo sc v.1&&i9 T N sc a ra.1&&f6 ra.1&&i9 T N sc b ra.2&&f6 ra.2
 | .enum e,tg,r=>(Cu tg).isSome&&(vFn r).any λv=>(l1 v.2).any λa=>decide (v.1=("enumerate":Str))&&glo sc v.1&&i9 T N sc e a&&f6 a
 | .zip i j,tg,r=>(Cu tg).isSome&&(vFn r).any λv=>(l2 v.2).any λa=>(AO a.1).any λy=>(AO a.2).any λz=>decide (v.1=("zip":Str))&&glo sc v.1&&nmB N sc i y&&nmB N sc j z
end
noncomputable def spS(K:SU)(w:Sn):Sp:=λvs H Q _=>∃ as S xs,Ok K as H S/\RlAll K as H vs xs/\w xs S (Post K as H Q)
structure Cal(P:W8)(w:WC)(K:SU)(mg:Str->Option Vz)(base:Heap)(k:Nat)(x:Str)(ps:List Str)(sp:Sp):Prop where
 ex:∃ f fd,FnOk P w K mg base CX0 k f fd ps sp/\mg x=some (.ref f)/\PySem.W.keepIn K (.ref f)=true/\Binds K fd ps []
structure Cok(T:List Str)(Δ:Nat->Sn)(X:Cx)(k:Nat)(N:List Str)(sc:WK):Prop where
 hN:X.N=N
 hs:X.env.scope=sc
 nd:N.Nodup
 calm:X.calm=true
 fn:∀ i x,i<k->N[i]?=some x->sc.names.lookup x=some .cell->X.fn x=true
 un:X.A.units+102<cLine
 bl:∀ b:BI,X.mg b.name=none
 rng:X.mg "range"=none
 enm:X.mg "enumerate"=none
 rvs:X.mg "reversed"=none
 zip:X.mg "zip"=none
 sm0:X.mg "sum"=none
 st0:X.mg "set"=none
 dc0:X.mg "dict"=none
 ty:∀ t:TyN,t ≠ .none->X.mg (Str.ofString t.nm)=none
 gd:X.A.guards=some []
 call:∀ f x,T[f]?=some x->∃ k ps,Cal X.prog X.w X.K X.mg X.base k x ps (spS X.K (Δ f))/\Room k X.A
 mono:∀ f,MonoN (Δ f)
structure Good(X:Cx)(r:Expr)(w:WE×WT):Prop where
 pe:PE X r (lift X.K w.1)
 pt:PT X r (liftT X.K w.2)
 m:Mono w.1
 mt:MonoT w.2
 pw:∀ op vs p,r = .BoolOp op vs p->PW X r (liftT X.K w.2)
section
variable{X:Cx}{r:Expr}{w:WE}
theorem MonoT.tru(m:Mono w):MonoT (PV w):=λρ S P P' i h=>m _ _ _ _ (λx S' ⟨b,e,q⟩=>⟨b,e,i _ _ q⟩) h
theorem MonoT.bl(m:Mono w):MonoT (wBl w):=λρ S P P' i h=>m _ _ _ _ (λx S' ⟨b,e,q⟩=>⟨b,e,i _ _ q⟩) h
theorem Pc{K:SU}{as:List W3}{H:Hp}{S:Sto}{x:SV}{v:V}{b:Bool}(ok:Ok K as H S)(r:Rl K as H v x)(e:KI x S=some b):M0 K v H b:=by
 cases x with
 | bl c=>cases e;rw[rl_bl.mp r];exact rfl
 | tup xs=>
   cases e;obtain⟨p,vs,rfl,hp,rp⟩:=rl_tup.mp r;refine .inr (.inl ⟨vs,SqT.of hp,?_⟩);have:=rp.length;cases vs<;>cases xs<;>first | rfl | (simp at this)
 | loc k=>
   unfold KI at e;cases hs:S[k]? with
   | none=>simp only[hs]at e;cases e
   | some o=>
     cases o with
     | lst xs=>
       simp only[hs]at e;cases e;obtain⟨a,vs,rfl,_,ha,rr⟩:=j7 ok r hs;refine .inl ⟨vs,SqL.of ha,?_⟩;have:=rr.length;cases vs<;>cases xs<;>first | rfl | (simp at this)
     | iset _=>simp only[hs]at e;cases e
     | dtl _=>simp only[hs]at e;cases e
     | dtf _ _ _=>simp only[hs]at e;cases e
     | dtp _=>simp only[hs]at e;cases e
     | dct _=>simp only[hs]at e;cases e
     | dcf _ _ _=>simp only[hs]at e;cases e
 | _=>cases e
theorem Cv{env:Env}(h:KY r=true):∀ whole,isTrue r env whole=(do let v <- whole;standAt r.pos;holding [v] (truthy v)):=by
 intro whole;cases r<;>first | rfl | (cases h;done) | (rename_i o _ _;cases o<;>first | rfl | cases h)
theorem Mp{K:SU}(m:Mono w):∀ σ H Q,liftT K (PV w) σ H Q->lift K w σ H λx H'=>∃ k,M0 K x H' k/\Q k H':=by
 rintro σ H Q ⟨as,ρ,S,ok,en,h⟩;exact⟨as,ρ,S,ok,en,m _ _ _ _ (λx S' ⟨b,e,q⟩ as' H' v g ok' r=>⟨b,Pc ok' r e,q as' H' g ok'⟩) h⟩
theorem Fv{K:SU}(m:Mono w):∀ σ H Q,liftT K (wBl w) σ H Q->lift K w σ H λx H'=>∃ k,x = .bl k/\Q k H':=by
 rintro σ H Q ⟨as,ρ,S,ok,en,h⟩;exact⟨as,ρ,S,ok,en,m _ _ _ _ (λx S' ⟨b,e,q⟩ as' H' v g ok' r=>⟨b,by subst e;exact rl_bl.mp r,q as' H' g ok'⟩) h⟩
theorem Good.one(hp:PE X r (lift X.K w))(m:Mono w)(h:KY r=true):Good X r (tt1 w) where
 pe:=hp
 pt:=CF _ (JU hp (Cv h)) (Mp m)
 m:=m
 mt := .tru m
 pw:=λop vs p e=>by rw[e]at h;cases h
theorem Ki{X:Cx}{r:Expr}:PE X r (lift X.K λ_ _ _=>False):=λ_ _ _ _ _ _ h=>let ⟨_,_,_,_,_,z⟩:=h;z.elim
theorem Ee{X:Cx}{r:Expr}:PT X r (liftT X.K λ_ _ _=>False):=λ_ _ _ _ _ _ h=>let ⟨_,_,_,_,_,z⟩:=h;z.elim
theorem Kj{X:Cx}{r:Expr}:PW X r (liftT X.K λ_ _ _=>False):=λ_ _ _ _ _ _ _ h=>let ⟨_,_,_,_,_,z⟩:=h;z.elim
theorem Good.never:Good X r (λ_ _ _=>False,λ_ _ _=>False):=⟨Ki,Ee,λ_ _ _ _ _ h=>h,λ_ _ _ _ _ h=>h,λ_ _ _ _=>Kj⟩
end
theorem HJ{o:XD}:Mono2 (sOp o):=by
 unfold sOp;split<;>first | exact .add | exact .int0 | exact .mul | exact .int | exact λ_ _ _ _ _ _ h=>h
theorem w4{o:CmpOp}:Mono2 (AW o):=by
 unfold AW;split<;>first | exact .eq | exact .ne | exact .int0 | exact .in' | exact .isN
section
variable{X:Cx}
theorem Kk{o:XD}{ra rb:Expr}{p:Pos}{wa wb:WE}(ha:PE X ra (lift X.K wa))(hb:PE X rb (lift X.K wb))(ma:Mono wa)(mb:Mono wb):PE X (.BinOp ra o rb p) (lift X.K (w2 (sOp o) wa wb)):=by
 have go:∀{s:S2} {rr:R2},Mono2 s->OpR X (WV o) rr->B2 X.K s rr->PE X (.BinOp ra o rb p) (lift X.K (w2 s wa wb)):=λms ho sim=>i5 _ (Qa ho ha hb) (Av sim ms ma mb);have no:PE X (.BinOp ra o rb p) (lift X.K (w2 (λ_ _ _ _=>False) wa wb)):=go (λ_ _ _ _ _ _ h=>h) (rr:=λ_ _ _ _=>False) (λ_ _ _ _ _ _ _ _ _ _ _ _ h=>h.elim) (λ_ _ _ _ _ _ _ _ _ _ _ h=>h);cases o with
 | Add=>exact go .add MQ MR
 | Sub=>exact go .int0 OY (Ak λ_ _ _ _=>rl_int.mpr rfl)
 | Mult=>exact go .mul ((op_mul.or Ou).or MN) MS
 | FloorDiv=>exact go .int Lz (Dg λ_ _ _ _=>rl_int.mpr rfl)
 | Mod=>exact go .int OZ (Dg λ_ _ _ _=>rl_int.mpr rfl)
 | Pow=>exact go .int Oa (Dg λ_ _ _ _=>rl_int.mpr rfl)
 | _=>exact no
theorem CO(o:CmpOp)(hu:X.A.units<cLine):∃ rr:R2,OpR X (WJ o) rr/\B2 X.K (AW o) rr:=by
 cases o with
 | Eq=>exact⟨_,op_eq.or ((Oz hu).or (MO hu)),PF⟩
 | NotEq=>exact⟨_,op_ne.or (P0 hu),PH⟩
 | Lt=>exact⟨_,Qg,Ak λ_ _ _ _=>rl_bl.mpr rfl⟩
 | LtE=>exact⟨_,Qh,Ak λ_ _ _ _=>rl_bl.mpr rfl⟩
 | Gt=>exact⟨_,Qi,Ak λ_ _ _ _=>rl_bl.mpr rfl⟩
 | GtE=>exact⟨_,Qj,Ak λ_ _ _ _=>rl_bl.mpr rfl⟩
 | Is=>exact⟨_,Oh,MV⟩
 | IsNot=>exact⟨_,op_notN.or IK,K7⟩
 | In=>exact⟨_,PL,K6⟩
 | NotIn=>exact⟨_,IP,K6⟩
theorem Ap{o:CmpOp}{r:Expr}(h:w6 r=true):XW o r=false:=by
 cases r<;>first | rfl | cases h
theorem Ia{o:CmpOp}{ra rb:Expr}{p:Pos}{wa wb:WE}(hu:X.A.units<cLine)(ha:PE X ra (lift X.K wa))(hb:PE X rb (lift X.K wb))(ma:Mono wa)(mb:Mono wb)(hn:w6 rb=true):Good X (.Compare ra [o] [rb] p) (tt2 (w2 (AW o) wa wb)):=by
 obtain⟨rr,ho,sim⟩:=CO (X:=X) o hu;have m:Mono (w2 (AW o) wa wb) := .two w4 ma mb
 exact{pe:=i5 _ (Gf ho ha hb (Ap hn)) (Av sim w4 ma mb)
       pt:=CF _ (Gg ho ha hb (Ap hn)) λσ H Q h=>Av sim w4 ma mb σ H _ (Fv m σ H Q h)
       m:=m
       mt := .bl m
       pw:=λ_ _ _ e=>by cases e}
theorem Ef{o p:CmpOp}{a b c:WE}(ma:Mono a)(mb:Mono b)(mc:Mono c):Mono (KK (AW o) (AW p) a b c):=λρ S P P' i h=>ma _ _ _ _ (λx S1 h=>mb _ _ _ _ (λy S2 h=>w4 _ _ _ _ _ (λz S3 ⟨k,e,q⟩=>⟨k,e,by
 cases k with
 | true=>rw[iP rfl]at q ⊢;exact mc _ _ _ _ (λu S4 h=>w4 _ _ _ _ _ i h) q
 | false=>rw[iG Si]at q ⊢;exact i _ _ q⟩) h) h) h
theorem HK{K:SU}{o p:CmpOp}{r r':R2}{a b c:WE}(s1:B2 K (AW o) r)(s2:B2 K (AW p) r')(ma:Mono a)(mb:Mono b)(mc:Mono c):∀ σ H Q,lift K (KK (AW o) (AW p) a b c) σ H Q->FT r r' (lift K a) (lift K b) (lift K c) σ H Q:=by
 rintro σ H Q ⟨as,ρ,S,ok,en,h⟩;refine⟨as,ρ,S,ok,en,ma _ _ _ _ (λx S1 h as1 H1 v g1 ok1 rv=>?_) h⟩;refine⟨as1,ρ,S1,ok1,en.mono g1.pre (g1.ku ok),mb _ _ _ _ (λy S2 h as2 H2 u g2 ok2 ru=>?_) h⟩;refine s1 as2 H2 S2 x y v u _ ok2 (Rl.mono g2.pre (g2.ku ok1) x v rv) ru (w4 _ _ _ _ _ (λz S3 ⟨k,e,q⟩ as3 H3 t g3 ok3 rt=>?_) h);subst e;refine⟨k,rl_bl.mp rt,?_⟩;cases k with
 | true=>
   rw[iP rfl]at q ⊢;refine⟨as3,ρ,S3,ok3,(en.mono g1.pre (g1.ku ok)).mono (g2.trans g3).pre ((g2.trans g3).ku ok1),mc _ _ _ _ (λn S4 h as4 H4 m g4 ok4 rm=>?_) q⟩;exact s2 as4 H4 S4 y n u m Q ok4 (Rl.mono (g3.trans g4).pre ((g3.trans g4).ku ok2) y u ru) rm (w4 _ _ _ _ _ (λf S5 hf=>hf.mono (((g1.trans g2).trans g3).trans g4)) h)
 | false=>
   rw[iG Si]at q ⊢;exact q as3 H3 _ ((g1.trans g2).trans g3) ok3 (rl_bl.mpr rfl)
theorem Ib{o q:CmpOp}{ra rb rc:Expr}{p:Pos}{wa wb wc:WE}(hu:X.A.units<cLine)(ha:PE X ra (lift X.K wa))(hb:PE X rb (lift X.K wb))(hc:PE X rc (lift X.K wc))(ma:Mono wa)(mb:Mono wb)(mc:Mono wc)(hn:w6 rc=true):Good X (.Compare ra [o,q] [rb,rc] p) (tt2 (KK (AW o) (AW q) wa wb wc)):=by
 obtain⟨r1,ho,sim⟩:=CO (X:=X) o hu;obtain⟨r2,hq,sim2⟩:=CO (X:=X) q hu;have m:Mono (KK (AW o) (AW q) wa wb wc):=Ef ma mb mc;have hm:Xw [o,q] [rb,rc]=false:=Ap hn
 exact{pe:=i5 _ (JS ho hq ha hb hc hm) (HK sim sim2 ma mb mc)
       pt:=CF _ (JT ho hq ha hb hc hm) λσ H Q h=>HK sim sim2 ma mb mc σ H _ (Fv m σ H Q h)
       m:=m
       mt := .bl m
       pw:=λ_ _ _ e=>by cases e}
end
section
variable{K:SU}
theorem k9{c:Bool}{A B A' B':Prop}(ha:A->A')(hb:B->B')(h:if c=true then A else B):if c=true then A' else B':=by
 cases c with
 | true=>rw[iP rfl]at h ⊢;exact ha h
 | false=>rw[iG Si]at h ⊢;exact hb h
theorem Mono.and{a b:WE}(ma:Mono a)(mb:Mono b):Mono (KJ a b):=λρ S P P' i h=>ma _ _ _ _ (λx S1 ⟨c,e,q⟩=>⟨c,e,k9 (mb _ _ _ _ i) (i _ _) q⟩) h
theorem Mono.or{a b:WE}(ma:Mono a)(mb:Mono b):Mono (wOr a b):=λρ S P P' i h=>ma _ _ _ _ (λx S1 ⟨c,e,q⟩=>⟨c,e,k9 (i _ _) (mb _ _ _ _ i) q⟩) h
theorem Mono.not{a:WE}(ma:Mono a):Mono (Me a):=λρ S P P' i h=>ma _ _ _ _ (λx S1 ⟨c,e,q⟩=>⟨c,e,i _ _ q⟩) h
theorem MonoT.and{a b:WT}(ma:MonoT a)(mb:MonoT b):MonoT (CL a b):=λρ S P P' i h=>ma _ _ _ _ (λx S1 q=>k9 (mb _ _ _ _ i) (i _ _) q) h
theorem MonoT.or{a b:WT}(ma:MonoT a)(mb:MonoT b):MonoT (Fp a b):=λρ S P P' i h=>ma _ _ _ _ (λx S1 q=>k9 (i _ _) (mb _ _ _ _ i) q) h
theorem MonoT.not{a:WT}(ma:MonoT a):MonoT (HH a):=λρ S P P' i h=>ma _ _ _ _ (λx S1 q=>i _ _ q) h
theorem Mono.ifE{t:WT}{a b:WE}(mt:MonoT t)(ma:Mono a)(mb:Mono b):Mono (Mf t a b):=λρ S P P' i h=>mt _ _ _ _ (λx S1 q=>k9 (ma _ _ _ _ i) (mb _ _ _ _ i) q) h
theorem Post.at{as as1:List W3}{H H1:Hp}{Q:VK}{x:SV}{S:Sto}{v:V}(h:Post K as H Q x S)(g:Go as H as1 H1)(ok:Ok K as1 H1 S)(r:Rl K as1 H1 v x):Q v H1:=h as1 H1 v g ok r
theorem HL{a b:WE}(ma:Mono a)(mb:Mono b):∀ σ H Q,lift K (KJ a b) σ H Q->Nb (lift K a) (lift K b) σ H Q:=by
 rintro σ H Q ⟨as,ρ,S,ok,en,h⟩;refine⟨as,ρ,S,ok,en,ma _ _ _ _ (λx S1 ⟨c,e,q⟩ as1 H1 v g1 ok1 rv=>?_) h⟩;subst e;refine⟨c,rl_bl.mp rv,k9 (λq=>?_) (λq=>q.at g1 ok1 (rl_bl.mpr rfl)) q⟩;exact⟨as1,ρ,S1,ok1,en.mono g1.pre (g1.ku ok),mb _ _ _ _ (λy S2 h=>h.mono g1) q⟩
theorem Kl{a b:WE}(ma:Mono a)(mb:Mono b):∀ σ H Q,lift K (wOr a b) σ H Q->QO (lift K a) (lift K b) σ H Q:=by
 rintro σ H Q ⟨as,ρ,S,ok,en,h⟩;refine⟨as,ρ,S,ok,en,ma _ _ _ _ (λx S1 ⟨c,e,q⟩ as1 H1 v g1 ok1 rv=>?_) h⟩;subst e;refine⟨c,rl_bl.mp rv,k9 (λq=>q.at g1 ok1 (rl_bl.mpr rfl)) (λq=>?_) q⟩;exact⟨as1,ρ,S1,ok1,en.mono g1.pre (g1.ku ok),mb _ _ _ _ (λy S2 h=>h.mono g1) q⟩
theorem Mq{a:WE}(ma:Mono a):∀ σ H Q,lift K (Me a) σ H Q->Nc (lift K a) σ H Q:=by
 rintro σ H Q ⟨as,ρ,S,ok,en,h⟩;refine⟨as,ρ,S,ok,en,ma _ _ _ _ (λx S1 ⟨c,e,q⟩ as1 H1 v g1 ok1 rv=>?_) h⟩;subst e;exact⟨c,rl_bl.mp rv,q.at g1 ok1 (rl_bl.mpr rfl)⟩
theorem PostT.mono{as as1:List W3}{H H1:Hp}{Q:Bool->Hp->Prop}{x:Bool}{S:Sto}(h:PostT K as H Q x S)(g:Go as H as1 H1):PostT K as1 H1 Q x S:=λas' H' g'=>h as' H' (g.trans g')
theorem Eg{a b:WT}(ma:MonoT a)(mb:MonoT b):∀ σ H Q,liftT K (CL a b) σ H Q->QM (liftT K a) (liftT K b) σ H Q:=by
 rintro σ H Q ⟨as,ρ,S,ok,en,h⟩;refine⟨as,ρ,S,ok,en,ma _ _ _ _ (λc S1 q as1 H1 g1 ok1=>?_) h⟩;refine k9 (λq=>?_) (λq=>q as1 H1 g1 ok1) q;exact⟨as1,ρ,S1,ok1,en.mono g1.pre (g1.ku ok),mb _ _ _ _ (λy S2 h=>h.mono g1) q⟩
theorem HM{a b:WT}(ma:MonoT a)(mb:MonoT b):∀ σ H Q,liftT K (Fp a b) σ H Q->tOr (liftT K a) (liftT K b) σ H Q:=by
 rintro σ H Q ⟨as,ρ,S,ok,en,h⟩;refine⟨as,ρ,S,ok,en,ma _ _ _ _ (λc S1 q as1 H1 g1 ok1=>?_) h⟩;refine k9 (λq=>q as1 H1 g1 ok1) (λq=>?_) q;exact⟨as1,ρ,S1,ok1,en.mono g1.pre (g1.ku ok),mb _ _ _ _ (λy S2 h=>h.mono g1) q⟩
theorem Km{a:WT}(ma:MonoT a):∀ σ H Q,liftT K (HH a) σ H Q->QN (liftT K a) σ H Q:=by
 rintro σ H Q ⟨as,ρ,S,ok,en,h⟩;exact⟨as,ρ,S,ok,en,ma _ _ _ _ (λc S1 q as1 H1 g1 ok1=>q as1 H1 g1 ok1) h⟩
theorem Mr{t:WT}{a b:WE}(mt:MonoT t)(ma:Mono a)(mb:Mono b):∀ σ H Q,lift K (Mf t a b) σ H Q->tIf (liftT K t) (lift K a) (lift K b) σ H Q:=by
 rintro σ H Q ⟨as,ρ,S,ok,en,h⟩;refine⟨as,ρ,S,ok,en,mt _ _ _ _ (λc S1 q as1 H1 g1 ok1=>?_) h⟩;refine k9 (λq=>?_) (λq=>?_) q
 ·exact⟨as1,ρ,S1,ok1,en.mono g1.pre (g1.ku ok),ma _ _ _ _ (λy S2 h=>h.mono g1) q⟩
 ·exact⟨as1,ρ,S1,ok1,en.mono g1.pre (g1.ku ok),mb _ _ _ _ (λy S2 h=>h.mono g1) q⟩
end
section
variable{X:Cx}
theorem Dq{e:Expr}{t:TT}(t':TT)(h:PW X e t)(imp:∀ σ H Q,t' σ H Q->t σ H Q):PW X e t':=λwh pq s σ H Q I hw=>h wh pq s σ H Q I (imp σ H Q hw)
theorem Fw{x y:Expr}{p:Pos}{a b:WE×WT}(ha:Good X x a)(hb:Good X y b):Good X (.BoolOp .And [x,y] p) (KJ a.1 b.1,CL a.2 b.2):=
 have pw:PW X (.BoolOp .And [x,y] p) (liftT X.K (CL a.2 b.2)):=Dq _ (JH ha.pt (Ls hb.pt)) (Eg ha.mt hb.mt)
 {pe:=i5 _ (JJ ha.pe (JI hb.pe)) (HL ha.m hb.m),pt:=pw.pt,m := .and ha.m hb.m,mt := .and ha.mt hb.mt,pw:=λ_ _ _ _=>pw}
theorem Fx{x y z:Expr}{zs:List Expr}{p:Pos}{a b:WE×WT}(ha:Good X x a)(hb:Good X (.BoolOp .And (y::z::zs) p) b):Good X (.BoolOp .And (x::y::z::zs) p) (KJ a.1 b.1,CL a.2 b.2):=
 have pw:PW X (.BoolOp .And (x::y::z::zs) p) (liftT X.K (CL a.2 b.2)):=Dq _ (JH ha.pt (hb.pw _ _ _ rfl)) (Eg ha.mt hb.mt)
 {pe:=i5 _ (JJ ha.pe hb.pe) (HL ha.m hb.m),pt:=pw.pt,m := .and ha.m hb.m,mt := .and ha.mt hb.mt,pw:=λ_ _ _ _=>pw}
theorem Ic{x y:Expr}{p:Pos}{a b:WE×WT}(ha:Good X x a)(hb:Good X y b):Good X (.BoolOp .Or [x,y] p) (wOr a.1 b.1,Fp a.2 b.2):=
 have pw:PW X (.BoolOp .Or [x,y] p) (liftT X.K (Fp a.2 b.2)):=Dq _ (Na ha.pt (ON hb.pt)) (HM ha.mt hb.mt)
 {pe:=i5 _ (Nd ha.pe (JI hb.pe)) (Kl ha.m hb.m),pt:=pw.pt,m := .or ha.m hb.m,mt := .or ha.mt hb.mt,pw:=λ_ _ _ _=>pw}
theorem Id{x y z:Expr}{zs:List Expr}{p:Pos}{a b:WE×WT}(ha:Good X x a)(hb:Good X (.BoolOp .Or (y::z::zs) p) b):Good X (.BoolOp .Or (x::y::z::zs) p) (wOr a.1 b.1,Fp a.2 b.2):=
 have pw:PW X (.BoolOp .Or (x::y::z::zs) p) (liftT X.K (Fp a.2 b.2)):=Dq _ (Na ha.pt (hb.pw _ _ _ rfl)) (HM ha.mt hb.mt)
 {pe:=i5 _ (Nd ha.pe hb.pe) (Kl ha.m hb.m),pt:=pw.pt,m := .or ha.m hb.m,mt := .or ha.mt hb.mt,pw:=λ_ _ _ _=>pw}
theorem Ie{x:Expr}{p:Pos}{a:WE×WT}(ha:Good X x a):Good X (.UnaryOp .Not x p) (Me a.1,HH a.2) where
 pe:=i5 _ (OP ha.pe) (Mq ha.m)
 pt:=CF _ (OO ha.pt) (Km ha.mt)
 m := .not ha.m
 mt := .not ha.mt
 pw:=λ_ _ _ e=>by cases e
theorem Ig{t x y:Expr}{p:Pos}{c a b:WE×WT}(hc:Good X t c)(ha:Good X x a)(hb:Good X y b):Good X (.IfExp t x y p) (Mf c.2 a.1 b.1,λ_ _ _=>False) where
 pe:=i5 _ (JK hc.pt ha.pe hb.pe) (Mr hc.mt ha.m hb.m)
 pt:=Ee
 m := .ifE hc.mt ha.m hb.m
 mt:=λ_ _ _ _ _ h=>h
 pw:=λ_ _ _ e=>by cases e
theorem Pe{i:Nat}{x:Str}{p:Pos}{N:List Str}{sc:WK}{T:List Str}{Δ:Nat->Sn}{k:Nat}(C:Cok T Δ X k N sc)(hi:N[i]?=some x)(hv:vis sc x=true)(h1:(x == ("__debug__":Str))=false)(h2:(x == ("__classdict__":Str))=false):PE X (.Name x p) (EI i):=by
 have hv':Vis X.env.scope x:=by
  rw[C.hs];unfold vis at hv;simp only[Td,bQ]at hv;rcases hv with(hv | hv) | hv
  ·exact .inl hv
  ·exact .inr (.inl hv)
  ·exact .inr (.inr hv)
 exact OJ (i:=i) (by rw[C.hN];exact hi) hv' h1 h2
theorem Ms{x:SV}{k:Const}{j:Nat}{p:Pos}(h:Pa x k=true):Good X (.Constant k j p) (tt1 (wC x)):=by
 refine .one ?_ .c rfl;unfold Pa at h;split at h
 ·exact i5 _ OL (EV λ_ _=>rl_non.mpr rfl)
 ·rw[bQ]at h;subst h;exact i5 _ QL (EV λ_ _=>rl_bl.mpr rfl)
 ·have h:=of_decide_eq_true h;subst h;exact i5 _ OK (EV λ_ _=>rl_int.mpr rfl)
 ·have h:=of_decide_eq_true h;subst h;exact i5 _ OM (EV λ_ _=>rl_str.mpr rfl)
 ·cases h
theorem CP:EU KH:=λx S P P' i h=>by
 unfold KH at h ⊢;split at h
 ·exact i _ _ h
 ·exact h.elim
theorem Ih{x:Expr}{p:Pos}{a:WE×WT}(ha:Good X x a):Good X (.UnaryOp .USub x p) (tt1 (w1 KH a.1)):=by
 refine .one (i5 _ (Qb Of ha.pe) (P8 (λas H S x v Q ok r h=>?_) CP ha.m)) (.one CP ha.m) rfl;unfold KH at h;split at h
 ·exact⟨_,rl_int.mp r,h.here ok (rl_int.mpr rfl)⟩
 ·exact h.elim
theorem Fy{b:Expr}(h:Am b=true):Gn b:=λo i=>by cases b<;>first | rfl | cases h
theorem Kn{x y:Expr}{p:Pos}{a b:WE×WT}(ha:Good X x a)(hb:Good X y b)(h:Am y=true):Good X (.Subscript x y p) (tt1 (w2 sIx a.1 b.1)):=
 .one (i5 _ (Qp (ix_list.or Oq) ha.pe hb.pe (Fy h)) (Av PM .ix ha.m hb.m)) (.two .ix ha.m hb.m) rfl
noncomputable def RI(K:SU)(as:List W3)(H:Hp)(Q:Option Int->Hp->Prop):Option Int->Sto->Prop:=λb S'=>∀ as' H',Go as H as' H'->Ok K as' H' S'->Q b H'
noncomputable def Eh(K:SU)(w:WO):St->Hp->(Option Int->Hp->Prop)->Prop:=λσ H Q=>∃ as ρ S,Ok K as H S/\EnvOk K as H σ ρ/\w ρ S (RI K as H Q)
noncomputable def MonoO(w:WO):Prop:=∀ ρ S (P P':Option Int->Sto->Prop),(∀ x S',P x S'->P' x S')->w ρ S P->w ρ S P'
theorem MonoO.no:MonoO PX:=λ_ _ _ _ i h=>i _ _ h
theorem MonoO.yes{w:WE}(m:Mono w):MonoO (KL w):=λ_ _ _ _ i h=>m _ _ _ _ (λx S1 ⟨k,e,q⟩=>⟨k,e,i _ _ q⟩) h
theorem RJ:PO X none (Eh X.K PX):=λpq s σ H Q I ⟨as,ρ,S,ok,en,h⟩=>M7 pq s σ H Q I (h as H (Go.refl _ _) ok)
theorem Pf{x:Expr}{a:WE×WT}(ha:Good X x a):PO X (some x) (Eh X.K (KL a.1)):=λpq s σ H Q I ⟨as,ρ,S,ok,en,h⟩=>
 M8 ha.pe pq s σ H Q I ⟨as,ρ,S,ok,en,ha.m _ _ _ _ (λy S1 ⟨k,e,q⟩ as1 H1 v g1 ok1 rv=>⟨k,by subst e;exact rl_int.mp rv,q as1 H1 g1 ok1⟩) h⟩
theorem RlAll.cut{K:SU}{as:List W3}{H:Hp}{xs:List SV}{vs:List V}(h:RlAll K as H vs xs)(lo hi:Option Int):RlAll K as H (EL vs lo hi) (Fq xs lo hi):=by
 unfold EL Fq;rw[h.length];exact(h.drop _).take _
theorem CQ{x:SV}{lo hi:Option Int}{S:Sto}{P P':QE}(i:∀ x S',P x S'->P' x S')(h:KM x lo hi S P):KM x lo hi S P':=by
 unfold KM at h ⊢;split at h
 ·obtain⟨xs,a,b⟩:=h;exact⟨xs,a,i _ _ b⟩
 ·exact i _ _ h
 ·exact h.elim
theorem Mt{K:SU}{as:List W3}{H:Hp}{S:Sto}{Q:VK}{x:SV}{v:V}{l k:Option Int}(ok:Ok K as H S)(r:Rl K as H v x)(h:KM x l k S (Post K as H Q)):Qs K v l k H Q\/Qo K v l k H Q\/R1 K v l k H Q:=by
 cases x with
 | loc j=>
   obtain⟨xs,h1,h2⟩:=h;obtain⟨b,vs,rfl,_,hb,rr⟩:=j7 ok r h1;exact .inl ⟨b,vs,rfl,SqL.of hb,AL ok (rr.cut l k) h2⟩
 | tup xs=>
   obtain⟨b,vs,rfl,hb,rr⟩:=rl_tup.mp r;by_cases hw:HT.sIx vs.length 0 l=0/\HT.sIx vs.length vs.length k=vs.length
   ·refine .inr (.inr ⟨b,vs,rfl,SqT.of hb,hw,?_⟩)
    have e:Fq xs l k=xs:=by
     unfold Fq;rw[<-rr.length,hw.1,hw.2,rr.length];simp
    have h':Post K as H Q (.tup (Fq xs l k)) S:=h;rw[e]at h';exact h'.here ok r
   ·exact .inr (.inl ⟨b,vs,rfl,SqT.of hb,hw,AM ok (rr.cut l k) h⟩)
 | _=>exact False.elim h
theorem Ii{x:Expr}{rl rh:Option Expr}{p p2:Pos}{a:WE×WT}{lo hi:WO}(ha:Good X x a)(hl:PO X rl (Eh X.K lo))(hh:PO X rh (Eh X.K hi))(ml:MonoO lo)(mh:MonoO hi):Good X (.Subscript x (.Slice rl rh none p2) p) (tt1 (PY a.1 lo hi)):=by
 refine .one (i5 _ (JY (sl_list.or (sl_tup.or MG)) ha.pe hl hh) ?_) (λρ S P P' i h=>ha.m _ _ _ _ (λx S1 h=>ml _ _ _ _ (λl S2 h=>mh _ _ _ _ (λk S3 h=>CQ i h) h) h) h) rfl;rintro σ H Q ⟨as,ρ,S,ok,en,h⟩;refine⟨as,ρ,S,ok,en,ha.m _ _ _ _ (λx S1 h as1 H1 v g1 ok1 rv=>?_) h⟩;refine⟨as1,ρ,S1,ok1,en.mono g1.pre (g1.ku ok),ml _ _ _ _ (λl S2 h as2 H2 g2 ok2=>?_) h⟩;refine⟨as2,ρ,S2,ok2,(en.mono g1.pre (g1.ku ok)).mono g2.pre (g2.ku ok1),mh _ _ _ _ (λk S3 h as3 H3 g3 ok3=>?_) h⟩;have rv3:=Rl.mono (g2.trans g3).pre ((g2.trans g3).ku ok1) x v rv;have g:=(g1.trans g2).trans g3;exact Mt ok3 rv3 (CQ (λ_ _ h=>h.mono g) h)
end
end Rf
namespace L2
open PySem PySem.Spec PyProof.Rows
section
variable{prog:W8}{w:WC}{A:WH}{R:Result->W4->Prop}{I:W3}{fp wr:List W3}{G:Array Xm->Array Xm->Prop}{n:Nat}{P:Nat->Vz->Prop}{St:Nat->W4->Prop}
noncomputable def TupsAt(prog:W8)(w:WC)(h:Heap)(n:Nat)(ta:Nat->W3)(kv:Nat->Key×Vz):Prop:=∀ i,i<n->∃ key,(m9 prog w).is (kv i).1 key=true/\h.IsTuple (ta i) #[key,(kv i).2]
theorem TupsAt.keep{h h':Heap}{ta:Nat->W3}{kv:Nat->Key×Vz}(t:TupsAt prog w h n ta kv)(k:∀ i o,i<n->h.get? (ta i)=some o->h'.get? (ta i)=some o):TupsAt prog w h' n ta kv:=λi hi=>by
 obtain⟨key,hk,o,ho,r⟩:=t i hi;exact⟨key,hk,o,k i o hi ho,r⟩
end
noncomputable def Kpt(hb h:Heap):Prop:=∀ b o,hb.get? b=some o->h.get? b=some o
structure Sk(hb h:Heap)(a k:W3)(ks xs:Array Vz)(e:Nat):Prop where
 a0:hb.get? a=none
 k0:hb.get? k=none
 ne:k≠a
 kp:Kpt hb h
 kk:∃ n,h.get? k=some (seqObj "list" ks n)
 aa:h.get? a=some (seqObj "list" xs e)
theorem Sk.grow{hb h h':Heap}{a k:W3}{ks xs:Array Vz}{e:Nat}(S:Sk hb h a k ks xs e)(K:Kpt h h'):Sk hb h' a k ks xs e:=
 ⟨S.a0,S.k0,S.ne,λb o q=>K _ _ (S.kp b o q),S.kk.elim λn q=>⟨n,K _ _ q⟩,K _ _ S.aa⟩
theorem KV.at{κ:Type}{ks:List (κ×V)}{vs:List (κ×Vz)}(r:KV ks vs):∀{i:Nat} {p:κ×V},ks[i]?=some p->∃ v,vs[i]?=some (p.1,v)/\RelV p.2 v:=by
 intro i
 induction r generalizing i with
 | nil=>exact λh=>by simp at h
 | @cons a b _ _ h _ ih=>
   intro p hp;cases i with
   | zero=>cases hp;exact⟨b.2,by rw[h.1];rfl,h.2⟩
   | succ i=>exact ih hp
open PySem.MeetsSeq PySem.MeetsSeq2 PySem.MeetsSeq3
noncomputable def EqH(K:SU)(H:Hp):Nat->V->V->Prop
 | 0,x,y=>l8 x=true/\x=y
 | k+1,x,y=>EqH K H k x y\/(∃ a b xs ys,x = .ref a/\y = .ref b/\((SqL K H a xs/\SqL K H b ys)\/(SqT K H a xs/\SqT K H b ys))/\xs.length=ys.length/\∀(i:Nat) u v,xs[i]?=some u->ys[i]?=some v->EqH K H k u v)
section
variable{X:Cx}
theorem Ko{x:V}(f:l8 x=true):eqV x x=true:=by
 cases x<;>first | (cases f;done) | simp[eqV]
theorem Ij{A:WH}{s:W4}{x:V}{v u:Vz}(f:l8 x=true)(a:RelV x v)(b:RelV x u):SeqAt.EqAt A s v u true:=by
 have h:[x].all l8=true:=by simp[f]
 have:=BB (A:=A) (s:=s) (xs:=[x]) (ys:=[x]) (.cons a .nil) (.cons b .nil) (.inl ⟨h,h⟩) 0 (Ve) (Ve);rw[show eqV ([x].getD 0 .non) ([x].getD 0 .non)=true from Ko f]at this;exact this
theorem Bi{A:WH}{s:W4}{pq:List (W3×Obj)}{σ:St}{H:Hp}{k:Nat}(ih:∀{x y:V} {v u:Vz},EqH X.K H k x y->RelV x v->RelV y u->SeqAt.EqAt A s v u true){xs ys:List V}{i1 i2:List Vz}(r1:Vals xs i1)(r2:Vals ys i2)(it:∀(i:Nat) u v,xs[i]?=some u->ys[i]?=some v->EqH X.K H k u v)(j:Nat)(h1:j<i1.toArray.size)(h2:j<i2.toArray.size):SeqAt.EqAt A s i1.toArray[j] i2.toArray[j] true:=by
 have l1:=r1.length;have l2:=r2.length;simp only[SZ]at h1 h2;have g1:xs[j]?=some (xs[j]'(by omega)):=by simp
 have g2:ys[j]?=some (ys[j]'(by omega)):=by simp
 obtain⟨u,hu,ru⟩:=r1.get g1;obtain⟨w,hw,rw'⟩:=r2.get g2;have z1:i1.toArray[j]=u:=by obtain⟨_,q⟩:=gM hu;simpa using q
 have z2:i2.toArray[j]=w:=by obtain⟨_,q⟩:=gM hw;simpa using q
 rw[z1,z2];exact ih (it j _ _ g1 g2) ru rw'
theorem Ds{pq:List (W3×Obj)}{σ:St}{H:Hp}{s:W4}(I:Inv X pq σ H s):∀(k:Nat) {A:WH} {x y:V} {v u:Vz},A.units+k<cLine->EqH X.K H k x y->RelV x v->RelV y u->SeqAt.EqAt A s v u true
 | 0,A,x,y,v,u,hu,h,rx,ry=>by
   obtain⟨f,rfl⟩:=h;exact Ij f rx ry
 | k+1,A,x,y,v,u,hu,h,rx,ry=>by
   rcases h with h | ⟨a,b,xs,ys,rfl,rfl,h,hl,it⟩
   ·exact Ds I k (by omega) h rx ry
   ·cases rx;cases ry;by_cases hab:a=b
    ·subst hab;exact SeqAt.EqAt.same _
    ·refine SeqAt.EqAt.of_refs hab ?_;have hu1:A.in1.units+k<cLine:=by show A.units+1+k<cLine;omega
     rcases h with⟨h1,h2⟩ | ⟨h1,h2⟩
     ·obtain⟨i1,r1,p1,_⟩:=I.list h1;obtain⟨i2,r2,p2,_⟩:=I.list h2;have l1:=r1.length;have l2:=r2.length;have:=SeqAt.RcAt.lists (A:=A) (s:=s) (e:=λ_=>true) p1.isList p2.isList (by simp;omega) (by omega) (Bi (pq:=pq) (σ:=σ) (Ds I k hu1) r1 r2 it);rw[show((Sf i1.toArray.size).all λ_=>true)=true by simp]at this;exact this
     ·obtain⟨i1,r1,p1,_⟩:=I.tuple h1;obtain⟨i2,r2,p2,_⟩:=I.tuple h2;have l1:=r1.length;have l2:=r2.length;have:=SeqAt.RcAt.tuples (A:=A) (s:=s) (e:=λ_=>true) p1 p2 (by omega) (Bi (pq:=pq) (σ:=σ) (Ds I k hu1) r1 r2 it);rw[show((Sf (min i1.toArray.size i2.toArray.size)).all (λ_=>true)&&i1.toArray.size == i2.toArray.size)=true by simp;omega]at this;exact this
noncomputable def Pg(K:SU)(ng:Bool):V->V->Hp->VK->Prop:=λx y H Q=>∃(a b:W3) (xs ys:List V),x = .ref a/\y = .ref b/\SqL K H a xs/\SqL K H b ys/\xs.length=ys.length/\(∀(i:Nat) u v,xs[i]?=some u->ys[i]?=some v->EqH K H 2 u v)/\Q (.bl (!ng)) H
theorem Ph(ng:Bool)(hu:X.A.units+3<cLine):OpR X (WJ (if ng then CmpOp.NotEq else CmpOp.Eq)) (Pg X.K ng):=by
 intro pq s σ H x y v u Q I rx ry h;obtain⟨a,b,xs,ys,rfl,rfl,h1,h2,hl,it,q⟩:=h;cases rx;cases ry;obtain⟨i1,r1,p1,_⟩:=I.list h1;obtain⟨i2,r2,p2,_⟩:=I.list h2;have l1:=r1.length;have l2:=r2.length;have hu1:X.A.in1.units+2<cLine:=by show X.A.units+1+2<cLine;omega
 have al:=Bi (pq:=pq) (σ:=σ) (A:=X.A.in1) (s:=s) (Ds I 2 hu1) r1 r2 it;cases ng
 ·refine SeqAt.eq_listAt (e:=λ_=>true) p1.isList p2.isList (by simp;omega) (by omega) al ⟨.bl _,H,I,rfl,?_⟩;rw[show((Sf i1.toArray.size).all λ_=>true)=true by simp];exact q
 ·refine(SeqAt.RcNeAt.lists (e:=λ_=>true) p1.isList p2.isList (by simp;omega) (by omega) al) _ _ _ _ ⟨.bl _,H,I,rfl,?_⟩;rw[show((Sf i1.toArray.size).all λ_=>true)=true by simp];exact q
end
theorem KT.at{H:Hp}:∀{kvs:List (List Key×V)} {xs:List (List Key×W3×Vz)},KT H kvs xs->∀{i:Nat} {p:List Key×V},kvs[i]?=some p->∃ q,xs[i]?=some q/\H q.2.1=some (.tup (p.1.map kV))
 | _,_,.nil,_,_,h=>by simp at h
 | _,_,.cons a t,0,p,h=>by simp at h;subst h;exact⟨_,rfl,a.2.1⟩
 | _,_,.cons a t,i+1,p,h=>by
   obtain⟨q,e,z⟩:=KT.at t (i:=i) (p:=p) (by simpa using h);exact⟨q,by simpa using e,z⟩
end L2
namespace Rf
open PySem L2
structure GoodA(X:Cx)(rs:List Expr)(w:WA):Prop where
 pa:PA X rs (liftA X.K w)
 m:MonoA w
section
variable{X:Cx}
theorem Ik:GoodA X [] DA:=⟨MH,.nil⟩
theorem Fz{x:Expr}{xs:List Expr}{a:WE×WT}{b:WA}(ha:Good X x a)(hb:GoodA X xs b)(hs:f6 x=true):GoodA X (x::xs) (CG a.1 b):=⟨Jv ha.m hb.m ha.pe hb.pa (g7 hs),.cons ha.m hb.m⟩
theorem Il{rs:List Expr}{j:Nat}{p:Pos}{w:WA}(h:GoodA X rs w):Good X (.Tuple rs j p) (tt1 (wn MJ w)) := .one (i5 _ (Oj h.pa) (ML h.m)) (.n .tup h.m) rfl
theorem Im{rs:List Expr}{p:Pos}{w:WA}(h:GoodA X rs w):Good X (.List rs p) (tt1 (wn MK w)) := .one (i5 _ (Ol h.pa) (MM h.m)) (.n .lst h.m) rfl
theorem Kq{K:SU}{s:Sn}{w:WA}(ms:MonoN s)(m:MonoA w):∀ σ H Q,lift K (wn s w) σ H Q->Nh (spS K s) [] E0 (liftA K w) σ H Q:=by
 rintro σ H Q ⟨as,ρ,S,ok,en,h⟩;refine⟨as,ρ,S,ok,en,m _ _ _ _ (λxs S1 hs as1 H1 vs g1 ok1 rv=>?_) h⟩;show spS K s (vs++[]) H1 Q E0;rw[U2];exact⟨as1,S1,xs,ok1,rv,ms _ _ _ _ (λz S3 hz=>hz.mono g1) hs⟩
theorem GA{T:List Str}{Δ:Nat->Sn}{k f:Nat}{N:List Str}{sc:WK}{x:Str}{y:Expr}{ys:List Expr}{p q:Pos}{w:WA}(C:Cok T Δ X k N sc)(hf:T[f]?=some x)(hg:glo sc x=true)(h:GoodA X (y::ys) w)(hy:f6 y=true)(hs:ys.all f6=true):Good X (.Call (.Name x p) (y::ys) [] q) (tt1 (wn (Δ f) w)):=by
 obtain⟨d,ps,hC,hr⟩:=C.call f x hf;obtain⟨fa,fd,F,hm,hk,hb⟩:=hC.ex;unfold glo at hg;simp only[SW,bQ,T6]at hg;have gl:Gl X x:=by show X.env.scope.names.lookup x=_;rw[C.hs];exact hg.1.1
 exact .one (i5 _ (M4 F hr gl hm hk hb .nil Qv h.pa hg.2 (g7 hy) (BN hs)) (Kq (C.mono f) h.m)) (.n (C.mono f) h.m) rfl
theorem RK:WD "abs"=some (.builtin "abs"):=by decide +kernel
theorem Kr:WD "min"=some (.builtin "min"):=by decide +kernel
theorem Nv:WD "max"=some (.builtin "max"):=by decide +kernel
theorem RL:WD "len"=some (.builtin "len"):=by decide +kernel
theorem RM:WD "all"=some (.builtin "all"):=by decide +kernel
theorem Nx:WD "int"=some (.type "int"):=by decide +kernel
theorem Ks:WD "list"=some (.type "list"):=by decide +kernel
theorem RN:WD "isinstance"=some (.builtin "isinstance"):=by decide +kernel
theorem Ny:WD "str"=some (.type "str"):=by decide +kernel
theorem Pi:WD "bool"=some (.type "bool"):=by decide +kernel
theorem HN:WD "tuple"=some (.type "tuple"):=by decide +kernel
theorem Pj:WD "repr"=some (.builtin "repr"):=by decide +kernel
theorem Kt{T:List Str}{Δ:Nat->Sn}{k:Nat}{N:List Str}{sc:WK}{b:BI}{y:Expr}{ys:List Expr}{p q:Pos}{w:WA}(C:Cok T Δ X k N sc)(hg:glo sc b.name=true)(h:GoodA X (y::ys) w)(hy:f6 y=true)(hs:ys.all f6=true):Good X (.Call (.Name b.name p) (y::ys) [] q) (tt1 (wn (sBi b) w)):=by
 unfold glo at hg;simp only[SW,bQ,T6]at hg;have gl:Gl X b.name:=by show X.env.scope.names.lookup b.name=_;rw[C.hs];exact hg.1.1
 have hm:=C.bl b;have e1:=g7 (es:=ys) (env:=X.env) hy;have e2:=BN (env:=X.env) (pos:=q) hs;refine .one (i5 (t:=tCB (rBi X.K b) (liftA X.K w)) _ ?_ (R6 PP .bi h.m)) (.n .bi h.m) rfl;cases b with
 | len=>exact n6 DZ gl hm RL h.pa (by decide) hg.2 e1 e2
 | abs=>exact n6 JV gl hm RK h.pa (by decide) hg.2 e1 e2
 | min=>exact n6 (I0 C.calm) gl hm Kr h.pa (by decide) hg.2 e1 e2
 | max=>exact n6 (Hz C.calm) gl hm Nv h.pa (by decide) hg.2 e1 e2
 | int=>exact Au IA gl hm Nx h.pa (by decide) hg.2 e1 e2
 | list=>exact Au Da gl hm Ks h.pa (by decide) hg.2 e1 e2
 | tuple=>exact Au Cp gl hm HN h.pa (by decide) hg.2 e1 e2
 | all=>exact n6 (IJ C.calm) gl hm RM h.pa (by decide) hg.2 e1 e2
 | any=>exact n6 (IL C.calm) gl hm R3 h.pa (by decide) hg.2 e1 e2
 | sorted=>exact n6 ER gl hm Jl h.pa (by decide) hg.2 e1 e2
 | isi=>exact n6 (call_isi1.or II) gl hm RN h.pa (by decide) hg.2 e1 e2
 | repr=>exact n6 (λ_ _ _ _ _ _ _ _ _ h=>False.elim h) gl hm Pj h.pa (by decide) hg.2 e1 e2
 | str=>exact Au (λ_ _ _ _ _ _ _ _ _ h=>False.elim h) gl hm Ny h.pa (by decide) hg.2 e1 e2
theorem Mono.mt{m:MT}{a:WE}{b:WA}(ma:Mono a)(mb:MonoA b):Mono (wMt m a b):=λρ S P P' i h=>ma _ _ _ _ (λx S1 ⟨e,h⟩=>⟨e,mb _ _ _ _ (λxs S2 h=>Dk _ _ _ _ i h) h⟩) h
theorem n0{ro:Expr}{nm:Str}{env:Env}{wh:Sem Vz}(h:Aw ro=true):X0 ro nm env wh=wh:=by
 unfold X0;split
 ·cases h
 ·rfl
theorem Ku{K:SU}{as:List W3}{H:Hp}{S:Sto}{k:Nat}{v:V}{xs:List SV}(ok:Ok K as H S)(r:Rl K as H v (.loc k))(hs:S[k]?=some (.lst xs)):tyV K "list" v H:=by
 obtain⟨a,vs,rfl,_,h1,_⟩:=j7 ok r hs;exact .inl ⟨rfl,_,SqL.of h1⟩
theorem Pk{K:SU}{m:MT}{a:WE}{b:WA}(ma:Mono a)(mb:MonoA b):∀ σ H Q,lift K (wMt m a b) σ H Q->tBM K "list" (rMt m) (lift K a) (liftA K b) σ H Q:=by
 rintro σ H Q ⟨as,ρ,S,ok,en,h⟩;refine⟨as,ρ,S,ok,en,ma _ _ _ _ (λx S1 ⟨⟨j,zs,e,hz⟩,h⟩ as1 H1 v g1 ok1 rv=>?_) h⟩;subst e;refine⟨Ku ok1 rv hz,as1,ρ,S1,ok1,en.mono g1.pre (g1.ku ok),mb _ _ _ _ (λxs S2 h as2 H2 vs g2 ok2 rs=>?_) h⟩;exact KG ok2 (Rl.mono g2.pre (g2.ku ok1) _ v rv) rs (Dk _ _ _ _ (λz S3 hz=>hz.mono (g1.trans g2)) h)
theorem Mu{K:SU}{m:MT}{a:WE}(ma:Mono a):∀ σ H Q,lift K (wMt m a DA) σ H Q->Os K "list" (rMt m) (lift K a) σ H Q:=by
 rintro σ H Q ⟨as,ρ,S,ok,en,h⟩;refine⟨as,ρ,S,ok,en,ma _ _ _ _ (λx S1 ⟨⟨j,zs,e,hz⟩,h⟩ as1 H1 v g1 ok1 rv=>?_) h⟩;subst e;exact⟨Ku ok1 rv hz,KG ok1 rv .nil (Dk _ _ _ _ (λz S3 hz=>hz.mono g1) h)⟩
theorem Kv{m:MT}{ro y:Expr}{ys:List Expr}{ap cp:Pos}{a:WE×WT}{b:WA}(ha:Good X ro a)(hb:GoodA X (y::ys) b)(hn:Aw ro=true)(hl:(ap.endLine == cp.line)=true)(hk:(y::ys).length<29)(hy:f6 y=true)(hs:ys.all f6=true):Good X (.Call (.Attribute ro m.name ap) (y::ys) [] cp) (tt1 (wMt m a.1 b)):=by
 have e1:=g7 (es:=ys) (env:=X.env) hy;have e2:=BN (env:=X.env) (pos:=cp) hs
 have e3:((backTo cp (WG (y::ys) X.env)).all (λx=>!x.1)&&(X4 cp (Wl [] X.env)).all (λx=>x.1.isSome)
  && decide ((y::ys).length+([]:List Keyword).length+(if ([]:List Keyword).isEmpty then 0 else 1)<30))=true:=by
  rw[DD (by rw[Tn,hy,hs];rfl)];simp only[Uq,SW,dQ];exact⟨rfl,by show(y::ys).length+0+0<30;omega⟩
 refine .one (i5 (t:=tBM X.K "list" (rMt m) (lift X.K a.1) (liftA X.K b)) _ ?_ (Pk ha.m hb.m)) (.mt ha.m hb.m) rfl;cases m with
 | append=>exact EM PySem.F.plainAttrs_list PySem.F.slot_list_append PySem.F.type_list_append BZ ha.pe hb.pa (n0 hn) e3 hl e1 e2
 | extend=>exact EM PySem.F.plainAttrs_list PySem.F.slot_list_extend PySem.F.type_list_extend D5 ha.pe hb.pa (n0 hn) e3 hl e1 e2
 | insert=>exact EM PySem.F.plainAttrs_list PySem.F.slot_list_insert PySem.F.type_list_insert D7 ha.pe hb.pa (n0 hn) e3 hl e1 e2
 | count=>exact EM PySem.F.plainAttrs_list PySem.F.slot_list_count PySem.F.type_list_count (λpq s σ H x xs v us Q I rx rs q=>DC pq s σ H x xs v us Q I rx rs q) ha.pe hb.pa (n0 hn) e3 hl e1 e2
 | index=>exact EM PySem.F.plainAttrs_list PySem.F.slot_list_index PySem.F.type_list_index (λpq s σ H x xs v us Q I rx rs q=>ET pq s σ H x xs v us Q I rx rs q) ha.pe hb.pa (n0 hn) e3 hl e1 e2
theorem Io{m:MT}{ro:Expr}{ap cp:Pos}{a:WE×WT}(ha:Good X ro a)(hn:Aw ro=true)(hl:(ap.endLine == cp.line)=true):Good X (.Call (.Attribute ro m.name ap) [] [] cp) (tt1 (wMt m a.1 DA)):=by
 refine .one (i5 (t:=Os X.K "list" (rMt m) (lift X.K a.1)) _ ?_ (Mu ha.m)) (.mt ha.m .nil) rfl;cases m with
 | append=>exact C9 PySem.F.plainAttrs_list PySem.F.slot_list_append PySem.F.type_list_append BZ ha.pe (n0 hn) hl
 | extend=>exact C9 PySem.F.plainAttrs_list PySem.F.slot_list_extend PySem.F.type_list_extend D5 ha.pe (n0 hn) hl
 | insert=>exact C9 PySem.F.plainAttrs_list PySem.F.slot_list_insert PySem.F.type_list_insert D7 ha.pe (n0 hn) hl
 | count=>exact C9 PySem.F.plainAttrs_list PySem.F.slot_list_count PySem.F.type_list_count (λpq s σ H x xs v us Q I rx rs q=>DC pq s σ H x xs v us Q I rx rs q) ha.pe (n0 hn) hl
 | index=>exact C9 PySem.F.plainAttrs_list PySem.F.slot_list_index PySem.F.type_list_index (λpq s σ H x xs v us Q I rx rs q=>ET pq s σ H x xs v us Q I rx rs q) ha.pe (n0 hn) hl
theorem Ip{T:List Str}{Δ:Nat->Sn}{k:Nat}{N:List Str}{sc:WK}{t:TyN}{p:Pos}(C:Cok T Δ X k N sc)(hg:glo sc (Str.ofString t.nm)=true)(ht:t ≠ .none):Good X (.Name (Str.ofString t.nm) p) (tt1 (wC (.ty t))):=by
 unfold glo at hg;simp only[SW,bQ,T6]at hg;have gl:Gl X (Str.ofString t.nm):=by show X.env.scope.names.lookup _=_;rw[C.hs];exact hg.1.1
 have b:WD (Str.ofString t.nm)=some (.type t.nm):=by cases t<;>first | exact Nx | exact Pi | exact Ny | exact Ks | exact HN | exact absurd rfl ht
 exact .one (i5 _ (Lr (v := .ty t.nm) gl (C.ty t ht) b rfl (by cases t<;>first | decide | exact absurd rfl ht) hg.2) (EV λ_ _=>rl_ty.mpr rfl)) .c rfl
theorem DF{a:WE}(m:Mono a):Mono (KR a):=λρ S P P' i h=>m _ _ _ _ (λx S1 ⟨k,ns,a,b,c,q⟩=>⟨k,ns,a,b,c,λm g=>i _ _ (q m g)⟩) h
theorem RlD.length{K:SU}{as:List W3}{H:Hp}:∀{kvs:List (Int×SV)} {ks:List (Key×V)},RlD K as H ks kvs->ks.length=kvs.length
 | [],_,h=>by rw[show _=[] from h];rfl
 | p::r,_,⟨v,t,e,_,h⟩=>by rw[e,TM,TM,RlD.length h]
theorem RlAll.perm{K:SU}{as:List W3}{H:Hp}{ws ws':List V}(p:ws'.Perm ws):∀{xs:List SV},RlAll K as H ws xs->∃ xs',RlAll K as H ws' xs'/\xs'.Perm xs:=by
 induction p with
 | nil=>exact λ{xs} r=>⟨xs,r,.refl _⟩
 | cons v _ ih=>
   intro xs r;cases xs with
   | nil=>exact absurd (show _::_=[] from r) (Us _ _)
   | cons x xs=>
     obtain⟨_,_,e,r1,r2⟩:=r;cases e;obtain⟨xs',r',p'⟩:=ih r2;exact⟨x::xs',⟨_,_,rfl,r1,r'⟩,.cons _ p'⟩
 | swap u v l=>
   intro xs r;cases xs with
   | nil=>exact absurd (show _::_=[] from r) (Us _ _)
   | cons x xs=>
     obtain⟨_,_,e,r1,r2⟩:=r;cases e;cases xs with
     | nil=>exact absurd (show _::_=[] from r2) (Us _ _)
     | cons y xs=>
       obtain⟨_,_,e,r3,r4⟩:=r2;cases e;exact⟨y::x::xs,⟨_,_,rfl,r3,_,_,rfl,r1,r4⟩,.swap ..⟩
 | trans _ _ ih1 ih2=>
   intro xs r;obtain⟨x2,r2,p2⟩:=ih2 r;obtain⟨x1,r1,p1⟩:=ih1 r2;exact⟨x1,r1,p1.trans p2⟩
theorem GB{T:List Str}{Δ:Nat->Sn}{k:Nat}{N:List Str}{sc:WK}{r:Expr}{p q:Pos}{a:WE×WT}(C:Cok T Δ X k N sc)(hg:glo sc "max"=true)(ha:Good X r a)(hs:f6 r=true):Good X (.Call (.Name "max" p) [r] [] q) (tt1 (KR a.1)):=by
 unfold glo at hg;simp only[SW,bQ,T6]at hg;have gl:Gl X "max":=by show X.env.scope.names.lookup ("max":Str)=_;rw[C.hs];exact hg.1.1
 refine .one (i5 _ (n6 (IS C.calm) gl (C.bl .max) Nv (t5 ha.pe AV (g7 hs)) (by decide) hg.2 (g7 hs) rfl) ?_) (DF ha.m) rfl;rintro σ H Q ⟨as,ρ,S,ok,en,h⟩;refine⟨as,ρ,S,ok,en,ha.m _ _ _ _ (λx S1 ⟨k,ns,e0,h1,h2,q⟩ as1 H1 v g1 ok1 rv=>?_) h⟩;subst e0;obtain⟨a,us,rfl,ea,ha,rr⟩:=j7 ok1 rv h1;rw[BM rr]at ha;exact⟨a,ns,rfl,ha,h2,λm g=>q m g as1 H1 _ g1 ok1 (rl_int.mpr rfl)⟩
end
section
variable{K:SU}{as:List W3}{H:Hp}{S:Sto}
theorem RlD.get:∀{kvs:List (Int×SV)} {ks:List (Key×V)} {i:Nat} {p:Int×SV},RlD K as H ks kvs->kvs[i]?=some p->∃ v,ks[i]?=some (.inl p.1,v)
 | q::r,_,0,p,⟨v,t,e,_,_⟩,hp=>by cases hp;subst e;exact⟨v,rfl⟩
 | q::r,_,i+1,p,⟨v,t,e,_,h⟩,hp=>by
   subst e;obtain⟨u,hu⟩:=RlD.get (i:=i) h (show r[i]?=some p from hp);exact⟨u,hu⟩
theorem RlD.val:∀{kvs:List (Int×SV)} {ks:List (Key×V)},RlD K as H ks kvs->∀ i,(∃ x v,IY kvs i=some x/\v4 ks (.inl i)=some v/\Rl K as H v x)\/(IY kvs i=none/\v4 ks (.inl i)=none)
 | [],_,h,i=>by rw[show _=[] from h];exact .inr ⟨rfl,rfl⟩
 | p::r,_,⟨v,t,e,h1,h2⟩,i=>by
   subst e;by_cases hp:p.1=i
   ·refine .inl ⟨p.2,v,?_,?_,h1⟩
    ·unfold IY;rw[Uw (by simp[hp])];rfl
    ·unfold v4;rw[Uw (by simp[hp])];rfl
   ·have e1:IY (p::r) i=IY r i:=by unfold IY;rw[Ux (by simp[hp])]
    have e2:v4 ((Sum.inl p.1,v)::t) (Sum.inl i)=v4 t (Sum.inl i):=by unfold v4;rw[Ux (by simp[hp])]
    rw[e1,e2];exact RlD.val h2 i
theorem RlD.any:∀{kvs:List (Int×SV)} {ks:List (Key×V)},RlD K as H ks kvs->∀ i,(ks.any λkv=>decide (kv.1=Sum.inl i))=kvs.any λp=>decide (p.1=i)
 | [],_,h,i=>by rw[show _=[] from h];rfl
 | p::r,_,⟨v,t,e,h1,h2⟩,i=>by
   subst e;rw[Tx,Tx,RlD.any h2 i]
   congr 1
   simp
theorem RlD.set{v:V}{x:SV}(rv:Rl K as H v x):∀{kvs:List (Int×SV)} {ks:List (Key×V)},RlD K as H ks kvs->∀ i,RlD K as H (ks.map λkv=>if kv.1=Sum.inl i then (kv.1,v) else kv) (kvs.map λp=>if p.1=i then (p.1,x) else p)
 | [],_,h,i=>by rw[show _=[] from h];rfl
 | p::r,_,⟨u,t,e,h1,h2⟩,i=>by
   subst e;rw[TU,TU];by_cases hp:p.1=i
   ·rw[iP hp,iP (by rw[hp])];exact⟨v,_,rfl,rv,RlD.set rv h2 i⟩
   ·rw[iG hp,iG (λz=>hp (Sum.inl.inj z))];exact⟨u,_,rfl,h1,RlD.set rv h2 i⟩
theorem RlD.snoc{v:V}{x:SV}(rv:Rl K as H v x)(i:Int):∀{kvs:List (Int×SV)} {ks:List (Key×V)},RlD K as H ks kvs->RlD K as H (ks++[(Sum.inl i,v)]) (kvs++[(i,x)])
 | [],_,h=>by rw[show _=[] from h];exact⟨v,[],rfl,rv,rfl⟩
 | p::r,_,⟨u,t,e,h1,h2⟩=>by subst e;exact⟨u,_,rfl,h1,RlD.snoc rv i h2⟩
theorem RlD.put{kvs:List (Int×SV)}{ks:List (Key×V)}{v:V}{x:SV}(h:RlD K as H ks kvs)(rv:Rl K as H v x)(i:Int):RlD K as H (B1 ks (Sum.inl i) v) (Nt kvs i x):=by
 unfold B1 Nt;rw[h.any i];by_cases z:(kvs.any λp=>decide (p.1=i))=true
 ·rw[iP z,iP z];exact h.set rv i
 ·rw[iG z,iG z];exact h.snoc rv i
end
theorem RlD.vals{K:SU}{as:List W3}{H:Hp}:∀{kvs:List (Int×SV)} {ks:List (Key×V)},RlD K as H ks kvs->RlAll K as H (ks.map (·.2)) (kvs.map (·.2))
 | [],_,h=>by rw[show _=[] from h];rfl
 | p::r,_,⟨v,t,e,a,h⟩=>by rw[e];exact⟨v,_,rfl,a,RlD.vals h⟩
theorem RlD.at{K:SU}{as:List W3}{H:Hp}:∀{kvs:List (Int×SV)} {ks:List (Key×V)} {i:Nat} {p:Int×SV},RlD K as H ks kvs->kvs[i]?=some p->∃ v,ks[i]?=some (.inl p.1,v)/\Rl K as H v p.2
 | [],_,i,p,_,hp=>by simp at hp
 | p::r,_,0,_,⟨v,t,e,a,h⟩,hp=>by cases hp;exact⟨v,by rw[e];rfl,a⟩
 | p::r,_,i+1,_,⟨v,t,e,a,h⟩,hp=>by
   obtain⟨u,hu,ru⟩:=RlD.at (i:=i) h hp;exact⟨u,by rw[e];exact hu,ru⟩
theorem DG{a d:WE}(m:Mono a)(m':Mono d):Mono (KS a d):=λρ S P P' i h=>m _ _ _ _ (λx S1 h=>m' _ _ _ _ (λy S2 ⟨k,ps,a,b,c,q0,q⟩=>⟨k,ps,a,b,c,λe=>i _ _ (q0 e),λp hp=>i _ _ (q p hp)⟩) h) h
theorem DH{d e v:WE}(m:Mono d)(m1:Mono e)(m2:Mono v):Mono (KU d e v):=λρ S P P' i h=>m _ _ _ _ (λx S1 ⟨k,kv0,a,b,h⟩=>⟨k,kv0,a,b,m1 _ _ _ _ (λy S2 h=>m2 _ _ _ _ (λz S3 ⟨i1,j,m,kvs,a,b,c,d,q0,q1⟩=>⟨i1,j,m,kvs,a,b,c,d,λn e=>i _ _ (q0 n e),λe=>i _ _ (q1 e)⟩) h) h⟩) h
theorem BD:Mono Fs:=λρ S P P' i h=>i _ _ h
theorem Ei{X:Cx}{p:Pos}:Good X (.Dict [] [] p) (tt1 Fs):=
 .one (i5 _ Jp (λσ H Q ⟨as,ρ,S,ok,en,h⟩=>λl hl=>h _ _ _ (Go.push hl) (ok.pushO hl (show RlO _ _ _ _ (.dtp []) from k8)) (rl_loc.mpr ⟨l,by rw[<-ok.len];exact TF,rfl⟩))) BD rfl
theorem Dt(k:Int×Int):∀ kvs:List ((Int×Int)×Int),v4 (dtV kvs) [.inl k.1,.inl k.2]=(dpv kvs k).map V.int
 | []=>rfl
 | p::r=>by
   have ih:=Dt k r;by_cases e:p.1=k
   ·rw[show dtV (p::r)=([.inl p.1.1,.inl p.1.2],V.int p.2)::dtV r from rfl,Ag (by rw[e])];unfold dpv;rw[TZ,decide_eq_true e];rfl
   ·rw[show dtV (p::r)=([.inl p.1.1,.inl p.1.2],V.int p.2)::dtV r from rfl,Ai (λz=>e (by
     have z:([.inl p.1.1,.inl p.1.2]:List Key)=[.inl k.1,.inl k.2]:=z;injection z with z1 z2;injection z2 with z2 _;injection z1 with z1;injection z2 with z2;exact Prod.ext z1 z2)),ih]
    unfold dpv;rw[TZ,decide_eq_false e]
theorem GC{X:Cx}{ro r r2:Expr}{ap cp:Pos}{d e v:WE×WT}(hu:X.A.units+1<cLine)(hd:Good X ro d)(he:Good X r e)(hv:Good X r2 v)(hn:Aw ro=true)(hl:(ap.endLine == cp.line)=true)(hs:f6 r=true)(hs2:f6 r2=true):Good X (.Call (.Attribute ro "setdefault" ap) [r,r2] [] cp) (tt1 (KU d.1 e.1 v.1)):=by
 refine .one (i5 _ (MX hu hd.pe he.pe hv.pe ⟨n0 hn,by rw[g7 hs,g7 hs2];rfl,hl,by rw[g7 hs,g7 hs2];rfl⟩) ?_) (DH hd.m he.m hv.m) rfl;rintro σ H Q ⟨as,ρ,S,ok,en,h⟩;refine⟨as,ρ,S,ok,en,hd.m _ _ _ _ (λx S1 ⟨k,kv0,e0,hk,h⟩ as1 H1 w g1 ok1 rw1=>?_) h⟩;subst e0;obtain⟨a,ea,rfl⟩:=rl_loc.mp rw1;have h1:H1 a=some (.dT (dtV kv0)):=ok1.obj k _ a hk ea;have en1:=en.mono g1.pre (g1.ku ok);refine⟨a,rfl,.inr ⟨_,.inl h1⟩,as1,ρ,S1,ok1,en1,he.m _ _ _ _ (λy S2 h as2 H2 w2 g2 ok2 rw2=>?_) h⟩;refine⟨as2,ρ,S2,ok2,en1.mono g2.pre (g2.ku ok1),hv.m _ _ _ _ (λz S3 ⟨i,j,m,kvs,e1,e2,hk3,hb,q0,q1⟩ as3 H3 w3 g3 ok3 rw3=>?_) h⟩;subst e1;subst e2;have ea3:=Dc g3.pre (Dc g2.pre ea);have h3:H3 a=some (.dT (dtV kvs)):=ok3.obj k _ a hk3 ea3;obtain⟨p,vs,rfl,hp,rp⟩:=rl_tup.mp (Rl.mono g3.pre (g3.ku ok2) _ _ rw2);obtain⟨u1,u2,rfl,r1,r2⟩:=IV rp;rw[rl_int]at r1 r2 rw3;subst r1;subst r2;subst rw3;have G:=g1.trans (g2.trans g3);have len:(dtV kvs).length=kvs.length:=SX ..;refine⟨dtV kvs,[.inl i,.inl j],p,rfl,h3,hp,by rw[len];exact TB hb (u8 (Sd _)),λu hu'=>?_,λhu'=>?_⟩
 ·rw[Dt (i,j)]at hu';obtain⟨n,hn',rfl⟩:=Uy.mp hu';exact q0 n hn' as3 H3 _ G ok3 (rl_int.mpr rfl)
 ·have hu2:=hu';rw[Dt (i,j)]at hu';have e:dpv kvs (i,j)=none:=Uz.mp hu';rw[Jm _ hu2]
  obtain⟨ok4,ku⟩:=ok3.writeO (x := .dtp (kvs++[((i,j),m)])) (u := .dT (dtV kvs++[([.inl i,.inl j],V.int m)])) hk3 ea3 (λ_=>by
   show upd _ _ _ a=some (.dT (dtV (kvs++[((i,j),m)])));rw[k8];unfold dtV;rw[Sx];rfl)
  exact q1 e as3 _ _ (G.trans (Go.write (Sh ea3))) ok4 (rl_int.mpr rfl)
theorem GD{X:Cx}{T:List Str}{Δ:Nat->Sn}{k:Nat}{N:List Str}{sc:WK}{r u:Expr}{p q kp:Pos}{a d:WE×WT}(hu:X.A.units+1<cLine)(C:Cok T Δ X k N sc)(hg:glo sc "min"=true)(ha:Good X r a)(hd:Good X u d)(hs:f6 r=true):Good X (.Call (.Name "min" p) [r] [⟨some "default",u,kp⟩] q) (tt1 (KS a.1 d.1)):=by
 unfold glo at hg;simp only[SW,bQ,T6]at hg;have gl:Gl X "min":=by show X.env.scope.names.lookup ("min":Str)=_;rw[C.hs];exact hg.1.1
 refine .one (i5 _ (IQ (IR C.calm hu) gl (C.bl .min) Kr (t5 ha.pe AV (g7 hs)) (M5 hd.pe Oo) rfl (by decide) hg.2 (by rw[g7 hs];rfl) (by rw[g7 hs];rfl) rfl rfl) ?_) (DG ha.m hd.m) rfl;rintro σ H Q ⟨as,ρ,S,ok,en,h⟩;refine⟨as,ρ,S,ok,en,ha.m _ _ _ _ (λx S1 h as1 H1 v g1 ok1 rv=>?_) h⟩;have en1:=en.mono g1.pre (g1.ku ok);refine⟨as1,ρ,S1,ok1,en1,hd.m _ _ _ _ (λy S2 ⟨k,ps,e0,e1,h1,q0,q⟩ as2 H2 v2 g2 ok2 rv2=>?_) h⟩;subst e0;subst e1;rw[rl_non]at rv2;obtain⟨a,us,ev,ea,ha,rr⟩:=j7 ok2 (Rl.mono g2.pre (g2.ku ok1) _ _ rv) h1;have G:=g1.trans g2;refine⟨a,us,ps,by rw[ev],by rw[rv2],ha,⟨by rw[rr.length,SX],λi p hp=>?_⟩,λe=>q0 e as2 H2 _ G ok2 (rl_non.mpr rfl),λi p q' hp hq' _ _=>?_⟩
 ·obtain⟨v,hv,rv⟩:=rr.get (show(ps.map λp:Int×Int=>SV.tup [.int p.1,.int p.2])[i]?=some (SV.tup [.int p.1,.int p.2]) by rw[Sq,hp];rfl);obtain⟨t,vs,rfl,ht,rt⟩:=rl_tup.mp rv;obtain⟨u1,u2,rfl,r1,r2⟩:=IV rt;rw[rl_int]at r1 r2;subst r1;subst r2;exact⟨t,hv,ht⟩
 ·obtain⟨v,hv,rv⟩:=rr.get (show(ps.map λp:Int×Int=>SV.tup [.int p.1,.int p.2])[i]?=some (SV.tup [.int p.1,.int p.2]) by rw[Sq,hp];rfl);rw[hq']at hv;cases hv;exact q p (Sh hp) as2 H2 _ G ok2 rv
section
variable{K:SU}{as:List W3}{H:Hp}{S:Sto}
theorem RlT.length:∀{kvs:List (List Int×SV)} {us:List (List Key×V)},RlT K as H us kvs->us.length=kvs.length
 | [],_,h=>by rw[show _=_ from h];rfl
 | p::r,_,⟨v,t,e,_,h2⟩=>by rw[e,TM,TM,h2.length]
theorem RlT.get:∀{kvs:List (List Int×SV)} {us:List (List Key×V)} {i:Nat} {p:List Int×SV},RlT K as H us kvs->kvs[i]?=some p->∃ v,us[i]?=some (p.1.map Sum.inl,v)
 | [],_,_,_,_,h=>by simp at h
 | p::r,_,0,_,⟨v,t,e,_,h2⟩,h=>by
   simp at h;subst h;rw[e];exact⟨v,rfl⟩
 | p::r,_,i+1,_,⟨v,t,e,_,h2⟩,h=>by
   rw[e];obtain⟨v,hv⟩:=h2.get (i:=i) (by simpa using h);exact⟨v,by simpa using hv⟩
theorem HP:∀{a b:List Int},a.map (Sum.inl:Int->Key)=b.map Sum.inl->a=b
 | [],[],_=>rfl
 | [],_::_,h=>by simp at h
 | _::_,[],h=>by simp at h
 | a::x,b::y,h=>by
   rw[TU,TU]at h;injection h with h1 h2;injection h1 with h1;rw[h1,HP h2]
theorem RlT.val(k:List Int):∀{kvs:List (List Int×SV)} {us:List (List Key×V)},RlT K as H us kvs->(∃ x v,IW kvs k=some x/\v4 us (k.map Sum.inl)=some v/\Rl K as H v x)\/(IW kvs k=none/\v4 us (k.map Sum.inl)=none)
 | [],_,h=>by rw[show _=_ from h];exact .inr ⟨rfl,rfl⟩
 | p::r,_,⟨v,t,e,h1,h2⟩=>by
   rw[e];by_cases z:p.1=k
   ·refine .inl ⟨p.2,v,?_,Ag (by rw[z]),h1⟩;unfold IW;rw[TZ,decide_eq_true z];rfl
   ·rw[Ai (λy=>z (HP y)),show IW (p::r) k=IW r k by unfold IW;rw[TZ,decide_eq_false z]];exact RlT.val k h2
theorem RlT.snoc{k:List Int}{v:V}{x:SV}(rv:Rl K as H v x):∀{kvs:List (List Int×SV)} {us:List (List Key×V)},RlT K as H us kvs->RlT K as H (us++[(k.map Sum.inl,v)]) (kvs++[(k,x)])
 | [],_,h=>by rw[show _=_ from h];exact⟨v,[],rfl,rv,rfl⟩
 | p::r,_,⟨w,t,e,h1,h2⟩=>by rw[e];exact⟨w,_,rfl,h1,h2.snoc rv⟩
theorem Kw{x:SV}{v u:V}(f:t7 x=true)(a:Rl K as H v x)(b:Rl K as H u x):l8 v=true/\v=u:=by
 cases x<;>first | (cases f;done) | (unfold Rl at a b;subst a;subst b;exact⟨rfl,rfl⟩)
theorem Du{S:Sto}(ok:Ok K as H S):∀(k:Nat) {x y:SV} {v u:V},EqS S k x y->Rl K as H v x->Rl K as H u y->EqH K H k v u
 | 0,x,y,v,u,h,rx,ry=>by
   obtain⟨f,rfl⟩:=h;exact Kw f rx ry
 | k+1,x,y,v,u,h,rx,ry=>by
   rcases h with h | ⟨a,b,xs,ys,rfl,rfl,h1,h2,hl,it⟩ | ⟨xs,ys,rfl,rfl,hl,it⟩
   ·exact .inl (Du ok k h rx ry)
   ·obtain⟨p,vs,rfl,_,hp,rp⟩:=j7 ok rx h1;obtain⟨q,ws,rfl,_,hq,rq⟩:=j7 ok ry h2;refine .inr ⟨p,q,vs,ws,rfl,rfl,.inl ⟨SqL.of hp,SqL.of hq⟩,by rw[rp.length,rq.length,hl],λi u v e1 e2=>?_⟩;obtain⟨x,x1,x2⟩:=rp.get' e1;obtain⟨y,y1,y2⟩:=rq.get' e2;exact Du ok k (it i x y x1 y1) x2 y2
   ·obtain⟨p,vs,rfl,hp,rp⟩:=rl_tup.mp rx;obtain⟨q,ws,rfl,hq,rq⟩:=rl_tup.mp ry;refine .inr ⟨p,q,vs,ws,rfl,rfl,.inr ⟨SqT.of hp,SqT.of hq⟩,by rw[rp.length,rq.length,hl],λi u v e1 e2=>?_⟩;obtain⟨x,x1,x2⟩:=rp.get' e1;obtain⟨y,y1,y2⟩:=rq.get' e2;exact Du ok k (it i x y x1 y1) x2 y2
theorem HQ{n:Bool}:B2 K (KW n) (Pg K n):=λas H S x y v u Q ok rx ry h=>by
 obtain⟨a,b,xs,ys,rfl,rfl,h1,h2,hl,it,q⟩:=h;obtain⟨p,vs,rfl,_,hp,rp⟩:=j7 ok rx h1;obtain⟨r,ws,rfl,_,hr,rr⟩:=j7 ok ry h2;refine⟨p,r,vs,ws,rfl,rfl,SqL.of hp,SqL.of hr,by rw[rp.length,rr.length,hl],λi u v e1 e2=>?_,q.here ok (rl_bl.mpr rfl)⟩;obtain⟨x,x1,x2⟩:=rp.get' e1;obtain⟨y,y1,y2⟩:=rr.get' e2;exact Du ok 2 (it i x y x1 y1) x2 y2
end
theorem BO{n:Bool}:Mono2 (KW n):=λx y S P P' i ⟨k,l,ts,us,a,b,c,d,e,f,q⟩=>⟨k,l,ts,us,a,b,c,d,e,f,i _ _ q⟩
theorem Iq{X:Cx}{n:Bool}{ra rb:Expr}{p:Pos}{wa wb:WE}(hu:X.A.units+3<cLine)(ha:PE X ra (lift X.K wa))(hb:PE X rb (lift X.K wb))(ma:Mono wa)(mb:Mono wb)(hn:w6 rb=true):Good X (.Compare ra [if n then CmpOp.NotEq else CmpOp.Eq] [rb] p) (tt2 (w2 (KW n) wa wb)):=by
 have m:Mono (w2 (KW n) wa wb) := .two BO ma mb;have ho:OpR X (WJ (if n then CmpOp.NotEq else CmpOp.Eq)) (Pg X.K n):=Ph n hu
 exact{pe:=i5 _ (Gf ho ha hb (Ap hn)) (Av HQ BO ma mb)
       pt:=CF _ (Gg ho ha hb (Ap hn)) λσ H Q h=>Av HQ BO ma mb σ H _ (Fv m σ H Q h)
       m:=m
       mt := .bl m
       pw:=λ_ _ _ e=>by cases e}
theorem DK{a:WE}(m:Mono a):Mono (KQ a):=λρ S P P' i h=>m _ _ _ _ (λx S1 ⟨k,ns,a,b,c,q⟩=>⟨k,ns,a,b,c,λm g=>i _ _ (q m g)⟩) h
theorem GF{X:Cx}{T:List Str}{Δ:Nat->Sn}{k:Nat}{N:List Str}{sc:WK}{r:Expr}{p q:Pos}{a:WE×WT}(C:Cok T Δ X k N sc)(hg:glo sc "min"=true)(ha:Good X r a)(hs:f6 r=true):Good X (.Call (.Name "min" p) [r] [] q) (tt1 (KQ a.1)):=by
 unfold glo at hg;simp only[SW,bQ,T6]at hg;have gl:Gl X "min":=by show X.env.scope.names.lookup ("min":Str)=_;rw[C.hs];exact hg.1.1
 refine .one (i5 _ (n6 (IT C.calm) gl (C.bl .min) Kr (t5 ha.pe AV (g7 hs)) (by decide) hg.2 (g7 hs) rfl) ?_) (DK ha.m) rfl;rintro σ H Q ⟨as,ρ,S,ok,en,h⟩;refine⟨as,ρ,S,ok,en,ha.m _ _ _ _ (λx S1 ⟨k,ns,e0,h1,h2,q⟩ as1 H1 v g1 ok1 rv=>?_) h⟩;subst e0;obtain⟨a,us,rfl,ea,ha,rr⟩:=j7 ok1 rv h1;rw[BM rr]at ha;exact⟨a,ns,rfl,ha,h2,λm g=>q m g as1 H1 _ g1 ok1 (rl_int.mpr rfl)⟩
end Rf
namespace PySem
structure ZipFar(z TI TO i1 i2:W3)(f1 f2:List W3):Prop where
 iz:TI≠z/\TO≠z/\i1≠z/\i2≠z
 im:TI≠TO/\TI≠i1/\TI≠i2/\TO≠i1/\TO≠i2/\i1≠i2
 g1:∀ c∈f1,c≠z/\c≠TO/\c≠i2
 g2:∀ c∈f2,c≠z/\c≠TO/\c≠i1
section
variable{prog:W8}{w:WC}{A:WH}{E:Vz->W4->Prop}{s:W4}
theorem Dv{z TI TO i1 i2:W3}{f1 f2:List W3}{n1 n2 k:Nat}{P1 P2:Nat->Vz->Prop}{S1 S2:Nat->Heap->Prop}{Q:Vz->W4->Prop}
 (W1:Draws prog w A i1 f1 n1 P1 S1) (W2:Draws prog w A i2 f2 n2 P2 S2) (Fa:ZipFar z TI TO i1 i2 f1 f2) (hz:IsZip s.heap z TI TO .none) (hI:IsPair s.heap TI (.ref i1) (.ref i2)) (hO:∃ a b,IsPair s.heap TO a b)
 (t1:S1 k s.heap) (t2:S2 k s.heap) (l1:k<n1) (l2:k<n2)
 (hQ:∀ x y h' tk,P1 k x->P2 k y->IsZip h' z TI TO (rawInt s.heap.objs.size)->(∃ a b,IsPair h' TO a b)->S1 (k+1) h'->S2 (k+1) h'->IsPair h' s.heap.objs.size x y->h'.objs.size=s.heap.objs.size+1->
   (∀ c o,c≠z->c≠TO->c≠i1->c≠i2->s.heap.get? c=some o->h'.get? c=some o)->Q (.ref s.heap.objs.size) {s with heap:=h',toks:=tk}):
 W7 (WB prog w) A (Builtin.«zip.__next__» ⟨[.ref z],[]⟩) (λfin s'=>∃ v,fin = .done (.ret v)/\Q v s') E s:=by
 obtain⟨a,b,hO⟩:=hO;obtain⟨z1,z2,z3,z4⟩:=Fa.iz;obtain⟨m1,m2,m3,m4,m5,m6⟩:=Fa.im;have get2:∀{R:Vz->W4->Prop},R (.bool false) s->W7 (WB prog w) A (field (.ref z) 2) R E s:=λq=>WN hz rfl (x := .bool false) rfl q;show W7 _ _ (field (.ref z) 2 >>= _) _ _ _;refine W0 (get2 ?_);show W7 _ _ (field (.ref z) 3 >>= _) _ _ _;refine W0 (WN hz rfl (x := .ref TI) rfl (W0 (WR hI rfl ?_)));show W7 _ _ (Builtin.SmallTypes.ownedTupleIsFree (.ref z) >>= _) _ _ _;refine W0 ?_;unfold Builtin.SmallTypes.ownedTupleIsFree;refine W0 (WN hz rfl (x := .none) rfl (W5 ?_));simp only[if_true];refine W0 (Wq (W0 (WN hz rfl (x := .ref TO) rfl (W0 (Wk hz (by simp) λha za ka=>W0 ?_)))));replace za:IsZip ha z TI TO .ellipsis:=za;simp only[Va,Vf,V0,V4];refine W0 (W0 (XY ?_));show W7 _ _ (Builtin.SmallTypes.nextOf (.ref i1) >>= _) _ _ _;have t1a:S1 k ha:=W1.frame _ _ _ t1 λc hc o e=>ka.extBut _ _ (Fa.g1 c hc).1 e;refine W0 (W1.item k {s with heap:=ha} _ _ l1 t1a λx hb tb px t1b kb=>W5 ?_);have Ob:IsPair hb TO a b:=kb.extBut _ _ m4 (ka.extBut _ _ z2 hO);refine W0 (WR Ob rfl (W0 (XR Ob λhc Oc kc=>?_)));replace Oc:IsPair hc TO x b:=Oc;refine W0 (Wt (W5 ?_));refine W0 (W0 (XY ?_));show W7 _ _ (Builtin.SmallTypes.nextOf (.ref i2) >>= _) _ _ _;have t2c:S2 k hc:=W2.frame _ _ _ t2 λc hm o e=>kc.extBut _ _ (Fa.g2 c hm).2.1 (kb.extBut _ _ (Fa.g2 c hm).2.2 (ka.extBut _ _ (Fa.g2 c hm).1 e));refine W0 (W2.item k {s with heap:=hc,toks:=tb} _ _ l2 t2c λy hd td py t2d kd=>W5 ?_);have Od:IsPair hd TO x b:=kd.extBut _ _ m5 Oc;refine W0 (WR Od rfl (W0 (XR Od λhe Oe ke=>?_)));replace Oe:IsPair he TO x y:=Oe;refine W0 (Wt (W5 (W5 ?_)));refine W0 (WR Oe rfl (W0 (wpAny_newTuple ?_)));have hsz:he.objs.size=s.heap.objs.size:=by rw[ke.1,kd.1,kc.1,kb.1,ka.1]
 have ze:IsZip he z TI TO .ellipsis:=ke.extBut _ _ z2.symm (kd.extBut _ _ z4.symm (kc.extBut _ _ z2.symm (kb.extBut _ _ z3.symm za)));have kk:∀ c o,c≠z->c≠TO->c≠i1->c≠i2->s.heap.get? c=some o->he.get? c=some o:=λc o c1 c2 c3 c4 e=>ke.extBut _ _ c2 (kd.extBut _ _ c4 (kc.extBut _ _ c2 (kb.extBut _ _ c3 (ka.extBut _ _ c1 e))));have lz:z<he.objs.size:=Sb ze;show W7 _ _ (Builtin.SmallTypes.ownedTupleHandOut (.ref z) (.ref he.objs.size) >>= _) _ _ _;refine W0 ?_;unfold Builtin.SmallTypes.ownedTupleHandOut;have zf:IsZip (he.push {cls := .type "tuple",data := .seq #[x,y]}) z TI TO .ellipsis:=Sa _ ze;refine W0 (Wk zf (by simp) λhf zf' kf=>?_);replace zf':IsZip hf z TI TO (rawInt he.objs.size):=zf';refine Wk zf' (by simp) λhg zg kg=>?_;replace zg:IsZip hg z TI TO (rawInt he.objs.size):=zg;have up:∀ c o,c≠z->he.get? c=some o->hg.get? c=some o:=λc o c1 e=>kg.extBut _ _ c1 (kf.extBut _ _ c1 (Sa _ e));have Tg:IsPair hg he.objs.size x y:=kg.extBut _ _ (VM lz) (kf.extBut _ _ (VM lz) (So _ rfl));have sg:hg.objs.size=he.objs.size+1:=by rw[kg.1,kf.1,TV]
 rw[hsz]at zg Tg sg;refine W5 ⟨_,rfl,?_⟩;show Q (.ref he.objs.size) _;rw[hsz]
 refine hQ x y hg td px py zg ⟨x,y,up _ _ z2 Oe⟩ (W1.frame _ _ _ t1b λc hm o e=>up c o (Fa.g1 c hm).1 (ke.extBut _ _ (Fa.g1 c hm).2.1 (kd.extBut _ _ (Fa.g1 c hm).2.2 (kc.extBut _ _ (Fa.g1 c hm).2.1 e))))
  (W2.frame _ _ _ t2d λc hm o e=>up c o (Fa.g2 c hm).1 (ke.extBut _ _ (Fa.g2 c hm).2.1 e)) Tg sg λc o c1 c2 c3 c4 e=>up c o c1 (kk c o c1 c2 c3 c4 e)
theorem Ej{z TI TO i1 i2:W3}{f1:List W3}{n1:Nat}{P1:Nat->Vz->Prop}{S1:Nat->Heap->Prop}{Q:Fin->W4->Prop}
 (W1:Draws prog w A i1 f1 n1 P1 S1) (iz:i1≠z) (g1:∀ c∈f1,c≠z) (hz:IsZip s.heap z TI TO .none) (hI:IsPair s.heap TI (.ref i1) (.ref i2)) (t1:S1 n1 s.heap)
 (hE:∀ h' e,(∀ c o,c≠z->c≠i1->s.heap.get? c=some o->h'.get? c=some o)->(∃ o,h'.get? e=some o/\o.cls = .type "StopIteration")->E (.ref e) {s with heap:=h'}):
 W7 (WB prog w) A (Builtin.«zip.__next__» ⟨[.ref z],[]⟩) Q E s:=by
 show W7 _ _ (field (.ref z) 2 >>= _) _ _ _;refine W0 (WN hz rfl (x := .bool false) rfl ?_);show W7 _ _ (field (.ref z) 3 >>= _) _ _ _;refine W0 (WN hz rfl (x := .ref TI) rfl (W0 (WR hI rfl ?_)));show W7 _ _ (Builtin.SmallTypes.ownedTupleIsFree (.ref z) >>= _) _ _ _;refine W0 ?_;unfold Builtin.SmallTypes.ownedTupleIsFree;refine W0 (WN hz rfl (x := .none) rfl (W5 ?_));simp only[if_true];refine W0 (Wq (W0 (WN hz rfl (x := .ref TO) rfl (W0 (Wk hz (by simp) λha za ka=>W0 ?_)))));replace za:IsZip ha z TI TO .ellipsis:=za;simp only[Va,Vf,V0,V4];refine W0 (W0 (XY ?_));show W7 _ _ (Builtin.SmallTypes.nextOf (.ref i1) >>= _) _ _ _;refine W0 (W1.done {s with heap:=ha} _ _ (W1.frame _ _ _ t1 λc hc o e=>ka.extBut _ _ (g1 c hc) e) λhb e kb he=>?_);obtain⟨oe,hoe,hce⟩:=he;have zb:IsZip hb z TI TO .ellipsis:=kb _ _ iz.symm za;have ez:e≠z:=λx=>by subst x;rw[zb]at hoe;cases hoe;simp at hce
 exact Wk zb (by simp) λhc _ kc=>hE hc e (λc o c1 c3 x=>kc.extBut _ _ c1 (kb _ _ c3 (ka.extBut _ _ c1 x))) ⟨oe,kc.extBut _ _ ez hoe,hce⟩
theorem BP{z TI TO i1 i2:W3}{f1 f2:List W3}{n1 n2 k:Nat}{P1 P2:Nat->Vz->Prop}{S1 S2:Nat->Heap->Prop}{Q:Option Vz->W4->Prop}
 (W1:Draws prog w A.in1 i1 f1 n1 P1 S1) (W2:Draws prog w A.in1 i2 f2 n2 P2 S2) (Fa:ZipFar z TI TO i1 i2 f1 f2) (hz:IsZip s.heap z TI TO .none) (hI:IsPair s.heap TI (.ref i1) (.ref i2)) (hO:∃ a b,IsPair s.heap TO a b)
 (t1:S1 k s.heap) (t2:S2 k s.heap) (l1:k<n1) (l2:k<n2)
 (hQ:∀ x y h' tk,P1 k x->P2 k y->IsZip h' z TI TO (rawInt s.heap.objs.size)->(∃ a b,IsPair h' TO a b)->S1 (k+1) h'->S2 (k+1) h'->IsPair h' s.heap.objs.size x y->h'.objs.size=s.heap.objs.size+1->
   (∀ c o,c≠z->c≠TO->c≠i1->c≠i2->s.heap.get? c=some o->h'.get? c=some o)->Q (some (.ref s.heap.objs.size)) {s with heap:=h',toks:=tk}):
 W7 (WB prog w) A (pyNext (.ref z)) Q E s:=by
 have hT:s.TypeIs (.ref z) "zip":=⟨_,hz,rfl⟩
 unfold pyNext
 exact W0 (wpAny_attempt (WQ (name:=Str.ofString "__next__") hT F.slot_zip_next
  (Wi F.slot_zip_next hT F.entry_zip_next (Dv W1 W2 Fa hz hI hO t1 t2 l1 l2 λx y h' tk a1 a2 a3 a4 a5 a6 a7 a8 a9=>W5 (hQ x y h' tk a1 a2 a3 a4 a5 a6 a7 a8 a9)) (F.args_zip_next_1 _))))
theorem Bj{z TI TO i1 i2:W3}{f1:List W3}{n1:Nat}{P1:Nat->Vz->Prop}{S1:Nat->Heap->Prop}{Q:Option Vz->W4->Prop}
 (W1:Draws prog w A.in1 i1 f1 n1 P1 S1) (iz:i1≠z) (g1:∀ c∈f1,c≠z) (hz:IsZip s.heap z TI TO .none) (hI:IsPair s.heap TI (.ref i1) (.ref i2)) (t1:S1 n1 s.heap)
 (hQ:∀ h',(∀ c o,c≠z->c≠i1->s.heap.get? c=some o->h'.get? c=some o)->Q none {s with heap:=h'}):W7 (WB prog w) A (pyNext (.ref z)) Q E s:=by
 have hT:s.TypeIs (.ref z) "zip":=⟨_,hz,rfl⟩
 unfold pyNext
 refine W0 (wpAny_attempt (WQ (name:=Str.ofString "__next__") hT F.slot_zip_next
  (Wi F.slot_zip_next hT F.entry_zip_next (Ej W1 iz g1 hz hI t1 λh' e hk he=>?_) (F.args_zip_next_1 _))))
 obtain⟨o,ho,hc⟩:=he;exact W0 (wpAny_isInstance (T:="StopIteration") (b:=true) ⟨o,ho,hc⟩ isSubtype_stop (W5 (hQ _ hk)))
end
noncomputable abbrev Bz(l:W3):Obj:={cls := .type "tuple_iterator",data := .fields #[.ref l,.int 0 0]}
noncomputable abbrev zt3(h:Heap)(l1 l2:W3):Heap:=((h.push (Bz l1)).push (Bz l2)).push {cls := .type "tuple",data := .seq #[.ref h.objs.size,.ref (h.push (Bz l1)).objs.size]}
noncomputable abbrev zt4(h:Heap)(l1 l2:W3):Heap:=(zt3 h l1 l2).push {cls := .type "tuple",data := .seq #[.none,.none]}
noncomputable abbrev zt5(h:Heap)(l1 l2:W3):Heap:=(zt4 h l1 l2).push {cls := .type "zip",data := .fields #[.none,.bool false,.bool false,.ref ((h.push (Bz l1)).push (Bz l2)).objs.size,.ref (zt3 h l1 l2).objs.size]}
theorem Ek(l1 l2:W3)(xs ys:Array Vz):
 Meets (Builtin.«zip.__new__» ⟨[.type "zip",.ref l1,.ref l2],[]⟩) (λ_ R s=>s.heap.IsTuple l1 xs/\s.heap.IsTuple l2 ys/\
  R (.ok (.ret (.ref (zt4 s.heap l1 l2).objs.size))) {s with heap:=zt5 s.heap l1 l2}):=
 .of_wp λprog w A R s h=>by
  obtain⟨hp,g,d,tk,os⟩:=s;obtain⟨hl1,hl2,h⟩:=h;have hsub:=sub_zip;have hL1:VU (Shared.heap ⟨hp,g,d,tk,os⟩) l1 xs:=hl1;have hL2:VU (Shared.heap ⟨hp.push (Bz l1),g,d,tk,os⟩) l2 ys:=let ⟨o,e,r⟩:=hl2;⟨o,Sa _ e,r⟩
  wp_walk using WZ hL1,WZ hL2
  exact⟨_,rfl,h⟩
section
variable{prog:W8}{w:WC}{A:WH}{E:Vz->W4->Prop}{s:W4}
theorem Dw{l1 l2:W3}{xs ys:Array Vz}{Q:Vz->W4->Prop}(hl1:s.heap.IsTuple l1 xs)(hl2:s.heap.IsTuple l2 ys)
 (h:∀ h',IsZip h' (s.heap.objs.size+4) (s.heap.objs.size+2) (s.heap.objs.size+3) .none->IsPair h' (s.heap.objs.size+2) (.ref s.heap.objs.size) (.ref (s.heap.objs.size+1))->
   (∃ a b,IsPair h' (s.heap.objs.size+3) a b)->h'.IsTupleIter s.heap.objs.size l1 0->h'.IsTupleIter (s.heap.objs.size+1) l2 0->
   (∀ c o,s.heap.get? c=some o->h'.get? c=some o)->Q (.ref (s.heap.objs.size+4)) {s with heap:=h'}):
 W7 (WB prog w) A (call (.type "zip") [.ref l1,.ref l2]) Q E s:=by
 refine callType_new F.called_zip (by decide) (F.typeCall_zip_2 _ _) (F.newCall_zip_2 _ _) (λobj=>F.args_object_init_3 obj _ _) F.entry_zip_new (Ek l1 l2 xs ys) ⟨hl1,hl2,?_⟩;have y1:(s.heap.push (Bz l1)).objs.size=s.heap.objs.size+1:=TV ..;have y2:((s.heap.push (Bz l1)).push (Bz l2)).objs.size=s.heap.objs.size+2:=by rw[TV,y1]
 have y3:(zt3 s.heap l1 l2).objs.size=s.heap.objs.size+3:=by rw[TV,y2]
 have y4:(zt4 s.heap l1 l2).objs.size=s.heap.objs.size+4:=by rw[TV,y3]
 have up:∀{h0:Heap} {o1:Obj} {c o},h0.get? c=some o->(h0.push o1).get? c=some o:=λe=>Sa _ e;have q5:(zt5 s.heap l1 l2).get? (zt4 s.heap l1 l2).objs.size=some _:=So _ rfl;have q4:(zt5 s.heap l1 l2).get? (zt3 s.heap l1 l2).objs.size=some _:=up (So _ rfl);have q3:(zt5 s.heap l1 l2).get? ((s.heap.push (Bz l1)).push (Bz l2)).objs.size=some _:=up (up (So _ rfl));have q2:(zt5 s.heap l1 l2).get? (s.heap.push (Bz l1)).objs.size=some _:=up (up (up (So _ rfl)));have q1:(zt5 s.heap l1 l2).get? s.heap.objs.size=some _:=up (up (up (up (So _ rfl))));show _/\_;rw[y2,y3,y4]at q5;rw[y1,y2]at q3;rw[y3]at q4;rw[y1]at q2;rw[y4];exact⟨⟨_,q5,rfl⟩,h _ q5 q3 ⟨_,_,q4⟩ ⟨_,q1,rfl,rfl⟩ ⟨_,q2,rfl,rfl⟩ λc o x=>up (up (up (up (up x))))⟩
end
end PySem
namespace L2
open PySem PySem.Spec PyProof.Rows
noncomputable def Pl(K:SU)(a b:W3):It:=
 ⟨λi H=>∃ xs ys x y,SqT K H a xs/\SqT K H b ys/\xs[i]?=some x/\ys[i]?=some y,
  λi H x H'=>∃ p v u,H p=none/\x = .ref p/\(∀ xs,SqT K H a xs->xs[i]?=some v)/\(∀ ys,SqT K H b ys->ys[i]?=some u)/\H'=upd H p (.tup [v,u]),
  λi H=>∃ xs,SqT K H a xs/\xs.length=i⟩
theorem HR{z TI TO i1 i2 l1 l2:W3}(D:ZipApart z TI TO i1 i2 l1 l2):ZipFar z TI TO i1 i2 [i1,l1] [i2,l2] where
 iz:=⟨D.TIz,D.TOz,D.i1z,D.i2z⟩
 im:=⟨D.TITO,D.TIi1,D.TIi2,D.TOi1,D.TOi2,D.i12⟩
 g1:=λc hc=>by
  rcases Sm.mp hc with rfl | hc
  ·exact⟨D.i1z,D.TOi1.symm,D.i12⟩
  ·rw[Sg.mp hc];exact⟨D.l1z,D.l1TO,D.l1i2⟩
 g2:=λc hc=>by
  rcases Sm.mp hc with rfl | hc
  ·exact⟨D.i2z,D.TOi2.symm,D.i12.symm⟩
  ·rw[Sg.mp hc];exact⟨D.l2z,D.l2TO,D.l2i1⟩
theorem Ir{P:W8}{w:WC}{K:SU}{elts:List Expr}{kx:Nat}{tp:Pos}(z TI TO i1 i2 l1 l2:W3)(D:ZipApart z TI TO i1 i2 l1 l2):Turn P w K (.Tuple elts kx tp) (Pl K l1 l2) [z,TI,TO,i1,i2] z
 (λi h=>IsZip h z TI TO .none/\IsPair h TI (.ref i1) (.ref i2)/\(∃ a b,IsPair h TO a b)/\h.IsTupleIter i1 l1 i/\h.IsTupleIter i2 l2 i) where
 mem:=by simp
 obj:=λi h st b hb=>by
  obtain⟨hz,hTI,⟨a',b',hTO⟩,⟨o1,e1,c1,d1⟩,⟨o2,e2,c2,d2⟩⟩:=st;simp only[Sm,U8,or_false]at hb;rcases hb with rfl | rfl | rfl | rfl | rfl
  ·exact⟨_,hz,λv q=>by cases q⟩
  ·exact⟨_,hTI,λv q=>by cases q⟩
  ·exact⟨_,hTO,λv q=>by cases q⟩
  ·exact⟨o1,e1,λv q=>by rw[d1]at q;cases q⟩
  ·exact⟨o2,e2,λv q=>by rw[d2]at q;cases q⟩
 keep:=λi h h' st k=>by
  obtain⟨hz,hTI,⟨a',b',hTO⟩,h1,h2⟩:=st;exact⟨k z (by simp) _ hz,k TI (by simp) _ hTI,⟨a',b',k TO (by simp) _ hTO⟩,h1.at λo q=>k i1 (by simp) o q,h2.at λo q=>k i2 (by simp) o q⟩
 item:=by
  intro X hP hw hK hc i pq s σ H E I hf st hg;subst hP hw hK;obtain⟨xs,ys,x,y,hq1,hq2,hx,hy⟩:=hg;obtain⟨its1,rv1,p1,hz1⟩:=I.tuple hq1;obtain⟨its2,rv2,p2,hz2⟩:=I.tuple hq2;obtain⟨u1,hu1,ru1⟩:=rv1.get hx;obtain⟨u2,hu2,ru2⟩:=rv2.get hy;obtain⟨hz,hTI,hTO,h1,h2⟩:=st;have hs1:i<its1.toArray.size:=by simpa using (gM hu1).1
  have hs2:i<its2.toArray.size:=by simpa using (gM hu2).1
  refine BP (l9 (prog:=X.prog) (w:=X.w) (A:=X.A.in1) (show X.A.in1.handled=none from I.ok.hd hc) i1 l1 D.l1i1 its1.toArray) (l9 (prog:=X.prog) (w:=X.w) (A:=X.A.in1) (show X.A.in1.handled=none from I.ok.hd hc) i2 l2 D.l2i2 its2.toArray) (HR D) hz hTI hTO ⟨h1,p1⟩ ⟨h2,p2⟩ hs1 hs2 λv1 v2 h' tk e1 e2 b1 b2 b3 b4 b5 b6 hk=>?_;have e1:v1=u1:=by have:=e1.symm.trans (show its1.toArray[i]?=some u1 by simpa using hu1);cases this;rfl
  have e2:v2=u2:=by have:=e2.symm.trans (show its2.toArray[i]?=some u2 by simpa using hu2);cases this;rfl
  subst e1 e2;refine⟨_,rfl,?_⟩
  have I1:Inv X pq σ (upd H s.heap.objs.size (.tup [x,y])) {s with heap:=h',toks:=tk}:=
   I.turnLay (t':=tk) (ch:=[z,TI,TO,i1,i2]) (λb o hb q=>hk b o (λe=>hb (by simp[e])) (λe=>hb (by simp[e])) (λe=>hb (by simp[e])) (λe=>hb (by simp[e])) q) hf ⟨Db,[v1,v2],.cons ru1 (.cons ru2 .nil),⟨_,b5,rfl,_,rfl⟩⟩
  have lt1:i1<s.heap.objs.size:=by obtain⟨_,q,_⟩:=h1;exact Sb q
  have lt2:i2<s.heap.objs.size:=by obtain⟨_,q,_⟩:=h2;exact Sb q
  obtain⟨a',b',hTO⟩:=hTO
  have hfp1:∀ b∈[z,TI,TO,i1,i2],FpOk X pq (upd H s.heap.objs.size (.tup [x,y])) b:=λb hb=>by
   obtain⟨f0,f1⟩:=hf b hb
   have hbl:b≠s.heap.objs.size:=by
    simp only[Sm,U8,or_false]at hb;rcases hb with rfl | rfl | rfl | rfl | rfl
    ·exact Sl (Sb hz)
    ·exact Sl (Sb hTI)
    ·exact Sl (Sb hTO)
    ·exact Sl lt1
    ·exact Sl lt2
   exact⟨by rw[f9 hbl];exact f0,f1⟩
  refine X8 b1 λh2' hz' hs'=>?_
  have I2:Inv X pq σ (upd H s.heap.objs.size (.tup [x,y])) {s with heap:=h2',toks:=tk}:=
   Inv.turnedL (s:={s with heap:=h',toks:=tk}) (t':=tk) (ch:=[z,TI,TO,i1,i2]) I1 (λb o hb q=>(hs'.2 b (λe=>hb (by simp[e]))).trans q) hfp1
  obtain⟨a2,b2',b2⟩:=b2
  refine⟨.ref s.heap.objs.size,_,I2,rfl,⟨_,x,y,I.fresh,rfl,λzs hy'=>by rw[I.tuple_inj hy' hq1];exact hx,λzs hy'=>by rw[I.tuple_inj hy' hq2];exact hy,rfl⟩,
   ⟨hz',hs'.extBut _ _ D.TIz (hk _ _ D.TIz D.TITO D.TIi1 D.TIi2 hTI),⟨_,_,hs'.extBut _ _ D.TOz b2⟩,b3.1.at λo q=>hs'.extBut _ _ D.i1z q,b4.1.at λo q=>hs'.extBut _ _ D.i2z q⟩,λb hb=>(hfp1 b hb).1⟩
 done:=by
   intro X hP hw hK hc i pq s σ H E I hf st hg;subst hP hw hK;obtain⟨xs,hq1,hx⟩:=hg;obtain⟨its1,rv1,p1,hz1⟩:=I.tuple hq1;obtain⟨hz,hTI,hTO,h1,h2⟩:=st;have hl1:=rv1.length;have hsz:i=its1.toArray.size:=by rw[<-hx,hl1];simp
   subst hsz;refine Bj (l9 (prog:=X.prog) (w:=X.w) (A:=X.A.in1) (show X.A.in1.handled=none from I.ok.hd hc) i1 l1 D.l1i1 its1.toArray) D.i1z (λc hc=>((HR D).g1 c hc).1) hz hTI ⟨h1,p1⟩ λh' hk=>⟨rfl,I.turnedL (t':=s.toks) (ch:=[z,TI,TO,i1,i2]) (λb o hb q=>hk b o (λe=>hb (by simp[e])) (λe=>hb (by simp[e])) q) hf⟩
 self:=λ_ _ _ _ _ st h=>Wy st.1 h
section
variable{X:Cx}
noncomputable def RO(K:SU)(ta:TA):TI:=λσ H R=>ta σ H λvs H1=>∃ a b,vs=[.ref a,.ref b]/\(∃ xs,SqT K H1 a xs)/\(∃ ys,SqT K H1 b ys)/\R (Pl K a b) H1
theorem Mv{a b:Expr}{ta:TA}{p pos:Pos}{elts:List Expr}{kx:Nat}{tp:Pos}(hg:Gl X "zip")(hm:X.mg "zip"=none)(ha:PA X [a,b] ta)(hs:WG [a,b] X.env=[(false,eval a X.env),(false,eval b X.env)]:=by rfl)
 (hs2:WG [b] X.env=[(false,eval b X.env)]:=by rfl):PI X (.Tuple elts kx tp) (.Call (.Name "zip" p) [a,b] [] pos) (RO X.K ta):=by
 intro pq s σ H R I h;refine Call_ (AT I hg hm EQ (PyProof.Rows.callWith_type1 (thn (ha pos pq s σ H _ I h) λus s1 ⟨vs,H1,I1,r1,q1⟩=>?_) (by rw[hs,hs2]) (by rw[hs2];rfl)));obtain⟨l1,l2,e,⟨xs,hq1⟩,⟨ys,hq2⟩,q⟩:=q1;subst e;obtain⟨u1,u2,rfl,r1',r2'⟩:=Vals.two r1;cases r1';cases r2';obtain⟨its1,rv1,p1,hz1⟩:=I1.tuple hq1;obtain⟨its2,rv2,p2,hz2⟩:=I1.tuple hq2;have hl1:@LT.lt Nat _ l1 s1.heap.objs.size:=by obtain⟨o,e,_⟩:=p1;exact Sb e
 have hl2:@LT.lt Nat _ l2 s1.heap.objs.size:=by obtain⟨o,e,_⟩:=p2;exact Sb e
 refine Dw p1 p2 λh' c1 c2 c3 c4 c5 hk=>?_;refine Wy c1 ?_;have I2:Inv X pq σ H1 {s1 with heap:=h'}:=I1.kept (t':=s1.toks) hk;refine⟨s1.heap.objs.size+4,[s1.heap.objs.size+4,s1.heap.objs.size+2,s1.heap.objs.size+3,s1.heap.objs.size,s1.heap.objs.size+1],_,_,H1,rfl,I2,Ir _ _ _ _ _ l1 l2 ?_,⟨c1,c2,c3,c4,c5⟩,λb hb=>?_,q⟩
 ·constructor<;>(show @Ne Nat _ _)<;>omega
 ·have hb2:@LE.le Nat _ s1.heap.objs.size b:=by
   simp only[Sm,U8,or_false]at hb;rcases hb with rfl | rfl | rfl | rfl | rfl
   ·exact Tt _ _
   ·exact Tt _ _
   ·exact Tt _ _
   ·exact Sd _
   ·exact Tt _ _
  exact I1.fpOk hb2 (I1.hok.fresh hb2)
end
end L2
namespace Rf
open PySem L2
noncomputable def DL(K:SU)(g:Tg):TG:=λv σ H Q=>∃ as ρ S x,Ok K as H S/\EnvOk K as H σ ρ/\Rl K as H v x/\wTg g x ρ λρ'=>∀ σ',EnvOk K as H σ' ρ'->Q σ' H
noncomputable def Pm(K:SU)(g:Tgs):TGs:=λvs σ H Q=>∃ as ρ S xs,Ok K as H S/\EnvOk K as H σ ρ/\RlAll K as H vs xs/\AA g xs ρ λρ'=>∀ σ',EnvOk K as H σ' ρ'->Q σ' H
mutual
theorem u9:∀(g:Tg) {x:SV} {ρ:EnvS} {P P':EnvS->Prop},(∀ r,P r->P' r)->wTg g x ρ P->wTg g x ρ P'
 | .nm i,x,ρ,P,P',h,q=>by unfold wTg at q ⊢;exact h _ q
 | .tup ts,x,ρ,P,P',h,q=>by
   cases x with
   | tup xs=>unfold wTg at q ⊢;exact El ts h q
   | _=>unfold wTg at q;exact q.elim
theorem El:∀(g:Tgs) {x:List SV} {ρ:EnvS} {P P':EnvS->Prop},(∀ r,P r->P' r)->AA g x ρ P->AA g x ρ P'
 | .nil,x,ρ,P,P',h,q=>by
   cases x with
   | nil=>unfold AA at q ⊢;exact h _ q
   | cons _ _=>unfold AA at q;exact q.elim
 | .cons t ts,x,ρ,P,P',h,q=>by
   cases x with
   | nil=>unfold AA at q;exact q.elim
   | cons y ys=>unfold AA at q ⊢;exact u9 t (λr q=>El ts h q) q
end
theorem Aq{env:Env}:∀{es:List Expr},es.all f6=true->(WY es env).length=es.length/\(WY es env).findIdx? (·.1)=none/\∀ e r,es=e::r->(WY (e::r) env).map (·.2)=assign e env::(WY r env).map (·.2)
 | [],_=>⟨rfl,rfl,λe r h=>by cases h⟩
 | e::es,h=>by
   rw[Tn,SW]at h;obtain⟨h1,h2,_⟩:=Aq (env:=env) h.2;have:WY (e::es) env=(false,assign e env)::WY es env:=by cases e<;>first | rfl | (have:=h.1;cases this)
   rw[this];refine⟨by simp[h1],by rw[List.findIdx?_cons,h2];rfl,λe' r z=>?_⟩;injection z with z1 z2;subst z1 z2;rw[this];rfl
theorem Bk{k:Nat}{N:List Str}{sc:WK}:∀{g:Tgs} {es:List Expr},A0 k N sc g es=true->es.all f6=true
 | .nil,es,h=>by unfold A0 at h;rw[Ta]at h;subst h;rfl
 | .cons t ts,es,h=>by
   rw[A0]at h;replace h:=c7 h;obtain⟨e,he,h⟩:=h;simp only[SW]at h;rw[AB he,Tn,h.1.2,Bk h.2];rfl
section
variable{X:Cx}{T:List Str}{Δ:Nat->Sn}{k:Nat}{N:List Str}{sc:WK}
mutual
theorem Ar(C:Cok T Δ X k N sc):∀(g:Tg) (r:Expr),Ao k N sc g r=true->PG X r (DL X.K g)
 | .nm i,r,h=>by
   rw[Ao]at h;replace h:=c7 h;obtain⟨x,hx,h⟩:=h;obtain⟨p,rfl⟩:=y8 hx
   ·simp only[SW,dQ]at h;obtain⟨⟨h1,h2⟩,h3⟩:=h;unfold loc at h3;simp only[Td,bQ]at h3;have hl:Loc X.env.scope x:=by rw[C.hs];exact h3
    have hf:X.fn x=true\/X.env.scope.names.lookup x=some .local:=by
     rw[C.hs];rcases h3 with h3 | h3
     ·exact .inr h3
     ·exact .inl (C.fn i x h1 h2 h3)
    have b:=Lw (X:=X) (pos:=p) (i:=i) (by rw[C.hN];exact C.nd) (by rw[C.hN];exact h2) hl hf;intro pq s σ H v u Q I rr hq;obtain⟨as,ρ,S,y,ok,en,rv,q⟩:=hq;unfold wTg at q;exact b pq s σ H v u Q I rr (q _ (en.set rv))
 | .tup ts,r,h=>by
   rw[Ao]at h;replace h:=c7 h;obtain⟨es,he,h⟩:=h;obtain⟨j,p,rfl⟩:=AX he
   ·have st:=Aq (env:=X.env) (Bk h);have b:=OS (X:=X) (k:=j) (pos:=p) C.calm (DM C ts es h) st.1 st.2.1;intro pq s σ H v u Q I rr hq;refine b pq s σ H v u Q I rr ?_;obtain⟨as,ρ,S,y,ok,en,rv,q⟩:=hq;cases y with
    | tup xs=>
      obtain⟨a,vs,rfl,ha,ra⟩:=rl_tup.mp rv;unfold wTg at q;refine⟨a,vs,rfl,SqT.of ha,?_,as,ρ,S,xs,ok,en,ra,q⟩;rw[ra.length];exact HS ts es xs h q
    | _=>unfold wTg at q;exact q.elim
theorem DM(C:Cok T Δ X k N sc):∀(g:Tgs) (es:List Expr),A0 k N sc g es=true->PGs X es (Pm X.K g)
 | .nil,es,h=>by
   rw[A0]at h;rw[Ta]at h;subst h;intro pq s σ H vs us Q I rr hq;refine Lx pq s σ H vs us Q I rr ?_;obtain⟨as,ρ,S,xs,ok,en,rv,q⟩:=hq;cases xs with
   | nil=>unfold AA at q;exact⟨rla_nil.mp rv,q _ en⟩
   | cons _ _=>unfold AA at q;exact q.elim
 | .cons t ts,el,h=>by
   have st:=Aq (env:=X.env) (Bk h);rw[A0]at h;replace h:=c7 h;obtain⟨e,he,h⟩:=h;simp only[SW]at h;rw[AB he]at st ⊢;generalize el.tail=es at h st;intro pq s σ H vs us Q I rr hq;refine JM (Ar C t e h.1.1) (DM C ts es h.2) (st.2.2 _ _ rfl) pq s σ H vs us Q I rr ?_;obtain⟨as,ρ,S,xs,ok,en,rv,q⟩:=hq;cases xs with
   | nil=>unfold AA at q;exact q.elim
   | cons y ys=>
     unfold AA at q;obtain⟨v,r,rfl,r1,r2⟩:=rla_cons.mp rv;exact⟨v,r,rfl,as,ρ,S,y,ok,en,r1,u9 t (λρ' q σ' en'=>⟨as,ρ',S,ys,ok,en',r2,q⟩) q⟩
theorem HS:∀(g:Tgs) (es:List Expr) (xs:List SV) {ρ:EnvS} {P:EnvS->Prop},A0 k N sc g es=true->AA g xs ρ P->xs.length=es.length
 | .nil,es,xs,ρ,P,h,q=>by
   rw[A0]at h;rw[Ta]at h;subst h;cases xs with
   | nil=>rfl
   | cons _ _=>unfold AA at q;exact q.elim
 | .cons t ts,el,xs,ρ,P,h,q=>by
   rw[A0]at h;replace h:=c7 h;obtain⟨e,he,h⟩:=h;simp only[SW]at h;rw[AB he];generalize el.tail=es at h;cases xs with
   | nil=>unfold AA at q;exact q.elim
   | cons y ys=>
     unfold AA at q;obtain⟨ρ',q'⟩:=HU t q;simp[HS ts es ys h.2 q']
theorem HU:∀(g:Tg) {x:SV} {ρ:EnvS} {P:EnvS->Prop},wTg g x ρ P->∃ ρ',P ρ'
 | .nm i,x,ρ,P,q=>by unfold wTg at q;exact⟨_,q⟩
 | .tup ts,x,ρ,P,q=>by
   cases x with
   | tup xs=>unfold wTg at q;exact Em ts q
   | _=>unfold wTg at q;exact q.elim
theorem Em:∀(g:Tgs) {xs:List SV} {ρ:EnvS} {P:EnvS->Prop},AA g xs ρ P->∃ ρ',P ρ'
 | .nil,xs,ρ,P,q=>by
   cases xs with
   | nil=>unfold AA at q;exact⟨_,q⟩
   | cons _ _=>unfold AA at q;exact q.elim
 | .cons t ts,xs,ρ,P,q=>by
   cases xs with
   | nil=>unfold AA at q;exact q.elim
   | cons y ys=>
     unfold AA at q;obtain⟨ρ',q'⟩:=HU t q;exact Em ts q'
end
end
structure Gu(as:List W3)(H:Hp)(as':List W3)(H':Hp):Prop where
 pre:as <+: as'
 kp:KeepU H H'
theorem Gu.ku{K:SU}{as as':List W3}{H H':Hp}{S:Sto}(g:Gu as H as' H')(_:Ok K as H S):KeepU H H':=g.kp
theorem Go.gu{K:SU}{as as':List W3}{H H':Hp}{S:Sto}(g:Go as H as' H')(ok:Ok K as H S):Gu as H as' H':=⟨g.pre,g.ku ok⟩
noncomputable def Walks(K:SU)(as0:List W3)(H0:Hp)(J:It)(keep:Sto->Prop)(xs:List SV):Prop:=∀ as H S,Gu as0 H0 as H->Ok K as H S->keep S->
 (∀(i:Nat) (x:SV),xs[i]?=some x->J.go i H/\∀ v H',J.yld i H v H'->Go as H as H'/\Ok K as H' S/\Rl K as H' v x)/\J.stop xs.length H
noncomputable def RP(K:SU)(as:List W3)(H:Hp)(R:It->Hp->Prop):(Sto->Prop)->List SV->Sto->Prop:=λkeep xs S1=>∀ as1 H1 J,Go as H as1 H1->Ok K as1 H1 S1->Walks K as1 H1 J keep xs->R J H1
noncomputable def liftI(K:SU)(w:WI):TI:=λσ H R=>∃ as ρ S,Ok K as H S/\EnvOk K as H σ ρ/\w ρ S (RP K as H R)
noncomputable def MonoI(w:WI):Prop:=∀ ρ S (P P':(Sto->Prop)->List SV->Sto->Prop),(∀ k x S',P k x S'->P' k x S')->w ρ S P->w ρ S P'
structure GoodI(X:Cx)(tg r:Expr)(w:WI):Prop where
 pi:PI X tg r (liftI X.K w)
 m:MonoI w
section
variable{X:Cx}{K:SU}
theorem BQ{as0 as:List W3}{H0 H:Hp}{S1 S:Sto}{x:SV}{v:V}{xs:List SV}(ok1:Ok K as0 H0 S1)(r:Rl K as0 H0 v x)(h:seqS x S1=some xs)(g:Gu as0 H0 as H)(ok:Ok K as H S)(kp:keepS x S1 S):Rl K as H v x/\seqS x S=some xs:=by
 refine⟨Rl.mono g.pre (g.ku ok1) x v r,?_⟩;cases x with
 | loc k=>
   have kp:S[k]?=S1[k]?:=kp;unfold seqS at h ⊢;simp only[kp];exact h
 | _=>exact h
theorem Iu{as0:List W3}{H0:Hp}{S1:Sto}{x:SV}{a:W3}{xs:List SV}(ok1:Ok K as0 H0 S1)(r:Rl K as0 H0 (.ref a) x)(n:x ≠ .tup xs)(h:seqS x S1=some xs):Walks K as0 H0 (Itl K a) (keepS x S1) xs:=λas H S g ok kp=>by
 obtain⟨r',h'⟩:=BQ ok1 r h g ok kp;obtain⟨b,vs,e,hq,rr⟩:=o9 ok r' n h';cases e;refine⟨λi y hy=>?_,vs,hq,by rw[rr.length];exact Sd _⟩;obtain⟨v,hv,rv⟩:=rr.get hy;refine⟨⟨vs,v,hq,hv⟩,λu H' yl=>?_⟩;obtain⟨e,yl⟩:=yl;subst e;have:=yl vs hq;rw[hv]at this;cases this;exact⟨Go.refl _ _,ok,rv⟩
theorem Kx{as0:List W3}{H0:Hp}{S1:Sto}{a:W3}{xs:List SV}(ok1:Ok K as0 H0 S1)(r:Rl K as0 H0 (.ref a) (.tup xs)):Walks K as0 H0 (Itt K a) (keepS (.tup xs) S1) xs:=λas H S g ok kp=>by
 have r':=Rl.mono g.pre (g.ku ok1) _ _ r;obtain⟨b,vs,e,hb,rr⟩:=rl_tup.mp r';cases e;refine⟨λi y hy=>?_,vs,SqT.of hb,by rw[rr.length];exact Sd _⟩;obtain⟨v,hv,rv⟩:=rr.get hy;refine⟨⟨vs,v,SqT.of hb,hv⟩,λu H' yl=>?_⟩;obtain⟨e,yl⟩:=yl;subst e;have:=yl vs (SqT.of hb);rw[hv]at this;cases this;exact⟨Go.refl _ _,ok,rv⟩
theorem En{as0:List W3}{H0:Hp}{lo hi:Int}:Walks K as0 H0 (Itr lo (hi - lo).toNat) (λ_=>True) (B4 lo hi):=λas H S g ok _=>by
 have hl:(B4 lo hi).length=(hi - lo).toNat:=by unfold B4;simp
 refine⟨λi y hy=>?_,by show(hi - lo).toNat<=(B4 lo hi).length;rw[hl];exact Sd _⟩;have hi':i<(hi - lo).toNat:=by rw[<-hl];exact(gM hy).1
 refine⟨hi',λu H' yl=>?_⟩;obtain⟨e,rfl⟩:=yl;subst e
 have:y = .int (lo+i):=by
  unfold B4 at hy;rw[Sq,Tr hi']at hy;exact(oj hy).symm
 subst this;exact⟨Go.refl _ _,ok,rl_int.mpr rfl⟩
theorem Ep{xs:List SV}{i:Nat}{y:SV}(h:(Al xs)[i]?=some y):∃ x,xs[i]?=some x/\y = .tup [.int i,x]:=by
 unfold Al at h;rw[Ub]at h;cases h1:(Sf xs.length)[i]? with
 | none=>rw[h1]at h;cases h
 | some j=>
   cases h2:xs[i]? with
   | none=>rw[h1,h2]at h;cases h
   | some x=>
     rw[h1,h2]at h;have hi:=(gM h2).1;rw[Tr hi]at h1;cases h1;cases h;exact⟨x,rfl,rfl⟩
theorem Er{xs:List SV}:(Al xs).length=xs.length:=by unfold Al;simp
theorem GH{as0:List W3}{H0:Hp}{S1:Sto}{x:SV}{a:W3}{xs:List SV}(ok1:Ok K as0 H0 S1)(r:Rl K as0 H0 (.ref a) x)(n:x ≠ .tup xs)(h:seqS x S1=some xs):Walks K as0 H0 (Ow K a) (keepS x S1) (Al xs):=λas H S g ok kp=>by
 obtain⟨r',h'⟩:=BQ ok1 r h g ok kp;obtain⟨b,vs,e,hq,rr⟩:=o9 ok r' n h';cases e;refine⟨λi y hy=>?_,vs,hq,by rw[rr.length,Er]⟩;obtain⟨z,hz,rfl⟩:=Ep hy;obtain⟨v,hv,rv⟩:=rr.get hz;refine⟨⟨vs,v,hq,hv⟩,λu H' yl=>?_⟩;obtain⟨p,w,hp,rfl,yl,rfl⟩:=yl;have:=yl vs hq;rw[hv]at this;cases this;exact⟨Go.new hp,ok.new hp,rl_tup.mpr ⟨p,_,rfl,k8,.cons (rl_int.mpr rfl) (.cons (Rl.mono (TN _) (n9 hp) z v rv) .nil)⟩⟩
theorem GI{as0:List W3}{H0:Hp}{S1:Sto}{a:W3}{xs:List SV}(ok1:Ok K as0 H0 S1)(r:Rl K as0 H0 (.ref a) (.tup xs)):Walks K as0 H0 (Ox K a) (keepS (.tup xs) S1) (Al xs):=λas H S g ok kp=>by
 have r':=Rl.mono g.pre (g.ku ok1) _ _ r;obtain⟨b,vs,e,hb,rr⟩:=rl_tup.mp r';cases e;refine⟨λi y hy=>?_,vs,SqT.of hb,by rw[rr.length,Er]⟩;obtain⟨z,hz,rfl⟩:=Ep hy;obtain⟨v,hv,rv⟩:=rr.get hz;refine⟨⟨vs,v,SqT.of hb,hv⟩,λu H' yl=>?_⟩;obtain⟨p,w,hp,rfl,yl,rfl⟩:=yl;have:=yl vs (SqT.of hb);rw[hv]at this;cases this;exact⟨Go.new hp,ok.new hp,rl_tup.mpr ⟨p,_,rfl,k8,.cons (rl_int.mpr rfl) (.cons (Rl.mono (TN _) (n9 hp) z v rv) .nil)⟩⟩
theorem Pn{tg l:Expr}{w1 w2:TI}(h1:PI X tg l w1)(h2:PI X tg l w2):PI X tg l (λσ H R=>w1 σ H R\/w2 σ H R):=λpq s σ H R I h=>h.elim (h1 pq s σ H R I) (h2 pq s σ H R I)
theorem CS{tg l:Expr}{w:TI}(w':TI)(h:PI X tg l w)(imp:∀ σ H R,w' σ H R->w σ H R):PI X tg l w':=λpq s σ H R I hw=>h pq s σ H R I (imp σ H R hw)
noncomputable def SI(K:SU)(tl:TE):TI:=λσ H R=>tl σ H λx H1=>∃ a,x = .ref a/\(((∃ xs,SqL K H1 a xs)/\R (Itl K a) H1)\/((∃ xs,SqT K H1 a xs)/\R (Itt K a) H1))
theorem Po{tg l:Expr}{tl:TE}(hl:PE X l tl):PI X tg l (SI X.K tl):=by
 intro pq s σ H R I h;refine thn (hl pq s σ H _ I h) λv s1 ⟨x,H1,I1,r1,q1⟩=>?_;obtain⟨a,e,q⟩:=q1;subst e;cases r1;have I2:∀{ob:Obj},Inv X pq σ H1 {s1 with heap:=s1.heap.push ob}:=I1.kept (t':=s1.toks) λb o e=>Sa _ e
 have fp:∀ b∈[s1.heap.objs.size],FpOk X pq H1 b:=λb hb=>by
  rw[Sg.mp hb];exact I1.fpOk (Sd _) (I1.hok.fresh (Sd _))
 rcases q with⟨⟨xs,hq⟩,q⟩ | ⟨⟨xs,hq⟩,q⟩
 ·obtain⟨its,rv,p,hz⟩:=I1.list hq;exact Wd p.isList ⟨s1.heap.objs.size,[s1.heap.objs.size],_,_,H1,rfl,I2,Hv a _,⟨_,So _ rfl,rfl,rfl⟩,fp,q⟩
 ·obtain⟨its,rv,p,hz⟩:=I1.tuple hq;exact WZ (show s1.heap.IsTuple a its.toArray from p) ⟨s1.heap.objs.size,[s1.heap.objs.size],_,_,H1,rfl,I2,FR a _,⟨_,So _ rfl,rfl,rfl⟩,fp,q⟩
theorem Iv{tg r:Expr}{a:WE×WT}(ha:Good X r a):GoodI X tg r (Nq a.1) where
 m:=λρ S P P' i h=>ha.m _ _ _ _ (λx S1 ⟨xs,e,q⟩=>⟨xs,e,i _ _ _ q⟩) h
 pi:=CS _ (Po ha.pe) (by
  rintro σ H R ⟨as,ρ,S,ok,en,h⟩;refine⟨as,ρ,S,ok,en,ha.m _ _ _ _ (λx S1 ⟨xs,e,q⟩ as1 H1 v g1 ok1 rv=>?_) h⟩;by_cases ht:x = .tup xs
  ·subst ht;obtain⟨p,vs,rfl,hp,rr⟩:=rl_tup.mp rv;exact⟨p,rfl,.inr ⟨⟨vs,SqT.of hp⟩,q as1 H1 _ g1 ok1 (Kx ok1 rv)⟩⟩
  ·obtain⟨p,vs,rfl,hq,rr⟩:=o9 ok1 rv ht e;exact⟨p,rfl,.inl ⟨⟨vs,hq⟩,q as1 H1 _ g1 ok1 (Iu ok1 rv ht e)⟩⟩)
theorem GJ{T:List Str}{Δ:Nat->Sn}{k:Nat}{N:List Str}{sc:WK}{elts:List Expr}{kx:Nat}{tp p q:Pos}{r:Expr}{a:WE×WT}(C:Cok T Δ X k N sc)(hg:glo sc "enumerate"=true)(ha:Good X r a)(hs:f6 r=true):GoodI X (.Tuple elts kx tp) (.Call (.Name "enumerate" p) [r] [] q) (KP a.1) where
 m:=λρ S P P' i h=>ha.m _ _ _ _ (λx S1 ⟨xs,e,q⟩=>⟨xs,e,i _ _ _ q⟩) h
 pi:=by
  unfold glo at hg;simp only[SW,bQ,T6]at hg;have gl:Gl X "enumerate":=by show X.env.scope.names.lookup ("enumerate":Str)=_;rw[C.hs];exact hg.1.1
  refine CS _ (MB gl C.enm (t5 ha.pe AV (g7 hs)) (g7 hs)) ?_;rintro σ H R ⟨as,ρ,S,ok,en,h⟩;refine⟨as,ρ,S,ok,en,ha.m _ _ _ _ (λx S1 ⟨xs,e,q⟩ as1 H1 v g1 ok1 rv=>?_) h⟩;by_cases ht:x = .tup xs
  ·subst ht;obtain⟨p,vs,rfl,hp,rr⟩:=rl_tup.mp rv;exact⟨p,rfl,.inr ⟨⟨vs,SqT.of hp⟩,q as1 H1 _ g1 ok1 (GI ok1 rv)⟩⟩
  ·obtain⟨p,vs,rfl,hq,rr⟩:=o9 ok1 rv ht e;exact⟨p,rfl,.inl ⟨⟨vs,hq⟩,q as1 H1 _ g1 ok1 (GH ok1 rv ht e)⟩⟩
theorem GK{T:List Str}{Δ:Nat->Sn}{k:Nat}{N:List Str}{sc:WK}{tg r:Expr}{p q:Pos}{a:WE×WT}(C:Cok T Δ X k N sc)(hg:glo sc "range"=true)(ha:Good X r a)(hs:f6 r=true):GoodI X tg (.Call (.Name "range" p) [r] [] q) (KN a.1) where
 m:=λρ S P P' i h=>ha.m _ _ _ _ (λx S1 ⟨j,e,z,q⟩=>⟨j,e,z,i _ _ _ q⟩) h
 pi:=by
  unfold glo at hg;simp only[SW,bQ,T6]at hg;have gl:Gl X "range":=by show X.env.scope.names.lookup ("range":Str)=_;rw[C.hs];exact hg.1.1
  refine CS _ (Hw gl C.rng (t5 ha.pe AV (g7 hs)) (g7 hs)) ?_;rintro σ H R ⟨as,ρ,S,ok,en,h⟩;refine⟨as,ρ,S,ok,en,ha.m _ _ _ _ (λx S1 ⟨j,e,z,q⟩ as1 H1 v g1 ok1 rv=>?_) h⟩;subst e;refine⟨j,by rw[rl_int.mp rv],z.1,z.2,?_⟩;have:=q as1 H1 (Itr 0 (j - 0).toNat) g1 ok1 En
  rwa [Int.sub_zero]at this
theorem GL{T:List Str}{Δ:Nat->Sn}{k:Nat}{N:List Str}{sc:WK}{tg r r2:Expr}{p q:Pos}{a b:WE×WT}(C:Cok T Δ X k N sc)(hg:glo sc "range"=true)(ha:Good X r a)(hb:Good X r2 b)(hs:f6 r=true)(hs2:f6 r2=true):GoodI X tg (.Call (.Name "range" p) [r,r2] [] q) (KO a.1 b.1) where
 m:=λρ S P P' i h=>ha.m _ _ _ _ (λx S1 h=>hb.m _ _ _ _ (λy S2 ⟨l,j,e,e2,z,q⟩=>⟨l,j,e,e2,z,i _ _ _ q⟩) h) h
 pi:=by
  unfold glo at hg;simp only[SW,bQ,T6]at hg;have gl:Gl X "range":=by show X.env.scope.names.lookup ("range":Str)=_;rw[C.hs];exact hg.1.1
  refine CS _ (Hx gl C.rng (t5 ha.pe (t5 hb.pe AV (g7 hs2)) (g7 hs)) (by rw[g7 hs,g7 hs2];rfl) (g7 hs2)) ?_;rintro σ H R ⟨as,ρ,S,ok,en,h⟩;refine⟨as,ρ,S,ok,en,ha.m _ _ _ _ (λx S1 h as1 H1 v g1 ok1 rv=>?_) h⟩;refine⟨as1,ρ,S1,ok1,en.mono g1.pre (g1.ku ok),hb.m _ _ _ _ (λy S2 ⟨l,j,e,e2,z,q⟩ as2 H2 u g2 ok2 ru=>?_) h⟩;subst e e2;exact⟨l,j,by rw[rl_int.mp rv,rl_int.mp ru],z,q as2 H2 _ (g1.trans g2) ok2 En⟩
theorem Dx{xs ys:List SV}{i:Nat}{z:SV}(h:(Fr xs ys)[i]?=some z):∃ x y,xs[i]?=some x/\ys[i]?=some y/\z = .tup [x,y]:=by
 unfold Fr at h;rw[Ub]at h;cases h1:xs[i]? with
 | none=>rw[h1]at h;cases h
 | some x=>
   cases h2:ys[i]? with
   | none=>rw[h1,h2]at h;cases h
   | some y=>
     rw[h1,h2]at h;cases h;exact⟨x,y,rfl,rfl,rfl⟩
theorem HV{xs ys:List SV}(h:xs.length=ys.length):(Fr xs ys).length=xs.length:=by unfold Fr;simp[h]
theorem Iw{as0:List W3}{H0:Hp}{S1:Sto}{x y:SV}{a b:W3}{xs ys:List SV}(ok1:Ok K as0 H0 S1)(rx:Rl K as0 H0 (.ref a) x)(ry:Rl K as0 H0 (.ref b) y)(nx:x ≠ .tup xs)(ny:y ≠ .tup ys)(hx:seqS x S1=some xs)(hy:seqS y S1=some ys)(hl:xs.length=ys.length):Walks K as0 H0 (Itz K a b) (λS'=>keepS x S1 S'/\keepS y S1 S') (Fr xs ys):=λas H S g ok kp=>by
 obtain⟨r1,h1⟩:=BQ ok1 rx hx g ok kp.1;obtain⟨r2,h2⟩:=BQ ok1 ry hy g ok kp.2;obtain⟨_,vs,e,hq,rr⟩:=o9 ok r1 nx h1;cases e;obtain⟨_,us,e,hq2,rr2⟩:=o9 ok r2 ny h2;cases e;refine⟨λi z hz=>?_,vs,us,hq,hq2,.inl (by rw[rr.length,HV hl];exact Sd _)⟩;obtain⟨p,q,hp,hq',rfl⟩:=Dx hz;obtain⟨v,hv,rv⟩:=rr.get hp;obtain⟨u,hu,ru⟩:=rr2.get hq';refine⟨⟨vs,us,v,u,hq,hq2,hv,hu⟩,λw H' yl=>?_⟩;obtain⟨n,v',u',hn,rfl,y1,y2,rfl⟩:=yl;have e1:=y1 vs hq;have e2:=y2 us hq2;rw[hv]at e1;cases e1;rw[hu]at e2;cases e2;exact⟨Go.new hn,ok.new hn,rl_tup.mpr ⟨n,_,rfl,k8,.cons (Rl.mono (TN _) (n9 hn) p v rv) (.cons (Rl.mono (TN _) (n9 hn) q u ru) .nil)⟩⟩
theorem Ix{as0:List W3}{H0:Hp}{S1:Sto}{a b:W3}{xs ys:List SV}{kp:Sto->Prop}(ok1:Ok K as0 H0 S1)(rx:Rl K as0 H0 (.ref a) (.tup xs))(ry:Rl K as0 H0 (.ref b) (.tup ys))(hl:xs.length=ys.length):Walks K as0 H0 (Pl K a b) kp (Fr xs ys):=λas H S g ok _=>by
 obtain⟨_,vs,e,hb,rr⟩:=rl_tup.mp (Rl.mono g.pre (g.ku ok1) _ _ rx);cases e;obtain⟨_,us,e,hb2,rr2⟩:=rl_tup.mp (Rl.mono g.pre (g.ku ok1) _ _ ry);cases e;have hq:SqT K H a vs:=SqT.of hb;have hq2:SqT K H b us:=SqT.of hb2;refine⟨λi z hz=>?_,vs,hq,by rw[rr.length,HV hl]⟩;obtain⟨p,q,hp,hq',rfl⟩:=Dx hz;obtain⟨v,hv,rv⟩:=rr.get hp;obtain⟨u,hu,ru⟩:=rr2.get hq';refine⟨⟨vs,us,v,u,hq,hq2,hv,hu⟩,λw H' yl=>?_⟩;obtain⟨n,v',u',hn,rfl,y1,y2,rfl⟩:=yl;have e1:=y1 vs hq;have e2:=y2 us hq2;rw[hv]at e1;cases e1;rw[hu]at e2;cases e2;exact⟨Go.new hn,ok.new hn,rl_tup.mpr ⟨n,_,rfl,k8,.cons (Rl.mono (TN _) (n9 hn) p v rv) (.cons (Rl.mono (TN _) (n9 hn) q u ru) .nil)⟩⟩
theorem Iy{T:List Str}{Δ:Nat->Sn}{k:Nat}{N:List Str}{sc:WK}{elts:List Expr}{kx i j:Nat}{tp p q p1 p2:Pos}{y z:Str}(C:Cok T Δ X k N sc)(hg:glo sc "zip"=true)(h1:PE X (.Name y p1) (EI i))(h2:PE X (.Name z p2) (EI j)):GoodI X (.Tuple elts kx tp) (.Call (.Name "zip" p) [.Name y p1,.Name z p2] [] q) (Nr i j) where
 m:=λρ S P P' i h=>let ⟨x,y,xs,ys,a,b,c,d,e,f,q⟩:=h;⟨x,y,xs,ys,a,b,c,d,e,f,i _ _ _ q⟩
 pi:=by
  unfold glo at hg;simp only[SW,bQ,T6]at hg;have gl:Gl X "zip":=by show X.env.scope.names.lookup ("zip":Str)=_;rw[C.hs];exact hg.1.1
  have pa:PA X [.Name y p1,.Name z p2] (C5 (EI i) (C5 (EI j) M3)):=t5 h1 (t5 h2 AV rfl) rfl;refine CS _ (Pn (Oy gl C.zip pa rfl rfl) (Mv gl C.zip pa rfl rfl)) ?_;rintro σ H R ⟨as,ρ,S,ok,en,x,y,xs,ys,ex,ey,hx,hy,ht,hl,h⟩;obtain⟨v,ev,rv⟩:=en.2 _ _ ex;obtain⟨u,eu,ru⟩:=en.2 _ _ ey;by_cases hxt:x = .tup xs
  ·subst hxt;have:∃ zs,y = .tup zs:=by cases y<;>first | (cases ht;done) | exact⟨_,rfl⟩
   obtain⟨zs,rfl⟩:=this;cases hy;obtain⟨a,vs,rfl,ha,_⟩:=rl_tup.mp rv;obtain⟨b,us,rfl,hb,_⟩:=rl_tup.mp ru;exact .inr ⟨_,ev,_,eu,a,b,rfl,⟨vs,SqT.of ha⟩,⟨us,SqT.of hb⟩,h as H _ (Go.refl _ _) ok (Ix ok rv ru hl)⟩
  ·have hyt:y ≠ .tup ys:=λz=>by
    subst z;have:∃ zs,x = .tup zs:=by cases x<;>first | (cases ht;done) | exact⟨_,rfl⟩
    obtain⟨zs,rfl⟩:=this;cases hx;exact hxt rfl
   obtain⟨a,vs,rfl,ha,_⟩:=o9 ok rv hxt hx;obtain⟨b,us,rfl,hb,_⟩:=o9 ok ru hyt hy;exact .inl ⟨_,ev,_,eu,a,b,rfl,⟨vs,ha⟩,⟨us,hb⟩,h as H _ (Go.refl _ _) ok (Iw ok rv ru hxt hyt hx hy hl)⟩
end
end Rf
namespace L2
open PySem PySem.Spec PyProof.Rows
noncomputable def SetXO(prog:W8)(w:WC)(o:Obj)(L:List Int):Prop:=
 ∃ es ep t,o.ExactSet/\o.data = .set es ep t/\ElemsOf (intKind prog w) es.toList/\es.size<scanBound/\t.fits es.size=true/\Tab w t/\(es.toList.map λe=>numOf e.2).Perm L
theorem SetXO.at{prog:W8}{w:WC}{o:Obj}{L:List Int}{h:Heap}{a:W3}(x:SetXO prog w o L)(e:h.get? a=some o):SetX prog w h a L:=let ⟨es,ep,t,r⟩:=x;⟨o,es,ep,t,e,r⟩
theorem SetX.obj{prog:W8}{w:WC}{L:List Int}{h:Heap}{a:W3}(x:SetX prog w h a L):∃ o,h.get? a=some o/\SetXO prog w o L:=let ⟨o,es,ep,t,e,r⟩:=x;⟨o,e,es,ep,t,r⟩
end L2
namespace Rf
open PySem L2
theorem Iz{α:Type}{o:Option (Option α)}{x:α}(h:o.join=some x):o=some (some x):=by
 cases o with
 | none=>cases h
 | some o=>cases o with
   | none=>cases h
   | some y=>cases h;rfl
theorem EnvOk.cap{K:SU}{as:List W3}{H:Hp}{σ:St}{ρ:EnvS}(h:EnvOk K as H σ ρ)(k:Nat)(js:List Nat):EnvOk K as H (Ab k js σ) (EZ k js ρ):=by
 refine⟨by unfold Ab EZ;simp,λi x e=>?_⟩;unfold EZ at e;unfold Ab;by_cases hi:i<k
 ·rw[Sv (by simpa using hi),U0,iP hi]at e;cases e
 ·rw[TR (by simpa using hi),UO,Sq]at e;rw[TR (by simpa using hi),UO,Sq];cases hj:js[i - k]? with
  | none=>rw[hj]at e;cases e
  | some j=>
    rw[hj]at e;have e':(ρ[j]?).join=some x:=oj e;obtain⟨v,hv,rv⟩:=h.2 j x (Iz e');exact⟨v,by simp only[U5];rw[hv];rfl,rv⟩
theorem Ok.adopt{K:SU}{as:List W3}{H:Hp}{S:Sto}{D:W3}{vs:List V}{xs:List SV}(h:Ok K as H S)(n:D∉as)(hD:H D=some (.lst vs))(r:RlAll K as H vs xs):Ok K (as++[D]) H (S++[.lst xs]):=by
 have pre:as <+: as++[D]:=UL _ _;refine⟨by rw[SY,SY,h.len];rfl,?_,λk o a e ea=>?_⟩
 ·rw[UQ];refine⟨h.nd,by simp,λa ha b hb=>?_⟩;rw[Sg.mp hb];intro z;subst z;exact n ha
 ·by_cases hk:k<S.length
  ·rw[Sv hk]at e;rw[Sv (by rw[h.len];exact hk)]at ea;exact(h.obj k o a e ea).mono pre (KeepU.refl _) λ_ z=>z
  ·have hk':k=S.length:=by
    have:=(gM e).1;rw[SY,TK]at this;omega
   subst hk';rw[TF]at e;rw[<-h.len,TF]at ea;cases e;cases ea;exact⟨vs,hD,RlAll.mono pre (KeepU.refl _) xs vs r⟩
theorem BE{keep:Sto->Prop}{g:Tg}{t:WT}{e:WE}{ρ:EnvS}(mt:MonoT t)(me:Mono e){Q Q':List SV->Sto->Prop}(i:∀ ys S,Q ys S->Q' ys S):∀(xs ys:List SV) (S:Sto),m7 keep g t e ρ Q xs ys S->m7 keep g t e ρ Q' xs ys S
 | [],ys,S,h=>by unfold m7 at h ⊢;exact⟨h.1,i _ _ h.2⟩
 | x::xs,ys,S,h=>by
   unfold m7 at h ⊢;refine⟨h.1,u9 g (λρ2 q=>mt _ _ _ _ (λb S1 q=>k9 (λq=>me _ _ _ _ (λy S2 q=>⟨q.1,BE mt me i xs _ _ q.2⟩) q) (λq=>BE mt me i xs _ _ q) q) q) h.2⟩
theorem Mono.comp{k:Nat}{js:List Nat}{g:Tg}{i:WI}{t:WT}{e:WE}(mi:MonoI i)(mt:MonoT t)(me:Mono e):Mono (HI k js g i t e):=λρ S P P' im h=>mi _ _ _ _ (λkeep xs S1 h=>BE mt me (λys S2 q=>im _ _ q) xs [] S1 h) h
theorem Es{K:SU}{k:Nat}{js:List Nat}{g:Tg}{i:WI}{t:WT}{e:WE}(mi:MonoI i)(mt:MonoT t)(me:Mono e):∀ σ H Q,lift K (HI k js g i t e) σ H Q->Ji (liftI K i) (DL K g) (liftT K t) (lift K e) k js σ H Q:=by
 rintro σ H Q ⟨as,ρ,S,ok,en,h⟩;refine⟨as,ρ,S,ok,en,mi _ _ _ _ (λkeep xs S1 h as1 H1 J g1 ok1 W=>?_) h⟩;intro D hD;have Dn:D∉as1:=ok1.free hD
 refine⟨λi m vs H2=>m=xs.length - i/\i<=xs.length/\∃ as2 S2 ys,Go as1 H1 as2 H2/\Ok K as2 H2 S2/\D∉as2/\H2 D=some (.lst vs)/\RlAll K as2 H2 vs ys/\
  m7 keep g t e (EZ k js ρ) (λys S2=>Post K as H Q (.loc S2.length) (S2++[.lst ys])) (xs.drop i) ys S2,⟨xs.length,by simp,UR _,as1,S1,[],Go.new hD,ok1.new hD,Dn,k8,.nil,h⟩,?_⟩
 rintro i m vs H2 ⟨rfl,hi,as2,S2,ys,g2,ok2,n2,d2,rs,h⟩;by_cases hlt:i<xs.length
 ·right;rw[Ul hlt]at h;unfold m7 at h;obtain⟨kp,h⟩:=h;obtain⟨w1,_⟩:=W as2 H2 S2 (g2.gu ok1) ok2 kp;obtain⟨go,yl⟩:=w1 i xs[i] (Se hlt)
  refine⟨go,λvs' H'=>∃ as2 S2 ys,Go as1 H1 as2 H'/\Ok K as2 H' S2/\D∉as2/\H' D=some (.lst vs')/\RlAll K as2 H' vs' ys/\
   m7 keep g t e (EZ k js ρ) (λys S2=>Post K as H Q (.loc S2.length) (S2++[.lst ys])) (xs.drop (i+1)) ys S2,λvs' H' z=>⟨xs.length - (i+1),by omega,rfl,hlt,z⟩,λx H3 y3=>?_⟩
  obtain⟨g3,ok3,rx⟩:=yl x H3 y3;have en3:EnvOk K as2 H3 (Ab k js σ) (EZ k js ρ):=((en.mono g1.pre (g1.ku ok)).mono (g2.trans g3).pre ((g2.trans g3).ku ok1)).cap k js;have rs3:=RlAll.mono g3.pre (g3.ku ok2) ys vs rs;obtain⟨d3,n3⟩:=g3.keep D _ d2 n2;refine⟨as2,EZ k js ρ,S2,_,ok3,en3,rx,u9 g (λρ2 q σ2 en2=>?_) h⟩;refine⟨as2,ρ2,S2,ok3,en2,mt _ _ _ _ (λb S4 q as4 H4 g4 ok4=>?_) q⟩;obtain⟨d4,n4⟩:=g4.keep D _ d3 n3;have rs4:=RlAll.mono g4.pre (g4.ku ok3) ys vs rs3;refine k9 (λq=>?_) (λq=>?_) q
  ·refine⟨as4,ρ2,S4,ok4,en2.mono g4.pre (g4.ku ok3),me _ _ _ _ (λy S5 q as5 H5 v g5 ok5 rv=>?_) q⟩;obtain⟨d5,n5⟩:=g5.keep D _ d4 n4;have rs5:=RlAll.mono g5.pre (g5.ku ok4) ys vs rs4;refine⟨d5,by rw[rs.length];exact Fj q.1,as5,S5,ys++[y],?_,ok5.other d5 n5,n5,k8,?_,q.2⟩
   ·refine⟨(((g2.trans g3).trans g4).trans g5).pre,λb o hb nb=>?_⟩;obtain⟨z1,z2⟩:=(((g2.trans g3).trans g4).trans g5).keep b o hb nb;exact⟨by rw[f9 (g8 hb hD)];exact z1,z2⟩
   ·exact RlAll.mono (TN _) (Bd d5 rfl) _ _ (rs5.append (.cons rv .nil))
  ·exact⟨as4,S4,ys,(g2.trans g3).trans g4,ok4,n4,d4,rs4,q⟩
 ·left;have hi':i=xs.length:=by omega
  subst hi';rw[Vb]at h;unfold m7 at h;obtain⟨kp,h⟩:=h;obtain⟨_,w2⟩:=W as2 H2 S2 (g2.gu ok1) ok2 kp;refine⟨w2,h (as2++[D]) H2 (.ref D) ?_ (ok2.adopt n2 d2 rs) (rl_loc.mpr ⟨D,by rw[<-ok2.len,TF],rfl⟩)⟩;refine⟨(g1.pre.trans g2.pre).trans (UL _ _),λb o hb nb=>?_⟩;obtain⟨h1,n1⟩:=g1.keep b o hb nb;obtain⟨h2,n2'⟩:=g2.keep b o h1 n1;refine⟨h2,?_⟩;rw[Sw,Sg];rintro(z | z)
  ·exact n2' z
  ·exact g8 h1 hD z
theorem Et{scope sc:WK}{x:Str}(h:scope.names.lookup x=some .local):(Ea scope sc).names.lookup x=some .local:=by
 have go:∀ l:List (Str×WW),l.lookup x=some .local->(l.map λ(n,k)=>if (k == .free&&sc.kind == .function&&sc.names.lookup n == some .cell) then (n,.cell) else (n,k)).lookup x=some .local:=by
  intro l
  induction l with
  | nil=>intro h;cases h
  | cons a r ih=>
    obtain⟨n,k⟩:=a;intro h;rw[To]at h;rw[TU];cases hb:x == n with
    | true=>
      rw[hb]at h;have:k = .local:=oj h;subst this;show V3 x ((n,NameKind.local)::_)=_;rw[To,hb]
    | false=>
      rw[hb]at h
      have e:∀ k',V3 x ((n,k')::(r.map λ(n,k)=>if (k == .free&&sc.kind == .function&&sc.names.lookup n == some .cell) then (n,.cell) else (n,k)))=some .local:=λk'=>by
       rw[To,hb];exact ih h
      show V3 x ((if (k == .free&&sc.kind == .function&&sc.names.lookup n == some .cell)=true then (n,NameKind.cell) else (n,k))::_)=_;split<;>exact e _
 exact go _ h
theorem Cok.comp{T:List Str}{Δ:Nat->Sn}{X:Cx}{k:Nat}{N:List Str}{sc scope:WK}{own cn:List Str}{js:List Nat}(C:Cok T Δ X k N sc)(hok:v3 sc scope own cn N js=true)(s2:W4)(H2:Hp)(cs:List (Str×W3))(A:W3)(fp:List W3):Cok T Δ (i7 X scope (own++cn) s2 H2 cs A fp) own.length (own++cn) (Ea scope sc) where
 hN:=rfl
 hs:=by rw[<-C.hs];rfl
 nd:=by
  unfold v3 at hok;simp only[SW,dQ]at hok;exact hok.1.2
 calm:=C.calm
 fn:=λi x hi hx hc=>by
  unfold v3 at hok;simp only[SW,dQ,Sy,Td]at hok
  have hm:x∈own:=by
   rw[Sv hi]at hx;exact Sh hx
  show(scope.names.lookup x == some .cell)=true;rcases hok.1.1.1.2 x hm with h | h
  ·rw[Et h]at hc;cases hc
  ·rw[h];rfl
 un:=C.un
 bl:=C.bl
 rng:=C.rng
 enm:=C.enm
 rvs:=C.rvs
 zip:=C.zip
 sm0:=C.sm0
 st0:=C.st0
 dc0:=C.dc0
 ty:=C.ty
 gd:=C.gd
 call:=C.call
 mono:=C.mono
theorem AH{r:Expr}(h:w6 r=true){env:Env}:∀ x,Wu r env x=pure x:=λx=>by cases r<;>first | rfl | cases h
theorem Ax{T N:List Str}{sc:WK}:∀{es:Exs} {rs:List Expr},AQ T N sc es rs=true->rs.all f6=true
 | .nil,rs,h=>by unfold AQ at h;rw[Ta]at h;subst h;rfl
 | .cons e es,rs,h=>by
   unfold AQ at h;replace h:=c7 h;obtain⟨x,hx,h⟩:=h;simp only[SW]at h;rw[AB hx,Tn,h.1.2,Ax h.2];rfl
theorem GM{X:Cx}{i:Nat}{x:Str}{p:Pos}{N:List Str}{sc:WK}{T:List Str}{Δ:Nat->Sn}{k:Nat}(C:Cok T Δ X k N sc)(h:nmB N sc i x=true):PE X (.Name x p) (EI i):=by
 unfold nmB at h;simp only[SW,dQ,T6]at h;exact Pe C h.1.1.1 h.1.1.2 h.1.2 h.2
theorem HW{α:Type}{l:List α}(h:(!l.isEmpty)=true):∃ y ys,l=y::ys:=by
 cases l with
 | nil=>cases h
 | cons y ys=>exact⟨y,ys,rfl⟩
theorem Pp{X:Cx}{c:Expr}{a:WE×WT}(h:Good X c a):Cq X [c] (liftT X.K a.2):=Jg h.pt
theorem Ky{X:Cx}:Cq X [] (liftT X.K RD):=λpq s σ H Q I hw=>Jf pq s σ H Q I (let ⟨as,ρ,S,ok,en,h⟩:=hw;h as H (Go.refl _ _) ok)
theorem GN{T:List Str}{Δ:Nat->Sn}{X:Cx}{k:Nat}{N:List Str}{sc scope:WK}{own cn:List Str}{js:List Nat}{tg ri re:Expr}{ifs:List Expr}{p:Pos}{g:Tg}{i:WI}{t:WT}{e:WE×WT}(C:Cok T Δ X k N sc)(hok:v3 sc scope own cn N js=true)(hi:GoodI X tg ri i)
 (hg:∀ s2 H2 cs A fp,PG (i7 X scope (own++cn) s2 H2 cs A fp) tg (DL X.K g)) (ht:∀ s2 H2 cs A fp,Cq (i7 X scope (own++cn) s2 H2 cs A fp) ifs (liftT X.K t)) (mt:MonoT t) (he:∀ s2 H2 cs A fp,PE (i7 X scope (own++cn) s2 H2 cs A fp) re (lift X.K e.1)) (me:Mono e.1) (hn:w6 ri=true):
 Good X (.ListComp re [⟨tg,ri,ifs,0⟩] scope p) (tt1 (HI own.length js g i t e.1)):=
 .one (i5 _ (MA own cn js hi.pi hg ht he C.calm (by rw[C.hs,C.hN];exact hok) (AH hn)) (Es hi.m mt me)) (.comp hi.m mt me) rfl
mutual
theorem c9{T:List Str}{Δ:Nat->Sn}:∀(e:Ex) (r:Expr) {X:Cx} {k:Nat} {N:List Str} {sc:WK},Cok T Δ X k N sc->i9 T N sc e r=true->Good X r (wEx Δ e)
 | .var i,r,X,k,N,sc,C,h=>by
   replace h:=c7 h;obtain⟨x,hx,h⟩:=h;obtain⟨p,rfl⟩:=y8 hx;exact .one (i5 _ (GM C h) MI) .var rfl
 | .c x,r,X,k,N,sc,C,h=>by
   replace h:=c7 h;obtain⟨x,hx,h⟩:=h;obtain⟨j,p,rfl⟩:=IZ hx;exact Ms h
 | .op o a b,r,X,k,N,sc,C,h=>by
   replace h:=c7 h;obtain⟨v,hv,h⟩:=h;obtain⟨p,rfl⟩:=Mj hv;simp only[SW,dQ]at h;have ga:=c9 a _ C h.1.2;have gb:=c9 b _ C h.2;rw[<-h.1.1];exact .one (Kk ga.pe gb.pe ga.m gb.m) (.two HJ ga.m gb.m) rfl
 | .neg a,r,X,k,N,sc,C,h=>by
   replace h:=c7 h;obtain⟨v,hv,h⟩:=h;obtain⟨p,rfl⟩:=Ke hv;simp only[SW,dQ]at h;rw[h.1];exact Ih (c9 a _ C h.2)
 | .cmp o a b,r,X,k,N,sc,C,h=>by
   replace h:=c7 h;obtain⟨v,hv,h⟩:=h;replace h:=c7 h;obtain⟨rb,hb,h⟩:=h;obtain⟨p,rfl⟩:=Do hv;simp only[SW,dQ]at h;obtain⟨⟨⟨h0,h1⟩,h2⟩,h3⟩:=h;rw[h0,y9 hb];have ga:=c9 a _ C h1;have gb:=c9 b _ C h2;have:=C.un;exact Ia (by omega) ga.pe gb.pe ga.m gb.m h3
 | .chn o p a b c,r,X,k,N,sc,C,h=>by
   replace h:=c7 h;obtain⟨v,hv,h⟩:=h;replace h:=c7 h;obtain⟨rs,hb,h⟩:=h;obtain⟨p,rfl⟩:=Do hv;simp only[SW,dQ]at h;obtain⟨⟨⟨⟨h0,h1⟩,h2⟩,h3⟩,h4⟩:=h;rw[h0,DE hb];have ga:=c9 a _ C h1;have gb:=c9 b _ C h2;have gc:=c9 c _ C h3;have:=C.un;exact Ib (by omega) ga.pe gb.pe gc.pe ga.m gb.m gc.m h4
 | .and a b,r,X,k,N,sc,C,h=>by
   replace h:=c7 h;obtain⟨v,hv,h⟩:=h;have e:=Eb hv;subst e;rw[SW,dQ]at h;obtain⟨h0,h⟩:=h;replace h:=c7 h;obtain⟨x,hx,h⟩:=h;rw[SW]at h;have ga:=c9 a _ C h.1;rw[h0,AB hx];have h2:=h.2;generalize v.2.1.tail=tl at h2;cases hl:l1 tl with
   | some y=>
     rw[hl]at h2;rw[y9 hl];exact Fw ga (c9 b _ C h2)
   | none=>
     rw[hl]at h2;rw[SW,dQ]at h2;have gb:=c9 b _ C h2.2
     match tl,h2,gb with
     | y::z::zs,h2,gb=>exact Fx ga gb
     | [],h2,_=>exact absurd h2.1 (by simp)
     | [_],h2,_=>exact absurd h2.1 (by simp)
 | .or a b,r,X,k,N,sc,C,h=>by
   replace h:=c7 h;obtain⟨v,hv,h⟩:=h;have e:=Eb hv;subst e;rw[SW,dQ]at h;obtain⟨h0,h⟩:=h;replace h:=c7 h;obtain⟨x,hx,h⟩:=h;rw[SW]at h;have ga:=c9 a _ C h.1;rw[h0,AB hx];have h2:=h.2;generalize v.2.1.tail=tl at h2;cases hl:l1 tl with
   | some y=>
     rw[hl]at h2;rw[y9 hl];exact Ic ga (c9 b _ C h2)
   | none=>
     rw[hl]at h2;rw[SW,dQ]at h2;have gb:=c9 b _ C h2.2
     match tl,h2,gb with
     | y::z::zs,h2,gb=>exact Id ga gb
     | [],h2,_=>exact absurd h2.1 (by simp)
     | [_],h2,_=>exact absurd h2.1 (by simp)
 | .not a,r,X,k,N,sc,C,h=>by
   replace h:=c7 h;obtain⟨v,hv,h⟩:=h;obtain⟨p,rfl⟩:=Ke hv;simp only[SW,dQ]at h;rw[h.1];exact Ie (c9 a _ C h.2)
 | .ife t a b,r,X,k,N,sc,C,h=>by
   replace h:=c7 h;obtain⟨v,hv,h⟩:=h;obtain⟨p,rfl⟩:=Mk hv;simp only[SW]at h;exact Ig (c9 t _ C h.1.1) (c9 a _ C h.1.2) (c9 b _ C h.2)
 | .tup es,r,X,k,N,sc,C,h=>by
   replace h:=c7 h;obtain⟨v,hv,h⟩:=h;obtain⟨j,p,rfl⟩:=AX hv;exact Il (y6 es _ C h)
 | .lst es,r,X,k,N,sc,C,h=>by
   replace h:=c7 h;obtain⟨v,hv,h⟩:=h;obtain⟨p,rfl⟩:=Ml hv;exact Im (y6 es _ C h)
 | .ix a b,r,X,k,N,sc,C,h=>by
   replace h:=c7 h;obtain⟨v,hv,h⟩:=h;obtain⟨p,rfl⟩:=Dp hv;simp only[SW]at h;exact Kn (c9 a _ C h.1.1) (c9 b _ C h.1.2) h.2
 | .slc a lo hi,r,X,k,N,sc,C,h=>by
   replace h:=c7 h;obtain⟨v,hv,h⟩:=h;replace h:=c7 h;obtain⟨w,hw,h⟩:=h;obtain⟨p,rfl⟩:=Dp hv;obtain⟨p2,ew⟩:=Mm hw;simp only[SW]at h;have hl:=Eu lo _ C h.1.1.2;have hh:=Eu hi _ C h.1.2;rw[ew,Um.mp h.2];exact Ii (c9 a _ C h.1.1.1) hl.1 hh.1 hl.2 hh.2
 | .call f es,r,X,k,N,sc,C,h=>by
   replace h:=c7 h;obtain⟨v,hv,h⟩:=h;obtain⟨p,q,rfl⟩:=An hv;simp only[SW,dQ]at h;obtain⟨⟨⟨h1,h2⟩,h3⟩,h4⟩:=h;obtain⟨y,ys,e⟩:=HW h4;have st:=Ax h3;have g:=y6 es _ C h3;rw[e]at st g ⊢;rw[Tn,SW]at st;exact GA C h1 h2 g st.1 st.2
 | .bi b es,r,X,k,N,sc,C,h=>by
   replace h:=c7 h;obtain⟨v,hv,h⟩:=h;obtain⟨p,q,rfl⟩:=An hv;simp only[SW,dQ]at h;obtain⟨⟨⟨h1,h2⟩,h3⟩,h4⟩:=h;obtain⟨y,ys,e⟩:=HW h4;have st:=Ax h3;have g:=y6 es _ C h3;rw[e]at st g ⊢;rw[Tn,SW]at st;rw[<-h1]at h2 ⊢;exact Kt C h2 g st.1 st.2
 | .mt m a es,r,X,k,N,sc,C,h=>by
   replace h:=c7 h;obtain⟨v,hv,h⟩:=h;obtain⟨ap,cp,rfl,hl⟩:=Kg hv;simp only[SW,dQ]at h;obtain⟨⟨⟨⟨h0,h1⟩,h3⟩,h4⟩,h5⟩:=h;have st:=Ax h5;have ga:=c9 a _ C h4;have gs:=y6 es _ C h5;rw[h0];generalize v.2.2=args at h3 h5 st gs ⊢;cases args with
   | nil=>
     cases es with
     | nil=>exact Io ga h1 hl
     | cons _ _=>rw[AQ]at h5;cases h5
   | cons y ys=>
     rw[Tn,SW]at st;exact Kv ga gs h1 hl h3 st.1 st.2
 | .comp own cn js g it t e,r,X,k,N,sc,C,h=>by
   replace h:=c7 h;obtain⟨v,hv,h⟩:=h;replace h:=c7 h;obtain⟨c,hc,h⟩:=h;obtain⟨p,rfl⟩:=Ec hv;simp only[SW,dQ]at h;obtain⟨⟨⟨⟨⟨⟨h0,h1⟩,h2⟩,h3⟩,h4⟩,h5⟩,h6⟩:=h;have hI:=Bm it _ _ C h3;have hT:=λs2 H2 cs A fp=>Ev t _ (C.comp h1 s2 H2 cs A fp) h5;have hE:=λs2 H2 cs A fp=>c9 e _ (C.comp h1 s2 H2 cs A fp) h6;rw[y9 hc];obtain⟨tg,ri,ifs,az⟩:=c;have h0:az=0:=h0;subst h0;exact GN C h1 hI (λs2 H2 cs A fp=>Ar (C.comp h1 s2 H2 cs A fp) g _ h2) (λs2 H2 cs A fp=>(hT s2 H2 cs A fp).1) (hT X.s₀ X.H₀ [] 0 []).2 (λs2 H2 cs A fp=>(hE s2 H2 cs A fp).pe) (hE X.s₀ X.H₀ [] 0 []).m h4
 | .tyc t,r,X,k,N,sc,C,h=>by
   replace h:=c7 h;obtain⟨x,hx,h⟩:=h;obtain⟨p,rfl⟩:=y8 hx;simp only[SW,dQ]at h;obtain⟨⟨rfl,h1⟩,h2⟩:=h;exact Ip C h1 h2
 | .min1 a,r,X,k,N,sc,C,h=>by
   replace h:=c7 h;obtain⟨v,hv,h⟩:=h;replace h:=c7 h;obtain⟨ra,hra,h⟩:=h;obtain⟨p,q,rfl⟩:=An hv;simp only[SW,dQ]at h;obtain⟨⟨⟨e1,h1⟩,h3⟩,h4⟩:=h;rw[e1]at h1;rw[y9 hra,e1];exact GF C h1 (c9 a _ C h3) h4
 | .max1 a,r,X,k,N,sc,C,h=>by
   replace h:=c7 h;obtain⟨v,hv,h⟩:=h;replace h:=c7 h;obtain⟨ra,hra,h⟩:=h;obtain⟨p,q,rfl⟩:=An hv;simp only[SW,dQ]at h;obtain⟨⟨⟨e1,h1⟩,h3⟩,h4⟩:=h;rw[e1]at h1;rw[y9 hra,e1];exact GB C h1 (c9 a _ C h3) h4
 | .dnewp,r,X,k,N,sc,C,h=>by
   replace h:=c7 h;obtain⟨v,hv,h⟩:=h;obtain⟨p,rfl⟩:=Kd hv;simp only[SW,Ta]at h;rw[h.1,h.2];exact Ei
 | .setd d e v,r,X,k,N,sc,C,h=>by
   replace h:=c7 h;obtain⟨u,hu,h⟩:=h;replace h:=c7 h;obtain⟨ra,hra,h⟩:=h;obtain⟨ap,cp,rfl,hl⟩:=Kg hu;simp only[SW,dQ]at h;obtain⟨⟨⟨⟨⟨⟨e1,h1⟩,h2⟩,h3⟩,h4⟩,h5⟩,h6⟩:=h;rw[DE hra,e1];exact GC (Ui (Ug (by decide) _) C.un) (c9 d _ C h2) (c9 e _ C h3) (c9 v _ C h5) h1 hl h4 h6
 | .eqd n a b,r,X,k,N,sc,C,h=>by
   replace h:=c7 h;obtain⟨v,hv,h⟩:=h;replace h:=c7 h;obtain⟨rb,hb,h⟩:=h;obtain⟨p,rfl⟩:=Do hv;simp only[SW,dQ]at h;obtain⟨⟨⟨h0,h1⟩,h2⟩,h3⟩:=h;rw[h0,y9 hb];have ga:=c9 a _ C h1;have gb:=c9 b _ C h2;exact Iq (Ui (Ug (by decide) _) C.un) ga.pe gb.pe ga.m gb.m h3
 | .mind a d,r,X,k,N,sc,C,h=>by
   replace h:=c7 h;obtain⟨⟨x,as,kw⟩,hv,h⟩:=h;replace h:=c7 h;obtain⟨ra,hra,h⟩:=h;obtain⟨p,q,rfl⟩:=Mn hv;obtain⟨ka,kv,kp⟩:=kw;simp only[SW,dQ]at h;obtain⟨⟨⟨⟨⟨e1,h1⟩,h3⟩,h5⟩,h4⟩,e2⟩:=h;subst e1;subst e2;rw[y9 hra];exact GD (Ui (Ug (by decide) _) C.un) C h1 (c9 a _ C h3) (c9 d _ C h5) h4
 | .no,r,X,k,N,sc,C,h => .never
theorem y6{T:List Str}{Δ:Nat->Sn}:∀(es:Exs) (rs:List Expr) {X:Cx} {k:Nat} {N:List Str} {sc:WK},Cok T Δ X k N sc->AQ T N sc es rs=true->GoodA X rs (Dm Δ es)
 | .nil,rs,X,k,N,sc,C,h=>by
   rw[AQ,Ta]at h;subst h;exact Ik
 | .cons e es,rs,X,k,N,sc,C,h=>by
   rw[AQ]at h;replace h:=c7 h;obtain⟨x,hx,h⟩:=h;simp only[SW]at h;rw[AB hx];exact Fz (c9 e _ C h.1.1) (y6 es _ C h.2) h.1.2
theorem Eu{T:List Str}{Δ:Nat->Sn}:∀(o:Eo) (r:Option Expr) {X:Cx} {k:Nat} {N:List Str} {sc:WK},Cok T Δ X k N sc->Kh T N sc o r=true->PO X r (Eh X.K (wEo Δ o).1)/\MonoO (wEo Δ o).1
 | .no,r,X,k,N,sc,C,h=>by
   rw[Kh]at h;rw[Um.mp h];exact⟨RJ,.no⟩
 | .yes e,r,X,k,N,sc,C,h=>by
   rw[Kh]at h;replace h:=c7 h;obtain⟨x,hx,h⟩:=h;subst hx;exact⟨Pf (c9 e _ C h),.yes (c9 e _ C h).m⟩
theorem Ev{T:List Str}{Δ:Nat->Sn}:∀(o:Eo) (rs:List Expr) {X:Cx} {k:Nat} {N:List Str} {sc:WK},Cok T Δ X k N sc->Ed T N sc o rs=true->Cq X rs (liftT X.K (wEo Δ o).2)/\MonoT (wEo Δ o).2
 | .no,rs,X,k,N,sc,C,h=>by
   rw[Ed,Ta]at h;subst h;exact⟨Ky,λ_ _ _ _ i q=>i _ _ q⟩
 | .yes e,rs,X,k,N,sc,C,h=>by
   rw[Ed]at h;replace h:=c7 h;obtain⟨x,hx,h⟩:=h;rw[y9 hx];exact⟨Pp (c9 e _ C h),(c9 e _ C h).mt⟩
theorem Bm{T:List Str}{Δ:Nat->Sn}:∀(it:Itb) (tg r:Expr) {X:Cx} {k:Nat} {N:List Str} {sc:WK},Cok T Δ X k N sc->Mo T N sc it tg r=true->GoodI X tg r (Mg Δ it)
 | .seq e,tg,r,X,k,N,sc,C,h=>by
   exact Iv (c9 e _ C h)
 | .rng1 a,tg,r,X,k,N,sc,C,h=>by
   replace h:=c7 h;obtain⟨v,hv,h⟩:=h;replace h:=c7 h;obtain⟨ra,hra,h⟩:=h;obtain⟨p,q,rfl⟩:=An hv;simp only[SW,dQ]at h;obtain⟨⟨⟨e1,h1⟩,h2⟩,h3⟩:=h;rw[e1]at h1;rw[y9 hra,e1];exact GK C h1 (c9 a _ C h2) h3
 | .rng2 a b,tg,r,X,k,N,sc,C,h=>by
   replace h:=c7 h;obtain⟨v,hv,h⟩:=h;replace h:=c7 h;obtain⟨ra,hra,h⟩:=h;obtain⟨p,q,rfl⟩:=An hv;simp only[SW,dQ]at h;obtain⟨⟨⟨⟨⟨e1,h1⟩,h2⟩,h3⟩,h4⟩,h5⟩:=h;rw[e1]at h1;rw[DE hra,e1];exact GL C h1 (c9 a _ C h2) (c9 b _ C h4) h3 h5
 | .enum e,tg,r,X,k,N,sc,C,h=>by
   replace h:((Cu tg).isSome&&(vFn r).any λv=>(l1 v.2).any λa=>decide (v.1=("enumerate":Str))&&glo sc v.1&&i9 T N sc e a&&f6 a)=true:=h;rw[SW]at h;obtain⟨ht,h⟩:=h;obtain⟨es,he⟩:=Tw.mp ht;obtain⟨j,tp,rfl⟩:=AX he;replace h:=c7 h;obtain⟨v,hv,h⟩:=h;replace h:=c7 h;obtain⟨ra,hra,h⟩:=h;obtain⟨p,q,rfl⟩:=An hv;simp only[SW,dQ]at h;obtain⟨⟨⟨e1,h1⟩,h2⟩,h3⟩:=h;rw[e1]at h1;rw[y9 hra,e1];exact GJ C h1 (c9 e _ C h2) h3
 | .zip i j,tg,r,X,k,N,sc,C,h=>by
   replace h:((Cu tg).isSome&&(vFn r).any λv=>(l2 v.2).any λa=>(AO a.1).any λy=>(AO a.2).any λz=>decide (v.1=("zip":Str))&&glo sc v.1&&nmB N sc i y&&nmB N sc j z)=true:=h;rw[SW]at h;obtain⟨ht,h⟩:=h;obtain⟨es,he⟩:=Tw.mp ht;obtain⟨j,tp,rfl⟩:=AX he;replace h:=c7 h;obtain⟨v,hv,h⟩:=h;replace h:=c7 h;obtain⟨ra,hra,h⟩:=h;replace h:=c7 h;obtain⟨y,hy,h⟩:=h;replace h:=c7 h;obtain⟨z,hz,h⟩:=h;obtain⟨p,q,rfl⟩:=An hv;obtain⟨p1,e1⟩:=y8 hy;obtain⟨p2,e2⟩:=y8 hz;simp only[SW,dQ]at h;obtain⟨⟨⟨e0,h1⟩,h2⟩,h3⟩:=h;rw[e0]at h1;rw[DE hra,e0,e1,e2];exact Iy C h1 (GM C h2) (GM C h3)
end
noncomputable def CT:Expr->Option WK
 | .ListComp _ _ s _=>some s
 | .SetComp _ _ s _=>some s
 | .DictComp _ _ _ s _=>some s
 | _=>none
noncomputable def DO(sc:WK)(e:Expr)(x:Str)(px:Pos):Bool:=match CT e with
 | none=>false
 | some s=>sc.names.lookup x == some .local&&px.line == e.pos.line&&!(s.names.any λ(n,k)=>n == x&&(k == .local||k == .cell))
theorem HX{env:Env}{e:Expr}{x:Str}{px:Pos}{l:Nat}(hk:env.scope.kind = .function):Wn e (some (.Name x px)) l env=pure (DO env.scope e x px):=by
 have hb:env.blockKind = .function:=by unfold Env.blockKind;rw[hk];rfl
 unfold Wn DO CT
 cases e<;>first
  | rfl
  | (show(pure _:Sem Bool)=_;rw[hb];rfl)
noncomputable def Kz:Expr->Bool
 | .Tuple ..=>false
 | _=>true
noncomputable def Mw(sc:WK)(x y:Str)(px py:Pos):Bool:=sc.names.lookup x == some .local&&sc.names.lookup y == some .local&&px.line == py.line&&!(x == y)
noncomputable def CU:Expr->Option (Str×Pos)
 | .Name x p=>some (x,p)
 | _=>none
theorem Bn{r:Expr}{x:Str×Pos}(h:CU r=some x):r = .Name x.1 x.2:=by cases r<;>first | (cases h;rfl) | exact n8 h
noncomputable def Mx:Stmt->Option (List Expr×Expr)
 | .Assign ts e _=>some (ts,e)
 | _=>none
noncomputable def RQ:Stmt->Option Expr
 | .Expr e _=>some e
 | _=>none
noncomputable def RS:Stmt->Option (Expr×List Stmt×List Stmt)
 | .If t a b _=>some (t,a,b)
 | _=>none
noncomputable def RT:Stmt->Option (Expr×Expr×List Stmt×List Stmt)
 | .For g i b o _=>some (g,i,b,o)
 | _=>none
noncomputable def RU:Stmt->Option (List Stmt×List XB×List Stmt×List Stmt)
 | .Try b h o f _=>some (b,h,o,f)
 | _=>none
noncomputable def RV:Stmt->Option (Expr×List Stmt×List Stmt)
 | .While t b o _=>some (t,b,o)
 | _=>none
noncomputable def RW:Stmt->Option (Option Expr)
 | .Return e _=>some e
 | _=>none
theorem Dy{r:Stmt}{x:List Expr×Expr}(h:Mx r=some x):∃ p,r = .Assign x.1 x.2 p:=by cases r<;>first | (cases h;exact⟨_,rfl⟩) | exact n8 h
theorem My{r:Stmt}{x:Expr}(h:RQ r=some x):∃ p,r = .Expr x p:=by cases r<;>first | (cases h;exact⟨_,rfl⟩) | exact n8 h
theorem Mz{r:Stmt}{x:Expr×List Stmt×List Stmt}(h:RS r=some x):∃ p,r = .If x.1 x.2.1 x.2.2 p:=by cases r<;>first | (cases h;exact⟨_,rfl⟩) | exact n8 h
theorem N0{r:Stmt}{x:Expr×Expr×List Stmt×List Stmt}(h:RT r=some x):∃ p,r = .For x.1 x.2.1 x.2.2.1 x.2.2.2 p:=by cases r<;>first | (cases h;exact⟨_,rfl⟩) | exact n8 h
theorem N1{r:Stmt}{x:List Stmt×List XB×List Stmt×List Stmt}(h:RU r=some x):∃ p,r = .Try x.1 x.2.1 x.2.2.1 x.2.2.2 p:=by cases r<;>first | (cases h;exact⟨_,rfl⟩) | exact n8 h
theorem N2{r:Stmt}{x:Expr×List Stmt×List Stmt}(h:RV r=some x):∃ p,r = .While x.1 x.2.1 x.2.2 p:=by cases r<;>first | (cases h;exact⟨_,rfl⟩) | exact n8 h
theorem N3{r:Stmt}{x:Option Expr}(h:RW r=some x):∃ p,r = .Return x p:=by cases r<;>first | (cases h;exact⟨_,rfl⟩) | exact n8 h
noncomputable def Pq(e:Expr):Bool:=(Kc e).any λv=>(l1 v.2.1).isSome
noncomputable def RX(e:Expr):Bool:=false
noncomputable def Pr(sc:WK)(rt re:Expr):Bool:=match CU rt with
 | some x=>!DO sc re x.1 x.2||Pq re||RX re
 | none=>(Cu rt).isSome&&Kz re
mutual
noncomputable def RY(T:List Str)(N:List Str)(sc:WK):Stm->Stmt->Bool
 | .asg t e,r=>(Mx r).any λv=>(l1 v.1).any λrt=>Ao N.length N sc t rt&&i9 T N sc e v.2&&f6 rt&&Pr sc rt v.2
 | .par i j a b,r=>(Mx r).any λv=>(l1 v.1).any λrt=>(Cu rt).any λts=>(l2 ts).any λnn=>(Cu v.2).any λvs=>(l2 vs).any λab=>(CU nn.1).any λx=>(CU nn.2).any λy=>
    decide (N[i]?=some x.1)&&decide (N[j]?=some y.1)&&decide (i≠j)&&Mw sc x.1 y.1 x.2 y.2&&i9 T N sc a ab.1&&i9 T N sc b ab.2&&f6 ab.1&&f6 ab.2&&!([ab.1,ab.2].all (foldedForSure 8))&&!([ab.1,ab.2].all (Xv 8))
 | .put o i e,r=>(Mx r).any λv=>(l1 v.1).any λrt=>(Mi rt).any λoi=>i9 T N sc o oi.1&&i9 T N sc i oi.2&&i9 T N sc e v.2&&Am oi.2
 | .expr e,r=>(RQ r).any λre=>i9 T N sc e re&&(CT re).isNone
 | .iff t a b,r=>(RS r).any λv=>i9 T N sc t v.1&&B7 T N sc a v.2.1&&B7 T N sc b v.2.2
 | .loop g it b,r=>(RT r).any λv=>Ao N.length N sc g v.1&&Mo T N sc it v.1 v.2.1&&w6 v.2.1&&B7 T N sc b v.2.2.1&&v.2.2.2.isEmpty
 | .tri b,r=>(RU r).any λv=>B7 T N sc b v.1&&!v.2.1.isEmpty&&v.2.2.1.isEmpty&&v.2.2.2.isEmpty
 | .whl t b,r=>(RV r).any λv=>i9 T N sc t v.1&&B7 T N sc b v.2.1&&v.2.2.isEmpty
 | .ret e,r=>(RW r).any λo=>o.any λre=>i9 T N sc e re
 | .no,_=>true
noncomputable def B7(T:List Str)(N:List Str)(sc:WK):List Stm->List Stmt->Bool
 | [],r=>r.isEmpty
 | s::ss,r=>(r.head?).any λx=>RY T N sc s x&&B7 T N sc ss r.tail
end
noncomputable def Ew(K:SU)(as:List W3)(H:Hp)(D:Ends):EndsS where
 nx:=λρ' S'=>∀ as' H' σ',Go as H as' H'->Ok K as' H' S'->EnvOk K as' H' σ' ρ'->D.nx σ' H'
 rt:=Post K as H D.rt
 bk:=λρ' S'=>∀ as' H' σ',Go as H as' H'->Ok K as' H' S'->EnvOk K as' H' σ' ρ'->D.bk σ' H'
 ct:=λρ' S'=>∀ as' H' σ',Go as H as' H'->Ok K as' H' S'->EnvOk K as' H' σ' ρ'->D.ct σ' H'
noncomputable def liftS(K:SU)(w:WS):TS:=λD σ H=>∃ as ρ S,Ok K as H S/\EnvOk K as H σ ρ/\w (Ew K as H D) ρ S
structure Le(D D':EndsS):Prop where
 nx:∀ ρ S,D.nx ρ S->D'.nx ρ S
 rt:∀ x S,D.rt x S->D'.rt x S
 bk:∀ ρ S,D.bk ρ S->D'.bk ρ S
 ct:∀ ρ S,D.ct ρ S->D'.ct ρ S
noncomputable def MonoS(w:WS):Prop:=∀ D D' ρ S,Le D D'->w D ρ S->w D' ρ S
theorem MonoS.go{w:WS}(m:MonoS w){D D':EndsS}{ρ:EnvS}{S:Sto}(h:w D ρ S)(l:Le D D'):w D' ρ S:=m D D' ρ S l h
theorem Le.go{K:SU}{as as':List W3}{H H':Hp}{D:Ends}(g:Go as H as' H'):Le (Ew K as H D) (Ew K as' H' D) where
 nx:=λρ S h as2 H2 σ2 g2=>h as2 H2 σ2 (g.trans g2)
 rt:=λx S h=>Post.mono h g
 bk:=λρ S h as2 H2 σ2 g2=>h as2 H2 σ2 (g.trans g2)
 ct:=λρ S h as2 H2 σ2 g2=>h as2 H2 σ2 (g.trans g2)
structure GoodS(X:Cx)(r:Stmt)(w:WS):Prop where
 ps:PS X r (liftS X.K w)
 m:MonoS w
structure GoodSs(X:Cx)(r:List Stmt)(w:WS):Prop where
 ps:PSs X r (liftS X.K w)
 m:MonoS w
theorem v9{X:Cx}{st:Stmt}{t:TS}(t':TS)(h:PS X st t)(imp:∀ D σ H,t' D σ H->t D σ H):PS X st t':=λpq s σ H D I hw=>h pq s σ H D I (imp D σ H hw)
theorem Ey{X:Cx}{st:List Stmt}{t:TS}(t':TS)(h:PSs X st t)(imp:∀ D σ H,t' D σ H->t D σ H):PSs X st t':=λpq s σ H D I hw=>h pq s σ H D I (imp D σ H hw)
section
variable{X:Cx}
theorem GO:GoodSs X [] (λD ρ S=>D.nx ρ S):=⟨Ey _ Lu λD σ H ⟨as,ρ,S,ok,en,h⟩=>h as H σ (Go.refl _ _) ok en,λD D' ρ S l h=>l.nx _ _ h⟩
theorem Ez{s:Stmt}{ss:List Stmt}{w u:WS}(h1:GoodS X s w)(h2:GoodSs X ss u):GoodSs X (s::ss) (λD ρ S=>w {D with nx:=u D} ρ S) where
 ps:=Ey _ (JL h1.ps h2.ps) (by
  rintro D σ H ⟨as,ρ,S,ok,en,h⟩;refine⟨as,ρ,S,ok,en,h1.m.go h ⟨λρ' S' q as' H' σ' g ok' en'=>?_,λ_ _ h=>h,λ_ _ h=>h,λ_ _ h=>h⟩⟩;exact⟨as',ρ',S',ok',en',h2.m _ _ _ _ (Le.go g) q⟩)
 m:=λD D' ρ S l h=>h1.m.go (D:={D with nx:=u D}) h ⟨λρ' S' q=>h2.m _ _ _ _ l q,l.rt,l.bk,l.ct⟩
theorem N4{K:SU}{g:Tg}{w:WE}(m:Mono w):∀ D σ H,liftS K (λD ρ S=>w ρ S λx S1=>wTg g x ρ λρ'=>D.nx ρ' S1) D σ H->Hu (lift K w) (DL K g) D σ H:=by
 rintro D σ H ⟨as,ρ,S,ok,en,h⟩;refine⟨as,ρ,S,ok,en,m _ _ _ _ (λx S1 q as1 H1 v g1 ok1 rv=>?_) h⟩;exact⟨as1,ρ,S1,x,ok1,en.mono g1.pre (g1.ku ok),rv,u9 g (λρ' q σ' en'=>q as1 H1 σ' g1 ok1 en') q⟩
theorem F0{K:SU}{i:Nat}{w:WE}(m:Mono w):∀ D σ H,liftS K (λD ρ S=>w ρ S λx S1=>wTg (.nm i) x ρ λρ'=>D.nx ρ' S1) D σ H->Hu (lift K w) (Ga i) D σ H:=by
 rintro D σ H ⟨as,ρ,S,ok,en,h⟩;refine⟨as,ρ,S,ok,en,m _ _ _ _ (λx S1 q as1 H1 v g1 ok1 rv=>?_) h⟩;unfold wTg at q;exact q as1 H1 _ g1 ok1 ((en.mono g1.pre (g1.ku ok)).set rv)
theorem F1{g:Tg}{w:WE}(m:Mono w):MonoS (λD ρ S=>w ρ S λx S1=>wTg g x ρ λρ'=>D.nx ρ' S1):=λD D' ρ S l h=>m _ _ _ _ (λx S1 q=>u9 g (λρ' q=>l.nx _ _ q) q) h
theorem Ps{K:SU}{t:WT}{a b:WS}(mt:MonoT t)(ma:MonoS a)(mb:MonoS b):∀ D σ H,liftS K (λD ρ S=>t ρ S λc S1=>if c=true then a D ρ S1 else b D ρ S1) D σ H->QR (liftT K t) (liftS K a) (liftS K b) D σ H:=by
 rintro D σ H ⟨as,ρ,S,ok,en,h⟩;refine⟨as,ρ,S,ok,en,mt _ _ _ _ (λc S1 q as1 H1 g1 ok1=>?_) h⟩;refine k9 (λq=>?_) (λq=>?_) q
 ·exact⟨as1,ρ,S1,ok1,en.mono g1.pre (g1.ku ok),ma _ _ _ _ (Le.go g1) q⟩
 ·exact⟨as1,ρ,S1,ok1,en.mono g1.pre (g1.ku ok),mb _ _ _ _ (Le.go g1) q⟩
theorem Ay{keep:Sto->Prop}{g:Tg}{b:WS}(mb:MonoS b):∀(xs:List SV) {D D':EndsS},Le D D'->∀ ρ S,p8 keep g b D xs ρ S->p8 keep g b D' xs ρ S
 | [],D,D',l,ρ,S,h=>by unfold p8 at h ⊢;exact⟨h.1,l.nx _ _ h.2⟩
 | x::xs,D,D',l,ρ,S,h=>by
   unfold p8 at h ⊢;exact⟨h.1,u9 g (λρ2 q=>mb.go (D:={D with nx:=p8 keep g b D xs,ct:=p8 keep g b D xs,bk:=D.nx}) q ⟨Ay mb xs l,l.rt,l.nx,Ay mb xs l⟩) h.2⟩
theorem N5{K:SU}{g:Tg}{i:WI}{b:WS}(mi:MonoI i)(mb:MonoS b):∀ D σ H,liftS K (λD ρ S=>i ρ S λkeep xs S1=>p8 keep g b D xs ρ S1) D σ H->QZ (liftI K i) (DL K g) (liftS K b) D σ H:=by
 rintro D σ H ⟨as,ρ,S,ok,en,h⟩;refine⟨as,ρ,S,ok,en,mi _ _ _ _ (λkeep xs S1 h as1 H1 J g1 ok1 W=>?_) h⟩
 refine⟨λi m σ2 H2=>m=xs.length - i/\i<=xs.length/\∃ as2 ρ2 S2,Go as1 H1 as2 H2/\Ok K as2 H2 S2/\EnvOk K as2 H2 σ2 ρ2/\p8 keep g b (Ew K as H D) (xs.drop i) ρ2 S2,
  ⟨xs.length,by simp,UR _,as1,ρ,S1,Go.refl _ _,ok1,en.mono g1.pre (g1.ku ok),h⟩,?_⟩
 rintro i m σ2 H2 ⟨rfl,hi,as2,ρ2,S2,g2,ok2,en2,h⟩;by_cases hlt:i<xs.length
 ·right;rw[Ul hlt]at h;unfold p8 at h;obtain⟨kp,h⟩:=h;obtain⟨w1,_⟩:=W as2 H2 S2 (g2.gu ok1) ok2 kp;obtain⟨go,yl⟩:=w1 i xs[i] (Se hlt);refine⟨go,λσ' H'=>∃ as2 ρ2 S2,Go as1 H1 as2 H'/\Ok K as2 H' S2/\EnvOk K as2 H' σ' ρ2/\p8 keep g b (Ew K as H D) (xs.drop (i+1)) ρ2 S2,λσ' H' z=>⟨xs.length - (i+1),by omega,rfl,hlt,z⟩,λx H3 y3=>?_⟩;obtain⟨g3,ok3,rx⟩:=yl x H3 y3;refine⟨as2,ρ2,S2,_,ok3,en2.mono g3.pre (g3.ku ok2),rx,u9 g (λρ3 q σ3 en3=>?_) h⟩;have g03:=(g1.trans g2).trans g3;refine⟨as2,ρ3,S2,ok3,en3,mb.go q ⟨λρ' S' q as' H' σ' g' ok' en'=>?_,λx S h=>Post.mono h g03,λρ' S' q as' H' σ' g' ok' en'=>q as' H' σ' (g03.trans g') ok' en',λρ' S' q as' H' σ' g' ok' en'=>?_⟩⟩
  ·exact⟨as',ρ',S',(g2.trans g3).trans g',ok',en',q⟩
  ·exact⟨as',ρ',S',(g2.trans g3).trans g',ok',en',q⟩
 ·left;have hi':i=xs.length:=by omega
  subst hi';rw[Vb]at h;unfold p8 at h;obtain⟨kp,h⟩:=h;obtain⟨_,w2⟩:=W as2 H2 S2 (g2.gu ok1) ok2 kp;exact⟨w2,h as2 H2 σ2 (g1.trans g2) ok2 en2⟩
theorem F2{t:WT}{b:WS}(mt:MonoT t)(mb:MonoS b):MonoS (PZ t b):=λD D' ρ S l ⟨W,w0,h⟩=>⟨W,w0,λm ρ S w=>mt _ _ _ _ (λc S1 q=>k9 (λq=>mb.go (D:={D with nx:=λρ' S'=>∃ m',m'<m/\W m' ρ' S',ct:=λρ' S'=>∃ m',m'<m/\W m' ρ' S',bk:=D.nx}) q ⟨λ_ _ h=>h,l.rt,l.nx,λ_ _ h=>h⟩) (λq=>l.nx _ _ q) q) (h m ρ S w)⟩
theorem N6{K:SU}{t:WT}{b:WS}(mt:MonoT t)(mb:MonoS b):∀ D σ H,liftS K (PZ t b) D σ H->JO (liftT K t) (liftS K b) D σ H:=by
 rintro D σ H ⟨as,ρ,S,ok,en,W,⟨m0,w0⟩,h⟩;refine⟨λm σ1 H1=>∃ as1 ρ1 S1,Go as H as1 H1/\Ok K as1 H1 S1/\EnvOk K as1 H1 σ1 ρ1/\W m ρ1 S1,⟨m0,as,ρ,S,Go.refl _ _,ok,en,w0⟩,?_⟩;rintro m σ1 H1 ⟨as1,ρ1,S1,g1,ok1,en1,w1⟩;refine⟨as1,ρ1,S1,ok1,en1,mt _ _ _ _ (λc S2 q as2 H2 g2 ok2=>?_) (h m ρ1 S1 w1)⟩;refine k9 (λq=>?_) (λq=>q as2 H2 σ1 (g1.trans g2) ok2 (en1.mono g2.pre (g2.ku ok1))) q;refine⟨λσ' H'=>∃ m',m'<m/\∃ as1 ρ1 S1,Go as H as1 H'/\Ok K as1 H' S1/\EnvOk K as1 H' σ' ρ1/\W m' ρ1 S1,λσ' H' z=>z,?_⟩;refine⟨as2,ρ1,S2,ok2,en1.mono g2.pre (g2.ku ok1),mb.go q ⟨λρ' S' ⟨m',hm,w'⟩ as' H' σ' g' ok' en'=>?_,λx S h=>Post.mono h (g1.trans g2),λρ' S' q as' H' σ' g' ok' en'=>q as' H' σ' ((g1.trans g2).trans g') ok' en',λρ' S' ⟨m',hm,w'⟩ as' H' σ' g' ok' en'=>?_⟩⟩
 ·exact⟨m',hm,as',ρ',S',(g1.trans g2).trans g',ok',en',w'⟩
 ·exact⟨m',hm,as',ρ',S',(g1.trans g2).trans g',ok',en',w'⟩
theorem N7{K:SU}{i j:Nat}{a b:WE}(ma:Mono a)(mb:Mono b):∀ D σ H,liftS K (λD ρ S=>a ρ S λx S1=>b ρ S1 λy S2=>D.nx ((ρ.set i (some x)).set j (some y)) S2) D σ H->QW i j (C5 (lift K a) (C5 (lift K b) M3)) D σ H:=by
 rintro D σ H ⟨as,ρ,S,ok,en,h⟩;refine⟨as,ρ,S,ok,en,ma _ _ _ _ (λx S1 q as1 H1 v g1 ok1 rv=>?_) h⟩;refine⟨as1,ρ,S1,ok1,en.mono g1.pre (g1.ku ok),mb _ _ _ _ (λy S2 q as2 H2 u g2 ok2 ru=>?_) q⟩;refine⟨v,u,rfl,q as2 H2 _ (g1.trans g2) ok2 ?_⟩;exact(((en.mono g1.pre (g1.ku ok)).mono g2.pre (g2.ku ok1)).set (Rl.mono g2.pre (g2.ku ok1) x v rv)).set ru
theorem CV{x y v:SV}{S:Sto}{P P':Sto->Prop}(i:∀ S,P S->P' S)(h:Ft x y v S P):Ft x y v S P':=by
 unfold Ft at h ⊢;split at h
 ·obtain⟨xs,j,a,b,c⟩:=h;exact⟨xs,j,a,b,i _ c⟩
 ·exact h.elim
theorem N8{K:SU}{as:List W3}{H:Hp}{S:Sto}{x y z:SV}{o i v:V}{Q:Hp->Prop}(ok:Ok K as H S)(ro:Rl K as H o x)(ri:Rl K as H i y)(rv:Rl K as H v z)(h:Ft x y z S λS'=>∀ H',Go as H as H'->Ok K as H' S'->Q H'):Ja o i v H Q:=by
 cases x with
 | loc k=>
   cases y with
   | int n=>
     obtain⟨xs,j,h1,h2,h3⟩:=h;obtain⟨a,vs,rfl,ea,ha,ra⟩:=j7 ok ro h1;rw[rl_int]at ri;subst ri;refine⟨a,vs,n,j,rfl,rfl,ha,by rw[ra.length];exact h2,h3 _ (Go.write (Sh ea)) (ok.write h1 ea (ra.set rv j)).1⟩
   | _=>exact False.elim h
 | _=>exact False.elim h
theorem N9{K:SU}{o i e:WE}(mo:Mono o)(mi:Mono i)(me:Mono e):∀ D σ H,liftS K (λD ρ S=>e ρ S λv S1=>o ρ S1 λx S2=>i ρ S2 λy S3=>Ft x y v S3 λS4=>D.nx ρ S4) D σ H->Hu (lift K e) (QV (lift K o) (lift K i) Ja) D σ H:=by
 rintro D σ H ⟨as,ρ,S,ok,en,h⟩;refine⟨as,ρ,S,ok,en,me _ _ _ _ (λz S1 q as1 H1 v g1 ok1 rv=>?_) h⟩;have en1:=en.mono g1.pre (g1.ku ok);refine⟨as1,ρ,S1,ok1,en1,mo _ _ _ _ (λx S2 q as2 H2 u g2 ok2 ru=>?_) q⟩;have en2:=en1.mono g2.pre (g2.ku ok1);refine⟨as2,ρ,S2,ok2,en2,mi _ _ _ _ (λy S3 q as3 H3 t g3 ok3 rt=>?_) q⟩;have en3:=en2.mono g3.pre (g3.ku ok2);refine N8 ok3 (Rl.mono g3.pre (g3.ku ok2) x u ru) rt (Rl.mono (g2.trans g3).pre ((g2.trans g3).ku ok1) z v rv) (CV (λS4 q H4 g4 ok4=>?_) q);exact q as3 H4 σ (((g1.trans g2).trans g3).trans g4) ok4 (en3.mono g4.pre (g4.ku ok3))
theorem NA{n j:Nat}(h:j<n):ixN n (j:Int)=some j:=by
 unfold ixN;rw[iP (by omega),iP (by omega)];simp
end
theorem L0{env:Env}{es:List Expr}{k:Nat}{p:Pos}{e:Expr}{l:Nat}:Wo [.Tuple es k p] e l env=pure false:=by
 unfold Wo Wn;cases e<;>rfl
theorem Pt{env:Env}{o i:Expr}{p:Pos}{e:Expr}{l:Nat}:Wo [.Subscript o i p] e l env=pure false:=by
 unfold Wo Wn;cases e<;>rfl
theorem Pu{env:Env}{es:List Expr}{k:Nat}{p:Pos}{e:Expr}(h:Kz e=true):Wg [.Tuple es k p] e env=pure none:=by
 unfold Wg;cases e<;>first | rfl | cases h
theorem Pv{env:Env}{o i:Expr}{p:Pos}{e:Expr}:Wg [.Subscript o i p] e env=pure none:=by
 unfold Wg;cases e<;>rfl
theorem Pw{env:Env}{x y:Str}{px py pt pt2:Pos}{k k2:Nat}{a b:Expr}(hk:env.scope.kind = .function)(h:Mw env.scope x y px py=true)(ha:f6 a=true)(hb:f6 b=true)(h1:([a,b].all (foldedForSure 8))=false)(h2:([a,b].all (Xv 8))=false):
 Wg [.Tuple [.Name x px,.Name y py] k pt] (.Tuple [a,b] k2 pt2) env=pure (some [x,y]):=by
 have hbk:env.blockKind = .function:=by unfold Env.blockKind;rw[hk];rfl
 unfold Mw at h;simp only[SW,bQ,T6,beq_eq_false_iff_ne]at h;obtain⟨⟨⟨hx,hy⟩,hl⟩,hne⟩:=h;have kx:env.kindOf x=some .local:=hx;have ky:env.kindOf y=some .local:=hy
 have ed:([x,y]:List Str).eraseDups.length=2:=by
  have:(y == x)=false:=by rw[beq_eq_false_iff_ne];exact λz=>hne z.symm
  rw[List.eraseDups_cons,Tf,this];rfl
 unfold Wg;simp only[TM,U4,hbk,h1,h2,List.head?_cons,U5,VZ,Expr.pos,UU,List.filterMap_nil,kx,ky,hl];refine(iG (by decide)).trans ((iG (λz=>?_)).trans ?_)
 ·simp only[Tx,Vt,Vp,Td]at z;rcases z with z | z
  ·cases a<;>first | (cases z;done) | cases ha
  ·cases b<;>first | (cases z;done) | cases hb
 ·rw[show(some NameKind.local == some NameKind.local&&py.line == py.line)=true by simp];simp only[if_true];refine(iG (by rw[ed];simp)).trans ?_;refine(iG (by simp)).trans ((iG (by simp)).trans rfl)
theorem F3{t:WT}{a b:WS}(mt:MonoT t)(ma:MonoS a)(mb:MonoS b):MonoS (λD ρ S=>t ρ S λc S1=>if c=true then a D ρ S1 else b D ρ S1):=λD D' ρ S l h=>mt _ _ _ _ (λc S1 q=>k9 (λq=>ma.go q l) (λq=>mb.go q l) q) h
section
variable{T:List Str}{Δ:Nat->Sn}{X:Cx}{N:List Str}{sc:WK}
theorem Nz{env:Env}{e:Expr}(h:f6 e=true):(WY [e] env).map (·.2)=[assign e env]:=by cases e<;>first | rfl | cases h
theorem GP{env:Env}{o i:Expr}{p:Pos}(h:Am i=true):∀ v,assign (.Subscript o i p) env v=(do
 let ov <- holding [v] (eval o env)
 let iv <- holding [v,ov] (eval i env)
 standAt p
 holding [v,ov,iv] (setItem ov iv v)
 release [v,ov,iv] []):=λv=>by cases i<;>first | rfl | cases h
theorem J1(C:Cok T Δ X N.length N sc)(hk:sc.kind = .function){t:Tg}{e:Ex}{rt re:Expr}{pos:Pos}(h1:Ao N.length N sc t rt=true)(h2:i9 T N sc e re=true)(h3:f6 rt=true)(h4:Pr sc rt re=true):PS X (.Assign [rt] re pos) (liftS X.K λD ρ S=>(wEx Δ e).1 ρ S λx S1=>wTg t x ρ λρ'=>D.nx ρ' S1):=by
 have ge:=c9 e re C h2;unfold Pr at h4;cases hv:CU rt with
 | none=>
   rw[hv]at h4;rw[SW]at h4;obtain⟨es,hes⟩:=Tw.mp h4.1;obtain⟨j,p,rfl⟩:=AX hes;exact v9 _ (JN ge.pe (Ar C t _ h1) L0 (Pu h4.2) (Nz rfl)) (N4 ge.m)
 | some xp=>
   rw[hv]at h4;have e0:=Bn hv;obtain⟨x,px⟩:=xp;subst e0;cases t with
   | tup ts=>rw[Ao]at h1;cases h1
   | nm i=>
     rw[Ao]at h1;have h1:(decide (i<N.length)&&decide (N[i]?=some x)&&loc sc x)=true:=h1;simp only[SW,dQ]at h1;obtain⟨⟨hi,hx⟩,hl⟩:=h1;unfold loc at hl;simp only[Td,bQ]at hl;have hND:X.N.Nodup:=by rw[C.hN];exact C.nd
     have hNi:X.N[i]?=some x:=by rw[C.hN];exact hx
     have hloc:Loc X.env.scope x:=by rw[C.hs];exact hl
     have hf:X.fn x=true\/X.env.scope.names.lookup x=some .local:=by
      rw[C.hs];rcases hl with hl | hl
      ·exact .inr hl
      ·exact .inl (C.fn i x hi hx hl)
     have hke:X.env.scope.kind = .function:=by rw[C.hs];exact hk
     cases hsw:DO sc re x px with
     | false=>exact v9 _ (OU hND hNi hloc ge.pe (by rw[HX hke,C.hs,hsw]) hf) (F0 ge.m)
     | true=>
       have h4:(!DO sc re x px||Pq re||RX re)=true:=h4;rw[hsw,Bool.not_true,Vo,Td]at h4;rcases h4 with h4 | h4
       ·unfold Pq at h4;obtain⟨v,hv',h4⟩:=c7 h4;obtain⟨gen,hgen⟩:=Tw.mp h4;obtain⟨p',rfl⟩:=Ec hv';rw[y9 hgen]at h2 ge hsw ⊢
        have hxl:X.env.scope.names.lookup x=some .local:=by
         rw[C.hs];unfold DO CT at hsw;simp only[SW,bQ]at hsw;exact hsw.1.1
        have hs1:Wn (.ListComp v.1 [gen] v.2.2 p') (some (.Name x px)) pos.line X.env=pure true:=by rw[HX hke,C.hs,hsw]
        cases e with
        | comp own cn js g it t' e'=>
          obtain⟨tg,ri,ifs,az⟩:=gen;have h2:(decide (az=0)&&v3 sc v.2.2 own cn N js&&Ao own.length (own++cn) (Ea v.2.2 sc) g tg&&Mo T N sc it tg ri&&w6 ri&&Ed T (own++cn) (Ea v.2.2 sc) t' ifs&&i9 T (own++cn) (Ea v.2.2 sc) e' v.1)=true:=h2;simp only[SW,dQ]at h2;obtain⟨⟨⟨⟨⟨⟨k0,k1⟩,k2⟩,k3⟩,k4⟩,k5⟩,k6⟩:=h2;subst k0;have hI:=Bm it _ _ C k3;have hT:=λs2 H2 cs A fp=>Ev t' _ (C.comp k1 s2 H2 cs A fp) k5;have hE:=λs2 H2 cs A fp=>c9 e' _ (C.comp k1 s2 H2 cs A fp) k6;have mt:=(hT X.s₀ X.H₀ [] 0 []).2;have me:=(hE X.s₀ X.H₀ [] 0 []).m;have b:=Ff (i:=i) (g:=DL X.K g) (tt:=liftT X.K (wEo Δ t').2) (te:=lift X.K (wEx Δ e').1) own cn js hND hNi hxl hI.pi (λs2 H2 cs A fp=>Ar (C.comp k1 s2 H2 cs A fp) g _ k2) (λs2 H2 cs A fp=>(hT s2 H2 cs A fp).1) (λs2 H2 cs A fp=>(hE s2 H2 cs A fp).pe) C.calm (by rw[C.hs,C.hN];exact k1) hs1 (AH k4);refine v9 _ b λD σ H h=>?_;have:=F0 ge.m D σ H h;exact Es hI.m mt me σ H _ this
        | no=>exact λ_ _ _ _ _ _ h=>let ⟨_,_,_,_,_,z⟩:=h;z.elim
        | _=>exact absurd h2 nofun
       ·exact Vc (show false=true from h4)
mutual
theorem L1(C:Cok T Δ X N.length N sc)(hp:Xi (WB X.prog X.w) X.A X.env X.xe)(nx:∀ e s,¬ X.xe e s)(hk:sc.kind = .function):∀(s:Stm) (r:Stmt),RY T N sc s r=true->GoodS X r (wSt Δ s)
 | .asg t e,r,h=>by
   replace h:=c7 h;obtain⟨v,hv,h⟩:=h;replace h:=c7 h;obtain⟨rt,hrt,h⟩:=h;obtain⟨pos,rfl⟩:=Dy hv;simp only[SW]at h;obtain⟨⟨⟨h1,h2⟩,h3⟩,h4⟩:=h;rw[y9 hrt];exact⟨J1 C hk h1 h2 h3 h4,F1 (c9 e _ C h2).m⟩
 | .par i j a b,r,h=>by
   replace h:=c7 h;obtain⟨v,hv,h⟩:=h;replace h:=c7 h;obtain⟨rt,hrt,h⟩:=h;replace h:=c7 h;obtain⟨ts,hts,h⟩:=h;replace h:=c7 h;obtain⟨nn,hnn,h⟩:=h;replace h:=c7 h;obtain⟨vs,hvs,h⟩:=h;replace h:=c7 h;obtain⟨ab,hab,h⟩:=h;replace h:=c7 h;obtain⟨x,hx',h⟩:=h;replace h:=c7 h;obtain⟨y,hy',h⟩:=h;obtain⟨pos,rfl⟩:=Dy hv;simp only[SW,dQ,T6]at h;obtain⟨⟨⟨⟨⟨⟨⟨⟨⟨hx,hy⟩,hij⟩,hpar⟩,h1⟩,h2⟩,h3⟩,h4⟩,h5⟩,h6⟩:=h;obtain⟨j1,p1,e1⟩:=AX hts;obtain⟨j2,p2,e2⟩:=AX hvs;rw[y9 hrt,e1,DE hnn,e2,DE hab,Bn hx',Bn hy'];have ga:=c9 a _ C h1;have gb:=c9 b _ C h2;have hp2:=hpar;unfold Mw at hp2;simp only[SW,bQ]at hp2;have hke:X.env.scope.kind = .function:=by rw[C.hs];exact hk
   refine⟨v9 _ (OV (i:=i) (j:=j) C.calm (by rw[C.hN];exact C.nd) (by rw[C.hN];exact hx) (by rw[C.hN];exact hy) hij (by rw[C.hs];exact hp2.1.1.1) (by rw[C.hs];exact hp2.1.1.2) (t5 ga.pe (t5 gb.pe AV (g7 h4)) (g7 h3)) (Pw hke (by rw[C.hs];exact hpar) h3 h4 h5 h6) L0) (N7 ga.m gb.m),?_⟩;exact λD D' ρ S l h=>ga.m _ _ _ _ (λx S1 q=>gb.m _ _ _ _ (λy S2 q=>l.nx _ _ q) q) h
 | .put o i e,r,h=>by
   replace h:=c7 h;obtain⟨v,hv,h⟩:=h;replace h:=c7 h;obtain⟨rt,hrt,h⟩:=h;replace h:=c7 h;obtain⟨oi,hoi,h⟩:=h;obtain⟨pos,rfl⟩:=Dy hv;obtain⟨p2,e2⟩:=Dp hoi;simp only[SW]at h;rw[y9 hrt,e2];have go:=c9 o _ C h.1.1.1;have gi:=c9 i _ C h.1.1.2;have ge:=c9 e _ C h.1.2;refine⟨v9 _ (JN ge.pe (OT go.pe gi.pe Jb (GP h.2)) Pt Pv (Nz rfl)) (N9 go.m gi.m ge.m),?_⟩;exact λD D' ρ S l h=>ge.m _ _ _ _ (λv S1 q=>go.m _ _ _ _ (λx S2 q=>gi.m _ _ _ _ (λy S3 q=>CV (λS4 q=>l.nx _ _ q) q) q) q) h
 | .expr e,r,h=>by
   replace h:=c7 h;obtain⟨re,hre,h⟩:=h;obtain⟨pos,rfl⟩:=My hre;simp only[SW]at h;have ge:=c9 e _ C h.1
   have hs:Wn re none pos.line X.env=pure false:=by
    have:=h.2;unfold Wn;cases re<;>first | rfl | (unfold CT at this;cases this)
   refine⟨v9 _ (Lv ge.pe hs) ?_,λD D' ρ S l h=>ge.m _ _ _ _ (λx S1 q=>l.nx _ _ q) h⟩;rintro D σ H ⟨as,ρ,S,ok,en,h⟩;exact⟨as,ρ,S,ok,en,ge.m _ _ _ _ (λx S1 q as1 H1 v g1 ok1 rv=>q as1 H1 σ g1 ok1 (en.mono g1.pre (g1.ku ok))) h⟩
 | .iff t a b,r,h=>by
   replace h:=c7 h;obtain⟨v,hv,h⟩:=h;obtain⟨pos,rfl⟩:=Mz hv;simp only[SW]at h;have gt:=c9 t _ C h.1.1;have ga:=A6 C hp nx hk a _ h.1.2;have gb:=A6 C hp nx hk b _ h.2;exact⟨v9 _ (QS gt.pt ga.ps gb.ps) (Ps gt.mt ga.m gb.m),F3 gt.mt ga.m gb.m⟩
 | .loop g it b,r,h=>by
   replace h:=c7 h;obtain⟨v,hv,h⟩:=h;obtain⟨pos,rfl⟩:=N0 hv;simp only[SW,Ta]at h;obtain⟨⟨⟨⟨h1,h2⟩,h3⟩,h4⟩,h5⟩:=h;rw[h5];have gi:=Bm it _ _ C h2;have gb:=A6 C hp nx hk b _ h4;refine⟨v9 _ (OW hp C.calm gi.pi (Ar C g _ h1) gb.ps (AH h3)) (N5 gi.m gb.m),?_⟩;exact λD D' ρ S l h=>gi.m _ _ _ _ (λkeep xs S1 q=>Ay gb.m xs l _ _ q) h
 | .tri b,r,h=>by
   replace h:=c7 h;obtain⟨v,hv,h⟩:=h;obtain⟨pos,rfl⟩:=N1 hv;simp only[SW,Ta,T6]at h;obtain⟨⟨⟨h1,h2⟩,h3⟩,h4⟩:=h;have gb:=A6 C hp nx hk b _ h1;rw[h3,h4];cases hh:v.2.1 with
   | nil=>rw[hh]at h2;cases h2
   | cons h0 hs=>exact⟨MY nx gb.ps,gb.m⟩
 | .whl t b,r,h=>by
   replace h:=c7 h;obtain⟨v,hv,h⟩:=h;obtain⟨pos,rfl⟩:=N2 hv;simp only[SW,Ta]at h;rw[h.2];have gt:=c9 t _ C h.1.1;have gb:=A6 C hp nx hk b _ h.1.2;exact⟨v9 _ (JP hp gt.pt gb.ps) (N6 gt.mt gb.m),F2 gt.mt gb.m⟩
 | .ret e,r,h=>by
   replace h:=c7 h;obtain⟨o,ho,h⟩:=h;replace h:=c7 h;obtain⟨re,hre,h⟩:=h;obtain⟨pos,rfl⟩:=N3 ho;rw[hre];have ge:=c9 e _ C h;exact⟨v9 _ (OQ ge.pe) λD σ H ⟨as,ρ,S,ok,en,h⟩=>⟨as,ρ,S,ok,en,h⟩,λD D' ρ S l h=>ge.m _ _ _ _ l.rt h⟩
 | .no,r,h=>⟨λ_ _ _ _ _ _ h=>let ⟨_,_,_,_,_,z⟩:=h;z.elim,λ_ _ _ _ _ h=>h⟩
theorem A6(C:Cok T Δ X N.length N sc)(hp:Xi (WB X.prog X.w) X.A X.env X.xe)(nx:∀ e s,¬ X.xe e s)(hk:sc.kind = .function):∀(s:List Stm) (r:List Stmt),B7 T N sc s r=true->GoodSs X r (wSs Δ s)
 | [],r,h=>by
   rw[B7,Ta]at h;subst h;exact GO
 | s::ss,r,h=>by
   rw[B7]at h;replace h:=c7 h;obtain⟨x,hx,h⟩:=h;rw[SW]at h;rw[AB hx];have:=Ez (L1 C hp nx hk s x h.1) (A6 C hp nx hk ss _ h.2);rw[wSs];exact this
end
end
mutual
theorem c8{Δ:Nat->Sn}(hΔ:∀ f,MonoN (Δ f)):∀(e:Ex),Mono (wEx Δ e).1/\MonoT (wEx Δ e).2
 | .var i=>⟨.var,.tru .var⟩
 | .c x=>⟨.c,.tru .c⟩
 | .op o a b=>have m:Mono _ := .two (s:=sOp o) HJ (c8 hΔ a).1 (c8 hΔ b).1;⟨m,.tru m⟩
 | .neg a=>have m:Mono _ := .one CP (c8 hΔ a).1;⟨m,.tru m⟩
 | .cmp o a b=>have m:Mono _ := .two (s:=AW o) w4 (c8 hΔ a).1 (c8 hΔ b).1;⟨m,.bl m⟩
 | .chn o p a b c=>have m:=Ef (o:=o) (p:=p) (c8 hΔ a).1 (c8 hΔ b).1 (c8 hΔ c).1;⟨m,.bl m⟩
 | .and a b=>⟨.and (c8 hΔ a).1 (c8 hΔ b).1,.and (c8 hΔ a).2 (c8 hΔ b).2⟩
 | .or a b=>⟨.or (c8 hΔ a).1 (c8 hΔ b).1,.or (c8 hΔ a).2 (c8 hΔ b).2⟩
 | .not a=>⟨.not (c8 hΔ a).1,.not (c8 hΔ a).2⟩
 | .ife t a b=>⟨.ifE (c8 hΔ t).2 (c8 hΔ a).1 (c8 hΔ b).1,λ_ _ _ _ _ h=>h⟩
 | .tup es=>have m:Mono _ := .n .tup (AR hΔ es);⟨m,.tru m⟩
 | .lst es=>have m:Mono _ := .n .lst (AR hΔ es);⟨m,.tru m⟩
 | .ix a b=>have m:Mono _ := .two .ix (c8 hΔ a).1 (c8 hΔ b).1;⟨m,.tru m⟩
 | .slc a lo hi=>have m:Mono _:=(λρ S P P' i h=>(c8 hΔ a).1 _ _ _ _ (λx S1 h=>(j0 hΔ lo).1 _ _ _ _ (λl S2 h=>(j0 hΔ hi).1 _ _ _ _ (λk S3 h=>CQ i h) h) h) h:Mono (PY _ _ _));⟨m,.tru m⟩
 | .call f es=>have m:Mono _ := .n (hΔ f) (AR hΔ es);⟨m,.tru m⟩
 | .bi b es=>have m:Mono _ := .n (s:=sBi b) .bi (AR hΔ es);⟨m,.tru m⟩
 | .mt m' a es=>have m:Mono _:=Mono.mt (m:=m') (c8 hΔ a).1 (AR hΔ es);⟨m,.tru m⟩
 | .comp own cn js g it t e=>have m:Mono _:=Mono.comp (k:=own.length) (js:=js) (g:=g) (F4 hΔ it) (j0 hΔ t).2 (c8 hΔ e).1;⟨m,.tru m⟩
 | .tyc t=>⟨.c,.tru .c⟩
 | .min1 a=>have m:=DK (c8 hΔ a).1;⟨m,.tru m⟩
 | .max1 a=>have m:=DF (c8 hΔ a).1;⟨m,.tru m⟩
 | .dnewp=>⟨BD,.tru BD⟩
 | .setd d e v=>have m:=DH (c8 hΔ d).1 (c8 hΔ e).1 (c8 hΔ v).1;⟨m,.tru m⟩
 | .eqd n a b=>have m:Mono _ := .two (BO (n:=n)) (c8 hΔ a).1 (c8 hΔ b).1;⟨m,.bl m⟩
 | .mind a d=>have m:=DG (c8 hΔ a).1 (c8 hΔ d).1;⟨m,.tru m⟩
 | .no=>⟨λ_ _ _ _ _ h=>h,λ_ _ _ _ _ h=>h⟩
theorem AR{Δ:Nat->Sn}(hΔ:∀ f,MonoN (Δ f)):∀(es:Exs),MonoA (Dm Δ es)
 | .nil => .nil
 | .cons e es => .cons (c8 hΔ e).1 (AR hΔ es)
theorem j0{Δ:Nat->Sn}(hΔ:∀ f,MonoN (Δ f)):∀(o:Eo),MonoO (wEo Δ o).1/\MonoT (wEo Δ o).2
 | .no=>⟨.no,λ_ _ _ _ i q=>i _ _ q⟩
 | .yes e=>⟨.yes (c8 hΔ e).1,(c8 hΔ e).2⟩
theorem F4{Δ:Nat->Sn}(hΔ:∀ f,MonoN (Δ f)):∀(it:Itb),MonoI (Mg Δ it)
 | .seq e=>λρ S P P' i h=>(c8 hΔ e).1 _ _ _ _ (λx S1 ⟨xs,e,q⟩=>⟨xs,e,i _ _ _ q⟩) h
 | .rng1 a=>λρ S P P' i h=>(c8 hΔ a).1 _ _ _ _ (λx S1 ⟨j,e,z,q⟩=>⟨j,e,z,i _ _ _ q⟩) h
 | .rng2 a b=>λρ S P P' i h=>(c8 hΔ a).1 _ _ _ _ (λx S1 h=>(c8 hΔ b).1 _ _ _ _ (λy S2 ⟨l,j,e,e2,z,q⟩=>⟨l,j,e,e2,z,i _ _ _ q⟩) h) h
 | .enum e=>λρ S P P' i h=>(c8 hΔ e).1 _ _ _ _ (λx S1 ⟨xs,e,q⟩=>⟨xs,e,i _ _ _ q⟩) h
 | .zip i j=>λρ S P P' i h=>let ⟨x,y,xs,ys,a,b,c,d,e,f,q⟩:=h;⟨x,y,xs,ys,a,b,c,d,e,f,i _ _ _ q⟩
end
mutual
theorem NB{Δ:Nat->Sn}(hΔ:∀ f,MonoN (Δ f)):∀(s:Stm),MonoS (wSt Δ s)
 | .asg t e=>by exact F1 (c8 hΔ e).1
 | .par i j a b=>by exact λD D' ρ S l h=>(c8 hΔ a).1 _ _ _ _ (λx S1 q=>(c8 hΔ b).1 _ _ _ _ (λy S2 q=>l.nx _ _ q) q) h
 | .put o i e=>by exact λD D' ρ S l h=>(c8 hΔ e).1 _ _ _ _ (λv S1 q=>(c8 hΔ o).1 _ _ _ _ (λx S2 q=>(c8 hΔ i).1 _ _ _ _ (λy S3 q=>CV (λS4 q=>l.nx _ _ q) q) q) q) h
 | .expr e=>by exact λD D' ρ S l h=>(c8 hΔ e).1 _ _ _ _ (λx S1 q=>l.nx _ _ q) h
 | .iff t a b=>by exact F3 (c8 hΔ t).2 (i8 hΔ a) (i8 hΔ b)
 | .loop g it b=>by exact λD D' ρ S l h=>F4 hΔ it _ _ _ _ (λkeep xs S1 q=>Ay (i8 hΔ b) xs l _ _ q) h
 | .tri b=>by exact i8 hΔ b
 | .whl t b=>by exact F2 (c8 hΔ t).2 (i8 hΔ b)
 | .ret e=>by exact λD D' ρ S l h=>(c8 hΔ e).1 _ _ _ _ l.rt h
 | .no=>by exact λD D' ρ S l h=>h
theorem i8{Δ:Nat->Sn}(hΔ:∀ f,MonoN (Δ f)):∀(s:List Stm),MonoS (wSs Δ s)
 | []=>by exact λD D' ρ S l h=>l.nx _ _ h
 | s::ss=>by exact λD D' ρ S l h=>(NB hΔ s).go (D:={D with nx:=wSs Δ ss D}) h ⟨λρ' S' q=>(i8 hΔ ss) _ _ _ _ l q,l.rt,l.bk,l.ct⟩
end
theorem L5{P:List Vz->Prop}{n:Nat}(h:∀ a us,us.length=n->P (a::us)):∀ us:List Vz,us.length=n+1->P us
 | a::us,e=>h a us (Nat.succ.inj e)
theorem L6{P:List Vz->Prop}(h:∀ a,P [a]):∀ us:List Vz,us.length=1->P us:=L5 λa us e=>UW.mp e▸h a
theorem AY{P:List Vz->Prop}(h:∀ a b,P [a,b]):∀ us:List Vz,us.length=2->P us:=L5 λa=>L6 (P:=λus=>P (a::us)) (h a)
theorem BR{P:List Vz->Prop}(h:∀ a b c,P [a,b,c]):∀ us:List Vz,us.length=3->P us:=L5 λa=>AY (P:=λus=>P (a::us)) (h a)
theorem J2{P:List Vz->Prop}(h:∀ a b c d,P [a,b,c,d]):∀ us:List Vz,us.length=4->P us:=L5 λa=>BR (P:=λus=>P (a::us)) (h a)
theorem Px{P:List Vz->Prop}(h:∀ a b c d e,P [a,b,c,d,e]):∀ us:List Vz,us.length=5->P us:=L5 λa=>J2 (P:=λus=>P (a::us)) (h a)
structure Df where
 name:Str
 st:Stmt
 ps:List Str
 N:List Str
 body:List Stm
noncomputable def l7(Q:QE):EndsS:=⟨λ_ S'=>Q .non S',Q,λ_ _=>False,λ_ _=>False⟩
noncomputable def L7(n:Nat)(xs:List SV):EnvS:=xs.map some++Sj (n - xs.length) none
noncomputable def g6(Δ:Nat->Sn)(D:Df):Sn:=λxs S Q=>xs.length=D.ps.length/\wSs Δ D.body (l7 Q) (L7 D.N.length xs) S
noncomputable def W(prog:List Df):Nat->Nat->Sn
 | 0,_=>λ_ _ _=>False
 | d+1,f=>match prog[f]? with
   | some D=>g6 (W prog d) D
   | none=>λ_ _ _=>False
theorem L8{Δ:Nat->Sn}(hΔ:∀ f,MonoN (Δ f))(D:Df):MonoN (g6 Δ D):=λxs S P P' i h=>⟨h.1,(i8 hΔ D.body).go h.2 ⟨λ_ _ q=>i _ _ q,i,λ_ _ q=>q,λ_ _ q=>q⟩⟩
theorem CW{prog:List Df}:∀(d f:Nat),MonoN (W prog d f)
 | 0,f=>λ_ _ _ _ _ h=>h
 | d+1,f=>by
   unfold W;split
   ·exact L8 (CW d) _
   ·exact λ_ _ _ _ _ h=>h
noncomputable def fnB(N ps:List Str)(sc:WK):Bool:=decide (sc.kind = .function)&&!sc.isCoroutine&&!sc.isGenerator&&decide N.Nodup&&decide (N.take ps.length=ps)&&ps.all (loc sc)&&sc.names.all (λy=>!decide (y.2 = .free))
theorem Py{N ps:List Str}{sc:WK}(h:fnB N ps sc=true):FnScope N ps sc:=by
 unfold fnB at h;simp only[SW,dQ,T6,Sy,decide_eq_false_iff_not]at h;obtain⟨⟨⟨⟨⟨⟨h1,h2⟩,h3⟩,h4⟩,h5⟩,h6⟩,h7⟩:=h;refine⟨h1,h2,h3,h4,h5,λx hx=>?_,h7⟩;have:=h6 x hx;unfold loc at this;simpa using this
noncomputable def NC(T:List Str)(D:Df):Bool:=fnB D.N D.ps (defScope D.st)&&B7 T D.N (defScope D.st) D.body (defBody D.st)
structure Bl(mg:Str->Option Vz):Prop where
 bl:∀ b:BI,mg b.name=none
 rng:mg "range"=none
 enm:mg "enumerate"=none
 rvs:mg "reversed"=none
 zip:mg "zip"=none
 sm0:mg "sum"=none
 st0:mg "set"=none
 dc0:mg "dict"=none
 ty:∀ t:TyN,t ≠ .none->mg (Str.ofString t.nm)=none
section
variable{P:W8}{w:WC}{K:SU}{mg:Str->Option Vz}{base:Heap}
theorem J3{as:List W3}{H:Hp}{N:List Str}{vs:List V}{xs:List SV}(r:RlAll K as H vs xs):EnvOk K as H (L2.start N vs) (L7 N.length xs):=by
 unfold L2.start L7;rw[<-r.length];refine⟨by simp[r.length],λi x e=>?_⟩;by_cases hi:i<vs.length
 ·rw[Sv (by rw[SX,<-r.length];exact hi),Sq]at e;rw[Sv (by simpa using hi),Sq];cases hx:xs[i]? with
  | none=>rw[hx]at e;cases e
  | some y=>
    rw[hx]at e;have:y=x:=by simpa using e
    subst this;obtain⟨v,hv,rv⟩:=r.get hx;exact⟨v,by rw[hv];rfl,rv⟩
 ·rw[TR (by rw[SX,<-r.length];omega),U0]at e;split at e<;>cases e
theorem L9{T:List Str}{Δ:Nat->Sn}{D:Df}{f:W3}{fd:Wc}{k:Nat}(F:Fun K D.name D.name D.st f fd)(hc:NC T D=true)(B:Bl mg)(hcall:∀ f x,T[f]?=some x->∃ ps,Cal P w K mg base k x ps (spS K (Δ f)))(hΔ:∀ f,MonoN (Δ f)):FnOk P w K mg base CX0 (k+1) f fd D.ps (spS K (g6 Δ D)):=by
 unfold NC at hc;rw[SW]at hc;have S:=Py hc.1;refine F.ok S (λvs H Q E h=>?_) (λcdv A outer s H vs Q E hr h=>?_)
 ·obtain⟨as,S,xs,ok,r,hl,_⟩:=h;rw[r.length];exact hl
 ·have C:Cok T Δ (FX CX0 P w K mg base D.N D.name (defScope D.st) f cdv A outer s H E).nox D.N.length D.N (defScope D.st):={
   hN:=rfl,hs:=rfl,nd:=S.nd,calm:=rfl,fn:=λ_ _ _ _ _=>rfl
   un:=by have:=hr.un;show(A.deeper _).units+102<cLine;omega
   bl:=B.bl,rng:=B.rng,enm:=B.enm,rvs:=B.rvs,zip:=B.zip,sm0:=B.sm0,st0:=B.st0,dc0:=B.dc0,ty:=B.ty,gd:=hr.gd
   call:=λg x hx=>let ⟨ps,c⟩:=hcall g x hx;⟨k,ps,c,hr⟩
   mono:=hΔ}
  refine⟨_,(A6 C PassesOwn.never (λ_ _ h=>h) S.kind D.body _ hc.2).ps,?_⟩;obtain⟨as,S,xs,ok,r,hl,h⟩:=h;refine⟨as,_,S,ok,J3 r,(i8 hΔ D.body).go h ⟨λρ' S' q as' H' σ' g ok' en'=>q as' H' _ g ok' (rl_non.mpr rfl),λx S' q=>q,λ_ _ q=>q.elim,λ_ _ q=>q.elim⟩⟩
structure PIn(K:SU)(mg:Str->Option Vz)(D:Df):Prop where
 ex:∃ f fd,Fun K D.name D.name D.st f fd/\mg D.name=some (.ref f)/\PySem.W.keepIn K (.ref f)=true/\Binds K fd D.ps []
theorem HY{prog:List Df}(hc:prog.all (NC (prog.map (·.name)))=true)(B:Bl mg)(hin:∀ D∈prog,PIn K mg D):∀(d f:Nat) (D:Df),prog[f]?=some D->Cal P w K mg base d D.name D.ps (spS K (W prog d f))
 | 0,f,D,hf=>by
   obtain⟨fa,fd,F,hm,hk,hb⟩:=(hin D (Sh hf)).ex;refine⟨fa,fd,⟨λvs H Q E h=>?_,λA outer s H args us vs Q E hr he hbn hv h=>?_⟩,hm,hk,hb⟩
   ·obtain⟨_,_,_,_,_,z⟩:=h;exact z.elim
   ·obtain⟨_,_,_,_,_,z⟩:=h;exact z.elim
 | d+1,f,D,hf=>by
   obtain⟨fa,fd,F,hm,hk,hb⟩:=(hin D (Sh hf)).ex;have h1:=Sy.mp hc D (Sh hf)
   have:=L9 (Δ:=W prog d) (P:=P) (w:=w) (base:=base) (k:=d) F h1 B (λg x hx=>by
    rw[Sq]at hx;cases hg:prog[g]? with
    | none=>rw[hg]at hx;cases hx
    | some D'=>
      rw[hg]at hx;have:D'.name=x:=by simpa using hx
      subst this;exact⟨D'.ps,HY hc B hin d g D' hg⟩) (CW d)
   have e:W prog (d+1) f=g6 (W prog d) D:=by rw[W,hf]
   rw[e];exact⟨fa,fd,this,hm,hk,hb⟩
theorem Pz{prog:List Df}{d f:Nat}{H:Hp}{a:W3}{ns:List Int}(main:W prog d f [.ro (ns.map SV.int)] [] λx _=>x = .bl true)(hO:M9 H)(hS:SqL K H a (ns.map V.int)):spS K (W prog d f) [.ref a] H (λv _=>v = .bl true) λ_ _ _=>False:=by
 have hz:FzL K H a (ns.map V.int):=by
  rcases hS with(h | ⟨o,h⟩) | h
  ·rcases hO a with z | ⟨o,xs,z⟩<;>rw[h]at z<;>cases z
  ·exact .inl ⟨o,h⟩
  ·exact .inr h
 refine⟨[],[],_,⟨rfl,V6,λk o a e=>by simp at e⟩,.cons (rl_ro.mpr ⟨a,_,rfl,hz,RlAll.ints⟩) .nil,CW d f _ _ _ _ (λx S' e as' H' v g ok r=>?_) main⟩;subst e;exact rl_bl.mp r
end
theorem e8{k:Nat}{S:Sto}{xs:List SV}(h:S[k]?=some (.lst xs)):seqS (.loc k) S=some xs:=by simp only[seqS,h]
theorem CY{k:Nat}{S:Sto}{xs:List SV}(h:S[k]?=some (.lst xs)):Bu (.loc k) S=none:=by simp only[Bu,h]
theorem As{k:Nat}{S:Sto}{xs:List SV}(h:S[k]?=some (.lst xs)):tyS (.loc k) S=some .list:=by simp only[tyS,h]
theorem ifT{b:Bool}{A B:Prop}(h:b=true)(a:A):if b=true then A else B:=by rw[iP h];exact a
theorem ifF{b:Bool}{A B:Prop}(h:b=false)(a:B):if b=true then A else B:=by rw[iG (by rw[h];decide)];exact a
theorem ifD{c A B:Prop}[Decidable c](h1:c->A)(h2:¬ c->B):if decide c=true then A else B:=by
 by_cases h:c
 ·rw[iP (decide_eq_true h)];exact h1 h
 ·rw[iG (by simpa using h)];exact h2 h
theorem ifB{b:Bool}{A B:Prop}(h1:b=true->A)(h2:b=false->B):if b=true then A else B:=by
 cases b with
 | true=>rw[iP rfl];exact h1 rfl
 | false=>rw[iG (by decide)];exact h2 rfl
theorem AZ{S:Sto}{k:Nat}{o u:SO}(h:S[k]?=some o):(S.set k u)[k]?=some u:=TQ ((gM h).1)
theorem A7{S:Sto}{k j:Nat}{u:SO}(h:k≠j):(S.set k u)[j]?=S[j]?:=Tz h
theorem e7{S:Sto}{o:SO}:(S++[o])[S.length]?=some o:=TF
theorem e6{S:Sto}{o u:SO}{k:Nat}(h:S[k]?=some u):(S++[o])[k]?=some u:=by
 rw[Sv ((gM h).1)];exact h
theorem HZ{S:Sto}{o:SO}{k:Nat}(h:S[k]?=some o):k<S.length:=(gM h).1
structure TapeS(S:Sto)(t:Nat):Prop where
 ex:∃ a b:Int,S[t]?=some (.lst [.int a,.int b])/\0<=a/\0<=b/\b<2147483647
structure On(t:Nat)(S S':Sto):Prop where
 len:S.length<=S'.length
 keep:∀ k o,k≠t->S[k]?=some o->S'[k]?=some o
theorem On.refl(t:Nat)(S:Sto):On t S S:=⟨Sd _,λ_ _ _ h=>h⟩
theorem On.trans{t:Nat}{S S' S'':Sto}(a:On t S S')(b:On t S' S''):On t S S'':=⟨TH a.len b.len,λk o n h=>b.keep k o n (a.keep k o n h)⟩
theorem On.push{t:Nat}{S S':Sto}{o:SO}(a:On t S S'):On t S (S'++[o]):=⟨by rw[SY];have:=a.len;omega,λk u n h=>e6 (a.keep k u n h)⟩
theorem On.tape{t:Nat}{S S':Sto}{o:SO}(a:On t S S'):On t S (S'.set t o):=⟨by rw[Ti];exact a.len,λk u n h=>by rw[A7 (Ne.symm n)];exact a.keep k u n h⟩
theorem On.new{t k:Nat}{S S':Sto}{o:SO}(a:On t S S')(h:S.length<=k):On t S (S'.set k o):=⟨by rw[Ti];exact a.len,λj u n hj=>by
 rw[A7 (λz=>by have:=HZ hj;omega)];exact a.keep j u n hj⟩
theorem TapeS.push{S:Sto}{t:Nat}{o:SO}(h:TapeS S t):TapeS (S++[o]) t:=let ⟨a,b,e,z⟩:=h.ex;⟨a,b,e6 e,z⟩
theorem TapeS.other{S:Sto}{t k:Nat}{o:SO}(h:TapeS S t)(n:k≠t):TapeS (S.set k o) t:=let ⟨a,b,e,z⟩:=h.ex;⟨a,b,by rw[A7 n];exact e,z⟩
theorem TapeS.lt{S:Sto}{t:Nat}(h:TapeS S t):t<S.length:=let ⟨_,_,e,_⟩:=h.ex;HZ e
theorem p9{keep:Sto->Prop}{g:Tg}{b:WS}{D:EndsS}(mb:MonoS b)(I:Nat->EnvS->Sto->Prop){xs:List SV}{ρ:EnvS}{S:Sto}(h0:I 0 ρ S)(hk:∀ i ρ S,I i ρ S->keep S)
 (hs:∀ i x ρ S,xs[i]?=some x->I i ρ S->wTg g x ρ λρ2=>b {D with nx:=I (i+1),ct:=I (i+1),bk:=D.nx} ρ2 S) (hd:∀ ρ S,I xs.length ρ S->D.nx ρ S):p8 keep g b D xs ρ S:=by
 have go:∀(ys:List SV) (i:Nat) (ρ:EnvS) (S:Sto),xs.drop i=ys->i<=xs.length->I i ρ S->p8 keep g b D ys ρ S:=by
  intro ys
  induction ys with
  | nil=>
    intro i ρ S e hi h
    have:i=xs.length:=by
     have:=congrArg Uo e;rw[UI,U4]at this;omega
    subst this;unfold p8;exact⟨hk _ _ _ h,hd _ _ h⟩
  | cons y ys ih=>
    intro i ρ S e hi h
    have hy:xs[i]?=some y:=by
     rw[<-Vg,e];rfl
    have hlt:=(gM hy).1;have e2:xs.drop (i+1)=ys:=by rw[<-Vj,e];rfl
    unfold p8;refine⟨hk _ _ _ h,u9 g (λρ2 q=>?_) (hs i y ρ S hy h)⟩;exact mb.go (D:={D with nx:=I (i+1),ct:=I (i+1),bk:=D.nx}) q ⟨λρ' S' z=>ih (i+1) ρ' S' e2 hlt z,λ_ _ z=>z,λ_ _ z=>z,λρ' S' z=>ih (i+1) ρ' S' e2 hlt z⟩
 exact go xs 0 ρ S rfl (UR _) h0
theorem BS{keep:Sto->Prop}{g:Tg}{b:WS}{D:EndsS}(mb:MonoS b)(I:Nat->EnvS->Sto->Prop){xs:List SV}{ρ:EnvS}{S:Sto}(h0:I 0 ρ S)(hk:∀ i ρ S,I i ρ S->keep S)
 (hs:∀ i x ρ S (E:EndsS),(∀ ρ S,I (i+1) ρ S->E.nx ρ S)->(∀ y S,D.rt y S->E.rt y S)->xs[i]?=some x->I i ρ S->wTg g x ρ λρ2=>b E ρ2 S) (hd:∀ ρ S,I xs.length ρ S->D.nx ρ S):p8 keep g b D xs ρ S:=
 p9 mb I h0 hk (λi x ρ S hx hI=>hs i x ρ S {D with nx:=I (i+1),ct:=I (i+1),bk:=D.nx} (λ_ _ h=>h) (λ_ _ h=>h) hx hI) hd
theorem h8{keep:Sto->Prop}{g:Tg}{t:WT}{e:WE}{ρ:EnvS}{Q:List SV->Sto->Prop}(mt:MonoT t)(me:Mono e)(I:Nat->List SV->Sto->Prop){xs:List SV}{S:Sto}(h0:I 0 [] S)(hk:∀ i ys S,I i ys S->keep S)
 (hs:∀ i x ys S,xs[i]?=some x->I i ys S->wTg g x ρ λρ2=>t ρ2 S λb S1=>if b=true then e ρ2 S1 λy S2=>ys.length<big/\I (i+1) (ys++[y]) S2 else I (i+1) ys S1) (hd:∀ ys S,I xs.length ys S->Q ys S):m7 keep g t e ρ Q xs [] S:=by
 have go:∀(zs:List SV) (i:Nat) (ys:List SV) (S:Sto),xs.drop i=zs->i<=xs.length->I i ys S->m7 keep g t e ρ Q zs ys S:=by
  intro zs
  induction zs with
  | nil=>
    intro i ys S e' hi h
    have:i=xs.length:=by
     have:=congrArg Uo e';rw[UI,U4]at this;omega
    subst this;unfold m7;exact⟨hk _ _ _ h,hd _ _ h⟩
  | cons y zs ih=>
    intro i ys S e' hi h;have hy:xs[i]?=some y:=by rw[<-Vg,e'];rfl
    have hlt:=(gM hy).1;have e2:xs.drop (i+1)=zs:=by rw[<-Vj,e'];rfl
    unfold m7;refine⟨hk _ _ _ h,u9 g (λρ2 q=>mt _ _ _ _ (λb S1 q=>k9 (λq=>me _ _ _ _ (λv S2 q=>⟨q.1,ih (i+1) _ S2 e2 hlt q.2⟩) q) (λq=>ih (i+1) _ S1 e2 hlt q) q) q) (hs i y ys S hy h)⟩
 exact go xs 0 [] S rfl (UR _) h0
theorem j4{lo hi:Int}{i:Nat}{x:SV}(h:(B4 lo hi)[i]?=some x):x = .int (lo+i)/\lo+i<hi:=by
 unfold B4 at h
 have hi':i<(hi - lo).toNat:=by
  have:=(gM h).1;simpa using this
 rw[Sq,Tr hi']at h;exact⟨(oj h).symm,by omega⟩
theorem j5{lo hi:Int}:(B4 lo hi).length=(hi - lo).toNat:=by unfold B4;simp
noncomputable def pairS(e:Nat×Nat):SV := .tup [.int e.1,.int e.2]
noncomputable def O0:List Stm:=[(.asg (.nm 2) (.c (.int 0))),(.iff (.cmp .Lt (.var 1) (.bi .len (.cons (.var 0) .nil))) [(.asg (.nm 2) (.ix (.var 0) (.var 1)))] []),(.asg (.nm 3) (.op .Mult (.bi .abs (.cons (.var 2) .nil)) (.bi .int (.cons (.cmp .GtE (.bi .abs (.cons (.var 2) .nil)) (.op .Pow (.c (.int 10)) (.c (.int 18)))) .nil)))),(.ret (.lst (.cons (.var 3) (.cons (.op .Mod (.op .Mult (.op .Mod (.op .Add (.op .Add (.var 2) (.op .Mult (.c (.int 7919)) (.var 1))) (.c (.int 1))) (.c (.int 2147483647))) (.c (.int 48271))) (.c (.int 2147483647))) .nil))))]
noncomputable def O6:List Stm:=[(.iff (.cmp .Gt (.ix (.var 0) (.c (.int 0))) (.c (.int 0))) [(.asg (.nm 2) (.op .Mod (.ix (.var 0) (.c (.int 0))) (.var 1))),(.put (.var 0) (.c (.int 0)) (.op .FloorDiv (.ix (.var 0) (.c (.int 0))) (.var 1))),(.ret (.var 2))] []),(.put (.var 0) (.c (.int 1)) (.op .Mod (.op .Add (.op .Mult (.ix (.var 0) (.c (.int 1))) (.c (.int 48271))) (.c (.int 12345))) (.c (.int 2147483647)))),(.asg (.nm 3) (.op .Mod (.op .Mult (.ix (.var 0) (.c (.int 1))) (.op .Add (.op .Mod (.ix (.var 0) (.c (.int 1))) (.c (.int 1009))) (.c (.int 3)))) (.c (.int 2147483629)))),(.ret (.op .Mod (.op .Mod (.op .Mult (.var 3) (.op .Add (.op .Mod (.var 3) (.c (.int 997))) (.c (.int 5)))) (.c (.int 998244353))) (.var 1)))]
noncomputable def v6(s:Sn):Prop:=∀{t:Nat} {m:Int} {S:Sto} {Q:QE},TapeS S t->0<m->m<1073741824->(∀(r:Int) (S':Sto),0<=r->r<m->TapeS S' t->On t S S'->S'.length=S.length->Q (.int r) S')->s [.loc t,.int m] S Q
noncomputable def LA(s:Sn):Prop:=∀{ns:List Int} {k:Nat} {S:Sto} {Q:QE},ns.length<=63->k<=1000->(∀ a b:Int,0<=a->0<=b->b<2147483647->Q (.loc S.length) (S++[.lst [.int a,.int b]]))->s [.ro (ns.map SV.int),.int k] S Q
theorem b01(b:Bool):-(2 ^ 64)<(if b=true then (1:Int) else 0)/\(if b=true then (1:Int) else 0)<2 ^ 64:=by cases b<;>decide
theorem b00(b:Bool):0<=(if b=true then (1:Int) else 0):=by cases b<;>decide
theorem ND{Δ:Nat->Sn}{D:Df}(hb:D.body=O6)(hN:D.N.length=4)(hp:D.ps.length=2):v6 (g6 Δ D):=by
 intro t m S Q T h0 h1 q;obtain⟨a,b,hS,ha,hb0,hb1⟩:=T.ex;unfold g6;rw[hb,hN];refine⟨hp.symm,?_⟩;have go:∀ r a' b':Int,0<=r->r<m->0<=a'->0<=b'->b'<2147483647->Q (.int r) (S.set t (.lst [.int a',.int b'])):=λr a' b' r0 r1 a0 b0 b1=>q r _ r0 r1 ⟨a',b',AZ hS,a0,b0,b1⟩ (On.refl t S).tape (by rw[Ti]);refine⟨_,rfl,_,_,e8 hS,rfl,_,rfl,ifD (λh=>?_) (λh=>?_)⟩
 ·refine⟨_,rfl,_,_,e8 hS,rfl,_,rfl,h0,?_⟩;refine⟨_,rfl,_,_,e8 hS,rfl,_,rfl,⟨h0,h1⟩,_,rfl,_,_,hS,rfl,_,rfl,?_⟩;exact go _ _ _ (UM _ (by omega)) (U9 _ h0) (Int.ediv_nonneg ha (by omega)) hb0 hb1
 ·refine⟨_,rfl,_,_,e8 hS,rfl,.inr (by decide),show(0:Int)<2147483647 by decide,_,rfl,_,_,hS,rfl,?_⟩;have e0:0<=(b * 48271+12345) % 2147483647:=UM _ (by decide);have e1:(b * 48271+12345) % 2147483647<2147483647:=U9 _ (by decide);have hS1:(S.set t (.lst [.int a,.int ((b * 48271+12345) % 2147483647)]))[t]?=some (.lst [.int a,.int ((b * 48271+12345) % 2147483647)]):=AZ hS;refine⟨_,rfl,_,_,e8 hS1,rfl,_,rfl,_,_,e8 hS1,rfl,show(0:Int)<1009 by decide,.inl ⟨by omega,by omega⟩,show(0:Int)<2147483629 by decide,?_⟩;have f0:0<=((b * 48271+12345) % 2147483647 * ((b * 48271+12345) % 2147483647 % 1009+3)) % 2147483629:=UM _ (by decide);have f1:((b * 48271+12345) % 2147483647 * ((b * 48271+12345) % 2147483647 % 1009+3)) % 2147483629<2147483629:=U9 _ (by decide);refine⟨_,rfl,_,rfl,show(0:Int)<997 by decide,.inl ⟨by omega,by omega⟩,show(0:Int)<998244353 by decide,_,rfl,h0,?_⟩;exact go _ _ _ (UM _ (by omega)) (U9 _ h0) ha e0 e1
theorem NE{Δ:Nat->Sn}{D:Df}(hb:D.body=O0)(hN:D.N.length=4)(hp:D.ps.length=2):LA (g6 Δ D):=by
 intro ns k S Q hl hk q;unfold g6;rw[hb,hN];refine⟨hp.symm,?_⟩
 have fin:∀ c:Int,wSs Δ [(.asg (.nm 3) (.op .Mult (.bi .abs (.cons (.var 2) .nil)) (.bi .int (.cons (.cmp .GtE (.bi .abs (.cons (.var 2) .nil)) (.op .Pow (.c (.int 10)) (.c (.int 18)))) .nil)))),(.ret (.lst (.cons (.var 3) (.cons (.op .Mod (.op .Mult (.op .Mod (.op .Add (.op .Add (.var 2) (.op .Mult (.c (.int 7919)) (.var 1))) (.c (.int 1))) (.c (.int 2147483647))) (.c (.int 48271))) (.c (.int 2147483647))) .nil))))] (l7 Q) [some (.ro (ns.map SV.int)),some (.int k),some (.int c),none] S:=λc=>by
  refine⟨_,rfl,_,rfl,⟨by decide,by decide,by decide⟩,.inr (b01 _),?_⟩;refine⟨_,rfl,_,rfl,_,rfl,.inl ⟨by decide,by decide⟩,show(0:Int)<2147483647 by decide,.inr ⟨by decide,by decide⟩,show(0:Int)<2147483647 by decide,by show 2<=big;decide,?_⟩;refine q _ _ (Int.mul_nonneg (by split<;>omega) (b00 _)) (UM _ (by decide)) (U9 _ (by decide))
 refine⟨_,rfl,_,rfl,_,rfl,_,rfl,ifD (λh=>?_) (λh=>fin 0)⟩
 have hk':k<ns.length:=by
  have:((ns.map SV.int).length:Int)=ns.length:=by rw[SX]
  omega
 refine⟨_,rfl,_,rfl,_,_,rfl,j3 (v := .int ns[k]) (by rw[Sq,Se hk'];rfl),?_⟩;exact fin _
noncomputable def q1(kd:Nat):Stm:=(.asg (.nm 2) (.call kd (.cons (.var 0) (.cons (.c (.int 8)) .nil))))
noncomputable def q2(kd:Nat):Stm:=(.asg (.nm 3) (.ix (.lst (.cons (.call kd (.cons (.var 0) (.cons (.c (.int 7)) .nil))) (.cons (.op .Add (.c (.int 7)) (.call kd (.cons (.var 0) (.cons (.c (.int 6)) .nil)))) .nil))) (.bi .int (.cons (.var 1) .nil))))
noncomputable def q3(kd:Nat):Stm:=(.asg (.nm 4) (.lst .nil))
noncomputable def q4(kd:Nat):Stm:=(.iff (.and (.cmp .Lt (.var 2) (.c (.int 3))) (.cmp .Gt (.var 3) (.c (.int 1)))) [(.loop (.nm 5) (.rng1 (.call kd (.cons (.var 0) (.cons (.op .Add (.op .Mult (.c (.int 2)) (.var 3)) (.c (.int 1))) .nil)))) [(.asg (.nm 6) (.call kd (.cons (.var 0) (.cons (.var 3) .nil)))),(.expr (.mt .append (.var 4) (.cons (.tup (.cons (.var 6) (.cons (.op .Mod (.op .Add (.op .Add (.var 6) (.c (.int 1))) (.call kd (.cons (.var 0) (.cons (.op .Sub (.var 3) (.c (.int 1))) .nil)))) (.var 3)) .nil))) .nil)))])] [])
noncomputable def q5(kd:Nat):Stm:=(.iff (.and (.cmp .Eq (.var 2) (.c (.int 3))) (.cmp .Gt (.var 3) (.c (.int 2)))) [(.asg (.nm 4) (.op .Add (.comp ["_law_k"] ["_law_many"] [3] (.nm 0) (.rng1 (.var 3)) .no (.tup (.cons (.var 0) (.cons (.op .Mod (.op .Add (.var 0) (.c (.int 1))) (.var 1)) .nil)))) (.lst (.cons (.tup (.cons (.c (.int 0)) (.cons (.op .Add (.call kd (.cons (.var 0) (.cons (.op .Sub (.var 3) (.c (.int 1))) .nil))) (.c (.int 1))) .nil))) .nil))))] [])
noncomputable def q6(kd:Nat):Stm:=(.iff (.and (.cmp .Eq (.var 2) (.c (.int 4))) (.cmp .Gt (.var 3) (.c (.int 1)))) [(.asg (.nm 4) (.comp ["_law_k"] [] [] (.nm 0) (.rng2 (.c (.int 1)) (.var 3)) .no (.tup (.cons (.c (.int 0)) (.cons (.var 0) .nil)))))] [])
noncomputable def q7(kd:Nat):Stm:=(.iff (.cmp .Eq (.var 2) (.c (.int 5))) [(.asg (.nm 3) (.bi .min (.cons (.var 3) (.cons (.op .Add (.c (.int 5)) (.bi .int (.cons (.var 1) .nil))) .nil)))),(.loop (.nm 7) (.rng1 (.var 3)) [(.expr (.mt .extend (.var 4) (.cons (.comp ["_law_j"] ["_law_k"] [7] (.nm 0) (.rng1 (.var 7)) .no (.tup (.cons (.var 0) (.cons (.var 1) .nil)))) .nil)))])] [])
noncomputable def q8(kd:Nat):Stm:=(.iff (.cmp .Eq (.var 2) (.c (.int 6))) [(.asg (.nm 8) (.op .Add (.c (.int 1)) (.op .FloorDiv (.var 3) (.c (.int 2))))),(.loop (.nm 7) (.rng1 (.var 8)) [(.expr (.mt .extend (.var 4) (.cons (.comp ["_law_j"] ["_law_tape_here","_law_k"] [0,7] (.nm 0) (.rng2 (.var 8) (.var 3)) (.yes (.cmp .Gt (.call kd (.cons (.var 1) (.cons (.c (.int 3)) .nil))) (.c (.int 0)))) (.tup (.cons (.var 2) (.cons (.var 0) .nil)))) .nil)))])] [])
noncomputable def q9(kd:Nat):Stm:=(.iff (.cmp .Eq (.var 2) (.c (.int 7))) [(.asg (.nm 3) (.op .Add (.c (.int 3)) (.op .FloorDiv (.var 3) (.c (.int 3))))),(.loop (.nm 7) (.rng1 (.c (.int 3))) [(.expr (.mt .extend (.var 4) (.cons (.op .Mult (.lst (.cons (.tup (.cons (.var 7) (.cons (.op .Mod (.op .Add (.var 7) (.c (.int 1))) (.c (.int 3))) .nil))) .nil)) (.op .Add (.c (.int 1)) (.call kd (.cons (.var 0) (.cons (.c (.int 3)) .nil))))) .nil)))])] [])
noncomputable def q10(kd:Nat):Stm:=(.ret (.tup (.cons (.var 3) (.cons (.var 4) .nil))))
noncomputable def q7l(kd:Nat):Stm:=(.loop (.nm 7) (.rng1 (.var 3)) [(.expr (.mt .extend (.var 4) (.cons (.comp ["_law_j"] ["_law_k"] [7] (.nm 0) (.rng1 (.var 7)) .no (.tup (.cons (.var 0) (.cons (.var 1) .nil)))) .nil)))])
noncomputable def q8l(kd:Nat):Stm:=(.loop (.nm 7) (.rng1 (.var 8)) [(.expr (.mt .extend (.var 4) (.cons (.comp ["_law_j"] ["_law_tape_here","_law_k"] [0,7] (.nm 0) (.rng2 (.var 8) (.var 3)) (.yes (.cmp .Gt (.call kd (.cons (.var 1) (.cons (.c (.int 3)) .nil))) (.c (.int 0)))) (.tup (.cons (.var 2) (.cons (.var 0) .nil)))) .nil)))])
noncomputable def q9l(kd:Nat):Stm:=(.loop (.nm 7) (.rng1 (.c (.int 3))) [(.expr (.mt .extend (.var 4) (.cons (.op .Mult (.lst (.cons (.tup (.cons (.var 7) (.cons (.op .Mod (.op .Add (.var 7) (.c (.int 1))) (.c (.int 3))) .nil))) .nil)) (.op .Add (.c (.int 1)) (.call kd (.cons (.var 0) (.cons (.c (.int 3)) .nil))))) .nil)))])
noncomputable def LB(kd:Nat):List Stm:=[q1 kd,q2 kd,q3 kd,q4 kd,q5 kd,q6 kd,q7 kd,q8 kd,q9 kd,q10 kd]
structure Prs(n:Nat)(es:EE):Prop where
 en:∀ e∈es,e.1<n/\e.2<n/\e.1≠e.2
 len:es.length<=36
 few:n<=12
noncomputable def Dz(s:Sn):Prop:=∀{t:Nat} {g:Bool} {S:Sto} {Q:QE},TapeS S t->(∀(n:Nat) (es:EE) (l:Nat) (S':Sto),Prs n es->S'[l]?=some (.lst (es.map pairS))->S.length<=l->TapeS S' t->On t S S'->Q (.tup [.int n,.loc l]) S')->s [.loc t,.bl g] S Q
structure Ah(t:Nat)(S0 S:Sto)(l:Nat)(es:EE):Prop where
 tape:TapeS S t
 on:On t S0 S
 at':S[l]?=some (.lst (es.map pairS))
 new:S0.length<=l
 t0:t<S0.length
theorem Ah.ne{t l:Nat}{S0 S:Sto}{es:EE}(h:Ah t S0 S l es):l≠t:=by have:=h.new;have:=h.t0;omega
theorem Ah.draw{t l:Nat}{S0 S S':Sto}{es:EE}(h:Ah t S0 S l es)(T:TapeS S' t)(O:On t S S'):Ah t S0 S' l es:=⟨T,h.on.trans O,O.keep _ _ h.ne h.at',h.new,h.t0⟩
theorem Ah.push{t l:Nat}{S0 S:Sto}{es:EE}{o:SO}(h:Ah t S0 S l es):Ah t S0 (S++[o]) l es:=⟨h.tape.push,h.on.push,e6 h.at',h.new,h.t0⟩
theorem Ah.put{t l:Nat}{S0 S:Sto}{es fs:EE}(h:Ah t S0 S l es):Ah t S0 (S.set l (.lst (fs.map pairS))) l fs:=⟨h.tape.other h.ne,h.on.new h.new,AZ h.at',h.new,h.t0⟩
theorem F5(es:EE)(e:Nat×Nat):es.map pairS++[.tup [.int e.1,.int e.2]]=(es++[e]).map pairS:=by rw[Sx];rfl
section
variable{Δ:Nat->Sn}{kd:Nat}
theorem SJ(hΔ:∀ f,MonoN (Δ f))(hd:v6 (Δ kd)){t l n:Nat}{way:Int}{S0 S:Sto}{D:EndsS}{g:SV}{o5 o6 o7 o8:Option SV}(A:Ah t S0 S l [])(hn:n<=12)
 (q:∀(es:EE) (S':Sto) (o5 o6:Option SV),Prs n es->Ah t S0 S' l es->D.nx [some (.loc t),some g,some (.int way),some (.int n),some (.loc l),o5,o6,o7,o8] S'):
 wSt Δ (q4 kd) D [some (.loc t),some g,some (.int way),some (.int n),some (.loc l),o5,o6,o7,o8] S:=by
 have stay:=q [] S o5 o6 ⟨(λ_ h=>nomatch h),by simp,hn⟩ A;refine⟨_,rfl,_,rfl,ifD (λh1=>?_) (λh1=>ifF rfl stay)⟩;refine⟨_,rfl,_,rfl,ifD (λh2=>?_) (λh2=>stay)⟩;have h2:1<n:=by omega
 refine⟨_,rfl,_,rfl,.inl ⟨by decide,by decide⟩,hd A.tape (by omega) (by omega) λr S1 r0 r1 T1 O1 _=>⟨r,rfl,⟨by omega,by omega⟩,?_⟩⟩;have A1:=A.draw T1 O1
 refine p9 (i8 hΔ _) (λi ρ S2=>∃(es:EE) (o5 o6:Option SV),ρ=[some (.loc t),some g,some (.int way),some (.int n),some (.loc l),o5,o6,o7,o8]/\Ah t S0 S2 l es/\(∀ e∈es,e.1<n/\e.2<n/\e.1≠e.2)/\es.length=i)
  ⟨[],o5,o6,rfl,A1,(λ_ h=>nomatch h),rfl⟩ (λ_ _ _ _=>trivial) ?_ ?_
 ·rintro i x ρ S2 hx ⟨es,p5,p6,rfl,A2,he,hl⟩;obtain⟨rfl,hi⟩:=j4 hx;refine⟨_,rfl,_,rfl,hd A2.tape (by omega) (by omega) λa S3 a0 a1 T3 O3 _=>?_⟩;have A3:=A2.draw T3 O3;refine⟨_,rfl,⟨l,_,rfl,A3.at'⟩,?_⟩;refine⟨_,rfl,_,rfl,_,rfl,_,rfl,hd A3.tape (by omega) (by omega) λb S4 b0 b1 T4 O4 _=>?_⟩;have A4:=A3.draw T4 O4;refine⟨_,rfl,show(0:Int)<n by omega,by show 2<=big;decide,⟨_,A4.at',by rw[SX];show es.length<100000;omega,?_⟩⟩;have e1:((a.toNat:Nat):Int)=a:=UF a0;have m0:0<=(a+1+b) % n:=UM _ (by omega);have m1:(a+1+b) % n<n:=U9 _ (by omega);have e2:(((a+1+b) % n).toNat:Int)=(a+1+b) % n:=UF m0
  have hne:a≠(a+1+b) % n:=by
   by_cases hb:a+1+b<n
   ·rw[VW (by omega) hb];omega
   ·rw[<-Int.sub_emod_right,VW (by omega) (by omega)];omega
  have ea:=F5 es (a.toNat,((a+1+b) % n).toNat);simp only[e1,e2]at ea;refine⟨es++[(a.toNat,((a+1+b) % n).toNat)],_,_,rfl,?_,λe h=>?_,by rw[SY,hl];rfl⟩
  ·have:=A4.put (fs:=es++[(a.toNat,((a+1+b) % n).toNat)]);rw[<-ea]at this;exact this
  ·rcases Sw.mp h with h | h
   ·exact he e h
   ·rw[Sg.mp h];exact⟨by show a.toNat<n;omega,by show((a+1+b) % n).toNat<n;omega,by show a.toNat≠((a+1+b) % n).toNat;omega⟩
 ·rintro ρ S2 ⟨es,p5,p6,rfl,A2,he,hl⟩;rw[j5]at hl;exact q es S2 p5 p6 ⟨he,by omega,hn⟩ A2
noncomputable abbrev PQ(t:Nat)(g:SV)(way:Int)(S0:Sto)(D:EndsS):Prop:=∀(n:Nat) (es:EE) (l:Nat) (S':Sto) (o5 o6 o7 o8:Option SV),Prs n es->Ah t S0 S' l es->D.nx [some (.loc t),some g,some (.int way),some (.int n),some (.loc l),o5,o6,o7,o8] S'
theorem E1{n:Nat}(h:n<=12):Prs n []:=⟨(λ_ h=>nomatch h),by simp,h⟩
theorem SK(hΔ:∀ f,MonoN (Δ f))(hd:v6 (Δ kd)){t l n:Nat}{S0 S:Sto}{D:EndsS}{g:SV}{o5 o6 o7 o8:Option SV}(A:Ah t S0 S l [])(hn:n<=12)(q:PQ t g 3 S0 D):
 wSt Δ (q5 kd) D [some (.loc t),some g,some (.int 3),some (.int n),some (.loc l),o5,o6,o7,o8] S:=by
 have stay:=q n [] l S o5 o6 o7 o8 (E1 hn) A;refine⟨_,rfl,_,rfl,ifT rfl ?_⟩;refine⟨_,rfl,_,rfl,ifD (λh2=>?_) (λh2=>stay)⟩;have h2:2<n:=by omega
 refine⟨_,rfl,n,rfl,⟨by omega,by omega⟩,?_⟩;refine h8 (j0 hΔ _).2 (c8 hΔ _).1 (λi ys S2=>S2=S/\ys=((Sf i).map λj=>(j,(j+1) % n)).map pairS) ⟨rfl,rfl⟩ (λ_ _ _ _=>trivial) ?_ ?_
 ·rintro i x ys S2 hx ⟨rfl,rfl⟩;obtain⟨rfl,hi⟩:=j4 hx;refine⟨_,rfl,_,rfl,_,rfl,show(0:Int)<n by omega,by show 2<=big;decide,by simp;show i<100000;omega,rfl,?_⟩;rw[Tj,Sx,Sx];simp[pairS]
 ·rintro ys S2 ⟨rfl,rfl⟩;rw[j5];refine⟨_,rfl,_,rfl,hd (A.push (o := .lst (((Sf ((n:Int) - 0).toNat).map λj=>(j,(j+1) % n)).map pairS))).tape (by omega) (by omega) λr S3 r0 r1 T3 O3 L3=>?_⟩;have A3:=(A.push (o := .lst (((Sf ((n:Int) - 0).toNat).map λj=>(j,(j+1) % n)).map pairS))).draw T3 O3;refine⟨by show 2<=big;decide,by show 1<=big;decide,?_⟩;have hS:=A.t0;have hon:=A.on.len;have at1:S3[S2.length]?=some (.lst (((Sf ((n:Int) - 0).toNat).map λj=>(j,(j+1) % n)).map pairS)):=O3.keep _ _ (by omega) e7;refine⟨_,_,e6 at1,e7,by simp;show _<=100000;omega,?_⟩;have en:((n:Int) - 0).toNat=n:=by omega
  rw[en];have e1:((r.toNat:Nat):Int)=r:=UF r0;have ea:=F5 ((Sf n).map λj=>(j,(j+1) % n)) (0,r.toNat+1);have e2:((r.toNat+1:Nat):Int)=r+1:=by omega
  simp only[e2]at ea;refine q n ((Sf n).map (λj=>(j,(j+1) % n))++[(0,r.toNat+1)]) _ _ _ _ _ _ ⟨λe h=>?_,by simp;omega,hn⟩ ⟨A3.tape.push.push,A3.on.push.push,?_,?_,A.t0⟩
  ·rcases Sw.mp h with h | h
   ·obtain⟨j,hj,rfl⟩:=TJ.mp h;have hj:=TC.mp hj;refine⟨hj,Vk _ (by omega),?_⟩;by_cases hz:j+1<n
    ·show j≠(j+1) % n;rw[Nat.mod_eq_of_lt hz];omega
    ·have:j+1=n:=by omega
     show j≠(j+1) % n;rw[this,Nat.mod_self];omega
   ·rw[Sg.mp h];exact⟨by show 0<n;omega,by show r.toNat+1<n;omega,by show 0≠r.toNat+1;omega⟩
  ·rw[<-ea];exact e7
  ·rw[SY];have:=A3.on.len;omega
theorem SL(hΔ:∀ f,MonoN (Δ f)){t l n:Nat}{S0 S:Sto}{D:EndsS}{g:SV}{o5 o6 o7 o8:Option SV}(A:Ah t S0 S l [])(hn:n<=12)(q:PQ t g 4 S0 D):
 wSt Δ (q6 kd) D [some (.loc t),some g,some (.int 4),some (.int n),some (.loc l),o5,o6,o7,o8] S:=by
 have stay:=q n [] l S o5 o6 o7 o8 (E1 hn) A;refine⟨_,rfl,_,rfl,ifT rfl ?_⟩;refine⟨_,rfl,_,rfl,ifD (λh2=>?_) (λh2=>stay)⟩;have h2:1<n:=by omega
 refine⟨_,rfl,1,n,rfl,rfl,⟨by decide,by decide,by omega,by omega⟩,?_⟩;refine h8 (j0 hΔ _).2 (c8 hΔ _).1 (λi ys S2=>S2=S/\ys=((Sf i).map λj=>(0,j+1)).map pairS) ⟨rfl,rfl⟩ (λ_ _ _ _=>trivial) ?_ ?_
 ·rintro i x ys S2 hx ⟨rfl,rfl⟩;obtain⟨rfl,hi⟩:=j4 hx;refine⟨_,rfl,by show 2<=big;decide,by simp;show i<100000;omega,rfl,?_⟩;rw[Tj,Sx,Sx];simp[pairS,Int.add_comm]
 ·rintro ys S2 ⟨rfl,rfl⟩;rw[j5];refine q n _ _ _ _ _ _ _ ⟨λe h=>?_,by simp;omega,hn⟩ ⟨A.tape.push,A.on.push,e7,A.on.len,A.t0⟩;obtain⟨j,hj,rfl⟩:=TJ.mp h;have hj:=TC.mp hj;exact⟨by show 0<n;omega,by show j+1<n;omega,by show 0≠j+1;omega⟩
theorem Ah.ext{t l j:Nat}{S0 S:Sto}{es fs:EE}(h:Ah t S0 S l es)(hj:S[j]?=some (.lst (fs.map pairS))):Ah t S0 (S.set l (.lst (es.map pairS++fs.map pairS))) l (es++fs):=by
 rw[<-Sx];exact h.put
theorem SM(hΔ:∀ f,MonoN (Δ f)){t l n:Nat}{b:Bool}{S0 S:Sto}{D:EndsS}{o5 o6 o7 o8:Option SV}(A:Ah t S0 S l [])(hn:n<=12)(q:PQ t (.bl b) 5 S0 D):
 wSt Δ (q7 kd) D [some (.loc t),some (.bl b),some (.int 5),some (.int n),some (.loc l),o5,o6,o7,o8] S:=by
 refine⟨_,rfl,_,rfl,ifT rfl ?_⟩
 obtain⟨m,em,hm⟩:∃ m:Nat,(if (5+(if b=true then (1:Int) else 0))<n then (5+(if b=true then (1:Int) else 0)) else (n:Int))=m/\m<=6:=by
  cases b
  ·by_cases h:(5:Int)<n
   ·exact⟨5,by simp[h],by omega⟩
   ·exact⟨n,by simp[h],by omega⟩
  ·by_cases h:(6:Int)<n
   ·exact⟨6,by simp[h],by omega⟩
   ·exact⟨n,by simp[h],by omega⟩
 suffices key:∀ z:Int,z=m->wSs Δ [q7l kd] D [some (.loc t),some (.bl b),some (.int 5),some (.int z),some (.loc l),o5,o6,o7,o8] S from ⟨_,rfl,_,rfl,key _ em⟩
 rintro _ rfl;refine⟨_,rfl,m,rfl,⟨by omega,by omega⟩,?_⟩
 refine p9 (i8 hΔ _) (λi ρ S2=>∃(es:EE) (o7:Option SV),ρ=[some (.loc t),some (.bl b),some (.int 5),some (.int m),some (.loc l),o5,o6,o7,o8]/\Ah t S0 S2 l es/\(∀ e∈es,e.1<e.2/\e.2<i)/\es.length<=i * 6)
  ⟨[],o7,rfl,A,(λ_ h=>nomatch h),by simp⟩ (λ_ _ _ _=>trivial) ?_ ?_
 ·rintro i x ρ S2 hx ⟨es,p7,rfl,A2,he,hl⟩;obtain⟨rfl,hi⟩:=j4 hx;refine⟨_,rfl,⟨l,_,rfl,A2.at'⟩,_,rfl,0+(i:Int),rfl,⟨by omega,by omega⟩,?_⟩;refine h8 (j0 hΔ _).2 (c8 hΔ _).1 (λj ys S3=>S3=S2/\ys=((Sf j).map λj=>(j,i)).map pairS) ⟨rfl,rfl⟩ (λ_ _ _ _=>trivial) ?_ ?_
  ·rintro j x ys S3 hx ⟨rfl,rfl⟩;obtain⟨rfl,hj⟩:=j4 hx;refine⟨_,rfl,_,rfl,by show 2<=big;decide,by simp;show j<100000;omega,rfl,?_⟩;rw[Tj,Sx,Sx];simp[pairS]
  ·rintro ys S3 ⟨rfl,rfl⟩;rw[j5];have en:(0+(i:Int) - 0).toNat=i:=by omega
   rw[en];have A3:=A2.push (o := .lst (((Sf i).map λj=>(j,i)).map pairS));refine⟨_,_,A3.at',e7,by simp;show _<=100000;omega,?_⟩;refine⟨es++(Sf i).map (λj=>(j,i)),_,rfl,A3.ext (j:=S3.length) e7,λe h=>?_,by simp;omega⟩;rcases Sw.mp h with h | h
   ·have:=he e h;omega
   ·obtain⟨j,hj,rfl⟩:=TJ.mp h;have hj:=TC.mp hj;exact⟨hj,by show i<i+1;omega⟩
 ·rintro ρ S2 ⟨es,p7,rfl,A2,he,hl⟩;rw[j5]at he hl;refine q m es l S2 _ _ _ _ ⟨λe h=>?_,by omega,by omega⟩ A2;have:=he e h;omega
theorem SN(hΔ:∀ f,MonoN (Δ f))(hd:v6 (Δ kd)){t l n:Nat}{S0 S:Sto}{D:EndsS}{g:SV}{o5 o6 o7 o8:Option SV}(A:Ah t S0 S l [])(hn:n<=12)(q:PQ t g 6 S0 D):
 wSt Δ (q8 kd) D [some (.loc t),some g,some (.int 6),some (.int n),some (.loc l),o5,o6,o7,o8] S:=by
 refine⟨_,rfl,_,rfl,ifT rfl ?_⟩;obtain⟨s,es',hs⟩:∃ s:Nat,1+(n:Int) / 2=s/\s=1+n / 2:=⟨1+n / 2,by omega,rfl⟩
 suffices key:∀ z:Int,z=s->wSs Δ [q8l kd] D [some (.loc t),some g,some (.int 6),some (.int n),some (.loc l),o5,o6,o7,some (.int z)] S from ⟨_,rfl,⟨by decide,by decide⟩,key _ es'⟩
 rintro _ rfl;refine⟨_,rfl,s,rfl,⟨by omega,by omega⟩,?_⟩
 refine p9 (i8 hΔ _) (λi ρ S2=>∃(es:EE) (o7:Option SV),ρ=[some (.loc t),some g,some (.int 6),some (.int n),some (.loc l),o5,o6,o7,some (.int s)]/\Ah t S0 S2 l es/\(∀ e∈es,e.1<i/\s<=e.2/\e.2<n)/\es.length<=i * (n - s))
  ⟨[],o7,rfl,A,(λ_ h=>nomatch h),by simp⟩ (λ_ _ _ _=>trivial) ?_ ?_
 ·rintro i x ρ S2 hx ⟨es,p7,rfl,A2,he,hl⟩;obtain⟨rfl,hi⟩:=j4 hx;refine⟨_,rfl,⟨l,_,rfl,A2.at'⟩,_,rfl,_,rfl,s,n,rfl,rfl,⟨by omega,by omega,by omega,by omega⟩,?_⟩;refine h8 (j0 hΔ _).2 (c8 hΔ _).1 (λj ys S3=>Ah t S0 S3 l es/\∃ fs:EE,ys=fs.map pairS/\(∀ e∈fs,e.1=i/\s<=e.2/\e.2<n)/\fs.length<=j) ⟨A2,[],rfl,(λ_ h=>nomatch h),Sd _⟩ (λ_ _ _ _=>trivial) ?_ ?_
  ·rintro j x ys S3 hx ⟨A3,fs,rfl,hf,fl⟩;obtain⟨rfl,hj⟩:=j4 hx;refine⟨_,rfl,hd A3.tape (by decide) (by decide) λr S4 r0 r1 T4 O4 _=>⟨_,rfl,?_⟩⟩;have A4:=A3.draw T4 O4;refine ifD (λ_=>?_) (λ_=>⟨A4,fs,rfl,hf,by omega⟩);refine⟨_,rfl,_,rfl,by show 2<=big;decide,by rw[SX];show _<100000;omega,A4,fs++[(i,s+j)],?_,λe h=>?_,by simp;omega⟩
   ·rw[Sx];simp[pairS]
   ·rcases Sw.mp h with h | h
    ·exact hf e h
    ·rw[Sg.mp h];exact⟨rfl,by show s<=s+j;omega,by show s+j<n;omega⟩
  ·rintro ys S3 ⟨A3,fs,rfl,hf,fl⟩;rw[j5]at fl;have A4:=A3.push (o := .lst (fs.map pairS));have hx6:i * (n - s)<=6 * 12:=Vl (by omega) (by omega);refine⟨_,_,A4.at',e7,by simp;show _<=100000;omega,?_⟩;refine⟨es++fs,_,rfl,A4.ext (j:=S3.length) e7,λe h=>?_,?_⟩
   ·rcases Sw.mp h with h | h
    ·have:=he e h;exact⟨by omega,this.2⟩
    ·have:=hf e h;exact⟨by omega,this.2⟩
   ·rw[SY,VQ];omega
 ·rintro ρ S2 ⟨es,p7,rfl,A2,he,hl⟩;rw[j5]at he hl;have e0:((s:Int) - 0).toNat=s:=by omega
  rw[e0]at he hl;have h35:s * (n - s)<=7 * 5:=Vl (by omega) (by omega);refine q n es l S2 _ _ _ _ ⟨λe h=>?_,by omega,hn⟩ A2;have:=he e h;omega
theorem SQ(hΔ:∀ f,MonoN (Δ f))(hd:v6 (Δ kd)){t l n:Nat}{S0 S:Sto}{D:EndsS}{g:SV}{o5 o6 o7 o8:Option SV}(A:Ah t S0 S l [])(hn:n<=12)(q:PQ t g 7 S0 D):
 wSt Δ (q9 kd) D [some (.loc t),some g,some (.int 7),some (.int n),some (.loc l),o5,o6,o7,o8] S:=by
 refine⟨_,rfl,_,rfl,ifT rfl ?_⟩;obtain⟨m,em,hm⟩:∃ m:Nat,3+(n:Int) / 3=m/\m=3+n / 3:=⟨3+n / 3,by omega,rfl⟩
 suffices key:∀ z:Int,z=m->wSs Δ [q9l kd] D [some (.loc t),some g,some (.int 7),some (.int z),some (.loc l),o5,o6,o7,o8] S from ⟨_,rfl,⟨by decide,by decide⟩,key _ em⟩
 rintro _ rfl;refine⟨3,rfl,⟨by decide,by decide⟩,?_⟩
 refine p9 (i8 hΔ _) (λi ρ S2=>∃(es:EE) (o7:Option SV),ρ=[some (.loc t),some g,some (.int 7),some (.int m),some (.loc l),o5,o6,o7,o8]/\Ah t S0 S2 l es/\(∀ e∈es,e.1<3/\e.2<3/\e.1≠e.2)/\es.length<=i * 3)
  ⟨[],o7,rfl,A,(λ_ h=>nomatch h),by simp⟩ (λ_ _ _ _=>trivial) ?_ ?_
 ·rintro i x ρ S2 hx ⟨es,p7,rfl,A2,he,hl⟩;obtain⟨rfl,hi⟩:=j4 hx;refine⟨_,rfl,⟨l,_,rfl,A2.at'⟩,_,rfl,_,rfl,show(0:Int)<3 by decide,by show 2<=big;decide,by show 1<=big;decide,?_⟩;have A3:=A2.push (o := .lst [.tup [.int (0+(i:Int)),.int ((0+(i:Int)+1) % 3)]]);refine⟨_,rfl,hd A3.tape (by decide) (by decide) λr S4 r0 r1 T4 O4 L4=>?_⟩;have A4:=A3.draw T4 O4;have ht:=A2.t0;have hlen:=A2.on.len;have at1:S4[S2.length]?=some (.lst [.tup [.int (0+(i:Int)),.int ((0+(i:Int)+1) % 3)]]):=O4.keep _ _ (by omega) e7;refine⟨_,at1,⟨by omega,by omega⟩,by simp;show _<=100000;omega,?_⟩
  have e1:(Sj (1+r).toNat [SV.tup [.int (0+(i:Int)),.int ((0+(i:Int)+1) % 3)]]).flatten=(Sj (1+r).toNat (i,(i+1) % 3)).map pairS:=by
   induction (1+r).toNat with
   | zero=>rfl
   | succ k ih=>rw[TX,U1,ih,TX];simp[pairS]
  rw[e1];have A5:=A4.push (o := .lst ((Sj (1+r).toNat (i,(i+1) % 3)).map pairS));refine⟨_,_,A5.at',e7,by simp;show _<=100000;omega,?_⟩;refine⟨es++Sj (1+r).toNat (i,(i+1) % 3),_,rfl,A5.ext (j:=S4.length) e7,λe h=>?_,by simp;omega⟩;rcases Sw.mp h with h | h
  ·exact he e h
  ·rw[List.eq_of_mem_replicate h];exact⟨by show i<3;omega,by show(i+1) % 3<3;omega,by show i≠(i+1) % 3;omega⟩
 ·rintro ρ S2 ⟨es,p7,rfl,A2,he,hl⟩;rw[j5]at hl;refine q m es l S2 _ _ _ _ ⟨λe h=>?_,by omega,by omega⟩ A2;have:=he e h;omega
theorem RZ{t l:Nat}{way n:Int}{S:Sto}{D:EndsS}{g:SV}{o5 o6 o7 o8:Option SV}(h:¬ way<3)(q:D.nx [some (.loc t),some g,some (.int way),some (.int n),some (.loc l),o5,o6,o7,o8] S):wSt Δ (q4 kd) D [some (.loc t),some g,some (.int way),some (.int n),some (.loc l),o5,o6,o7,o8] S:=⟨_,rfl,_,rfl,ifD (λz=>absurd z h) (λ_=>ifF rfl q)⟩
theorem F6{t l:Nat}{way n:Int}{S:Sto}{D:EndsS}{g:SV}{o5 o6 o7 o8:Option SV}(h:¬ way=3)(q:D.nx [some (.loc t),some g,some (.int way),some (.int n),some (.loc l),o5,o6,o7,o8] S):wSt Δ (q5 kd) D [some (.loc t),some g,some (.int way),some (.int n),some (.loc l),o5,o6,o7,o8] S:=⟨_,rfl,_,rfl,ifD (λz=>absurd z h) (λ_=>ifF rfl q)⟩
theorem F7{t l:Nat}{way n:Int}{S:Sto}{D:EndsS}{g:SV}{o5 o6 o7 o8:Option SV}(h:¬ way=4)(q:D.nx [some (.loc t),some g,some (.int way),some (.int n),some (.loc l),o5,o6,o7,o8] S):wSt Δ (q6 kd) D [some (.loc t),some g,some (.int way),some (.int n),some (.loc l),o5,o6,o7,o8] S:=⟨_,rfl,_,rfl,ifD (λz=>absurd z h) (λ_=>ifF rfl q)⟩
theorem F8{t l:Nat}{way n:Int}{S:Sto}{D:EndsS}{g:SV}{o5 o6 o7 o8:Option SV}(h:¬ way=5)(q:D.nx [some (.loc t),some g,some (.int way),some (.int n),some (.loc l),o5,o6,o7,o8] S):wSt Δ (q7 kd) D [some (.loc t),some g,some (.int way),some (.int n),some (.loc l),o5,o6,o7,o8] S:=⟨_,rfl,_,rfl,ifD (λz=>absurd z h) (λ_=>q)⟩
theorem F9{t l:Nat}{way n:Int}{S:Sto}{D:EndsS}{g:SV}{o5 o6 o7 o8:Option SV}(h:¬ way=6)(q:D.nx [some (.loc t),some g,some (.int way),some (.int n),some (.loc l),o5,o6,o7,o8] S):wSt Δ (q8 kd) D [some (.loc t),some g,some (.int way),some (.int n),some (.loc l),o5,o6,o7,o8] S:=⟨_,rfl,_,rfl,ifD (λz=>absurd z h) (λ_=>q)⟩
theorem FA{t l:Nat}{way n:Int}{S:Sto}{D:EndsS}{g:SV}{o5 o6 o7 o8:Option SV}(h:¬ way=7)(q:D.nx [some (.loc t),some g,some (.int way),some (.int n),some (.loc l),o5,o6,o7,o8] S):wSt Δ (q9 kd) D [some (.loc t),some g,some (.int way),some (.int n),some (.loc l),o5,o6,o7,o8] S:=⟨_,rfl,_,rfl,ifD (λz=>absurd z h) (λ_=>q)⟩
theorem NF(hΔ:∀ f,MonoN (Δ f))(hd:v6 (Δ kd)){t l n:Nat}{b:Bool}{w:Int}{S0 S:Sto}{Q:QE}(w0:0<=w)(w1:w<8)(A:Ah t S0 S l [])(hn:n<=12)
 (q:∀(n:Nat) (es:EE) (l:Nat) (S':Sto),Prs n es->Ah t S0 S' l es->Q (.tup [.int n,.loc l]) S'):
 wSs Δ [q4 kd,q5 kd,q6 kd,q7 kd,q8 kd,q9 kd,q10 kd] (l7 Q) [some (.loc t),some (.bl b),some (.int w),some (.int n),some (.loc l),none,none,none,none] S:=by
 have fin:∀(n:Nat) (es:EE) (l:Nat) (S':Sto) (o5 o6 o7 o8:Option SV),Prs n es->Ah t S0 S' l es->wSs Δ [q10 kd] (l7 Q) [some (.loc t),some (.bl b),some (.int w),some (.int n),some (.loc l),o5,o6,o7,o8] S':=λn es l S' o5 o6 o7 o8 P A'=>⟨_,rfl,_,rfl,by show 2<=big;decide,q n es l S' P A'⟩
 have nil:=E1 hn;by_cases h:w<3
 ·exact SJ hΔ hd A hn λes S' o5 o6 P A'=>F6 (by omega) (F7 (kd:=kd) (by omega) (F8 (kd:=kd) (by omega) (F9 (by omega) (FA (by omega) (fin n es l S' _ _ _ _ P A')))))
 refine RZ h ?_;have:w=3\/w=4\/w=5\/w=6\/w=7:=by omega
 rcases this with rfl | rfl | rfl | rfl | rfl
 ·exact SK hΔ hd A hn λn es l S' o5 o6 o7 o8 P A'=>F7 (kd:=kd) (by omega) (F8 (kd:=kd) (by omega) (F9 (by omega) (FA (by omega) (fin n es l S' _ _ _ _ P A'))))
 ·exact F6 (by omega) (SL (kd:=kd) hΔ A hn λn es l S' o5 o6 o7 o8 P A'=>F8 (kd:=kd) (by omega) (F9 (by omega) (FA (by omega) (fin n es l S' _ _ _ _ P A'))))
 ·exact F6 (by omega) (F7 (kd:=kd) (by omega) (SM (kd:=kd) hΔ A hn λn es l S' o5 o6 o7 o8 P A'=>F9 (by omega) (FA (by omega) (fin n es l S' _ _ _ _ P A'))))
 ·exact F6 (by omega) (F7 (kd:=kd) (by omega) (F8 (kd:=kd) (by omega) (SN hΔ hd A hn λn es l S' o5 o6 o7 o8 P A'=>FA (by omega) (fin n es l S' _ _ _ _ P A'))))
 ·exact F6 (by omega) (F7 (kd:=kd) (by omega) (F8 (kd:=kd) (by omega) (F9 (by omega) (SQ hΔ hd A hn λn es l S' o5 o6 o7 o8 P A'=>fin n es l S' _ _ _ _ P A'))))
theorem LC(hΔ:∀ f,MonoN (Δ f))(hd:v6 (Δ kd)){D:Df}(hb:D.body=LB kd)(hN:D.N.length=9)(hp:D.ps.length=2):Dz (g6 Δ D):=by
 intro t g S Q T q;unfold g6;rw[hb,hN];refine⟨hp.symm,?_⟩;have t0:=T.lt;refine⟨_,rfl,hd T (by decide) (by decide) λw S1 w0 w1 T1 O1 _=>?_⟩;refine⟨_,rfl,hd T1 (by decide) (by decide) λr1 S2 a0 a1 T2 O2 _=>⟨_,rfl,hd T2 (by decide) (by decide) λr2 S3 b0 b1 T3 O3 _=>⟨by show 2<=big;decide,_,rfl,_,(if g=true then .int (7+r2) else .int r1),e8 e7,?_⟩⟩⟩;have O:=((O1.trans O2).trans O3).push (o := .lst [.int r1,.int (7+r2)])
 have key:∀(z:Int) (n:Nat),z=n->n<=12->wSs Δ [q3 kd,q4 kd,q5 kd,q6 kd,q7 kd,q8 kd,q9 kd,q10 kd] (l7 Q) [some (.loc t),some (.bl g),some (.int w),some (.int z),none,none,none,none,none] (S3++[SO.lst [.int r1,.int (7+r2)]]):=by
  rintro _ n rfl hn;refine⟨by show 0<=big;decide,?_⟩;have A:Ah t S ((S3++[SO.lst [.int r1,.int (7+r2)]])++[SO.lst []]) (S3++[SO.lst [.int r1,.int (7+r2)]]).length []:=⟨T3.push.push,O.push,e7,O.len,t0⟩
  have r:=NF (b:=g) hΔ hd w0 w1 A hn (Q:=Q) λn es l S' P A=>q n es l S' P A.at' A.new A.tape A.on;exact r
 cases g with
 | false=>exact⟨rfl,key r1 r1.toNat (by omega) (by omega)⟩
 | true=>exact⟨rfl,key (7+r2) (7+r2).toNat (by omega) (by omega)⟩
end
noncomputable def u1(kd kp:Nat):Stm:=(.asg (.tup (.cons (.nm 2) (.cons (.nm 3) .nil))) (.call kp (.cons (.var 0) (.cons (.var 1) .nil))))
noncomputable def u2(kd kp:Nat):Stm:=(.iff (.cmp .Eq (.var 3) (.lst .nil)) [(.asg (.tup (.cons (.nm 2) (.cons (.nm 3) .nil))) (.call kp (.cons (.var 0) (.cons (.var 1) .nil))))] [])
noncomputable def u3(kd kp:Nat):Stm:=(.iff (.and (.cmp .NotEq (.var 3) (.lst .nil)) (.cmp .Eq (.call kd (.cons (.var 0) (.cons (.c (.int 4)) .nil))) (.c (.int 0)))) [(.asg (.nm 3) (.op .Add (.var 3) (.comp ["_law_turn"] ["_law_pairs","_law_tape_here"] [3,0] (.nm 0) (.rng1 (.op .Add (.c (.int 1)) (.call kd (.cons (.var 0) (.cons (.c (.int 3)) .nil))))) .no (.ix (.var 1) (.call kd (.cons (.var 2) (.cons (.bi .len (.cons (.var 1) .nil)) .nil)))))))] [])
noncomputable def u4(kd kp:Nat):Stm:=(.asg (.nm 4) (.lst .nil))
noncomputable def u5(kd kp:Nat):Stm:=(.loop (.tup (.cons (.nm 5) (.cons (.nm 6) .nil))) (.seq (.var 3)) [(.expr (.mt .insert (.var 4) (.cons (.call kd (.cons (.var 0) (.cons (.op .Add (.bi .len (.cons (.var 4) .nil)) (.c (.int 1))) .nil))) (.cons (.tup (.cons (.bi .min (.cons (.var 5) (.cons (.var 6) .nil))) (.cons (.bi .max (.cons (.var 5) (.cons (.var 6) .nil))) .nil))) .nil))))])
noncomputable def u6(kd kp:Nat):Stm:=(.ret (.tup (.cons (.var 2) (.cons (.bi .tuple (.cons (.var 4) .nil)) .nil))))
noncomputable def Ra(kd kp:Nat):List Stm:=[u1 kd kp,u2 kd kp,u3 kd kp,u4 kd kp,u5 kd kp,u6 kd kp]
noncomputable def i6(n:Nat)(es:EE):SV := .tup [.int n,.tup (es.map pairS)]
structure Web(n:Nat)(es:EE):Prop where
 en:∀ e∈es,e.1<e.2/\e.2<n
 len:es.length<=39
 few:n<=12
noncomputable def O7(s:Sn):Prop:=∀{t:Nat} {g:Bool} {S:Sto} {Q:QE},TapeS S t->(∀(n:Nat) (es:EE) (S':Sto),Web n es->TapeS S' t->On t S S'->Q (i6 n es) S')->s [.loc t,.bl g] S Q
theorem CZ{xs:List SV}:CI xs []=xs.isEmpty:=by cases xs<;>rfl
section
variable{Δ:Nat->Sn}{kd kp:Nat}
theorem Ca(hΔ:∀ f,MonoN (Δ f))(hd:v6 (Δ kd)){t n l:Nat}{g:SV}{S0 S:Sto}{es:EE}{Q:QE}{o4 o5 o6:Option SV}(he:∀ e∈es,e.1<n/\e.2<n/\e.1≠e.2)(hl:es.length<=39)(hn:n<=12)(A:Ah t S0 S l es)
 (q:∀(es:EE) (S':Sto),Web n es->TapeS S' t->On t S0 S'->Q (i6 n es) S'):wSs Δ [u4 kd kp,u5 kd kp,u6 kd kp] (l7 Q) [some (.loc t),some g,some (.int n),some (.loc l),o4,o5,o6] S:=by
 refine⟨by show 0<=big;decide,?_⟩;have hlt:=HZ A.at';have htl:=A.tape.lt;refine⟨_,rfl,_,e8 A.push.at',?_⟩
 refine p9 (i8 hΔ _) (λi ρ S2=>∃(fs:EE) (o5 o6:Option SV),ρ=[some (.loc t),some g,some (.int n),some (.loc l),some (.loc S.length),o5,o6]/\Ah t S0 S2 S.length fs/\S2[l]?=some (.lst (es.map pairS))/\(∀ e∈fs,e.1<e.2/\e.2<n)/\fs.length=i)
  ⟨[],o5,o6,rfl,⟨A.tape.push,A.on.push,e7,A.on.len,A.t0⟩,A.push.at',(λ_ h=>nomatch h),rfl⟩ (λi ρ S2 h=>?_) ?_ ?_
 ·obtain⟨fs,_,_,_,_,h2,_⟩:=h;exact h2.trans A.push.at'.symm
 ·rintro i x ρ S2 hx ⟨fs,p5,p6,rfl,A2,h2,hf,fl⟩;rw[Sq]at hx;cases hei:es[i]? with
  | none=>rw[hei]at hx;cases hx
  | some e=>
    rw[hei]at hx;have hx:pairS e=x:=oj hx;subst hx;have hil:=(gM hei).1;have hee:=he e (Sh hei);refine⟨_,rfl,⟨_,_,rfl,A2.at'⟩,_,rfl,_,rfl,_,e8 A2.at',hd A2.tape (by omega) (by rw[SX];omega) λr S3 r0 r1 T3 O3 _=>?_⟩;have A3:=A2.draw T3 O3;rw[SX]at r1;refine⟨_,rfl,_,rfl,_,rfl,_,rfl,by show 2<=big;decide,?_⟩;refine⟨_,A3.at',⟨r0,by rw[SX];omega⟩,by rw[SX];show _<100000;omega,?_⟩
    have key:∀(a b:Nat) (z1 z2:Int),z1=a->z2=b->a<b->b<n->∃(fs':EE) (o5 o6:Option SV),([some (.loc t),some g,some (.int n),some (.loc l),some (.loc S.length),some (.int e.1),some (.int e.2)]:EnvS)=[some (.loc t),some g,some (.int n),some (.loc l),some (.loc S.length),o5,o6]/\Ah t S0 (S3.set S.length (.lst ((fs.map pairS).take r.toNat ++ .tup [.int z1,.int z2]::(fs.map pairS).drop r.toNat))) S.length fs'/\(S3.set S.length (.lst ((fs.map pairS).take r.toNat ++ .tup [.int z1,.int z2]::(fs.map pairS).drop r.toNat)))[l]?=some (.lst (es.map pairS))/\(∀ e∈fs',e.1<e.2/\e.2<n)/\fs'.length=i+1:=by
     rintro a b _ _ rfl rfl hab hbn
     have e1:(fs.map pairS).take r.toNat++SV.tup [.int a,.int b]::(fs.map pairS).drop r.toNat=(fs.take r.toNat++(a,b)::fs.drop r.toNat).map pairS:=by
      rw[Sx,TU,List.map_take,List.map_drop];rfl
     rw[e1];refine⟨_,_,_,rfl,A3.put,?_,λe' h=>?_,?_⟩
     ·rw[A7 (by omega)];exact O3.keep _ _ A.ne h2
     ·rcases Sw.mp h with h | h
      ·exact hf e' (List.mem_of_mem_take h)
      ·rcases Sm.mp h with h | h
       ·rw[h];exact⟨hab,hbn⟩
       ·exact hf e' (List.mem_of_mem_drop h)
     ·rw[SY,TM,UH,UI];omega
    by_cases hc:e.1<e.2
    ·exact key e.1 e.2 _ _ (by rw[iG (by omega)]) (by rw[iP (by omega)]) hc hee.2.1
    ·exact key e.2 e.1 _ _ (by rw[iP (by omega)]) (by rw[iG (by omega)]) (by omega) hee.1
 ·rintro ρ S2 ⟨fs,p5,p6,rfl,A2,h2,hf,fl⟩;rw[SX]at fl;exact⟨_,rfl,_,rfl,_,e8 A2.at',by show 2<=big;decide,q fs S2 ⟨hf,by omega,hn⟩ A2.tape A2.on⟩
theorem FB(hΔ:∀ f,MonoN (Δ f))(hd:v6 (Δ kd)){t n l:Nat}{g:SV}{S0 S:Sto}{es:EE}{Q:QE}{o4 o5 o6:Option SV}(P:Prs n es)(A:Ah t S0 S l es)
 (q:∀(es:EE) (S':Sto),Web n es->TapeS S' t->On t S0 S'->Q (i6 n es) S'):wSs Δ [u3 kd kp,u4 kd kp,u5 kd kp,u6 kd kp] (l7 Q) [some (.loc t),some g,some (.int n),some (.loc l),o4,o5,o6] S:=by
 refine⟨_,rfl,by show 0<=big;decide,?_⟩;have A1:=A.push (o:=SO.lst []);refine⟨_,_,A1.at',e7,.inr (.inr rfl),_,rfl,?_⟩;rw[CZ];refine ifB (λh1=>?_) (λh1=>ifF rfl (Ca hΔ hd P.en (by have:=P.len;omega) P.few A1 q))
 have hpos:0<es.length:=by
  cases es with
  | nil=>cases h1
  | cons _ _=>simp
 refine⟨_,rfl,hd A1.tape (by decide) (by decide) λr S2 r0 r1 T2 O2 _=>⟨_,rfl,?_⟩⟩;have A2:=A1.draw T2 O2;refine ifD (λ_=>?_) (λ_=>Ca hΔ hd P.en (by have:=P.len;omega) P.few A2 q);refine⟨_,rfl,_,rfl,hd A2.tape (by decide) (by decide) λr3 S3 a0 a1 T3 O3 _=>⟨_,rfl,⟨by omega,by omega⟩,?_⟩⟩;have A3:=A2.draw T3 O3;refine h8 (j0 hΔ _).2 (c8 hΔ _).1 (λi ys S4=>Ah t S0 S4 l es/\∃ fs:EE,ys=fs.map pairS/\(∀ e∈fs,e∈es)/\fs.length=i) ⟨A3,[],rfl,(λ_ h=>nomatch h),rfl⟩ (λ_ _ _ _=>trivial) ?_ ?_
 ·rintro i x ys S4 hx ⟨A4,fs,rfl,hf,fl⟩;obtain⟨rfl,hi⟩:=j4 hx;refine⟨_,rfl,_,rfl,_,rfl,_,e8 A4.at',hd A4.tape (by rw[SX];omega) (by rw[SX];have:=P.len;omega) λr5 S5 b0 b1 T5 O5 _=>?_⟩;have A5:=A4.draw T5 O5;rw[SX]at b1;have hr:r5.toNat<es.length:=by omega
  refine⟨_,pairS es[r5.toNat],e8 A5.at',?_,by rw[SX];show _<100000;omega,A5,fs++[es[r5.toNat]],?_,λe h=>?_,by simp[fl]⟩
  ·have:=j3 (xs:=es.map pairS) (j:=r5.toNat) (v:=pairS es[r5.toNat]) (by rw[Sq,Se hr];rfl)
   rwa [UF b0]at this
  ·rw[Sx];rfl
  ·rcases Sw.mp h with h | h
   ·exact hf e h
   ·rw[Sg.mp h];exact TY hr
 ·rintro ys S4 ⟨A4,fs,rfl,hf,fl⟩;rw[j5]at fl;have A5:=A4.push (o := .lst (fs.map pairS));have hPl:=P.len;refine⟨_,_,A5.at',e7,by simp;show _<=100000;omega,?_⟩;rw[<-Sx];refine Ca hΔ hd (es:=es++fs) (λe h=>?_) (by rw[SY];omega) P.few ⟨A5.tape.push,A5.on.push,e7,?_,A.t0⟩ q
  ·rcases Sw.mp h with h | h
   ·exact P.en e h
   ·exact P.en e (hf e h)
  ·have:=A5.on.len;exact this
theorem Q0(hΔ:∀ f,MonoN (Δ f))(hd:v6 (Δ kd))(hp:Dz (Δ kp)){D:Df}(hb:D.body=Ra kd kp)(hN:D.N.length=7)(hps:D.ps.length=2):O7 (g6 Δ D):=by
 intro t g S Q T q;unfold g6;rw[hb,hN];refine⟨hps.symm,?_⟩;have t0:=T.lt;refine⟨_,rfl,_,rfl,hp T λn es l S1 P h1 hl T1 O1=>?_⟩;have A1:Ah t S S1 l es:=⟨T1,O1,h1,hl,t0⟩
 refine⟨_,rfl,by show 0<=big;decide,?_⟩;have A2:=A1.push (o:=SO.lst []);refine⟨_,_,A2.at',e7,.inr (.inr rfl),_,rfl,?_⟩;rw[CZ];refine ifB (λ_=>?_) (λ_=>FB hΔ hd P A2 λes S' W T' O'=>q n es S' W T' O');refine⟨_,rfl,_,rfl,hp A2.tape λn es l S3 P3 h3 hl3 T3 O3=>?_⟩;exact FB hΔ hd P3 ⟨T3,A2.on.trans O3,h3,by have:=A2.on.len;omega,t0⟩ λes S' W T' O'=>q n es S' W T' O'
end
noncomputable def GQ:List Stm:=[(.ret (.and (.bi .isi (.cons (.var 0) (.cons (.tyc .int) .nil))) (.not (.bi .isi (.cons (.var 0) (.cons (.tyc .bool) .nil))))))]
noncomputable def DP(k:Nat):List Stm:=[(.ret (.and (.call k (.cons (.var 1) .nil)) (.chn .LtE .Lt (.c (.int 0)) (.var 1) (.ix (.var 0) (.c (.int 0))))))]
noncomputable def Ha(k:Nat):List Stm:=[(.ret (.and (.call k (.cons (.var 1) .nil)) (.chn .LtE .Lt (.c (.int 0)) (.var 1) (.bi .len (.cons (.ix (.var 0) (.c (.int 1))) .nil)))))]
noncomputable def E3(k:Nat):List Stm:=[(.iff (.not (.call k (.cons (.var 0) (.cons (.var 1) .nil)))) [.no] [])]
noncomputable def Hb(k:Nat):List Stm:=[(.expr (.call k (.cons (.var 0) (.cons (.var 1) .nil)))),(.ret (.comp ["tie","ends"] ["place"] [1] (.tup (.cons (.nm 0) (.cons (.nm 1) .nil))) (.enum (.ix (.var 0) (.c (.int 1)))) (.yes (.cmp .In (.var 2) (.var 1))) (.var 0)))]
noncomputable def Hc(k:Nat):List Stm:=[(.expr (.call k (.cons (.var 0) (.cons (.var 1) .nil)))),(.asg (.tup (.cons (.nm 3) (.cons (.nm 4) .nil))) (.ix (.ix (.var 0) (.c (.int 1))) (.var 1))),(.iff (.cmp .Eq (.var 2) (.var 3)) [(.ret (.var 4))] []),(.iff (.cmp .Eq (.var 2) (.var 4)) [(.ret (.var 3))] []),.no]
noncomputable def C2(s:Sn):Prop:=∀{i:Int} {S:Sto} {Q:QE},Q (.bl true) S->s [.int i] S Q
noncomputable def BF(s:Sn):Prop:=∀{n p:Nat} {es:EE} {S:Sto} {Q:QE},p<n->Q (.bl true) S->s [i6 n es,.int p] S Q
noncomputable def BT(s:Sn):Prop:=∀{n j:Nat} {es:EE} {S:Sto} {Q:QE},j<es.length->Q (.bl true) S->s [i6 n es,.int j] S Q
noncomputable def w9(s:Sn):Prop:=∀{n p:Nat} {es:EE} {S:Sto} {Q:QE},p<n->Q .non S->s [i6 n es,.int p] S Q
noncomputable def BG(s:Sn):Prop:=∀{n j:Nat} {es:EE} {S:Sto} {Q:QE},j<es.length->Q .non S->s [i6 n es,.int j] S Q
noncomputable def m8(es:EE)(p:Nat)(i:Nat):List Nat:=(Sf i).filter λj=>match es[j]? with | some e=>decide (e.1=p)||decide (e.2=p) | none=>false
noncomputable def natS(xs:List Nat):List SV:=xs.map λ(i:Nat)=>SV.int i
noncomputable def BU(s:Sn):Prop:=∀{n p:Nat} {es:EE} {S:Sto} {Q:QE},es.length<=5000->p<n->Q (.loc S.length) (S++[.lst (natS (m8 es p es.length))])->s [i6 n es,.int p] S Q
noncomputable def farE(e:Nat×Nat)(p:Nat):Nat:=if p=e.1 then e.2 else e.1
noncomputable def Cb(s:Sn):Prop:=∀{n p j:Nat} {es:EE} {e:Nat×Nat} {S:Sto} {Q:QE},es[j]?=some e->(p=e.1\/p=e.2)->Q (.int (farE e p)) S->s [i6 n es,.int j,.int p] S Q
section
variable{Δ:Nat->Sn}
theorem LD{D:Df}(hb:D.body=GQ)(hN:D.N.length=1)(hp:D.ps.length=1):C2 (g6 Δ D):=by
 intro i S Q q;unfold g6;rw[hb,hN];exact⟨hp.symm,_,rfl,_,nofun,rfl,_,rfl,ifT rfl ⟨_,rfl,_,nofun,rfl,_,rfl,q⟩⟩
theorem FC{k:Nat}(h0:C2 (Δ k)){D:Df}(hb:D.body=DP k)(hN:D.N.length=2)(hp:D.ps.length=2):BF (g6 Δ D):=by
 intro n p es S Q h q;unfold g6;rw[hb,hN];refine⟨hp.symm,_,rfl,h0 ⟨_,rfl,ifT rfl ⟨_,rfl,_,rfl,ifT (decide_eq_true (VJ p)) ⟨_,rfl,_,_,rfl,rfl,?_⟩⟩⟩⟩;show Q (.bl (decide ((p:Int)<n))) S;rw[decide_eq_true (by omega)];exact q
theorem J4{k:Nat}(h0:C2 (Δ k)){D:Df}(hb:D.body=Ha k)(hN:D.N.length=2)(hp:D.ps.length=2):BT (g6 Δ D):=by
 intro n p es S Q h q;unfold g6;rw[hb,hN];refine⟨hp.symm,_,rfl,h0 ⟨_,rfl,ifT rfl ⟨_,rfl,_,rfl,ifT (decide_eq_true (VJ p)) ⟨_,rfl,_,_,rfl,rfl,_,rfl,?_⟩⟩⟩⟩;show Q (.bl (decide ((p:Int)<(es.map pairS).length))) S;rw[decide_eq_true (by rw[SX];omega)];exact q
theorem Cw{k:Nat}(h0:BF (Δ k)){D:Df}(hb:D.body=E3 k)(hN:D.N.length=2)(hp:D.ps.length=2):w9 (g6 Δ D):=by
 intro n p es S Q h q;unfold g6;rw[hb,hN];exact⟨hp.symm,_,rfl,_,rfl,h0 h ⟨_,rfl,ifF rfl q⟩⟩
theorem FD{k:Nat}(h0:BT (Δ k)){D:Df}(hb:D.body=E3 k)(hN:D.N.length=2)(hp:D.ps.length=2):BG (g6 Δ D):=by
 intro n p es S Q h q;unfold g6;rw[hb,hN];exact⟨hp.symm,_,rfl,_,rfl,h0 h ⟨_,rfl,ifF rfl q⟩⟩
theorem E4{xs:List SV}{i:Nat}{x:SV}(h:(Al xs)[i]?=some x):∃ y,xs[i]?=some y/\x = .tup [.int i,y]:=by
 unfold Al at h;rw[Ub]at h;cases hy:xs[i]? with
 | none=>rw[hy]at h;revert h;cases(Sf xs.length)[i]?<;>exact nofun
 | some y=>
   have hi:=(gM hy).1;rw[hy,Tr hi]at h;exact⟨y,rfl,(oj h).symm⟩
theorem C3{xs:List SV}:(Al xs).length=xs.length:=by unfold Al;simp
theorem FE{es:EE}{i:Nat}{x:SV}(h:(es.map pairS)[i]?=some x):∃ e,es[i]?=some e/\x=pairS e:=by
 rw[Sq]at h;cases he:es[i]? with
 | none=>rw[he]at h;cases h
 | some e=>rw[he]at h;exact⟨e,rfl,(oj h).symm⟩
theorem E5(p:Nat)(e:Nat×Nat):inS (.int p) [.int e.1,.int e.2]=(decide (e.1=p)||decide (e.2=p)):=by
 have k:∀ a:Nat,((a:Int) == (p:Int))=decide (a=p):=λa=>by
  rw[Tc];simp[Tb]
 unfold inS;simp only[Tx,Vt,Vp,eqF,k]
theorem Bw(es:EE)(p i:Nat){e:Nat×Nat}(h:es[i]?=some e):m8 es p (i+1)=m8 es p i++if (decide (e.1=p)||decide (e.2=p))=true then [i] else []:=by
 unfold m8;rw[Tj,VL]
 congr 1
 rw[Tf,h];rfl
theorem GR(es:EE)(p i:Nat):(m8 es p i).length<=i:=by
 have:=V2 (λj=>match es[j]? with | some e=>decide (e.1=p)||decide (e.2=p) | none=>false) (Sf i);rw[T8]at this;exact this
theorem mem_tiesAt{es:EE}{p j:Nat}:j∈m8 es p es.length↔∃ e,es[j]?=some e/\(e.1=p\/e.2=p):=by
 unfold m8;rw[T9,TC];constructor
 ·rintro⟨h,h2⟩;rw[Se h]at h2;exact⟨_,Se h,by simpa using h2⟩
 ·rintro⟨e,h,h2⟩;refine⟨(gM h).1,?_⟩;rw[h];simpa using h2
theorem J5{k:Nat}(hΔ:∀ f,MonoN (Δ f))(h0:w9 (Δ k)){D:Df}(hb:D.body=Hb k)(hN:D.N.length=2)(hp:D.ps.length=2):BU (g6 Δ D):=by
 intro n p es S Q hl h q;unfold g6;rw[hb,hN];refine⟨hp.symm,_,rfl,_,rfl,h0 h ⟨_,rfl,_,_,rfl,rfl,_,rfl,?_⟩⟩;refine h8 (j0 hΔ _).2 (c8 hΔ _).1 (λi ys S'=>S'=S/\ys=natS (m8 es p i)) ⟨rfl,rfl⟩ (λ_ _ _ _=>trivial) ?_ ?_
 ·rintro i x ys S' hx ⟨rfl,rfl⟩;obtain⟨y,hy,rfl⟩:=E4 hx;obtain⟨e,he,rfl⟩:=FE hy;have hi:=(gM he).1;have ht:=GR es p i;refine⟨_,rfl,_,rfl,rfl,_,rfl,rfl,_,rfl,?_⟩;show if inS (.int p) [.int e.1,.int e.2]=true then _ else _
  rw[E5];refine ifB (λh=>?_) (λh=>?_)
  ·refine⟨_,rfl,by show(natS _).length<100000;unfold natS;rw[SX];omega,rfl,?_⟩;rw[Bw es p i he,iP h];unfold natS;rw[Sx];rfl
  ·refine⟨rfl,?_⟩;rw[Bw es p i he,iG (by rw[h];decide),U2]
 ·rintro ys S' ⟨rfl,rfl⟩;rw[C3,SX];exact q
theorem J6{k:Nat}(h0:BG (Δ k)){D:Df}(hb:D.body=Hc k)(hN:D.N.length=5)(hp:D.ps.length=3):Cb (g6 Δ D):=by
 intro n p j es e S Q he h q;unfold g6;rw[hb,hN];refine⟨hp.symm,_,rfl,_,rfl,h0 (gM he).1 ⟨_,rfl,_,_,rfl,rfl,_,rfl,_,pairS e,rfl,j3 (by rw[Sq,he];rfl),?_⟩⟩;refine⟨_,rfl,_,rfl,_,rfl,?_⟩;refine ifD (λh1=>⟨_,rfl,?_⟩) (λh1=>⟨_,rfl,_,rfl,_,rfl,ifD (λh2=>⟨_,rfl,?_⟩) (λh2=>?_)⟩)
 ·have h1:p=e.1:=Tb.mp h1;unfold farE at q;rw[iP h1]at q;exact q
 ·have h1:¬ p=e.1:=λz=>h1 (congrArg _ z);unfold farE at q;rw[iG h1]at q;exact q
 ·rcases h with h | h
  ·exact absurd (congrArg Nat.cast h) h1
  ·exact absurd (congrArg Nat.cast h) h2
end
theorem f7{xs:List Nat}:(natS xs).length=xs.length:=by unfold natS;rw[SX]
theorem A8{xs:List Nat}{i x:Nat}(h:xs[i]?=some x):(natS xs)[i]?=some (.int x):=by unfold natS;rw[Sq,h];rfl
theorem r6{xs ys:List Nat}:natS (xs++ys)=natS xs++natS ys:=by unfold natS;rw[Sx]
structure Dr(t:Nat)(S0 S:Sto)(l k:Nat)(ls ns:List Nat):Prop where
 tape:TapeS S t
 on:On t S0 S
 hl:S[l]?=some (.lst (natS ls))
 hk:S[k]?=some (.lst (natS ns))
 l0:S0.length<=l
 k0:S0.length<=k
 lk:l≠k
 t0:t<S0.length
theorem Dr.push{t l k:Nat}{S0 S:Sto}{ls ns:List Nat}{o:SO}(A:Dr t S0 S l k ls ns):Dr t S0 (S++[o]) l k ls ns:=⟨A.tape.push,A.on.push,e6 A.hl,e6 A.hk,A.l0,A.k0,A.lk,A.t0⟩
section
variable{Δ:Nat->Sn}{k:Nat}{D:Df}
theorem LF(n:Nat):blS (Sj n (.bl true))=some (Sj n true):=by
 induction n with
 | zero=>rfl
 | succ n ih=>rw[TX,TX];simp[blS,ih]
end
noncomputable def Rb:Option Nat->SV
 | some j => .int j
 | none => .non
noncomputable def optsS(xs:List (Option Nat)):List SV:=xs.map Rb
structure Gw(S S':Sto):Prop where
 len:S.length<=S'.length
 keep:∀(k:Nat) (o:SO),S[k]?=some o->S'[k]?=some o
theorem Gw.refl(S:Sto):Gw S S:=⟨Sd _,λ_ _ h=>h⟩
theorem Gw.push{S S':Sto}{o:SO}(h:Gw S S'):Gw S (S'++[o]):=⟨by rw[SY];have:=h.len;omega,λk u z=>e6 (h.keep k u z)⟩
theorem Gw.put{S S':Sto}{o:SO}{k:Nat}(h:Gw S S')(hk:S.length<=k):Gw S (S'.set k o):=⟨by rw[Ti];exact h.len,λj u z=>by
 rw[A7 (λe=>by have:=HZ z;omega)];exact h.keep j u z⟩
theorem Gw.trans{S S' S'':Sto}(a:Gw S S')(b:Gw S' S''):Gw S S'':=⟨TH a.len b.len,λk o h=>b.keep k o (a.keep k o h)⟩
noncomputable def upd(f:Nat->Nat)(p x:Nat):Nat->Nat:=λq=>if q=p then x else f q
theorem FF{e:Nat×Nat}{p:Nat}(hp:p=e.1\/p=e.2):farE e p=e.1\/farE e p=e.2:=by
 unfold farE;by_cases h:p=e.1
 ·rw[iP h];exact .inr rfl
 ·rw[iG h];exact .inl rfl
theorem LG{e:Nat×Nat}{p:Nat}(he:e.1≠e.2)(hp:p=e.1\/p=e.2):farE e (farE e p)=p:=by
 unfold farE;by_cases h:p=e.1
 ·rw[iP h,iG (Ne.symm he),h]
 ·rw[iG h,iP rfl];rcases hp with hp | hp
  ·exact absurd hp h
  ·exact hp.symm
structure Gm(a b w:Nat)(S0 S:Sto)(sd bk:List (Option Nat))(wt:List Nat):Prop where
 ha:S[a]?=some (.lst (optsS sd))
 hb:S[b]?=some (.lst (optsS bk))
 hw:S[w]?=some (.lst (natS wt))
 len:S0.length<=S.length
 keep:∀(k:Nat) (o:SO),k≠a->k≠b->S0[k]?=some o->S[k]?=some o
 ab:a≠b
 a0:a<S0.length
 b0:b<S0.length
 w0:S0.length<=w
section
variable{a b w:Nat}{S0 S:Sto}{sd bk sd' bk':List (Option Nat)}{wt wt':List Nat}
theorem Gm.push{o:SO}(G:Gm a b w S0 S sd bk wt):Gm a b w S0 (S++[o]) sd bk wt:=⟨e6 G.ha,e6 G.hb,e6 G.hw,by rw[SY];have:=G.len;omega,λk u h1 h2 h=>e6 (G.keep k u h1 h2 h),G.ab,G.a0,G.b0,G.w0⟩
end
noncomputable def SqS(x:SV)(S:Sto)(xs:List SV):Prop:=(∃ k,x = .loc k/\S[k]?=some (.lst xs))\/x = .tup xs
theorem SqS.keep{x:SV}{S S':Sto}{xs:List SV}(h:SqS x S xs)(h':SqS x S' xs):keepS x S S':=by
 rcases h with⟨k,rfl,h⟩ | rfl
 ·rcases h' with⟨k',e,h'⟩ | e
  ·cases e;show S'[k]?=S[k]?;rw[h,h']
  ·cases e
 ·trivial
theorem t8(xs:List Nat):(natS xs).all t7=true:=by
 unfold natS;rw[VV,Sy];exact λ_ _=>rfl
end Rf
namespace Hue
noncomputable def SR(ms:List Nat)(e:Nat×Nat):Nat:=min (ms.getD e.1 0) (ms.getD e.2 0)
noncomputable def Rc(ms:List Nat)(e:Nat×Nat):Nat:=max (ms.getD e.1 0) (ms.getD e.2 0)
noncomputable def Re(ms:List Nat)(e:Nat×Nat):List Nat:=ms.map λx=>if x=Rc ms e then SR ms e else x
noncomputable def marks(n:Nat)(es:EE):List Nat:=es.foldl Re (Sf n)
noncomputable def Cl(es:EE)(C:Nat->Prop):Prop:=∀ e∈es,C e.1↔C e.2
noncomputable abbrev Sds:=List (Option Nat)
noncomputable def sAt(s:Sds)(p:Nat):Option Nat:=s.getD p none
structure Grow(s s':Sds):Prop where
 len:s'.length=s.length
 keep:∀ p v,sAt s p=some v->sAt s' p=some v
theorem Grow.refl(s:Sds):Grow s s:=⟨rfl,λ_ _ h=>h⟩
theorem Grow.trans{a b c:Sds}(x:Grow a b)(y:Grow b c):Grow a c:=⟨y.len.trans x.len,λp v h=>y.keep p v (x.keep p v h)⟩
noncomputable def Set'(s:Sds)(p:Nat):Prop:=∃ v,sAt s p=some v
theorem Set'.keep{s s':Sds}{p:Nat}(g:Grow s s')(h:Set' s p):Set' s' p:=let ⟨v,hv⟩:=h;⟨v,g.keep _ _ hv⟩
noncomputable def Closed(es:EE)(s:Sds):Prop:=Cl es (Set' s)
structure Way(n:Nat)(es:EE)(k:Nat)(s:Sds):Prop where
 len:s.length=n
 cl:Closed es s
 done:∀ p,p<k->Set' s p
 mark:∀ p v,sAt s p=some v->(marks n es).getD p 0<k
 two:∀ p v,sAt s p=some v->v<2
end Hue
namespace L2
open PySem PySem.Spec PyProof.Rows
structure Sz(k b:Nat)(d:PyData):Prop where
 dp:d.depth<=k
 bk:d.bulk<=b
 sh:d.showable=true
 lf:d.leavesShort 100=true
theorem Sz.mono{k b k' b':Nat}{d:PyData}(h:Sz k b d)(hk:k<=k')(hb:b<=b'):Sz k' b' d:=⟨TH h.dp hk,TH h.bk hb,h.sh,h.lf⟩
structure SzA(k b n:Nat)(ds:List PyData):Prop where
 dp:PyData.depthAll ds<=k
 bk:PyData.bulkAll ds<=n * (b+1)
 sh:PyData.showableAll ds=true
 lf:PyData.leavesShortAll 100 ds=true
theorem SzA.nil{k b:Nat}:SzA k b 0 []:=⟨by simp[PyData.depthAll],by simp[PyData.bulkAll],by simp[PyData.showableAll],by simp[PyData.leavesShortAll]⟩
theorem SzA.cons{k b n:Nat}{d:PyData}{ds:List PyData}(h:Sz k b d)(h':SzA k b n ds):SzA k b (n+1) (d::ds):=by
 refine⟨?_,?_,?_,?_⟩
 ·simp only[PyData.depthAll];have:=h.dp;have:=h'.dp;omega
 ·simp only[PyData.bulkAll];have:=h.bk;have:=h'.bk;rw[VQ];omega
 ·simp only[PyData.showableAll,h.sh,h'.sh];rfl
 ·simp only[PyData.leavesShortAll,h.lf,h'.lf];rfl
theorem SzA.list{k b n:Nat}{ds:List PyData}(h:SzA k b n ds):Sz (k+1) (n * (b+1)) (.list ds):=⟨by simp only[PyData.depth];have:=h.dp;omega,by simp only[PyData.bulk];exact h.bk,by simp only[PyData.showable];exact h.sh,by simp only[PyData.leavesShort];exact h.lf⟩
theorem SzA.tuple{k b n:Nat}{ds:List PyData}(h:SzA k b n ds):Sz (k+1) (n * (b+1)) (.tuple ds):=⟨by simp only[PyData.depth];have:=h.dp;omega,by simp only[PyData.bulk];exact h.bk,by simp only[PyData.showable];exact h.sh,by simp only[PyData.leavesShort];exact h.lf⟩
noncomputable def DN(k b:Nat)(H:Hp)(x:V):Prop:=∃ d,Dat H x d/\Sz k b d
theorem DN.mono{k b k' b':Nat}{H H':Hp}{x:V}(h:DN k b H x)(s:∀ c o,H c=some o->H' c=some o)(hk:k<=k')(hb:b<=b'):DN k' b' H' x:=let ⟨d,a,z⟩:=h;⟨d,Dat.mono s x d a,z.mono hk hb⟩
theorem DN.all{k b:Nat}{H:Hp}:∀{xs:List V},(∀ x∈xs,DN k b H x)->∃ ds,DatAll H xs ds/\SzA k b xs.length ds
 | [],_=>⟨[],by unfold DatAll;trivial,.nil⟩
 | x::xs,h=>by
   obtain⟨d,hd,hz⟩:=h x (T7 ..);obtain⟨ds,hs,hzs⟩:=DN.all (xs:=xs) λy hy=>h y (Su _ hy);exact⟨d::ds,by unfold DatAll;exact⟨hd,hs⟩,.cons hz hzs⟩
theorem DN.non{k b:Nat}{H:Hp}:DN k b H .non:=⟨.none,by unfold Dat;rfl,by simp[PyData.depth],by simp[PyData.bulk],by simp[PyData.showable],by simp[PyData.leavesShort]⟩
theorem DN.bl{k b:Nat}{H:Hp}(c:Bool):DN k b H (.bl c):=⟨.bool c,by unfold Dat;rfl,by simp[PyData.depth],by simp[PyData.bulk],by simp[PyData.showable],by simp[PyData.leavesShort]⟩
theorem DN.int{k b:Nat}{H:Hp}{i:Int}(h:i.natAbs.log2<90):DN k b H (.int i):=⟨.int i,by unfold Dat;rfl,by simp[PyData.depth],by simp[PyData.bulk],by simp only[PyData.showable,dQ];omega,by
 have:=int_text_length_le (a:=i) (k:=90) (by decide) h;simp only[PyData.leavesShort,PyData.shown];refine decide_eq_true ?_;show(Str.ofString (toString i)).length<=100;rw[PySem.ofString_length];omega⟩
theorem DN.str{k b:Nat}{H:Hp}{x:Str}(h:x.cps.size<=b)(hc:(x.cps.toList.all λc=>decide (c<16 ^ 8))=true):DN k b H (.str x):=⟨.str x,by unfold Dat;rfl,by simp[PyData.depth],by simp only[PyData.bulk];exact h,by simp[PyData.showable],by simp only[PyData.leavesShort];exact hc⟩
theorem DN.tup{k b n:Nat}{H:Hp}{p:W3}{xs:List V}(hp:H p=some (.tup xs))(h:∀ x∈xs,DN k b H x)(hn:xs.length<=n):DN (k+1) (n * (b+1)) H (.ref p):=by
 obtain⟨ds,hd,hz⟩:=DN.all h;exact⟨.tuple ds,by unfold Dat;exact⟨p,xs,rfl,hp,hd⟩,hz.tuple.mono (Sd _) (V8 _ hn)⟩
theorem DN.lst{k b n:Nat}{H:Hp}{p:W3}{xs:List V}(hp:H p=some (.lst xs))(h:∀ x∈xs,DN k b H x)(hn:xs.length<=n):DN (k+1) (n * (b+1)) H (.ref p):=by
 obtain⟨ds,hd,hz⟩:=DN.all h;exact⟨.list ds,by unfold Dat;exact⟨p,xs,rfl,hp,hd⟩,hz.list.mono (Sd _) (V8 _ hn)⟩
noncomputable def Live(o:Option W3)(H:Hp):Prop:=∀ t,o=some t->∃ u,H t=some u
theorem Live.ne{o:Option W3}{H:Hp}{p:W3}(l:Live o H)(n:H p=none):o≠some p:=λe=>by
 obtain⟨u,h⟩:=l p e;rw[n]at h;cases h
end L2
namespace Rf
open PySem L2
noncomputable def A9(es:EE)(t:Nat):Nat×Nat:=es.getD t (0,0)
theorem BV{es:EE}{t:Nat}(h:t<es.length):es[t]?=some (A9 es t):=by
 unfold A9;rw[Sr,Se h];rfl
section
variable{Δ:Nat->Sn}
theorem g9{D:EndsS}{ρ:EnvS}{S:Sto}(h:D.nx ρ S):wSs Δ [] D ρ S:=h
end
end Rf
namespace Hue
theorem len_split{α:Type}(p q:α->Bool):∀ l:List α,(l.filter p).length=(l.filter λa=>p a&&q a).length+(l.filter λa=>p a&&!q a).length
 | []=>rfl
 | a::l=>by
   have ih:=len_split p q l;rw[Tf,Tf,Tf];cases p a<;>cases q a<;>simp<;>omega
theorem len_one{α:Type}[DecidableEq α]{p:α->Bool}{l:List α}(nd:l.Nodup){a:α}(ha:a∈l)(h:∀ b∈l,p b=true↔b=a):(l.filter p).length=1:=by
 induction l with
 | nil=>cases ha
 | cons b l ih=>
   rw[U3]at nd;rw[Tf];rcases Sm.mp ha with rfl | ha'
   ·rw[iP ((h a (T7 ..)).mpr rfl)];have:l.filter p=[]:=List.filter_eq_nil_iff.mpr λb hb z=>nd.1 (by rw[<-(h b (Su _ hb)).mp z];exact hb);rw[this];rfl
   ·have hb:¬ p b=true:=λz=>nd.1 (by rw[(h b (T7 ..)).mp z];exact ha');rw[iG hb];exact ih nd.2 ha' λc hc=>h c (Su _ hc)
end Hue
namespace Rf
open PySem L2
theorem Az{xs:List Nat}{i:Nat}{x:SV}(h:(natS xs)[i]?=some x):∃ j,xs[i]?=some j/\x = .int j:=by
 unfold natS at h;rw[Sq]at h;cases hx:xs[i]? with
 | none=>rw[hx]at h;cases h
 | some j=>rw[hx]at h;exact⟨j,rfl,(oj h).symm⟩
theorem Q1(p:Nat)(xs:List Nat):inS (.int p) (natS xs)=decide (p∈xs):=by
 rw[Tc,dQ];unfold inS natS;rw[Uv,UJ];constructor
 ·rintro⟨a,ha,h⟩;have h:((a:Int) == (p:Int))=true:=h;rw[bQ]at h;have:=Tb.mp h;rw[<-this];exact ha
 ·intro h;exact⟨p,h,by show((p:Int) == (p:Int))=true;simp⟩
end Rf
namespace Hue
end Hue
namespace Rf
open PySem L2
theorem FG(P:Nat->Bool)(i:Nat):(Sf (i+1)).filter P=(Sf i).filter P++if P i=true then [i] else []:=by
 rw[Tj,VL,Tf];cases P i<;>rfl
theorem E6(P:Nat->Bool)(i:Nat):((Sf i).filter P).length<=i:=by
 have:=V2 P (Sf i)
 rwa [T8]at this
theorem FH{α:Type}{xs:List α}{a b:α}{j:Nat}(h:(xs++[a])[j]?=some b):(j=xs.length/\b=a)\/xs[j]?=some b:=by
 rcases UD j xs.length with z | z
 ·rw[Sv z]at h;exact .inr h
 ·have e:j=xs.length:=by
   have:=(gM h).1;rw[SY,TK]at this;omega
  subst e;rw[TR (Sd _),Nat.sub_self]at h;cases h;exact .inl ⟨rfl,rfl⟩
structure RwsTo(S0 S:Sto)(ls:List Nat)(cs:List (List Nat)):Prop where
 len:ls.length=cs.length
 row:∀(i k:Nat) (c:List Nat),ls[i]?=some k->cs[i]?=some c->S[k]?=some (.lst (natS c))
 up:ls.Pairwise (·<·)
 new:∀ k∈ls,S0.length<=k/\k<S.length
theorem RwsTo.nil(S0 S:Sto):RwsTo S0 S [] []:=⟨rfl,λi k c h=>by simp at h,.nil,λ_ h=>nomatch h⟩
theorem RwsTo.push{S0 S:Sto}{ls:List Nat}{cs:List (List Nat)}(h:RwsTo S0 S ls cs)(hS:S0.length<=S.length)(c:List Nat):RwsTo S0 (S++[.lst (natS c)]) (ls++[S.length]) (cs++[c]):=by
 refine⟨by rw[SY,SY,h.len];rfl,λi k c' h1 h2=>?_,?_,λk hk=>?_⟩
 ·rcases FH h1 with⟨e1,rfl⟩ | h1
  ·rcases FH h2 with⟨_,rfl⟩ | h2
   ·exact e7
   ·have:=(gM h2).1;have:=h.len;omega
  ·rcases FH h2 with⟨e,_⟩ | h2
   ·have:=(gM h1).1;have:=h.len;omega
   ·exact e6 (h.row i k c' h1 h2)
 ·rw[List.pairwise_append];exact⟨h.up,by simp,λa ha b hb=>by rw[Sg.mp hb];exact(h.new a ha).2⟩
 ·rw[SY,TK];rcases Sw.mp hk with hk | hk
  ·have:=h.new k hk;omega
  ·rw[Sg.mp hk];omega
noncomputable abbrev Cm:=List (Nat×Option Nat)
noncomputable def keys(cm:Cm):List Nat:=cm.map (·.1)
noncomputable def lk(cm:Cm)(p:Nat):Option (Option Nat):=(cm.find? λc=>decide (c.1=p)).map (·.2)
theorem p4{cm:Cm}{p:Nat}{v:Option Nat}:keys (cm++[(p,v)])=keys cm++[p]:=by unfold keys;rw[Sx];rfl
structure Cons(n:Nat)(es:EE)(P:List (Option Nat)):Prop where
 len:P.length=n
 two:∀ p t,P[p]?=some (some t)->∃ e,es[t]?=some e/\(p=e.1\/p=e.2)/\P[farE e p]?=some (some t)
structure Sdd(n:Nat)(es:EE)(sd:Nat->Nat):Prop where
 en:∀ e∈es,e.1<e.2/\e.2<n
 two:∀ p,sd p<2
 ne:∀ e∈es,sd e.1≠sd e.2
section
variable{n:Nat}{es:EE}{sd:Nat->Nat}{P:List (Option Nat)}
theorem Sdd.far(H:Sdd n es sd){t p:Nat}{e:Nat×Nat}(he:es[t]?=some e)(hp:p=e.1\/p=e.2):farE e p<n/\sd (farE e p)=1 - sd p/\farE e (farE e p)=p/\(farE e p=e.1\/farE e p=e.2)/\p<n:=by
 have hm:=Sh he;have h1:=H.en e hm;have h2:=H.ne e hm;have a:=H.two e.1;have b:=H.two e.2;have hne:e.1≠e.2:=by omega
 refine⟨?_,?_,LG hne hp,FF hp,?_⟩
 ·rcases FF hp with z | z<;>omega
 ·unfold farE;rcases hp with z | z
  ·subst z;rw[iP rfl];omega
  ·subst z;rw[iG (Ne.symm hne)];omega
 ·rcases hp with z | z<;>omega
structure Came(n:Nat)(es:EE)(sd:Nat->Nat)(P:List (Option Nat))(starts:List Nat)(cm:Cm):Prop where
 nd:(keys cm).Nodup
 lt:∀ p∈keys cm,p<n
 st:∀ p,(p,none)∈cm->p∈starts
 up:∀ i q t,cm[i]?=some (q,some t)->∃ e,es[t]?=some e/\(q=e.1\/q=e.2)/\farE e q∈keys (cm.take i)
 s0:∀ p v,(p,v)∈cm->sd p=0->P[p]?=some v
 pr:∀ q,q∈keys cm->sd q=1->∀ u e,P[q]?=some (some u)->es[u]?=some e->farE e q∈keys cm
 hs:∀ p∈starts,p∈keys cm
noncomputable def Shut(es:EE)(sd:Nat->Nat)(cm:Cm)(wt:List Nat)(p:Nat)(ts:List Nat):Prop:=∀ q∈keys cm,sd q=0->q∈wt\/∀ t e,es[t]?=some e->(q=e.1\/q=e.2)->(q=p/\t∈ts)\/farE e q∈keys cm
theorem Came.two{starts:List Nat}{cm:Cm}{q t u:Nat}{e f:Nat×Nat}(C:Came n es sd P starts cm)(H:Sdd n es sd)(hn:q∉keys cm)(he:es[t]?=some e)(hqe:q=e.1\/q=e.2)(hf:farE e q∈keys cm)(hs:sd q=1)(K:Cons n es P)(hu:P[q]?=some (some u))(hfu:es[u]?=some f)(hqf:q=f.1\/q=f.2)(hn2:farE f q∉keys cm):Came n es sd P starts (cm++[(q,some t)]++[(farE f q,some u)]):=by
 obtain⟨f1,f2,f3,f4,f5⟩:=H.far hfu hqf;have hne:farE f q≠q:=λz=>by rw[z]at f2;omega
 have hPf:P[farE f q]?=some (some u):=by
  obtain⟨e',he',_,h⟩:=K.two q u hu;rw[hfu]at he';cases he';exact h
 refine⟨?_,λp hp=>?_,λp h=>?_,λi r v h=>?_,λp v h hs'=>?_,λr hr hs' v e' hv he'=>?_,λp hp=>?_⟩
 ·rw[p4,p4,VP,UQ];refine⟨C.nd,by simp;exact Ne.symm hne,λa ha b hb=>?_⟩;rcases Sw.mp hb with hb | hb
  ·rw[Sg.mp hb];exact λz=>hn (z▸ha)
  ·rw[Sg.mp hb];exact λz=>hn2 (z▸ha)
 ·rw[p4,p4]at hp;rcases Sw.mp hp with hp | hp
  ·rcases Sw.mp hp with hp | hp
   ·exact C.lt p hp
   ·rw[Sg.mp hp];exact f5
  ·rw[Sg.mp hp];exact f1
 ·rcases Sw.mp h with h | h
  ·rcases Sw.mp h with h | h
   ·exact C.st p h
   ·have:=Sg.mp h;cases this
  ·have:=Sg.mp h;cases this
 ·have up1:∀ i r v,(cm++[(q,some t)])[i]?=some (r,some v)->∃ e,es[v]?=some e/\(r=e.1\/r=e.2)/\farE e r∈keys ((cm++[(q,some t)]).take i):=λi r v h=>by
   by_cases hi:i<cm.length
   ·rw[Sv hi]at h;rw[Uc (UY hi)];exact C.up i r v h
   ·have hl:=(gM h).1;rw[SY,TK]at hl;have:i=cm.length:=by omega
    subst this;rw[TF]at h;cases h;rw[Vm];exact⟨e,he,hqe,hf⟩
  by_cases hi:i<(cm++[(q,some t)]).length
  ·rw[Sv hi]at h;rw[Uc (UY hi)];exact up1 i r v h
  ·have hl:=(gM h).1;rw[SY,TK]at hl;have:i=(cm++[(q,some t)]).length:=by omega
   subst this;rw[TF]at h;cases h;rw[Vm];refine⟨f,hfu,f4,?_⟩;rw[f3,p4];exact TL _ (Sg.mpr rfl)
 ·rcases Sw.mp h with h | h
  ·rcases Sw.mp h with h | h
   ·exact C.s0 p v h hs'
   ·have:=Sg.mp h;cases this;omega
  ·have:=Sg.mp h;cases this;exact hPf
 ·rw[p4,p4]at hr ⊢;rcases Sw.mp hr with hr | hr
  ·rcases Sw.mp hr with hr | hr
   ·exact Te _ (Te _ (C.pr r hr hs' v e' hv he'))
   ·have:=Sg.mp hr;subst this;rw[hu]at hv;cases hv;rw[hfu]at he';cases he';exact TL _ (Sg.mpr rfl)
  ·have:=Sg.mp hr;subst this;omega
 ·rw[p4,p4];exact Te _ (Te _ (C.hs p hp))
end
section
variable{n:Nat}{es:EE}{sd:Nat->Nat}{P:List (Option Nat)}{starts:List Nat}
structure WInv(n:Nat)(es:EE)(sd:Nat->Nat)(P:List (Option Nat))(starts:List Nat)(p m:Nat)(ts:List Nat)(st:Cm×List Nat):Prop where
 C:Came n es sd P starts st.1
 wk:∀ q∈st.2,q∈keys st.1/\sd q=0
 sh:Shut es sd st.1 st.2 p ts
 pk:p∈keys st.1/\sd p=0
 ms:(n - st.1.length)+st.2.length<=m
theorem LH{cm:Cm}:(keys cm).length=cm.length:=by unfold keys;rw[SX]
theorem E7{n:Nat}:∀{l:List Nat},l.Nodup->(∀ x∈l,x<n)->l.length<=n:=by
 induction n with
 | zero=>
   intro l _ h;cases l with
   | nil=>exact Sd _
   | cons x l=>exact absurd (h x (T7 ..)) (UN x)
 | succ n ih=>
   intro l nd h;by_cases hm:n∈l
   ·have e:=List.length_erase_of_mem hm
    have:=ih (l:=l.erase n) (nd.erase n) λx hx=>by
     have h1:=h x (List.mem_of_mem_erase hx);have h2:x≠n:=λz=>by rw[z]at hx;exact(List.Nodup.not_mem_erase nd) hx
     omega
    have:0<l.length:=UZ hm;omega
   ·have:=ih nd λx hx=>by
     have h1:=h x hx;have h2:x≠n:=λz=>hm (z▸hx);omega
    omega
theorem Came.len{cm:Cm}(C:Came n es sd P starts cm):cm.length<=n:=by rw[<-LH];exact E7 C.nd C.lt
structure WOut(n:Nat)(es:EE)(sd:Nat->Nat)(P:List (Option Nat))(starts:List Nat)(m:Nat)(st:Cm×List Nat):Prop where
 C:Came n es sd P starts st.1
 wk:∀ q∈st.2,q∈keys st.1/\sd q=0
 sh:∀ q∈keys st.1,sd q=0->q∈st.2\/∀(t:Nat) (e:Nat×Nat),es[t]?=some e->(q=e.1\/q=e.2)->farE e q∈keys st.1
 ms:(n - st.1.length)+st.2.length<=m
theorem WInv.out{p m:Nat}{st:Cm×List Nat}(W:WInv n es sd P starts p m [] st):WOut n es sd P starts m st:=⟨W.C,W.wk,λq hq h0=>(W.sh q hq h0).imp id λz t e he hq'=>by
 rcases z t e he hq' with⟨_,z⟩ | z
 ·cases z
 ·exact z,W.ms⟩
end
theorem Hd:∀(xs:List Nat),Fn (natS xs)=some (xs.map λ(i:Nat)=>(i:Int))
 | []=>rfl
 | x::xs=>by
   show(Fn (natS xs)).map (((x:Nat):Int)::·)=_;rw[Hd xs];rfl
noncomputable def iN(xs:List Nat):List Int:=xs.map λ(i:Nat)=>(i:Int)
noncomputable def camS(cm:Cm):List (Int×SV):=cm.map λc=>((c.1:Int),Rb c.2)
structure Wm(lp lc lw:Nat)(S0 S:Sto)(P:List (Option Nat))(st:Cm×List Nat):Prop where
 hp:S[lp]?=some (.lst (optsS P))
 hc:S[lc]?=some (.dct (camS st.1))
 hw:S[lw]?=some (.lst (natS st.2))
 g:Gw S0 S
 p0:lp<S0.length
 c0:S0.length<=lc
 w0:S0.length<=lw
 ne:lc≠lw
section
variable{lp lc lw:Nat}{S0 S:Sto}{P:List (Option Nat)}{st:Cm×List Nat}{cm':Cm}{wt':List Nat}
theorem Wm.push{o:SO}(M:Wm lp lc lw S0 S P st):Wm lp lc lw S0 (S++[o]) P st:=⟨e6 M.hp,e6 M.hc,e6 M.hw,M.g.push,M.p0,M.c0,M.w0,M.ne⟩
end
structure Kp(l:Nat)(S S':Sto):Prop where
 len:S.length<=S'.length
 keep:∀(k:Nat) (o:SO),k≠l->S[k]?=some o->S'[k]?=some o
theorem Kp.refl(l:Nat)(S:Sto):Kp l S S:=⟨Sd _,λ_ _ _ h=>h⟩
theorem Kp.trans{l:Nat}{S S' S'':Sto}(a:Kp l S S')(b:Kp l S' S''):Kp l S S'':=⟨TH a.len b.len,λk o n h=>b.keep k o n (a.keep k o n h)⟩
noncomputable def Un(n:Nat)(c:Nat->Nat)(fs:EE):Prop:=∀ f∈fs,f.1<n/\f.2<n/\c f.1≠c f.2
theorem Cc(xs:List Nat):CI (natS xs) (natS xs)=true:=by
 unfold CI natS;simp only[beq_self_eq_true,Uq];rw[Sy];intro p hp;rw[List.zip_map']at hp;obtain⟨i,_,rfl⟩:=TJ.mp hp;simp[eqF]
theorem FI{α:Type}{g:α->Nat}:∀{fs:List Nat} {ts:List α},fs.Nodup->(fs.flatMap λf=>ts.filter λt=>decide (g t=f)).length<=ts.length
 | [],ts,_=>by simp
 | f::fs,ts,nd=>by
   obtain⟨nf,nd⟩:=U3.mp nd;have ih:=FI (g:=g) (ts:=ts.filter λt=>!decide (g t=f)) nd
   have e:(fs.flatMap λf'=>(ts.filter λt=>!decide (g t=f)).filter λt=>decide (g t=f'))=fs.flatMap λf'=>ts.filter λt=>decide (g t=f'):=by
    rw[Vd,Vd]
    congr 1
    refine VA λf' hf'=>?_;rw[UV];refine Tq λt _=>?_;by_cases z:g t=f'
    ·have:¬ g t=f:=λy=>nf (by rw[<-y,z];exact hf');simp[z,this];intro y;exact this (z.trans y)
    ·simp[z]
   rw[e]at ih;have s:=Hue.len_split (λ_=>true) (λt=>decide (g t=f)) ts;simp only[Uq]at s;have z:ts.filter (λ_=>true)=ts:=UG.mpr λ_ _=>rfl;rw[z]at s;rw[UE,SY];omega
theorem FJ{α β:Type}{g:Nat->List α}{h:Nat->List β}:∀{fs:List Nat},(∀ f∈fs,(g f).length<=(h f).length)->(fs.flatMap g).length<=(fs.flatMap h).length
 | [],_=>by simp
 | f::fs,z=>by
   have:=FJ λf' hf'=>z f' (Su _ hf');have:=z f (T7 ..);rw[UE,UE,SY,SY];omega
section
variable{Δ:Nat->Sn}
theorem J7{t:Nat}{S S':Sto}(G:Gw S S'):On t S S':=⟨G.len,λk o _ h=>G.keep k o h⟩
end
noncomputable def hu(cs:List Nat)(t:Nat):Nat:=cs.getD t 0
noncomputable def AtP(es:EE)(t y:Nat):Prop:=∃ e,es[t]?=some e/\(e.1=y\/e.2=y)
theorem AtP.lt{es:EE}{t y:Nat}(h:AtP es t y):t<es.length:=let ⟨_,e,_⟩:=h;(gM e).1
structure Prp(es:EE)(cs:List Nat):Prop where
 len:cs.length=es.length
 one:∀ t u y,AtP es t y->AtP es u y->hu cs t=hu cs u->t=u
structure RwI(es:EE)(cs:List Nat)(a b p:Nat)(r:List Nat)(x one other:Nat):Prop where
 nd:r.Nodup
 lt:∀ t∈r,t<es.length
 alt:∀ i t:Nat,r[i]?=some t->hu cs t=if i % 2=0 then a else b
 d1:one=if r.length % 2=0 then a else b
 d2:other=if r.length % 2=0 then b else a
 fin:∀ t∈r,∀ y,AtP es t y->y≠x->∀ u,AtP es u y->(hu cs u=a\/hu cs u=b)->u∈r
 oth:∀ u,AtP es u x->hu cs u=other->u∈r
 non:∀ u∈r,AtP es u x->hu cs u≠one
 lst:∀ t,r.getLast?=some t->AtP es t x
 beg:r=[]->x=p
 fst:∀ t,r[0]?=some t->AtP es t p
 all:∀ T:Nat->Prop,(∀ t u y,T t->AtP es t y->AtP es u y->(hu cs u=a\/hu cs u=b)->T u)->(∀ t,r[0]?=some t->T t)->∀ t∈r,T t
noncomputable def Clo(es:EE)(cs:List Nat)(a b:Nat)(r:List Nat):Prop:=∀ t∈r,∀ y,AtP es t y->∀ u,AtP es u y->(hu cs u=a\/hu cs u=b)->u∈r
section
variable{es:EE}{cs:List Nat}{a b p x one other:Nat}{r:List Nat}
theorem RwI.nil(h:∀ u,AtP es u p->hu cs u≠b):RwI es cs a b p [] p a b:=
 ⟨.nil,(λ_ h=>nomatch h),λi t h=>by simp at h,rfl,rfl,(λ_ h=>nomatch h),λu h1 h2=>absurd h2 (h u h1),(λ_ h=>nomatch h),λt h=>by simp at h,λ_=>rfl,λt h=>by simp at h,λ_ _ _ _ h=>nomatch h⟩
theorem RwI.two(R:RwI es cs a b p r x one other){h:Nat}(z:h=a\/h=b):h=one\/h=other:=by
 rw[R.d1,R.d2];by_cases e:r.length % 2=0
 ·rw[iP e,iP e];exact z
 ·rw[iG e,iG e];exact z.symm
theorem RwI.ab(R:RwI es cs a b p r x one other):(one=a\/one=b)/\(other=a\/other=b):=by
 rw[R.d1,R.d2];by_cases e:r.length % 2=0
 ·rw[iP e,iP e];exact⟨.inl rfl,.inr rfl⟩
 ·rw[iG e,iG e];exact⟨.inr rfl,.inl rfl⟩
theorem RwI.ne(R:RwI es cs a b p r x one other)(ab:a≠b):one≠other:=by
 rw[R.d1,R.d2];by_cases e:r.length % 2=0
 ·rw[iP e,iP e];exact ab
 ·rw[iG e,iG e];exact ab.symm
theorem RwI.step(P:Prp es cs)(ab:a≠b)(R:RwI es cs a b p r x one other){t:Nat}{e:Nat×Nat}(he:es[t]?=some e)(hx:e.1=x\/e.2=x)(ne:e.1≠e.2)(ht:hu cs t=one):RwI es cs a b p (r++[t]) (farE e x) other one:=by
 have ax:AtP es t x:=⟨e,he,hx⟩
 have fx:farE e x≠x:=by unfold farE;split<;>rcases hx with z | z<;>omega
 have af:AtP es t (farE e x):=⟨e,he,by unfold farE;split<;>simp⟩
 have ends:∀ y,AtP es t y->y=x\/y=farE e x:=by
  rintro y ⟨e',he',hy⟩;rw[he]at he';cases he';unfold farE;rcases hx with hx | hx<;>rcases hy with hy | hy<;>split<;>omega
 have tn:t∉r:=λz=>R.non t z ax ht;have oo:=R.ne ab
 have fin1:∀ u,AtP es u x->(hu cs u=a\/hu cs u=b)->u∈r++[t]:=λu hu' hc=>by
  rcases R.two hc with z | z
  ·rw[P.one u t x hu' ax (z.trans ht.symm)];simp
  ·exact Te _ (R.oth u hu' z)
 have ll:(r++[t]).length=r.length+1:=by simp
 refine⟨?_,λu hu'=>?_,λi u hi=>?_,?_,?_,λs hs y hy nx u hu' hc=>?_,λu hu' hc=>?_,λu hu' hy hc=>?_,λu hu'=>?_,λz=>?_,λu hu'=>?_,λT c0 c1 u hu'=>?_⟩
 ·rw[UQ];exact⟨R.nd,by simp,λc hc d hd=>by rw[Sg.mp hd];exact λz=>tn (z▸hc)⟩
 ·rcases Sw.mp hu' with z | z
  ·exact R.lt u z
  ·rw[Sg.mp z];exact ax.lt
 ·rcases FH hi with⟨e1,e2⟩ | hi
  ·rw[e2,ht,e1];exact R.d1
  ·exact R.alt i u hi
 ·rw[ll,R.d2];by_cases e:r.length % 2=0
  ·rw[iP e,iG (by omega)]
  ·rw[iG e,iP (by omega)]
 ·rw[ll,R.d1];by_cases e:r.length % 2=0
  ·rw[iP e,iG (by omega)]
  ·rw[iG e,iP (by omega)]
 ·rcases Sw.mp hs with z | z
  ·by_cases yx:y=x
   ·rw[yx]at hu';exact fin1 u hu' hc
   ·exact Te _ (R.fin s z y hy yx u hu' hc)
  ·rw[Sg.mp z]at hy;rcases ends y hy with q | q
   ·rw[q]at hu';exact fin1 u hu' hc
   ·exact absurd q nx
 ·rw[P.one u t _ hu' af (hc.trans ht.symm)];simp
 ·rcases Sw.mp hu' with z | z
  ·exact tn (R.fin u z _ hy fx t af (by rw[ht];exact R.ab.1))
  ·rw[Sg.mp z,ht]at hc;exact oo hc
 ·rw[List.getLast?_concat]at hu';cases hu';exact af
 ·simp at z
 ·cases hr:r with
  | nil=>
    rw[hr]at hu';have:t=u:=by simpa using hu'
    rw[<-this,<-R.beg hr];exact ax
  | cons s rs=>
    rw[hr]at hu';exact R.fst u (by rw[hr];simpa using hu')
 ·rcases Sw.mp hu' with z | z
  ·refine R.all T c0 (λs hs=>c1 s ?_) u z;cases hr:r with
   | nil=>rw[hr]at hs;simp at hs
   | cons s' rs=>rw[hr]at hs;simpa using hs
  ·rw[Sg.mp z];cases hr:r with
   | nil=>exact c1 t (by rw[hr];rfl)
   | cons s' rs=>
     have hl:r.getLast?=some (r.getLast (by rw[hr];simp)):=List.getLast?_eq_some_getLast (by rw[hr];simp);have sm:=List.getLast_mem (l:=r) (by rw[hr];simp);refine c0 _ t x (R.all T c0 (λs hs=>c1 s ?_) _ sm) (R.lst _ hl) ax (by rw[ht];exact R.ab.1);rw[hr]at hs ⊢;simpa using hs
theorem RwI.len(R:RwI es cs a b p r x one other):r.length<=es.length:=by
 have:=List.Nodup.length_le_of_subset R.nd (l₂:=Sf es.length) λt ht=>TC.mpr (R.lt t ht)
 rwa [T8]at this
theorem RwI.clo(R:RwI es cs a b p r x one other)(no:∀ u,AtP es u x->hu cs u≠one):Clo es cs a b r:=by
 intro t ht y hy u hu' hc;by_cases yx:y=x
 ·rw[yx]at hu';rcases R.two hc with z | z
  ·exact absurd z (no u hu')
  ·exact R.oth u hu' z
 ·exact R.fin t ht y hy yx u hu' hc
end
noncomputable def B5(es:EE)(cs:List Nat)(x h:Nat):Option Nat:=(m8 es x es.length).find? λt=>decide (hu cs t=h)
theorem Bo{es:EE}{cs:List Nat}{x h t:Nat}(z:B5 es cs x h=some t):AtP es t x/\hu cs t=h:=by
 unfold B5 at z;exact⟨mem_tiesAt.mp (List.mem_of_find?_eq_some z),by simpa using List.find?_some z⟩
theorem DQ{es:EE}{cs:List Nat}{x h:Nat}(z:B5 es cs x h=none):∀ u,AtP es u x->hu cs u≠h:=by
 unfold B5 at z;rw[Uj]at z;exact λu hu'=>by simpa using z u (mem_tiesAt.mpr hu')
noncomputable def rwF(es:EE)(cs:List Nat):Nat->Nat->Nat->Nat->List Nat
 | 0,_,_,_=>[]
 | k+1,x,one,other=>match B5 es cs x one with
   | none=>[]
   | some t=>t::rwF es cs k (farE (es.getD t (0,0)) x) other one
theorem E8{es:EE}{cs:List Nat}{a b p:Nat}(P:Prp es cs)(ab:a≠b)(hne:∀ e∈es,e.1≠e.2):∀(k:Nat) (r:List Nat) (x one other:Nat),RwI es cs a b p r x one other->es.length+1<=r.length+k->∃ x' one' other',RwI es cs a b p (r++rwF es cs k x one other) x' one' other'/\∀ u,AtP es u x'->hu cs u≠one'
 | 0,r,x,one,other,R,h=>by have:=R.len;omega
 | k+1,r,x,one,other,R,h=>by
   unfold rwF;cases ht:B5 es cs x one with
   | none=>exact⟨x,one,other,by simpa using R,DQ ht⟩
   | some t=>
     obtain⟨⟨e,he,hx⟩,hc⟩:=Bo ht;have ge:es.getD t (0,0)=e:=by rw[Sr,he];rfl
     dsimp only;rw[ge];have R':=R.step P ab he hx (hne e (Sh he)) hc;obtain⟨x',o1,o2,R2,no⟩:=E8 P ab hne k _ _ _ _ R' (by rw[SY];simp;omega);exact⟨x',o1,o2,by simpa using R2,no⟩
noncomputable def exL(cs r:List Nat)(a b:Nat):List Nat:=(Sf cs.length).map λt=>if t∈r then (if hu cs t=a then b else a) else hu cs t
theorem y0(cs r:List Nat)(a b:Nat):(exL cs r a b).length=cs.length:=by unfold exL;rw[SX,T8]
theorem Bp{cs r:List Nat}{a b t:Nat}(h:t<cs.length):hu (exL cs r a b) t=if t∈r then (if hu cs t=a then b else a) else hu cs t:=by
 unfold exL;show Th _ t 0=_;rw[Sr,Sq,Tr h];rfl
theorem LI{es:EE}{cs r:List Nat}{a b:Nat}(P:Prp es cs)(C:Clo es cs a b r)(hr:∀ t∈r,hu cs t=a\/hu cs t=b):Prp es (exL cs r a b):=by
 refine⟨(y0 ..).trans P.len,λt u y ht hu' h=>?_⟩;have tl:=ht.lt;have ul:=hu'.lt;rw[<-P.len]at tl ul;rw[Bp tl,Bp ul]at h;by_cases z1:t∈r
 ·by_cases z2:u∈r
  ·rw[iP z1,iP z2]at h;refine P.one t u y ht hu' ?_;rcases hr t z1 with q1 | q1<;>rcases hr u z2 with q2 | q2
   ·rw[q1,q2]
   ·rw[iP q1]at h;by_cases q3:hu cs u=a
    ·rw[q1,q3]
    ·rw[iG q3]at h;rw[q1,q2,h]
   ·rw[iP q2]at h;by_cases q3:hu cs t=a
    ·rw[q2,q3]
    ·rw[iG q3]at h;rw[q1,q2,h]
   ·rw[q1,q2]
  ·rw[iP z1,iG z2]at h;exact absurd (C t z1 y ht u hu' (by split at h;exact .inr h.symm;exact .inl h.symm)) z2
 ·by_cases z2:u∈r
  ·rw[iG z1,iP z2]at h;exact absurd (C u z2 y hu' t ht (by split at h;exact .inr h;exact .inl h)) z1
  ·rw[iG z1,iG z2]at h;exact P.one t u y ht hu' h
theorem LJ(cs:List Nat):(Sf cs.length).map (hu cs)=cs:=by
 apply VX;intro i;rw[Sq];by_cases h:i<cs.length
 ·rw[Tr h,Se h];show some (cs.getD i 0)=_;rw[Sr,Se h];rfl
 ·rw[UB (by rw[T8];omega),UB (by omega)];rfl
theorem AS(cs:List Nat)(h:Nat):cs.count h=((Sf cs.length).filter λt=>decide (hu cs t=h)).length:=by
 conv=>lhs;rw[<-LJ cs]
 rw[Vn,Vh,List.countP_eq_length_filter]
 congr 1
theorem Cd{r:List Nat}{E:Nat}(nd:r.Nodup)(lt:∀ t∈r,t<E)(q:Nat->Bool):((Sf E).filter λt=>decide (t∈r)&&q t).length=(r.filter q).length:=by
 refine((Uk (UK.filter _) (nd.filter _)).mpr λt=>?_).length_eq;rw[T9,T9,TC,SW,dQ];exact⟨λh=>h.2,λh=>⟨lt t h.1,h⟩⟩
theorem E9{cs:List Nat}{a b:Nat}(ab:a≠b):∀(r:List Nat) (k:Nat),(∀ i t:Nat,r[i]?=some t->hu cs t=if (i+k) % 2=0 then a else b)->(r.filter λt=>decide (hu cs t=a)).length=(r.length+1 - k % 2) / 2/\(r.filter λt=>decide (hu cs t=b)).length=(r.length+k % 2) / 2
 | [],k,_=>by have:=Vk k (show 0<2 by decide);constructor<;>simp<;>omega
 | t::r,k,h=>by
   have ih:=E9 ab r (k+1) λi u hi=>by
    have:=h (i+1) u (by simpa using hi);rw[this,show i+1+k=i+(k+1) by omega]
   have h0:=h 0 t rfl;rw[Nat.zero_add]at h0;rw[Tf,Tf,TM];by_cases e:k % 2=0
   ·rw[iP e]at h0;rw[iP (by simpa using h0),iG (by rw[h0];simpa using ab),TM];omega
   ·rw[iG e]at h0;rw[iG (by rw[h0];simpa using ab.symm),iP (by simpa using h0),TM];omega
theorem LK{es:EE}{cs r:List Nat}{a b p x one other:Nat}(P:Prp es cs)(ab:a≠b)(R:RwI es cs a b p r x one other)(od:r.length % 2=1):(exL cs r a b).count a+1=cs.count a/\(exL cs r a b).count b=cs.count b+1/\∀ h,h≠a->h≠b->(exL cs r a b).count h=cs.count h:=by
 have lt:∀ t∈r,t<cs.length:=λt ht=>by rw[P.len];exact R.lt t ht
 have two:∀ t∈r,hu cs t=a\/hu cs t=b:=λt ht=>by
  obtain⟨i,hi⟩:=Tp ht;rw[R.alt i t hi];split<;>simp
 obtain⟨n1,n2⟩:=E9 ab r 0 λi t hi=>by rw[R.alt i t hi,Vu]
 rw[Vv]at n1 n2
 have sp:∀(ds:List Nat) (h:Nat),ds.length=cs.length->ds.count h=((Sf cs.length).filter λt=>decide (t∈r)&&decide (hu ds t=h)).length+((Sf cs.length).filter λt=>!decide (t∈r)&&decide (hu ds t=h)).length:=λds h hl=>by
  rw[AS,hl];have:=Hue.len_split (λt=>decide (hu ds t=h)) (λt=>decide (t∈r)) (Sf cs.length);rw[this]
  congr 1
  ·congr 1;exact Tq λt _=>Vq ..
  ·congr 1;exact Tq λt _=>Vq ..
 have out:∀ h,((Sf cs.length).filter λt=>!decide (t∈r)&&decide (hu (exL cs r a b) t=h))=(Sf cs.length).filter λt=>!decide (t∈r)&&decide (hu cs t=h):=λh=>Tq λt ht=>by
  by_cases z:t∈r
  ·simp[z]
  ·rw[Bp (TC.mp ht),iG z]
 have ins:∀(h:Nat) (q:Nat->Bool),(∀ t∈r,decide (hu (exL cs r a b) t=h)=q t)->((Sf cs.length).filter λt=>decide (t∈r)&&decide (hu (exL cs r a b) t=h)).length=(r.filter q).length:=λh q hq=>by
  rw[Cd R.nd lt]
  congr 1
  exact Tq hq
 have hue:∀ t∈r,hu (exL cs r a b) t=if hu cs t=a then b else a:=λt ht=>by rw[Bp (lt t ht),iP ht]
 have ia:=ins a (λt=>decide (hu cs t=b)) λt ht=>by
  rw[hue t ht];rcases two t ht with z | z
  ·rw[iP z,z];rw[decide_eq_decide];exact⟨λq=>q.symm,λq=>q.symm⟩
  ·rw[iG (by rw[z];exact ab.symm),z];simp
 have ib:=ins b (λt=>decide (hu cs t=a)) λt ht=>by
  rw[hue t ht];rcases two t ht with z | z
  ·rw[iP z,z];simp
  ·rw[iG (by rw[z];exact ab.symm),z];rw[decide_eq_decide];exact⟨λq=>q.symm,λq=>q.symm⟩
 have la:=y0 cs r a b;refine⟨?_,?_,λh ha hb=>?_⟩
 ·rw[sp _ a la,sp cs a rfl,out,ia,Cd R.nd lt];omega
 ·rw[sp _ b la,sp cs b rfl,out,ib,Cd R.nd lt];omega
 ·rw[sp _ h la,sp cs h rfl,out]
  congr 1
  rw[Cd R.nd lt,Cd R.nd lt]
  congr 1
  refine Tq λt ht=>?_;rw[hue t ht,decide_eq_decide];rcases two t ht with z | z
  ·rw[iP z,z];exact⟨λq=>absurd q.symm hb,λq=>absurd q.symm ha⟩
  ·rw[iG (by rw[z];exact ab.symm),z];exact⟨λq=>absurd q.symm ha,λq=>absurd q.symm hb⟩
theorem DR{q:Nat->Nat->Bool}(t:Nat)(X:List Nat):∀ ps:List Nat,(ps.flatMap λp=>(t::X).filter (q p)).length=(ps.filter λp=>q p t).length+(ps.flatMap λp=>X.filter (q p)).length
 | []=>rfl
 | p::ps=>by
   have ih:=DR (q:=q) t X ps;rw[UE,UE,SY,SY,ih,Tf,Tf];cases q p t<;>simp<;>omega
noncomputable def atB(es:EE)(p t:Nat):Bool:=match es[t]? with | some e=>decide (e.1=p)||decide (e.2=p) | none=>false
theorem BW{es:EE}{p t:Nat}:atB es p t=true↔AtP es t p:=by
 unfold atB AtP;cases es[t]? with
 | none=>simp
 | some e=>simp
theorem LL{n:Nat}{es:EE}(hen:∀ e∈es,e.1<e.2/\e.2<n):∀ X:List Nat,(∀ t∈X,t<es.length)->((Sf n).flatMap λp=>X.filter (atB es p)).length=2 * X.length
 | [],_=>by
   induction Sf n with
   | nil=>rfl
   | cons p ps ih=>rw[UE,SY,ih];rfl
 | t::X,h=>by
   have ih:=LL hen X λu hu'=>h u (Su _ hu');rw[DR,ih,TM];have ht:=h t (T7 ..);have he:=Se ht;have hb:=hen _ (TY ht);generalize es[t]=e at he hb
   have e2:((Sf n).filter λp=>atB es p t).length=2:=by
    have s:=Hue.len_split (λp=>atB es p t) (λp=>decide (p=e.1)) (Sf n)
    have s1:=Hue.len_one (p:=λp=>atB es p t&&decide (p=e.1)) UK (a:=e.1) (show e.1∈Sf n from TC.mpr (by omega)) λq _=>by
     rw[SW,dQ,BW];exact⟨λz=>z.2,λz=>⟨⟨e,he,.inl z.symm⟩,z⟩⟩
    have s2:=Hue.len_one (p:=λp=>atB es p t&&!decide (p=e.1)) UK (a:=e.2) (TC.mpr hb.2) λq _=>by
     rw[SW,BW];simp only[T6,decide_eq_false_iff_not];constructor
     ·rintro⟨⟨e',he',z⟩,y⟩;rw[he]at he';cases he';rcases z with z | z
      ·exact absurd z.symm y
      ·exact z.symm
     ·rintro rfl;exact⟨⟨e,he,.inr rfl⟩,by omega⟩
    omega
   omega
section
variable{n:Nat}{es:EE}{cs:List Nat}{a b:Nat}
theorem FK(P:Prp es cs)(hen:∀ e∈es,e.1<e.2/\e.2<n)(ab:a≠b)(ev:∀ p,p<n->(∀ u,AtP es u p->hu cs u≠b)->(rwF es cs (es.length+1) p a b).length % 2=0):∀(m:Nat) (T:List Nat),T.length<=m->T.Nodup->(∀ t∈T,t<es.length)->(∀ t∈T,hu cs t=a\/hu cs t=b)->Clo es cs a b T->(T.filter λt=>decide (hu cs t=a)).length<=(T.filter λt=>decide (hu cs t=b)).length
 | m,T,hm,nd,lt,two,C=>by
   have hne:∀ e∈es,e.1≠e.2:=λe he=>Sl (hen e he).1
   have atn:∀ t p,AtP es t p->p<n:=by
    rintro t p ⟨e,he,z⟩;have:=hen e (Sh he);rcases z with z | z<;>omega
   by_cases h:∃ p t,t∈T/\AtP es t p/\hu cs t=a/\∀ u,AtP es u p->hu cs u≠b
   ·obtain⟨p,t,ht,hp,ha,hb⟩:=h;obtain⟨x,o1,o2,R,no⟩:=E8 P ab hne (es.length+1) [] p a b (RwI.nil hb) (by simp);have e:=ev p (atn t p hp) hb;rw[Ud]at R
    have r0:(rwF es cs (es.length+1) p a b)[0]?=some t:=by
     show(rwF es cs (es.length+1) p a b)[0]?=some t;unfold rwF;cases hz:B5 es cs p a with
     | none=>exact absurd ha (DQ hz t hp)
     | some s=>
       obtain⟨z1,z2⟩:=Bo hz;rw[P.one s t p z1 hp (z2.trans ha.symm)];rfl
    generalize rwF es cs (es.length+1) p a b=r at *;have CR:=R.clo no;have sub:∀ u∈r,u∈T:=R.all (λu=>u∈T) (λs u y hs hy hu' hc=>C s hs y hy u hu' hc) λs hs=>by rw[r0]at hs;cases hs;exact ht
    have tr:t∈r:=Sh r0;obtain⟨n1,n2⟩:=E9 ab r 0 λi t hi=>by rw[R.alt i t hi,Vu]
    rw[Vv]at n1 n2
    have cut:∀ q:Nat->Bool,(T.filter q).length=(r.filter q).length+((T.filter λu=>!decide (u∈r)).filter q).length:=λq=>by
     have s:=Hue.len_split q (λu=>decide (u∈r)) T;rw[s]
     congr 1
     ·refine((Uk (nd.filter _) (R.nd.filter _)).mpr λu=>?_).length_eq;rw[T9,T9,SW,dQ];exact⟨λz=>⟨z.2.2,z.2.1⟩,λz=>⟨sub u z.1,z.2,z.1⟩⟩
     ·rw[UV]
    have less:(T.filter λu=>!decide (u∈r)).length<T.length:=by
     have s:=cut λ_=>true;have z1:T.filter (λ_=>true)=T:=UG.mpr λ_ _=>rfl;have z2:r.filter (λ_=>true)=r:=UG.mpr λ_ _=>rfl;have z3:(T.filter λu=>!decide (u∈r)).filter (λ_=>true)=T.filter λu=>!decide (u∈r):=UG.mpr λ_ _=>rfl;rw[z1,z2,z3]at s;have:0<r.length:=UZ tr;omega
    cases m with
    | zero=>omega
    | succ m=>
      have ih:=FK P hen ab ev m (T.filter λu=>!decide (u∈r)) (by omega) (nd.filter _) (λu hu'=>lt u (T9.mp hu').1) (λu hu'=>two u (T9.mp hu').1) λs hs y hy u hu' hc=>by
       rw[T9,T6,decide_eq_false_iff_not]at hs ⊢;exact⟨C s hs.1 y hy u hu' hc,λz=>hs.2 (CR u z y hu' s hy (two s hs.1))⟩
      have c1:=cut λu=>decide (hu cs u=a);have c2:=cut λu=>decide (hu cs u=b);omega
   ·have per:∀ p∈Sf n,((T.filter λt=>decide (hu cs t=a)).filter (atB es p)).length<=((T.filter λt=>decide (hu cs t=b)).filter (atB es p)).length:=λp _=>by
     have nd1:((T.filter λt=>decide (hu cs t=a)).filter (atB es p)).Nodup:=(nd.filter _).filter _;cases hz:(T.filter λt=>decide (hu cs t=a)).filter (atB es p) with
     | nil=>exact UR _
     | cons t l=>
       have ht:t∈(T.filter λt=>decide (hu cs t=a)).filter (atB es p):=by rw[hz];exact T7 ..
       rw[T9,T9,BW,dQ]at ht;obtain⟨⟨tT,ta⟩,tp⟩:=ht
       have l0:l=[]:=by
        cases l with
        | nil=>rfl
        | cons u l=>
          have hu2:u∈(T.filter λt=>decide (hu cs t=a)).filter (atB es p):=by rw[hz];simp
          rw[T9,T9,BW,dQ]at hu2;have:=P.one t u p tp hu2.2 (ta.trans hu2.1.2.symm);rw[hz,this]at nd1;simp at nd1
       rw[l0];have:∃ u,AtP es u p/\hu cs u=b:=Classical.byContradiction λno=>h ⟨p,t,tT,tp,ta,λu hu' z=>no ⟨u,hu',z⟩⟩;obtain⟨u,up,ub⟩:=this;refine UZ (a:=u) ?_;rw[T9,T9,BW,dQ];exact⟨⟨C t tT p tp u up (.inr ub),ub⟩,up⟩
    have s1:=LL hen (T.filter λt=>decide (hu cs t=a)) λt ht=>lt t (T9.mp ht).1;have s2:=LL hen (T.filter λt=>decide (hu cs t=b)) λt ht=>lt t (T9.mp ht).1;have:=FJ per;omega
theorem Q2(P:Prp es cs)(hen:∀ e∈es,e.1<e.2/\e.2<n)(ab:a≠b)(h:cs.count b<cs.count a):∃ p,p<n/\(∀ u,AtP es u p->hu cs u≠b)/\(rwF es cs (es.length+1) p a b).length % 2=1:=by
 refine Classical.byContradiction λno=>?_
 have ev:∀ p,p<n->(∀ u,AtP es u p->hu cs u≠b)->(rwF es cs (es.length+1) p a b).length % 2=0:=λp hp hb=>by
  have:=Vk (rwF es cs (es.length+1) p a b).length (show 0<2 by decide);exact Classical.byContradiction λz=>no ⟨p,hp,hb,by omega⟩
 have:=FK P hen ab ev _ ((Sf es.length).filter λt=>decide (hu cs t=a)||decide (hu cs t=b)) (Sd _) (UK.filter _) (λt ht=>TC.mp (T9.mp ht).1) (λt ht=>by
  have:=(T9.mp ht).2
  simpa using this) λt ht y hy u hu' hc=>by
   rw[T9,TC];exact⟨hu'.lt,by simpa using hc⟩
 rw[UV,UV]at this;have e1:((Sf es.length).filter λt=>decide (hu cs t=a)&&(decide (hu cs t=a)||decide (hu cs t=b)))=(Sf es.length).filter λt=>decide (hu cs t=a):=Tq λt _=>by cases decide (hu cs t=a)<;>simp
 have e2:((Sf es.length).filter λt=>decide (hu cs t=b)&&(decide (hu cs t=a)||decide (hu cs t=b)))=(Sf es.length).filter λt=>decide (hu cs t=b):=Tq λt _=>by cases decide (hu cs t=b)<;>simp
 rw[e1,e2,<-P.len,<-AS,<-AS]at this;omega
end
noncomputable def Evn(cs:List Nat)(H:Nat):Prop:=∀ g h,g<H->h<H->cs.count g<=cs.count h+1
structure IsMx(f:Nat->Nat)(H a:Nat):Prop where
 lt:a<H
 ge:∀ g,g<H->f g<=f a
 fst:∀ g,g<a->f g≠f a
structure IsMn(f:Nat->Nat)(H a:Nat):Prop where
 lt:a<H
 le:∀ g,g<H->f a<=f g
 fst:∀ g,g<a->f g≠f a
theorem IsMx.uniq{f:Nat->Nat}{H a b:Nat}(x:IsMx f H a)(y:IsMx f H b):a=b:=by
 have e:f a=f b:=Vi (y.ge a x.lt) (x.ge b y.lt);rcases Ua a b with z | z | z
 ·exact absurd e (y.fst a z)
 ·exact z
 ·exact absurd e.symm (x.fst b z)
theorem IsMn.uniq{f:Nat->Nat}{H a b:Nat}(x:IsMn f H a)(y:IsMn f H b):a=b:=by
 have e:f a=f b:=Vi (x.le b y.lt) (y.le a x.lt);rcases Ua a b with z | z | z
 ·exact absurd e (y.fst a z)
 ·exact z
 ·exact absurd e.symm (x.fst b z)
noncomputable def OkP(es:EE)(cs:List Nat)(a b p:Nat):Prop:=(∀ u,AtP es u p->hu cs u≠b)/\(rwF es cs (es.length+1) p a b).length % 2=1
structure StepIs(n:Nat)(es:EE)(H:Nat)(cs:List Nat)(s:Nat×Nat×Nat):Prop where
 mx:IsMx (λh=>cs.count h) H s.2.1
 mn:IsMn (λh=>cs.count h) H s.2.2
 two:cs.count s.2.2+2<=cs.count s.2.1
 lt:s.1<n
 ok:OkP es cs s.2.1 s.2.2 s.1
 fst:∀ q,q<s.1->¬ OkP es cs s.2.1 s.2.2 q
theorem StepIs.uniq{n:Nat}{es:EE}{H:Nat}{cs:List Nat}{s u:Nat×Nat×Nat}(x:StepIs n es H cs s)(y:StepIs n es H cs u):s=u:=by
 obtain⟨p,a,b⟩:=s;obtain⟨p',a',b'⟩:=u;obtain rfl:a=a':=x.mx.uniq y.mx;obtain rfl:b=b':=x.mn.uniq y.mn;rcases Ua p p' with z | z | z
 ·exact absurd x.ok (y.fst p z)
 ·rw[z]
 ·exact absurd y.ok (x.fst p' z)
noncomputable def nxt(es:EE)(cs:List Nat)(s:Nat×Nat×Nat):List Nat:=exL cs (rwF es cs (es.length+1) s.1 s.2.1 s.2.2) s.2.1 s.2.2
inductive Evs(n:Nat)(es:EE)(H:Nat):List Nat->List (Nat×Nat×Nat)->List Nat->Prop where
 | nil (cs:List Nat):Evs n es H cs [] cs
 | cons {cs ds:List Nat} {s:Nat×Nat×Nat} {ss:List (Nat×Nat×Nat)} (h:StepIs n es H cs s) (r:Evs n es H (nxt es cs s) ss ds):Evs n es H cs (s::ss) ds
theorem Evs.snoc{n:Nat}{es:EE}{H:Nat}{cs ds:List Nat}{s:Nat×Nat×Nat}{ss:List (Nat×Nat×Nat)}(r:Evs n es H cs ss ds)(h:StepIs n es H ds s):Evs n es H cs (ss++[s]) (nxt es ds s):=by
 induction r with
 | nil cs=>exact .cons h (.nil _)
 | cons h' r ih=>exact .cons h' (ih h)
theorem StepIs.not{n:Nat}{es:EE}{H:Nat}{cs:List Nat}{s:Nat×Nat×Nat}(h:StepIs n es H cs s)(e:Evn cs H):False:=by
 have:=e _ _ h.mx.lt h.mn.lt;have:=h.two;omega
theorem Evs.uniq{n:Nat}{es:EE}{H:Nat}{cs ds es':List Nat}{ss us:List (Nat×Nat×Nat)}(x:Evs n es H cs ss ds)(y:Evs n es H cs us es')(e1:Evn ds H)(e2:Evn es' H):ss=us/\ds=es':=by
 induction x generalizing us with
 | nil cs=>cases y with
   | nil=>exact⟨rfl,rfl⟩
   | cons h r=>exact(h.not e1).elim
 | cons h r ih=>cases y with
   | nil=>exact(h.not e2).elim
   | cons h' r'=>
     cases h.uniq h';obtain⟨z1,z2⟩:=ih r' e1;exact⟨by rw[z1],z2⟩
theorem Evs.even{n:Nat}{es:EE}{H:Nat}{cs ds:List Nat}{ss:List (Nat×Nat×Nat)}(x:Evs n es H cs ss ds)(e:Evn cs H):ss=[]/\ds=cs:=by
 cases x with
 | nil=>exact⟨rfl,rfl⟩
 | cons h r=>exact(h.not e).elim
noncomputable def tri:Nat->Nat
 | 0=>0
 | k+1=>tri k+k
noncomputable def At(f:Nat->Nat):Nat->Nat
 | 0=>0
 | k+1=>At f k+f k
theorem Bq{f g:Nat->Nat}:∀{H:Nat},(∀ h,h<H->f h=g h)->At f H=At g H
 | 0,_=>rfl
 | H+1,h=>by unfold At;rw[Bq λi hi=>h i (by omega),h H (by omega)]
theorem Ce{f g:Nat->Nat}{a:Nat}:∀{H:Nat},a<H->(∀ h,h<H->h≠a->f h=g h)->At f H+g a=At g H+f a
 | 0,h,_=>by omega
 | H+1,h,z=>by
   unfold At;by_cases e:a=H
   ·subst e;rw[Bq λi hi=>z i (by omega) (by omega)];omega
   ·have:=Ce (H:=H) (by omega) λi hi ne=>z i (by omega) ne;rw[z H (by omega) (λq=>e q.symm)];omega
noncomputable def mu(cs:List Nat)(H:Nat):Nat:=At (λh=>tri (cs.count h)) H
theorem NG{cs ds:List Nat}{H a b:Nat}(ha:a<H)(hb:b<H)(ab:a≠b)(h2:cs.count b+2<=cs.count a)(c1:ds.count a+1=cs.count a)(c2:ds.count b=cs.count b+1)(c3:∀ h,h≠a->h≠b->ds.count h=cs.count h):mu ds H<mu cs H:=by
 have s1:=Ce (f:=λh=>tri (ds.count h)) (g:=λh=>if h=a then tri (cs.count a) else tri (ds.count h)) (a:=a) (H:=H) ha λh _ ne=>by rw[iG ne]
 have s2:=Ce (f:=λh=>if h=a then tri (cs.count a) else tri (ds.count h)) (g:=λh=>tri (cs.count h)) (a:=b) (H:=H) hb λh _ ne=>by
  by_cases z:h=a
  ·rw[iP z,z]
  ·rw[iG z,c3 h z ne]
 rw[iP rfl]at s1;rw[iG ab.symm]at s2;unfold mu;have t1:tri (cs.count a)=tri (ds.count a)+ds.count a:=by rw[<-c1];rfl
 have t2:tri (ds.count b)=tri (cs.count b)+cs.count b:=by rw[c2];rfl
 omega
theorem NH{n:Nat}{es:EE}{H:Nat}{cs:List Nat}{s:Nat×Nat×Nat}(P:Prp es cs)(hen:∀ e∈es,e.1<e.2/\e.2<n)(hH:∀ h∈cs,h<H)(S:StepIs n es H cs s):Prp es (nxt es cs s)/\(∀ h∈nxt es cs s,h<H)/\mu (nxt es cs s) H<mu cs H:=by
 have hne:∀ e∈es,e.1≠e.2:=λe he=>Sl (hen e he).1;have ab:s.2.1≠s.2.2:=λz=>by have:=S.two;rw[z]at this;omega
 obtain⟨x,o1,o2,R,no⟩:=E8 P ab hne (es.length+1) [] s.1 s.2.1 s.2.2 (RwI.nil S.ok.1) (by simp);rw[Ud]at R
 have two:∀ t∈rwF es cs (es.length+1) s.1 s.2.1 s.2.2,hu cs t=s.2.1\/hu cs t=s.2.2:=λt ht=>by
  obtain⟨i,hi⟩:=Tp ht;rw[R.alt i t hi];split<;>simp
 obtain⟨c1,c2,c3⟩:=LK P ab R S.ok.2;refine⟨LI P (R.clo no) two,λh hh=>?_,NG S.mx.lt S.mn.lt ab S.two c1 c2 c3⟩;unfold nxt exL at hh;obtain⟨t,ht,rfl⟩:=TJ.mp hh;have tl:=TC.mp ht;have m:=S.mx.lt;have m2:=S.mn.lt;split
 ·split<;>assumption
 ·refine hH _ ?_;show cs.getD t 0∈cs;rw[Sr,Se tl];exact TY tl
inductive Gd(V:Nat->List SV->Prop):Nat->Nat->SV->Prop where
 | non {k b:Nat}:Gd V k b .non
 | bl {k b:Nat} (c:Bool):Gd V k b (.bl c)
 | int {k b:Nat} {i:Int} (h:-1000000000000000000000<=i/\i<=1000000000000000000000):Gd V k b (.int i)
 | str {k b:Nat} {x:Str} (h:Sz 0 10 (.str x)) (hb:10<=b):Gd V k b (.str x)
 | tup {k b c:Nat} {xs:List SV} (h:∀ y∈xs,Gd V k b y) (hl:xs.length<=63) (hc:xs.length * (b+1)<=c):Gd V (k+1) c (.tup xs)
 | lst {k b c l:Nat} {xs:List SV} (hv:V l xs) (h:∀ y∈xs,Gd V k b y) (hl:xs.length<=63) (hc:xs.length * (b+1)<=c):Gd V (k+1) c (.loc l)
theorem Gd.see{V V':Nat->List SV->Prop}(i:∀ l xs,V l xs->V' l xs){k b:Nat}{x:SV}(h:Gd V k b x):Gd V' k b x:=by
 induction h with
 | non=>exact .non
 | bl c=>exact .bl c
 | int h=>exact .int h
 | str h hb=>exact .str h hb
 | tup _ hl hc ih=>exact .tup ih hl hc
 | lst hv _ hl hc ih=>exact .lst (i _ _ hv) ih hl hc
theorem Gd.up{V:Nat->List SV->Prop}{k b k' b':Nat}{x:SV}(h:Gd V k b x)(hk:k<=k')(hb:b<=b'):Gd V k' b' x:=by
 induction h generalizing k' b' with
 | non=>exact .non
 | bl c=>exact .bl c
 | int h=>exact .int h
 | str h h10=>exact .str h (TH h10 hb)
 | tup _ hl hc ih=>
   obtain⟨k',rfl⟩:∃ j,k'=j+1:=⟨k' - 1,by omega⟩
   exact .tup (λy hy=>ih y hy (by omega) (Sd _)) hl (TH hc hb)
 | lst hv _ hl hc ih=>
   obtain⟨k',rfl⟩:∃ j,k'=j+1:=⟨k' - 1,by omega⟩
   exact .lst hv (λy hy=>ih y hy (by omega) (Sd _)) hl (TH hc hb)
noncomputable def VS(S:Sto)(l:Nat)(xs:List SV):Prop:=S[l]?=some (.lst xs)
noncomputable def isI:SV->Bool
 | .int _=>true
 | _=>false
section
variable{Δ:Nat->Sn}
noncomputable def Q3(s:Sn):Prop:=∀{x:SV} {S:Sto} {k b:Nat} {Q:QE},Gd (VS S) k b x->Q (.bl (isI x)) S->s [x] S Q
theorem NI{D:Df}(hb:D.body=GQ)(hN:D.N.length=1)(hp:D.ps.length=1):Q3 (g6 Δ D):=by
 intro x S k b Q h q;unfold g6;rw[hb,hN];cases h with
 | non=>exact⟨hp.symm,_,rfl,_,nofun,rfl,_,rfl,ifF rfl q⟩
 | bl c=>exact⟨hp.symm,_,rfl,_,nofun,rfl,_,rfl,ifT rfl ⟨_,rfl,_,nofun,rfl,_,rfl,q⟩⟩
 | int h=>exact⟨hp.symm,_,rfl,_,nofun,rfl,_,rfl,ifT rfl ⟨_,rfl,_,nofun,rfl,_,rfl,q⟩⟩
 | str h hb'=>exact⟨hp.symm,_,rfl,_,nofun,rfl,_,rfl,ifF rfl q⟩
 | tup h hl hc=>exact⟨hp.symm,_,rfl,_,nofun,rfl,_,rfl,ifF rfl q⟩
 | lst hv h hl hc=>exact⟨hp.symm,_,rfl,_,nofun,As hv,_,rfl,ifF rfl q⟩
theorem NJ(f:Nat->Bool):∀ n:Nat,blS ((Sf n).map λi => .bl (f i))=some ((Sf n).map f):=by
 have go:∀ l:List Nat,blS (l.map λi => .bl (f i))=some (l.map f):=λl=>by
  induction l with
  | nil=>rfl
  | cons a l ih=>rw[TU,TU];simp[blS,ih]
 exact λn=>go _
theorem all_mapF{f:Nat->Bool}{n:Nat}:((Sf n).map f).all id=true↔∀ i,i<n->f i=true:=by
 rw[Sy];constructor
 ·exact λh i hi=>h _ (TJ.mpr ⟨i,TC.mpr hi,rfl⟩)
 ·rintro h x hx;obtain⟨i,hi,rfl⟩:=TJ.mp hx;exact h i (TC.mp hi)
theorem LM(hΔ:∀ f,MonoN (Δ f)){e:Ex}{keep:Sto->Prop}{g:Tg}{ρ:EnvS}{Q:List SV->Sto->Prop}(f:Nat->Bool){xs:List SV}{S:Sto}(hl:xs.length<=1000)(hk:∀ S',Gw S S'->keep S')
 (hs:∀(i:Nat) (x:SV) (S':Sto),xs[i]?=some x->Gw S S'->wTg g x ρ λρ2=>(wEx Δ e).1 ρ2 S' λy S2=>y = .bl (f i)/\Gw S S2)
 (q:∀ S',Gw S S'->Q ((Sf xs.length).map λi => .bl (f i)) S'):m7 keep g (wEo Δ .no).2 (wEx Δ e).1 ρ Q xs [] S:=by
 refine h8 (j0 hΔ _).2 (c8 hΔ _).1 (λi ys S'=>Gw S S'/\ys=(Sf i).map λi => .bl (f i)) ⟨Gw.refl S,rfl⟩ (λ_ _ _ h=>hk _ h.1) ?_ ?_
 ·rintro i x ys S' hx ⟨G,rfl⟩;have hi:=(gM hx).1;refine u9 g (λρ2 h=>?_) (hs i x S' hx G);refine(c8 hΔ e).1 _ _ _ _ (λy S2 h=>⟨by rw[SX,T8];show _<100000;omega,h.2,?_⟩) h;rw[h.1,Tj,Sx];rfl
 ·rintro ys S' ⟨G,rfl⟩;exact q S' G
theorem Gd.grow{S S':Sto}{k b:Nat}{x:SV}(h:Gd (VS S) k b x)(G:Gw S S'):Gd (VS S') k b x:=h.see λl xs e=>G.keep l _ e
noncomputable def Rg:List Stm:=[(.ret (.bi .isi (.cons (.var 0) (.cons (.tup (.cons (.tyc .list) (.cons (.tyc .tuple) .nil))) .nil))))]
noncomputable def isL:SV->Bool
 | .tup _=>true
 | .loc _=>true
 | _=>false
noncomputable def Q4(s:Sn):Prop:=∀{x:SV} {S:Sto} {k b:Nat} {Q:QE},Gd (VS S) k b x->Q (.bl (isL x)) S->s [x] S Q
theorem NK{D:Df}(hb:D.body=Rg)(hN:D.N.length=1)(hp:D.ps.length=1):Q4 (g6 Δ D):=by
 intro x S k b Q h q;unfold g6;rw[hb,hN];have b2:2<=big:=by decide
 cases h with
 | non=>exact⟨hp.symm,_,rfl,b2,_,[.list,.tuple],by decide,rfl,rfl,q⟩
 | bl c=>exact⟨hp.symm,_,rfl,b2,_,[.list,.tuple],by decide,rfl,rfl,q⟩
 | int h=>exact⟨hp.symm,_,rfl,b2,_,[.list,.tuple],by decide,rfl,rfl,q⟩
 | str h hb'=>exact⟨hp.symm,_,rfl,b2,_,[.list,.tuple],by decide,rfl,rfl,q⟩
 | tup h hl hc=>exact⟨hp.symm,_,rfl,b2,_,[.list,.tuple],by decide,rfl,rfl,q⟩
 | lst hv h hl hc=>exact⟨hp.symm,_,rfl,b2,_,[.list,.tuple],by decide,As hv,rfl,q⟩
end
structure SeqV(S:Sto)(x:SV)(xs:List SV):Prop where
 seq:∀ S',Gw S S'->seqS x S'=some xs
 keep:∀ S1 S',Gw S S1->Gw S S'->keepS x S1 S'
 len:xs.length<=63
 gd:∃ k b,∀ y∈xs,Gd (VS S) k b y
 ls:isL x=true
theorem Gd.split{S:Sto}{k b:Nat}{x:SV}(h:Gd (VS S) k b x):(isL x=false/\∀ xs,seqS x S≠some xs)\/∃ xs,SeqV S x xs:=by
 cases h with
 | non=>exact .inl ⟨rfl,nofun⟩
 | bl c=>exact .inl ⟨rfl,nofun⟩
 | int h=>exact .inl ⟨rfl,nofun⟩
 | str h hb'=>exact .inl ⟨rfl,nofun⟩
 | tup h hl hc=>exact .inr ⟨_,λ_ _=>rfl,λ_ _ _ _=>trivial,hl,⟨_,_,h⟩,rfl⟩
 | lst hv h hl hc=>exact .inr ⟨_,λS' G=>e8 (G.keep _ _ hv),λS1 S' G1 G=>by
    show S'[_]?=S1[_]?;rw[G.keep _ _ hv,G1.keep _ _ hv],hl,⟨_,_,h⟩,rfl⟩
section
variable{Δ:Nat->Sn}
structure Rw(S:Sto)(k:Nat)(ls:List Nat)(R:List (List Nat)):Prop where
 at':S[k]?=some (SO.lst (ls.map SV.loc))
 len:ls.length=R.length
 rows:∀(i l:Nat) (r:List Nat),ls[i]?=some l->R[i]?=some r->S[l]?=some (SO.lst (natS r))
theorem Rw.mono{S S':Sto}{k:Nat}{ls:List Nat}{R:List (List Nat)}(h:Rw S k ls R)(g:Gw S S'):Rw S' k ls R:=⟨g.keep _ _ h.at',h.len,λi l r a b=>g.keep _ _ (h.rows i l r a b)⟩
noncomputable def O8:List Stm:=[(.ret (.or (.cmp .In (.ix (.ix (.ix (.var 0) (.c (.int 1))) (.var 1)) (.c (.int 0))) (.ix (.ix (.var 0) (.c (.int 1))) (.var 2))) (.cmp .In (.ix (.ix (.ix (.var 0) (.c (.int 1))) (.var 1)) (.c (.int 1))) (.ix (.ix (.var 0) (.c (.int 1))) (.var 2)))))]
noncomputable def Shr(es:EE)(t u:Nat):Prop:=∃ p,(p=(A9 es t).1\/p=(A9 es t).2)/\(p=(A9 es u).1\/p=(A9 es u).2)
noncomputable def DS(s:Sn):Prop:=∀{n t u:Nat} {es:EE} {S:Sto} {Q:QE},t<es.length->u<es.length->(∀ v:Bool,(v=true↔Shr es t u)->Q (.bl v) S)->s [i6 n es,.int t,.int u] S Q
theorem LN{D:Df}(hb:D.body=O8)(hN:D.N.length=3)(hp:D.ps.length=3):DS (g6 Δ D):=by
 intro n t u es S Q ht hu q;unfold g6;rw[hb,hN];have h1:atI (es.map pairS) (t:Int)=some (pairS (A9 es t)):=j3 (by rw[Sq,BV ht];rfl);have h2:atI (es.map pairS) (u:Int)=some (pairS (A9 es u)):=j3 (by rw[Sq,BV hu];rfl);refine⟨hp.symm,_,rfl,_,_,rfl,rfl,_,rfl,_,_,rfl,h1,_,.int ((A9 es t).1:Nat),rfl,rfl,_,rfl,_,_,rfl,rfl,_,rfl,_,_,rfl,h2,rfl,_,rfl,rfl,_,rfl,?_⟩;show if inS (.int (A9 es t).1) [.int (A9 es u).1,.int (A9 es u).2]=true then _ else _
 rw[E5];refine ifB (λz=>q true ⟨λ_=>?_,λ_=>rfl⟩) (λz=>?_)
 ·refine⟨(A9 es t).1,.inl rfl,?_⟩;simp only[Td,dQ]at z;exact z.imp Eq.symm Eq.symm
 ·refine⟨_,rfl,_,_,rfl,rfl,_,rfl,_,_,rfl,h1,_,.int ((A9 es t).2:Nat),rfl,rfl,_,rfl,_,_,rfl,rfl,_,rfl,_,_,rfl,h2,rfl,_,rfl,rfl,?_⟩;show Q (.bl (inS (.int (A9 es t).2) [.int (A9 es u).1,.int (A9 es u).2])) S;rw[E5];refine q _ ⟨λz=>⟨(A9 es t).2,.inr rfl,?_⟩,?_⟩
  ·simp only[Td,dQ]at z;exact z.imp Eq.symm Eq.symm
  ·rintro⟨p,rfl | rfl,h⟩
   ·simp only[Bool.or_eq_false_iff,decide_eq_false_iff_not]at z;exact absurd (h.imp Eq.symm Eq.symm) (not_or.mpr z)
   ·simp only[Td,dQ];exact h.imp Eq.symm Eq.symm
end
noncomputable abbrev Way:=EE
noncomputable def Rh(ws:Way):Nat:=(Rz (iN (ws.map (·.2)))).length
structure WayOk(es:EE)(hues:Nat)(ws:Way):Prop where
 lt:∀ p∈ws,p.1<es.length/\p.2<hues
 nd:(ws.map (·.1)).Nodup
 pr:∀ p∈ws,∀ q∈ws,p.1≠q.1->Shr es p.1 q.1->p.2≠q.2
theorem WayOk.nil{es:EE}{hues:Nat}:WayOk es hues []:=⟨λ_ h=>(nomatch h),V6,λ_ h=>(nomatch h)⟩
theorem WayOk.len{es:EE}{hues:Nat}{ws:Way}(W:WayOk es hues ws):ws.length<=es.length:=by
 have:=List.Nodup.length_le_of_subset W.nd (l₂:=Sf es.length) λa ha=>by
  obtain⟨p,hp,rfl⟩:=TJ.mp ha;exact TC.mpr (W.lt p hp).1
 rwa [SX,T8]at this
noncomputable def Cano(ws:Way):Prop:=∀ h,h∈ws.map (·.2)↔h<Rh ws
theorem Cano.nil:Cano []:=λh=>by
 have:Rh []=0:=rfl;rw[this];simp
noncomputable def VH(H:Nat->Prop)(S:Sto)(l:Nat)(xs:List SV):Prop:=¬ H l/\S[l]?=some (.lst xs)
structure HG(H:Nat->Prop)(S S':Sto):Prop where
 len:S.length<=S'.length
 keep:∀(k:Nat) (o:SO),¬ H k->S[k]?=some o->S'[k]?=some o
theorem Gw.hg{H:Nat->Prop}{S S':Sto}(G:Gw S S'):HG H S S':=⟨G.len,λk o _ h=>G.keep k o h⟩
theorem HG.trans{H:Nat->Prop}{S S' S'':Sto}(a:HG H S S')(b:HG H S' S''):HG H S S'':=⟨TH a.len b.len,λk o n h=>b.keep k o n (a.keep k o n h)⟩
theorem On.hg{H:Nat->Prop}{t:Nat}{S S':Sto}(ht:H t)(O:On t S S'):HG H S S':=⟨O.len,λk o n h=>O.keep k o (λe=>n (e▸ht)) h⟩
theorem Gd.hg{H:Nat->Prop}{S S':Sto}{k b:Nat}{x:SV}(h:Gd (VH H S) k b x)(G:HG H S S'):Gd (VH H S') k b x:=h.see λl xs e=>⟨e.1,G.keep l _ e.1 e.2⟩
noncomputable def FlatV(y:SV):Prop:=∀(V:Nat->List SV->Prop) (k b:Nat),10<=b->Gd V k b y
noncomputable def Nw(H:Nat->Prop)(S:Sto):Prop:=∀ k,H k->k<S.length
theorem Nw.on{H:Nat->Prop}{S S':Sto}(h:Nw H S)(l:S.length<=S'.length):Nw H S':=λk hk=>TB (h k hk) l
theorem Nw.new{H:Nat->Prop}{S:Sto}(h:Nw H S):¬ H S.length:=λz=>Tu _ (h _ z)
section
variable{Δ:Nat->Sn}{H:Nat->Prop}{B:Sto->Prop}{ρ:EnvS}
noncomputable def GE(Δ:Nat->Sn)(H:Nat->Prop)(B:Sto->Prop)(ρ:EnvS)(k b:Nat)(e:Ex):Prop:=∀(S:Sto) (Q:QE),B S->Nw H S->(∀(y:SV) (S':Sto),Gw S S'->Gd (VH H S') k b y->Q y S')->(wEx Δ e).1 ρ S Q
noncomputable def LE(Δ:Nat->Sn)(H:Nat->Prop)(B:Sto->Prop)(ρ:EnvS)(m:Nat)(e:Ex):Prop:=∀(S:Sto) (Q:QE),B S->Nw H S->(∀(k:Nat) (xs:List SV) (S':Sto),Gw S S'->¬ H k->S'[k]?=some (.lst xs)->xs.length<=m->(∀ y∈xs,FlatV y)->Q (.loc k) S')->(wEx Δ e).1 ρ S Q
noncomputable def GEs(Δ:Nat->Sn)(H:Nat->Prop)(B:Sto->Prop)(ρ:EnvS)(k b n:Nat)(es:Exs):Prop:=∀(S:Sto) (Q:List SV->Sto->Prop),B S->Nw H S->(∀(ys:List SV) (S':Sto),Gw S S'->ys.length=n->(∀ y∈ys,Gd (VH H S') k b y)->Q ys S')->Dm Δ es ρ S Q
theorem GEs.nil{k b:Nat}:GEs Δ H B ρ k b 0 .nil:=λS Q _ _ q=>q [] S (Gw.refl S) rfl λ_ h=>nomatch h
theorem GEs.cons{k b n:Nat}{e:Ex}{es:Exs}(hB:∀ S S',B S->Gw S S'->B S')(h:GE Δ H B ρ k b e)(hs:GEs Δ H B ρ k b n es):GEs Δ H B ρ k b (n+1) (.cons e es):=λS Q b0 nw q=>
 h S _ b0 nw λy S1 G1 g1=>hs S1 _ (hB _ _ b0 G1) (nw.on G1.len) λys S2 G2 hl hg=>q (y::ys) S2 (G1.trans G2) (by rw[TM,hl]) λz hz=>by
  rcases Sm.mp hz with rfl | hz
  ·exact g1.hg G2.hg
  ·exact hg z hz
theorem GE.lst{k b n c:Nat}{es:Exs}(h:GEs Δ H B ρ k b n es)(hn:n<=63)(hc:n * (b+1)<=c):GE Δ H B ρ (k+1) c (.lst es):=λS Q b0 nw q=>
 h S _ b0 nw λys S' G hl hg=>⟨by rw[hl];show n<=100000;omega,q _ _ G.push (.lst ⟨(nw.on G.len).new,e7⟩ (λy hy=>(hg y hy).hg (Gw.refl S').push.hg) (by omega) (by rw[hl];exact hc))⟩
theorem GE.tup{k b n c:Nat}{es:Exs}(h:GEs Δ H B ρ k b n es)(hn:n<=63)(hc:n * (b+1)<=c):GE Δ H B ρ (k+1) c (.tup es):=λS Q b0 nw q=>
 h S _ b0 nw λys S' G hl hg=>⟨by rw[hl];show n<=100000;omega,q _ _ G (.tup hg (by omega) (by rw[hl];exact hc))⟩
theorem GE.up{k b k' b':Nat}{e:Ex}(h:GE Δ H B ρ k b e)(hk:k<=k')(hb:b<=b'):GE Δ H B ρ k' b' e:=λS Q b0 nw q=>h S Q b0 nw λy S' G g=>q y S' G (g.up hk hb)
theorem LE.none:LE Δ H B ρ 0 (.lst .nil):=λS Q _ nw q=>⟨by show 0<=100000;decide,q _ _ _ (Gw.refl S).push nw.new e7 (Sd _) λ_ h=>nomatch h⟩
structure RowAt(Δ:Nat->Sn)(H:Nat->Prop)(B:Sto->Prop)(ρ:EnvS)(j l n:Nat)(xs:List SV):Prop where
 var:∀(S:Sto) (Q:QE),Q (.loc l) S->(wEx Δ (.var j)).1 ρ S Q
 at':∀ S,B S->S[l]?=some (.lst xs)
 nh:¬ H l
 len:xs.length=n
 fl:∀ y∈xs,FlatV y
theorem RowAt.tup{j l n k b:Nat}{xs:List SV}(R:RowAt Δ H B ρ j l n xs)(hn:n<=63)(hb:n * 11<=b):GE Δ H B ρ (k+1) b (.bi .tuple (.cons (.var j) .nil)):=λS Q b0 nw q=>
 R.var S _ ⟨xs,e8 (R.at' S b0),q _ S (Gw.refl S) (.tup (k:=k) (b:=10) (λy hy=>R.fl y hy _ _ _ (Sd _)) (by rw[R.len];exact hn) (by rw[R.len];exact hb))⟩
end
section
variable{Δ:Nat->Sn}
theorem Gw.on{t:Nat}{S S':Sto}(G:Gw S S'):On t S S':=⟨G.len,λk o _ h=>G.keep k o h⟩
theorem Gw.tape{t:Nat}{S S':Sto}(G:Gw S S')(T:TapeS S t):TapeS S' t:=let ⟨a,b,h,c⟩:=T.ex;⟨a,b,G.keep _ _ h,c⟩
end
inductive Bau where
 | nd (t:Nat) (l:List Bau)
mutual
noncomputable def dp:Bau->Nat
 | .nd _ l=>dps l+1
noncomputable def dps:List Bau->Nat
 | []=>0
 | T::l=>max (dp T) (dps l)
end
inductive TrP(n:Nat)(O:Way->Nat->List Nat):SV->Way->Prop where
 | nd {t:Nat} {xs:List SV} {ws:Way} (ht:t<n) (hn:t∉ws.map (·.1)) (hl:xs.length=(O ws t).length) (h:∀(i:Nat) (x:SV) (u:Nat),xs[i]?=some x->(O ws t)[i]?=some u->TrP n O x (ws++[(t,u)])):TrP n O (.tup [.int (t:Nat),.tup xs]) ws
theorem TrP.e{n:Nat}{O:Way->Nat->List Nat}{x:SV}{ws:Way}(h:TrP n O x ws):∃(t:Nat) (xs:List SV),x = .tup [.int (t:Nat),.tup xs]/\t<n/\t∉ws.map (·.1)/\xs.length=(O ws t).length/\∀(i:Nat) (x:SV) (u:Nat),xs[i]?=some x->(O ws t)[i]?=some u->TrP n O x (ws++[(t,u)]):=by
 cases h with
 | nd a b c d=>exact⟨_,_,rfl,a,b,c,d⟩
theorem TrP.at{n t:Nat}{O:Way->Nat->List Nat}{xs:List SV}{ws:Way}(h:TrP n O (.tup [.int (t:Nat),.tup xs]) ws):t<n/\t∉ws.map (·.1)/\xs.length=(O ws t).length/\∀(i:Nat) (x:SV) (u:Nat),xs[i]?=some x->(O ws t)[i]?=some u->TrP n O x (ws++[(t,u)]):=by
 obtain⟨u,ys,e,h⟩:=h.e;injection e with e;injection e with e1 e2;injection e2 with e2 _;injection e1 with e1;injection e2 with e2;obtain rfl:=Tb.mp e1;subst e2;exact h
section
variable{Δ:Nat->Sn}
theorem Gd.el{S:Sto}{k b:Nat}{xs:List SV}(h:Gd (VS S) k b (.tup xs)):∃ k1 b1,k=k1+1/\xs.length<=63/\∀ y∈xs,Gd (VS S) k1 b1 y:=by
 cases h with
 | tup h hl hc=>exact⟨_,_,rfl,hl,h⟩
end
noncomputable def Q5:SV->Bool
 | .int i=>decide (0<=i)
 | _=>false
noncomputable def PropS(es:EE)(xs:List SV)(m:Nat):Prop:=∀(i j:Nat) (h:Int),i<j->j<m->xs[i]?=some (.int h)->xs[j]?=some (.int h)->¬ Shr es i j
noncomputable def endE(es:EE)(t p:Nat):Prop:=p=(A9 es t).1\/p=(A9 es t).2
theorem shr_end{es:EE}{a b:Nat}:Shr es a b↔∃ p,endE es a p/\endE es b p:=Iff.rfl
structure DictI(es:EE)(xs:List SV)(i:Nat)(kvs:List ((Int×Int)×Int)):Prop where
 sound:∀(p:Nat) (h n:Int),dpv kvs (((p:Nat):Int),h)=some n->∃ t:Nat,n=(t:Nat)/\t<i/\xs[t]?=some (.int h)/\endE es t p
 full:∀(t p:Nat) (h:Int),t<i->xs[t]?=some (.int h)->endE es t p->∃ n,dpv kvs (((p:Nat):Int),h)=some n
theorem He{kvs:List ((Int×Int)×Int)}{k k':Int×Int}{m:Int}(h:dpv kvs k=none):dpv (kvs++[(k,m)]) k'=if k'=k then some m else dpv kvs k':=by
 unfold dpv at h ⊢;rw[List.find?_append];by_cases e:k'=k
 ·subst e;rw[iP rfl];have h':=Uz.mp h;rw[h',Option.none_or,TZ,decide_eq_true rfl];rfl
 ·rw[iG e,TZ,decide_eq_false (λz=>e z.symm),List.find?_nil,Option.or_none]
structure DJ(es:EE)(xs:List SV)(i:Nat)(h:Int)(P:Nat->Prop)(kvs:List ((Int×Int)×Int))(ps:List (Int×Int)):Prop where
 sound:∀(p:Nat) (g n:Int),dpv kvs (((p:Nat):Int),g)=some n->∃ t:Nat,n=(t:Nat)/\(t<i\/(t=i/\P p))/\xs[t]?=some (.int g)/\endE es t p
 full:∀(t p:Nat) (g:Int),(t<i\/(t=i/\P p))->xs[t]?=some (.int g)->endE es t p->∃ n,dpv kvs (((p:Nat):Int),g)=some n
 cl:ps=[]↔PropS es xs i/\∀ t p:Nat,t<i->xs[t]?=some (.int h)->P p->¬ endE es t p
theorem DJ.first{es:EE}{xs:List SV}{i:Nat}{h:Int}{kvs:List ((Int×Int)×Int)}{ps:List (Int×Int)}(D:DictI es xs i kvs)(c:ps=[]↔PropS es xs i):DJ es xs i h (λ_=>False) kvs ps:=
 ⟨λp g n e=>let ⟨t,a,b,c⟩:=D.sound p g n e;⟨t,a,.inl b,c⟩,λt p g ht hx he=>D.full t p g (ht.elim id λz=>z.2.elim) hx he,c.trans ⟨λa=>⟨a,λ_ _ _ _ z=>z.elim⟩,λa=>a.1⟩⟩
theorem DJ.found{es:EE}{xs:List SV}{i p:Nat}{h c:Int}{P:Nat->Prop}{kvs:List ((Int×Int)×Int)}{ps:List (Int×Int)}(J:DJ es xs i h P kvs ps)(hxi:xs[i]?=some (.int h))(nP:¬ P p)(hc:dpv kvs (((p:Nat):Int),h)=some c):c≠(i:Nat)/\DJ es xs i h (λq=>P q\/q=p) kvs (ps++[(c,((i:Nat):Int))]):=by
 obtain⟨t,rfl,ht,hx,he⟩:=J.sound p h c hc;have ht:t<i:=ht.elim id λz=>absurd z.2 nP;refine⟨λz=>by omega,λq g n e=>?_,λu q g hu hx' he'=>?_,⟨λz=>absurd z (by simp),λz=>absurd he (z.2 t p ht hx (.inr rfl))⟩⟩
 ·obtain⟨u,a,b,d⟩:=J.sound q g n e;exact⟨u,a,b.imp id λz=>⟨z.1,.inl z.2⟩,d⟩
 ·rcases hu with hu | ⟨rfl,hu | rfl⟩
  ·exact J.full u q g (.inl hu) hx' he'
  ·exact J.full u q g (.inr ⟨rfl,hu⟩) hx' he'
  ·rw[hxi]at hx';cases hx';exact⟨_,hc⟩
theorem DJ.new{es:EE}{xs:List SV}{i p:Nat}{h:Int}{P:Nat->Prop}{kvs:List ((Int×Int)×Int)}{ps:List (Int×Int)}(J:DJ es xs i h P kvs ps)(hxi:xs[i]?=some (.int h))(hp:endE es i p)(hc:dpv kvs (((p:Nat):Int),h)=none):DJ es xs i h (λq=>P q\/q=p) (kvs++[((((p:Nat):Int),h),((i:Nat):Int))]) ps:=by
 refine⟨λq g n e=>?_,λu q g hu hx' he'=>?_,J.cl.trans ⟨λz=>⟨z.1,λt q ht hx hq he=>?_⟩,λz=>⟨z.1,λt q ht hx hq he=>z.2 t q ht hx (.inl hq) he⟩⟩⟩
 ·rw[He hc]at e;by_cases z:(((q:Nat):Int),g)=(((p:Nat):Int),h)
  ·rw[iP z]at e;injection z with z1 z2;cases e;rw[Tb.mp z1,z2];exact⟨i,rfl,.inr ⟨rfl,.inr rfl⟩,hxi,hp⟩
  ·rw[iG z]at e;obtain⟨u,a,b,d⟩:=J.sound q g n e;exact⟨u,a,b.imp id λz=>⟨z.1,.inl z.2⟩,d⟩
 ·rw[He hc];by_cases z:(((q:Nat):Int),g)=(((p:Nat):Int),h)
  ·rw[iP z];exact⟨_,rfl⟩
  ·rw[iG z];rcases hu with hu | ⟨rfl,hu | rfl⟩
   ·exact J.full u q g (.inl hu) hx' he'
   ·exact J.full u q g (.inr ⟨rfl,hu⟩) hx' he'
   ·rw[hxi]at hx';cases hx';exact absurd rfl z
 ·rcases hq with hq | rfl
  ·exact z.2 t q ht hx hq he
  ·obtain⟨n,e⟩:=J.full t q h (.inl ht) hx he;rw[hc]at e;cases e
theorem DJ.last{es:EE}{xs:List SV}{i:Nat}{h:Int}{P:Nat->Prop}{kvs:List ((Int×Int)×Int)}{ps:List (Int×Int)}(J:DJ es xs i h P kvs ps)(hxi:xs[i]?=some (.int h))(hP:∀ p,endE es i p↔P p):DictI es xs (i+1) kvs/\(ps=[]↔PropS es xs (i+1)):=by
 refine⟨⟨λp g n e=>?_,λt p g ht hx he=>J.full t p g ?_ hx he⟩,J.cl.trans ⟨λz a b g hab hb ha hb' sh=>?_,λz=>⟨λa b g hab hb=>z a b g hab (by omega),λt p ht hx hp he=>z t i h ht (UT _) hx hxi ⟨p,he,(hP p).mpr hp⟩⟩⟩⟩
 ·obtain⟨t,a,b,d⟩:=J.sound p g n e;exact⟨t,a,by omega,d⟩
 ·rcases UD t i with z | z
  ·exact .inl z
  ·have:t=i:=by omega
   subst this;exact .inr ⟨rfl,(hP p).mp he⟩
 ·rcases UD b i with y | y
  ·exact z.1 a b g hab y ha hb' sh
  ·have:b=i:=by omega
   subst this;rw[hxi]at hb';cases hb';obtain⟨p,e1,e2⟩:=sh;exact z.2 a p hab ha ((hP p).mp e2) e1
theorem DictI.skip{es:EE}{xs:List SV}{i:Nat}{kvs:List ((Int×Int)×Int)}{ps:List (Int×Int)}(D:DictI es xs i kvs)(c:ps=[]↔PropS es xs i)(hxi:xs[i]?=some .non):DictI es xs (i+1) kvs/\(ps=[]↔PropS es xs (i+1)):=by
 have lt:∀(t:Nat) (g:Int),t<i+1->xs[t]?=some (.int g)->t<i:=λt g ht hx=>by
  rcases UD t i with z | z
  ·exact z
  ·have:t=i:=by omega
   subst this;rw[hxi]at hx;cases hx
 exact⟨⟨λp g n e=>let ⟨t,a,b,d⟩:=D.sound p g n e;⟨t,a,by omega,d⟩,λt p g ht hx he=>D.full t p g (lt t g ht hx) hx he⟩,c.trans ⟨λz a b g hab hb ha hb'=>z a b g hab (lt b g hb hb') ha hb',λz a b g hab hb=>z a b g hab (by omega)⟩⟩
section
variable{Δ:Nat->Sn}
noncomputable def kq3:Stm:=(.loop (.nm 7) (.seq (.var 5)) [(.asg (.nm 8) (.setd (.var 2) (.tup (.cons (.var 7) (.cons (.var 6) .nil))) (.var 4))),(.iff (.cmp .NotEq (.var 8) (.var 4)) [(.expr (.mt .append (.var 3) (.cons (.tup (.cons (.var 8) (.cons (.var 4) .nil))) .nil)))] [])])
noncomputable def kq2:Stm:=(.loop (.tup (.cons (.nm 4) (.cons (.nm 5) .nil))) (.enum (.ix (.var 0) (.c (.int 1)))) [(.asg (.nm 6) (.ix (.var 1) (.var 4))),(.iff (.cmp .IsNot (.var 6) (.c .non)) [kq3] [])])
noncomputable def LO:List Stm:=[(.asg (.nm 2) .dnewp),(.asg (.nm 3) (.lst .nil)),kq2,(.ret (.mind (.var 3) (.c .non)))]
noncomputable def psS(ps:List (Int×Int)):List SV:=ps.map λp:Int×Int=>SV.tup [.int p.1,.int p.2]
theorem DT{n m l i p:Nat}{h:Int}{es:EE}{x:SV}{kvs:List ((Int×Int)×Int)}{ps:List (Int×Int)}{S:Sto}{D:EndsS}{o5 o8:Option SV}(hm:S[m]?=some (.dtp kvs))(hl:S[l]?=some (.lst (psS ps)))(hk:kvs.length<1000)(hp:ps.length<1000)
 (q0:∀ c:Int,dpv kvs (((p:Nat):Int),h)=some c->c=(i:Nat)->D.nx [some (i6 n es),some x,some (.loc m),some (.loc l),some (.int (i:Nat)),o5,some (.int h),some (.int (p:Nat)),some (.int c)] S)
 (q1:∀ c:Int,dpv kvs (((p:Nat):Int),h)=some c->c≠(i:Nat)->D.nx [some (i6 n es),some x,some (.loc m),some (.loc l),some (.int (i:Nat)),o5,some (.int h),some (.int (p:Nat)),some (.int c)] (S.set l (.lst (psS (ps++[(c,((i:Nat):Int))])))))
 (q2:dpv kvs (((p:Nat):Int),h)=none->D.nx [some (i6 n es),some x,some (.loc m),some (.loc l),some (.int (i:Nat)),o5,some (.int h),some (.int (p:Nat)),some (.int (i:Nat))] (S.set m (.dtp (kvs++[((((p:Nat):Int),h),((i:Nat):Int))])))):
 wSs Δ [(.asg (.nm 8) (.setd (.var 2) (.tup (.cons (.var 7) (.cons (.var 6) .nil))) (.var 4))),(.iff (.cmp .NotEq (.var 8) (.var 4)) [(.expr (.mt .append (.var 3) (.cons (.tup (.cons (.var 8) (.cons (.var 4) .nil))) .nil)))] [])] D [some (i6 n es),some x,some (.loc m),some (.loc l),some (.int (i:Nat)),o5,some (.int h),some (.int (p:Nat)),o8] S:=by
 refine⟨_,rfl,m,kvs,rfl,hm,_,rfl,_,rfl,by show 2<=100000;decide,_,rfl,_,_,_,kvs,rfl,rfl,hm,by show _<100000;omega,λc hc=>?_,λhc=>?_⟩
 ·refine⟨_,rfl,_,rfl,_,rfl,?_⟩;show if (!decide (c=((i:Nat):Int)))=true then _ else _
  by_cases z:c=(i:Nat)
  ·exact ifF (by rw[decide_eq_true z];rfl) (g9 (q0 c hc z))
  ·refine ifT (by rw[decide_eq_false z];rfl) ?_;have hl':(psS ps).length<100000:=by unfold psS;rw[SX];omega
   refine⟨_,rfl,⟨l,_,rfl,hl⟩,_,rfl,_,rfl,by show 2<=100000;decide,_,hl,hl',?_⟩;have q:=q1 c hc z;unfold psS at q ⊢;rw[Sx]at q;exact g9 (Δ:=Δ) q
 ·refine⟨_,rfl,_,rfl,_,rfl,?_⟩;show if (!decide (((i:Nat):Int)=((i:Nat):Int)))=true then _ else _
  exact ifF (by rw[decide_eq_true rfl];rfl) (g9 (q2 hc))
noncomputable def GT(s:Sn):Prop:=∀{n:Nat} {es:EE} {x:SV} {xs:List SV} {S:Sto} {Q:QE},(∀ e∈es,e.1<e.2/\e.2<n)->es.length<=60->SeqV S x xs->xs.length=es.length->(∀ y∈xs,y = .non\/∃ h:Int,y = .int h)->(∀(v:SV) (S':Sto),Gw S S'->(DB v=true↔PropS es xs es.length)->Q v S')->s [i6 n es,x] S Q
theorem J8(hΔ:∀ f,MonoN (Δ f)){D:Df}(hb:D.body=LO)(hN:D.N.length=9)(hp:D.ps.length=2):GT (g6 Δ D):=by
 intro n es x xs S Q W hel V hlen hit q;unfold g6;rw[hb,hN];refine⟨hp.symm,by show 0<=100000;decide,_,rfl,_,_,rfl,rfl,_,rfl,?_⟩;have hm0:((S++[SO.dtp []])++[SO.lst []])[S.length]?=some (.dtp []):=e6 e7;have hl0:((S++[SO.dtp []])++[SO.lst []])[(S++[SO.dtp []]).length]?=some (.lst []):=e7;have ll:(S++[SO.dtp []]).length=S.length+1:=by simp
 rw[ll]at hl0;have lw:((S++[SO.dtp []])++[SO.lst []]).length=S.length+2:=by simp
 have G0:Gw S ((S++[SO.dtp []])++[SO.lst []]):=(Gw.refl S).push.push;show p8 _ _ _ _ _ [some (i6 n es),some x,some (.loc S.length),some (.loc (S++[SO.dtp []]).length),none,none,none,none,none] _;rw[ll]
 refine BS (i8 hΔ _) (λi ρ S2=>∃(o4 o5 o6 o7 o8:Option SV) (kvs:List ((Int×Int)×Int)) (ps:List (Int×Int)),ρ=[some (i6 n es),some x,some (.loc S.length),some (.loc (S.length+1)),o4,o5,o6,o7,o8]/\Gw S S2/\S2[S.length]?=some (.dtp kvs)/\S2[S.length+1]?=some (.lst (psS ps))/\DictI es xs i kvs/\(ps=[]↔PropS es xs i)/\kvs.length<=2 * i/\ps.length<=2 * i)
  ⟨_,_,_,_,_,[],[],rfl,G0,hm0,hl0,⟨λp h n e=>(by cases e),λt p h ht=>absurd ht (UN _)⟩,⟨λ_ i j h _ hj=>absurd hj (UN _),λ_=>rfl⟩,Sd _,Sd _⟩ (λ_ _ _ _=>trivial) ?_ ?_
 ·rintro i z ρ S2 E hE hrt hz ⟨o4,o5,o6,o7,o8,kvs,ps,rfl,G2,hm,hl,DI,PI,hk,hps⟩;obtain⟨y,hy,rfl⟩:=E4 hz;obtain⟨e,he,rfl⟩:=FE hy;have hi:=(gM he).1;have hv:=Se (show i<xs.length by omega);have mv:=TY (show i<xs.length by omega);generalize xs[i]=v at *;have lw2:S.length+2<=S2.length:=by have:=(gM hl).1;omega
  refine⟨_,rfl,_,rfl,_,_,V.seq S2 G2,j3 hv,?_⟩
  have te:A9 es i=e:=by
   have:=BV hi;rw[he]at this;exact(oj this).symm
  have en:∀ p,endE es i p↔(False\/p=e.1)\/p=e.2:=λp=>by unfold endE;rw[te,false_or]
  have ne:e.1≠e.2:=Sl (W e (Sh he)).1;rcases hit v mv with rfl | ⟨h,rfl⟩
  ·obtain⟨D2,P2⟩:=DI.skip PI hv;exact⟨_,rfl,.inl ⟨rfl,_,rfl,ifF rfl (g9 (hE _ _ ⟨_,_,_,_,_,kvs,ps,rfl,G2,hm,hl,D2,P2,by omega,by omega⟩))⟩⟩
  refine⟨_,rfl,.inl ⟨rfl,_,rfl,ifT rfl ⟨_,rfl,_,rfl,trivial,?_⟩⟩⟩;have J0:=DJ.first (h:=h) DI PI
  have key:∀(kv1:List ((Int×Int)×Int)) (ps1:List (Int×Int)) (S3:Sto) (o8:Option SV),Gw S S3->S3[S.length]?=some (.dtp kv1)->S3[S.length+1]?=some (.lst (psS ps1))->kv1.length<=2 * i+1->ps1.length<=2 * i+1->DJ es xs i h (λq=>False\/q=e.1) kv1 ps1->
   p8 (keepS (pairS e) S2) (.nm 7) (wSs Δ [(.asg (.nm 8) (.setd (.var 2) (.tup (.cons (.var 7) (.cons (.var 6) .nil))) (.var 4))),(.iff (.cmp .NotEq (.var 8) (.var 4)) [(.expr (.mt .append (.var 3) (.cons (.tup (.cons (.var 8) (.cons (.var 4) .nil))) .nil)))] [])]) {nx:=wSs Δ [] E,rt:=E.rt,bk:=E.bk,ct:=E.ct} [.int (e.2:Nat)] [some (i6 n es),some x,some (.loc S.length),some (.loc (S.length+1)),some (.int (i:Nat)),some (pairS e),some (.int h),some (.int (e.1:Nat)),o8] S3:=by
   intro kv1 ps1 S3 o8 G3 m3 l3 k3 p3 J;refine⟨trivial,?_⟩;refine DT m3 l3 (by omega) (by omega) (λc hc z=>absurd z (J.found hv (by rintro(z | z);exact z;exact ne z.symm) hc).1) (λc hc z=>?_) (λhc=>?_)
   ·obtain⟨D2,P2⟩:=(J.found hv (by rintro(z | z);exact z;exact ne z.symm) hc).2.last hv en;exact⟨trivial,g9 (Δ:=Δ) (hE _ _ ⟨_,_,_,_,_,kv1,_,rfl,G3.put (by omega),by rw[A7 (by omega)];exact m3,TQ (by have:=(gM l3).1;omega),D2,P2,by omega,by rw[SY,TK];omega⟩)⟩
   ·obtain⟨D2,P2⟩:=(J.new hv ((en e.2).mpr (.inr rfl)) hc).last hv en;exact⟨trivial,g9 (Δ:=Δ) (hE _ _ ⟨_,_,_,_,_,_,ps1,rfl,G3.put (by omega),TQ (by have:=(gM m3).1;omega),by rw[A7 (by omega)];exact l3,D2,P2,by rw[SY,TK];omega,by omega⟩)⟩
  refine DT hm hl (by omega) (by omega) (λc hc z=>absurd z (J0.found hv id hc).1) (λc hc z=>?_) (λhc=>?_)
  ·exact key kvs _ _ _ (G2.put (by omega)) (by rw[A7 (by omega)];exact hm) (TQ (by omega)) (by omega) (by rw[SY,TK];omega) (J0.found hv id hc).2
  ·exact key _ ps _ _ (G2.put (by omega)) (TQ (by omega)) (by rw[A7 (by omega)];exact hl) (by rw[SY,TK];omega) (by omega) (J0.new hv ((en e.1).mpr (.inl (.inr rfl))) hc)
 ·rintro ρ S2 ⟨o4,o5,o6,o7,o8,kvs,ps,rfl,G2,hm,hl,DI,PI,hk,hps⟩;rw[C3,SX]at PI;refine⟨_,rfl,S.length+1,ps,rfl,rfl,hl,λe=>q .non S2 G2 ⟨λ_=>PI.mp e,λ_=>rfl⟩,λp hp=>q _ S2 G2 ⟨nofun,λh=>?_⟩⟩;rw[PI.mpr h]at hp;cases hp
end
noncomputable def okH(y:SV):Bool:=DB y||Q5 y
theorem LP{y:SV}(h:okH y=true):y = .non\/∃ g:Int,y = .int g/\0<=g:=by
 cases y with
 | non=>exact .inl rfl
 | int i=>exact .inr ⟨i,rfl,of_decide_eq_true h⟩
 | _=>cases h
theorem Rk{y:SV}(h:y = .non\/∃ g:Int,y = .int g/\0<=g):okH y=true:=by
 rcases h with rfl | ⟨g,rfl,h⟩
 ·rfl
 ·exact decide_eq_true h
noncomputable def HuP(es:EE)(xs:List SV):Prop:=xs.length=es.length/\(∀ y∈xs,okH y=true)/\PropS es xs es.length
theorem all_at{f:SV->Bool}{xs:List SV}:(∀ i,i<xs.length->f (xs.getD i .non)=true)↔∀ y∈xs,f y=true:=by
 constructor
 ·intro h y hy;obtain⟨i,hi,rfl⟩:=VB hy;have:=h i hi
  rwa [Sr,Se hi]at this
 ·intro h i hi;rw[Sr,Se hi];exact h _ (TY hi)
section
variable{Δ:Nat->Sn}
noncomputable def O9(kn:Nat):List Stm:=[(.ret (.and (.call kn (.cons (.var 0) .nil)) (.cmp .GtE (.var 0) (.c (.int 0)))))]
noncomputable def NL(s:Sn):Prop:=∀{x:SV} {S:Sto} {k b:Nat} {Q:QE},Gd (VS S) k b x->Q (.bl (Q5 x)) S->s [x] S Q
theorem NM{kn:Nat}(hn:Q3 (Δ kn)){D:Df}(hb:D.body=O9 kn)(hN:D.N.length=1)(hp:D.ps.length=1):NL (g6 Δ D):=by
 intro x S k b Q h q;unfold g6;rw[hb,hN];refine⟨hp.symm,_,rfl,hn h ⟨_,rfl,?_⟩⟩;cases x with
 | int i=>exact ifT rfl ⟨_,rfl,q⟩
 | _=>exact ifF rfl q
noncomputable def hg1(kl:Nat):Stm:=(.iff (.or (.not (.call kl (.cons (.var 1) .nil))) (.cmp .NotEq (.bi .len (.cons (.var 1) .nil)) (.bi .len (.cons (.ix (.var 0) (.c (.int 1))) .nil)))) [(.ret (.c (.bl false)))] [])
noncomputable def hg2(kh:Nat):Stm:=(.iff (.not (.bi .all (.cons (.comp ["item"] [] [] (.nm 0) (.seq (.var 1)) .no (.or (.cmp .Is (.var 0) (.c .non)) (.call kh (.cons (.var 0) .nil)))) .nil))) [(.ret (.c (.bl false)))] [])
noncomputable def hg3(kc:Nat):Stm:=(.ret (.cmp .Is (.call kc (.cons (.var 0) (.cons (.var 1) .nil))) (.c .non)))
noncomputable def Hf(kl kh kc:Nat):List Stm:=[hg1 kl,hg2 kh,hg3 kc]
noncomputable def B0(s:Sn):Prop:=∀{n k b:Nat} {es:EE} {x:SV} {S:Sto} {Q:QE},(∀ e∈es,e.1<e.2/\e.2<n)->es.length<=60->Gd (VS S) k b x->(∀(r:Bool) (S':Sto),Gw S S'->(r=true↔∃ xs,seqS x S=some xs/\HuP es xs)->Q (.bl r) S')->s [i6 n es,x] S Q
theorem GU(hΔ:∀ f,MonoN (Δ f)){kl kh kc:Nat}(hl:Q4 (Δ kl))(hh:NL (Δ kh))(hc:GT (Δ kc)){D:Df}(hb:D.body=Hf kl kh kc)(hN:D.N.length=2)(hp:D.ps.length=2):B0 (g6 Δ D):=by
 intro n k b es x S Q W hel hx q;unfold g6;rw[hb,hN];refine⟨hp.symm,_,rfl,hl hx ?_⟩;rcases hx.split with⟨e,no⟩ | ⟨xs,V⟩
 ·rw[e];exact⟨_,rfl,ifT rfl (q false S (Gw.refl S) ⟨nofun,λ⟨xs,z,_⟩=>absurd z (no _)⟩)⟩
 rw[V.ls];have s0:=V.seq S (Gw.refl S);have hxl:=V.len;obtain⟨k',b',hg⟩:=V.gd;have no:∀ S',Gw S S'->¬ HuP es xs->Q (.bl false) S':=λS' G h=>q false S' G ⟨nofun,λ⟨ys,e,z⟩=>by rw[s0]at e;cases e;exact absurd z h⟩;refine⟨_,rfl,ifF rfl ⟨_,rfl,_,s0,_,rfl,_,_,rfl,rfl,_,rfl,_,rfl,?_⟩⟩;show if (!decide ((xs.length:Int)=((es.map pairS).length:Nat)))=true then _ else _
 rw[SX];by_cases zl:xs.length=es.length
 case neg=>exact ifT (by rw[decide_eq_false (λy=>zl (Tb.mp y))];rfl) (no S (Gw.refl S) λh=>zl h.1)
 refine ifF (by rw[decide_eq_true (show((xs.length:Nat):Int)=(es.length:Nat) by rw[zl])];rfl) (g9 ?_);refine⟨_,rfl,_,s0,?_⟩;refine LM hΔ (λi=>okH (xs.getD i .non)) (by omega) (λS' G=>V.keep S S' (Gw.refl S) G) ?_ ?_
 ·intro i y S' hy G;have ey:xs.getD i .non=y:=by rw[Sr,hy];rfl
  rw[ey];refine⟨_,rfl,.inl ⟨rfl,_,rfl,?_⟩⟩;cases y with
  | non=>exact ifT rfl ⟨rfl,G⟩
  | _=>exact ifF rfl ⟨_,rfl,hh ((hg _ (Sh hy)).grow G) ⟨rfl,G⟩⟩
 intro S2 G2;have G3:=G2.push (o:=SO.lst ((Sf xs.length).map λi => .bl (okH (xs.getD i .non))));refine⟨_,_,nofun,e8 e7,NJ _ _,_,rfl,?_⟩;generalize S2++[SO.lst ((Sf xs.length).map λi => .bl (okH (xs.getD i .non)))]=S3 at *;by_cases hA:((Sf xs.length).map λi=>okH (xs.getD i .non)).all id=true
 case neg=>
  rw[Bool.eq_false_iff.mpr hA];exact ifT rfl (no S3 G3 λh=>hA (all_mapF.mpr (all_at.mpr h.2.1)))
 rw[hA];have ok:=all_at.mp (all_mapF.mp hA);refine ifF rfl (g9 ?_);refine⟨_,rfl,_,rfl,hc W hel ⟨λS' G=>V.seq S' (G3.trans G),λS1 S' G1 G=>V.keep S1 S' (G3.trans G1) (G3.trans G),hxl,⟨k',b',λy hy=>(hg y hy).grow G3⟩,V.ls⟩ zl (λy hy=>(LP (ok y hy)).imp id λ⟨g,e,_⟩=>⟨g,e⟩) λv S' G ev => .inl ⟨rfl,q _ S' (G3.trans G) ?_⟩⟩;show DB v=true↔_;rw[ev];exact⟨λh=>⟨xs,s0,zl,ok,h⟩,λ⟨ys,e,h⟩=>by rw[s0]at e;cases e;exact h.2.2⟩
end
noncomputable def Q6:Option Nat->SV
 | none => .non
 | some t => .int (t:Nat)
theorem Hg{P:Nat->Bool}:∀{ts:List Nat} {j t:Nat},ts[j]?=some t->P t=true->(∀ u∈ts.take j,P u=false)->ts.find? P=some t
 | [],_,_,h,_,_=>by simp at h
 | s::ts,0,t,h,hp,_=>by simp at h;subst h;rw[TZ,hp]
 | s::ts,j+1,t,h,hp,hn=>by
   rw[TZ,hn s (by simp)];exact Hg (by simpa using h) hp λu hu'=>hn u (by simp[hu'])
theorem Br{cs:List Nat}{t:Nat}(h:t<cs.length):cs[t]?=some (hu cs t):=by
 rw[Se h];show _=some (cs.getD t 0);rw[Sr,Se h];rfl
section
variable{Δ:Nat->Sn}
noncomputable def OA(kt:Nat):List Stm:=[(.loop (.nm 4) (.seq (.call kt (.cons (.var 0) (.cons (.var 2) .nil)))) [(.iff (.cmp .Eq (.ix (.var 1) (.var 4)) (.var 3)) [(.ret (.var 4))] [])]),(.ret (.c .non))]
noncomputable def GV(s:Sn):Prop:=∀{n k p h:Nat} {es:EE} {cs:List Nat} {S:Sto} {Q:QE},S[k]?=some (.lst (natS cs))->cs.length=es.length->es.length<=1000->p<n->(∀ S',Gw S S'->Q (Q6 (B5 es cs p h)) S')->s [i6 n es,.loc k,.int (p:Nat),.int (h:Nat)] S Q
theorem NN(hΔ:∀ f,MonoN (Δ f)){kt:Nat}(ht:BU (Δ kt)){D:Df}(hb:D.body=OA kt)(hN:D.N.length=5)(hp:D.ps.length=4):GV (g6 Δ D):=by
 intro n k p h es cs S Q hk hl hel hpn q;unfold g6;rw[hb,hN];refine⟨hp.symm,_,rfl,_,rfl,ht (by omega) hpn ⟨_,e8 e7,?_⟩⟩;have hk1:=e6 (o:=SO.lst (natS (m8 es p es.length))) hk;have G1:Gw S (S++[SO.lst (natS (m8 es p es.length))]):=(Gw.refl S).push;generalize S++[SO.lst (natS (m8 es p es.length))]=S1 at *;refine BS (i8 hΔ _) (λj ρ S2=>S2=S1/\∃ o4:Option SV,ρ=[some (i6 n es),some (.loc k),some (.int (p:Nat)),some (.int (h:Nat)),o4]/\∀ u∈(m8 es p es.length).take j,decide (hu cs u=h)=false) ⟨rfl,none,rfl,λu hu'=>by simp at hu'⟩ (λ_ _ _ z=>by rw[z.1];exact rfl) ?_ ?_
 ·rintro j x ρ S2 E hE hR hx ⟨rfl,o4,rfl,no⟩;obtain⟨t,htj,rfl⟩:=Az hx;have tl:=(mem_tiesAt.mp (Sh htj))
  have tl:t<es.length:=let ⟨e,he,_⟩:=tl;(gM he).1
  have hc:=Br (cs:=cs) (t:=t) (by omega);refine⟨_,rfl,_,rfl,_,_,e8 hk1,j3 (A8 hc),_,rfl,_,rfl,ifD (λz=>?_) (λz=>?_)⟩
  ·have z:hu cs t=h:=Tb.mp z;have e:B5 es cs p h=some t:=Hg htj (decide_eq_true z) no;refine⟨_,rfl,hR _ _ ?_⟩;have:=q S2 G1;rw[e]at this;exact this
  ·have z:¬ hu cs t=h:=λy=>z (congrArg _ y);refine hE _ _ ⟨rfl,_,rfl,λu hu'=>?_⟩;rw[V9,htj]at hu';rcases Sw.mp hu' with y | y
   ·exact no u y
   ·have:u=t:=by simpa using y
    rw[this];exact decide_eq_false z
 ·rintro ρ S2 ⟨rfl,o4,rfl,no⟩;rw[f7,Ut]at no
  have e:B5 es cs p h=none:=by
   unfold B5;rw[Uj];intro u hu' z;rw[no u hu']at z;cases z
  have:=q S2 G1;rw[e]at this;exact this
noncomputable def Hh:List Stm:=[(.iff (.cmp .Eq (.var 0) (.var 1)) [.no] [])]
noncomputable def BX(s:Sn):Prop:=∀{a b:Nat} {S:Sto} {Q:QE},a≠b->Q .non S->s [.int (a:Nat),.int (b:Nat)] S Q
theorem J9{D:Df}(hb:D.body=Hh)(hN:D.N.length=2)(hp:D.ps.length=2):BX (g6 Δ D):=by
 intro a b S Q ab q;unfold g6;rw[hb,hN];refine⟨hp.symm,_,rfl,_,rfl,_,rfl,?_⟩;exact ifF (decide_eq_false λz=>ab (Tb.mp z)) q
noncomputable def rf4(kf kh:Nat):Stm:=(.whl (.cmp .IsNot (.var 6) (.c .non)) [(.expr (.mt .append (.var 5) (.cons (.var 6) .nil))),(.asg (.nm 2) (.call kf (.cons (.var 0) (.cons (.var 6) (.cons (.var 2) .nil))))),(.par 3 4 (.var 4) (.var 3)),(.asg (.nm 6) (.call kh (.cons (.var 0) (.cons (.var 1) (.cons (.var 2) (.cons (.var 3) .nil))))))])
noncomputable def rf1(kc ku kh:Nat):List Stm:=[(.expr (.call kc (.cons (.var 0) (.cons (.var 2) .nil)))),(.expr (.call ku (.cons (.var 3) (.cons (.var 4) .nil)))),(.iff (.cmp .IsNot (.call kh (.cons (.var 0) (.cons (.var 1) (.cons (.var 2) (.cons (.var 4) .nil))))) (.c .non)) [.no] []),(.asg (.nm 5) (.lst .nil)),(.asg (.nm 6) (.call kh (.cons (.var 0) (.cons (.var 1) (.cons (.var 2) (.cons (.var 3) .nil))))))]
noncomputable def OB(kc ku kh kf:Nat):List Stm:=rf1 kc ku kh++[rf4 kf kh,(.ret (.var 5))]
noncomputable def Hi(s:Sn):Prop:=∀{n k p a b:Nat} {es:EE} {cs:List Nat} {S:Sto} {Q:QE},S[k]?=some (.lst (natS cs))->Prp es cs->(∀ e∈es,e.1<e.2/\e.2<n)->es.length<=1000->p<n->a≠b->(∀ u,AtP es u p->hu cs u≠b)->
 (∀(l:Nat) (S':Sto),Gw S S'->S.length<=l->S'[l]?=some (.lst (natS (rwF es cs (es.length+1) p a b)))->Q (.loc l) S')->s [i6 n es,.loc k,.int (p:Nat),.int (a:Nat),.int (b:Nat)] S Q
theorem NO{es:EE}{cs:List Nat}{x h:Nat}(z:∀ u,AtP es u x->hu cs u≠h):B5 es cs x h=none:=by
 unfold B5;rw[Uj];intro u hu' y;exact z u (mem_tiesAt.mp hu') (of_decide_eq_true y)
theorem Q7(hΔ:∀ f,MonoN (Δ f)){kc ku kh kf:Nat}(hc:w9 (Δ kc))(hu':BX (Δ ku))(hh:GV (Δ kh))(hf:Cb (Δ kf)){D:Df}(hb:D.body=OB kc ku kh kf)(hN:D.N.length=7)(hp:D.ps.length=5):Hi (g6 Δ D):=by
 intro n k p a b es cs S Q hk P hen hel hpn ab hno q;have hne:∀ e∈es,e.1≠e.2:=λe he=>Sl (hen e he).1;have hl:=P.len;unfold g6;rw[hb,hN];refine⟨hp.symm,_,rfl,_,rfl,hc hpn ⟨_,rfl,_,rfl,hu' ab ⟨_,rfl,_,rfl,_,rfl,_,rfl,hh hk hl hel hpn λS1 G1=>?_⟩⟩⟩;rw[NO hno];refine .inl ⟨rfl,_,rfl,ifF rfl (g9 ?_)⟩;refine⟨by show 0<=100000;decide,?_⟩;have hk1:=G1.keep _ _ hk;refine⟨_,rfl,_,rfl,_,rfl,_,rfl,hh (e6 hk1) hl hel hpn λS2 G2=>?_⟩;have h2:S2[S1.length]?=some (.lst []):=G2.keep _ _ e7;have hk2:=G2.keep _ _ (e6 (o:=SO.lst []) hk1);have GS:Gw S S2:=G1.trans ((Gw.refl S1).push.trans G2);have kl:=(gM hk1).1;have s1:=G1.len;generalize S1.length=l at *;show wSs Δ [rf4 kf kh,(.ret (.var 5))] (l7 Q) [some (i6 n es),some (.loc k),some (.int (p:Nat)),some (.int (a:Nat)),some (.int (b:Nat)),some (.loc l),some (Q6 (B5 es cs p a))] S2;refine⟨λm ρ S'=>∃(r:List Nat) (x one other:Nat),ρ=[some (i6 n es),some (.loc k),some (.int (x:Nat)),some (.int (one:Nat)),some (.int (other:Nat)),some (.loc l),some (Q6 (B5 es cs x one))]/\RwI es cs a b p r x one other/\x<n/\r++rwF es cs (es.length+1 - r.length) x one other=rwF es cs (es.length+1) p a b/\m+r.length=es.length+1/\On l S2 S'/\S'[l]?=some (.lst (natS r)),⟨es.length+1,[],p,a,b,rfl,RwI.nil hno,hpn,rfl,rfl,On.refl _ _,h2⟩,?_⟩;rintro m ρ S' ⟨r,x,one,other,rfl,R,xn,er,em,O,hr⟩;have rl:=R.len;have hk':=O.keep _ _ (by omega) hk2;cases hz:B5 es cs x one with
 | none=>
   refine⟨_,rfl,.inl ⟨rfl,_,rfl,ifF rfl ?_⟩⟩
   have e0:rwF es cs (es.length+1 - r.length) x one other=[]:=by
    rw[show es.length+1 - r.length=(es.length - r.length)+1 by omega];unfold rwF;rw[hz]
   rw[e0,U2]at er;refine⟨_,rfl,q l S' ⟨TH GS.len O.len,λj o h=>O.keep j o (λz=>?_) (GS.keep j o h)⟩ s1 (by rw[hr,er])⟩;have:=(gM h).1;omega
 | some t=>
   obtain⟨⟨e,he,hx⟩,hcx⟩:=Bo hz;have hee:=hen e (Sh he);have ge:es.getD t (0,0)=e:=by rw[Sr,he];rfl
   have R':=R.step P ab he hx (hne e (Sh he)) hcx;have fn:farE e x<n:=by unfold farE;split<;>omega
   have e1:rwF es cs (es.length+1 - r.length) x one other=t::rwF es cs (es.length+1 - (r++[t]).length) (farE e x) other one:=by
    rw[show es.length+1 - r.length=(es.length - r.length)+1 by omega,show es.length+1 - (r++[t]).length=es.length - r.length by rw[SY];simp]
    conv=>lhs;unfold rwF
    rw[hz];dsimp only;rw[ge]
   refine⟨_,rfl,.inl ⟨rfl,_,rfl,ifT rfl ?_⟩⟩;refine⟨_,rfl,⟨_,_,rfl,hr⟩,_,rfl,_,hr,by rw[f7];show _<100000;omega,?_⟩;have h3:(S'.set l (.lst (natS r++[.int (t:Nat)])))[l]?=some (.lst (natS (r++[t]))):=by rw[AZ hr,r6];rfl
   have O3:On l S2 (S'.set l (.lst (natS r++[.int (t:Nat)]))):=O.tape;have hk3:(S'.set l (.lst (natS r++[.int (t:Nat)])))[k]?=some (.lst (natS cs)):=by rw[A7 (by omega)];exact hk'
   show wSs Δ [(.asg (.nm 2) (.call kf (.cons (.var 0) (.cons (.var 6) (.cons (.var 2) .nil))))),(.par 3 4 (.var 4) (.var 3)),(.asg (.nm 6) (.call kh (.cons (.var 0) (.cons (.var 1) (.cons (.var 2) (.cons (.var 3) .nil))))))] _ [some (i6 n es),some (.loc k),some (.int (x:Nat)),some (.int (one:Nat)),some (.int (other:Nat)),some (.loc l),some (.int (t:Nat))] (S'.set l (.lst (natS r++[.int (t:Nat)])));generalize S'.set l (.lst (natS r++[.int (t:Nat)]))=S3 at *;refine⟨_,rfl,_,rfl,_,rfl,hf he (hx.imp Eq.symm Eq.symm) ?_⟩;refine⟨_,rfl,_,rfl,?_⟩;refine⟨_,rfl,_,rfl,_,rfl,_,rfl,hh hk3 hl hel fn λS4 G4=>?_⟩;refine⟨es.length+1 - (r++[t]).length,by rw[SY];simp;omega,r++[t],farE e x,other,one,rfl,R',fn,?_,?_,O3.trans (J7 G4),G4.keep _ _ h3⟩
   ·rw[<-er,e1];simp
   ·have:=R'.len;omega
noncomputable def ec2(kt:Nat):Stm:=(.loop (.nm 6) (.seq (.var 2)) [(.iff (.or (.not (.call kt (.cons (.var 0) (.cons (.var 6) .nil)))) (.cmp .NotIn (.ix (.var 1) (.var 6)) (.tup (.cons (.var 3) (.cons (.var 4) .nil))))) [.no] []),(.put (.var 5) (.var 6) (.ife (.cmp .Eq (.ix (.var 1) (.var 6)) (.var 3)) (.var 4) (.var 3)))])
noncomputable def OC(ku kt ki:Nat):List Stm:=[(.expr (.call ku (.cons (.var 3) (.cons (.var 4) .nil)))),(.asg (.nm 5) (.bi .list (.cons (.var 1) .nil))),ec2 kt,(.iff (.not (.call ki (.cons (.var 0) (.cons (.var 5) .nil)))) [.no] []),(.ret (.var 5))]
theorem NP(cs:List Nat)(a b:Nat):exL cs [] a b=cs:=by
 conv=>rhs;rw[<-LJ cs]
 unfold exL;exact VA λt _=>by simp
theorem LQ{cs r:List Nat}{a b t:Nat}(ht:t<cs.length):exL cs (r++[t]) a b=(exL cs r a b).set t (if hu cs t=a then b else a):=by
 apply VX;intro i;by_cases hi:i<cs.length
 ·have g1:(exL cs (r++[t]) a b)[i]?=some (hu (exL cs (r++[t]) a b) i):=Br (by rw[y0];exact hi);rw[g1,Bp hi];by_cases e:i=t
  ·subst e;rw[TQ (by rw[y0];exact hi),iP (by simp)]
  ·rw[Tz (Ne.symm e),Br (by rw[y0];exact hi),Bp hi]
   congr 1
   have:i∈r++[t]↔i∈r:=by simp[e]
   by_cases z:i∈r
   ·rw[iP z,iP (this.mpr z)]
   ·rw[iG z,iG (λy=>z (this.mp y))]
 ·rw[UB (by rw[y0];omega),UB (by rw[Ti,y0];omega)]
theorem Hj{es:EE}{cs:List Nat}(P:Prp es cs):HuP es (natS cs):=by
 refine⟨by rw[f7];exact P.len,λy hy=>?_,λi j h hij hj h1 h2 sh=>?_⟩
 ·unfold natS at hy;obtain⟨c,_,rfl⟩:=TJ.mp hy;exact Rk (.inr ⟨_,rfl,by omega⟩)
 ·obtain⟨c1,z1,e1⟩:=Az h1;obtain⟨c2,z2,e2⟩:=Az h2;rw[e1]at e2;injection e2 with e2;have e2:=Tb.mp e2;obtain⟨p,a1,a2⟩:=shr_end.mp sh
  have at':∀ t,t<es.length->endE es t p->AtP es t p:=λt ht z=>by
   refine⟨A9 es t,BV ht,?_⟩;exact z.imp Eq.symm Eq.symm
  have hu1:hu cs i=c1:=by show cs.getD i 0=_;rw[Sr,z1];rfl
  have hu2:hu cs j=c2:=by show cs.getD j 0=_;rw[Sr,z2];rfl
  have:=P.one i j p (at' i (by omega) a1) (at' j hj a2) (by rw[hu1,hu2,e2]);omega
theorem LR{S:Sto}{l:Nat}{cs:List Nat}(h:S[l]?=some (.lst (natS cs)))(hl:cs.length<=60)(hb:∀ c∈cs,c<=1000):Gd (VS S) 1 1000 (.loc l):=by
 refine .lst (k:=0) (b:=10) h (λy hy=>?_) (by rw[f7];omega) (by rw[f7];omega);unfold natS at hy;obtain⟨c,hc,rfl⟩:=TJ.mp hy;have:=hb c hc;exact .int ⟨by omega,by omega⟩
noncomputable def GW(s:Sn):Prop:=∀{n k l a b:Nat} {es:EE} {cs r:List Nat} {S:Sto} {Q:QE},S[k]?=some (.lst (natS cs))->S[l]?=some (.lst (natS r))->cs.length=es.length->(∀ e∈es,e.1<e.2/\e.2<n)->es.length<=60->a≠b->(∀ t∈r,t<es.length)->(∀ t∈r,hu cs t=a\/hu cs t=b)->r.length<=1000->Prp es (exL cs r a b)->(∀ c∈exL cs r a b,c<=1000)->
 (∀(l':Nat) (S':Sto),Gw S S'->S.length<=l'->S'[l']?=some (.lst (natS (exL cs r a b)))->Q (.loc l') S')->s [i6 n es,.loc k,.loc l,.int (a:Nat),.int (b:Nat)] S Q
theorem NQ(hΔ:∀ f,MonoN (Δ f)){ku kt ki:Nat}(hu':BX (Δ ku))(ht:BT (Δ kt))(hi:B0 (Δ ki)){D:Df}(hb:D.body=OC ku kt ki)(hN:D.N.length=7)(hp:D.ps.length=5):GW (g6 Δ D):=by
 intro n k l a b es cs r S Q hk hl hcl hen hel ab rlt rab rlen P hbd q;unfold g6;rw[hb,hN];refine⟨hp.symm,_,rfl,_,rfl,hu' ab ⟨_,rfl,_,e8 hk,?_⟩⟩;show wSs Δ [ec2 kt,(.iff (.not (.call ki (.cons (.var 0) (.cons (.var 5) .nil)))) [.no] []),(.ret (.var 5))] (l7 Q) [some (i6 n es),some (.loc k),some (.loc l),some (.int (a:Nat)),some (.int (b:Nat)),some (.loc S.length),none] (S++[.lst (natS cs)]);have kl:=(gM hk).1;have ll:=(gM hl).1;refine⟨_,rfl,_,e8 (e6 hl),?_⟩;refine p9 (i8 hΔ _) (λi ρ S'=>∃ o6:Option SV,ρ=[some (i6 n es),some (.loc k),some (.loc l),some (.int (a:Nat)),some (.int (b:Nat)),some (.loc S.length),o6]/\On S.length (S++[.lst (natS cs)]) S'/\S'[S.length]?=some (.lst (natS (exL cs (r.take i) a b)))) ⟨none,rfl,On.refl _ _,by rw[List.take_zero,NP];exact e7⟩ (λi ρ S' h=>?_) ?_ ?_
 ·obtain⟨_,_,O,_⟩:=h;show S'[l]?=(S++[SO.lst (natS cs)])[l]?;rw[e6 hl];exact O.keep _ _ (by omega) (e6 hl)
 ·rintro i x ρ S' hx ⟨o6,rfl,O,h5⟩;obtain⟨t,hti,rfl⟩:=Az hx;have tr:=Sh hti;have tl:=rlt t tr;have hk':=O.keep _ _ (by omega) (e6 (o:=SO.lst (natS cs)) hk);have hc:=Br (cs:=cs) (t:=t) (by omega);have e:r.take (i+1)=r.take i++[t]:=by rw[V9,hti];rfl
  refine⟨_,rfl,_,rfl,ht tl ⟨_,rfl,ifF rfl ⟨_,rfl,_,rfl,_,_,e8 hk',j3 (A8 hc),_,rfl,_,rfl,by show 2<=100000;decide,rfl,_,rfl,rfl,_,rfl,?_⟩⟩⟩
  have inn:(!inS (.int (hu cs t:Nat)) [.int (a:Nat),.int (b:Nat)])=false:=by
   rcases rab t tr with z | z<;>rw[z]<;>simp[inS,eqF]
  refine ifF inn (g9 ?_)
  have fin:∀ z:Int,z=((if hu cs t=a then b else a:Nat):Int)->Ft (.loc S.length) (.int (t:Nat)) (.int z) S' λS4=>∃ o6:Option SV,[some (i6 n es),some (.loc k),some (.loc l),some (.int (a:Nat)),some (.int (b:Nat)),some (.loc S.length),some (.int (t:Nat))]=[some (i6 n es),some (.loc k),some (.loc l),some (.int (a:Nat)),some (.int (b:Nat)),some (.loc S.length),o6]/\On S.length (S++[.lst (natS cs)]) S4/\S4[S.length]?=some (.lst (natS (exL cs (r.take (i+1)) a b))):=by
   rintro _ rfl;refine⟨_,t,h5,NA (by rw[f7,y0];omega),_,rfl,O.tape,?_⟩;rw[AZ h5,e,LQ (by omega)];unfold natS;rw[List.map_set]
  refine⟨_,rfl,_,rfl,_,_,e8 hk',j3 (A8 hc),_,rfl,_,rfl,ifD (λz=>⟨_,rfl,_,rfl,_,rfl,fin _ ?_⟩) (λz=>⟨_,rfl,_,rfl,_,rfl,fin _ ?_⟩)⟩
  ·have z:hu cs t=a:=Tb.mp z;rw[iP z]
  ·have z:¬ hu cs t=a:=λy=>z (congrArg _ y);rw[iG z]
 ·rintro ρ S' ⟨o6,rfl,O,h5⟩;rw[f7,Ut]at h5;refine⟨_,rfl,_,rfl,hi hen hel (LR h5 (by rw[y0];omega) hbd) λrr S2 G2 e2=>?_⟩;have:rr=true:=e2.mpr ⟨_,e8 h5,Hj P⟩;subst this;refine⟨_,rfl,ifF rfl (g9 ⟨_,rfl,q S.length S2 ?_ (Sd _) (G2.keep _ _ h5)⟩)⟩;refine⟨TH (TH (by rw[SY];omega) O.len) G2.len,λj o h=>G2.keep _ _ (O.keep j o ?_ (e6 h))⟩;exact Sl (gM h).1
noncomputable def stS(s:Nat×Nat×Nat):SV := .tup [.str "row",.int (s.1:Nat),.int (s.2.1:Nat),.int (s.2.2:Nat)]
structure StOk(n:Nat)(es:EE)(cs:List Nat)(s:Nat×Nat×Nat):Prop where
 P:Prp es cs
 en:∀ e∈es,e.1<e.2/\e.2<n
 el:es.length<=60
 ab:s.2.1≠s.2.2
 lt:s.1<n
 no:∀ u,AtP es u s.1->hu cs u≠s.2.2
 bd:∀ c∈cs,c<=1000
 b1:s.2.1<=1000
 b2:s.2.2<=1000
theorem StOk.row{n:Nat}{es:EE}{cs:List Nat}{s:Nat×Nat×Nat}(H:StOk n es cs s):∃ x o1 o2,RwI es cs s.2.1 s.2.2 s.1 (rwF es cs (es.length+1) s.1 s.2.1 s.2.2) x o1 o2/\∀ u,AtP es u x->hu cs u≠o1:=by
 have:=E8 H.P H.ab (λe he=>Sl (H.en e he).1) (es.length+1) [] s.1 s.2.1 s.2.2 (RwI.nil H.no) (by simp);simpa using this
theorem StOk.nxt{n:Nat}{es:EE}{cs:List Nat}{s:Nat×Nat×Nat}(H:StOk n es cs s):(∀ t∈rwF es cs (es.length+1) s.1 s.2.1 s.2.2,t<es.length)/\(∀ t∈rwF es cs (es.length+1) s.1 s.2.1 s.2.2,hu cs t=s.2.1\/hu cs t=s.2.2)/\(rwF es cs (es.length+1) s.1 s.2.1 s.2.2).length<=es.length/\Prp es (nxt es cs s)/\∀ c∈nxt es cs s,c<=1000:=by
 obtain⟨x,o1,o2,R,no⟩:=H.row
 have two:∀ t∈rwF es cs (es.length+1) s.1 s.2.1 s.2.2,hu cs t=s.2.1\/hu cs t=s.2.2:=λt ht=>by
  obtain⟨i,hi⟩:=Tp ht;rw[R.alt i t hi];split<;>simp
 refine⟨R.lt,two,R.len,LI H.P (R.clo no) two,λc hc=>?_⟩;unfold Rf.nxt exL at hc;obtain⟨t,ht,rfl⟩:=TJ.mp hc;have tl:=TC.mp ht;have:=H.b1;have:=H.b2;split
 ·split<;>omega
 ·refine H.bd _ ?_;show cs.getD t 0∈cs;rw[Sr,Se tl];exact TY tl
noncomputable def ar1(kh:Nat):Stm:=(.iff (.or (.not (.call kh (.cons (.var 3) .nil))) (.not (.call kh (.cons (.var 4) .nil)))) [(.ret (.c .non))] [])
noncomputable def OD(kh kr kx:Nat):List Stm:=[ar1 kh,(.tri [(.ret (.call kx (.cons (.var 0) (.cons (.var 1) (.cons (.call kr (.cons (.var 0) (.cons (.var 1) (.cons (.var 2) (.cons (.var 3) (.cons (.var 4) .nil)))))) (.cons (.var 3) (.cons (.var 4) .nil)))))))])]
noncomputable def Aa(s:Sn)(args:Nat×Nat×Nat->List SV):Prop:=∀{n k:Nat} {es:EE} {cs:List Nat} {st:Nat×Nat×Nat} {S:Sto} {Q:QE},StOk n es cs st->S[k]?=some (.lst (natS cs))->(∀(l:Nat) (S':Sto),Gw S S'->S.length<=l->S'[l]?=some (.lst (natS (nxt es cs st)))->Q (.loc l) S')->s (i6 n es :: .loc k::args st) S Q
theorem NR{kh kr kx:Nat}(hh:NL (Δ kh))(hr:Hi (Δ kr))(hx:GW (Δ kx)){D:Df}(hb:D.body=OD kh kr kx)(hN:D.N.length=5)(hp:D.ps.length=5):Aa (g6 Δ D) λs=>[.int (s.1:Nat),.int (s.2.1:Nat),.int (s.2.2:Nat)]:=by
 intro n k es cs st S Q H hk q;have el:=H.el;obtain⟨n1,n2,n3,n4,n5⟩:=H.nxt;unfold g6;rw[hb,hN];have g:∀ c:Nat,c<=1000->Gd (VS S) 0 10 (.int (c:Nat)):=λc hc => .int ⟨by omega,by omega⟩;have i0:∀ c:Nat,Q5 (.int (c:Nat))=true:=λc=>(show decide ((0:Int)<=((c:Nat):Int))=true from decide_eq_true (by omega))
 refine⟨hp.symm,_,rfl,hh (g _ H.b1) ⟨_,rfl,?_⟩⟩;rw[i0];refine ifF rfl ⟨_,rfl,hh (g _ H.b2) ⟨_,rfl,?_⟩⟩;rw[i0];refine ifF rfl (g9 ?_);refine⟨_,rfl,_,rfl,_,rfl,_,rfl,_,rfl,_,rfl,_,rfl,hr hk H.P H.en (by omega) H.lt H.ab H.no λl S1 G1 l1 h1=>⟨_,rfl,_,rfl,?_⟩⟩;exact hx (G1.keep _ _ hk) h1 H.P.len H.en el H.ab n1 n2 (by omega) n4 n5 λl' S2 G2 l2 h2=>q l' S2 (G1.trans G2) (TH G1.len l2) h2
noncomputable def as1:Stm:=(.iff (.or (.not (.bi .isi (.cons (.var 2) (.cons (.tyc .tuple) .nil)))) (.not (.var 2))) [(.ret (.c .non))] [])
noncomputable def as2:Stm:=(.asg (.nm 3) (.ix (.var 2) (.c (.int 0))))
noncomputable def as3(w:Str)(n:Int)(e:Ex):Stm:=(.iff (.and (.cmp .Eq (.var 3) (.c (.str w))) (.cmp .Eq (.bi .len (.cons (.var 2) .nil)) (.c (.int n)))) [(.ret e)] [])
noncomputable def LS(kh kd km kr:Nat):List Stm:=[as1,as2,as3 "hue" 3 (.call kh (.cons (.var 0) (.cons (.var 1) (.cons (.ix (.var 2) (.c (.int 1))) (.cons (.ix (.var 2) (.c (.int 2))) .nil))))),as3 "drop" 2 (.call kd (.cons (.var 0) (.cons (.var 1) (.cons (.ix (.var 2) (.c (.int 1))) .nil)))),as3 "move" 3 (.call km (.cons (.var 0) (.cons (.var 1) (.cons (.ix (.var 2) (.c (.int 1))) (.cons (.ix (.var 2) (.c (.int 2))) .nil))))),as3 "row" 4 (.call kr (.cons (.var 0) (.cons (.var 1) (.cons (.ix (.var 2) (.c (.int 1))) (.cons (.ix (.var 2) (.c (.int 2))) (.cons (.ix (.var 2) (.c (.int 3))) .nil)))))),(.ret (.c .non))]
theorem LU{kh kd km kr:Nat}(hr:Aa (Δ kr) λs=>[.int (s.1:Nat),.int (s.2.1:Nat),.int (s.2.2:Nat)]){D:Df}(hb:D.body=LS kh kd km kr)(hN:D.N.length=4)(hp:D.ps.length=3):Aa (g6 Δ D) λs=>[stS s]:=by
 intro n k es cs st S Q H hk q;unfold g6;rw[hb,hN];have no:∀ w:Str,w≠"row"->decide (("row":Str)=w)=false:=λw h=>decide_eq_false λz=>h z.symm;refine⟨hp.symm,_,rfl,_,nofun,rfl,_,rfl,ifF rfl ⟨_,rfl,true,rfl,ifF rfl (g9 ?_)⟩⟩;refine⟨_,rfl,_,_,rfl,rfl,?_⟩;refine⟨_,rfl,_,rfl,ifF (no "hue" (by decide)) (ifF rfl (g9 ?_))⟩;refine⟨_,rfl,_,rfl,ifF (no "drop" (by decide)) (ifF rfl (g9 ?_))⟩;refine⟨_,rfl,_,rfl,ifF (no "move" (by decide)) (ifF rfl (g9 ?_))⟩;refine⟨_,rfl,_,rfl,ifT (decide_eq_true rfl) ⟨_,rfl,_,rfl,_,rfl,ifT rfl ?_⟩⟩;exact⟨_,rfl,_,rfl,_,rfl,_,_,rfl,rfl,_,rfl,_,_,rfl,rfl,_,rfl,_,_,rfl,rfl,hr H hk q⟩
noncomputable def OE(ka:Nat):List Stm:=[(.asg (.nm 3) (.call ka (.cons (.var 0) (.cons (.var 1) (.cons (.var 2) .nil))))),(.iff (.cmp .Is (.var 3) (.c .non)) [.no] []),(.ret (.var 3))]
theorem NS{ka:Nat}(ha:Aa (Δ ka) λs=>[stS s]){D:Df}(hb:D.body=OE ka)(hN:D.N.length=4)(hp:D.ps.length=3):Aa (g6 Δ D) λs=>[stS s]:=by
 intro n k es cs st S Q H hk q;unfold g6;rw[hb,hN];refine⟨hp.symm,_,rfl,_,rfl,_,rfl,ha H hk λl S' G' l' h'=>?_⟩;exact⟨_,rfl,.inl ⟨rfl,_,rfl,ifF rfl (g9 ⟨_,rfl,q l S' G' l' h'⟩)⟩⟩
end
theorem NT{ns:List Int}{x:Int}:x∈srt ns↔x∈ns:=by unfold srt;exact List.mem_mergeSort
theorem Q8(x:Int)(ns:List Int):inS (.int x) (ns.map SV.int)=decide (x∈ns):=by
 rw[Tc,dQ];unfold inS;rw[Uv,UJ];constructor
 ·rintro⟨a,ha,h⟩;have h:(a == x)=true:=h;rw[bQ]at h;rw[<-h];exact ha
 ·intro h;exact⟨x,h,by show(x == x)=true;simp⟩
theorem LV(ns:List Int):(ns.map SV.int).all t7=true:=by
 rw[VV,Sy];intro _ _;rfl
section
variable{Δ:Nat->Sn}
noncomputable def Hk(kt:Nat):List Stm:=[(.ret (.bi .sorted (.cons (.comp ["tie"] ["hueing"] [1] (.nm 0) (.seq (.call kt (.cons (.var 0) (.cons (.var 2) .nil)))) (.yes (.cmp .IsNot (.ix (.var 1) (.var 0)) (.c .non))) (.ix (.var 1) (.var 0))) .nil)))]
noncomputable def Cf(s:Sn):Prop:=∀{n k p:Nat} {es:EE} {cs:List Nat} {S:Sto} {Q:QE},S[k]?=some (.lst (natS cs))->cs.length=es.length->es.length<=60->p<n->(∀(l:Nat) (ns:List Int) (S':Sto),Gw S S'->S'[l]?=some (.lst (ns.map SV.int))->(∀ h:Nat,(h:Int)∈ns↔∃ u,AtP es u p/\hu cs u=h)->Q (.loc l) S')->s [i6 n es,.loc k,.int (p:Nat)] S Q
theorem JA(hΔ:∀ f,MonoN (Δ f)){kt:Nat}(ht:BU (Δ kt)){D:Df}(hb:D.body=Hk kt)(hN:D.N.length=3)(hp:D.ps.length=3):Cf (g6 Δ D):=by
 intro n k p es cs S Q hk hl hel hpn q;unfold g6;rw[hb,hN];refine⟨hp.symm,_,rfl,_,rfl,ht (by omega) hpn ⟨_,e8 e7,?_⟩⟩;have hk1:=e6 (o:=SO.lst (natS (m8 es p es.length))) hk;have G1:Gw S (S++[SO.lst (natS (m8 es p es.length))]):=(Gw.refl S).push;generalize S++[SO.lst (natS (m8 es p es.length))]=S1 at *;have tl:(m8 es p es.length).length<=es.length:=E6 _ _;refine h8 (j0 hΔ _).2 (c8 hΔ _).1 (λj ys S2=>S2=S1/\ys=natS (((m8 es p es.length).take j).map (hu cs))) ⟨rfl,rfl⟩ (λ_ _ _ z=>by rw[z.1];exact rfl) ?_ ?_
 ·rintro j x ys S2 hx ⟨rfl,rfl⟩;obtain⟨t,htj,rfl⟩:=Az hx;obtain⟨e,he,_⟩:=mem_tiesAt.mp (Sh htj);have hc:=Br (cs:=cs) (t:=t) (by have:=(gM he).1;omega);have hjl:=(gM htj).1;refine⟨_,rfl,_,rfl,_,_,e8 hk1,j3 (A8 hc),.inl ⟨rfl,_,rfl,ifT rfl ⟨_,rfl,_,rfl,_,_,e8 hk1,j3 (A8 hc),by rw[f7,SX,UH];show _<100000;omega,rfl,?_⟩⟩⟩;rw[V9,htj,Sx,r6];rfl
 ·rintro ys S2 ⟨rfl,rfl⟩;rw[f7,Ut];refine⟨_,_,nofun,e8 e7,Hd _,by rw[SX,SX];omega,?_⟩;refine q _ _ _ G1.push.push e7 λh=>?_;rw[NT];constructor
  ·intro z;obtain⟨c,hc,e⟩:=TJ.mp z;obtain⟨u,hu',rfl⟩:=TJ.mp hc;exact⟨u,mem_tiesAt.mp hu',Tb.mp e⟩
  ·rintro⟨u,hu',rfl⟩;exact TJ.mpr ⟨_,TJ.mpr ⟨u,mem_tiesAt.mpr hu',rfl⟩,rfl⟩
noncomputable def rm1(ka kr:Nat):Stm:=(.iff (.cmp .NotIn (.var 3) (.call ka (.cons (.var 0) (.cons (.var 1) (.cons (.var 4) .nil))))) [(.iff (.cmp .Eq (.op .Mod (.bi .len (.cons (.call kr (.cons (.var 0) (.cons (.var 1) (.cons (.var 4) (.cons (.var 2) (.cons (.var 3) .nil)))))) .nil)) (.c (.int 2))) (.c (.int 1))) [(.ret (.tup (.cons (.c (.str "row")) (.cons (.var 4) (.cons (.var 2) (.cons (.var 3) .nil))))))] [])] [])
noncomputable def LW(ka kr:Nat):List Stm:=[(.loop (.nm 4) (.rng1 (.ix (.var 0) (.c (.int 0)))) [rm1 ka kr]),(.ret (.c .non))]
noncomputable def EA(s:Sn):Prop:=∀{n k a b:Nat} {es:EE} {cs:List Nat} {S:Sto} {Q:QE},S[k]?=some (.lst (natS cs))->Prp es cs->(∀ e∈es,e.1<e.2/\e.2<n)->es.length<=60->n<=1000->a≠b->(∃ p,p<n/\OkP es cs a b p)->(∀(p:Nat) (S':Sto),Gw S S'->p<n->OkP es cs a b p->(∀ q,q<p->¬ OkP es cs a b q)->Q (stS (p,a,b)) S')->s [i6 n es,.loc k,.int (a:Nat),.int (b:Nat)] S Q
theorem LX(hΔ:∀ f,MonoN (Δ f)){ka kr:Nat}(ha:Cf (Δ ka))(hr:Hi (Δ kr)){D:Df}(hb:D.body=LW ka kr)(hN:D.N.length=5)(hp:D.ps.length=4):EA (g6 Δ D):=by
 intro n k a b es cs S Q hk P hen hel hn ab ⟨p0,hp0,ok0⟩ q;unfold g6;rw[hb,hN];refine⟨hp.symm,_,rfl,_,_,rfl,rfl,_,rfl,⟨by omega,by omega⟩,?_⟩;refine BS (i8 hΔ _) (λi ρ S2=>∃ o4:Option SV,ρ=[some (i6 n es),some (.loc k),some (.int (a:Nat)),some (.int (b:Nat)),o4]/\Gw S S2/\∀ j,j<i->¬ OkP es cs a b j) ⟨none,rfl,Gw.refl S,λj hj=>by omega⟩ (λ_ _ _ _=>trivial) ?_ ?_
 ·rintro i x ρ S2 E hE hR hx ⟨o4,rfl,G,no⟩;obtain⟨rfl,hi⟩:=j4 hx;rw[U7]at hi ⊢;have hi:i<n:=by omega
  have next:∀ S3,Gw S S3->¬ OkP es cs a b i->E.nx [some (i6 n es),some (.loc k),some (.int (a:Nat)),some (.int (b:Nat)),some (.int (i:Nat))] S3:=λS3 G3 z=>hE _ _ ⟨_,rfl,G3,λj hj=>by
   by_cases e:j=i
   ·rw[e];exact z
   ·exact no j (by omega)⟩
  refine⟨_,rfl,_,rfl,_,rfl,_,rfl,ha (G.keep _ _ hk) P.len hel hi λl ns S3 G3 h3 mem=>?_⟩;show match Bu (.loc l) S3 with | some ms=>_ | none=>_
  rw[CY h3];refine⟨rfl,_,e8 h3,LV _,_,rfl,?_⟩;show if (!inS (.int (b:Nat)) (ns.map SV.int))=true then _ else _
  rw[Q8];by_cases hm:((b:Nat):Int)∈ns
  ·refine ifF (by simpa using hm) (next S3 (G.trans G3) λz=>?_);obtain⟨u,hu',e⟩:=(mem b).mp hm;exact z.1 u hu' e
  ·have hno:∀ u,AtP es u i->hu cs u≠b:=λu hu' e=>hm ((mem b).mpr ⟨u,hu',e⟩);refine ifT (by simpa using hm) ?_;refine⟨_,rfl,_,rfl,_,rfl,_,rfl,_,rfl,hr ((G.trans G3).keep _ _ hk) P hen (by omega) hi ab hno λl2 S4 G4 l4 h4=>⟨_,e8 h4,(by show(0:Int)<2;decide),?_⟩⟩;have G5:=G.trans (G3.trans G4);refine⟨_,rfl,?_⟩;rw[f7];refine ifD (λz=>?_) (λz=>next S4 G5 λy=>z ?_)
   ·have z:(((rwF es cs (es.length+1) i a b).length:Nat):Int) % 2=1:=z;exact⟨_,rfl,_,rfl,_,rfl,by show 4<=100000;decide,hR _ _ (q i S4 G5 hi ⟨hno,by omega⟩ no)⟩
   ·have:=y.2;show(((rwF es cs (es.length+1) i a b).length:Nat):Int) % 2=1;omega
 ·rintro ρ S2 ⟨o4,rfl,G,no⟩;rw[j5,show((n:Int) - 0).toNat=n by omega]at no;exact absurd ok0 (no p0 hp0)
structure HueL(S:Sto)(x:SV)(cs:List Nat):Prop where
 seq:∀ S',Gw S S'->seqS x S'=some (natS cs)
 keep:∀ S1 S',Gw S S1->Gw S S'->keepS x S1 S'
theorem HueL.loc{S:Sto}{k:Nat}{cs:List Nat}(h:S[k]?=some (.lst (natS cs))):HueL S (.loc k) cs:=⟨λS' G=>e8 (G.keep _ _ h),λS1 S' G1 G2=>by show S'[k]?=S1[k]?;rw[G1.keep _ _ h,G2.keep _ _ h]⟩
theorem HueL.tup{S:Sto}{cs:List Nat}:HueL S (.tup (natS cs)) cs:=⟨λ_ _=>rfl,λ_ _ _ _=>trivial⟩
theorem HueL.grow{S S':Sto}{x:SV}{cs:List Nat}(h:HueL S x cs)(G:Gw S S'):HueL S' x cs:=⟨λS2 G2=>h.seq S2 (G.trans G2),λS1 S2 G1 G2=>h.keep S1 S2 (G.trans G1) (G.trans G2)⟩
noncomputable def FL:List Stm:=[(.ret (.comp ["hue"] ["hueing"] [0] (.nm 0) (.rng1 (.var 1)) .no (.comp ["tie","own"] ["hue"] [0] (.tup (.cons (.nm 0) (.cons (.nm 1) .nil))) (.enum (.var 1)) (.yes (.cmp .Eq (.var 1) (.var 2))) (.var 0))))]
noncomputable def Bs(s:Sn):Prop:=∀{H:Nat} {x:SV} {cs:List Nat} {S:Sto} {Q:QE},HueL S x cs->cs.length<=1000->H<=1000->(∀(l:Nat) (ls:List Nat) (S':Sto),Gw S S'->S'[l]?=some (.lst (ls.map SV.loc))->ls.length=H->(∀ h k:Nat,ls[h]?=some k->∃ ts:List Nat,S'[k]?=some (.lst (natS ts))/\ts.length=cs.count h)->Q (.loc l) S')->s [x,.int (H:Nat)] S Q
theorem GX(hΔ:∀ f,MonoN (Δ f)){D:Df}(hb:D.body=FL)(hN:D.N.length=2)(hp:D.ps.length=2):Bs (g6 Δ D):=by
 intro H x cs S Q hx hl hH q;unfold g6;rw[hb,hN];refine⟨hp.symm,_,rfl,_,rfl,⟨by omega,by omega⟩,?_⟩;refine h8 (j0 hΔ _).2 (c8 hΔ _).1 (λi ys S2=>Gw S S2/\∃ ls:List Nat,ys=ls.map SV.loc/\ls.length=i/\∀ h k:Nat,ls[h]?=some k->∃ ts:List Nat,S2[k]?=some (.lst (natS ts))/\ts.length=cs.count h) ⟨Gw.refl S,[],rfl,rfl,λh k e=>by simp at e⟩ (λ_ _ _ _=>trivial) ?_ ?_
 ·rintro i y ys S2 hy ⟨G,ls,rfl,ll,row⟩;obtain⟨rfl,hi⟩:=j4 hy;rw[U7]at hi ⊢;refine⟨_,rfl,_,hx.seq S2 G,?_⟩;refine h8 (j0 hΔ _).2 (c8 hΔ _).1 (λj zs S3=>S3=S2/\zs=natS ((Sf j).filter λt=>decide (hu cs t=i))) ⟨rfl,rfl⟩ (λ_ _ _ z=>by rw[z.1];exact hx.keep S2 S2 G G) ?_ ?_
  ·rintro j z zs S3 hz ⟨rfl,rfl⟩;obtain⟨w,hw,rfl⟩:=E4 hz;obtain⟨c,hc,rfl⟩:=Az hw;have hjl:=(gM hc).1;have hcu:hu cs j=c:=by show cs.getD j 0=c;rw[Sr,hc];rfl
   have fs:=FG (λt=>decide (hu cs t=i)) j;have fl:=E6 (λt=>decide (hu cs t=i)) j;refine⟨_,rfl,_,rfl,_,rfl,ifD (λz=>?_) (λz=>⟨rfl,?_⟩)⟩
   ·have z:c=i:=Tb.mp z;rw[iP (by rw[hcu];exact decide_eq_true z)]at fs;exact⟨_,rfl,by rw[f7];show _<100000;omega,rfl,by rw[fs,r6];rfl⟩
   ·have z:¬ c=i:=λy=>z (congrArg _ y);rw[iG (by rw[hcu];simpa using z),U2]at fs;rw[fs]
  ·rintro zs S3 ⟨rfl,rfl⟩;rw[C3,f7];refine⟨by rw[SX];show _<100000;omega,G.push,ls++[S3.length],by rw[Sx];rfl,by rw[SY,ll];rfl,λh k e=>?_⟩;rcases FH e with⟨e1,e2⟩ | e
   ·exact⟨_,by rw[e2];exact e7,by rw[e1,ll,AS]⟩
   ·obtain⟨ts,t1,t2⟩:=row h k e;exact⟨ts,e6 t1,t2⟩
 ·rintro ys S2 ⟨G,ls,rfl,ll,row⟩;rw[j5]at ll;exact q _ ls _ G.push e7 (by rw[ll];omega) λh k e=>let ⟨ts,t1,t2⟩:=row h k e;⟨ts,e6 t1,t2⟩
noncomputable def LY(kc:Nat):List Stm:=[(.ret (.comp ["ties"] [] [] (.nm 0) (.seq (.call kc (.cons (.var 0) (.cons (.var 1) .nil)))) .no (.bi .len (.cons (.var 0) .nil))))]
noncomputable def szL(cs:List Nat)(H:Nat):List Nat:=(Sf H).map λh=>cs.count h
noncomputable def EB(s:Sn):Prop:=∀{H:Nat} {x:SV} {cs:List Nat} {S:Sto} {Q:QE},HueL S x cs->cs.length<=1000->H<=1000->(∀(l:Nat) (S':Sto),Gw S S'->S.length<=l->S'[l]?=some (.lst (natS (szL cs H)))->Q (.loc l) S')->s [x,.int (H:Nat)] S Q
theorem LZ(hΔ:∀ f,MonoN (Δ f)){kc:Nat}(hc:Bs (Δ kc)){D:Df}(hb:D.body=LY kc)(hN:D.N.length=2)(hp:D.ps.length=2):EB (g6 Δ D):=by
 intro H x cs S Q hx hl hH q;unfold g6;rw[hb,hN];refine⟨hp.symm,_,rfl,_,rfl,hc hx hl hH λl ls S1 G1 h1 ll row=>⟨_,e8 h1,?_⟩⟩;refine h8 (j0 hΔ _).2 (c8 hΔ _).1 (λi ys S2=>S2=S1/\ys=natS (szL cs i)) ⟨rfl,rfl⟩ (λ_ _ _ z=>by rw[z.1];exact rfl) ?_ ?_
 ·rintro i y ys S2 hy ⟨rfl,rfl⟩;rw[Sq]at hy;obtain⟨k,hk,rfl⟩:=Uy.mp hy;have hi:=(gM hk).1;obtain⟨ts,t1,t2⟩:=row i k hk;refine⟨_,rfl,_,e8 t1,by unfold szL;rw[f7,SX,T8];show _<100000;omega,rfl,?_⟩;rw[f7,t2];unfold szL;rw[Tj,Sx,r6];rfl
 ·rintro ys S2 ⟨rfl,rfl⟩;rw[SX,ll];exact q _ _ G1.push G1.len e7
end
theorem AC(c:List Nat):natS c=(c.map λ(i:Nat)=>(i:Int)).map SV.int:=by unfold natS;rw[Vw];rfl
theorem Cg{x:Int}:∀{ns:List Int},x∈ns->∃ j:Nat,ns[j]?=some x/\∀ m:Nat,m<j->ns[m]?≠some x
 | y::ns,h=>by
   by_cases e:y=x
   ·exact⟨0,by rw[e];rfl,λm hm=>by omega⟩
   ·obtain⟨j,h1,h2⟩:=Cg ((Sm.mp h).resolve_left λz=>e z.symm);refine⟨j+1,by simpa using h1,λm hm=>?_⟩;cases m with
    | zero=>simpa using e
    | succ m=>simpa using h2 m (by omega)
theorem sz_get{cs:List Nat}{H h:Nat}{x:Int}:((szL cs H).map λ(i:Nat)=>(i:Int))[h]?=some x↔h<H/\x=((cs.count h:Nat):Int):=by
 unfold szL;rw[Vw,Sq];by_cases hh:h<H
 ·rw[Tr hh];exact⟨λz=>⟨hh,(oj z).symm⟩,λz=>by rw[z.2];rfl⟩
 ·rw[UB (by rw[T8];omega)];exact⟨(λz=>by cases z),λz=>absurd z.1 hh⟩
theorem sz_mem{cs:List Nat}{H:Nat}{x:Int}:x∈(szL cs H).map (λ(i:Nat)=>(i:Int))↔∃ h,h<H/\x=((cs.count h:Nat):Int):=by
 rw[List.mem_iff_getElem?];exact⟨λ⟨h,e⟩=>⟨h,sz_get.mp e⟩,λ⟨h,e⟩=>⟨h,sz_get.mpr e⟩⟩
theorem EC:∀ x y:Nat,tri x+tri y<=tri (x+y)
 | x,0=>by simp[tri]
 | x,y+1=>by
   have:=EC x y;rw[show x+(y+1)=(x+y)+1 by omega];show tri x+(tri y+y)<=tri (x+y)+(x+y);omega
theorem Q9:∀{x y:Nat},x<=y->tri x<=tri y:=λ{x y} h=>by
 have:=EC x (y - x);rw[show x+(y - x)=y by omega]at this;omega
theorem Hl(f:Nat->Nat):∀ H:Nat,At (λh=>tri (f h)) H<=tri (At f H)
 | 0=>Sd _
 | H+1=>by
   have:=Hl f H;have:=EC (At f H) (f H);show At _ H+tri (f H)<=tri (At f H+f H);omega
theorem FM{α:Type}(g:Nat->List α):∀ H:Nat,At (λh=>(g h).length) H=((Sf H).flatMap g).length
 | 0=>rfl
 | H+1=>by
   rw[Tj,List.flatMap_append,SY,<-FM g H];show At _ H+_=_;simp
theorem La{cs:List Nat}{H:Nat}(h:cs.length<=60):mu cs H<=1770:=by
 have e:At (λh=>cs.count h) H<=cs.length:=by
  rw[Bq (g:=λh=>((Sf cs.length).filter λt=>decide (hu cs t=h)).length) λh _=>AS cs h,FM];have:=FI (g:=hu cs) (fs:=Sf H) (ts:=Sf cs.length) UK
  rwa [T8]at this
 have:=Hl (λh=>cs.count h) H;have:=Q9 (x:=At (λh=>cs.count h) H) (y:=60) (by omega);have t:tri 60=1770:=by decide
 unfold mu;omega
section
variable{Δ:Nat->Sn}
noncomputable def ev1(ks:Nat):Stm:=(.asg (.nm 3) (.call ks (.cons (.var 1) (.cons (.var 2) .nil))))
noncomputable def ev2:Stm:=(.iff (.or (.not (.var 3)) (.cmp .Lt (.op .Sub (.max1 (.var 3)) (.min1 (.var 3))) (.c (.int 2)))) [(.ret (.c .non))] [])
noncomputable def ev3(km:Nat):Stm:=(.ret (.call km (.cons (.var 0) (.cons (.var 1) (.cons (.mt .index (.var 3) (.cons (.max1 (.var 3)) .nil)) (.cons (.mt .index (.var 3) (.cons (.min1 (.var 3)) .nil)) .nil))))))
noncomputable def Rm(ks km:Nat):List Stm:=[ev1 ks,ev2,ev3 km]
noncomputable def Lb(s:Sn):Prop:=∀{n k H:Nat} {es:EE} {cs:List Nat} {S:Sto} {Q:QE},S[k]?=some (.lst (natS cs))->Prp es cs->(∀ e∈es,e.1<e.2/\e.2<n)->es.length<=60->n<=1000->H<=1000->(∀ S',Gw S S'->Evn cs H->Q .non S')->(∀(st:Nat×Nat×Nat) (S':Sto),Gw S S'->StepIs n es H cs st->Q (stS st) S')->s [i6 n es,.loc k,.int (H:Nat)] S Q
theorem QA{ks km:Nat}(hs:EB (Δ ks))(hm:EA (Δ km)){D:Df}(hb:D.body=Rm ks km)(hN:D.N.length=4)(hp:D.ps.length=3):Lb (g6 Δ D):=by
 intro n k H es cs S Q hk P hen hel hn hH q0 q1;have hl:=P.len;unfold g6;rw[hb,hN];refine⟨hp.symm,_,rfl,_,rfl,hs (.loc hk) (by omega) hH λl S1 G1 l1 h1=>?_⟩;show wSs Δ [ev2,ev3 km] (l7 Q) [some (i6 n es),some (.loc k),some (.int (H:Nat)),some (.loc l)] S1;have hk1:=G1.keep _ _ hk;have tr:KI (.loc l) S1=some (!(natS (szL cs H)).isEmpty):=by simp only[KI,h1]
 by_cases h0:H=0
 ·subst h0;refine⟨_,rfl,_,tr,ifT rfl ?_⟩;exact q0 S1 G1 λg h hg=>by omega
 have emp:(natS (szL cs H)).isEmpty=false:=by
  cases hz:natS (szL cs H) with
  | nil=>have:=congrArg Uo hz;unfold szL at this;rw[f7,SX,T8]at this;exact absurd this h0
  | cons _ _=>rfl
 rw[emp]at tr;have h1':=h1;rw[AC]at h1;have pos:0<((szL cs H).map λ(i:Nat)=>(i:Int)).length:=by unfold szL;rw[SX,SX,T8];omega
 refine⟨_,rfl,_,tr,ifF rfl ⟨_,rfl,_,_,rfl,h1,pos,λM gMx=>⟨_,rfl,_,_,rfl,h1,pos,λm gm=>⟨_,rfl,ifD (λz=>?_) (λz=>g9 ?_)⟩⟩⟩⟩
 ·have z:M - m<2:=z;refine q0 S1 G1 λg h hg hh=>?_;have a1:=gMx.2 _ (sz_mem.mpr ⟨g,hg,rfl⟩);have a2:=gm.2 _ (sz_mem.mpr ⟨h,hh,rfl⟩);omega
 ·have z:¬ M - m<2:=z;refine⟨_,rfl,_,rfl,_,rfl,⟨_,_,rfl,h1'⟩,_,rfl,_,_,rfl,h1,pos,λM' gMx'=>?_⟩;obtain⟨a,ha,fa⟩:=Cg gMx'.1;refine⟨_,a,h1,ha,fa,_,rfl,⟨_,_,rfl,h1'⟩,_,rfl,_,_,rfl,h1,pos,λm' gm'=>?_⟩;obtain⟨b,hb',fb⟩:=Cg gm'.1;refine⟨_,b,h1,hb',fb,?_⟩;obtain⟨aH,ea⟩:=sz_get.mp ha;obtain⟨bH,eb⟩:=sz_get.mp hb';have eM:M=M':=V1 (gMx'.2 _ gMx.1) (gMx.2 _ gMx'.1);have em:m=m':=V1 (gm.2 _ gm'.1) (gm'.2 _ gm.1);have two:cs.count b+2<=cs.count a:=by omega
  have ab:a≠b:=λz=>by rw[z]at two;omega
  have mx:IsMx (λh=>cs.count h) H a:=⟨aH,λg hg=>by
   have:=gMx'.2 _ (sz_mem.mpr ⟨g,hg,rfl⟩);show cs.count g<=cs.count a;omega,λg hg z=>fa g hg (sz_get.mpr ⟨by omega,by rw[ea];exact congrArg _ (show cs.count a=cs.count g from z.symm)⟩)⟩
  have mn:IsMn (λh=>cs.count h) H b:=⟨bH,λg hg=>by
   have:=gm'.2 _ (sz_mem.mpr ⟨g,hg,rfl⟩);show cs.count b<=cs.count g;omega,λg hg z=>fb g hg (sz_get.mpr ⟨by omega,by rw[eb];exact congrArg _ (show cs.count b=cs.count g from z.symm)⟩)⟩
  exact hm hk1 P hen hel hn ab (Q2 P hen ab (by omega)) λp S2 G2 hp ok fst=>q1 (p,a,b) S2 (G1.trans G2) ⟨mx,mn,two,hp,ok,fst⟩
noncomputable def en4(kd ks:Nat):Stm:=(.whl (.cmp .IsNot (.var 5) (.c .non)) [(.asg (.nm 3) (.call kd (.cons (.var 0) (.cons (.var 3) (.cons (.var 5) .nil))))),(.expr (.mt .append (.var 4) (.cons (.var 5) .nil))),(.asg (.nm 5) (.call ks (.cons (.var 0) (.cons (.var 3) (.cons (.var 2) .nil)))))])
noncomputable def Hm(ks kd:Nat):List Stm:=[(.asg (.nm 3) (.bi .list (.cons (.var 1) .nil))),(.asg (.nm 4) (.lst .nil)),(.asg (.nm 5) (.call ks (.cons (.var 0) (.cons (.var 3) (.cons (.var 2) .nil))))),en4 kd ks,(.ret (.tup (.cons (.var 3) (.cons (.var 4) .nil))))]
noncomputable def FN(s:Sn):Prop:=∀{n H:Nat} {x:SV} {es:EE} {cs:List Nat} {S:Sto} {Q:QE},HueL S x cs->Prp es cs->(∀ e∈es,e.1<e.2/\e.2<n)->es.length<=60->n<=1000->H<=1000->(∀ h∈cs,h<H)->(∀(k1 k2:Nat) (ds:List Nat) (sts:List (Nat×Nat×Nat)) (S':Sto),Gw S S'->S.length<=k1->S.length<=k2->k1≠k2->S'[k1]?=some (.lst (natS ds))->S'[k2]?=some (.lst (sts.map stS))->sts.length<=2000->Prp es ds->(∀ h∈ds,h<H)->Evn ds H->Evs n es H cs sts ds->Q (.tup [.loc k1,.loc k2]) S')->s [i6 n es,x,.int (H:Nat)] S Q
theorem JB{ks kd:Nat}(hs:Lb (Δ ks))(hd:Aa (Δ kd) λs=>[stS s]){D:Df}(hb:D.body=Hm ks kd)(hN:D.N.length=6)(hp:D.ps.length=3):FN (g6 Δ D):=by
 intro n H x es cs S Q hx P hen hel hn hH hb' q;have hl:=P.len;have ms:=La (cs:=cs) (H:=H) (by omega);unfold g6;rw[hb,hN];refine⟨hp.symm,_,rfl,_,hx.seq S (Gw.refl S),?_⟩;refine⟨by show 0<=100000;decide,?_⟩;have k1a:(S++[SO.lst (natS cs)]++[SO.lst []])[S.length]?=some (.lst (natS cs)):=e6 e7;have k2a:(S++[SO.lst (natS cs)]++[SO.lst []])[(S++[SO.lst (natS cs)]).length]?=some (.lst []):=e7;have lw:(S++[SO.lst (natS cs)]).length=S.length+1:=by simp
 rw[lw]at k2a;have G0:Gw S (S++[SO.lst (natS cs)]++[SO.lst []]):=(Gw.refl S).push.push;show wSs Δ [(.asg (.nm 5) (.call ks (.cons (.var 0) (.cons (.var 3) (.cons (.var 2) .nil))))),en4 kd ks,(.ret (.tup (.cons (.var 3) (.cons (.var 4) .nil))))] (l7 Q) [some (i6 n es),some x,some (.int (H:Nat)),some (.loc S.length),some (.loc (S++[SO.lst (natS cs)]).length),none] (S++[SO.lst (natS cs)]++[SO.lst []]);rw[lw];generalize S++[SO.lst (natS cs)]++[SO.lst []]=S1 at *
 let W:Nat->EnvS->Sto->Prop:=λm ρ S'=>∃(k1:Nat) (ds:List Nat) (sts:List (Nat×Nat×Nat)) (v:SV),ρ=[some (i6 n es),some x,some (.int (H:Nat)),some (.loc k1),some (.loc (S.length+1)),some v]/\((v = .non/\Evn ds H)\/∃ st,v=stS st/\StepIs n es H ds st)/\S.length<=k1/\k1≠S.length+1/\On (S.length+1) S1 S'/\S'[k1]?=some (.lst (natS ds))/\S'[S.length+1]?=some (.lst (sts.map stS))/\Prp es ds/\(∀ h∈ds,h<H)/\Evs n es H cs sts ds/\m=mu ds H/\sts.length+mu ds H<=mu cs H
 have go:∀(m:Nat) (ρ:EnvS) (S':Sto),W m ρ S'->wSs Δ [en4 kd ks,(.ret (.tup (.cons (.var 3) (.cons (.var 4) .nil))))] (l7 Q) ρ S':=by
  intro m ρ S' hW;refine⟨W,⟨m,hW⟩,?_⟩;rintro m ρ S' ⟨k1,ds,sts,v,rfl,hv,k1l,k1n,O,h1,h2,Pd,hd',ev,rfl,sl⟩;rcases hv with⟨rfl,even⟩ | ⟨st,rfl,si⟩
  ·refine⟨_,rfl,.inl ⟨rfl,_,rfl,ifF rfl ?_⟩⟩;refine⟨_,rfl,_,rfl,by show 2<=100000;decide,q k1 (S.length+1) ds sts S' ⟨TH G0.len O.len,λj o h=>O.keep j o ?_ (G0.keep j o h)⟩ k1l (by omega) k1n h1 h2 (by omega) Pd hd' even ev⟩;have:=(gM h).1;omega
  ·refine⟨_,rfl,.inl ⟨rfl,_,rfl,ifT rfl ?_⟩⟩;have ab:st.2.1≠st.2.2:=λz=>by have:=si.two;rw[z]at this;omega
   have a1:=si.mx.lt;have a2:=si.mn.lt;have so:StOk n es ds st:=⟨Pd,hen,hel,ab,si.lt,si.ok.1,λc hc=>by have:=hd' c hc;omega,by omega,by omega⟩
   obtain⟨z1,z2,z3⟩:=NH Pd hen hd' si;refine⟨_,rfl,_,rfl,_,rfl,hd so h1 λl S3 G3 l3 h3=>?_⟩;have k2l:=(gM h2).1;have h23:=G3.keep _ _ h2;have nl:l≠S.length+1:=by omega
   refine⟨_,rfl,⟨_,_,rfl,h23⟩,_,rfl,_,h23,by rw[SX];show _<100000;omega,?_⟩;have h24:(S3.set (S.length+1) (.lst (sts.map stS++[stS st])))[S.length+1]?=some (.lst ((sts++[st]).map stS)):=by rw[AZ h23,Sx];rfl
   have h14:(S3.set (S.length+1) (.lst (sts.map stS++[stS st])))[l]?=some (.lst (natS (nxt es ds st))):=by rw[A7 (Ne.symm nl)];exact h3
   have O4:On (S.length+1) S1 (S3.set (S.length+1) (.lst (sts.map stS++[stS st]))):=(O.trans (J7 G3)).tape;show wSs Δ [(.asg (.nm 5) (.call ks (.cons (.var 0) (.cons (.var 3) (.cons (.var 2) .nil)))))] _ [some (i6 n es),some x,some (.int (H:Nat)),some (.loc l),some (.loc (S.length+1)),some (stS st)] (S3.set (S.length+1) (.lst (sts.map stS++[stS st])));generalize S3.set (S.length+1) (.lst (sts.map stS++[stS st]))=S4 at *;have slen:(sts++[st]).length=sts.length+1:=by simp
   have lS:S.length<=l:=by omega
   refine⟨_,rfl,_,rfl,_,rfl,hs h14 z1 hen hel hn hH (λS5 G5 even=>?_) λst' S5 G5 si'=>?_⟩
   ·exact⟨mu (nxt es ds st) H,z3,l,nxt es ds st,sts++[st],_,rfl,.inl ⟨rfl,even⟩,lS,nl,O4.trans (J7 G5),G5.keep _ _ h14,G5.keep _ _ h24,z1,z2,ev.snoc si,rfl,by omega⟩
   ·exact⟨mu (nxt es ds st) H,z3,l,nxt es ds st,sts++[st],_,rfl,.inr ⟨st',rfl,si'⟩,lS,nl,O4.trans (J7 G5),G5.keep _ _ h14,G5.keep _ _ h24,z1,z2,ev.snoc si,rfl,by omega⟩
 refine⟨_,rfl,_,rfl,_,rfl,hs k1a P hen hel hn hH (λS5 G5 even=>?_) λst' S5 G5 si'=>?_⟩
 ·exact go (mu cs H) _ S5 ⟨S.length,cs,[],_,rfl,.inl ⟨rfl,even⟩,Sd _,by omega,J7 G5,G5.keep _ _ k1a,G5.keep _ _ k2a,P,hb',.nil cs,rfl,by simp⟩
 ·exact go (mu cs H) _ S5 ⟨S.length,cs,[],_,rfl,.inr ⟨st',rfl,si'⟩,Sd _,by omega,J7 G5,G5.keep _ _ k1a,G5.keep _ _ k2a,P,hb',.nil cs,rfl,by simp⟩
noncomputable def lh1:Stm:=(.iff (.or (.not (.bi .isi (.cons (.var 1) (.cons (.tup (.cons (.tyc .list) (.cons (.tyc .tuple) .nil))) .nil)))) (.cmp .NotEq (.bi .len (.cons (.var 1) .nil)) (.bi .len (.cons (.ix (.var 0) (.c (.int 1))) .nil)))) [(.ret (.c (.bl false)))] [])
noncomputable def lh2:Stm:=(.iff (.and (.cmp .IsNot (.var 3) (.c .non)) (.or (.not (.bi .isi (.cons (.var 3) (.cons (.tyc .int) .nil)))) (.or (.bi .isi (.cons (.var 3) (.cons (.tyc .bool) .nil))) (.cmp .Lt (.var 3) (.c (.int 0)))))) [(.ret (.c (.bl false)))] [])
noncomputable def lh3(km:Nat):Stm:=(.loop (.nm 4) (.rng1 (.var 2)) [(.iff (.and (.cmp .IsNot (.var 3) (.c .non)) (.and (.cmp .Eq (.ix (.var 1) (.var 4)) (.var 3)) (.call km (.cons (.var 0) (.cons (.var 4) (.cons (.var 2) .nil)))))) [(.ret (.c (.bl false)))] [])])
noncomputable def FO(km:Nat):List Stm:=[lh1,(.loop (.tup (.cons (.nm 2) (.cons (.nm 3) .nil))) (.enum (.var 1)) [lh2,lh3 km]),(.ret (.c (.bl true)))]
theorem Gd.isLs{S:Sto}{k b:Nat}{x:SV}(h:Gd (VS S) k b x):∃ t,tyS x S=some t/\[TyN.list,.tuple].any (EY t)=isL x:=by
 cases h with
 | lst hv _ _ _=>exact⟨_,As hv,rfl⟩
 | _=>exact⟨_,rfl,rfl⟩
theorem QB{n i:Nat}{es:EE}{x y:SV}{S:Sto}{k b:Nat}{D:EndsS}{o4:Option SV}(hy:Gd (VS S) k b y)(q1:okH y=true->D.nx [some (i6 n es),some x,some (.int (i:Nat)),some y,o4] S)(q0:okH y=false->D.rt (.bl false) S):
 wSt Δ lh2 D [some (i6 n es),some x,some (.int (i:Nat)),some y,o4] S:=by
 refine⟨_,rfl,.inl ⟨rfl,_,rfl,?_⟩⟩;cases hy with
 | non=>exact ifF rfl (ifF rfl (g9 (Δ:=Δ) (q1 rfl)))
 | bl c=>exact ifT rfl ⟨_,rfl,_,nofun,rfl,_,rfl,ifF rfl ⟨_,rfl,_,nofun,rfl,_,rfl,ifT rfl (q0 rfl)⟩⟩
 | @int _ _ g h=>
   refine ifT rfl ⟨_,rfl,_,nofun,rfl,_,rfl,ifF rfl ⟨_,rfl,_,nofun,rfl,_,rfl,ifF rfl ⟨_,rfl,_,rfl,?_⟩⟩⟩;refine ifD (λz=>q0 (decide_eq_false (show ¬ (0:Int)<=g from by have z:g<0:=z;omega))) (λz=>g9 (Δ:=Δ) (q1 (decide_eq_true (show(0:Int)<=g from by have z:¬ g<0:=z;omega))))
 | str h hb'=>exact ifT rfl ⟨_,rfl,_,nofun,rfl,_,rfl,ifT rfl (q0 rfl)⟩
 | tup h hl hc=>exact ifT rfl ⟨_,rfl,_,nofun,rfl,_,rfl,ifT rfl (q0 rfl)⟩
 | lst hv h hl hc=>exact ifT rfl ⟨_,rfl,_,nofun,As hv,_,rfl,ifT rfl (q0 rfl)⟩
theorem QC(hΔ:∀ f,MonoN (Δ f)){km:Nat}(hm:DS (Δ km)){n i:Nat}{es:EE}{x y:SV}{xs:List SV}{S:Sto}{D:EndsS}{o4:Option SV}(s0:seqS x S=some xs)(hi:i<es.length)(hl:xs.length=es.length)(hel:es.length<=60)(hy:xs[i]?=some y)(oy:okH y=true)(ok:∀(j:Nat) (z:SV),j<i->xs[j]?=some z->okH z=true)
 (q1:∀ o4:Option SV,(∀(j:Nat) (g:Int),j<i->xs[j]?=some (.int g)->y = .int g->¬ Shr es j i)->D.nx [some (i6 n es),some x,some (.int (i:Nat)),some y,o4] S) (q0:∀(j:Nat) (g:Int),j<i->xs[j]?=some (.int g)->y = .int g->Shr es j i->D.rt (.bl false) S):
 wSt Δ (lh3 km) D [some (i6 n es),some x,some (.int (i:Nat)),some y,o4] S:=by
 refine⟨_,rfl,((i:Nat):Int),rfl,⟨by omega,by omega⟩,?_⟩;refine BS (i8 hΔ _) (λk ρ S2=>∃ o4:Option SV,ρ=[some (i6 n es),some x,some (.int (i:Nat)),some y,o4]/\S2=S/\∀(j:Nat) (g:Int),j<k->xs[j]?=some (.int g)->y = .int g->¬ Shr es j i) ⟨_,rfl,rfl,λj g hj=>absurd hj (UN _)⟩ (λ_ _ _ _=>trivial) ?_ ?_
 ·rintro k z ρ S2 E hE hrt hz ⟨o4,rfl,rfl,al⟩;have hk:k<i:=by have:=(gM hz).1;rw[j5]at this;omega
  obtain⟨rfl,_⟩:=j4 hz;rw[U7];have hv:=Se (show k<xs.length by omega);have ov:=ok k _ hk hv;generalize xs[k]=v at *
  have next:(∀ g:Int,v = .int g->y = .int g->¬ Shr es k i)->∀(j:Nat) (g:Int),j<k+1->xs[j]?=some (.int g)->y = .int g->¬ Shr es j i:=λf j g hj hx e=>by
   rcases UD j k with w | w
   ·exact al j g w hx e
   ·have:j=k:=by omega
    subst this;rw[hv]at hx;cases hx;exact f g rfl e
  refine⟨_,rfl,.inl ⟨rfl,_,rfl,?_⟩⟩;rcases LP oy with rfl | ⟨g,rfl,_⟩
  ·exact ifF rfl (ifF rfl (g9 (Δ:=Δ) (hE _ _ ⟨_,rfl,rfl,next λg _ e=>by cases e⟩)))
  refine ifT rfl ⟨_,rfl,_,rfl,_,_,s0,j3 hv,_,rfl,?_⟩;rcases LP ov with rfl | ⟨g',rfl,_⟩
  ·exact⟨_,rfl,ifF rfl (ifF rfl (g9 (Δ:=Δ) (hE _ _ ⟨_,rfl,rfl,next λg e _=>by cases e⟩)))⟩
  refine⟨_,rfl,?_⟩;show if decide (g'=g)=true then _ else _
  refine ifD (λe=>?_) (λe=>ifF rfl (g9 (Δ:=Δ) (hE _ _ ⟨_,rfl,rfl,next λg1 e1 e2=>by injection e1 with e1;injection e2 with e2;exact absurd (e1.trans e2.symm) e⟩)));have e:g'=g:=e;subst e;refine⟨_,rfl,_,rfl,_,rfl,hm (by omega) hi λv ev=>⟨_,rfl,?_⟩⟩;cases v with
  | true=>exact ifT rfl (hrt _ _ (q0 k g' hk hv rfl (ev.mp rfl)))
  | false=>exact ifF rfl (g9 (Δ:=Δ) (hE _ _ ⟨_,rfl,rfl,next λg1 _ _ sh=>Vc (ev.mpr sh)⟩))
 ·rintro ρ S2 ⟨o4,rfl,rfl,al⟩;have e:(B4 0 ((i:Nat):Int)).length=i:=by rw[j5];omega
  rw[e]at al;exact q1 o4 al
theorem GY(hΔ:∀ f,MonoN (Δ f)){km:Nat}(hm:DS (Δ km)){D:Df}(hb:D.body=FO km)(hN:D.N.length=5)(hp:D.ps.length=2):B0 (g6 Δ D):=by
 intro n k b es x S Q W hel hx q;unfold g6;rw[hb,hN];obtain⟨ty,e1,e2⟩:=hx.isLs;refine⟨hp.symm,_,rfl,by show 2<=100000;decide,_,[.list,.tuple],by decide,e1,rfl,_,rfl,?_⟩;rw[e2];rcases hx.split with⟨e,no⟩ | ⟨xs,V⟩
 ·rw[e];exact ifT rfl (q false S (Gw.refl S) ⟨nofun,λ⟨xs,z,_⟩=>absurd z (no _)⟩)
 rw[V.ls];have s0:=V.seq S (Gw.refl S);have hxl:=V.len;obtain⟨k',b',hg⟩:=V.gd;have no:¬ HuP es xs->Q (.bl false) S:=λh=>q false S (Gw.refl S) ⟨nofun,λ⟨ys,e,z⟩=>by rw[s0]at e;cases e;exact absurd z h⟩;refine ifF rfl ⟨_,rfl,_,s0,_,rfl,_,_,rfl,rfl,_,rfl,_,rfl,?_⟩;show if (!decide ((xs.length:Int)=((es.map pairS).length:Nat)))=true then _ else _
 rw[SX];by_cases zl:xs.length=es.length
 case neg=>exact ifT (by rw[decide_eq_false (λy=>zl (Tb.mp y))];rfl) (no λh=>zl h.1)
 refine ifF (by rw[decide_eq_true (show((xs.length:Nat):Int)=(es.length:Nat) by rw[zl])];rfl) (g9 ?_);refine⟨_,rfl,_,s0,?_⟩;refine BS (i8 hΔ _) (λi ρ S2=>∃ o2 o3 o4:Option SV,ρ=[some (i6 n es),some x,o2,o3,o4]/\S2=S/\(∀(j:Nat) (z:SV),j<i->xs[j]?=some z->okH z=true)/\PropS es xs i) ⟨_,_,_,rfl,rfl,λj z hj=>absurd hj (UN _),λa b g _ hb=>absurd hb (UN _)⟩ (λ_ _ S2 z=>by obtain⟨_,_,_,_,rfl,_⟩:=z;exact V.keep S2 S2 (Gw.refl _) (Gw.refl _)) ?_ ?_
 ·rintro i z ρ S2 E hE hrt hz ⟨o2,o3,o4,rfl,rfl,ok,pr⟩;obtain⟨y,hy,rfl⟩:=E4 hz;have hi:i<es.length:=by rw[<-zl];exact(gM hy).1
  refine QB (hg y (Sh hy)) (λoy=>?_) (λoy=>hrt _ _ (no λh=>by rw[h.2.1 y (Sh hy)]at oy;cases oy));refine QC hΔ hm s0 hi zl hel hy oy ok (λo4 al=>g9 (Δ:=Δ) (hE _ _ ⟨_,_,_,rfl,rfl,λj z hj hz2=>?_,λa b g hab hb ha hb'=>?_⟩)) (λj g hj hx e sh=>hrt _ _ (no λh=>h.2.2 j i g hj hi hx (by rw[hy,e]) sh))
  ·rcases UD j i with w | w
   ·exact ok j z w hz2
   ·have:j=i:=by omega
    subst this;rw[hy]at hz2;cases hz2;exact oy
  ·rcases UD b i with w | w
   ·exact pr a b g hab w ha hb'
   ·have:b=i:=by omega
    subst this;rw[hy]at hb';exact al a g hab ha (oj hb')
 ·rintro ρ S2 ⟨o2,o3,o4,rfl,rfl,ok,pr⟩;rw[C3]at ok pr;refine q true S2 (Gw.refl _) ⟨λ_=>⟨xs,s0,zl,λy hy=>?_,by rw[<-zl];exact pr⟩,λ_=>rfl⟩;obtain⟨j,hj,rfl⟩:=VB hy;exact ok j _ hj (Se hj)
end
structure Pre(es:EE)(cs:List Nat):Prop where
 le:cs.length<=es.length
 ne:∀ t u,t<u->u<cs.length->Shr es t u->hu cs t≠hu cs u
 bd:∀ c∈cs,c<=cs.length
theorem Pre.prp{es:EE}{cs:List Nat}(P:Pre es cs)(h:cs.length=es.length):Prp es cs:=by
 have shr:∀ t u y,AtP es t y->AtP es u y->Shr es t u:=λt u y ht hu'=>by
  have go:∀ t,AtP es t y->endE es t y:=λt ⟨e,he,z⟩=>by
   have:A9 es t=e:=by have:=BV (gM he).1;rw[he]at this;exact(oj this).symm
   unfold endE;rw[this];exact z.imp Eq.symm Eq.symm
  exact shr_end.mpr ⟨y,go t ht,go u hu'⟩
 refine⟨h,λt u y ht hu' e=>?_⟩;rcases Ua t u with z | z | z
 ·exact absurd e (P.ne t u z (by have:=hu'.lt;omega) (shr t u y ht hu'))
 ·exact z
 ·exact absurd e.symm (P.ne u t z (by have:=ht.lt;omega) (shr u t y hu' ht))
theorem GZ{cs:List Nat}{c t:Nat}(h:t<cs.length):hu (cs++[c]) t=hu cs t:=by
 show(cs++[c]).getD t 0=cs.getD t 0;rw[Sr,Sr,Sv h]
theorem NU{cs:List Nat}{c:Nat}:hu (cs++[c]) cs.length=c:=by
 show(cs++[c]).getD cs.length 0=c;rw[Sr,TF];rfl
theorem Pre.snoc{es:EE}{cs:List Nat}{c:Nat}(P:Pre es cs)(lt:cs.length<es.length)(hc:c<=cs.length+1)(no:∀ t,t<cs.length->Shr es t cs.length->hu cs t≠c):Pre es (cs++[c]):=by
 refine⟨by rw[SY];exact lt,λt u tu ul sh=>?_,λx hx=>?_⟩
 ·rw[SY,TK]at ul;by_cases e:u=cs.length
  ·subst e;rw[GZ tu,NU];exact no t tu sh
  ·rw[GZ (by omega),GZ (by omega)];exact P.ne t u tu (by omega) sh
 ·rw[SY,TK];rcases Sw.mp hx with z | z
  ·have:=P.bd x z;omega
  ·rw[Sg.mp z];exact hc
noncomputable def DU(T:List Nat):List Nat:=(Sf (T.length+2)).filter λh=>!decide (h∈T)
theorem Lc(T:List Nat):2<=(DU T).length:=by
 have s:=Hue.len_split (λ_=>true) (λh=>decide (h∈T)) (Sf (T.length+2));simp only[Uq]at s;rw[UG.mpr λ_ _=>rfl,T8]at s;have:=List.Nodup.length_le_of_subset (UK.filter (λh=>decide (h∈T))) (l₁:=(Sf (T.length+2)).filter λh=>decide (h∈T)) (l₂:=T) λa ha=>by simpa using (T9.mp ha).2
 unfold DU;omega
section
variable{Δ:Nat->Sn}
noncomputable def wr1(km:Nat):Stm:=(.asg (.nm 5) (.comp ["_law_k"] ["_law_web_here","_law_tie","_law_row"] [1,4,2] (.nm 0) (.rng1 (.var 4)) (.yes (.call km (.cons (.var 1) (.cons (.var 0) (.cons (.var 2) .nil))))) (.ix (.var 3) (.var 0))))
noncomputable def wr2:Stm:=(.asg (.nm 6) (.comp ["_law_hue"] ["_law_taken"] [5] (.nm 0) (.rng1 (.op .Add (.bi .len (.cons (.var 5) .nil)) (.c (.int 2)))) (.yes (.cmp .NotIn (.var 0) (.var 1))) (.var 0)))
noncomputable def wr3(kd:Nat):Stm:=(.expr (.mt .append (.var 2) (.cons (.ix (.var 6) (.call kd (.cons (.var 0) (.cons (.var 3) .nil)))) .nil)))
noncomputable def wr4(kd:Nat):Stm:=(.ret (.tup (.cons (.var 2) (.cons (.op .Add (.op .Add (.max1 (.op .Add (.lst (.cons (.neg (.c (.int 1))) .nil)) (.var 2))) (.c (.int 1))) (.ix (.lst (.cons (.c (.int 0)) (.cons (.c (.int 0)) (.cons (.c (.int 1)) (.cons (.c (.int 2)) (.cons (.c (.int 5)) .nil)))))) (.call kd (.cons (.var 0) (.cons (.c (.int 5)) .nil))))) .nil))))
noncomputable def Hn(kd km:Nat):List Stm:=[(.asg (.nm 2) (.lst .nil)),(.asg (.nm 3) (.op .Add (.c (.int 1)) (.call kd (.cons (.var 0) (.cons (.c (.int 2)) .nil))))),(.loop (.nm 4) (.rng1 (.bi .len (.cons (.ix (.var 1) (.c (.int 1))) .nil))) [wr1 km,wr2,wr3 kd]),wr4 kd]
theorem QD(hΔ:∀ f,MonoN (Δ f)){km:Nat}(hm:DS (Δ km)){D:EndsS}{rest:List Stm}{n l i:Nat}{es:EE}{cs:List Nat}{S:Sto}{o0 o3 o5 o6:Option SV}(hl:S[l]?=some (.lst (natS cs)))(ci:cs.length=i)(hi:i<es.length)(hel:es.length<=60)
 (q:∀(l5:Nat) (T:List Nat) (S':Sto),Gw S S'->S.length<=l5->S'[l5]?=some (.lst (natS T))->T.length<=i->(∀ t,t<i->Shr es t i->hu cs t∈T)->wSs Δ rest D [o0,some (i6 n es),some (.loc l),o3,some (.int (i:Nat)),some (.loc l5),o6] S'):wSs Δ (wr1 km::rest) D [o0,some (i6 n es),some (.loc l),o3,some (.int (i:Nat)),o5,o6] S:=by
 refine⟨_,rfl,_,rfl,⟨by omega,by omega⟩,?_⟩;refine h8 (j0 hΔ _).2 (c8 hΔ _).1 (λj ys S2=>Gw S S2/\∃ T:List Nat,ys=natS T/\T.length<=j/\∀ t,t<j->Shr es t i->hu cs t∈T) ⟨Gw.refl S,[],rfl,Sd _,λt ht=>by omega⟩ (λ_ _ _ _=>trivial) ?_ ?_
 ·rintro j x ys S2 hx ⟨G,T,rfl,tl,tm⟩;obtain⟨rfl,hj⟩:=j4 hx;rw[U7]at hj ⊢;have hj:j<i:=by omega
  have hc:=Br (cs:=cs) (t:=j) (by omega);refine⟨_,rfl,_,rfl,_,rfl,hm (by omega) hi λr er=>⟨_,rfl,?_⟩⟩;cases r with
  | true=>
    refine ifT rfl ⟨_,rfl,_,rfl,_,_,e8 (G.keep _ _ hl),j3 (A8 hc),by rw[f7];show _<100000;omega,G,T++[hu cs j],by rw[r6];rfl,by rw[SY];simp;exact tl,λt ht sh=>?_⟩;by_cases e:t=j
    ·rw[e];simp
    ·exact Te _ (tm t (by omega) sh)
  | false=>
    refine ifF rfl ⟨G,T,rfl,by omega,λt ht sh=>?_⟩;by_cases e:t=j
    ·rw[e]at sh;have:=er.mpr sh;cases this
    ·exact tm t (by omega) sh
 ·rintro ys S2 ⟨G,T,rfl,tl,tm⟩;rw[j5,show((i:Int) - 0).toNat=i by omega]at tl tm;exact q _ T _ G.push G.len e7 tl tm
theorem QF(hΔ:∀ f,MonoN (Δ f)){D:EndsS}{rest:List Stm}{l5:Nat}{T:List Nat}{S:Sto}{o0 o1 o2 o3 o4 o6:Option SV}(h5:S[l5]?=some (.lst (natS T)))(hT:T.length<=60)
 (q:∀(l6:Nat) (S':Sto),Gw S S'->S.length<=l6->S'[l6]?=some (.lst (natS (DU T)))->wSs Δ rest D [o0,o1,o2,o3,o4,some (.loc l5),some (.loc l6)] S'):wSs Δ (wr2::rest) D [o0,o1,o2,o3,o4,some (.loc l5),o6] S:=by
 refine⟨_,rfl,_,e8 h5,_,rfl,⟨by rw[f7];omega,by rw[f7];omega⟩,?_⟩;have e:(B4 0 (((natS T).length:Int)+2)).length=T.length+2:=by rw[j5,f7];omega
 refine h8 (j0 hΔ _).2 (c8 hΔ _).1 (λj ys S2=>S2=S/\ys=natS ((Sf j).filter λh=>!decide (h∈T))) ⟨rfl,rfl⟩ (λ_ _ _ _=>trivial) ?_ ?_
 ·rintro j x ys S2 hx ⟨rfl,rfl⟩;have jl:j<T.length+2:=by have:=(gM hx).1;rwa [e]at this
  obtain⟨rfl,hj⟩:=j4 hx;rw[U7]at hj ⊢;have fs:=FG (λh=>!decide (h∈T)) j;have fl:=E6 (λh=>!decide (h∈T)) j;refine⟨_,rfl,_,rfl,?_⟩;show match Bu (.loc l5) S2 with | some ms=>_ | none=>_
  rw[CY h5];refine⟨rfl,_,e8 h5,t8 _,_,rfl,?_⟩;show if (!inS (.int (j:Nat)) (natS T))=true then _ else _
  rw[Q1];by_cases hm:j∈T
  ·rw[iG (by simpa using hm),U2]at fs;exact ifF (by simpa using hm) ⟨rfl,by rw[fs]⟩
  ·rw[iP (by simpa using hm)]at fs;exact ifT (by simpa using hm) ⟨_,rfl,by rw[f7];show _<100000;omega,rfl,by rw[fs,r6];rfl⟩
 ·rintro ys S2 ⟨rfl,rfl⟩;rw[e];exact q _ _ (Gw.refl S2).push (Sd _) e7
noncomputable def FP(s:Sn):Prop:=∀{t n:Nat} {es:EE} {S:Sto} {Q:QE},TapeS S t->es.length<=60->(∀(l H:Nat) (cs:List Nat) (S':Sto),TapeS S' t->On t S S'->S.length<=l->S'[l]?=some (.lst (natS cs))->Prp es cs->(∀ h∈cs,h<H)->H<=100->Q (.tup [.loc l,.int (H:Nat)]) S')->s [.loc t,i6 n es] S Q
theorem QG{kd:Nat}(hd:v6 (Δ kd)){t l:Nat}{cs:List Nat}{S:Sto}{Q:QE}{o1 o3 o4 o5 o6:Option SV}(T:TapeS S t)(lt:l≠t)(h2:S[l]?=some (.lst (natS cs)))(hl:cs.length<=60)(hb:∀ c∈cs,c<=60)
 (q:∀(H:Nat) (S':Sto),TapeS S' t->On t S S'->(∀ h∈cs,h<H)->H<=100->Q (.tup [.loc l,.int (H:Nat)]) S'):wSs Δ [wr4 kd] (l7 Q) [some (.loc t),o1,some (.loc l),o3,o4,o5,o6] S:=by
 refine⟨_,rfl,by show 1<=100000;decide,_,rfl,_,_,e7,e6 h2,by rw[f7];show _<=100000;simp;omega,?_⟩;have e:[SV.int (-1)]++natS cs=((-1:Int)::cs.map λ(i:Nat)=>(i:Int)).map SV.int:=by rw[AC];rfl
 refine⟨_,_,rfl,by rw[e7];exact congrArg (λz=>some (SO.lst z)) e,by simp,λM gMx=>?_⟩;have T2:=(T.push (o:=SO.lst [.int (-1)])).push (o:=SO.lst ([SV.int (-1)]++natS cs));have O2:On t S (S++[SO.lst [.int (-1)]]++[SO.lst ([SV.int (-1)]++natS cs)]):=(On.refl t S).push.push;generalize S++[SO.lst [.int (-1)]]++[SO.lst ([SV.int (-1)]++natS cs)]=S2 at *;have M1:-1<=M:=gMx.2 _ (T7 ..)
 have M2:M<=60:=by
  rcases Sm.mp gMx.1 with z | z
  ·omega
  ·obtain⟨c,hc,rfl⟩:=TJ.mp z;have:=hb c hc;omega
 have tl:=T2.lt;refine⟨by show 5<=100000;decide,_,rfl,hd T2.push (by decide) (by decide) λr S3 r0 r1 T3 O3 _=>?_⟩;have h3:=O3.keep _ _ (by omega) (e7 (S:=S2) (o:=SO.lst [.int 0,.int 0,.int 1,.int 2,.int 5]))
 obtain⟨v,hv,v0,v5⟩:∃ v:Int,atI [SV.int 0,.int 0,.int 1,.int 2,.int 5] r=some (.int v)/\0<=v/\v<=5:=by
  have:r=0\/r=1\/r=2\/r=3\/r=4:=by omega
  rcases this with rfl | rfl | rfl | rfl | rfl
  ·exact⟨0,j3 (j:=0) rfl,by decide,by decide⟩
  ·exact⟨0,j3 (j:=1) rfl,by decide,by decide⟩
  ·exact⟨1,j3 (j:=2) rfl,by decide,by decide⟩
  ·exact⟨2,j3 (j:=3) rfl,by decide,by decide⟩
  ·exact⟨5,j3 (j:=4) rfl,by decide,by decide⟩
 refine⟨_,_,e8 h3,hv,by show 2<=100000;decide,?_⟩
 have fin:∀ z:Int,z=M+1+v->Q (.tup [.loc l,.int z]) S3:=by
  intro z hz;obtain⟨H,rfl⟩:=UX (show 0<=z by omega);refine q H S3 T3 (O2.trans ((On.refl t S2).push.trans O3)) (λh hh=>?_) (by omega);have:=gMx.2 _ (Su _ (TJ.mpr ⟨h,hh,rfl⟩));omega
 exact fin _ rfl
theorem JC(hΔ:∀ f,MonoN (Δ f)){kd km:Nat}(hd:v6 (Δ kd))(hm:DS (Δ km)){D:Df}(hb:D.body=Hn kd km)(hN:D.N.length=7)(hp:D.ps.length=2):FP (g6 Δ D):=by
 intro t n es S Q T hel q;have tl:=T.lt;unfold g6;rw[hb,hN];refine⟨hp.symm,by show 0<=100000;decide,?_⟩;refine⟨_,rfl,hd T.push (by decide) (by decide) λw S1 w0 w1 T1 O1 sl1=>?_⟩;have h1:S1[S.length]?=some (.lst []):=O1.keep _ _ (by omega) e7;have len1:S.length+1=S1.length:=by rw[sl1];simp
 have K1:∀(k:Nat) (o:SO),k<S.length->k≠t->S[k]?=some o->S1[k]?=some o:=λk o _ ne h=>O1.keep k o ne (e6 h);refine⟨_,rfl,_,_,rfl,rfl,_,rfl,_,rfl,⟨by rw[SX];omega,by rw[SX];omega⟩,?_⟩;have e:(B4 0 ((es.map pairS).length:Int)).length=es.length:=by rw[j5,SX];omega
 refine p9 (i8 hΔ _) (λi ρ S2=>∃(o4 o5 o6:Option SV) (cs:List Nat),ρ=[some (.loc t),some (i6 n es),some (.loc S.length),some (.int (1+w)),o4,o5,o6]/\TapeS S2 t/\S.length+1<=S2.length/\(∀(k:Nat) (o:SO),k<S.length->k≠t->S[k]?=some o->S2[k]?=some o)/\S2[S.length]?=some (.lst (natS cs))/\cs.length=i/\Pre es cs) ⟨none,none,none,[],rfl,T1,by omega,K1,h1,rfl,⟨UR _,λt u tu ul=>by simp at ul,λ_ h=>nomatch h⟩⟩ (λ_ _ _ _=>trivial) ?_ ?_
 ·rintro i x ρ S2 hx ⟨o4,o5,o6,cs,rfl,T2,l2,K2,h2,ci,P⟩;have hi:i<es.length:=by have:=(gM hx).1;rwa [e]at this
  obtain⟨rfl,_⟩:=j4 hx;rw[U7];refine QD hΔ hm h2 ci hi hel λl5 Tk S3 G3 l3 h3 tk tm=>?_;refine QF hΔ h3 (by omega) λl6 S4 G4 l4 h4=>?_;have two:=Lc Tk;have G24:=G3.trans G4;have T4:=G24.tape T2;have l6t:l6≠t:=by have:=T2.lt;have:=G3.len;omega
  have l2t:S.length≠t:=by omega
  refine⟨_,rfl,⟨_,_,rfl,G24.keep _ _ h2⟩,_,rfl,_,rfl,_,rfl,hd T4 (by omega) (by omega) λr S5 r0 r1 T5 O5 sl5=>?_⟩;obtain⟨j,rfl⟩:=UX r0;have jl:j<(DU Tk).length:=by omega
  have hj:=Se jl;have cm:=TY jl;generalize (DU Tk)[j]=c at hj cm;have h65:=O5.keep _ _ l6t h4;have h25:=O5.keep _ _ l2t (G24.keep _ _ h2);refine⟨_,_,e8 h65,j3 (A8 hj),_,h25,by rw[f7];show _<100000;omega,?_⟩;unfold DU at cm;rw[T9,TC,T6,decide_eq_false_iff_not]at cm;refine⟨_,_,_,cs++[c],rfl,T5.other l2t,by rw[Ti,sl5];have:=G24.len;omega,λk o kl ne h=>?_,by rw[AZ h25,r6];rfl,by rw[SY,ci];rfl,P.snoc (by omega) (by omega) λt' ht sh z=>cm.2 (z▸tm t' (by omega) (ci▸sh))⟩;rw[A7 (by omega)];exact O5.keep _ _ ne (G24.keep _ _ (K2 k o kl ne h))
 ·rintro ρ S2 ⟨o4,o5,o6,cs,rfl,T2,l2,K2,h2,ci,P⟩;rw[e]at ci;refine QG hd T2 (by omega) h2 (by omega) (λc hc=>by have:=P.bd c hc;omega) λH S' T' O' hh H1=>q S.length H cs S' T' ⟨by have:=O'.len;omega,λk o ne h=>O'.keep k o ne (K2 k o (gM h).1 ne h)⟩ (Sd _) (O'.keep _ _ (by omega) h2) (P.prp ci) hh H1
noncomputable def le1:Stm:=(.asg (.nm 2) (.comp ["_law_hue"] ["_law_row"] [0] (.nm 0) (.rng1 (.var 1)) .no (.mt .count (.var 1) (.cons (.var 0) .nil))))
noncomputable def leX:Ex:=(.op .Add (.var 2) (.slc (.lst (.cons (.c (.int 0)) .nil)) .no (.yes (.bi .int (.cons (.cmp .Eq (.var 2) (.lst .nil)) .nil)))))
noncomputable def Ld:List Stm:=[le1,(.ret (.cmp .Lt (.op .Sub (.max1 leX) (.min1 leX)) (.c (.int 2))))]
noncomputable def Ho(s:Sn):Prop:=∀{k H:Nat} {cs:List Nat} {S:Sto} {Q:QE},S[k]?=some (.lst (natS cs))->H<=1000->(∀(r:Bool) (S':Sto),Gw S S'->(r=true↔Evn cs H)->Q (.bl r) S')->s [.loc k,.int (H:Nat)] S Q
theorem Ch(cs:List Nat)(h:Nat):(cs.map λ(i:Nat)=>(i:Int)).count (h:Int)=cs.count h:=by
 rw[Vn,Vh,Vn];refine List.countP_congr λx _=>?_;show(((x:Nat):Int) == (h:Int))=true↔(x == h)=true;rw[bQ,bQ];exact Tb
theorem Lf{l:Nat}{ms:List Nat}{S:Sto}{K:QE}{o0 o1:Option SV}(h:S[l]?=some (.lst (natS ms)))(hl:ms.length<=1000)(q:∀(k:Nat) (S':Sto),Gw S S'->S'[k]?=some (.lst (natS (if ms=[] then [0] else ms)))->K (.loc k) S'):(wEx Δ leX).1 [o0,o1,some (.loc l)] S K:=by
 refine⟨_,rfl,by show 1<=100000;decide,_,rfl,by show 0<=100000;decide,_,_,e6 (e6 h),e7,.inr (.inr rfl),_,rfl,?_⟩;have h2:=e6 (o:=SO.lst []) (e6 (o:=SO.lst [SV.int 0]) h);have h0:(S++[SO.lst [SV.int 0]]++[SO.lst []])[S.length]?=some (.lst [.int 0]):=e6 e7;have G2:Gw S (S++[SO.lst [SV.int 0]]++[SO.lst []]):=(Gw.refl S).push.push;generalize S++[SO.lst [SV.int 0]]++[SO.lst []]=S2 at *;refine⟨_,h0,_,_,e6 h2,e7,?_,q _ _ G2.push.push ?_⟩
 ·cases ms with
  | nil=>show _<=100000;decide
  | cons m ms=>show(natS (m::ms)).length+0<=100000;rw[f7];omega
 ·rw[e7];cases ms with
  | nil=>rfl
  | cons m ms=>
    have e:(if (m::ms)=[] then [0] else m::ms)=m::ms:=iG (by simp);rw[e];show some (SO.lst (natS (m::ms)++[]))=_;rw[U2]
noncomputable def leR:Stm:=(.ret (.cmp .Lt (.op .Sub (.max1 leX) (.min1 leX)) (.c (.int 2))))
theorem QH{D:EndsS}{ρ:EnvS}{S:Sto}(h:(wEx Δ leX).1 ρ S λx S1=>∃ k ns,x = .loc k/\S1[k]?=some (.lst (ns.map SV.int))/\0<ns.length/\∀ m,Grt ns m->(wEx Δ leX).1 ρ S1 λy S2=>∃ k ns,y = .loc k/\S2[k]?=some (.lst (ns.map SV.int))/\0<ns.length/\∀ m',Sml ns m'->D.rt (.bl (decide (m - m'<2))) S2):wSs Δ [leR] D ρ S:=h
theorem Lg(hΔ:∀ f,MonoN (Δ f)){D:Df}(hb:D.body=Ld)(hN:D.N.length=3)(hp:D.ps.length=2):Ho (g6 Δ D):=by
 intro k H cs S Q hk hH q;unfold g6;rw[hb,hN];refine⟨hp.symm,_,rfl,_,rfl,⟨by omega,by omega⟩,?_⟩;refine h8 (j0 hΔ _).2 (c8 hΔ _).1 (λi ys S2=>S2=S/\ys=natS (szL cs i)) ⟨rfl,rfl⟩ (λ_ _ _ _=>trivial) ?_ ?_
 ·rintro i x ys S2 hx ⟨rfl,rfl⟩;obtain⟨rfl,hi⟩:=j4 hx;rw[U7]at hi ⊢;have hk2:=hk;rw[AC]at hk2;refine⟨_,rfl,⟨_,_,rfl,hk⟩,_,rfl,_,hk2,by unfold szL;rw[f7,SX,T8];show _<100000;omega,rfl,?_⟩;rw[Ch];unfold szL;rw[Tj,Sx,r6];rfl
 ·rintro ys S2 ⟨rfl,rfl⟩;rw[j5,show((H:Int) - 0).toNat=H by omega];have h1:(S2++[SO.lst (natS (szL cs H))])[S2.length]?=some (.lst (natS (szL cs H))):=e7;have G1:Gw S2 (S2++[SO.lst (natS (szL cs H))]):=(Gw.refl S2).push;have sl:(szL cs H).length=H:=by unfold szL;rw[SX,T8]
  show wSs Δ [leR] (l7 Q) [some (.loc k),some (.int (H:Nat)),some (.loc S2.length)] (S2++[SO.lst (natS (szL cs H))]);generalize S2++[SO.lst (natS (szL cs H))]=S1 at *;refine QH (Lf h1 (by omega) λk3 S3 G3 h3=>?_);have ne:(if szL cs H=[] then [0] else szL cs H)≠[]:=by split<;>simp_all
  rw[AC]at h3;refine⟨_,_,rfl,h3,by rw[SX];exact VC.mpr ne,λM gMx=>Lf (G3.keep _ _ h1) (by omega) λk4 S4 G4 h4=>?_⟩;rw[AC]at h4;refine⟨_,_,rfl,h4,by rw[SX];exact VC.mpr ne,λm gm=>?_⟩;refine q _ S4 (G1.trans (G3.trans G4)) ?_;rw[dQ];by_cases h0:szL cs H=[]
  ·rw[iP h0]at gMx gm;have a1:M=0:=by simpa using gMx.1
   have a2:m=0:=by simpa using gm.1
   have H0:H=0:=by rw[<-sl,h0];rfl
   exact⟨λ_ g h hg=>by omega,λ_=>by omega⟩
  ·rw[iG h0]at gMx gm;obtain⟨a,ha,ea⟩:=sz_mem.mp gMx.1;obtain⟨b,hb',eb⟩:=sz_mem.mp gm.1;constructor
   ·intro z g h hg hh;have a1:=gMx.2 _ (sz_mem.mpr ⟨g,hg,rfl⟩);have a2:=gm.2 _ (sz_mem.mpr ⟨h,hh,rfl⟩);omega
   ·intro ev;have:=ev a b ha hb';omega
noncomputable def Lh(kh:Nat):List Stm:=[(.ret (.and (.call kh (.cons (.var 0) (.cons (.var 1) .nil))) (.and (.cmp .NotIn (.c .non) (.var 1)) (.cmp .Lt (.max1 (.op .Add (.lst (.cons (.neg (.c (.int 1))) .nil)) (.bi .list (.cons (.var 1) .nil)))) (.var 2)))))]
noncomputable def Hq(s:Sn):Prop:=∀{n k H:Nat} {es:EE} {cs:List Nat} {S:Sto} {Q:QE},S[k]?=some (.lst (natS cs))->Prp es cs->(∀ e∈es,e.1<e.2/\e.2<n)->es.length<=60->H<=1000->(∀ h∈cs,h<H)->(∀ S',Gw S S'->Q (.bl true) S')->s [i6 n es,.loc k,.int (H:Nat)] S Q
theorem QI(cs:List Nat):inS .non (natS cs)=false:=by
 unfold inS natS;rw[Uv,VN];intro c _;simp[eqF]
theorem Li{kh:Nat}(hh:B0 (Δ kh)){D:Df}(hb:D.body=Lh kh)(hN:D.N.length=3)(hp:D.ps.length=3):Hq (g6 Δ D):=by
 intro n k H es cs S Q hk P hen hel hH hb' q;have hl:=P.len;unfold g6;rw[hb,hN];refine⟨hp.symm,_,rfl,_,rfl,hh hen hel (LR hk (by omega) λc hc=>by have:=hb' c hc;omega) λr S1 G1 er=>?_⟩;have:r=true:=er.mpr ⟨_,e8 hk,Hj P⟩;subst this;have hk1:=G1.keep _ _ hk;refine⟨_,rfl,ifT rfl ⟨_,rfl,?_⟩⟩;show match Bu (.loc k) S1 with | some ms=>_ | none=>_
 rw[CY hk1];refine⟨rfl,_,e8 hk1,t8 _,?_⟩;have e1:(if true=true then !inS .non (natS cs) else inS .non (natS cs))=true:=by rw[QI];rfl
 rw[e1];refine⟨_,rfl,ifT rfl ⟨by show 1<=100000;decide,_,rfl,_,e8 (e6 hk1),_,_,e6 e7,e7,by rw[f7];show _<=100000;simp;omega,?_⟩⟩;have e:[SV.int (-1)]++natS cs=((-1:Int)::cs.map λ(i:Nat)=>(i:Int)).map SV.int:=by rw[AC];rfl
 have G2:Gw S (S1++[SO.lst [SV.int (-1)]]++[SO.lst (natS cs)]):=G1.push.push;generalize S1++[SO.lst [SV.int (-1)]]++[SO.lst (natS cs)]=S2 at *;refine⟨_,_,rfl,by rw[e7];exact congrArg (λz=>some (SO.lst z)) e,by simp,λM gMx=>⟨_,rfl,?_⟩⟩
 have fin:decide (M<(H:Int))=true:=decide_eq_true (by
  rcases Sm.mp gMx.1 with z | z
  ·omega
  ·obtain⟨c,hc,rfl⟩:=TJ.mp z;have:=hb' c hc;omega)
 show Q (.bl (decide (M<(H:Int)))) _;rw[fin];exact q _ G2.push
end
structure EvW(n H:Nat)(es:EE)(cs:List Nat):Prop where
 P:Prp es cs
 en:∀ e∈es,e.1<e.2/\e.2<n
 el:es.length<=60
 nn:n<=100
 hh:H<=100
 bd:∀ h∈cs,h<H
 ev:Evn cs H
section
variable{Δ:Nat->Sn}
noncomputable def EvOut(t:Nat)(S:Sto)(Q:QE):Prop:=∀(n H l:Nat) (es:EE) (cs:List Nat) (S':Sto),TapeS S' t->On t S S'->S.length<=l->S'[l]?=some (.lst (natS cs))->EvW n H es cs->Q (.tup [i6 n es,.loc l,.int (H:Nat)]) S'
theorem EvOut.on{t:Nat}{S S1:Sto}{Q:QE}(q:EvOut t S Q)(O:On t S S1):EvOut t S1 Q:=λn H l es cs S' T' O' l' h' E=>q n H l es cs S' T' (O.trans O') (TH O.len l') h' E
end
noncomputable def ym1(k:Nat):Stm:=(.iff (.bi .isi (.cons (.var 1) (.cons (.tup (.cons (.tyc .list) (.cons (.tyc .tuple) .nil))) .nil))) [(.iff (.or (.cmp .NotEq (.bi .isi (.cons (.var 0) (.cons (.tyc .list) .nil))) (.bi .isi (.cons (.var 1) (.cons (.tyc .list) .nil)))) (.cmp .NotEq (.bi .isi (.cons (.var 0) (.cons (.tyc .tuple) .nil))) (.bi .isi (.cons (.var 1) (.cons (.tyc .tuple) .nil))))) [(.ret (.c (.bl false)))] []),(.ret (.and (.cmp .Eq (.bi .len (.cons (.var 0) .nil)) (.bi .len (.cons (.var 1) .nil))) (.bi .all (.cons (.comp ["_law_one","_law_other"] [] [] (.tup (.cons (.nm 0) (.cons (.nm 1) .nil))) (.zip 0 1) .no (.call k (.cons (.var 0) (.cons (.var 1) .nil)))) .nil))))] [])
noncomputable def ym2:Stm:=(.iff (.or (.cmp .Is (.var 1) (.c .non)) (.bi .isi (.cons (.var 1) (.cons (.tyc .str) .nil)))) [(.ret (.and (.cmp .Eq (.var 0) (.var 1)) (.cmp .Eq (.bi .isi (.cons (.var 0) (.cons (.tyc .str) .nil))) (.bi .isi (.cons (.var 1) (.cons (.tyc .str) .nil))))))] [])
noncomputable def ym3:Stm:=(.ret (.and (.bi .isi (.cons (.var 0) (.cons (.tyc .int) .nil))) (.and (.cmp .Eq (.bi .isi (.cons (.var 0) (.cons (.tyc .bool) .nil))) (.bi .isi (.cons (.var 1) (.cons (.tyc .bool) .nil)))) (.cmp .Eq (.var 0) (.var 1)))))
noncomputable def ED(k:Nat):List Stm:=[ym1 k,ym2,ym3]
noncomputable def JD(s:Sn)(S:Sto)(x y:SV):Prop:=∀(S1:Sto) (Q:QE),Gw S S1->(∀ S2,Gw S S2->Gw S1 S2->Q (.bl true) S2)->s [x,y] S1 Q
section
variable{Δ:Nat->Sn}{k:Nat}{D:Df}
theorem Lj(hb:D.body=ED k)(hN:D.N.length=2)(hp:D.ps.length=2){S:Sto}{a:Int}:JD (g6 Δ D) S (.int a) (.int a):=by
 intro S1 Q h q;unfold g6;rw[hb,hN];refine⟨hp.symm,_,rfl,by show 2<=big;decide,_,[.list,.tuple],by decide,rfl,rfl,_,rfl,ifF rfl ?_⟩;refine⟨_,rfl,.inl ⟨rfl,_,rfl,ifF rfl ⟨_,rfl,_,nofun,rfl,_,rfl,ifF rfl ?_⟩⟩⟩;refine⟨_,rfl,_,nofun,rfl,_,rfl,ifT rfl ⟨_,rfl,_,nofun,rfl,_,rfl,_,nofun,rfl,_,rfl,ifT rfl ⟨_,rfl,_,rfl,?_⟩⟩⟩;have:=q S1 h (Gw.refl _);rw[show true=decide (a=a) from (decide_eq_true rfl).symm]at this;exact this
theorem Lk(hΔ:∀ f,MonoN (Δ f))(hb:D.body=ED k)(hN:D.N.length=2)(hp:D.ps.length=2){S:Sto}{x y:SV}{xs ys:List SV}{c:TyN}(hc:c = .list\/c = .tuple)
 (hx:∀ S1,Gw S S1->tyS x S1=some c) (hy:∀ S1,Gw S S1->tyS y S1=some c) (sx:∀ S1,Gw S S1->seqS x S1=some xs) (sy:∀ S1,Gw S S1->seqS y S1=some ys) (ht:Dl x=Dl y) (hl:xs.length=ys.length) (hs:xs.length<=2000)
 (keep:∀ S1 S2,Gw S S1->Gw S1 S2->keepS x S1 S2/\keepS y S1 S2) (it:∀(i:Nat) (u v:SV),xs[i]?=some u->ys[i]?=some v->JD (Δ k) S u v):JD (g6 Δ D) S x y:=by
 intro S1 Q h q;unfold g6;rw[hb,hN];refine⟨hp.symm,_,rfl,by show 2<=big;decide,c,[.list,.tuple],by decide,hy _ h,rfl,_,rfl,ifT (by rcases hc with rfl | rfl<;>rfl) ?_⟩;refine⟨_,rfl,c,nofun,hx _ h,_,rfl,c,nofun,hy _ h,_,rfl,ifF ?_ ⟨_,rfl,c,nofun,hx _ h,_,rfl,c,nofun,hy _ h,_,rfl,ifF ?_ ?_⟩⟩
 ·rcases hc with rfl | rfl<;>rfl
 ·rcases hc with rfl | rfl<;>rfl
 refine⟨_,rfl,_,sx _ h,_,rfl,_,sy _ h,_,rfl,ifT (decide_eq_true (by rw[hl])) ?_⟩;refine⟨_,_,_,_,rfl,rfl,sx _ h,sy _ h,ht,hl,?_⟩;refine h8 (j0 hΔ _).2 (c8 hΔ _).1 (λi ws S'=>Gw S1 S'/\ws=Sj i (.bl true)) ⟨Gw.refl _,rfl⟩ ?_ ?_ ?_
 ·rintro i ws S' ⟨G,_⟩;exact keep S1 S' h G
 ·rintro i z ws S' hz ⟨G,rfl⟩;obtain⟨u,v,hu,hv,rfl⟩:=Dx hz;have hi:=(gM hu).1;refine⟨_,rfl,_,rfl,it i u v hu hv _ _ (h.trans G) λS2 h2 G2=>⟨by rw[UO];show _<100000;omega,G.trans G2,?_⟩⟩;rw[List.replicate_succ']
 ·rintro ws S' ⟨G,rfl⟩;refine⟨_,_,nofun,e8 e7,LF _,?_⟩;rw[show ∀ n,(Sj n true).all id=true from λn=>by simp];exact q _ (h.trans G).push G.push
theorem Ll(hΔ:∀ f,MonoN (Δ f))(hb:D.body=ED k)(hN:D.N.length=2)(hp:D.ps.length=2){S:Sto}{a b:Nat}{xs ys:List SV}(hx:S[a]?=some (.lst xs))(hy:S[b]?=some (.lst ys))(hl:xs.length=ys.length)(hs:xs.length<=2000)(it:∀(i:Nat) (u v:SV),xs[i]?=some u->ys[i]?=some v->JD (Δ k) S u v):JD (g6 Δ D) S (.loc a) (.loc b):=
 Lk hΔ hb hN hp (c := .list) (.inl rfl) (λS1 G=>As (G.keep _ _ hx)) (λS1 G=>As (G.keep _ _ hy)) (λS1 G=>e8 (G.keep _ _ hx)) (λS1 G=>e8 (G.keep _ _ hy)) rfl hl hs (λS1 S2 G G2=>⟨by show S2[a]?=S1[a]?;rw[G.keep _ _ hx,G2.keep _ _ (G.keep _ _ hx)],by show S2[b]?=S1[b]?;rw[G.keep _ _ hy,G2.keep _ _ (G.keep _ _ hy)]⟩) it
end
end Rf
namespace Hue
open PySem L2 Rf
noncomputable def top(i:Nat):Stmt:=PySem.Challenge.pw_huedties_k51_hues_made_even.main.body.getD i (.Pass ⟨0,0,0,0⟩)
noncomputable def b0:List Stm:=GQ
noncomputable def d0:Df:=⟨"is_number",top 7,["thing"],["thing"],b0⟩
noncomputable def b1:List Stm:=Rg
noncomputable def d1:Df:=⟨"is_listed",top 8,["thing"],["thing"],b1⟩
noncomputable def b2:List Stm:=DP 0
noncomputable def d2:Df:=⟨"has_place",top 10,["web","place"],["web","place"],b2⟩
noncomputable def b3:List Stm:=Ha 0
noncomputable def d3:Df:=⟨"has_tie",top 11,["web","tie"],["web","tie"],b3⟩
noncomputable def b4:List Stm:=E3 2
noncomputable def d4:Df:=⟨"check_place",top 12,["web","place"],["web","place"],b4⟩
noncomputable def b5:List Stm:=E3 3
noncomputable def d5:Df:=⟨"check_tie",top 13,["web","tie"],["web","tie"],b5⟩
noncomputable def b6:List Stm:=Hb 4
noncomputable def d6:Df:=⟨"ties_at",top 14,["web","place"],["web","place"],b6⟩
noncomputable def b7:List Stm:=Hc 5
noncomputable def d7:Df:=⟨"far_end",top 15,["web","tie","place"],["web","tie","place","one","other"],b7⟩
noncomputable def b8:List Stm:=[(.ret (.and (.cmp .NotEq (.var 1) (.var 2)) (.bi .any (.cons (.comp ["place"] ["web","other"] [0,2] (.nm 0) (.seq (.ix (.ix (.var 0) (.c (.int 1))) (.var 1))) .no (.cmp .In (.var 0) (.ix (.ix (.var 1) (.c (.int 1))) (.var 2)))) .nil))))]
noncomputable def d8:Df:=⟨"meets",top 16,["web","one","other"],["web","one","other"],b8⟩
noncomputable def b9:List Stm:=O9 0
noncomputable def d9:Df:=⟨"is_hue",top 18,["thing"],["thing"],b9⟩
noncomputable def b10:List Stm:=Hf 1 9 11
noncomputable def d10:Df:=⟨"is_hueing",top 19,["web","thing"],["web","thing"],b10⟩
noncomputable def b11:List Stm:=LO
noncomputable def d11:Df:=⟨"clash_of",top 20,["web","row"],["web","row","first","clashes","tie","ends","hue","place","earlier"],b11⟩
noncomputable def b12:List Stm:=Hk 6
noncomputable def d12:Df:=⟨"hues_at",top 21,["web","hueing","place"],["web","hueing","place"],b12⟩
noncomputable def b13:List Stm:=FL
noncomputable def d13:Df:=⟨"classes",top 22,["hueing","hues"],["hueing","hues"],b13⟩
noncomputable def b14:List Stm:=OA 6
noncomputable def d14:Df:=⟨"tie_of_hue",top 24,["web","hueing","place","hue"],["web","hueing","place","hue","tie"],b14⟩
noncomputable def b15:List Stm:=Hh
noncomputable def d15:Df:=⟨"check_unlike",top 25,["one","other"],["one","other"],b15⟩
noncomputable def b16:List Stm:=OB 4 15 14 7
noncomputable def d16:Df:=⟨"row_from",top 26,["web","hueing","place","one","other"],["web","hueing","place","one","other","row","tie"],b16⟩
noncomputable def b17:List Stm:=OC 15 3 10
noncomputable def d17:Df:=⟨"exchanged",top 27,["web","hueing","ties","one","other"],["web","hueing","ties","one","other","changed","tie"],b17⟩
noncomputable def b18:List Stm:=[(.ret (.and (.call 3 (.cons (.var 0) (.cons (.var 2) .nil))) (.cmp .IsNot (.ix (.var 1) (.var 2)) (.c .non))))]
noncomputable def d18:Df:=⟨"tie_has_hue",top 29,["web","hueing","tie"],["web","hueing","tie"],b18⟩
noncomputable def b19:List Stm:=[(.ret (.and (.call 3 (.cons (.var 0) (.cons (.var 2) .nil))) (.cmp .Is (.ix (.var 1) (.var 2)) (.c .non))))]
noncomputable def d19:Df:=⟨"tie_lacks_hue",top 30,["web","hueing","tie"],["web","hueing","tie"],b19⟩
noncomputable def b20:List Stm:=[(.asg (.nm 3) (.bi .list (.cons (.var 1) .nil))),(.loop (.tup (.cons (.nm 4) (.cons (.nm 5) .nil))) (.seq (.var 2)) [(.put (.var 3) (.var 4) (.var 5))]),(.ret (.ife (.call 10 (.cons (.var 0) (.cons (.var 3) .nil))) (.var 3) (.c .non)))]
noncomputable def d20:Df:=⟨"with_hues",top 31,["web","hueing","given"],["web","hueing","given","changed","tie","hue"],b20⟩
noncomputable def b21:List Stm:=[(.iff (.or (.not (.call 19 (.cons (.var 0) (.cons (.var 1) (.cons (.var 2) .nil))))) (.not (.call 9 (.cons (.var 3) .nil)))) [(.ret (.c .non))] []),(.ret (.call 20 (.cons (.var 0) (.cons (.var 1) (.cons (.lst (.cons (.tup (.cons (.var 2) (.cons (.var 3) .nil))) .nil)) .nil)))))]
noncomputable def d21:Df:=⟨"after_hue",top 32,["web","hueing","tie","hue"],["web","hueing","tie","hue"],b21⟩
noncomputable def b22:List Stm:=[(.iff (.not (.call 18 (.cons (.var 0) (.cons (.var 1) (.cons (.var 2) .nil))))) [(.ret (.c .non))] []),(.ret (.call 20 (.cons (.var 0) (.cons (.var 1) (.cons (.lst (.cons (.tup (.cons (.var 2) (.cons (.c .non) .nil))) .nil)) .nil)))))]
noncomputable def d22:Df:=⟨"after_drop",top 33,["web","hueing","tie"],["web","hueing","tie"],b22⟩
noncomputable def b23:List Stm:=[(.iff (.or (.not (.call 18 (.cons (.var 0) (.cons (.var 1) (.cons (.var 2) .nil))))) (.not (.call 19 (.cons (.var 0) (.cons (.var 1) (.cons (.var 3) .nil)))))) [(.ret (.c .non))] []),(.iff (.not (.call 8 (.cons (.var 0) (.cons (.var 2) (.cons (.var 3) .nil))))) [(.ret (.c .non))] []),(.ret (.call 20 (.cons (.var 0) (.cons (.var 1) (.cons (.lst (.cons (.tup (.cons (.var 2) (.cons (.c .non) .nil))) (.cons (.tup (.cons (.var 3) (.cons (.ix (.var 1) (.var 2)) .nil))) .nil))) .nil)))))]
noncomputable def d23:Df:=⟨"after_move",top 34,["web","hueing","tie","other"],["web","hueing","tie","other"],b23⟩
noncomputable def b24:List Stm:=OD 9 16 17
noncomputable def d24:Df:=⟨"after_row",top 35,["web","hueing","place","one","other"],["web","hueing","place","one","other"],b24⟩
noncomputable def b25:List Stm:=LS 21 22 23 24
noncomputable def d25:Df:=⟨"after_step",top 36,["web","hueing","step"],["web","hueing","step","word"],b25⟩
noncomputable def b26:List Stm:=OE 25
noncomputable def d26:Df:=⟨"done_step",top 37,["web","hueing","step"],["web","hueing","step","changed"],b26⟩
noncomputable def b27:List Stm:=LY 13
noncomputable def d27:Df:=⟨"sizes",top 39,["hueing","hues"],["hueing","hues"],b27⟩
noncomputable def b28:List Stm:=LW 12 16
noncomputable def d28:Df:=⟨"row_with_more",top 40,["web","hueing","often","seldom"],["web","hueing","often","seldom","place"],b28⟩
noncomputable def b29:List Stm:=Rm 27 28
noncomputable def d29:Df:=⟨"evening_step",top 41,["web","hueing","hues"],["web","hueing","hues","counts"],b29⟩
noncomputable def b30:List Stm:=Hm 29 26
noncomputable def d30:Df:=⟨"evened",top 42,["web","hueing","hues"],["web","hueing","hues","now","steps","step"],b30⟩
noncomputable def b31:List Stm:=O0
noncomputable def d31:Df:=⟨"_law_tape",top 44,["_law_script","_law_k"],["_law_script","_law_k","_law_cell","_law_digits"],b31⟩
noncomputable def b32:List Stm:=O6
noncomputable def d32:Df:=⟨"_law_draw",top 45,["_law_tape_here","_law_many"],["_law_tape_here","_law_many","_law_found","_law_once"],b32⟩
noncomputable def b33:List Stm:=LB 32
noncomputable def d33:Df:=⟨"_law_pairs_by",top 46,["_law_tape_here","_law_great"],["_law_tape_here","_law_great","_law_way","_law_many","_law_found","_law_turn","_law_one","_law_k","_law_sides"],b33⟩
noncomputable def b34:List Stm:=Ra 32 33
noncomputable def d34:Df:=⟨"_law_web",top 47,["_law_tape_here","_law_great"],["_law_tape_here","_law_great","_law_many","_law_pairs","_law_ties","_law_one","_law_other"],b34⟩
noncomputable def b35:List Stm:=O8
noncomputable def d35:Df:=⟨"_law_meet",top 48,["_law_web_here","_law_one","_law_other"],["_law_web_here","_law_one","_law_other"],b35⟩
noncomputable def b36:List Stm:=Hn 32 35
noncomputable def d36:Df:=⟨"_law_whole_row",top 49,["_law_tape_here","_law_web_here"],["_law_tape_here","_law_web_here","_law_row","_law_wide","_law_tie","_law_taken","_law_free"],b36⟩
noncomputable def b37:List Stm:=FO 35
noncomputable def d37:Df:=⟨"_law_is_hueing",top 50,["_law_web_here","_law_row"],["_law_web_here","_law_row","_law_tie","_law_hue","_law_k"],b37⟩
noncomputable def b38:List Stm:=Ld
noncomputable def d38:Df:=⟨"_law_even",top 51,["_law_row","_law_hues"],["_law_row","_law_hues","_law_many"],b38⟩
noncomputable def b39:List Stm:=Lh 37
noncomputable def d39:Df:=⟨"_law_is_below",top 52,["_law_web_here","_law_row","_law_hues"],["_law_web_here","_law_row","_law_hues"],b39⟩
noncomputable def b40:List Stm:=ED 40
noncomputable def d40:Df:=⟨"_law_same",top 53,["_law_found","_law_due"],["_law_found","_law_due"],b40⟩
noncomputable def b41:List Stm:=[(.asg (.nm 4) (.bi .list (.cons (.var 1) .nil))),(.asg (.nm 5) (.call 30 (.cons (.var 0) (.cons (.var 3) (.cons (.var 2) .nil))))),(.iff (.or (.not (.bi .isi (.cons (.var 5) (.cons (.tyc .tuple) .nil)))) (.or (.cmp .NotEq (.bi .len (.cons (.var 5) .nil)) (.c (.int 2))) (.not (.bi .all (.cons (.comp ["_law_part"] [] [] (.nm 0) (.seq (.var 5)) .no (.bi .isi (.cons (.var 0) (.cons (.tyc .list) .nil)))) .nil))))) [(.ret (.c (.bl false)))] []),(.iff (.or (.not (.call 39 (.cons (.var 0) (.cons (.ix (.var 5) (.c (.int 0))) (.cons (.var 2) .nil))))) (.or (.not (.call 38 (.cons (.ix (.var 5) (.c (.int 0))) (.cons (.var 2) .nil)))) (.cmp .NotEq (.bi .list (.cons (.var 3) .nil)) (.var 4)))) [(.ret (.c (.bl false)))] []),(.iff (.or (.cmp .NotEq (.cmp .Eq (.ix (.var 5) (.c (.int 1))) (.lst .nil)) (.call 38 (.cons (.var 1) (.cons (.var 2) .nil)))) (.and (.cmp .Eq (.ix (.var 5) (.c (.int 1))) (.lst .nil)) (.not (.call 40 (.cons (.ix (.var 5) (.c (.int 0))) (.cons (.var 1) .nil)))))) [(.ret (.c (.bl false)))] []),(.asg (.nm 6) (.lst (.cons (.bi .list (.cons (.ix (.var 5) (.c (.int 0))) .nil)) (.cons (.bi .list (.cons (.ix (.var 5) (.c (.int 1))) .nil)) .nil)))),(.iff (.not (.call 40 (.cons (.call 27 (.cons (.ix (.var 5) (.c (.int 0))) (.cons (.var 2) .nil))) (.cons (.comp ["_law_hue"] ["_law_told"] [6] (.nm 0) (.rng1 (.var 2)) .no (.mt .count (.ix (.var 1) (.c (.int 0))) (.cons (.var 0) .nil))) .nil)))) [(.ret (.c (.bl false)))] []),(.expr (.mt .append (.ix (.var 5) (.c (.int 0))) (.cons (.c (.int 0)) .nil))),(.expr (.mt .append (.ix (.var 5) (.c (.int 1))) (.cons (.tup (.cons (.c (.str "row")) (.cons (.c (.int 0)) (.cons (.c (.int 0)) (.cons (.c (.int 1)) .nil))))) .nil))),(.asg (.nm 7) (.call 30 (.cons (.var 0) (.cons (.var 3) (.cons (.var 2) .nil))))),(.ret (.and (.eqd false (.lst (.cons (.ix (.var 7) (.c (.int 0))) (.cons (.ix (.var 7) (.c (.int 1))) .nil))) (.var 6)) (.cmp .Eq (.bi .list (.cons (.var 3) .nil)) (.var 4))))]
noncomputable def d41:Df:=⟨"_law_right",top 54,["_law_web_here","_law_row","_law_hues","_law_handed"],["_law_web_here","_law_row","_law_hues","_law_handed","_law_kept","_law_found","_law_told","_law_again"],b41⟩
noncomputable def b42:List Stm:=[(.loop (.nm 1) (.rng1 (.op .Add (.c (.int 1)) (.bi .min (.cons (.c (.int 8)) (.cons (.bi .len (.cons (.var 0) .nil)) .nil))))) [(.asg (.nm 2) (.call 31 (.cons (.var 0) (.cons (.var 1) .nil)))),(.asg (.nm 3) (.call 34 (.cons (.var 2) (.cons (.cmp .Eq (.call 32 (.cons (.var 2) (.cons (.c (.int 8)) .nil))) (.c (.int 0))) .nil)))),(.asg (.tup (.cons (.nm 4) (.cons (.nm 5) .nil))) (.call 36 (.cons (.var 2) (.cons (.var 3) .nil)))),(.asg (.nm 6) (.ix (.lst (.cons (.bi .list (.cons (.var 4) .nil)) (.cons (.bi .tuple (.cons (.var 4) .nil)) .nil))) (.call 32 (.cons (.var 2) (.cons (.c (.int 2)) .nil))))),(.loop (.nm 7) (.rng1 (.c (.int 2))) [(.asg (.nm 8) (.call 27 (.cons (.var 6) (.cons (.var 5) .nil)))),(.iff (.or (.not (.call 40 (.cons (.var 8) (.cons (.comp ["_law_hue"] ["_law_row"] [4] (.nm 0) (.rng1 (.var 5)) .no (.mt .count (.var 1) (.cons (.var 0) .nil))) .nil)))) (.cmp .NotEq (.bi .list (.cons (.var 6) .nil)) (.var 4))) [(.ret (.c (.bl false)))] []),(.expr (.mt .append (.var 8) (.cons (.c (.int 9)) .nil)))]),(.iff (.not (.call 41 (.cons (.var 3) (.cons (.var 4) (.cons (.var 5) (.cons (.var 6) .nil)))))) [(.ret (.c (.bl false)))] [])]),(.ret (.c (.bl true)))]
noncomputable def d42:Df:=⟨"law",top 55,["_law_script"],["_law_script","_law_k","_law_tape_here","_law_web_here","_law_row","_law_hues","_law_handed","_law_turn","_law_found"],b42⟩
noncomputable def prog:List Df:=[d0,d1,d2,d3,d4,d5,d6,d7,d8,d9,d10,d11,d12,d13,d14,d15,d16,d17,d18,d19,d20,d21,d22,d23,d24,d25,d26,d27,d28,d29,d30,d31,d32,d33,d34,d35,d36,d37,d38,d39,d40,d41,d42]
theorem FQ:prog.all (NC (prog.map (·.name)))=true:=by decide +kernel
theorem hW(d:Nat):∀ f,MonoN (W prog d f):=CW d
theorem s0(d:Nat):C2 (W prog (d+1) 0):=LD (Δ:=W prog d) (D:=d0) rfl rfl rfl
theorem g0(d:Nat):Q3 (W prog (d+1) 0):=NI (Δ:=W prog d) (D:=d0) rfl rfl rfl
theorem s1(d:Nat):Q4 (W prog (d+1) 1):=NK (Δ:=W prog d) (D:=d1) rfl rfl rfl
theorem s2(d:Nat):BF (W prog (d+2) 2):=FC (Δ:=W prog (d+1)) (D:=d2) (s0 d) rfl rfl rfl
theorem s3(d:Nat):BT (W prog (d+2) 3):=J4 (Δ:=W prog (d+1)) (D:=d3) (s0 d) rfl rfl rfl
theorem s4(d:Nat):w9 (W prog (d+3) 4):=Cw (Δ:=W prog (d+2)) (D:=d4) (s2 d) rfl rfl rfl
theorem s5(d:Nat):BG (W prog (d+3) 5):=FD (Δ:=W prog (d+2)) (D:=d5) (s3 d) rfl rfl rfl
theorem s6(d:Nat):BU (W prog (d+4) 6):=J5 (Δ:=W prog (d+3)) (D:=d6) (hW _) (s4 d) rfl rfl rfl
theorem s7(d:Nat):Cb (W prog (d+4) 7):=J6 (Δ:=W prog (d+3)) (D:=d7) (s5 d) rfl rfl rfl
theorem s9(d:Nat):NL (W prog (d+2) 9):=NM (Δ:=W prog (d+1)) (D:=d9) (g0 d) rfl rfl rfl
theorem s11(d:Nat):GT (W prog (d+1) 11):=J8 (Δ:=W prog d) (D:=d11) (hW _) rfl rfl rfl
theorem s10(d:Nat):B0 (W prog (d+3) 10):=GU (Δ:=W prog (d+2)) (D:=d10) (hW _) (s1 (d+1)) (s9 d) (s11 (d+1)) rfl rfl rfl
theorem s12(d:Nat):Cf (W prog (d+5) 12):=JA (Δ:=W prog (d+4)) (D:=d12) (hW _) (s6 d) rfl rfl rfl
theorem s13(d:Nat):Bs (W prog (d+1) 13):=GX (Δ:=W prog d) (D:=d13) (hW _) rfl rfl rfl
theorem s14(d:Nat):GV (W prog (d+5) 14):=NN (Δ:=W prog (d+4)) (D:=d14) (hW _) (s6 d) rfl rfl rfl
theorem s15(d:Nat):BX (W prog (d+1) 15):=J9 (Δ:=W prog d) (D:=d15) rfl rfl rfl
theorem s16(d:Nat):Hi (W prog (d+6) 16):=Q7 (Δ:=W prog (d+5)) (D:=d16) (hW _) (s4 (d+2)) (s15 (d+4)) (s14 d) (s7 (d+1)) rfl rfl rfl
theorem s17(d:Nat):GW (W prog (d+4) 17):=NQ (Δ:=W prog (d+3)) (D:=d17) (hW _) (s15 (d+2)) (s3 (d+1)) (s10 d) rfl rfl rfl
theorem s24(d:Nat):Aa (W prog (d+7) 24) λs=>[.int (s.1:Nat),.int (s.2.1:Nat),.int (s.2.2:Nat)]:=NR (Δ:=W prog (d+6)) (D:=d24) (s9 (d+4)) (s16 d) (s17 (d+2)) rfl rfl rfl
theorem s25(d:Nat):Aa (W prog (d+8) 25) λs=>[stS s]:=LU (Δ:=W prog (d+7)) (D:=d25) (s24 d) rfl rfl rfl
theorem s26(d:Nat):Aa (W prog (d+9) 26) λs=>[stS s]:=NS (Δ:=W prog (d+8)) (D:=d26) (s25 d) rfl rfl rfl
theorem s27(d:Nat):EB (W prog (d+2) 27):=LZ (Δ:=W prog (d+1)) (D:=d27) (hW _) (s13 d) rfl rfl rfl
theorem s28(d:Nat):EA (W prog (d+7) 28):=LX (Δ:=W prog (d+6)) (D:=d28) (hW _) (s12 (d+1)) (s16 d) rfl rfl rfl
theorem s29(d:Nat):Lb (W prog (d+8) 29):=QA (Δ:=W prog (d+7)) (D:=d29) (s27 (d+5)) (s28 d) rfl rfl rfl
theorem s30(d:Nat):FN (W prog (d+10) 30):=JB (Δ:=W prog (d+9)) (D:=d30) (s29 (d+1)) (s26 d) rfl rfl rfl
theorem s31(d:Nat):LA (W prog (d+1) 31):=NE (Δ:=W prog d) (D:=d31) rfl rfl rfl
theorem s32(d:Nat):v6 (W prog (d+1) 32):=ND (Δ:=W prog d) (D:=d32) rfl rfl rfl
theorem s33(d:Nat):Dz (W prog (d+2) 33):=LC (Δ:=W prog (d+1)) (D:=d33) (hW _) (s32 d) rfl rfl rfl
theorem s34(d:Nat):O7 (W prog (d+3) 34):=Q0 (Δ:=W prog (d+2)) (D:=d34) (hW _) (s32 (d+1)) (s33 d) rfl rfl rfl
theorem s35(d:Nat):DS (W prog (d+1) 35):=LN (Δ:=W prog d) (D:=d35) rfl rfl rfl
theorem s36(d:Nat):FP (W prog (d+2) 36):=JC (Δ:=W prog (d+1)) (D:=d36) (hW _) (s32 d) (s35 d) rfl rfl rfl
theorem s37(d:Nat):B0 (W prog (d+2) 37):=GY (Δ:=W prog (d+1)) (D:=d37) (hW _) (s35 d) rfl rfl rfl
theorem s38(d:Nat):Ho (W prog (d+1) 38):=Lg (Δ:=W prog d) (D:=d38) (hW _) rfl rfl rfl
theorem s39(d:Nat):Hq (W prog (d+3) 39):=Li (Δ:=W prog (d+2)) (D:=d39) (s37 d) rfl rfl rfl
theorem s40(d:Nat){S:Sto}{a c:Nat}{cs:List Nat}(ha:S[a]?=some (.lst (natS cs)))(hc:S[c]?=some (.lst (natS cs)))(hl:cs.length<=2000):JD (W prog (d+2) 40) S (.loc a) (.loc c):=by
 refine Ll (Δ:=W prog (d+1)) (D:=d40) (hW _) rfl rfl rfl ha hc rfl (by rw[f7];omega) λi u v hu hv=>?_;rw[hu]at hv;cases hv;obtain⟨x,_,rfl⟩:=TJ.mp (Sh hu);exact Lj (Δ:=W prog d) (D:=d40) rfl rfl rfl
noncomputable def SS:Stm:=(.asg (.nm 5) (.call 30 (.cons (.var 0) (.cons (.var 3) (.cons (.var 2) .nil)))))
noncomputable def ST:Stm:=(.iff (.or (.not (.bi .isi (.cons (.var 5) (.cons (.tyc .tuple) .nil)))) (.or (.cmp .NotEq (.bi .len (.cons (.var 5) .nil)) (.c (.int 2))) (.not (.bi .all (.cons (.comp ["_law_part"] [] [] (.nm 0) (.seq (.var 5)) .no (.bi .isi (.cons (.var 0) (.cons (.tyc .list) .nil)))) .nil))))) [(.ret (.c (.bl false)))] [])
noncomputable def Rn:Stm:=(.iff (.or (.not (.call 39 (.cons (.var 0) (.cons (.ix (.var 5) (.c (.int 0))) (.cons (.var 2) .nil))))) (.or (.not (.call 38 (.cons (.ix (.var 5) (.c (.int 0))) (.cons (.var 2) .nil)))) (.cmp .NotEq (.bi .list (.cons (.var 3) .nil)) (.var 4)))) [(.ret (.c (.bl false)))] [])
noncomputable def QJ:Stm:=(.iff (.or (.cmp .NotEq (.cmp .Eq (.ix (.var 5) (.c (.int 1))) (.lst .nil)) (.call 38 (.cons (.var 1) (.cons (.var 2) .nil)))) (.and (.cmp .Eq (.ix (.var 5) (.c (.int 1))) (.lst .nil)) (.not (.call 40 (.cons (.ix (.var 5) (.c (.int 0))) (.cons (.var 1) .nil)))))) [(.ret (.c (.bl false)))] [])
noncomputable def NV:Stm:=(.asg (.nm 6) (.lst (.cons (.bi .list (.cons (.ix (.var 5) (.c (.int 0))) .nil)) (.cons (.bi .list (.cons (.ix (.var 5) (.c (.int 1))) .nil)) .nil))))
noncomputable def Lm:Stm:=(.iff (.not (.call 40 (.cons (.call 27 (.cons (.ix (.var 5) (.c (.int 0))) (.cons (.var 2) .nil))) (.cons (.comp ["_law_hue"] ["_law_told"] [6] (.nm 0) (.rng1 (.var 2)) .no (.mt .count (.ix (.var 1) (.c (.int 0))) (.cons (.var 0) .nil))) .nil)))) [(.ret (.c (.bl false)))] [])
noncomputable def JE:Stm:=(.expr (.mt .append (.ix (.var 5) (.c (.int 0))) (.cons (.c (.int 0)) .nil)))
noncomputable def JF:Stm:=(.expr (.mt .append (.ix (.var 5) (.c (.int 1))) (.cons (.tup (.cons (.c (.str "row")) (.cons (.c (.int 0)) (.cons (.c (.int 0)) (.cons (.c (.int 1)) .nil))))) .nil)))
noncomputable def Ci:Stm:=(.asg (.nm 7) (.call 30 (.cons (.var 0) (.cons (.var 3) (.cons (.var 2) .nil)))))
noncomputable def Cj:Stm:=(.ret (.and (.eqd false (.lst (.cons (.ix (.var 7) (.c (.int 0))) (.cons (.ix (.var 7) (.c (.int 1))) .nil))) (.var 6)) (.cmp .Eq (.bi .list (.cons (.var 3) .nil)) (.var 4))))
theorem NW{S:Sto}{a b:Nat}{ds:List Nat}(ha:S[a]?=some (.lst (natS ds)))(hb:S[b]?=some (.lst (natS ds))):EqS S 2 (.loc a) (.loc b):=by
 refine .inl (.inr (.inl ⟨a,b,_,_,rfl,rfl,ha,hb,rfl,λi u v e1 e2=>?_⟩));rw[e1]at e2;cases e2;obtain⟨x,_,rfl⟩:=TJ.mp (Sh e1);exact⟨rfl,rfl⟩
theorem Ln{S:Sto}{a b:Nat}{sts:List (Nat×Nat×Nat)}(ha:S[a]?=some (.lst (sts.map stS)))(hb:S[b]?=some (.lst (sts.map stS))):EqS S 2 (.loc a) (.loc b):=by
 refine .inr (.inl ⟨a,b,_,_,rfl,rfl,ha,hb,rfl,λi u v e1 e2=>?_⟩);rw[e1]at e2;cases e2;obtain⟨x,_,rfl⟩:=TJ.mp (Sh e1);refine .inr (.inr ⟨_,_,rfl,rfl,rfl,λi u v e1 e2=>?_⟩);rw[e1]at e2;cases e2;have i4:=(gM e1).1;have i4:i<4:=i4;have:i=0\/i=1\/i=2\/i=3:=by omega
 rcases this with rfl | rfl | rfl | rfl<;>cases e1<;>exact⟨rfl,rfl⟩
theorem Ro{n H k k1 k2 c w a b:Nat}{h:SV}{es:EE}{cs ds:List Nat}{sts:List (Nat×Nat×Nat)}{S1 S:Sto}{Q:QE}{o7:Option SV}(P:Prp es cs)(hen:∀ e∈es,e.1<e.2/\e.2<n)(el:es.length<=60)(nn:n<=1000)(hH:H<=1000)(bd:∀ h∈cs,h<H)(G:Gw S1 S)(l1:S1.length<=k1)(l2:S1.length<=k2)(ne:k1≠k2)(hh:HueL S1 h cs)(hc:S1[c]?=some (.lst (natS cs)))(h1:S[k1]?=some (.lst (natS ds)))(h2:S[k2]?=some (.lst (sts.map stS)))(sl:sts.length<=2000)(E:Evn ds H)(ev:Evs n es H cs sts ds)(hw:S[w]?=some (.lst [.loc a,.loc b]))(ha:S[a]?=some (.lst (natS ds)))(hb:S[b]?=some (.lst (sts.map stS)))(x1:w≠k1/\w≠k2)(x2:a≠k1/\a≠k2)(x3:b≠k1/\b≠k2)(dl:ds.length<=1000)(q:∀ S',Gw S1 S'->Q (.bl true) S'):wSs (W prog 10) [JE,JF,Ci,Cj] (l7 Q) [some (i6 n es),some (.loc k),some (.int (H:Nat)),some h,some (.loc c),some (.tup [.loc k1,.loc k2]),some (.loc w),o7] S:=by
 refine⟨_,rfl,_,_,rfl,rfl,⟨_,_,rfl,h1⟩,_,h1,by rw[f7];show _<100000;omega,?_⟩;have h2':(S.set k1 (SO.lst (natS ds++[SV.int 0])))[k2]?=some (SO.lst (sts.map stS)):=by rw[A7 ne];exact h2
 refine⟨_,rfl,_,_,rfl,rfl,⟨_,_,rfl,h2'⟩,by show 4<=100000;decide,_,h2',by rw[SX];show _<100000;omega,?_⟩;have G2:=(G.put (o:=SO.lst (natS ds++[SV.int 0])) l1).put (o:=SO.lst (sts.map stS++[.tup [.str "row",.int 0,.int 0,.int 1]])) l2
 have kp:∀(m:Nat) (o:SO),m≠k1/\m≠k2->S[m]?=some o->((S.set k1 (SO.lst (natS ds++[SV.int 0]))).set k2 (SO.lst (sts.map stS++[.tup [.str "row",.int 0,.int 0,.int 1]])))[m]?=some o:=λm o hm e=>by
  rw[A7 (Ne.symm hm.2),A7 (Ne.symm hm.1)];exact e
 have hw3:=kp w _ x1 hw;have ha3:=kp a _ x2 ha;have hb3:=kp b _ x3 hb;show wSs (W prog 10) [Ci,Cj] (l7 Q) [some (i6 n es),some (.loc k),some (.int (H:Nat)),some h,some (.loc c),some (.tup [.loc k1,.loc k2]),some (.loc w),o7] ((S.set k1 (SO.lst (natS ds++[SV.int 0]))).set k2 (SO.lst (sts.map stS++[.tup [.str "row",.int 0,.int 0,.int 1]])));generalize (S.set k1 (SO.lst (natS ds++[SV.int 0]))).set k2 (SO.lst (sts.map stS++[.tup [.str "row",.int 0,.int 0,.int 1]]))=S3 at *;refine⟨_,rfl,_,rfl,_,rfl,s30 0 (hh.grow G2) P hen el nn hH bd λk3 k4 ds2 sts2 S4 G4 l3 l4 ne2 h3 h4 _ _ _ E2 ev2=>?_⟩;obtain⟨rfl,rfl⟩:=ev.uniq ev2 E E2;refine⟨_,rfl,_,_,rfl,rfl,_,rfl,_,_,rfl,rfl,by show 2<=100000;decide,_,rfl,_,_,_,_,rfl,rfl,e7,e6 (G4.keep _ _ hw3),rfl,λi u v e1 e2=>?_,_,rfl,ifT rfl ?_⟩
 ·have i2:i<2:=(gM e1).1;have:i=0\/i=1:=by omega
  rcases this with rfl | rfl
  ·cases e1;cases e2;exact NW (e6 h3) (e6 (G4.keep _ _ ha3))
  ·cases e1;cases e2;exact Ln (e6 h4) (e6 (G4.keep _ _ hb3))
 ·have G5:=(G2.trans G4).push (o:=SO.lst [.loc k3,.loc k4]);refine⟨_,rfl,_,hh.seq _ G5,_,rfl,_,_,e7,e6 (G5.keep _ _ hc),.inl ⟨t8 _,t8 _⟩,?_⟩;rw[Cc];exact q _ G5.push
theorem QK{Q:List SV->Sto->Prop}{e:Ex}{ρ:EnvS}{S:Sto}{k H:Nat}{cs:List Nat}(hk:S[k]?=some (.lst (natS cs)))(hH:H<=1000)(he:∀(i:Nat) (R:QE),R (.loc k) S->(wEx (W prog 10) e).1 (some (.int (i:Nat))::ρ) S R)(q:Q (natS (szL cs H)) S):m7 (λ_=>True) (.nm 0) (wEo (W prog 10) .no).2 (wEx (W prog 10) (.mt .count e (.cons (.var 0) .nil))).1 (none::ρ) Q (B4 0 (H:Nat)) [] S:=by
 refine h8 (j0 (hW _) _).2 (c8 (hW _) _).1 (λi ys S2=>S2=S/\ys=natS (szL cs i)) ⟨rfl,rfl⟩ (λ_ _ _ _=>trivial) ?_ ?_
 ·rintro i x ys S2 hx ⟨rfl,rfl⟩;obtain⟨rfl,hi⟩:=j4 hx;rw[U7]at hi ⊢;have hk2:=hk;rw[AC]at hk2;refine he i _ ⟨⟨_,_,rfl,hk⟩,_,rfl,_,hk2,by unfold szL;rw[f7,SX,T8];show _<100000;omega,rfl,?_⟩;rw[Ch];unfold szL;rw[Tj,Sx,r6];rfl
 ·rintro ys S2 ⟨rfl,rfl⟩;rw[j5,show((H:Int) - 0).toNat=H by omega];exact q
theorem NX{Q:List SV->Sto->Prop}{e:Ex}{ρ:EnvS}{S:Sto}{k H:Nat}{cs:List Nat}(hk:S[k]?=some (.lst (natS cs)))(hH:H<=1000)(he:∀(i:Nat) (R:QE),R (.loc k) S->(wEx (W prog 11) e).1 (some (.int (i:Nat))::ρ) S R)(q:Q (natS (szL cs H)) S):m7 (λ_=>True) (.nm 0) (wEo (W prog 11) .no).2 (wEx (W prog 11) (.mt .count e (.cons (.var 0) .nil))).1 (none::ρ) Q (B4 0 (H:Nat)) [] S:=by
 refine h8 (j0 (hW _) _).2 (c8 (hW _) _).1 (λi ys S2=>S2=S/\ys=natS (szL cs i)) ⟨rfl,rfl⟩ (λ_ _ _ _=>trivial) ?_ ?_
 ·rintro i x ys S2 hx ⟨rfl,rfl⟩;obtain⟨rfl,hi⟩:=j4 hx;rw[U7]at hi ⊢;have hk2:=hk;rw[AC]at hk2;refine he i _ ⟨⟨_,_,rfl,hk⟩,_,rfl,_,hk2,by unfold szL;rw[f7,SX,T8];show _<100000;omega,rfl,?_⟩;rw[Ch];unfold szL;rw[Tj,Sx,r6];rfl
 ·rintro ys S2 ⟨rfl,rfl⟩;rw[j5,show((H:Int) - 0).toNat=H by omega];exact q
theorem Lo{n H k:Nat}{h:SV}{es:EE}{cs:List Nat}{S:Sto}{Q:QE}(P:Prp es cs)(hen:∀ e∈es,e.1<e.2/\e.2<n)(el:es.length<=60)(nn:n<=1000)(hH:H<=1000)(bd:∀ h∈cs,h<H)(hk:S[k]?=some (.lst (natS cs)))(hh:HueL S h cs)(q:∀ S',Gw S S'->Q (.bl true) S'):W prog 11 41 [i6 n es,.loc k,.int (H:Nat),h] S Q:=by
 show g6 (W prog 10) d41 _ _ _;have cl:cs.length<=60:=by rw[P.len];exact el
 refine⟨rfl,_,rfl,_,e8 hk,?_⟩;have G1:Gw S (S++[SO.lst (natS cs)]):=(Gw.refl S).push;have hc:(S++[SO.lst (natS cs)])[S.length]?=some (SO.lst (natS cs)):=e7;have hk1:=G1.keep _ _ hk;have hh1:=hh.grow G1;replace q:=λS' (z:Gw (S++[SO.lst (natS cs)]) S')=>q S' (G1.trans z);show wSs (W prog 10) [SS,ST,Rn,QJ,NV,Lm,JE,JF,Ci,Cj] (l7 Q) [some (i6 n es),some (.loc k),some (.int (H:Nat)),some h,some (.loc S.length),none,none,none] (S++[SO.lst (natS cs)]);generalize S++[SO.lst (natS cs)]=S1 at *;generalize S.length=c at *;refine⟨_,rfl,_,rfl,_,rfl,s30 0 hh1 P hen el nn hH bd λk1 k2 ds sts S2 G2 l1 l2 ne h1 h2 sl P2 b2 E2 ev=>?_⟩;have dl:ds.length<=60:=by rw[P2.len];exact el
 refine⟨_,rfl,_,nofun,rfl,_,rfl,ifF rfl ⟨_,rfl,_,rfl,_,rfl,ifF rfl ⟨_,rfl,[.loc k1,.loc k2],rfl,?_⟩⟩⟩;refine h8 (j0 (hW _) _).2 (c8 (hW _) _).1 (λj ys S'=>S'=S2/\ys=Sj j (.bl true)) ⟨rfl,rfl⟩ (λ_ _ _ _=>trivial) ?_ ?_
 ·rintro i z ys S' hz ⟨rfl,rfl⟩;have hi:i<2:=(gM hz).1;have:i=0\/i=1:=by omega
  rcases this with rfl | rfl
  ·cases hz;exact⟨_,rfl,_,nofun,As h1,by show 0<100000;decide,rfl,rfl⟩
  ·cases hz;exact⟨_,rfl,_,nofun,As h2,by show 1<100000;decide,rfl,rfl⟩
 rintro ys S' ⟨rfl,rfl⟩;refine⟨_,_,nofun,e8 e7,LF _,_,rfl,ifF rfl (g9 ?_)⟩;have G3:=G2.push (o:=SO.lst (Sj 2 (SV.bl true)));have h1':=e6 (o:=SO.lst (Sj 2 (SV.bl true))) h1;have h2':=e6 (o:=SO.lst (Sj 2 (SV.bl true))) h2;show wSs (W prog 10) [Rn,QJ,NV,Lm,JE,JF,Ci,Cj] (l7 Q) [some (i6 n es),some (.loc k),some (.int (H:Nat)),some h,some (.loc c),some (.tup [.loc k1,.loc k2]),none,none] (S'++[SO.lst (Sj 2 (SV.bl true))]);generalize S'++[SO.lst (Sj 2 (SV.bl true))]=S3 at *;refine⟨_,rfl,_,rfl,_,_,rfl,rfl,_,rfl,s39 7 h1' P2 hen el hH b2 λS4 G4=>⟨_,rfl,ifF rfl ?_⟩⟩;refine⟨_,rfl,_,_,rfl,rfl,_,rfl,s38 9 (G4.keep _ _ h1') hH λr S5 G5 hr=>?_⟩;obtain rfl:=hr.mpr E2;have G6:=G3.trans (G4.trans G5);refine⟨_,rfl,ifF rfl ⟨_,rfl,_,hh1.seq _ G6,_,rfl,_,_,e7,e6 (G6.keep _ _ hc),.inl ⟨t8 _,t8 _⟩,_,rfl,ifF (by rw[Cc];rfl) (g9 ?_)⟩⟩;have G7:=G6.push (o:=SO.lst (natS cs));have h17:=e6 (o:=SO.lst (natS cs)) (G5.keep _ _ (G4.keep _ _ h1'));have h27:=e6 (o:=SO.lst (natS cs)) (G5.keep _ _ (G4.keep _ _ h2'));show wSs (W prog 10) [QJ,NV,Lm,JE,JF,Ci,Cj] (l7 Q) [some (i6 n es),some (.loc k),some (.int (H:Nat)),some h,some (.loc c),some (.tup [.loc k1,.loc k2]),none,none] (S5++[SO.lst (natS cs)]);generalize S5++[SO.lst (natS cs)]=S7 at *;clear hr G6 G5 G4 G3 h1' h2';refine⟨_,rfl,_,_,rfl,rfl,by show 0<=100000;decide,_,_,e6 h27,e7,.inr (.inr rfl),?_⟩;have G8:=G7.push (o:=SO.lst []);have h18:=e6 (o:=SO.lst []) h17;have h28:=e6 (o:=SO.lst []) h27;generalize S7++[SO.lst []]=S8 at *;refine⟨_,rfl,_,rfl,s38 9 (G8.keep _ _ hk1) hH λr S9 G9 hr=>?_⟩
 have er:CI (sts.map stS) []=r:=by
  rw[CZ,Tc];constructor
  ·intro z;have:sts=[]:=by simpa using z
   subst this;cases ev with
   | nil=>exact hr.mpr E2
  ·intro z;rw[(ev.even (hr.mp z)).1];rfl
 rw[er];have G9':=G8.trans G9;have h19:=G9.keep _ _ h18;have h29:=G9.keep _ _ h28
 have tail:∀ S',Gw S1 S'->S'[k1]?=some (.lst (natS ds))->S'[k2]?=some (.lst (sts.map stS))->wSs (W prog 10) [NV,Lm,JE,JF,Ci,Cj] (l7 Q) [some (i6 n es),some (.loc k),some (.int (H:Nat)),some h,some (.loc c),some (.tup [.loc k1,.loc k2]),none,none] S':=by
  intro S' G' a1 a2;have k1l:=(gM a1).1;have k2l:=(gM a2).1;refine⟨_,rfl,_,_,rfl,rfl,_,e8 a1,_,rfl,_,_,rfl,rfl,_,e8 (e6 a2),by show 2<=100000;decide,?_⟩;have e1:(S'++[SO.lst (natS ds)]).length=S'.length+1:=by simp
  have e2:(S'++[SO.lst (natS ds)]++[SO.lst (sts.map stS)]).length=S'.length+2:=by simp
  have w1:(S'++[SO.lst (natS ds)]++[SO.lst (sts.map stS)]++[SO.lst [.loc S'.length,.loc (S'++[SO.lst (natS ds)]).length]])[S'.length]?=some (SO.lst (natS ds)):=e6 (e6 e7);have w2:(S'++[SO.lst (natS ds)]++[SO.lst (sts.map stS)]++[SO.lst [.loc S'.length,.loc (S'++[SO.lst (natS ds)]).length]])[(S'++[SO.lst (natS ds)]).length]?=some (SO.lst (sts.map stS)):=e6 e7;have w3:(S'++[SO.lst (natS ds)]++[SO.lst (sts.map stS)]++[SO.lst [.loc S'.length,.loc (S'++[SO.lst (natS ds)]).length]])[(S'++[SO.lst (natS ds)]++[SO.lst (sts.map stS)]).length]?=some (SO.lst [.loc S'.length,.loc (S'++[SO.lst (natS ds)]).length]):=e7;have G'':=((G'.push (o:=SO.lst (natS ds))).push (o:=SO.lst (sts.map stS))).push (o:=SO.lst [.loc S'.length,.loc (S'++[SO.lst (natS ds)]).length]);have a1':=e6 (o:=SO.lst [.loc S'.length,.loc (S'++[SO.lst (natS ds)]).length]) (e6 (o:=SO.lst (sts.map stS)) (e6 (o:=SO.lst (natS ds)) a1));have a2':=e6 (o:=SO.lst [.loc S'.length,.loc (S'++[SO.lst (natS ds)]).length]) (e6 (o:=SO.lst (sts.map stS)) (e6 (o:=SO.lst (natS ds)) a2));rw[e1]at w1 w2 w3 G'' a1' a2';rw[e2]at w3;show wSs (W prog 10) [Lm,JE,JF,Ci,Cj] (l7 Q) [some (i6 n es),some (.loc k),some (.int (H:Nat)),some h,some (.loc c),some (.tup [.loc k1,.loc k2]),some (.loc (S'++[SO.lst (natS ds)]++[SO.lst (sts.map stS)]).length),none] (S'++[SO.lst (natS ds)]++[SO.lst (sts.map stS)]++[SO.lst [.loc S'.length,.loc (S'++[SO.lst (natS ds)]).length]]);rw[e2,e1];generalize S'++[SO.lst (natS ds)]++[SO.lst (sts.map stS)]++[SO.lst [.loc S'.length,.loc (S'.length+1)]]=S10 at *;refine⟨_,rfl,_,_,rfl,rfl,_,rfl,s27 8 (HueL.loc a1') (by omega) hH λz S11 G11 z1 hz=>?_⟩;have zl:=(gM hz).1;refine⟨_,rfl,_,rfl,⟨by omega,by omega⟩,?_⟩;refine QK (e := .ix (.var 1) (.c (.int 0))) (ρ:=[some (.loc (S'.length+2))]) (G11.keep _ _ w1) hH (λi R z=>⟨_,rfl,_,_,e8 (G11.keep _ _ w3),rfl,z⟩) ?_;refine s40 8 (e6 hz) e7 (by unfold szL;rw[SX,T8];omega) _ _ (Gw.refl _) λS12 G12 _=>⟨_,rfl,ifF rfl (g9 ?_)⟩
  have GG:=(G11.push (o:=SO.lst (natS (szL ds H)))).trans G12;exact Ro P hen el nn hH bd (G''.trans GG) l1 l2 ne hh1 hc (GG.keep _ _ a1') (GG.keep _ _ a2') sl E2 ev (GG.keep _ _ w3) (GG.keep _ _ w1) (GG.keep _ _ w2) ⟨by omega,by omega⟩ ⟨by omega,by omega⟩ ⟨by omega,by omega⟩ (by omega) q
 refine⟨_,rfl,ifF (by cases r<;>rfl) ?_⟩;refine⟨_,rfl,_,_,rfl,rfl,by show 0<=100000;decide,_,_,e6 h29,e7,.inr (.inr rfl),_,rfl,?_⟩;rw[er];have G10:=G9'.push (o:=SO.lst []);have h110:=e6 (o:=SO.lst []) h19;have h210:=e6 (o:=SO.lst []) h29;generalize S9++[SO.lst []]=S10 at *;cases r with
 | false=>exact ifF rfl (ifF rfl (g9 (tail _ G10 h110 h210)))
 | true=>
   obtain⟨e1,e2⟩:=ev.even (hr.mp rfl);refine ifT rfl ⟨_,rfl,_,_,rfl,rfl,_,rfl,s40 8 (cs:=cs) (by rw[h110,e2]) (G10.keep _ _ hk1) (by omega) _ _ (Gw.refl _) λS11 G11 _=>⟨_,rfl,ifF rfl (g9 (tail _ (G10.trans G11) (G11.keep _ _ h110) (G11.keep _ _ h210)))⟩⟩
noncomputable def L4b:List Stm:=[(.asg (.nm 8) (.call 27 (.cons (.var 6) (.cons (.var 5) .nil)))),(.iff (.or (.not (.call 40 (.cons (.var 8) (.cons (.comp ["_law_hue"] ["_law_row"] [4] (.nm 0) (.rng1 (.var 5)) .no (.mt .count (.var 1) (.cons (.var 0) .nil))) .nil)))) (.cmp .NotEq (.bi .list (.cons (.var 6) .nil)) (.var 4))) [(.ret (.c (.bl false)))] []),(.expr (.mt .append (.var 8) (.cons (.c (.int 9)) .nil)))]
theorem NY{D:EndsS}{H k:Nat}{h:SV}{cs:List Nat}{S:Sto}{o0 o1 o2 o3 o7 o8:Option SV}(hH:H<=1000)(cl:cs.length<=60)(hk:S[k]?=some (.lst (natS cs)))(hh:HueL S h cs)(q:∀(o8:Option SV) (S':Sto),Gw S S'->D.nx [o0,o1,o2,o3,some (.loc k),some (.int (H:Nat)),some h,o7,o8] S'):wSs (W prog 11) L4b D [o0,o1,o2,o3,some (.loc k),some (.int (H:Nat)),some h,o7,o8] S:=by
 refine⟨_,rfl,_,rfl,s27 9 hh (by omega) hH λz S1 G1 z1 hz=>?_⟩;refine⟨_,rfl,_,rfl,_,rfl,⟨by omega,by omega⟩,?_⟩;refine NX (e := .var 1) (ρ:=[some (.loc k)]) (G1.keep _ _ hk) hH (λi R z=>⟨_,rfl,z⟩) ?_;refine s40 9 (e6 hz) e7 (by unfold szL;rw[SX,T8];omega) _ _ (Gw.refl _) λS2 G2 _=>⟨_,rfl,ifF rfl ?_⟩
 have G3:=(G1.push (o:=SO.lst (natS (szL cs H)))).trans G2;have hz2:=G2.keep _ _ (e6 hz);refine⟨_,rfl,_,hh.seq _ G3,_,rfl,_,_,e7,e6 (G3.keep _ _ hk),.inl ⟨t8 _,t8 _⟩,_,rfl,ifF (by rw[Cc];rfl) (g9 ?_)⟩;refine⟨_,rfl,⟨_,_,rfl,e6 hz2⟩,_,e6 hz2,by unfold szL;rw[f7,SX,T8];show _<100000;omega,?_⟩;exact q _ _ (G3.push.put z1)
theorem law_main(ns:List Int)(h:ns.length<=63):W prog 12 42 [.ro (ns.map SV.int)] [] λx _=>x = .bl true:=by
 show g6 (W prog 11) d42 _ _ _
 have hj:∃ m:Nat,1+(if ((ns.map SV.int).length:Int)<(8:Int) then ((ns.map SV.int).length:Int) else 8)=(m:Int)/\m<=9:=by
  rw[SX];generalize ns.length=k;refine⟨1+min k 8,?_,by omega⟩;split<;>omega
 obtain⟨m,hm,hm4⟩:=hj;refine⟨rfl,_,rfl,_,rfl,m,congrArg SV.int hm,⟨by omega,by omega⟩,?_⟩;refine p9 (i8 (hW _) _) (λi ρ S'=>∃ o1 o2 o3 o4 o5 o6 o7 o8,ρ=[some (.ro (ns.map SV.int)),o1,o2,o3,o4,o5,o6,o7,o8]) ⟨none,none,none,none,none,none,none,none,rfl⟩ (λ_ _ _ _=>trivial) ?_ ?_
 ·rintro i x ρ S hx ⟨o1,o2,o3,o4,o5,o6,o7,o8,rfl⟩;obtain⟨rfl,hi⟩:=j4 hx;rw[U7]at hi ⊢;refine⟨_,rfl,_,rfl,s31 10 h (by omega) λa b ha hb hb2=>?_⟩;have T1:TapeS (S++[SO.lst [.int a,.int b]]) S.length:=⟨a,b,e7,ha,hb,hb2⟩
  refine⟨_,rfl,_,rfl,s32 10 T1 (by decide) (by decide) λr S2 r0 rgt1 T2 O2 _=>?_⟩;refine s34 8 T2 λn es S3 Wb T3 O3=>?_;have el:=Wb.len;have few:=Wb.few;refine⟨_,rfl,_,rfl,s36 9 T3 (by omega) λk H cs S4 T4 O4 kl hk P bd H1=>?_⟩;have t3:=T3.lt;have cl:cs.length<=60:=by rw[P.len];omega
  generalize S.length=t at T1 T2 O2 T3 O3 T4 O4 t3 ⊢;refine⟨_,rfl,_,e8 hk,_,rfl,_,e8 (e6 hk),by show 2<=100000;decide,_,rfl,s32 10 T4.push.push (by decide) (by decide) λr S5 r0 rgt1 T5 O5 _=>?_⟩;have t4:=T4.lt;have h3:S5[k]?=some (SO.lst (natS cs)):=O5.keep _ _ (by omega) (e6 (e6 hk));have h4:S5[S4.length]?=some (SO.lst (natS cs)):=O5.keep _ _ (by omega) (e6 e7);have h5:=O5.keep _ _ (by rw[SY];show S4.length+1≠t;omega) (e7 (S:=S4++[SO.lst (natS cs)]) (o:=SO.lst [.loc S4.length,.tup (natS cs)]))
  have hh:∃ x,[SV.loc S4.length,.tup (natS cs)][r.toNat]?=some x/\HueL S5 x cs:=by
   have:r=0\/r=1:=by omega
   rcases this with rfl | rfl
   ·exact⟨_,rfl,HueL.loc h4⟩
   ·exact⟨_,rfl,HueL.tup⟩
  obtain⟨x,x1,x2⟩:=hh;obtain⟨r,rfl⟩:=UX r0;refine⟨_,_,e8 h5,j3 x1,?_⟩;refine⟨_,rfl,⟨by decide,by decide⟩,?_⟩;refine p9 (i8 (hW _) _) (λj ρ S'=>Gw S5 S'/\∃ o7 o8,ρ=[some (.ro (ns.map SV.int)),some (.int (i:Nat)),some (.loc t),some (i6 n es),some (.loc k),some (.int (H:Nat)),some x,o7,o8]) ⟨Gw.refl _,_,_,rfl⟩ (λ_ _ _ _=>trivial) ?_ ?_
  ·rintro j y ρ S6 hy ⟨G6,o7,o8,rfl⟩;exact NY (by omega) cl (G6.keep _ _ h3) (x2.grow G6) λo8 S' G'=>⟨G6.trans G',_,_,rfl⟩
  ·rintro ρ S6 ⟨G6,o7,o8,rfl⟩;refine⟨_,rfl,_,rfl,_,rfl,_,rfl,Lo P Wb.en (by omega) (by omega) (by omega) bd (G6.keep _ _ h3) (x2.grow G6) λS' G'=>⟨_,rfl,ifF rfl (g9 ?_)⟩⟩;exact⟨_,_,_,_,_,_,_,_,rfl⟩
 ·rintro ρ S ⟨o1,o2,o3,o4,o5,o6,o7,o8,rfl⟩;exact rfl
end Hue
namespace PySem.W.Fast
theorem tw17336725458045974254:True:=⟨⟩
theorem tw4762109530482674438:True:=⟨⟩
theorem tw17693358347604277920:True:=⟨⟩
theorem tw6796446827782087277:True:=⟨⟩
theorem tw12269958871937464223:True:=⟨⟩
theorem tw4117456716691940427:True:=⟨⟩
theorem tw358065993082081352:True:=⟨⟩
theorem tw16481663843845194727:True:=⟨⟩
theorem tw15853362620359413059:True:=⟨⟩
theorem tw2435430937041238939:True:=⟨⟩
theorem tw4976799646211087914:True:=⟨⟩
theorem tw5595563716718358529:True:=⟨⟩
theorem tw10978367093800298651:True:=⟨⟩
theorem tw1238086049187957613:True:=⟨⟩
theorem tw17841935176678891195:True:=⟨⟩
end PySem.W.Fast
namespace Hue
open PySem L2 Rf
noncomputable def j8(K:SU)(nm:Str)(i:Nat):Prop:=∃(f:W3) (od an:Option W3) (sl:Array (Option Vz)) (oc kV dc pm cd ct:Vz),PySem.W.nsIn K W9 nm=some (some (.ref f))/\K.lookup f=some ⟨oc,od,.func (PySem.W.fnOf nm nm (defArgs (top i)) (defBody (top i)) (defScope (top i)) .none kV dc pm an cd ct),sl⟩/\PySem.W.codeIn K cd nm=true/\PySem.W.keepIn K (.ref f)=true
theorem lnkK_mk{K:SU}{nm:Str}{i:Nat}{f:W3}{od an:Option W3}{sl:Array (Option Vz)}{oc kV dc pm cd ct:Vz}(a:PySem.W.nsIn K W9 nm=some (some (.ref f)))(l:K.lookup f=some ⟨oc,od,.func (PySem.W.fnOf nm nm (defArgs (top i)) (defBody (top i)) (defScope (top i)) .none kV dc pm an cd ct),sl⟩)(c:PySem.W.codeIn K cd nm=true)(k:PySem.W.keepIn K (.ref f)=true):j8 K nm i:=⟨f,od,an,sl,oc,kV,dc,pm,cd,ct,a,l,c,k⟩
theorem f8{K:SU}{h:Heap}{mg:Str->Option Vz}(X:K.In h)(G:h.Ns W9 mg)(D:Df){i:Nat}(x:j8 K D.name i)(e:D.st=top i)(b:∀(kV doc pm:Vz) (an:Option W3) (cdv ct:Vz) (us:List Vz),us.length=D.ps.length->bindArgs (PySem.W.fnOf D.name D.name (defArgs (top i)) (defBody (top i)) (defScope (top i)) .none kV doc pm an cdv ct) ⟨us,[]⟩=pure (D.ps.zip us)):PIn K mg D:=by
 obtain⟨_,_,_,_,_,_,_,_,_,_,a,l,c,k⟩:=x;exact⟨_,_,e▸Fd (st:=top i) l c k,PySem.W.mg_of X G a,k,(Fd (st:=top i) l c k).binds (ps:=D.ps) b⟩
theorem i3{P:Df->Prop}{D:Df}{l:List Df}(a:P D)(b:∀ x∈l,P x):∀ x∈D::l,P x:=List.forall_mem_cons.mpr ⟨a,b⟩
theorem all_mk{l:PySem.W.OpenLaw}{w:WC}{K:SU}{h:Heap}{mg:Str->Option Vz}{fa:W3}(X:K.In h)(G:h.Ns W9 mg)(hfa:mg "law"=some (.ref fa))
 (x0:j8 K "is_number" 7)
 (x1:j8 K "is_listed" 8)
 (x2:j8 K "has_place" 10)
 (x3:j8 K "has_tie" 11)
 (x4:j8 K "check_place" 12)
 (x5:j8 K "check_tie" 13)
 (x6:j8 K "ties_at" 14)
 (x7:j8 K "far_end" 15)
 (x8:j8 K "meets" 16)
 (x9:j8 K "is_hue" 18)
 (x10:j8 K "is_hueing" 19)
 (x11:j8 K "clash_of" 20)
 (x12:j8 K "hues_at" 21)
 (x13:j8 K "classes" 22)
 (x14:j8 K "tie_of_hue" 24)
 (x15:j8 K "check_unlike" 25)
 (x16:j8 K "row_from" 26)
 (x17:j8 K "exchanged" 27)
 (x18:j8 K "tie_has_hue" 29)
 (x19:j8 K "tie_lacks_hue" 30)
 (x20:j8 K "with_hues" 31)
 (x21:j8 K "after_hue" 32)
 (x22:j8 K "after_drop" 33)
 (x23:j8 K "after_move" 34)
 (x24:j8 K "after_row" 35)
 (x25:j8 K "after_step" 36)
 (x26:j8 K "done_step" 37)
 (x27:j8 K "sizes" 39)
 (x28:j8 K "row_with_more" 40)
 (x29:j8 K "evening_step" 41)
 (x30:j8 K "evened" 42)
 (x31:j8 K "_law_tape" 44)
 (x32:j8 K "_law_draw" 45)
 (x33:j8 K "_law_pairs_by" 46)
 (x34:j8 K "_law_web" 47)
 (x35:j8 K "_law_meet" 48)
 (x36:j8 K "_law_whole_row" 49)
 (x37:j8 K "_law_is_hueing" 50)
 (x38:j8 K "_law_even" 51)
 (x39:j8 K "_law_is_below" 52)
 (x40:j8 K "_law_same" 53)
 (x41:j8 K "_law_right" 54)
 (x42:j8 K "law" 55)
 (z0:PySem.W.nsIn K W9 "len"=some none)
 (z1:PySem.W.nsIn K W9 "abs"=some none)
 (z2:PySem.W.nsIn K W9 "min"=some none)
 (z3:PySem.W.nsIn K W9 "max"=some none)
 (z4:PySem.W.nsIn K W9 "int"=some none)
 (z5:PySem.W.nsIn K W9 "list"=some none)
 (z6:PySem.W.nsIn K W9 "tuple"=some none)
 (z7:PySem.W.nsIn K W9 "all"=some none)
 (z8:PySem.W.nsIn K W9 "any"=some none)
 (z9:PySem.W.nsIn K W9 "sorted"=some none)
 (z10:PySem.W.nsIn K W9 "isinstance"=some none)
 (z11:PySem.W.nsIn K W9 "str"=some none)
 (z12:PySem.W.nsIn K W9 "range"=some none)
 (z13:PySem.W.nsIn K W9 "enumerate"=some none)
 (z14:PySem.W.nsIn K W9 "zip"=some none)
 (z15:PySem.W.nsIn K W9 "set"=some none)
 (z16:PySem.W.nsIn K W9 "bool"=some none)
 (z17:PySem.W.nsIn K W9 "dict"=some none)
 (z18:PySem.W.nsIn K W9 "reversed"=some none)
 (z19:PySem.W.nsIn K W9 "repr"=some none)
 (z20:PySem.W.nsIn K W9 "sum"=some none)
 : ∃ fd:Wc,(∀(s:W4) (v:Vz),BindsTo s fd ⟨[v],[]⟩ [("_law_script",v)])/\∀ base:Heap,K.In base->base.Ns W9 mg->FnOk l.prog w K mg base CX0 12 fa fd ["_law_script"] (spS K (W prog 12 42)):=by
 have y:=x42;obtain⟨f42,od42,an42,sl42,oc42,kV42,dc42,pm42,cd42,ct42,a42,l42,c42,k42⟩:=x42;have e:=hfa.symm.trans (PySem.W.mg_of X G a42);cases e
 have B:Bl mg:=by
  refine⟨λb=>?_,Ss X G z12,Ss X G z13,Ss X G z18,Ss X G z14,Ss X G z20,Ss X G z15,Ss X G z17,λt ht=>?_⟩
  ·cases b with
   | len=>exact Ss X G z0
   | abs=>exact Ss X G z1
   | min=>exact Ss X G z2
   | max=>exact Ss X G z3
   | int=>exact Ss X G z4
   | list=>exact Ss X G z5
   | tuple=>exact Ss X G z6
   | all=>exact Ss X G z7
   | any=>exact Ss X G z8
   | sorted=>exact Ss X G z9
   | isi=>exact Ss X G z10
   | str=>exact Ss X G z11
   | repr=>exact Ss X G z19
  ·cases t with
   | int=>exact Ss X G z4
   | bool=>exact Ss X G z16
   | str=>exact Ss X G z11
   | list=>exact Ss X G z5
   | tuple=>exact Ss X G z6
   | none=>exact absurd rfl ht
 have hin:∀ D∈prog,PIn K mg D:=i3 (f8 X G d0 x0 rfl λ_ _ _ _ _ _=>L6 λ_=>rfl) (i3 (f8 X G d1 x1 rfl λ_ _ _ _ _ _=>L6 λ_=>rfl) (i3 (f8 X G d2 x2 rfl λ_ _ _ _ _ _=>AY λ_ _=>rfl) (i3 (f8 X G d3 x3 rfl λ_ _ _ _ _ _=>AY λ_ _=>rfl) (i3 (f8 X G d4 x4 rfl λ_ _ _ _ _ _=>AY λ_ _=>rfl) (i3 (f8 X G d5 x5 rfl λ_ _ _ _ _ _=>AY λ_ _=>rfl) (i3 (f8 X G d6 x6 rfl λ_ _ _ _ _ _=>AY λ_ _=>rfl) (i3 (f8 X G d7 x7 rfl λ_ _ _ _ _ _=>BR λ_ _ _=>rfl) (i3 (f8 X G d8 x8 rfl λ_ _ _ _ _ _=>BR λ_ _ _=>rfl) (i3 (f8 X G d9 x9 rfl λ_ _ _ _ _ _=>L6 λ_=>rfl) (i3 (f8 X G d10 x10 rfl λ_ _ _ _ _ _=>AY λ_ _=>rfl) (i3 (f8 X G d11 x11 rfl λ_ _ _ _ _ _=>AY λ_ _=>rfl) (i3 (f8 X G d12 x12 rfl λ_ _ _ _ _ _=>BR λ_ _ _=>rfl) (i3 (f8 X G d13 x13 rfl λ_ _ _ _ _ _=>AY λ_ _=>rfl) (i3 (f8 X G d14 x14 rfl λ_ _ _ _ _ _=>J2 λ_ _ _ _=>rfl) (i3 (f8 X G d15 x15 rfl λ_ _ _ _ _ _=>AY λ_ _=>rfl) (i3 (f8 X G d16 x16 rfl λ_ _ _ _ _ _=>Px λ_ _ _ _ _=>rfl) (i3 (f8 X G d17 x17 rfl λ_ _ _ _ _ _=>Px λ_ _ _ _ _=>rfl) (i3 (f8 X G d18 x18 rfl λ_ _ _ _ _ _=>BR λ_ _ _=>rfl) (i3 (f8 X G d19 x19 rfl λ_ _ _ _ _ _=>BR λ_ _ _=>rfl) (i3 (f8 X G d20 x20 rfl λ_ _ _ _ _ _=>BR λ_ _ _=>rfl) (i3 (f8 X G d21 x21 rfl λ_ _ _ _ _ _=>J2 λ_ _ _ _=>rfl) (i3 (f8 X G d22 x22 rfl λ_ _ _ _ _ _=>BR λ_ _ _=>rfl) (i3 (f8 X G d23 x23 rfl λ_ _ _ _ _ _=>J2 λ_ _ _ _=>rfl) (i3 (f8 X G d24 x24 rfl λ_ _ _ _ _ _=>Px λ_ _ _ _ _=>rfl) (i3 (f8 X G d25 x25 rfl λ_ _ _ _ _ _=>BR λ_ _ _=>rfl) (i3 (f8 X G d26 x26 rfl λ_ _ _ _ _ _=>BR λ_ _ _=>rfl) (i3 (f8 X G d27 x27 rfl λ_ _ _ _ _ _=>AY λ_ _=>rfl) (i3 (f8 X G d28 x28 rfl λ_ _ _ _ _ _=>J2 λ_ _ _ _=>rfl) (i3 (f8 X G d29 x29 rfl λ_ _ _ _ _ _=>BR λ_ _ _=>rfl) (i3 (f8 X G d30 x30 rfl λ_ _ _ _ _ _=>BR λ_ _ _=>rfl) (i3 (f8 X G d31 x31 rfl λ_ _ _ _ _ _=>AY λ_ _=>rfl) (i3 (f8 X G d32 x32 rfl λ_ _ _ _ _ _=>AY λ_ _=>rfl) (i3 (f8 X G d33 x33 rfl λ_ _ _ _ _ _=>AY λ_ _=>rfl) (i3 (f8 X G d34 x34 rfl λ_ _ _ _ _ _=>AY λ_ _=>rfl) (i3 (f8 X G d35 x35 rfl λ_ _ _ _ _ _=>BR λ_ _ _=>rfl) (i3 (f8 X G d36 x36 rfl λ_ _ _ _ _ _=>AY λ_ _=>rfl) (i3 (f8 X G d37 x37 rfl λ_ _ _ _ _ _=>AY λ_ _=>rfl) (i3 (f8 X G d38 x38 rfl λ_ _ _ _ _ _=>AY λ_ _=>rfl) (i3 (f8 X G d39 x39 rfl λ_ _ _ _ _ _=>BR λ_ _ _=>rfl) (i3 (f8 X G d40 x40 rfl λ_ _ _ _ _ _=>AY λ_ _=>rfl) (i3 (f8 X G d41 x41 rfl λ_ _ _ _ _ _=>J2 λ_ _ _ _=>rfl) (i3 (f8 X G d42 y rfl λ_ _ _ _ _ _=>L6 λ_=>rfl) (λ_ h=>nomatch h)))))))))))))))))))))))))))))))))))))))))));refine⟨PySem.W.fnOf "law" "law" (defArgs (top 55)) (defBody (top 55)) (defScope (top 55)) .none kV42 dc42 pm42 an42 cd42 ct42,λs v => .of_eq rfl,λbase _ _=>?_⟩
 exact L9 (P:=l.prog) (w:=w) (base:=base) (k:=11) (Δ:=W prog 11) (D:=d42) (Fd (st:=top 55) l42 c42 k42) (Sy.mp FQ d42 (Sh (show prog[42]?=some d42 from rfl))) B (λg x hx=>by
  rw[Sq]at hx;cases hg:prog[g]? with
  | none=>rw[hg]at hx;cases hx
  | some D'=>
    rw[hg]at hx;have:D'.name=x:=by simpa using hx
    subst this;exact⟨D'.ps,HY FQ B hin 11 g D' hg⟩) (CW 11)
theorem walkL{l:PySem.W.OpenLaw}{q:W8}{loose:List Str}{XP:(Str->Option Vz)->Heap->Prop}{YP:WC->Heap->Prop}{d:DefRec}{K:Params->SU}(hn:l.most=some 63)(hdf:d.params.defaults=[])
 (hY:∀(w:WC) (h:Heap),YP w h->(K w.params).In h)
 (F:∀(w:WC) (mg:Str->Option Vz) (fa:W3) (h:Heap),(K w.params).In h->h.Ns W9 mg->mg d.name=some (.ref fa)->
   ∃ fd:Wc,(∀(s:W4) (u:Vz),BindsTo s fd ⟨[u],[]⟩ [("_law_script",u)])/\∀ base:Heap,(K w.params).In base->base.Ns W9 mg->FnOk l.prog w (K w.params) mg base CX0 12 fa fd ["_law_script"] (spS (K w.params) (W prog 12 42))):
 PySem.W.WalkO q loose XP YP l.row.toRowW d [] (λf vs=>PySem.call f vs):=
 L2.walk_of (n:=63) (k:=12) (x:="_law_script") (CX:=λ_=>CX0) (sp:=λw=>spS (K w.params) (W prog 12 42)) hn (by decide) hdf ⟨rfl,by decide,by decide,rfl⟩ hY F (λ_ _ a ns hl hO hS=>Pz (law_main ns hl) hO hS) λ_ _ _ _ _ z=>z
end Hue
open PySem PySem.W PyProof.Rows
set_option maxRecDepth 100000 in
set_option maxHeartbeats 0 in
theorem PySem.Challenge.cw_huedties_k51_hues_made_even_holds : PySem.Challenge.rw_huedties_k51_hues_made_even.Holds := by
 w_on;o_law;k_head;(case hw=>w_witness2)
 k_fill
 refine Hue.walkL (l:=PySem.Challenge.rw_huedties_k51_hues_made_even) rfl rfl (λw h Y=>PySem.W.kIn_of Y) ?F
 case F=>
  intro w mg fa h KX G hmg;refine' Hue.all_mk KX G hmg ?_ ?_ ?_ ?_ ?_ ?_ ?_ ?_ ?_ ?_ ?_ ?_ ?_ ?_ ?_ ?_ ?_ ?_ ?_ ?_ ?_ ?_ ?_ ?_ ?_ ?_ ?_ ?_ ?_ ?_ ?_ ?_ ?_ ?_ ?_ ?_ ?_ ?_ ?_ ?_ ?_ ?_ ?_ ?_ ?_ ?_ ?_ ?_ ?_ ?_ ?_ ?_ ?_ ?_ ?_ ?_ ?_ ?_ ?_ ?_ ?_ ?_ ?_ ?_
  all_goals first | exact Hue.lnkK_mk (by k_is) (by k_is) (by k_is) (by k_is) | k_is
