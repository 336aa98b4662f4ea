import PyProof.Rows.All
import Wide.All
import OpenK.AllK
import Wide.FinOn
import Lean
import PyProof.EqAt
import PyProof.EqKinds
import PyProof.TupleCall
import PySem.Challenge.RW_sideloom_k51_live_and_kept
set_option Elab.async false
set_option linter.all false
set_option autoImplicit true
set_option hygiene false in
local macro_rules|`(($e,$es,*))=>`(⟨$e,$es,*⟩)
set_option maxRecDepth 100000
theorem HT{P:Prop}(h:∀G:Prop,(P->G)->G):P:=h P id
def on{a:V}:a=a:=rfl
def BT{p:Prop}(h:p:=by lia):p:=h
def Cl{p:Prop}(h:p:=by decide):p:=h
def Cr{p:Prop}(h:p:=by simp):p:=h
def Fr:True:=trivial
def U1:=@absurd
def U0:=@if_pos
def T9:=@if_neg
def A0{p:Prop}(h:p:=by first|exact .inl rfl|exact .inr rfl|assumption):p:=h
def H9{p:Prop}(h:p:=by repeat' (first|rfl|(refine λ _=>?_))):p:=h
def M1{p:Prop}(h:p:=by with_unfolding_all rfl):p:=h
def M2{p:Prop}(h:p:=by intro _;rfl):p:=h
def My{p:Prop}(h:p:=by intros;rfl):p:=h
def S2{p:Prop}(h:p:=by kernel_rfl):p:=h
def S6{p:Prop}(h:p:=by exact {}):p:=h
def Ty{p:Prop}(h:p:=by rfl):p:=h
set_option tactic.hygienic false
set_option compiler.extract_closed false
abbrev VS:=PySem.Value->PySem.Shared->Prop
abbrev LL:=List<|List Int
abbrev Yr:=List Int
abbrev LO:=List<|PySem.Addr×PySem.Obj
abbrev LA:=List<|PySem.Str×PySem.Addr
abbrev SV:=PySem.Str->Option PySem.Value
abbrev LV:=List PySem.Value
abbrev FG:=PySem.W.Frag
abbrev AV:=Array<|Option PySem.Value
abbrev OA:=Option PySem.Addr
open PySem.Str renaming ofString->Uf
open PySem.Value renaming ref->Ug,type->Uq,none->Us,builtin->UJ,bool->UW,int->Wu,str->Xw,isStrOf->XG,bytes->Yn,float->Yo
open PySem.Builtin.Range renaming rangeSize->Ul,small->UK
open Pure renaming pure->Uo
open False renaming elim->Uw
open PySem.NameKind renaming free->Ux,cell->XD
open PySem.Builtin.Tuple renaming tupleExact->Uy,tupleItemsOf->VN,tupleTooMany->VO,tupleIsExact->XA
open PySem.Builtin.List renaming listTooLong->UC,listLengthHint->UF,listExtendWith->UO,listFitsIndex->UR,listSameRef->Vi,listItems->Yl
open Sum renaming inr->UI,inl->VE
open PySem.SeqAt renaming EqAt->UN
open PySem.Builtin.Slice renaming slicePlaces->US,sliceAdjust->Vf,sliceApplied->VM,slicePartIndex->Xk,sliceFields->XT
open PySem.Builtin.SmallTypes renaming nextOf->UT,newRecord->Xl
open ForInStep renaming yield->Vz
open List renaming length_map->af,getD_eq_getElem?_getD->aG,getElem?_eq_some_iff->aP,mem_of_getElem?->aH,getElem?_eq_getElem->aZ,mem_singleton->aK,length_append->aQ,size_toArray->aY,mem_cons->aD,mem_cons_of_mem->bz,getElem?_map->bc,mem_cons_self->bn,mem_append_right->bO,take_of_length_le->ce,length_take->bp,getElem?_append_right->cS,getElem?_append_left->cU,map_append->bG,take_length->bP,getElem?_eq_none_iff->dG,length_range->bZ,mem_map->bg,getElem?_set_ne->du,getElem?_replicate->dY,mem_append->cy,getElem?_eq_none->eE,getElem?_set->da,length_drop->cW,not_mem_nil->cX,map_map->bV,getElem?_set_self->fD,length_set->cN,length_replicate->fE,map_cons->cB,all_cons->cD,mem_append_left->fk,lookup_cons->dM,replicate_succ->fF,length_singleton->hZ,append_nil->eR,flatten_cons->gF,eraseIdx_eq_take_drop_succ->nW,all_eq_true->gJ,eq_nil_of_length_eq_zero->nR,getElem?_range->ji,map_congr_left->jr,nodup_cons->gB,getElem?_of_mem->kg,any_eq_true->iq,take_add_one->jv,foldl_append->jw,mem_range->gw,mem_or_eq_of_mem_set->oy,mem_filter->gS,length_filter_le->mC,append_assoc->jJ,foldl_cons->iT,length_reverse->lO,set_eq_take_append_cons_drop->vD,length_mapIdx->mI,drop_eq_getElem_cons->qz,take_zero->jE,getElem?_take_of_lt->pH,map_const'->kE,filter_cons_of_pos->qH,filter_cons_of_neg->qI,getElem_mem->lG,pairwise_cons->nN,getElem?_reverse->pV,mem_iff_getElem?->qd,length_eraseIdx->rD,length_pos_iff->rO,set_eq_of_length_le->vU,forIn_cons->nL,range_succ->oi,flatten_replicate_singleton->Bu,length_pos_of_mem->wn,reverse_cons->pL,eraseIdxIfInBounds_toArray->xH,ext_getElem?->qL,take_append_drop->vp,cons_append->pY,isEmpty_iff->qB,take_append_of_le_length->Bc,getElem?_mapIdx->uJ,any_cons->mY,filterMap_cons->rY,of_mem_zip->pE,perm_append_singleton->AT,mem_filterMap->sB,contains_cons->um,getElem?_take->uZ,map_replicate->vK,filter_append->wb,getElem?_zip_eq_some->zA,length_eq_zero_iff->DV,drop_length->uU,nil_append->tJ,getElem?_toArray->yh,dropLast_eq_take->Af,any_append->s0a,map_set->s0b,mem_of_mem_drop->s0m,mem_of_mem_take->s0n,zip_cons_cons->s1o,getElem?_drop->s1p,replicate->TY,range->Ub,length_cons->Up,lookup->Uz,map->UL,length->Vd,length_nil->Wf,foldl->Wq,take_sublist->WC,map_reverse->WJ,perm_middle->WK,drop_zero->Xm,take_left->Xn,map_drop->XB,map_take->XC,all_map->XZ,any_map->Ya,map_nil->Yb,zipWith->Yc
open PySem renaming wpAny_bind->ae,wpAny_pure->aq,mem_of_lookup->dX,wpAny_newObj_type->dA,builtinLookup_eq_fast->fJ,wpAny_mono->cj,wpAny_holding->dH,wpAny_field->cV,typeLookup_type->fH,wpAny_truthy_bool->gz,wpAny_call_entry->gC,wpAny_Call_Name_kw->iP,wpAny_callSpecial?_slot->kR,wpAny_of_eq->fG,wpAny_specialOf->iV,wpAny_setField->iW,codeAny_call_builtin->nE,plainId_quiet->iX,call_meets->fZ,isSubtype_type->jM,codeAny_builtin->kY,wpAny_updateSeq->lg,wpAny_standAt->jG,wpAny_attempt->jL,wpAny_loadPart_at->nO,wpAny_seqItems->lh,sizeLine_eq->iO,wpAny_call->gZ,codeAny_mono->jI,wpAny_passesOwn->mP,wpAny_pyIter_tuple->pX,plainObj_wpAny_Assign_Attribute->yQ,wpAny_typeOf->kS,wpAny_isInstance->pR,wpAny_execs_nil->oY,wpAny_binaryOp_repeat_ref->xJ,wpAny_tryCatch->qk,noFill_tuple_add->sZ,wpAny_pyIter_rangeiter->wJ,wpAny_pyNext_range_end->wK,wpAny_storeName_local->wt,name_of_addr->pG,concat_meets->pJ,codeAny_handlers_test->yq,typeIs_int->s0d,wpAny_rule->s0e,wpAny_storeName_cell->s0f,codeAny_extend_loopS->s0j,fitsIndex_both->s0o,wpAny_loadPart->s0p,wpAny_handleBy_cons->s0v,wpAny_letGo->s0w,wpAny_isSubtype_exc->s0x,wpAny_pyIter_range->s1e,seq_tuple_add->s1g,nums_intItems->s1l,seqIndex_neg->s1t,seqIndex_of->s1x,numAt_eq->s2c,Addr->TQ,Shared->TR,wpAny->TU,sizeLine->TW,model->TX,mainGlobals->Ua,Stmt->Uc,starEach->Ud,Heap->Ue,Program->Uh,World->Ui,NameKind->Uj,Around->Uk,cellsFrom->Um,rawInt->Ur,compareOp->Ut,FuncData->Uu,binaryOp->UA,ExceptHandler->UB,backTo->UD,codeAny->UM,bootBuiltins->UP,swapsWith->UQ,typeLookup->UU,letOwnedTupleGo->UX,pyNext->UY,Paired->UZ,holding->Va,closureFor->Vb,behindInMarks->Vc,sliceBounds->Ve,wpAny_loadPart'->Vg,Arguments->Vh,noteFrame->Vk,updateSeq->Vl,builtinsNs->Vm,cLine->Vn,getItem->Vo,relabel->Vp,IsPart->Vq,bindC->Vr,bindL->Vs,InCallC->Vt,standAt->Vv,CmpOp->Vx,ExcBaseFacts->Vy,assign->VA,assignEach->VB,typeOf->VC,GenState->VD,bindArgs->VF,callerA->VG,firstArgMember->VH,TriplesOk->VJ,seqItems?->VL,attributeBase->VP,foldedSetIterable->VR,sysModules->VT,Keyword->VU,Within->VZ,Result->Wa,argsOk->Wb,checkBuiltinCall->Wc,seqIndex?->Wh,storeName->Wi,IsRangeIter->Wj,subscripted->Wk,BindsTo->Wl,ItemsOf->Wm,IntMulOk->Wp,Operator->Wr,swappedStores->Ws,swapsWithSole->Wt,cellOf->Wv,onTheHeap->Ww,pyIter->Wx,setFlight->Wy,execs->Wz,leaving->WA,list_append->WD,wpAny_pyIter_enum->WE,wpAny_pyIter_list->WF,wpAny_sequenceKey->WG,keywordEach->WH,seqSlot_of->WN,callGetattribute->WO,entryFor_of_tree->WP,pastItsLine_dict->WQ,rule->WR,wpAny_Try_except->WS,wpAny_execs_cons->WT,wpAny_lookBehind->WU,Meets->WW,Moved->WX,call->WZ,codeAny_of_tree->Xb,defaultsOf->Xc,field->Xd,pushCells_keeps->Xe,revObj->Xf,theTreesLotGoes->Xg,typeIs_str->Xh,wpAny_Name->Xi,wpAny_load->Xj,boundAndCalled->Xp,collect->Xq,newFunctionEnv->Xr,newList->Xt,recursionLimit->Xu,lastMarks->Xx,raiseStmt->Xy,call_list_seq->XH,comprehension->XJ,evalPart_none->XM,intBits_le_64->XO,wpAny_handled->XR,Drawn->XU,IsEnum->XY,backToKw->Yd,compEnvC->Ye,compPost->Yf,entryFor->Yg,handleBy->Yh,newExc->Yi,newTuple->Yj
open PySem.Heap renaming get?_push_of_some->aJ,lt_size->aF,get?_push_size->bJ,get?_update_other->dL,get?_update_self->fY,size_push->jK,get?_update_ne->s0y,SameBut->Vj,FlyingW->VX,ExtBut->Ym,push->Yp
open Nat renaming le_refl->ax,lt_of_lt_of_le->bH,le_of_ble_eq_true->cJ,ne_of_lt->bf,le_trans->cw,zero_le->cn,lt_succ_of_lt->eV,lt_irrefl->dU,lt_succ_self->ig,le_of_lt->fj,sub_self->iA,min_eq_left->lA,succ_le_succ->nj,ne_of_gt->kM,succ_pos->lH,zero_lt_succ->qm,le_succ->nh,succ_ne_self->tZ,lt_of_le_of_lt->s1j,add_sub_cancel->s1m,mul_comm->s1u,le_of_eq->s1v
open Bool renaming and_eq_true->bq,false_ne_true->dz,and_eq_true_iff->iZ,or_false->fX,eq_iff_iff->gY,or_eq_true->jq,false_eq_true->nM,and_false->lE,or_true->jP,false_or->kZ,eq_false_iff->pQ,false_and->pi,true_and->s1r,true->TK,false->TL,noConfusion->TN,not_eq_true'->WB,and_true->Xz
open Option.some renaming inj->bS
open PyProof.Rows renaming callWith_type1->gX,slot_tuple_getitem->pK,subscriptTail_builtinR->xv,entry_tuple_getitem->s0s,args_tuple_getitem->s1h,boot_reversed->s1k,len_tuple->s1y,envOfC->UE,AllBare->UV,IntsAre->Vu,IsTup->VI,subscriptTail->VQ,Call_->Wo,callWith_builtin1->WY,Subscript_->Xa,slicePart_none->Xv,getItem_tuple->XN,tupleItemsOf_->XQ,seqObj->Yk
open Option renaming isSome_iff_exists->iQ,map_eq_some_iff->jQ,isNone_iff_eq_none->lY,some->TJ,none->TM,map_some->Wg,bind_some->WL,getD_none->WM
open PySem.F renaming plainAttrs_list->kh,plain_max_loop->lB,slot_tuple_iterator_next->pW,excBase_ValueError->vj,args_tuple_add_2->tq,slot_list_extend->uX,entry_tuple_add->tm,slot_tuple_add->tj,typeOf_object_class->tQ,args_object_init_2->tS,args_tuple_iterator_next_1->yj,slot_int_rmul->pN,entry_tuple_iterator_next->yi,args_tuple_mul_2->uC,entry_tuple_mul->uB,slot_list_append->Ai,type_list_append->Aj,type_list_extend->Ak,slot_tuple_mul->uA,entry_max_loop->yG,slot_list_pop->Ag,type_list_pop->Ah,args_list_append_2->s0i,entry_list_append->s0t,plain_extend_loop->s0u,slot_list_append->s1i
open PySem.Obj renaming data_mapFields->im,isFreed_of_fields->nH,cls_mapFields->tU,mapFields->UG,mapSeq->UH
open Int renaming mul_le_mul_of_nonneg_left->ow,mul_le_mul_of_nonneg_right->qQ,fdiv_eq_ediv_of_nonneg->pr,toNat_of_nonneg->nU,emod_nonneg->oC,emod_lt_of_pos->qU,le_refl->jN,le_trans->mq,fmod_eq_emod_of_nonneg->wM,mul_ediv_self_le->s0l,mul_le_mul->s0q,mul_one->s0r,one_mul->s0z,natCast_nonneg->s1f,mul_assoc->s1q,toNat_natCast->TZ,ofNat->We,ediv_le_self->WI,ediv_nonneg->WV,ediv_one->XV,mul_comm->XW
open Ne renaming symm->bI
open Array renaming getElem?_eq_some_iff->nG,getElem?_toList->tH,getElem?_eq_getElem->yg,mem_toList_iff->s0g,toArray_toList->s0k,append_assoc->s1c,length_toList->Uv,toList->VW
open PySem.Around renaming under_plainId->nI,frames_deeper->s0h
open PySem.AutoSeq1 renaming wpAny_loadPart'->tY,idx_int->tX
open PySem.W renaming hideAll_get->kJ,cellsFrom_some->pF,looks_findIn->qp,callWith_K->pA,kia_one->lN,looks_clsIn->s1n,of_hideAll->s1s,mg_of->s2b,Frag->VY
open And renaming intro->gK
open True renaming intro->ja
open PySem.Calls renaming evalArgs_plain->tF,Name_function_global->wu,spliced_cons->sP,spliced_nil->sO,callWith_builtin->xA,Constant_str->s1d
open LawfulBEq renaming eq_of_beq->iR
open PySem.Heap.SameBut renaming update->tT
open PySem.PassesOwn renaming never->qE
open PySem.Code renaming quiet_builtin->tR
open PyProof renaming noPylong_of_log2->xN
open PySem.SeqAt.RcAt renaming lists_lengths->yT
open List.cons renaming inj->qj
open PySem.SeqAt.EqAt renaming int_str->s1a,str_int->s1b
open Sum.inr renaming inj->s1w
open PySem.W.Looks renaming now->s1z
open LawfulMonad renaming pure_bind->s2a
def au:=@of_decide_eq_true
def bA:=@decide_eq_false
def bC:=@decide_eq_true
def dB:=@decide_eq_true_eq
def bT:=@congrArg
def iL:=@of_decide_eq_false
def dJ:=@beq_iff_eq
def cO:=@or_false
def mK:=@beq_eq_false_iff_ne
def lj:=@beq_self_eq_true
def px:=@decide_eq_decide
def fW:=@if_true
def zy:=@decide_eq_false_iff_not
def u3:=@if_false
section
set_option compiler.extract_closed false
set_option hygiene false

set_option hygiene true
noncomputable section
set_option genInjectivity false
set_option genSizeOfSpec false
set_option genCtorIdx false
namespace _L
open PySem PySem.Spec PyProof.Rows
noncomputable abbrev YZ:=Sum Int Str
noncomputable def oX:YZ->Value->Bool
 |.inl k,v=>Value.isInt k v
 |.inr x,v=>XG x v
noncomputable def Eb(w:Ui):YZ->Int
 |.inl k=>hashInt k
 |.inr x=>hashStr w x
theorem gR:∀ {k:YZ}{v:Value},oX k v=TK->(∃i t,k=VE i/\v=Wu i t)\/(∃x t,k=UI x/\v=Xw x t)
 |.inl i,v,h=>by
  obtain⟨t,e⟩:=Value.isInt_shape (k:=i) (v:=v) h;exact .inl (i,t,on,e)
 |.inr x,v,h=>by
  obtain⟨t,e⟩:=Value.isStrOf_shape (x:=x) (v:=v) h;exact .inr (x,t,on,e)
def rQ(x:Str)(t:Tok):oX (.inr x) (.str x t)=TK:=by simp[oX,XG]
def Ec(a b:Int):decide ((VE a:YZ)=VE b)=(a == b):=by
 by_cases e:a=b
 .subst e;simp
 .have h:¬(VE a:YZ)=VE b:=λ q=>e<|Sum.inl.inj q;rw[bA h];exact(mK.mpr e).symm
def Ed(a b:Str):decide ((UI a:YZ)=UI b)=decide (a=b):=by
 by_cases e:a=b
 .subst e;simp
 .have h:¬(UI a:YZ)=UI b:=λ q=>e<|s1w q;rw[bA h,bA e]
def Ee(a:Int)(b:Str):decide ((VE a:YZ)=UI b)=TL:=bA (λ q=>nomatch q)
def Ef(a:Str)(b:Int):decide ((UI a:YZ)=VE b)=TL:=bA (λ q=>nomatch q)
def rV(S:Uh)(w:Ui):PySem.KeyKind S w YZ where
 is:=oX
 hash:=Eb w
 inj:=λ v a b N W=>by
  rcases gR N with ⟨i,t,rfl,rfl⟩|⟨x,t,rfl,rfl⟩
  .rcases gR W with ⟨j,u,rfl,e⟩|⟨y,u,rfl,e⟩
   .injection e with V _;rw[V]
   .exact nomatch e
  .rcases gR W with ⟨j,u,rfl,e⟩|⟨y,u,rfl,e⟩
   .exact nomatch e
   .injection e with V _;rw[V]
 byValue:=λ k v h=>by
  rcases gR h with ⟨i,t,rfl,rfl⟩|⟨x,t,rfl,rfl⟩<;>rfl
 pyHash:=λ T h=>by
  rcases gR T with ⟨i,t,rfl,rfl⟩|⟨x,t,rfl,rfl⟩
  .exact wpAny_pyHash_int h
  .exact wpAny_pyHash_str h
 eqBool:=λ A T h=>by
  rcases gR A with ⟨i,t,rfl,rfl⟩|⟨x,t,rfl,rfl⟩
  .rcases gR T with ⟨j,u,rfl,rfl⟩|⟨y,u,rfl,rfl⟩
   .rw[Ec] at h;exact wpAny_eqBool_int h
   .rw[Ee] at h;exact s1a i t y u _ _ _ _ h
  .rcases gR T with ⟨j,u,rfl,rfl⟩|⟨y,u,rfl,rfl⟩
   .rw[Ef] at h;exact s1b x t j u _ _ _ _ h
   .rw[Ed] at h;exact wpAny_eqBool_str h
 «strs»:=λ k x t v h=>by
  rcases gR h with ⟨i,u,rfl,e⟩|⟨y,u,rfl,e⟩
  .exact nomatch e
  .injection e with V _
   subst V;cases v<;>rfl
set_option genInjectivity true in
set_option genSizeOfSpec true in
set_option genCtorIdx true in
inductive V where
 |non|bl (b:Bool)|int (i:Int)|str (x:Str)|byt (b:Array UInt8)|flt (b:UInt64)|ref (a:TQ)|ty (n:String)
 deriving DecidableEq
def RelV:V->Value->Prop
 |.non,u=>u=Us
 |.bl b,u=>u=UW b
 |.int i,u=>∃t,u=Wu i t
 |.str x,u=>∃t,u=Xw x t
 |.byt b,u=>∃t,u=Yn b t
 |.flt b,u=>∃t,u=Yo b t
 |.ref a,u=>u=Ug a
 |.ty n,u=>u=Uq n
abbrev Vals:List V->LV->Prop:=UZ RelV
def Vals.length(r:Vals Y Z):Y.length=Z.length:=Paired.length r
theorem Vals.get:∀ {T:List V}{S:LV}{i:Nat}{x:V},Vals T S->T[i]?=TJ x->∃u,S[i]?=TJ u/\RelV x u
 |_,_,_,_,.nil,e=>by simp at e
 |_,_,0,_,.cons r _,e=>by simp at e;subst e;exact(_,rfl,r)
 |_,_,i+1,x,.cons _ t,e=>by
  obtain⟨u,W,N⟩:=Vals.get (i:=i) (x:=x) t (by simpa using e);exact(u,by simpa using W,N)
theorem Vals.set(r:RelV x u):∀ {T:List V}{S:LV}(i:Nat),Vals T S->Vals (T.set i x) (S.set i u)
 |_,_,_,.nil=>.nil
 |_,_,0,.cons _ t=>.cons r t
 |_,_,i+1,.cons q t=>.cons q (Vals.set r i t)
def Vals.append(r:Vals U Z)(s:Vals J Y):Vals (U++J)<|Z++Y:=by
 induction r with
 |nil=>exact s
 |cons r _ V=>exact .cons r V
theorem Vals.take:∀ {T:List V}{S:LV}(n:Nat),Vals T S->Vals (T.take n) (S.take n)
 |_,_,0,_=>.nil
 |_,_,_+1,.nil=>.nil
 |_,_,n+1,.cons r t=>.cons r (Vals.take n t)
theorem Vals.drop:∀ {T:List V}{S:LV}(n:Nat),Vals T S->Vals (T.drop n) (S.drop n)
 |_,_,0,r=>r
 |_,_,_+1,.nil=>.nil
 |_,_,n+1,.cons _ t=>Vals.drop n t
def RelO:Option V->Option Value->Prop
 |some v,TJ u=>RelV v u
 |none,TM=>True
 |_,_=>False
def KV{S:Type}:List (S×V)->List (S×Value)->Prop:=UZ λ(p:S×V) (q:S×Value)=>p.1=q.1/\RelV p.2 q.2
noncomputable def kV:YZ->V
 |.inl i=>.int i
 |.inr x=>.str x
set_option genSizeOfSpec true in
inductive HO where
 |lst (xs:List V)
 |tup (xs:List V)
 |dK (kvs:List<|YZ×V)|dT (kvs:List<|List YZ×V)
 |set (S:Int->Bool) (n:Nat)
 |ins (C dx:TQ) (fs:List<|Str×V)
 |own (x:TQ)
 |xd (fs:List<|Str×V)
 |met (f x:TQ)
 |rng (lo hi:Int)
 |frz (o:Obj) (u:HO)
 |tbl (ps:Array Value)
 |ext (φ:Ue->Prop)
noncomputable def HO.ctorIdx(t:HO):Nat:=t.casesOn (λ _=>0) (λ _=>1) (λ _=>2) (λ _=>3) (λ _ _=>4) (λ _ _ _=>5) (λ _=>6) (λ _=>7) (λ _ _=>8) (λ _ _=>9) (λ _ _=>10) (λ _=>11) (λ _=>12)
noncomputable abbrev Hp:=TQ->Option HO
noncomputable def Yu(H:Hp)(a:TQ)(o:HO):Hp:=λ b=>if b=a then TJ o else H b
def bB:Yu H a o a=TJ o:=by unfold Yu;rw[U0 rfl]
def av{a b:TQ}(h:b≠a):Yu H a o b=H b:=by unfold Yu;rw[T9 h]
def kI{H:Hp}(h:H a=TJ o)(V:H b=TM):a≠b:=by
 intro e;subst e;rw[h] at V;cases V
def TupO(h:Ue)(a:TQ)(V:Array Value):Prop:=∃o,h.get? a=TJ o/\(o.cls=.type "tuple" /\ ∃n,o.data=.seq V n)/\o.dict=TM
def TupO.new(h:Ue)(V:Array Value):TupO (h.push { cls:=.type "tuple",data:=.seq V }) h.objs.size V:=(_,bJ _ rfl,(rfl,0,rfl),rfl)
def TupO.tup(t:TupO h a Z):VI h a Z:=let ⟨o,e,(c,n,d),_⟩:=t;(o,e,c,n,d)
def TupO.lt(t:TupO h a Z):a<h.objs.size:=t.tup.lt
section
variable (P:Uh)(w:Ui)
def ObjOk(H:Hp)(h:Ue)(a:TQ):HO->Prop
 |.lst A=>A.length<=TW/\∃(T:LV) (n:Nat),Vals A T/\h.get? a=TJ { cls:=.type "list",data:=.seq T.toArray n }
 |.tup A=>A.length<=TW/\∃T:LV,Vals A T/\TupO h a T.toArray
 |.dK N=>N.length<=TW/\(a == VT)=TL/\∃vs,KV N vs/\h.DictOf (rV P w) a vs
 |.dT N=>N.length<=TW/\(a == VT)=TL/\∃A:List<|List YZ×TQ×Value,
   UZ (λ(p:List YZ×V) (q:List YZ×TQ×Value)=>p.1=q.1/\H q.2.1=TJ (.tup<|p.1.map kV)/\RelV p.2 q.2.2) N A /\
   ∃o j c,h.get? a=TJ o/\o.ExactDict/\o.data=.dict j c/\j.toList=A.map (entryOfKey<|tupleKind<|rV P w)/\(A.map (·.1)).Nodup
 |.set S n=>h.SetOf (intKind P w) a S n
 |.ins C z F=>H z=TJ (.own a)/\F.length<=1000/\z≠a/\h.get? a=TJ (W.instObj C z) /\
   ∃K,h.Ns1 z K/\(∀f,RelO (F.lookup f) (K f))/\VZ K (F.map (·.1))
 |.own _=>∃o,h.get? a=TJ o
 |.xd F=>∃K,h.Ns1 a K/\∀f,RelO (F.lookup f) (K f)
 |.rng lo k=>∃t u v,h.get? a=TJ { cls:=.type "range",data:=.fields #[.int lo t,.int k u,.int 1 v] }
 |.frz o u=>h.get? a=TJ o/\ObjOk H h a u
 |.tbl m=>h.get? a=TJ { cls:=.none,data:=.fields m }
 |.met f x=>h.get? a=TJ (W.methodObj (.ref f)<|.ref x)
 |.ext y=>y h/\(∃o,h.get? a=TJ o)/\∀g d:Ue,y g->(∀o,g.get? a=TJ o->d.get? a=TJ o)->y d
def HOk(H:Hp)(h:Ue):Prop:=∀a o,H a=TJ o->ObjOk P w H h a o
end
section
variable {Y:Hp}{Z:Ue}{a:TQ}
def ObjOk.lt(x:ObjOk P w H h a o):a<h.objs.size:=by
 cases o with
 |lst W=>obtain⟨_,_,_,_,e⟩:=x;exact aF e
 |tup W=>obtain⟨_,_,_,p⟩:=x;exact p.lt
 |dK V|dT V=>obtain⟨_,_,_,_,o,_,_,e,_⟩:=x;exact aF e
 |set S n=>obtain⟨o,_,_,_,e,_⟩:=x;exact aF e
 |ins C N T=>obtain⟨_,_,_,e,_⟩:=x;exact aF e
 |own y=>obtain⟨_,e⟩:=x;exact aF e
 |xd T=>obtain⟨_,⟨_,_,_,e,_⟩,_⟩:=x;exact aF e
 |rng lo A=>obtain⟨_,_,_,e⟩:=x;exact aF e
 |frz K u=>obtain⟨e,_⟩:=x;exact aF e
 |tbl F|met f y=>exact aF (show h.get? a=TJ _ from x)
 |ext z=>obtain⟨_,⟨_,e⟩,_⟩:=x;exact aF e
def Paired.mapP{T W:Type}{F G:T->W->Prop}{V:List T}{S:List W}(r:UZ F V S)(f:∀a b,F a b->G a b):UZ G V S:=by
 induction r with
 |nil=>exact .nil
 |cons r _ N=>exact .cons (f _ _ r) N
theorem ObjOk.stay(x:ObjOk P w H h a o)(k:∀b u,(b=a\/H b=TJ (.own a))->h.get? b=TJ u->Z.get? b=TJ u)
  (J:∀b,H b=TJ (.own a)->Y b=TJ (.own a)) (L:∀b j,H b=TJ (.tup j)->Y b=TJ (.tup j)):ObjOk P w Y Z a o:=by
 induction o with
 |lst j=>obtain⟨z,F,n,r,e⟩:=x;exact(z,F,n,r,k _ _ (.inl rfl) e)
 |tup j=>obtain⟨z,F,r,T,e,c⟩:=x;exact(z,F,r,T,k _ _ (.inl rfl) e,c)
 |dK g=>obtain⟨z,y,vs,r,T,A,N,e,c⟩:=x;exact(z,y,vs,r,T,A,N,k _ _ (.inl rfl) e,c)
 |dT g=>
  refine HT λ K V=>?_;obtain⟨z,y,j,r,T,A,N,e,c⟩:=x;refine V ?_;clear V K;exact(z,y,j,Paired.mapP r λ p q z=>(z.1,L _ _ z.2.1,z.2.2),T,A,N,k _ _ (.inl rfl) e,c)
 |set S n=>obtain⟨T,A,N,t,e,c⟩:=x;exact(T,A,N,t,k _ _ (.inl rfl) e,c)
 |ins C G U=>
  refine HT λ K V=>?_;obtain⟨d,z,B,e,m,⟨s,A,N,l,c⟩,r⟩:=x;refine V ?_;clear V K;exact(J _ d,z,B,k _ _ (.inl rfl) e,m,(s,A,N,k _ _ (.inr d) l,c),r)
 |own y=>obtain⟨T,e⟩:=x;exact(T,k _ _ (.inl rfl) e)
 |xd U=>obtain⟨m,⟨s,A,N,e,c⟩,r⟩:=x;exact(m,(s,A,N,k _ _ (.inl rfl) e,c),r)
 |rng lo E=>obtain⟨t,u,v,e⟩:=x;exact(t,u,v,k _ _ (.inl rfl) e)
 |frz T u D=>obtain⟨e,q⟩:=x;exact(k _ _ (.inl rfl) e,D q)
 |tbl i=>
  have e:h.get? a=TJ { cls:=.none,data:=.fields i }:=x;show Z.get? a=TJ { cls:=.none,data:=.fields i };exact k a _ (.inl rfl) e
 |met f y=>
  have e:h.get? a=TJ (W.methodObj (.ref f)<|.ref y):=x;show Z.get? a=TJ (W.methodObj (.ref f)<|.ref y);exact k a _ (.inl rfl) e
 |ext M=>obtain⟨p,⟨o,e⟩,st⟩:=x;exact(st _ _ p λ o q=>k _ _ (.inl rfl) q,(o,k _ _ (.inl rfl) e),st)
def HOk.lt(x:HOk P w H h)(e:H a=TJ o):a<h.objs.size:=(x a o e).lt
def HOk.fresh(x:HOk P w H h)(e:h.objs.size<=a):H a=TM:=by
 cases q:H a with
 |none=>rfl
 |some u=>exact U1 (bH (x.lt q) e)<|dU _
def HOk.kept(x:HOk P w H h)(k:∀b u,h.get? b=TJ u->Z.get? b=TJ u):HOk P w H Z:=λ a o e=>
 (x a o e).stay (λ b u _ q=>k b u q) (λ _ q=>q) λ _ _ q=>q
def HOk.laid(x:HOk P w H h)(k:∀b u,h.get? b=TJ u->Z.get? b=TJ u)(W:h.objs.size<=a)(V:ObjOk P w (Yu H a o) Z a o):HOk P w (Yu H a o) Z:=λ b u e=>by
 have T:=x.fresh W;by_cases S:b=a
 .subst S;rw[bB] at e;cases e;exact V
 .rw[av S] at e;exact(x b u e).stay (λ c v _ q=>k c v q) (λ c q=>by rw[av<|kI q T];exact q) λ c N q=>by rw[av<|kI q T];exact q
end
def Rd(H:Hp)(a:TQ)(u:HO):Prop:=H a=TJ u\/∃o,H a=TJ (.frz o u)
def Rd.ok(r:Rd H a u)(x:HOk P w H h):ObjOk P w H h a u:=by
 rcases r with r|⟨o,r⟩
 .exact x a u r
 .obtain⟨_,q⟩:=x a _ r;exact q
def D9:Option HO->Prop
 |some (.lst _)=>True
 |some (.dK _)=>True
 |some (.dT _)=>True
 |some (.set _ _)=>True
 |some (.ins _ _ _)=>True
 |some (.ext _)=>True
 |_=>False
section
variable {h':Ue}{e:TQ}
theorem HOk.write(m:HOk P w H h)(A:D9<|H x)(g:e=x\/H e=TJ (.own x))(k:∀b u,b≠e->h.get? b=TJ u->h'.get? b=TJ u)(F:∃u,h'.get? e=TJ u)
  (j:ObjOk P w (Yu H x Z) h' x Z):HOk P w (Yu H x Z) h':=λ b u q=>by
 have S:∀c y,H c=TJ (.own y)->c≠x:=λ c y r z=>by subst z;rw[r] at A;exact A
 have T:∀c K,H c=TJ (.tup K)->c≠x:=λ c K r z=>by subst z;rw[r] at A;exact A
 by_cases W:b=x
 .subst W;rw[bB] at q;cases q;exact j
 .rw[av W] at q;by_cases V:b=e
  .have d:H b=TJ (.own x):=by
    rcases g with z|z
    .exact U1 (V.trans z) W
    .rw[V];exact z
   rw[q] at d;cases d;obtain⟨v,o⟩:=F;exact(v,by rw[V];exact o)
  .refine(m b u q).stay (λ c v N r=>k c v ?_ r) (λ c r=>by rw[av<|S c b r];exact r) λ c K r=>by rw[av<|T c K r];exact r
   rcases N with rfl|N
   .exact V
   .rintro rfl
    rcases g with z|z
    .exact S c b N z
    .rw[N] at z;cases z;exact W rfl
end
structure Un (fs ex:List TQ)(H H':Hp)(h h':Ue):Prop where
 keep:∀b o,h.get? b=TJ o->H b=TM->b ∉ fs->b ∉ ex->h'.get? b=TJ o
 slot:∀b o,h.get? b=TJ o->H b=TM->b∈fs->b ∉ ex->∃sl,h'.get? b=TJ { o with slots:=sl }
 free:∀b o,h.get? b=TJ o->H b=TM->b ∉ ex->H' b=TM
 there:∀b o,h.get? b=TJ o->b ∉ ex->∃o',h'.get? b=TJ o'
 tups:∀b xs,H b=TJ (.tup xs)->H' b=TJ (.tup xs)
 frzs:∀b o u,H b=TJ (.frz o u)->H' b=TJ (.frz o u)
 tbls:∀b ps,H b=TJ (.tbl ps)->∃more,H' b=TJ (.tbl<|ps++more)
section
variable {H:Hp}{h h':Ue}{a e:TQ}
def Un.any(u:Un U Y H D h J){b:TQ}(q:h.get? b=TJ Z)(n:H b=TM)(S:b ∉ Y):∃L,J.get? b=TJ { Z with slots:=L }:=by
 by_cases V:b∈U
 .exact u.slot b Z q n V S
 .exact(Z.slots,u.keep b Z q n V S)
def Un.kept(k:∀b u,h.get? b=TJ u->h'.get? b=TJ u):Un Y Z H H h h' :=
 (λ b V q _ _ _=>k b V q,λ b V q _ _ _=>(V.slots,k b V q),λ _ _ _ n _=>n,λ b V q _=>(V,k b V q),λ _ _ q=>q,λ _ _ _ q=>q,λ _ S q=>(#[],by rw[q];simp))
def Un.refl:Un Y Z H H h h:=Un.kept λ _ _ q=>q
theorem Un.laid(k:∀b u,h.get? b=TJ u->h'.get? b=TJ u)(S:h.objs.size<=a)(V:H a=TM):Un Y Z H (Yu H a o) h h' where
 keep:=λ b u q _ _ _=>k b u q
 slot:=λ b u q _ _ _=>(u.slots,k b u q)
 free:=λ b u q n _=>by rw[av<|bf<|bH (aF q) S];exact n
 there:=λ b u q _=>(u,k b u q)
 tups:=λ b T q=>by rw[av<|kI q V];exact q
 frzs:=λ b u T q=>by rw[av<|kI q V];exact q
 tbls:=λ b W q=>(#[],by rw[av<|kI q V,q];simp)
def Un.write(S:D9<|H x)(K:e=x\/H e=TJ (.own x))(k:∀b u,b≠e->h.get? b=TJ u->h'.get? b=TJ u)(T:∃u,h'.get? e=TJ u):Un Y Z H (Yu H x o) h h':=by
 have A:∀b,H b=TM->b≠x:=λ b n z=>by subst z;rw[n] at S;exact S
 have N:∀b,H b=TM->b≠e:=λ b n z=>by
  subst z
  rcases K with r|r
  .exact A b n r
  .rw[n] at r;cases r
 have W:∀b u,H b=TJ u->¬D9 (TJ u)->b≠x:=λ b u q F z=>by subst z;rw[q] at S;exact F S
 refine(λ b u q n _ _=>k b u (N b n) q,λ b u q n _ _=>(u.slots,k b u (N b n) q),λ b u q n _=>by rw[av<|A b n];exact n,λ b u q _=>?_,
  λ b y q=>by rw[av<|W b _ q λ z=>z];exact q,λ b u y q=>by rw[av<|W b _ q λ z=>z];exact q,λ b v q=>(#[],by rw[av<|W b _ q λ z=>z,q];simp))
 by_cases V:b=e
 .subst V;exact T
 .exact(u,k b u V q)
end
noncomputable def Zz(h:Ue)(H:Hp):List TQ:=(Ub h.objs.size).filter λ a=>(H a).isSome
def fU(h:Ue)(H:Hp):Ue:=W.hideAll h<|Zz h H
def Eg(h:Ue)(H:Hp):(fU h H).objs.size=h.objs.size:=W.hideAll_size _ _
def Eh{h:Ue}{H:Hp}{b:TQ}(e:h.get? b=TJ o)(n:H b=TM):(fU h H).get? b=TJ o :=
 kJ _ e λ V=>by
  have q:(H b).isSome=TK:=(gS.mp V).2;rw[n] at q;simp at q
def wo{b:TQ}(e:(fU h H).get? b=TJ o):h.get? b=TJ o/\H b=TM:=by
 have V:h.get? b=TJ o:=s1s (Zz h H) e;refine(V,?_)
 cases q:H b with
 |none=>rfl
 |some x=>
  have S:b∈Zz h H:=gS.mpr (gw.mpr<|aF V,by simp[q]);have z:(fU h H).get? b=TM:=W.hideAll_none (Zz h H) S;rw[z] at e;cases e
noncomputable def Ei(g h:Ue)(L:TQ):LO:=(Ub h.objs.size).filterMap λ a=>if a=L\/(g.get? a).isSome=TK then TM else (h.get? a).map λ o=>(a,o)
def rest(g h:Ue)(L d:TQ):LO:=(Ei g h L).filter λ p=>decide<|p.1≠d
structure Mod (K:FG)(mg:SV)(base:Ue):Prop where
 kin:K.In base
 glob:base.Ns Ua mg
 blt:∃mb,base.Ns Vm mb/\∀x:Str,x ≠ "__name__" -> mb x=UP x
 nolimit:base.NoLimit
structure Cx where
 prog:Uh
 w:Ui
 K:FG
 mg:SV
 base:Ue
 A:Uk
 N:List Str
 s₀:TR
 H₀:Hp
 env:Env
 outer:List Env
 stack:List Env
 ex:List TQ
 fn:Str->Bool
 calm:Bool
 pn:LO
 xe:VS
noncomputable def YF(l:List Env):List TQ:=l.filterMap (·.frame)
abbrev Cx.fs(X:Cx):List TQ:=YF X.outer
def l5(V:Scope)(x:Str):Prop:=V.names.lookup x=TJ .local\/V.names.lookup x=TJ .cell\/V.names.lookup x=TJ .free
def ZO(V:Scope)(x:Str):Prop:=V.names.lookup x=TJ .local\/V.names.lookup x=TJ .cell
def wp(V:Env)(h:Ue)(m:SV)(x:Str)(u:Value):Prop :=
 (V.kindOf x=TJ .local/\m x=TJ u)\/((V.kindOf x=TJ .cell\/V.kindOf x=TJ .free)/\∃c,V.cells.lookup x=TJ c/\h.IsCell c (TJ u))
structure Cx.Ok (X:Cx):Prop where
 mod:Mod X.K X.mg X.base
 kind:X.env.scope.kind=.function
 glob:X.env.globals=Ua
 blt:X.env.builtins=Vm
 above:X.s₀.heap.objs.size<=X.env.locals
 inj:∀x y c,X.env.cells.lookup x=TJ c->X.env.cells.lookup y=TJ c->x=y
 has:∀x,(X.env.kindOf x=TJ .cell\/X.env.kindOf x=TJ .free)->∃c,X.env.cells.lookup x=TJ c
 cab:∀x c,X.fn x=TK->X.env.cells.lookup x=TJ c->X.s₀.heap.objs.size<=c
 hd:X.calm=TK->X.A.handled=TM
 frames:X.A.frames=TJ X.stack
 stk:X.stack=X.outer\/(X.stack=X.env::X.outer/\X.env.frame=TJ X.env.locals)
 exf:∀b∈X.ex,b≠X.env.locals/\∀x c,X.env.cells.lookup x=TJ c->c≠b
 bs:∀b o,X.base.get? b=TJ o->X.s₀.heap.get? b=TJ o/\X.H₀ b=TM
 bsz:X.base.objs.size<=X.s₀.heap.objs.size
 noex:∀b o,X.base.get? b=TJ o->b ∉ X.ex
 exfs:∀b∈X.ex,b ∉ X.fs
 funs:X.s₀.heap.FunFrames X.base X.outer
 frf:∀b∈X.fs,X.H₀ b=TM
structure Inv (X:Cx)(Yq:LO)(σ:List<|Option V)(H:Hp)(s:TR):Prop where
 ok:X.Ok
 os:s.os=X.s₀.os
 bare:UV s.gens
 base:Un X.fs X.ex X.H₀ H X.s₀.heap s.heap
 loc:∃m,s.heap.Ns X.env.locals m/\∀(i:Nat) (x:Str) (v:V),X.N[i]?=TJ x->σ[i]?=TJ (TJ v)->l5 X.env.scope x->∃u,RelV v u/\wp X.env s.heap m x u
 cell:∀x c,X.env.cells.lookup x=TJ c->∃v,s.heap.IsCell c v
 free:H X.env.locals=TM
 freeC:∀x c,X.env.cells.lookup x=TJ c->H c=TM
 pin:∀p∈X.pn++Yq,s.heap.get? p.1=TJ p.2/\H p.1=TM/\p.1≠X.env.locals/\p.1 ∉ X.fs/\∀v,p.2.data≠.cell v
 hok:HOk X.prog X.w H s.heap
 len:σ.length=X.N.length
variable {X:Cx}
section
variable {Z:Hp}{h':Ue}
def Cx.Ok.nofr(S:X.Ok){b:TQ}(e:X.base.get? b=TJ o):b ∉ X.fs:=λ V=>by
 have:=(S.funs.mem V).1;rw[e] at this;cases this
def Inv.bs(I:Inv X Y U H s):∀b o,X.base.get? b=TJ o->s.heap.get? b=TJ o/\H b=TM:=λ b o e=>
 (I.base.keep b o (I.ok.bs b o e).1 (I.ok.bs b o e).2 (I.ok.nofr e)<|I.ok.noex b o e,I.base.free b o (I.ok.bs b o e).1 (I.ok.bs b o e).2<|I.ok.noex b o e)
def Inv.bk(I:Inv X Y U H s):∀b o,X.base.get? b=TJ o->s.heap.get? b=TJ o:=λ b o e=>(I.bs b o e).1
def Inv.mod(I:Inv X Y U H s):Mod X.K X.mg X.base:=I.ok.mod
def Inv.kIn(I:Inv X Y U H s):X.K.In s.heap:=I.ok.mod.kin.keeps I.bk
def Inv.lt(I:Inv X Y U H s):X.env.locals<s.heap.objs.size:=let ⟨_,V,_⟩:=I.loc;V.lt
def Inv.sz(I:Inv X Y U H s):X.s₀.heap.objs.size<=s.heap.objs.size:=cw I.ok.above<|fj I.lt
def Inv.nofs(I:Inv X Y U H s){a:TQ}(h:s.heap.objs.size<=a):a ∉ X.fs:=λ V=>by
 obtain⟨_,o,S,_⟩:=I.ok.funs.mem V;exact U1 (bH (aF S)<|cw I.sz h)<|dU _
def Inv.cne(I:Inv X Y U H s):∀x c,X.env.cells.lookup x=TJ c->c≠X.env.locals:=λ x c e z=>by
 refine HT λ S V=>?_;obtain⟨v,o,A,N⟩:=I.cell x c e;obtain⟨m,⟨y,F,K,W,T,_⟩,_⟩:=I.loc;refine V ?_;clear V S;rw[z,W] at A;cases A;rw[T] at N;cases N
def Inv.funs(I:Inv X Y U H s):s.heap.FunFrames X.base X.outer:=by
 have T:∀(l:List Env),(∀b∈YF l,b∈X.fs)->X.s₀.heap.FunFrames X.base l->s.heap.FunFrames X.base l:=by
  intro l
  induction l with
  |nil=>intro _ _;trivial
  |cons F r k=>
   intro K j;refine HT λ S V=>?_;obtain⟨v,⟨L,o,A,g,d,y⟩,c⟩:=j;refine V ?_;clear V S;have W:L∈X.fs:=K L (by unfold YF;rw[rY,A];exact bn);obtain⟨m,e⟩:=I.base.slot L o d (I.ok.frf L W) W λ z=>I.ok.exfs L z W;exact(v,(L,_,A,g,e,y),k (λ b N=>K b<|by unfold YF;rw[rY,A];exact bz _ N) c)
 exact T X.outer (λ _ N=>N) I.ok.funs
def Inv.stack(I:Inv X Y U H s):s.heap.FunFrames X.base X.stack:=by
 rcases I.ok.stk with e|⟨e,V⟩
 .rw[e];exact I.funs
 .rw[e];obtain⟨m,S,_⟩:=I.loc;refine .cons (by rw[I.ok.kind];decide) V S ?_ I.funs;exact Heap.get?_none_of_le<|cw I.ok.bsz I.ok.above
def Inv.stkSub(I:Inv X Y U H s):∀b∈YF X.stack,b∈X.env.locals::X.fs:=λ b V=>by
 rcases I.ok.stk with e|⟨e,S⟩
 .rw[e] at V;exact bz _ V
 .rw[e] at V;unfold YF at V;rw[rY,S] at V;exact V
def Inv.stkFree(I:Inv X Y U H s):∀b∈YF X.stack,H b=TM:=λ b V=>by
 rcases aD.mp (I.stkSub b V) with e|V
 .rw[e];exact I.free
 .obtain⟨_,o,S,_⟩:=I.ok.funs.mem V;exact I.base.free b o S (I.ok.frf b V) λ z=>I.ok.exfs b z V
theorem Inv.step{t':Nat}{d':XU}{ch:List TQ}(I:Inv X R σ H s)
  (T:∀b∈ch,(b∈X.ex\/X.s₀.heap.objs.size<=b)/\b≠X.env.locals/\(∀x c,X.env.cells.lookup x=TJ c->c≠b)/\∀p∈X.pn++R,p.1≠b)
  (W:∀b o,b≠X.env.locals->b ∉ X.fs->b ∉ ch->s.heap.get? b=TJ o->H b=TM->h'.get? b=TJ o)
  (F:∀b o,b≠X.env.locals->b∈X.fs->b ∉ ch->s.heap.get? b=TJ o->H b=TM->∃Q,h'.get? b=TJ { o with slots:=Q }) (free:∀b o,b ∉ ch->s.heap.get? b=TJ o->H b=TM->Z b=TM)
  (g:∀b o,b ∉ ch->s.heap.get? b=TJ o->∃L,h'.get? b=TJ L)
  (B:∀b y,H b=TJ (.tup y)->Z b=TJ (.tup y)) (a:∀b o u,H b=TJ (.frz o u)->Z b=TJ (.frz o u)) (D:∀b G,H b=TJ (.tbl G)->∃U,Z b=TJ (.tbl<|G++U))
  (ns:∀m,s.heap.Ns X.env.locals m->h'.Ns X.env.locals m) (hok:HOk X.prog X.w Z h') (hg:UV g') :
  Inv X R σ Z { s with heap:=h',gens:=g',drawn:=d',toks:=t' }:=by
 have J:∀b o,X.s₀.heap.get? b=TJ o->b≠X.env.locals:=λ b o e=>bf<|bH (aF e) I.ok.above
 have K:∀b o,X.s₀.heap.get? b=TJ o->b ∉ X.ex->b ∉ ch:=λ b o e V j=>by
  rcases(T b j).1 with z|z
  .exact V z
  .exact U1 (bH (aF e) z)<|dU _
 have S:∀x c,X.env.cells.lookup x=TJ c->∀v,s.heap.IsCell c v->h'.IsCell c v:=λ x c e v (o,t,M)=>by
  have N:c ∉ ch:=λ z=>(T c z).2.2.1 x c e rfl;by_cases C:c∈X.fs
  .obtain⟨Q,q⟩:=F c o (I.cne x c e) C N t<|I.freeC x c e;exact(_,q,M)
  .exact(o,W c o (I.cne x c e) C N t<|I.freeC x c e,M)
 refine(I.ok,I.os,hg,(λ b o e n j V=>?_,λ b o e n j V=>?_,λ b o e n V=>?_,λ b o e V=>?_,λ b y e=>B b y<|I.base.tups b y e,λ b o y e=>a b o y<|I.base.frzs b o y e,λ b G e=>?_),?_,λ x c e=>?_,?_,λ x c e=>?_,λ p P=>?_,hok,I.len)
 .exact W b o (J b o e) j (K b o e V) (I.base.keep b o e n j V)<|I.base.free b o e n V
 .obtain⟨Q,A⟩:=I.base.slot b o e n j V;obtain⟨O,w⟩:=F b _ (J b o e) j (K b o e V) A<|I.base.free b o e n V;exact(O,w)
 .obtain⟨L,A⟩:=I.base.there b o e V;exact free b L (K b o e V) A<|I.base.free b o e n V
 .obtain⟨L,A⟩:=I.base.there b o e V;exact g b L (K b o e V) A
 .obtain⟨m1,A⟩:=I.base.tbls b G e;obtain⟨m2,w⟩:=D b _ A;exact(m1++m2,by rw[w,s1c])
 .obtain⟨m,hn,hl⟩:=I.loc;refine(m,ns m hn,λ i x v A w e3=>?_);obtain⟨u,r,l⟩:=hl i x v A w e3;refine(u,r,?_)
  rcases l with l|⟨k,c,e,z⟩
  .exact .inl l
  .exact .inr (k,c,e,S x c e _ z)
 .obtain⟨v,z⟩:=I.cell x c e;exact(v,S x c e v z)
 .obtain⟨m,⟨o,_,_,t,_⟩,_⟩:=I.loc;exact free _ o (λ z=>(T _ z).2.1 rfl) t I.free
 .obtain⟨v,o,t,M⟩:=I.cell x c e;exact free c o (λ z=>(T c z).2.2.1 x c e rfl) t<|I.freeC x c e
 .refine HT λ E Y=>?_;obtain⟨e,n,f,h,d⟩:=I.pin p P;refine Y ?_;clear Y E;have N:p.1 ∉ ch:=λ z=>(T p.1 z).2.2.2 p P rfl;exact(W p.1 p.2 f h N e n,free p.1 p.2 N e n,f,h,d)
def Inv.un{t':Nat}(I:Inv X Y U H s)(u:Un X.fs [] H Z s.heap h')(hok:HOk X.prog X.w Z h'):Inv X Y U Z { s with heap:=h',toks:=t' }:=by
 obtain⟨m,⟨o,g,j,K,r⟩,_⟩:=id I.loc;obtain⟨k,F⟩:=u.any K I.free Cr
 exact I.step (g':=s.gens) (d':=s.drawn) (ch:=[]) (λ _ z=>nomatch z) (λ b o _ A _ e n=>u.keep b o e n A Cr) (λ b o _ A _ e n=>u.slot b o e n A Cr) (λ b o _ e n=>u.free b o e n Cr) (λ b o _ e=>u.there b o e Cr) u.tups u.frzs u.tbls (λ d y=>by
  refine HT λ T V=>?_;obtain⟨c,N,W,S,v⟩:=y;refine V ?_;clear V T;rw[K] at S;cases S
  exact(_,N,W,F,v)) hok I.bare
theorem Inv.call{t':Nat}{d':XU}(I:Inv X Y U H s)(u:Un (YF X.stack) ch H Z s.heap h')(hok:HOk X.prog X.w Z h')(j:UV g')
  (T:∀b∈ch,(b∈X.ex\/X.s₀.heap.objs.size<=b)/\b≠X.env.locals/\(∀x c,X.env.cells.lookup x=TJ c->c≠b)/\∀p∈X.pn++Y,p.1≠b) :
  Inv X Y U Z { s with heap:=h',gens:=g',drawn:=d',toks:=t' }:=by
 obtain⟨m,⟨o,i,k,y,r⟩,_⟩:=id I.loc;obtain⟨w,F⟩:=u.any y I.free λ z=>(T _ z).2.1 rfl
 exact I.step (ch:=ch) T (λ b o F v V e n=>u.keep b o e n (λ z=>(aD.mp<|I.stkSub b z).elim F v) V) (λ b o _ _ V e n=>u.any e n V) (λ b o V e n=>u.free b o e n V) (λ b o V e=>u.there b o e V) u.tups u.frzs u.tbls (λ t g=>by
  refine HT λ N S=>?_;obtain⟨l,K,A,W,d⟩:=g;refine S ?_;clear S N;rw[y] at W;cases W
  exact(_,K,A,F,d)) hok j
theorem Inv.turned{t':Nat}{it:TQ}(I:Inv X Y U H s)(k:∀b o,b≠it->s.heap.get? b=TJ o->h'.get? b=TJ o)(g:H it=TM)(T:it≠X.env.locals)
  (A:it∈X.ex\/X.s₀.heap.objs.size<=it) (K:∀x c,X.env.cells.lookup x=TJ c->c≠it) (F:∀p∈X.pn++Y,p.1≠it):Inv X Y U H { s with heap:=h',toks:=t' }:=by
 have S:∀b u,H b=TJ u->b≠it:=λ b u e z=>by rw[z,g] at e;cases e
 refine I.step (g':=s.gens) (d':=s.drawn) (ch:=[it]) (λ b y=>?_) (λ b o _ _ V e _=>k b o (λ z=>V<|by simp[z]) e) (λ b o _ _ V e _=>(o.slots,k b o (λ z=>V<|by simp[z]) e)) (λ _ _ _ _ n=>n)
  (λ b o V e=>(o,k b o (λ z=>V<|by simp[z]) e)) (λ _ _ e=>e) (λ _ _ _ e=>e) (λ b i e=>(#[],by rw[e];simp)) (λ m j=>?_) (λ b u e=>?_) I.bare
 .have e:b=it:=by simpa using y
  subst e;exact(A,T,K,F)
 .obtain⟨o,N,W,d,r⟩:=j;exact(o,N,W,k _ o (bI T) d,r)
 .refine(I.hok b u e).stay (λ c v V q=>k c v ?_ q) (λ _ q=>q) λ _ _ q=>q
  rcases V with z|z
  .rw[z];exact S b u e
  .exact S c _ z
def Inv.tok(I:Inv X Y U H s)(t:Nat):Inv X Y U H { s with toks:=t }:=I.un (h':=s.heap) (t':=t) Un.refl I.hok
def Inv.kept{t':Nat}(I:Inv X Y U H s)(k:∀b u,s.heap.get? b=TJ u->h'.get? b=TJ u):Inv X Y U H { s with heap:=h',toks:=t' }:=I.un (Un.kept k)<|I.hok.kept k
theorem Inv.laid{a:TQ}{t':Nat}(I:Inv X Y U H s)(k:∀b u,s.heap.get? b=TJ u->h'.get? b=TJ u)(V:s.heap.objs.size<=a)(S:ObjOk X.prog X.w (Yu H a o) h' a o) :
  Inv X Y U (Yu H a o) { s with heap:=h',toks:=t' }:=I.un (Un.laid k V<|I.hok.fresh V)<|I.hok.laid k V S
theorem Inv.write{x e:TQ}{t':Nat}(I:Inv X Y U H s)(W:D9<|H x)(T:e=x\/H e=TJ (.own x))(k:∀b u,b≠e->s.heap.get? b=TJ u->h'.get? b=TJ u)(V:∃u,h'.get? e=TJ u)
  (S:ObjOk X.prog X.w (Yu H x o) h' x o):Inv X Y U (Yu H x o) { s with heap:=h',toks:=t' }:=I.un (Un.write W T k V)<|I.hok.write W T k V S
def Inv.pins_of{V:LO}(I:Inv X U Y H s)(h:∀p∈V,s.heap.get? p.1=TJ p.2/\H p.1=TM/\p.1≠X.env.locals/\p.1 ∉ X.fs/\∀v,p.2.data≠.cell v):Inv X V Y H s :=
 (I.ok,I.os,I.bare,I.base,I.loc,I.cell,I.free,I.freeC,λ p S=>(cy.mp S).elim (λ z=>I.pin p<|fk _ z)<|h p,I.hok,I.len)
def rZ{N:List Str}(T:N.Nodup){i j:Nat}(a:N[i]?=TJ x)(b:N[j]?=TJ x):i=j:=by
 obtain⟨W,V⟩:=aP.mp a;obtain⟨A,S⟩:=aP.mp b;exact(List.getElem_inj T).mp<|V.trans S.symm
theorem wq{i:Nat}{Q:Unit->TR->Prop}(I:Inv X Yq σ H s)(hN:X.N.Nodup)(G:X.N[i]?=TJ x)(N:ZO X.env.scope x)(r:RelV v u)
  (h:∀s',Inv X Yq (σ.set i<|TJ v) H s'->(∃a,Vj a s.heap s'.heap/\(a=X.env.locals\/X.env.cells.lookup x=TJ a))->Q () s') (hf:autoParam (X.fn x=TK\/X.env.scope.names.lookup x=TJ .local) A0._auto_1):TU M A (Wi X.env x u) Q E s:=by
 obtain⟨m,hn,hl⟩:=id I.loc;have B:(X.env.scope.kind == .class || (X.env.scope.kind == .module&&X.env.locals != X.env.globals))=TL:=by rw[I.ok.kind];rfl
 have t:i<σ.length:=by rw[I.len];exact(aP.mp G).1
 have Z:=I.cne
 have T:∀ {a:TQ}{h':Ue},(∃o,s.heap.get? a=TJ o/\H a=TM)->Vj a s.heap h'->HOk X.prog X.w H h':=λ {a h'} ha V b ob e=>by
  obtain⟨_,_,F⟩:=ha;refine(I.hok b ob e).stay (λ c f W q=>(V.2 c ?_).trans q) (λ _ q=>q) λ _ _ q=>q;rintro rfl
  rcases W with rfl|W
  .rw[F] at e;cases e
  .rw[F] at W;cases W
 rcases N with l|l
 .refine wt l hn (λ h' hn' V=>?_) B;refine HT λ w K=>?_;obtain⟨oL,_,_,hoL,_⟩:=id hn;refine K ?_;clear K w;refine h _ (I.ok,I.os,I.bare,(λ b o e n Y N=>?_,λ b o e n Y N=>?_,I.base.free,λ b o e N=>?_,I.base.tups,I.base.frzs,I.base.tbls),(_,hn',λ j y v' S g e3=>?_),λ y c e=>?_,I.free,I.freeC,λ p hp=>?_,T (oL,hoL,I.free) V,by simpa using I.len) (_,V,.inl rfl)
  .exact(V.2 b<|bf<|bH (aF e) I.ok.above).trans<|I.base.keep b o e n Y N
  .obtain⟨sl,S⟩:=I.base.slot b o e n Y N;exact(sl,(V.2 b<|bf<|bH (aF e) I.ok.above).trans S)
  .obtain⟨o',S⟩:=I.base.there b o e N;exact(o',(V.2 b<|bf<|bH (aF e) I.ok.above).trans S)
  .by_cases J:j=i
   .subst J;rw[G] at S;cases S;rw[fD t] at g;cases g;exact(u,r,.inl (l,Cr))
   .rw[du<|bI J] at g;obtain⟨u',r',q⟩:=hl j y v' S g e3;refine(u',r',?_)
    rcases q with ⟨k,e⟩|⟨k,c,e,z⟩
    .refine .inl (k,?_);have:y≠x:=λ e=>J<|rZ hN S<|e ▸ G;simp[this,e]
    .exact .inr (k,c,e,z.sameBut V<|Z y c e)
  .obtain⟨f,z⟩:=I.cell y c e;exact(f,z.sameBut V<|Z y c e)
  .obtain⟨e,n,P,nf,d⟩:=I.pin p hp;exact((V.2 p.1 P).trans e,n,P,nf,d)
 .have U:X.fn x=TK:=by
   rcases hf with z|z
   .exact z
   .rw[z] at l;cases l
  obtain⟨c,W⟩:=I.ok.has x<|.inl l;obtain⟨f,z⟩:=I.cell x c W;refine s0f I.ok.kind l W z λ h' L V=>?_;obtain⟨oc,O,R⟩:=id z;refine h { s with heap:=h' } (I.ok,I.os,I.bare,(λ b o e n Y N=>?_,λ b o e n Y N=>?_,I.base.free,λ b o e N=>?_,I.base.tups,I.base.frzs,I.base.tbls),(m,hn.sameBut V<|bI<|Z x c W,λ j y v' S g e3=>?_),λ y C e=>?_,I.free,I.freeC,λ p hp=>?_,T (oc,O,I.freeC x c W) V,by simpa using I.len) (c,V,.inr W)
  .exact(V.2 b<|bf<|bH (aF e)<|I.ok.cab x c U W).trans<|I.base.keep b o e n Y N
  .obtain⟨sl,S⟩:=I.base.slot b o e n Y N;exact(sl,(V.2 b<|bf<|bH (aF e)<|I.ok.cab x c U W).trans S)
  .obtain⟨o',S⟩:=I.base.there b o e N;exact(o',(V.2 b<|bf<|bH (aF e)<|I.ok.cab x c U W).trans S)
  .by_cases J:j=i
   .subst J;rw[G] at S;cases S;rw[fD t] at g;cases g;exact(u,r,.inr (.inl l,c,W,L))
   .rw[du<|bI J] at g;obtain⟨u',r',q⟩:=hl j y v' S g e3;refine(u',r',?_)
    rcases q with q|⟨k,C,e,z'⟩
    .exact .inl q
    .refine .inr (k,C,e,z'.sameBut V ?_);rintro rfl;exact J<|rZ hN S<|I.ok.inj _ _ _ e W ▸ G
  .by_cases D:C=c
   .subst D;exact(_,L)
   .obtain⟨w2,z2⟩:=I.cell y C e;exact(w2,z2.sameBut V D)
  .refine HT λ w K=>?_;obtain⟨e,n,P,nf,d⟩:=I.pin p hp;refine K ?_;clear K w;refine((V.2 p.1 ?_).trans e,n,P,nf,d);intro q;rw[q,O] at e;have q':oc=p.2:=bS e;exact d f (by rw[<- q'];exact R)
theorem se{i:Nat}{Q:Unit->TR->Prop}(I:Inv X Y U H s)(T:X.N.Nodup)(N:X.N[i]?=TJ x)(K:ZO X.env.scope x)(r:RelV v u)
  (h:∀V,Inv X Y (U.set i<|TJ v) H V->Q () V) (W:autoParam (X.fn x=TK\/X.env.scope.names.lookup x=TJ .local) A0._auto_1):TU M A (Wi X.env x u) Q E s :=
 wq I T N K r (λ V S _=>h V S) W
theorem Inv.call'{s':TR}(I:Inv X Y U H s)(K:s'.os=s.os)(u:Un (YF X.stack) ch H Z s.heap s'.heap)(hok:HOk X.prog X.w Z s'.heap)(A:UV s'.gens)
  (T:∀b∈ch,(b∈X.ex\/X.s₀.heap.objs.size<=b)/\b≠X.env.locals/\(∀x c,X.env.cells.lookup x=TJ c->c≠b)/\∀p∈X.pn++Y,p.1≠b):Inv X Y U Z s':=by
 refine HT λ S V=>?_;obtain⟨h',N,W,z,F⟩:=s';refine V ?_;clear V S;have e:F=s.os:=K;subst e;exact I.call (g':=N) (t':=z) (d':=W) u hok A T
end
abbrev XK:=Value->OA->Hp->Prop
abbrev St:=List<|Option V
abbrev VK:=V->Hp->Prop
abbrev TE:=St->Hp->VK->Prop
abbrev TT:=St->Hp->(Bool->Hp->Prop)->Prop
abbrev TA:=St->Hp->(List V->Hp->Prop)->Prop
structure Ze where
 nx:St->Hp->Prop
 rt:VK
 bk:St->Hp->Prop:=λ _ _=>False
 ct:St->Hp->Prop:=λ _ _=>False
abbrev TS:=Ze->St->Hp->Prop
def EP(X:Cx)(S:LO)(W:St)(Q:VK)(u:Value)(T:TR):Prop:=∃v V,Inv X S W V T/\RelV v u/\Q v V
def TP(X:Cx)(S:LO)(W:St)(Q:Bool->Hp->Prop)(b:Bool)(T:TR):Prop:=∃V,Inv X S W V T/\Q b V
def AP(X:Cx)(T:LO)(A:St)(Q:List V->Hp->Prop)(N:LV)(W:TR):Prop:=∃vs S,Inv X T A S W/\Vals vs N/\Q vs S
def SP(X:Cx)(T:LO)(D:Ze)(f:Flow)(W:TR):Prop :=
 match f with
 |.next=>∃V S,Inv X T V S W/\D.nx V S
 |.brk=>∃V S,Inv X T V S W/\D.bk V S
 |.cont=>∃V S,Inv X T V S W/\D.ct V S
 |.ret u=>∃v V S,Inv X T V S W/\RelV v u/\D.rt v S
def PE(X:Cx)(e:Expr)(t:TE):Prop :=
 ∀(S:LO) (s:TR) (V:St) (H:Hp) (Q:VK),Inv X S V H s->t V H Q->TU (TX X.prog X.w) X.A (eval e X.env) (EP X S V Q) X.xe s
def PT(X:Cx)(e:Expr)(t:TT):Prop :=
 ∀(S:LO) (s:TR) (V:St) (H:Hp) (Q:Bool->Hp->Prop),Inv X S V H s->t V H Q->TU (TX X.prog X.w) X.A (isTrue e X.env<|eval e X.env) (TP X S V Q) X.xe s
def PW(X:Cx)(e:Expr)(t:TT):Prop :=
 ∀(V:Sem Value) (T:LO) (s:TR) (S:St) (H:Hp) (Q:Bool->Hp->Prop),Inv X T S H s->t S H Q->TU (TX X.prog X.w) X.A (isTrue e X.env V) (TP X T S Q) X.xe s
def PW.pt(h:PW X e t):PT X e t:=h _
def PA(X:Cx)(N:List Expr)(t:TA):Prop :=
 ∀(S:Pos) (W:LO) (s:TR) (T:St) (H:Hp) (Q:List V->Hp->Prop),Inv X W T H s->t T H Q->TU (TX X.prog X.w) X.A (spliced<|UD S<|Ud N X.env) (AP X W T Q) X.xe s
def PS(X:Cx)(st:Uc)(t:TS):Prop :=
 ∀(V:LO) (s:TR) (S:St) (H:Hp) (D:Ze),Inv X V S H s->t D S H->TU (TX X.prog X.w) X.A (exec st X.env) (SP X V D) X.xe s
def PSs(X:Cx)(st:List Uc)(t:TS):Prop :=
 ∀(V:LO) (s:TR) (S:St) (H:Hp) (D:Ze),Inv X V S H s->t D S H->TU (TX X.prog X.w) X.A (Wz st X.env) (SP X V D) X.xe s
def Yw{S:Type}{t:Sem S}{Q V:S->TR->Prop}(h:TU M A t Q E s)(T:∀a s,Q a s->V a s):TU M A t V E s:=cj h T λ _ _ x=>x
section
theorem bin(o:PE X a Z)(c:PE X b Y){R:V->V->Hp->Prop}(I:Inv X J U H s)(h:Z U H λ x z=>Y U z λ y T=>R x y T)
  {j:Type}{Q:j->TR->Prop}{f:Value->Value->Sem j}
  (k:∀v u K x y T,Inv X J U T K->RelV x v->RelV y u->R x y T->TU (TX X.prog X.w) X.A (f v u) Q X.xe K) :
  TU (TX X.prog X.w) X.A (eval a X.env) (λ v N=>TU (TX X.prog X.w) X.A (eval b X.env) (λ u A=>TU (TX X.prog X.w) X.A (f v u) Q X.xe A) X.xe N) X.xe s:=by
 refine Yw (o J s U H _ I h) λ v s1 S=>?_;refine HT λ F W=>?_;obtain⟨x,z,g,p,m⟩:=S;refine W ?_;clear W F;refine Yw (c J s1 U z _ g m) λ u K S=>?_;obtain⟨y,T,d,r2,r⟩:=S;exact k v u K x y T d p r2 r
def isB(x:V)(P:Bool->Prop):Prop:=match x with|.bl k=>P k|_=>False
def isI(x:V)(P:Int->Prop):Prop:=match x with|.int k=>P k|_=>False
def sg(x y:V)(P:Int->Int->Prop):Prop:=match x,y with|.int i,.int j=>P i j|_,_=>False
def kK(h:isB x P):∃k,x=.bl k/\P k:=by cases x<;>first|exact(_,rfl,h)|exact h.elim
def Ej(h:isI x P):∃k,x=.int k/\P k:=by cases x<;>first|exact(_,rfl,h)|exact h.elim
def sh(h:sg x y P):∃i j,x=.int i/\y=.int j/\P i j:=by cases x<;>cases y<;>first|exact(_,_,rfl,rfl,h)|exact h.elim
def bL(i:Nat):TE:=λ V H Q=>match V[i]? with|some (TJ v)=>Q v H|_=>False
set_option tactic.hygienic true in
def Ek(h:bL i U H Q):∃v,U[i]?=TJ (TJ v)/\Q v H:=by
 unfold bL at h;split at h
 .rename_i v e;exact(v,e,h)
 .exact h.elim
def tC(v:V):TE:=λ _ H Q=>Q v H
def eO{i:Nat}(y:X.N[i]?=TJ x)(o:l5 X.env.scope x)(K:autoParam ((x == ("__debug__" : Str))=TL) Cl._auto_1)(A:autoParam ((x == ("__classdict__" : Str))=TL) Cl._auto_1):PE X (.Name x pos)<|bL i:=by
 intro z s k H Q I h;refine HT λ N W=>?_;obtain⟨v,e,h⟩:=Ek h;obtain⟨m,d,j⟩:=I.loc;obtain⟨u,r,l⟩:=j i x v y e o;refine W ?_;clear W N;have S:EP X z k Q u s:=(v,H,I,r,h)
 rcases l with ⟨T,g⟩|⟨T,c,F,V⟩
 .exact Xi (wpAny_loadName_local I.ok.kind T d g S) K
 .rcases T with T|T
  .exact Xi (wpAny_loadName_cell I.ok.kind T F V S) K
  .exact Xi (wpAny_loadName_free I.ok.kind T F V S A) K
def pe_int{i j V}:PE X (.Constant (.int i) j V)<|tC<|.int i:=λ _ _ _ H _ I h=>wpAny_Constant_int (.int i,H,I.tok _,(_,rfl),h)
def pe_bl{b j V}:PE X (.Constant (.bool b) j V)<|tC<|.bl b:=λ _ _ _ H _ I h=>Constant_bool (.bl b,H,I,rfl,h)
def pe_non{j V}:PE X (.Constant .none j V)<|tC .non:=λ _ _ _ H _ I h=>Constant_none (.non,H,I,rfl,h)
def pe_str{x j V}:PE X (.Constant (.str x) j V)<|tC<|.str x:=λ _ _ _ H _ I h=>s1d (.str x,H,I.tok _,(_,rfl),h)
def Gl(X:Cx)(x:Str):Prop:=X.env.kindOf x=TJ .globalImplicit
theorem fV{Q:VS}(I:Inv X J L H s)(S:Gl X x)(T:X.mg x=TJ u)(h:Q u s)
  (V:autoParam ((x == ("__debug__" : Str))=TL) Cl._auto_1):TU (TX X.prog X.w) X.A (eval (.Name x U) X.env) Q E s :=
 wu I.ok.kind S (Calls.loadGlobal_global (by rw[I.ok.glob];exact I.mod.glob.keeps I.bk) T h) V
theorem eQ{Q:VS}(I:Inv X J L H s)(W:Gl X x)(N:X.mg x=TM)(K:UP x=TJ u)(h:Q u s)
  (A:x ≠ "__name__" := by decide) (T:autoParam ((x == ("__debug__" : Str))=TL) Cl._auto_1):TU (TX X.prog X.w) X.A (eval (.Name x U) X.env) Q E s:=by
 obtain⟨F,V,S⟩:=I.mod.blt;exact wu I.ok.kind W (Calls.loadGlobal_builtin (by rw[I.ok.glob];exact I.mod.glob.keeps I.bk) N (by rw[I.ok.blt];exact V.keeps I.bk) ((S x A).trans K) h) T
def El(S:Gl X x)(T:X.mg x=TJ u)(r:RelV v u)(V:autoParam ((x == ("__debug__" : Str))=TL) Cl._auto_1):PE X (.Name x U) (tC v) :=
 λ _ _ _ H _ I h=>fV I S T (v,H,I,r,h) V
def ww(S:Gl X x)(T:X.mg x=TM)(N:UP x=TJ u)(r:RelV v u)(W:x ≠ "__name__" := by decide)(V:autoParam ((x == ("__debug__" : Str))=TL) Cl._auto_1):PE X (.Name x U) (tC v) :=
 λ _ _ _ H _ I h=>eQ I S T N (v,H,I,r,h) W V
variable {b:Expr}{Z Y:TE}
def wx(b:Expr){V:Vx}(h:V≠.In)(W:V≠.NotIn):Vc V b=TL:=by
 have S:(V == CmpOp.In)=TL:=by cases V<;>first|rfl|exact U1 rfl h
 have T:(V == CmpOp.NotIn)=TL:=by cases V<;>first|rfl|exact U1 rfl W
 cases b<;>simp[Vc,S,T]
def tB(t:TE):TT:=λ S H Q=>t S H λ x V=>isB x λ c=>Q c V
def si(h:PE X e t)(F:autoParam (∀V,isTrue e X.env V=(do let v <- V;Vv e.pos;Va [v] (truthy v))) M2._auto_1):PT X e<|tB t:=by
 intro K s g H Q I z;refine isTrue_plain (Yw (h K s g H _ I z) λ v s1 W=>?_)<|F _;refine HT λ T S=>?_;obtain⟨x,N,A,j,y⟩:=W;obtain⟨d,rfl,q⟩:=kK y;refine S ?_;clear S T;cases j;exact gz (N,A,q)
variable {tB':TT}{rest:List Expr}
def Em(t u:TT):TT:=λ S H Q=>t S H λ c V=>if c=TK then u S V Q else Q TL V
def tOr(t u:TT):TT:=λ S H Q=>t S H λ c V=>if c=TK then Q TK V else u S V Q
def Eo(t:TT):TT:=λ S H Q=>t S H λ c V=>Q (!c) V
def Ep(S:PT X a J):PW X (.BoolOp .And [a] U) J:=by
 intro W V s T H Q I h;refine isTrue_and<|Yw (S V s T H Q I h) λ c s1 e=>?_
 cases c with
 |true=>exact isTrue_and_nil e
 |false=>exact e
def wy(S:PT X a J):PW X (.BoolOp .Or [a] U) J:=by
 intro W V s T H Q I h;refine isTrue_or<|Yw (S V s T H Q I h) λ c s1 e=>?_
 cases c with
 |false=>exact isTrue_or_nil e
 |true=>exact e
def Er(K:PT X a J)(F:PW X (.BoolOp .And (b::rest) U) tB'):PW X (.BoolOp .And (a::b::rest) U)<|Em J tB':=by
 intro z W s A H Q I h;refine isTrue_and<|Yw (K W s A H _ I h) λ c s1 V=>?_;obtain⟨S,T,N⟩:=V
 cases c with
 |true=>exact F z W s1 A S Q T N
 |false=>exact(S,T,N)
def wz(K:PT X a J)(F:PW X (.BoolOp .Or (b::rest) U) tB'):PW X (.BoolOp .Or (a::b::rest) U)<|tOr J tB':=by
 intro z W s A H Q I h;refine isTrue_or<|Yw (K W s A H _ I h) λ c s1 V=>?_;obtain⟨S,T,N⟩:=V
 cases c with
 |true=>exact(S,T,N)
 |false=>exact F z W s1 A S Q T N
def sj(T:PT X a J):PT X (.UnaryOp .Not a U)<|Eo J:=by
 intro S s W H Q I h;exact isTrue_not<|T S s W H (λ c V=>Q (!c) V) I h
def so(Z Y:TE):TE:=λ S H Q=>Z S H λ x V=>isB x λ c=>if c=TK then Y S V Q else Q (.bl TL) V
def Es(Z Y:TE):TE:=λ S H Q=>Z S H λ x V=>isB x λ c=>if c=TK then Q (.bl TK) V else Y S V Q
def Et(Z:TE):TE:=λ S H Q=>Z S H λ x V=>∃c,x=.bl c/\Q (.bl<|!c) V
def su{T}(h:PE X a t):PE X (.BoolOp T [a] U) t:=λ V s W H Q I S=>BoolOp_one<|h V s W H Q I S
def wA(z:PE X a Z)(y:PE X (.BoolOp .And (b::rest) U) Y):PE X (.BoolOp .And (a::b::rest) U)<|so Z Y:=by
 intro K s F H Q I h;refine BoolOp_and<|Yw (z K s F H _ I h) λ v s1 W=>?_;refine HT λ T V=>?_;obtain⟨x,N,A,j,S⟩:=W;obtain⟨c,rfl,S⟩:=kK S;refine V ?_;clear V T;cases j;refine gz ?_
 cases c with
 |true=>exact y K s1 F N Q A S
 |false=>exact(.bl TL,N,A,rfl,S)
def Eu(z:PE X a Z)(y:PE X (.BoolOp .Or (b::rest) U) Y):PE X (.BoolOp .Or (a::b::rest) U)<|Es Z Y:=by
 intro K s F H Q I h;refine BoolOp_or<|Yw (z K s F H _ I h) λ v s1 W=>?_;refine HT λ T V=>?_;obtain⟨x,N,A,j,S⟩:=W;obtain⟨c,rfl,S⟩:=kK S;refine V ?_;clear V T;cases j;refine gz ?_
 cases c with
 |false=>exact y K s1 F N Q A S
 |true=>exact(.bl TK,N,A,rfl,S)
def Ev(F:PE X a Z):PE X (.UnaryOp .Not a U)<|Et Z:=by
 intro K s y H Q I h;refine UnaryOp_<|Yw (F K s y H _ I h) λ v s1 T=>?_;refine HT λ S V=>?_;obtain⟨x,N,A,z,W⟩:=T;obtain⟨c,rfl,W⟩:=W;refine V ?_;clear V S;cases z;exact not_of<|gz (.bl<|!c,N,A,on,W)
def tIf(t:TT)(Z Y:TE):TE:=λ V H Q=>t V H λ c S=>if c=TK then Z V S Q else Y V S Q
def Ew(z:PT X c J)(K:PE X a Z)(F:PE X b Y):PE X (.IfExp c a b U)<|tIf J Z Y:=by
 intro V s T H Q I h;refine wpAny_IfExp<|Yw (z V s T H _ I h) λ d s1 S=>?_;obtain⟨W,N,A⟩:=S
 cases d with
 |true=>exact K V s1 T W Q N A
 |false=>exact F V s1 T W Q N A
end
def SqL(K:FG)(H:Hp)(a:TQ)(T:List V):Prop :=
 Rd H a (.lst T) \/
  ∃(o:Obj) (S:Array Value) (n:Nat),K.lookup a=TJ o/\o.cls=.type "list" /\ o.dict=TM/\o.data=.seq S n/\S.size<=TW/\Vals T S.toList
def SqT(K:FG)(H:Hp)(a:TQ)(T:List V):Prop :=
 Rd H a (.tup T) \/
  ∃(o:Obj) (S:Array Value) (n:Nat),K.lookup a=TJ o/\o.cls=.type "tuple" /\ o.dict=TM/\o.data=.seq S n/\S.size<=TW/\Vals T S.toList
noncomputable def Ey:Value->Option V
 |.none=>TJ .non
 |.bool b=>TJ (.bl b)
 |.int i _=>TJ (.int i)
 |.str x _=>TJ (.str x)
 |.bytes b _=>TJ (.byt b)
 |.float b _=>TJ (.flt b)
 |.ref a=>TJ (.ref a)
 |.type n=>TJ (.ty n)
 |_=>TM
def RelV.abs(r:RelV x u):Ey u=TJ x:=by
 cases x with
 |non|bl _|ref _|ty _=>cases r;rfl
 |int _|str _|byt _|flt _=>obtain⟨t,rfl⟩:=r;rfl
def RelV.inj(r:RelV x u)(q:RelV y u):x=y:=bS<|r.abs.symm.trans q.abs
def Vals.inj(r:Vals U Y)(q:Vals Z Y):U=Z:=by
 induction r generalizing Z with
 |nil=>cases q;rfl
 |cons r _ V=>cases q with|cons S T=>rw[r.inj S,V T]
section
variable {H:Hp}
def SqL.of{K:FG}(h:H a=TJ (.lst Z)):SqL K H a Z:=.inl<|.inl h
def SqT.of{K:FG}(h:H a=TJ (.tup Z)):SqT K H a Z:=.inl<|.inl h
def Inv.list(I:Inv X U J H s)(h:SqL X.K H a Y):∃Z:LV,Vals Y Z/\PlainL s.heap a Z.toArray/\Y.length<=TW:=by
 rcases h with h|⟨o,Z,n,T,V,S,W,N,r⟩
 .obtain⟨z,Z,n,r,e⟩:=h.ok I.hok;exact(Z,r,(_,n,e,on,on,on),z)
 .refine(Z.toList,r,(o,n,I.kIn a o T,V,S,by simpa using W),?_);have e:=r.length;simp only[Uv] at e;lia
def Inv.tuple(I:Inv X U J H s)(h:SqT X.K H a Y):∃Z:LV,Vals Y Z/\VI s.heap a Z.toArray/\Y.length<=TW:=by
 rcases h with h|⟨o,Z,n,S,V,_,T,W,r⟩
 .obtain⟨z,Z,r,p⟩:=h.ok I.hok;exact(Z,r,p.tup,z)
 .refine(Z.toList,r,(o,I.kIn a o S,V,n,by simpa using T),?_);have e:=r.length;simp only[Uv] at e;lia
def Inv.list_inj(I:Inv X U J H s)(h:SqL X.K H a Z)(F:SqL X.K H a Y):Z=Y:=by
 refine HT λ T V=>?_;obtain⟨W,r,⟨o,n,e,_,_,d⟩,_⟩:=I.list h;obtain⟨S,z,⟨v,y,A,_,_,N⟩,_⟩:=I.list F;refine V ?_;clear V T;rw[e] at A;cases A;rw[d] at N
 injection N with K _
 have:W=S:=by simpa using bT VW K
 subst this;exact r.inj z
def Inv.tuple_inj(I:Inv X U J H s)(h:SqT X.K H a Z)(F:SqT X.K H a Y):Z=Y:=by
 refine HT λ T V=>?_;obtain⟨W,r,⟨o,e,_,n,d⟩,_⟩:=I.tuple h;obtain⟨S,z,⟨v,A,_,y,N⟩,_⟩:=I.tuple F;refine V ?_;clear V T;rw[e] at A;cases A;rw[d] at N
 injection N with K _
 have:W=S:=by simpa using bT VW K
 subst this;exact r.inj z
end
noncomputable abbrev Cx.wish(X:Cx)(E:VS):Cx:={ X with xe:=E }
abbrev Cx.nox(X:Cx):Cx:=X.wish λ _ _=>False
def Cx.Ok.wish{X:Cx}(V:X.Ok)(E:VS):(X.wish E).Ok :=
 (V.mod,V.kind,V.glob,V.blt,V.above,V.inj,V.has,V.cab,V.hd,V.frames,V.stk,V.exf,V.bs,V.bsz,V.noex,V.exfs,V.funs,V.frf)
def Cx.Ok.unwish{X:Cx}(V:(X.wish E).Ok):X.Ok :=
 (V.mod,V.kind,V.glob,V.blt,V.above,V.inj,V.has,V.cab,V.hd,V.frames,V.stk,V.exf,V.bs,V.bsz,V.noex,V.exfs,V.funs,V.frf)
section
variable {E:VS}
def Inv.wish(I:Inv X Z Y H s)(E:VS):Inv (X.wish E) Z Y H s:=(I.ok.wish E,I.os,I.bare,I.base,I.loc,I.cell,I.free,I.freeC,I.pin,I.hok,I.len)
def Inv.unwish(I:Inv (X.wish E) Z Y H s):Inv X Z Y H s:=(I.ok.unwish,I.os,I.bare,I.base,I.loc,I.cell,I.free,I.freeC,I.pin,I.hok,I.len)
def SP.unwish(h:SP (X.wish E) Z D f Y):SP X Z D f Y:=by
 cases f with
 |next|brk|cont=>obtain⟨V,S,I,q⟩:=h;exact(V,S,I.unwish,q)
 |ret u=>obtain⟨v,V,S,I,r,q⟩:=h;exact(v,V,S,I.unwish,r,q)
def PSs.nox{st:List Uc}(h:PSs X.nox st t):PSs X st t:=λ V s T H D I S=>
 cj (h V s T H D (I.wish _) S) (λ _ _ q=>q.unwish) λ _ _ z=>Uw z
end
section
variable {st:Uc}{rest:List Uc}{t u:TS}{Z:TE}{pos:Pos}
def wB:TS:=λ D V H=>D.nx V H
def sv(t u:TS):TS:=λ D V H=>t { D with nx:=u D } V H
def pss_nil:PSs X [] wB:=λ _ _ V H _ I h=>oY (V,H,I,h)
def bU(N:PS X st t)(A:PSs X rest u):PSs X (st::rest)<|sv t u:=by
 intro S s K H D I h;refine WT<|Yw (N S s K H { D with nx:=u D } I h) λ f s1 q=>?_
 cases f with
 |next=>
  obtain⟨V,T,W,q⟩:=q;exact A S s1 V T D W q
 |ret v|brk|cont=>exact q
def kL(S:PS X st t):PSs X [st] t:=by
 intro V s T H D I h;refine WT<|Yw (S V s T H D I h) λ f s1 q=>?_
 cases f with
 |next=>exact oY q
 |ret v|brk|cont=>exact q
def Inv.quiet(I:Inv X Y U H s):interactive X.env=TL:=by simp[interactive,I.ok.kind]
def Ez{x j pos V}:PS X (.Expr (.Constant (.str x) j pos) V) wB:=λ _ s S H _ I h=>wpAny_Expr (s1d<|show SP X _ _ .next { s with toks:=s.toks+1 } from (S,H,I.tok _,h)) I.quiet
def EA(Z:TE):TS:=λ D V H=>Z V H λ _ S=>D.nx V S
def jF(N:PE X e Z)(A:autoParam (UQ e TM pos.line X.env=Uo TL) Ty._auto_1):PS X (.Expr e pos)<|EA Z:=by
 intro W s V H D I h;exact wpAny_Expr_any (Yw (N W s V H _ I h)<|by rintro v s1 ⟨x,S,T,F,K⟩;exact (V,S,T,K)) I.quiet A
def oZ(Z:TE):TS:=λ D V H=>Z V H D.rt
def mM(N:PE X e Z):PS X (.Return (TJ e) pos)<|oZ Z:=by
 intro W s V H D I h;exact wpAny_Return_some (Yw (N W s V H _ I h)<|by rintro v s1 ⟨x,S,T,K,A⟩;exact (x,V,S,T,K,A))
def wC(c:TT)(t u:TS):TS:=λ D V H=>c V H λ b S=>if b=TK then t D V S else u D V S
def pd(z:PT X c Y)(K:PSs X a t)(F:PSs X b u):PS X (.If c a b pos)<|wC Y t u:=by
 intro V s T H D I h;refine wpAny_If<|Yw (z V s T H _ I h) λ d s1 S=>?_;obtain⟨W,N,A⟩:=S
 cases d with
 |true=>exact K V s1 T W D N A
 |false=>exact F V s1 T W D N A
def EB:TS:=λ _ _ _=>False
def pss_never:PSs X Y EB:=λ _ _ _ _ _ _ h=>h.elim
end
abbrev TG:=V->St->Hp->(St->Hp->Prop)->Prop
abbrev B3:=List V->St->Hp->(St->Hp->Prop)->Prop
def PG(X:Cx)(S:Expr)(t:TG):Prop :=
 ∀(N:LO) (s:TR) (A:St) (H:Hp) (v:V) (u:Value) (Q:St->Hp->Prop),Inv X N A H s->RelV v u->t v A H Q ->
  TU (TX X.prog X.w) X.A (VA S X.env u) (λ _ K=>∃T W,Inv X N T W K/\Q T W) X.xe s
def E1(X:Cx)(F:List Expr)(t:B3):Prop :=
 ∀(W:LO) (s:TR) (A:St) (H:Hp) (vs:List V) (N:LV) (Q:St->Hp->Prop),Inv X W A H s->Vals vs N->t vs A H Q ->
  TU (TX X.prog X.w) X.A (assignInOrder ((VB F X.env).map (·.2)) N) (λ _ K=>∃S T,Inv X W S T K/\Q S T) X.xe s
abbrev wD:=V->V->V->Hp->(Hp->Prop)->Prop
def wF(X:Cx)(t:wD):Prop :=
 ∀(T:LO) (s:TR) (A:St) (H:Hp) (o i v:V) (N W u:Value) (Q:Hp->Prop),Inv X T A H s->RelV o N->RelV i W->RelV v u->t o i v H Q ->
  TU (TX X.prog X.w) X.A (setItem N W u) (λ _ K=>∃S,Inv X T A S K/\Q S) X.xe s
section
variable {Z:Pos}
def cH(i:Nat):TG:=λ v V H Q=>Q (V.set i<|TJ v) H
def wG{i:Nat}(S:X.N.Nodup)(W:X.N[i]?=TJ x)(N:ZO X.env.scope x)(T:autoParam (X.fn x=TK\/X.env.scope.names.lookup x=TJ .local) A0._auto_1):PG X (.Name x Z)<|cH i:=by
 intro A s F H v u Q I r h;exact wpAny_assign_Name<|se I S W N r (λ K V=>(_,H,V,h)) T
def pf:B3:=λ vs V H Q=>vs=[]/\Q V H
def gA(t:TG)(u:B3):B3:=λ vs T H Q=>∃v r,vs=v::r/\t v T H λ V S=>u r V S Q
def sw:E1 X [] pf:=by
 intro S s V H vs T Q I r h;obtain⟨e,h⟩:=h;subst e;cases r;exact assignInOrder_nil (V,H,I,h)
theorem gU(K:PG X e t)(F:E1 X Y u)
  (z:autoParam ((VB (e::Y) X.env).map (·.2)=VA e X.env::(VB Y X.env).map (·.2)) Ty._auto_1):E1 X (e::Y)<|gA t u:=by
 intro T s g H vs d Q I r h;obtain⟨v,o,A,h⟩:=h;subst A
 cases r with
 |cons r j=>
  rw[z];refine assignInOrder_cons<|Yw (K T s g H _ _ _ I r h) λ _ s1 V=>?_;obtain⟨S,W,N,y⟩:=V;exact F T s1 S W _ _ Q N j y
def ph(K:FG)(n:Nat)(t:B3):TG:=λ v S H Q=>∃a V,v=.ref a/\SqT K H a V/\V.length=n/\t V S H Q
theorem sy{n:Nat}(j:X.calm=TK)(h:E1 X Y t)
  (d:autoParam ((VB Y X.env).length=n) Ty._auto_1) (T:autoParam ((VB Y X.env).findIdx? (·.1)=TM) Ty._auto_1):PG X (.Tuple Y k Z)<|ph X.K n t:=by
 intro N s K H v u Q I r W;refine HT λ S V=>?_;obtain⟨a,l,z,c,g,W⟩:=W;refine V ?_;clear V S;subst z;cases r;obtain⟨i,A,m,w⟩:=I.tuple c;refine assign_Tuple_tuple (I.ok.hd j) m (by simp[d,<- g,A.length]) T λ y p=>?_;have F:Inv X N K H { s with heap:=y }:=I.kept (t':=s.toks) λ b o e=>p b o (bf<|aF e) e;exact h N _ K H l _ Q F (by simpa using A) W
def EC(A N:TE)(t:wD):TG:=λ v V H Q=>A V H λ o S=>N V S λ i T=>t o i v T λ W=>Q V W
theorem ED(k:PE X o L)(c:PE X i J)(m:wF X t)
  (d:∀v,VA (.Subscript o i Z) X.env v=(do
   let Y <- Va [v] (eval o X.env)
   let U <- Va [v,Y] (eval i X.env)
   Vv Z
   Va [v,Y,U] (setItem Y U v)
   release [v,Y,U] []):=by intro _;rfl):PG X (.Subscript o i Z)<|EC L J t:=by
 intro N s W H v u Q I r h;rw[d];refine ae<|dH<|Yw (k N s W H _ I h) λ Y s1 S=>?_;refine HT λ T V=>?_;obtain⟨x,A,z,l,b⟩:=S;refine V ?_;clear V T;refine ae<|dH<|Yw (c N s1 W A _ z b) λ U n S=>?_;refine HT λ T V=>?_;obtain⟨y,K,j,r2,p⟩:=S;refine V ?_;clear V T;refine ae<|jG<|ae<|dH<|Yw (m N n W K x y v Y U u _ j l r2 r p) λ _ w S=>?_;obtain⟨F,g,e⟩:=S;exact wpAny_release (W,F,g,e)
def gW(T:TE)(g:TG):TS:=λ D V H=>T V H λ x S=>g x V S D.nx
theorem wI(z:PE X e U)(y:PG X Y g)(j:autoParam (Wt [Y] e Z.line X.env=Uo TL) Ty._auto_1)(d:autoParam (Ws [Y] e X.env=Uo TM) Ty._auto_1)
  (F:autoParam ((VB [Y] X.env).map (·.2)=[VA Y X.env]) Ty._auto_1):PS X (.Assign [Y] e Z)<|gW U g:=by
 intro W s N H D I h;refine wpAny_Assign_stores (Yw (z W s N H _ I h) λ v s1 T=>?_) j d;refine HT λ S V=>?_;obtain⟨x,A,K,c,o⟩:=T;refine V ?_;clear V S;rw[F];exact Yw (y W s1 N A x v _ K c o) λ _ k q=>q
theorem mO{i:Nat}(A:X.N.Nodup)(z:X.N[i]?=TJ x)(g:ZO X.env.scope x)(K:PE X e U)(j:autoParam (UQ e (TJ<|.Name x Y) Z.line X.env=Uo TL) Ty._auto_1)(F:autoParam (X.fn x=TK\/X.env.scope.names.lookup x=TJ .local) A0._auto_1) :
  PS X (.Assign [.Name x Y] e Z)<|gW U<|cH i:=by
 intro N s c H D I h;refine wpAny_Assign_Name (Yw (K N s c H _ I h) λ v s1 V=>?_) j;obtain⟨y,S,T,o,d⟩:=V;exact se T A z g o (λ k W=>(_,S,W,d)) F
end
section
variable {Z:Pos}
end
structure It where
 go:Nat->Hp->Prop
 yld:Nat->Hp->V->Hp->Prop
 stop:Nat->Hp->Prop
def iM(X:Cx)(V:LO)(H:Hp)(b:TQ):Prop :=
 H b=TM/\b≠X.env.locals/\b ∉ X.fs/\(b∈X.ex\/X.s₀.heap.objs.size<=b)/\(∀x c,X.env.cells.lookup x=TJ c->c≠b)/\∀p∈X.pn++V,p.1≠b
def Inv.fpOk{H S:Hp}{b:TQ}(I:Inv X Z Y H s)(V:s.heap.objs.size<=b)(T:S b=TM):iM X Z S b:=by
 refine(T,kM<|bH I.lt V,I.nofs V,.inr<|cw I.sz V,λ x c e z=>?_,λ p W z=>?_)
 .obtain⟨v,q⟩:=I.cell x c e;exact U1 (bH q.lt<|by rw[z];exact V)<|dU _
 .exact U1 (bH (aF (I.pin p W).1)<|by rw[z];exact V)<|dU _
structure Turn (P:Uh)(w:Ui)(K:FG)(tg:Expr)(J:It)(fp:List TQ)(it:TQ)(tn:Nat->Ue->Prop):Prop where
 mem:it∈fp
 obj:∀i h,tn i h->∀b∈fp,∃o,h.get? b=TJ o/\∀v,o.data≠.cell v
 keep:∀i h h',tn i h->(∀b∈fp,∀o,h.get? b=TJ o->h'.get? b=TJ o)->tn i h'
 item:∀(X:Cx),X.prog=P->X.w=w->X.K=K->X.calm=TK->∀(i:Nat) (Yq:LO) (s:TR) (σ:St) (H:Hp) (E:VS),Inv X Yq σ H s->(∀b∈fp,iM X Yq H b)->tn i s.heap->J.go i H ->
  TU (TX P w) X.A (UY<|.ref it) (λ r s1=>∃u,r=TJ u /\
   TU (TX P w) X.A (UX tg (.ref it) u) (λ _ s2=>∃x H',Inv X Yq σ H' s2/\RelV x u/\J.yld i H x H'/\tn (i+1) s2.heap/\∀b∈fp,H' b=TM) E s1) E s
 done:∀(X:Cx),X.prog=P->X.w=w->X.K=K->X.calm=TK->∀(i:Nat) (Yq:LO) (s:TR) (σ:St) (H:Hp) (E:VS),Inv X Yq σ H s->(∀b∈fp,iM X Yq H b)->tn i s.heap->J.stop i H ->
  TU (TX P w) X.A (UY<|.ref it) (λ r s1=>r=TM/\Inv X Yq σ H s1) E s
 self:∀(A:Uk) (i:Nat) (s:TR) (Q:VS) (E:VS),tn i s.heap->Q (.ref it) s->TU (TX P w) A (Wx<|.ref it) Q E s
abbrev TI:=St->Hp->(It->Hp->Prop)->Prop
def O8(X:Cx)(T:LO)(z:St)(F:Expr)(R:It->Hp->Prop)(S:Value)(A:TR):Prop :=
 ∃(N:TQ) (W:List TQ) (K:Nat->Ue->Prop) (J:It) (V:Hp),S=.ref N/\Inv X T z V A/\Turn X.prog X.w X.K F J W N K/\K 0 A.heap/\(∀b∈W,iM X T V b)/\R J V
def PI(X:Cx)(W V:Expr)(N:TI):Prop :=
 ∀(T:LO) (s:TR) (S:St) (H:Hp) (R:It->Hp->Prop),Inv X T S H s->N S H R ->
  TU (TX X.prog X.w) X.A (eval V X.env) (λ v s1=>TU (TX X.prog X.w) X.A (Wx v) (O8 X T S W R) X.xe s1) X.xe s
theorem EG{s:TR}{S:TQ}{vs:Array Value}{Q:Unit->TR->Prop}(K:s.heap.get? S=TJ o)(T:o.cls=.type n)(W:o.data=.fields vs)
    (N:["enumerate","zip","dict_itemiterator","dict_reverseitemiterator","odict_iterator","itertools.zip_longest","itertools.pairwise"].contains n=TL) (V:Q () s):TU M A (UX Z (.ref S) u) Q E s:=by
  unfold UX
  cases Z<;>first
    |exact aq V
    | (cases u<;>first
        |exact aq V
        | (refine ae<|Xj K ?_
           rw[T,W];show TU M A (if (["enumerate","zip","dict_itemiterator","dict_reverseitemiterator","odict_iterator","itertools.zip_longest","itertools.pairwise"].contains n&&vs[0]? == TJ (Ur _))=TK then _ else _) Q E s;rw[T9<|by intro h;rw[N,pi] at h;cases h]
           exact aq V))
noncomputable def G9(K:FG)(a:TQ):It :=
 (λ i H=>∃V x,SqL K H a V/\V[i]?=TJ x,λ i H x S=>S=H/\∀V,SqL K H a V->V[i]?=TJ x,λ i H=>∃V,SqL K H a V/\V.length<=i)
noncomputable def I9(K:FG)(a:TQ):It :=
 (λ i H=>∃V x,SqT K H a V/\V[i]?=TJ x,λ i H x S=>S=H/\∀V,SqT K H a V->V[i]?=TJ x,λ i H=>∃V,SqT K H a V/\V.length<=i)
noncomputable def E2(lo:Int)(n:Nat):It:=(λ i _=>i<n,λ i H x V=>V=H/\x=.int (lo+i),λ i _=>n<=i)
theorem Turn.one{K:FG}{J:It}{W:TQ}{F:Nat->Ue->Prop}(O:∀i h,F i h->∃o vs,h.get? W=TJ o/\o.cls=.type n/\o.data=.fields vs)(C:∀i h T,F i h->(∀o,h.get? W=TJ o->T.get? W=TJ o)->F i T)
  (self:∀(A:Uk) (i:Nat) (s:TR) (Q:VS) (E:VS),F i s.heap->Q (.ref W) s->TU (TX P w) A (Wx<|.ref W) Q E s)
  (item:∀(X:Cx) (i:Nat) (j:LO) (s:TR) (g:St) (H:Hp) (E:VS) (Q:Option Value->TR->Prop),X.K=K->X.A.handled=TM->Inv X j g H s->F i s.heap->J.go i H->(∀u x T N,(∀b o,b≠W->s.heap.get? b=TJ o->T.get? b=TJ o)->F (i+1) T->RelV x u->J.yld i H x H->Q (TJ u) { s with heap:=T,toks:=N })->TU (TX P w) X.A (UY<|.ref W) Q E s)
  (done:∀(X:Cx) (i:Nat) (j:LO) (s:TR) (g:St) (H:Hp) (E:VS) (Q:Option Value->TR->Prop),X.K=K->X.A.handled=TM->Inv X j g H s->F i s.heap->J.stop i H->(∀T N,(∀b o,b≠W->s.heap.get? b=TJ o->T.get? b=TJ o)->Q TM { s with heap:=T,toks:=N })->TU (TX P w) X.A (UY<|.ref W) Q E s)
  (R:autoParam (["enumerate","zip","dict_itemiterator","dict_reverseitemiterator","odict_iterator","itertools.zip_longest","itertools.pairwise"].contains n=TL) Cl._auto_1):Turn P w K tg J [W] W F where
 mem:=Cr
 obj:=λ i h q b L=>by
  cases aK.mp L;refine HT λ S V=>?_;obtain⟨o,vs,e,_,d⟩:=O i h q;refine V ?_;clear V S;exact(o,e,λ v z=>by rw[d] at z;cases z)
 keep:=λ i h T q k=>C i h T q<|k W Cr
 item:=λ X U G Y D i j s g H E I r st B=>by
  subst U G Y;refine HT λ S V=>?_;obtain⟨p,t,_,l,a,Z⟩:=r W Cr;refine V ?_;clear V S;refine item X i j s g H E _ rfl (I.ok.hd D) I st B λ u x T N M m f y=>?_;refine HT λ S V=>?_;obtain⟨o,vs,e,c,d⟩:=O _ _ m;refine V ?_;clear V S;exact(u,on,EG (s:={ s with heap:=T,toks:=N }) e c d R (x,H,I.turned (t':=N) M p t l a Z,f,y,m,λ b L=>(r b L).1))
 done:=λ X U G Y D i j s g H E I r st B=>by
  subst U G Y;refine HT λ S V=>?_;obtain⟨p,t,_,l,a,Z⟩:=r W Cr;refine V ?_;clear V S;exact done X i j s g H E _ rfl (I.ok.hd D) I st B λ T N M=>(on,I.turned (t':=N) M p t l a Z)
 self:=self
def EH{K:FG}(a A:TQ):Turn P w K U (G9 K a) [A] A (λ i h=>h.IsListIter A a i) :=
 .one (by rintro _ _ ⟨o,e,c,d⟩;exact (o,_,e,c,d)) (λ _ _ _ st k=>st.at k) (λ _ _ _ _ _ st h=>wpAny_pyIter_listiter st h) (λ X i j s Z H E Q T v I st (n,x,V,N) f=>by
  subst T;obtain⟨F,z,p,_⟩:=I.list V;obtain⟨u,m,t⟩:=z.get N
  exact wpAny_pyNext_list_item st p.isList (x:=u) (by simpa using m) λ S y l=>f u x S s.toks (λ b o W e=>(l.2 b W).trans e) y t (on,λ J r=>by rw[I.list_inj r V];exact N)) λ X i j s Z H E Q T v I st (n,V,N) f=>by
  subst T;obtain⟨F,z,p,_⟩:=I.list V;have Y:=z.length;exact wpAny_pyNext_list_end v st p.isList (by simp;lia) λ S g=>f S s.toks λ b o W e=>g b o W e
def EI{K:FG}(a A:TQ):Turn P w K U (I9 K a) [A] A (λ i h=>h.IsTupleIter A a i) :=
 .one (by rintro _ _ ⟨o,e,c,d⟩;exact (o,_,e,c,d)) (λ _ _ _ st k=>st.at k) (λ _ _ _ _ _ st h=>wpAny_pyIter_tupleiter st h) (λ X i j s Z H E Q T v I st (n,x,V,N) f=>by
  subst T;obtain⟨F,z,p,_⟩:=I.tuple V;obtain⟨u,m,t⟩:=z.get N
  exact wpAny_pyNext_tuple_item st p (x:=u) (by simpa using m) λ S y l=>f u x S s.toks (λ b o W e=>(l.2 b W).trans e) y t (on,λ J r=>by rw[I.tuple_inj r V];exact N)) λ X i j s Z H E Q T v I st (n,V,N) f=>by
  subst T;obtain⟨F,z,p,_⟩:=I.tuple V;have Y:=z.length;exact wpAny_pyNext_tuple_end v st p (by simp;lia) λ S g=>f S s.toks λ b o W e=>g b o W e
def EJ{K:FG}(V:TQ)(lo:Int)(n:Nat):Turn P w K Z (E2 lo n) [V] V (λ i h=>Wj h V (lo+(i:Nat)*1) ((n:Int)-(i:Nat)) 1) :=
 .one (λ _ _ q=>(_,_,q,rfl,rfl)) (λ _ _ _ q k=>k _ q) (λ _ _ _ _ _ st h=>wJ st h) (λ X i F s c H E Q y W I st N f=>by
  refine(Walks.range W V lo 1 n).item i s _ _ N st λ v S d j A g=>?_;obtain⟨t,rfl⟩:=j
  exact f _ (.int<|lo+i) S d (λ b o T e=>g b o (by simpa using T) e) A (t,by rw[s0r]) (on,on)) λ X i F s c H E Q y W I st N f=>wK W st (by have:n<=i:=N;lia) λ S z=>f S s.toks λ b o T e=>z b o T e
theorem EK{R:It->Hp->Prop}{lo V:Int}{T:Nat}(I:Inv X Z Y H s)(A:-(2 ^ 62)<=lo)(K:lo<2 ^ 62)(F:-(2 ^ 62)<=V)(z:V<2 ^ 62)
  (q:R (E2 lo (V-lo).toNat) H):TU (TX X.prog X.w) X.A (Wx<|.ref s.heap.objs.size) (O8 X Z Y U R) E { s with heap:=s.heap.push { cls:=.type "range",data:=.fields #[.int lo t,.int V u,.int 1 v] },toks:=T }:=by
 refine s1e (IsRange.new ..) (small_one A K F z) ?_;have S:Inv X Z Y H { s with heap:=s.heap.push { cls:=.type "range",data:=.fields #[.int lo t,.int V u,.int 1 v] },toks:=T }:=I.kept λ b o e=>aJ _ e
 refine((s.heap.push { cls:=.type "range",data:=.fields #[.int lo t,.int V u,.int 1 v] }).objs.size,[(s.heap.push { cls:=.type "range",data:=.fields #[.int lo t,.int V u,.int 1 v] }).objs.size],_,_,H,on,
  S.kept (t':=T) λ b o e=>aJ _ e,EJ _ lo (V-lo).toNat,?_,λ b y=>?_,q)
 .have W:lo+((0:Nat):Int)*1=lo:=by simp
  have N:(((V-lo).toNat:Nat):Int)-((0:Nat):Int)=Ul lo V 1:=by rw[rangeSize_one];split<;>lia
  show Wj _ _ (lo+((0:Nat):Int)*1) ((((V-lo).toNat:Nat):Int)-((0:Nat):Int)) 1;rw[W,N];exact bJ _ rfl
 .have e:b=(s.heap.push { cls:=.type "range",data:=.fields #[.int lo t,.int V u,.int 1 v] }).objs.size:=by simpa using y
  subst e;exact S.fpOk (ax _)<|S.hok.fresh<|ax _
def EL(S:TA):TI:=λ T H R=>S T H λ vs V=>∃j:Int,vs=[.int j]/\-(2 ^ 62)<=j/\j<2 ^ 62/\R (E2 0 j.toNat) V
def EM{a:Expr}{p pos:Pos}(hg:Gl X "range")(hm:X.mg "range"=TM)(ha:PA X [a] ta)(hs:autoParam (Ud [a] X.env=[(TL,eval a X.env)]) Ty._auto_1):PI X tg (.Call (.Name "range" p) [a] [] pos)<|EL ta:=by
 intro Yq s σ H R I h;refine Wo<|eQ I hg hm boot_range<|gX (Yw (ha pos Yq s σ H _ I h) λ us s1 hZZ=>?_) hs rfl;refine HT λ Gzz gzz=>?_;obtain⟨vs,H1,I1,r1,q1⟩:=hZZ;obtain⟨j,e,q1,q2,q⟩:=q1;refine gzz ?_;clear gzz Gzz;subst e
 cases r1 with
 |cons r rr=>
  cases rr;obtain⟨t,rfl⟩:=r;exact call_range_1 (EK I1 BT BT q1 q2<|by simpa using q)
def EN(v:TI)(g:TG)(y:TS):TS:=λ D V H=>v V H λ J F=>∃W:Nat->Nat->St->Hp->Prop,(∃m,W 0 m V F)/\∀i m V H,W i m V H ->
 (J.stop i H/\D.nx V H)\/(J.go i H/\∃N:St->Hp->Prop,(∀T S,N T S->∃K,K<m/\W (i+1) K T S)/\∀x S,J.yld i H x S->g x V S λ A z=>y { D with nx:=N,ct:=N,bk:=D.nx } A z)
noncomputable def pk(V:List TQ)(h:Ue):LO:=V.filterMap λ b=>(h.get? b).map λ o=>(b,o)
def kN{V:List TQ}{h:Ue}{b:TQ}(S:b∈V)(e:h.get? b=TJ o):(b,o)∈pk V h:=sB.mpr (b,S,by rw[e];rfl)
def EO{V:List TQ}{h:Ue}{p:TQ×Obj}(W:p∈pk V h):p.1∈V/\h.get? p.1=TJ p.2:=by
 obtain⟨b,T,e⟩:=sB.mp W
 cases q:h.get? b with
 |none=>rw[q] at e;cases e
 |some o=>
  rw[q] at e;have S:(b,o)=p:=bS e;subst S;exact(T,q)
def Inv.pinned{T:List TQ}(I:Inv X Z Y H s)(y:∀b∈T,iM X Z H b)(j:∀b∈T,∃o,s.heap.get? b=TJ o/\∀v,o.data≠.cell v):Inv X (Z++pk T s.heap) Y H s :=
 I.pins_of λ p g=>(cy.mp g).elim (λ z=>I.pin p<|bO _ z) λ z=>by
  refine HT λ S V=>?_;obtain⟨N,e⟩:=EO z;obtain⟨A,K,F,_⟩:=y p.1 N;obtain⟨o,W,d⟩:=j p.1 N;refine V ?_;clear V S;rw[e] at W;cases W;exact(e,A,K,F,d)
def Inv.unpinned{V T:LO}(I:Inv X (V++T) Z H s):Inv X V Z H s:=I.pins_of λ p S=>I.pin p<|bO _<|fk _ S
theorem EQ{F:Expr}(L:PassesOwn (TX X.prog X.w) X.A X.env X.xe)(hc:X.calm=TK)(hi:PI X tg F wi)(hg:PG X tg g)(K:PSs X Z tb)
  (hs:autoParam (∀x,VR F X.env x=Uo x) M2._auto_1):PS X (.For tg F Z [] pos)<|EN wi g tb:=by
 intro l s σ H D I h;refine wpAny_For (Yw (hi l s σ H _ I h) λ v s1 h1=>Yw h1 λ itv s2 h2=>?_) hs;refine HT λ t A=>?_;obtain⟨it,Y,tn,J,H2,e,I2,T,q,f2,W,⟨m0,w0⟩,E⟩:=h2;refine A ?_;clear A t;subst e;have z:∀ {c:Hp},(∀b∈Y,c b=TM)->∀b∈Y,iM X l c b:=λ hn b K=>(hn b K,(f2 b K).2);refine codeAny_forLoop_any (λ n s'=>∃i y c,Inv X l y c s'/\tn i s'.heap/\(∀b∈Y,c b=TM)/\W i n y c) ?_ m0 (0,σ,H2,I2,q,λ b K=>(f2 b K).1,w0);rintro n s3 ⟨i,j,M,I3,B,U,w3⟩
 rcases E i n j M w3 with ⟨G,qn⟩|⟨go,N,hN,step⟩
 .refine mP L<|Yw (T.done X rfl rfl rfl hc i l s3 j M X.xe I3 (z U) B G) λ r s4 S=>?_;obtain⟨R,I4⟩:=S;subst R;exact oY (j,M,I4,qn)
 .refine mP L<|Yw (T.item X rfl rfl rfl hc i l s3 j M X.xe I3 (z U) B go) λ r s4 S=>?_;obtain⟨u,R,h4⟩:=S;subst R;refine mP L<|Yw h4 λ _ s5 S=>?_;refine HT λ t A=>?_;obtain⟨x,H5,I5,r5,y5,a,O⟩:=S;refine A ?_;clear A t;have Q:=I5.pinned (z O)<|T.obj _ _ a;refine mP L<|Yw (hg _ s5 j H5 x u _ Q r5<|step x H5 y5) λ _ s6 S=>?_;obtain⟨σ6,H6,I6,q6⟩:=S;refine mP L<|Yw (K _ s6 σ6 H6 _ I6 q6) λ f P w=>?_
  have again:∀ {V:St}{k:Hp},Inv X (l++pk Y s5.heap) V k P->N V k->∃m,m<n/\∃i y c,Inv X l y c P/\tn i P.heap/\(∀b∈Y,c b=TM)/\W i m y c:=λ {V k} p C=>by
   obtain⟨m',hm,w7⟩:=hN V k C;refine(m',hm,i+1,V,k,p.unpinned,T.keep _ _ _ a λ b K o e=>(p.pin (b,o)<|bO _<|bO _<|kN K e).1,λ b K=>?_,w7);obtain⟨o,e,d⟩:=T.obj _ _ a b K;exact(p.pin (b,o)<|bO _<|bO _<|kN K e).2.1
  cases f with
  |next|cont=>obtain⟨V,k,p,C⟩:=w;exact again p C
  |brk=>obtain⟨V,k,p,w⟩:=w;exact(V,k,p.unpinned,w)
  |ret v=>obtain⟨x7,V,k,p,r7,w⟩:=w;exact(x7,V,k,p.unpinned,r7,w)
abbrev R2:=V->V->Hp->VK->Prop
def YL(X:Cx)(f:Value->Value->Sem Value)(r:R2):Prop :=
 ∀(S:LO) (s:TR) (T:St) (H:Hp) (x y:V) (v u:Value) (Q:VK),Inv X S T H s->RelV x v->RelV y u->r x y H Q ->
  TU (TX X.prog X.w) X.A (f v u) (EP X S T Q) X.xe s
def J0(X:Cx)(f:Value->Sem Value)(r:V->Hp->VK->Prop):Prop :=
 ∀(S:LO) (s:TR) (T:St) (H:Hp) (x:V) (v:Value) (Q:VK),Inv X S T H s->RelV x v->r x H Q ->
  TU (TX X.prog X.w) X.A (f v) (EP X S T Q) X.xe s
def bY(X:Cx)(f:Value)(r:List V->Hp->VK->Prop):Prop :=
 ∀(S:LO) (s:TR) (N:St) (H:Hp) (W:List V) (T:LV) (Q:VK),Inv X S N H s->Vals W T->r W H Q ->
  TU (TX X.prog X.w) X.A (call f T) (EP X S N Q) X.xe s
def b7(r:R2)(W N:TE):TE:=λ V H Q=>W V H λ x S=>N V S λ y T=>r x y T Q
def tUn(r:V->Hp->VK->Prop)(T:TE):TE:=λ W H Q=>T W H λ x S=>r x S Q
def rI(C:Int->Int->Prop)(g:Int->Int->V):R2:=λ x y H Q=>sg x y λ i j=>C i j/\Q (g i j) H
def b8(g:Int->Int->V):R2:=λ x y H Q=>sg x y λ i j=>Q (g i j) H
def rU(g:Int->V):V->Hp->VK->Prop:=λ x H Q=>isI x λ i=>Q (g i) H
theorem sC(z:PE X a U)(j:PE X b J){R:V->V->Hp->Prop}(I:Inv X Y Z H s)
  (h:U Z H λ x A=>J Z A λ y S=>R x y S){f:Value->Value->Sem Value}
  (g:∀v u N x y S,Inv X Y Z S N->RelV x v->RelV y u->R x y S->TU (TX X.prog X.w) X.A (f v u) Q X.xe N) :
  TU (TX X.prog X.w) X.A (eval a X.env) (λ v T=>TU (TX X.prog X.w) X.A (eval b X.env) (λ u W=>TU (TX X.prog X.w) X.A (f v u) Q X.xe W) X.xe T) X.xe s:=by
 refine Yw (z Y s Z H _ I h) λ v s1 (x,A,K,c,d)=>?_;refine Yw (j Y s1 Z A _ K d) λ u N (y,S,F,r2,o)=>?_;exact g v u N x y S F c r2 o
def ES(A:YL X (UA Z) r)(W:PE X a U)(N:PE X b J):PE X (.BinOp a Z b Y)<|b7 r U J:=by
 intro T s j H Q I h;exact wpAny_BinOp<|sC W N I h λ v u z x y V S K F q=>A T z j V x y v u Q S K F q
def ET(A:J0 X (unaryOp Z) r)(N:PE X a U):PE X (.UnaryOp Z a Y)<|tUn r U:=by
 intro V s S H Q I h;exact UnaryOp_ (Yw (N V s S H _ I h)<|by rintro v s1 ⟨x,T,W,F,K⟩;exact A V s1 S T x v Q W F K)
theorem u4{f:Value->Value->Sem Value}{C:Int->Int->Prop}{g:Int->Int->Int}
  (WR:∀(i j:Int) (t u:Tok) (s:TR) (Q:VS) (E:VS),C i j->Q (.int (g i j) s.toks) { s with toks:=s.toks+1 }->TU (TX X.prog X.w) X.A (f (.int i t)<|.int j u) Q E s) :
  YL X f<|rI C λ i j=>.int<|g i j:=by
 intro K s F H x y v u Q I W N h;refine HT λ S V=>?_;obtain⟨i,j,rfl,rfl,T,q⟩:=sh h;obtain⟨t,rfl⟩:=W;obtain⟨A,rfl⟩:=N;refine V ?_;clear V S;exact WR i j t A s _ _ T (.int<|g i j,H,I.tok _,(_,on),q)
theorem mQ{f:Value->Value->Sem Value}{g:Int->Int->Int}
  (WR:∀(i j:Int) (t u:Tok) (s:TR) (Q:VS) (E:VS),Q (.int (g i j) s.toks) { s with toks:=s.toks+1 }->TU (TX X.prog X.w) X.A (f (.int i t)<|.int j u) Q E s) :
  YL X f<|b8 λ i j=>.int<|g i j:=by
 intro A s K H x y v u Q I T W h;refine HT λ S V=>?_;obtain⟨i,j,rfl,rfl,q⟩:=sh h;obtain⟨t,rfl⟩:=T;obtain⟨N,rfl⟩:=W;refine V ?_;clear V S;exact WR i j t N s _ _ (.int<|g i j,H,I.tok _,(_,on),q)
theorem pq{f:Value->Value->Sem Value}{g:Int->Int->Bool}
  (WR:∀(i j:Int) (t u:Tok) (s:TR) (Q:VS) (E:VS),Q (.bool<|g i j) s->TU (TX X.prog X.w) X.A (f (.int i t)<|.int j u) Q E s) :
  YL X f<|b8 λ i j=>.bl<|g i j:=by
 intro W s N H x y v u Q I V S h;obtain⟨i,j,rfl,rfl,q⟩:=sh h;obtain⟨t,rfl⟩:=V;obtain⟨T,rfl⟩:=S;exact WR i j t T s _ _ (.bl<|g i j,H,I,on,q)
def mS(i j:Int):Prop:=0<=j/\j<=1000000/\i.natAbs<2 ^ 64
def CMul(i j:Int):Prop:=(-(2 ^ 64)<i/\i<2 ^ 64)\/(-(2 ^ 64)<j/\j<2 ^ 64)
def CMul.ok(h:CMul i j):Wp i j:=by
 rcases h with ⟨V,S⟩|⟨V,S⟩
 .exact .of_left<|XO V S
 .exact .of_right<|XO V S
def EU(k:Nat):(0:Int)<=2 ^ k:=by
 rw[two_pow_cast];exact s1f _
def EW:YL X (UA .Add)<|b8 λ i j=>.int<|i+j:=mQ λ _ _ _ _ _ _ _ q=>add_int q
def EY:YL X (UA .Sub)<|b8 λ i j=>.int<|i-j:=mQ λ _ _ _ _ _ _ _ q=>sub_int q
def EZ:YL X (UA .Mod)<|rI (λ _ j=>0<j) λ i j=>.int<|i%j:=u4 λ i j _ _ _ _ _ V q=>by
 have S:(0:Int)<j:=V;exact mod_int' BT (by rw[wM i BT];exact q)
def Fa:YL X (UA .Mod)<|rI (λ _ j=>j≠0) λ i j=>.int<|i.fmod j:=u4 λ _ _ _ _ _ _ _ V q=>mod_int' V q
def Fb:YL X (UA .Pow)<|rI mS λ i j=>.int<|i ^ j.toNat:=u4 λ _ _ _ _ _ _ _ V q=>pow_int_small V.1 V.2.1 V.2.2 q
def Fc:YL X (UA .RShift)<|rI (λ _ j=>0<=j) λ i j=>.int<|i/2 ^ j.toNat:=u4 λ i j _ _ _ _ _ V q=>
 rshift_int V (by rw[pr i<|EU _];exact q)
def Fd:YL X (UA .BitAnd)<|b8 λ i j=>.int<|Builtin.bitAnd i j:=mQ λ _ _ _ _ _ _ _ q=>and_int q
def Fe:YL X (UA .BitOr)<|b8 λ i j=>.int<|Builtin.bitOr i j:=mQ λ _ _ _ _ _ _ _ q=>or_int q
def Ff:YL X (UA .BitXor)<|b8 λ i j=>.int<|Builtin.bitXor i j:=mQ λ _ _ _ _ _ _ _ q=>xor_int q
theorem unI{f:Value->Sem Value}{g:Int->Int}
  (WR:∀(i:Int) (t:Tok) (s:TR) (Q:VS) (E:VS),Q (.int (g i) s.toks) { s with toks:=s.toks+1 }->TU (TX X.prog X.w) X.A (f<|.int i t) Q E s) :
  J0 X f<|rU λ i=>.int<|g i:=by
 intro S s T H x v Q I V h;obtain⟨i,rfl,q⟩:=Ej h;obtain⟨t,rfl⟩:=V;exact WR i t s _ _ (.int<|g i,H,I.tok _,(_,on),q)
def Fg:J0 X (unaryOp .USub)<|rU λ i=>.int<|-i:=unI λ _ _ _ _ _ q=>neg_int q
noncomputable def iN:V->V->Bool
 |.non,.non=>TK|.non,.int _=>TK|.int _,.non=>TK|.non,.bl _=>TK|.bl _,.non=>TK|.non,.str _=>TK|.str _,.non=>TK
 |.int _,.int _=>TK|.bl _,.bl _=>TK|.str _,.str _=>TK|.byt _,.byt _=>TK
 |.int _,.str _=>TK|.str _,.int _=>TK|.bl _,.str _=>TK|.str _,.bl _=>TK
 |_,_=>TL
def l7:R2:=λ x y H Q=>match x,y with
 |.int i,.int j=>Q (.bl<|decide<|i=j) H
 |.str i,.str j=>Q (.bl<|decide<|i=j) H
 |x,y=>iN x y=TK/\Q (.bl<|decide<|x=y) H
def J2(i j:Int):decide (V.int i=V.int j)=decide (i=j):=px.mpr (λ h=>V.int.inj h,λ h=>h ▸ rfl)
def J3(i j:Str):decide (V.str i=V.str j)=decide (i=j):=px.mpr (λ h=>V.str.inj h,λ h=>h ▸ rfl)
def py(p:Prop):p=(TK=TK/\p):=propext (λ h=>(rfl,h),λ h=>h.2)
def rEq_ex:l7 x y H Q=(iN x y=TK/\Q (.bl<|decide<|x=y) H):=by
 cases x<;>cases y<;>first|rfl|(rw[J2];exact py _)|(rw[J3];exact py _)
def Fh(h:l7 x y H Q):iN x y=TK/\Q (.bl<|decide<|x=y) H:=rEq_ex.mp h
def J4:R2:=λ x y H Q=>match x,y with
 |.int i,.int j=>Q (.bl<|!decide (i=j)) H
 |.str i,.str j=>Q (.bl<|!decide (i=j)) H
 |x,y=>iN x y=TK/\Q (.bl<|!decide (x=y)) H
def rNe_ex:J4 x y H Q=(iN x y=TK/\Q (.bl<|!decide (x=y)) H):=by
 cases x<;>cases y<;>first|rfl|(rw[J2];exact py _)|(rw[J3];exact py _)
def Fj(h:J4 x y H Q):iN x y=TK/\Q (.bl<|!decide (x=y)) H:=rNe_ex.mp h
def wN:decide (V.int i=V.int j)=(i == j):=by
 rw[gY];simp
def sD:decide (V.bl i=V.bl j)=(i == j):=by
 rw[gY];simp
def wO:decide (V.str i=V.str j)=(i == j):=by
 rw[gY];simp
def wP:decide (V.byt i=V.byt j)=(i.toList == j.toList):=by
 rw[gY];cases i;cases j;simp
section
variable {Z Y U:TE}
def sG{Q:VK}{k V:Bool}(I:Inv X J L H s)(q:Q (.bl k) H)(e:k=V):EP X J L Q (.bool V) s:=by
 subst e;exact(.bl k,H,I,on,q)
open PySem.EqNone PySem.EqMixed in
def wQ(g:Bool):YL X (Ut<|cond g .NotEq .Eq) λ x y H Q=>iN x y=TK/\Q (.bl<|cond g (!decide (x=y))<|decide<|x=y) H:=by
 intro A s K H x y v u Q I N V (T,q);have f:∀ {b},decide (x=y)=b->EP X A K Q (.bool<|cond g (!b) b) s:=λ e=>sG I q (by rw[e])
 cases x with
 |non=>
  cases N
  cases y with
  |non=>cases V;cases g;exact eq_none_none<|f rfl;exact ne_none_none<|f rfl
  |bl j=>cases V;cases g;exact eq_none_bool<|f rfl;exact ne_none_bool<|f rfl
  |int j=>obtain⟨S,rfl⟩:=V;cases g;exact eq_none_int<|f rfl;exact ne_none_int<|f rfl
  |str j=>obtain⟨S,rfl⟩:=V;cases g;exact eq_none_str<|f rfl;exact ne_none_str<|f rfl
  |_=>cases T
 |bl i=>
  cases N
  cases y with
  |non=>cases V;cases g;exact eq_bool_none<|f rfl;exact ne_bool_none<|f rfl
  |bl j=>cases V;cases g;exact eq_bool<|f sD;exact ne_bool<|f sD
  |str j=>obtain⟨S,rfl⟩:=V;cases g;exact eq_bool_str<|f rfl;exact ne_bool_str<|f rfl
  |_=>cases T
 |int i=>
  obtain⟨t,rfl⟩:=N
  cases y with
  |non=>cases V;cases g;exact eq_int_none<|f rfl;exact ne_int_none<|f rfl
  |int j=>obtain⟨S,rfl⟩:=V;cases g;exact eq_int<|f wN;exact ne_int<|f wN
  |str j=>obtain⟨S,rfl⟩:=V;cases g;exact eq_int_str<|f rfl;exact ne_int_str<|f rfl
  |_=>cases T
 |str i=>
  obtain⟨t,rfl⟩:=N
  cases y with
  |non=>cases V;cases g;exact eq_str_none<|f rfl;exact ne_str_none<|f rfl
  |bl j=>cases V;cases g;exact eq_str_bool<|f rfl;exact ne_str_bool<|f rfl
  |int j=>obtain⟨S,rfl⟩:=V;cases g;exact eq_str_int<|f rfl;exact ne_str_int<|f rfl
  |str j=>obtain⟨S,rfl⟩:=V;cases g;exact eq_str<|f wO;exact ne_str<|f wO
  |_=>cases T
 |byt i=>
  obtain⟨t,rfl⟩:=N
  cases y with
  |byt j=>obtain⟨S,rfl⟩:=V;cases g;exact W.eq_bytes<|f wP;exact W.ne_bytes<|f wP
  |_=>cases T
 |_=>cases y<;>cases T
def sH:YL X (Ut .Eq) l7:=λ a b c d x y e f g h i j k=>wQ TL a b c d x y e f g h i j<|Fh k
def Fk:YL X (Ut .NotEq) J4:=λ a b c d x y e f g h i j k=>wQ TK a b c d x y e f g h i j<|Fj k
def Fl:YL X (Ut .Lt)<|b8 λ i j=>.bl<|decide<|i<j:=pq λ _ _ _ _ _ _ _ q=>lt_int q
def Fm:YL X (Ut .LtE)<|b8 λ i j=>.bl<|decide<|i<=j:=pq λ _ _ _ _ _ _ _ q=>le_int q
def Fn:YL X (Ut .Gt)<|b8 λ i j=>.bl<|decide<|j<i:=pq λ _ _ _ _ _ _ _ q=>gt_int q
def Fo:YL X (Ut .GtE)<|b8 λ i j=>.bl<|decide<|j<=i:=pq λ _ _ _ _ _ _ _ q=>ge_int q
def Fp:YL X (Ut .Is) λ x y H Q=>y=.non/\Q (.bl<|decide<|x=.non) H:=by
 intro T s W H x y v u Q I V S h;obtain⟨rfl,q⟩:=h;cases S;refine is_none_gen<|sG I q ?_
 cases x<;>first
  |(cases V;rfl)
  |(obtain⟨t,rfl⟩:=V;rfl)
def Fq:YL X (Ut .IsNot) λ x y H Q=>y=.non/\Q (.bl<|!decide (x=.non)) H:=by
 intro T s W H x y v u Q I V S h;obtain⟨rfl,q⟩:=h;cases S;refine isnot_none_gen<|sG I q ?_
 cases x<;>first
  |(cases V;rfl)
  |(obtain⟨t,rfl⟩:=V;rfl)
def sJ(K:YL X (Ut J) r)(W:PE X a Z)(N:PE X b Y)(A:Vc J b=TL):PE X (.Compare a [J] [b] L)<|b7 r Z Y:=by
 intro T s g H Q I h;exact wpAny_Compare1 (sC W N I h λ v u j x y V S F z q=>K T j g V x y v u Q S F z q) A
def wT(t:TE):TT:=λ S H Q=>t S H λ x V=>isB x λ k=>Q k V
def Fs(m:YL X (Ut J) r)(g:PE X a Z)(d:PE X b Y)(o:Vc J b=TL):PT X (.Compare a [J] [b] L)<|wT<|b7 r Z Y:=by
 intro V s T H Q I h
 refine wpAny_isTrue_Compare1 (Yw (g V s T H _ I h) λ v s1 (x,W,K,t,p)=>Yw (d V s1 T W _ K p) λ u n (y,N,F,r2,i) =>
  Yw (m V n T N x y v u _ F t r2 i) λ c w (z,A,j,l,S)=>?_) o
 obtain⟨k,e,S⟩:=kK S;subst e;cases l;exact gz (A,j,S)
def wV(r A:R2)(Z Y U:TE):TE:=λ V H Q=>Z V H λ x T=>Y V T λ y W=>r x y W λ z S=>∃k,z=.bl k /\
 (if k=TK then U V S λ K N=>A y K N Q else Q (.bl TL) S)
theorem Fu(n:YL X (Ut L) r)(T:YL X (Ut J) E)(p:PE X a Z)(i:PE X b Y)(t:PE X c U)
  (l:autoParam (Xx [L,J] [b,c]=TL) M1._auto_1):PE X (.Compare a [L,J] [b,c] D)<|wV r E Z Y U:=by
 intro V s S H Q I h
 refine Compare_chain (Yw (p V s S H _ I h) λ v s1 (x,K,g,M,w)=>chain_link<|Yw (i V s1 S K _ g w) λ u C (y,F,o,r2,B) =>
  Yw (n V C S F x y v u _ o M r2 B) λ d P (z,W,N,O,k,e,A)=>?_) l
 subst e;cases O;refine gz ?_
 cases k with
 |false=>exact ite_ff (.bl TL,W,N,rfl,A)
 |true=>exact ite_tt (chain_last<|Yw (t V P S W _ N A)<|by rintro f q ⟨z',j,m,R,G⟩;exact T V q S j y z' u f Q m r2 R G)
theorem Fv(C:YL X (Ut L) r)(F:YL X (Ut J) r')(E:PE X a Z)(M:PE X b Y)(O:PE X c U)
  (R:autoParam (Xx [L,J] [b,c]=TL) M1._auto_1):PT X (.Compare a [L,J] [b,c] P)<|wT<|wV r r' Z Y U:=by
 intro S s W H Q I h
 refine isTrue_chain (Yw (E S s W H _ I h) λ v s1 (x,m,l,r1,f)=>test_link<|Yw (M S s1 W m _ l f) λ u s2 (y,p,n,r2,q2) =>
  Yw (C S s2 W p x y v u _ n r1 r2 q2) λ d s3 (z,A,g,r3,k,e,o)=>?_) R
 subst e;cases r3;refine gz ?_
 cases k with
 |false=>
  obtain⟨k',B,q⟩:=kK (show isB (V.bl TL) (λ k=>Q k A) from o);cases B;exact ite_ff (A,g,q)
 |true=>
  refine ite_tt<|test_last<|Yw (O S s3 W A _ g o) λ w' s4 (z',i,w,r4,q4)=>Yw (F S s4 W i y z' u w' _ w r2 r4 q4) λ d' s5 K=>?_;refine HT λ N T=>?_;obtain⟨z2,t,D,r5,j⟩:=K;obtain⟨k2,G,j⟩:=kK j;refine T ?_;clear T N;subst G;cases r5;exact gz (t,D,j)
def kO:(TW:Nat)<2 ^ 63:=by rw[iO];decide
def cM{x:V}(r:Vals [x] J):∃u,J=[u]/\RelV x u:=by
 cases r with
 |cons S r2=>cases r2;exact(_,rfl,S)
def jH{x y:V}(r:Vals [x,y] L):∃u J,L=[u,J]/\RelV x u/\RelV y J:=by
 cases r with
 |cons S r2=>
  cases r2 with
  |cons T W=>cases W;exact(_,_,rfl,S,T)
def Fw:bY X (.builtin "abs") λ T H Q=>∃i,T=[.int i]/\Q (.int<|if i<0 then -i else i) H:=by
 intro W s K H T A Q I r h;refine HT λ S V=>?_;obtain⟨i,rfl,q⟩:=h;obtain⟨u,rfl,t,rfl⟩:=cM r;refine V ?_;clear V S;exact call_abs_int λ u N=>(.int<|if i<0 then -i else i,H,I.tok _,(_,on),q)
def Fx(N:X.calm=TK):bY X (.builtin "max") λ W H Q=>∃i j,W=[.int i,.int j]/\Q (.int<|if j > i then j else i) H:=by
 intro A s g H W y Q I r h;refine HT λ T V=>?_;obtain⟨i,j,rfl,q⟩:=h;obtain⟨u,v,rfl,⟨t,rfl⟩,⟨F,rfl⟩⟩:=jH r;refine V ?_;clear V T;refine max_two_ints (I.ok.hd N) λ K z k=>(_,H,I.kept k,?_,q);by_cases S:j > i
 .rw[U0 S,U0 S];exact(_,rfl)
 .rw[T9 S,T9 S];exact(_,rfl)
def Fy(N:X.calm=TK):bY X (.builtin "min") λ W H Q=>∃i j,W=[.int i,.int j]/\Q (.int<|if j<i then j else i) H:=by
 intro A s g H W y Q I r h;refine HT λ T V=>?_;obtain⟨i,j,rfl,q⟩:=h;obtain⟨u,v,rfl,⟨t,rfl⟩,⟨F,rfl⟩⟩:=jH r;refine V ?_;clear V T;refine min_two_ints (I.ok.hd N) λ K z k=>(_,H,I.kept k,?_,q);by_cases S:j<i
 .rw[U0 S,U0 S];exact(_,rfl)
 .rw[T9 S,T9 S];exact(_,rfl)
def wW:bY X (.type "int") λ V H Q=>(∃i,V=[.int i]/\Q (.int i) H)\/∃k,V=[.bl k]/\Q (.int<|if k then 1 else 0) H:=by
 intro T s N H V W Q I r h
 rcases h with ⟨i,rfl,q⟩|⟨k,rfl,q⟩
 .obtain⟨u,rfl,t,rfl⟩:=cM r;exact call_int_int (.int i,H,I,(_,on),q)
 .obtain⟨u,rfl,S⟩:=cM r;cases S;exact call_int_bool (.int<|if k then 1 else 0,H,I.tok _,(_,on),q)
end
set_option tactic.hygienic true in
def FC{h:Ue}(n:h.Ns1 Y U):∃Z,h.get? Y=TJ Z/\∀V,W.lookIn V Z=TJ (U V):=by
 refine HT λ N S=>?_;obtain⟨o,A,c,g,F,v,_,j⟩:=n;refine S ?_;clear S N;refine(o,g,λ V=>?_);have e:=j V;unfold nsFind findBy at e;rw[<- Array.find?_toList] at e;unfold W.lookIn;rw[F];dsimp only;split
 .rename_i y q;rw[q] at e;exact bT TJ e
 .rename_i q;rw[q] at e
  have a:A.toList.any (·.refKey)=TL:=by
   rw[List.any_eq_false];intro y d;obtain⟨z,t,T⟩:=v y<|s0g.mp d;simp[DictEntry.refKey,T]
  have K:¬A.toList.any (·.refKey)=TK:=by rw[a];exact dz
  rw[T9 K];exact bT TJ e
section
variable {Y:Uh}{w:Ui}{A:Uk}{E:VS}{s:TR}{K:FG}{x U C f:TQ}{V:SV}{Z:Str}{v:Value}
end
noncomputable def dW(f:Str)(v:V):List (Str×V)->List (Str×V)
 |[]=>[(f,v)]
 |(g,x)::r=>if g=f then (g,v)::r else (g,x)::dW f v r
theorem wY(f g:Str)(v:V):∀W:List<|Str×V,(dW f v W).lookup g=if g=f then TJ v else W.lookup g
 |[]=>by
  show Uz g [(f,v)]=_;by_cases h:g=f
  .have S:(g == f)=TK:=dJ.mpr h;simp only[Uz,S,U0 h]
  .have S:(g == f)=TL:=mK.mpr h;simp only[Uz,S,T9 h]
 |(k,x)::r=>by
  have N:=wY f g v r;rw[show dW f v ((k,x)::r)=(if k=f then (k,v)::r else (k,x)::dW f v r) from rfl];by_cases T:k=f
  .rw[U0 T];by_cases h:g=k
   .have S:(g == k)=TK:=dJ.mpr h;simp only[Uz,S,U0 (h.trans T)]
   .have S:(g == k)=TL:=mK.mpr h;simp only[Uz,S,T9 (λ e:g=f=>h<|e.trans T.symm)]
  .rw[T9 T];by_cases h:g=k
   .have S:(g == k)=TK:=dJ.mpr h;simp only[Uz,S,T9 (λ e:g=f=>T<|h.symm.trans e)]
   .have S:(g == k)=TL:=mK.mpr h;simp only[Uz,S];exact N
theorem sK(f:Str)(v:V):∀S:List<|Str×V,f∈(dW f v S).map (·.1)/\∀g,g∈S.map (·.1)->g∈(dW f v S).map (·.1)
 |[]=>(by simp[dW],λ g h=>by simp at h)
 |(k,x)::r=>by
  obtain⟨i1,i2⟩:=sK f v r;rw[show dW f v ((k,x)::r)=(if k=f then (k,v)::r else (k,x)::dW f v r) from rfl];by_cases T:k=f
  .rw[U0 T];subst T;exact(Cr,λ g h=>by simpa using h)
  .rw[T9 T];refine(?_,λ g h=>?_)
   .rw[cB];exact bz _ i1
   .rw[cB] at h ⊢
    rcases aD.mp h with e|e
    .exact aD.mpr<|.inl e
    .exact bz _<|i2 g e
theorem wZ(f:Str)(v:V):∀S:List<|Str×V,(dW f v S).length<=S.length+1
 |[]=>by simp[dW]
 |(k,x)::r=>by
  have W:=wZ f v r;rw[show dW f v ((k,x)::r)=(if k=f then (k,v)::r else (k,x)::dW f v r) from rfl];by_cases T:k=f
  .rw[U0 T,Up,Up];lia
  .rw[T9 T,Up,Up];lia
def RelO.some_of(r:RelO (TJ v) o):∃u,o=TJ u/\RelV v u:=by
 cases o with
 |none=>exact(show False from r).elim
 |some u=>exact(u,rfl,r)
def FD(r:RelV v u):W.handedIn u=TK:=by
 cases v with
 |non=>cases (show u=Us from r);rfl
 |bl b=>cases (show u=UW b from r);rfl
 |int i=>obtain⟨t,e⟩:=(show ∃t,u=Wu i t from r);cases e;rfl
 |str x=>obtain⟨t,e⟩:=(show ∃t,u=Xw x t from r);cases e;rfl
 |byt b=>obtain⟨t,e⟩:=(show ∃t,u=Yn b t from r);cases e;rfl
 |flt b=>obtain⟨t,e⟩:=(show ∃t,u=Yo b t from r);cases e;rfl
 |ref a=>cases (show u=Ug a from r);rfl
 |ty n=>cases (show u=Uq n from r);rfl
section
variable {P:Uh}{w:Ui}{H Y:Hp}{h L:Ue}{a C U:TQ}{J Z:List (Str×V)}
end
def NoAttr(K:FG)(C:TQ)(f:Str):Prop:=W.findIn K (.ref C) f=TJ TM
def NoAttr.taker{K:FG}(n:NoAttr K C f):W.takerIn K C f=TJ TM:=by
 unfold W.takerIn;rw[show W.findIn K (.ref C) f=TJ TM from n];rfl
section
variable {s:TR}{f:Str}
theorem FE(S:VP e f Z (eval e Z)=eval e Z)
  (h:TU (TX Y w) A (eval e Z) (λ o V=>TU (TX Y w) A (getAttr o f TK) Q E V) E s):TU (TX Y w) A (eval (.Attribute e f U) Z) Q E s :=
 Attribute_any_ h (by rw[arm_eval_Attribute,S])
end
section
variable {o e Z:Expr}{f:Str}{V U Y:Pos}{J L:TE}
end
section
variable {Z:LO}{Y:St}{H:Hp}{s:TR}{A:Uk}{E:VS}{Q:VS}{c:Value}{b:Bool}
end
structure Room (k:Nat)(A:Uk):Prop where
 hd:A.handled=TM
 dp:A.depth+3*k+5<Xu
 un:A.units+16*k+200<Vn
def Room.mono{j k:Nat}(r:Room k A)(h:j<=k):Room j A:=(r.hd,by have:=r.dp;lia,by have:=r.un;lia)
def Room.deeper{k:Nat}(r:Room (k+1) A)(V:Env):Room k (A.deeper V) :=
 (r.hd,by have:=r.dp;show A.depth+1+3*k+5<_;lia,by have:=r.un;show A.units+3+16*k+200<_;lia)
def FF{A:Uk}{S:LV}{V:List (Str×Value)}:(A.under<|.builtin "type.__call__" (.ref C::S,V)).depth=A.depth+1:=by
 first|rfl|simp[Around.under,Code.weight,Code.isCreation,Code.isGuard,Code.isCaller,Code.frames,Code.isFrame,guardIds]
def FH{A:Uk}{S:LV}{V:List (Str×Value)}:(A.under<|.builtin "type.__call__" (.ref C::S,V)).units=A.units+1:=by
 first|rfl|simp[Around.under,Code.cUnits,Code.frames,Code.isFrame]
def Room.make{k:Nat}(r:Room (k+1) A)(C:TQ)(S:LV)(V:List<|Str×Value):Room k (A.under<|.builtin "type.__call__" (.ref C::S,V)) :=
 (r.hd,by have:=r.dp;rw[FF];lia,by have:=r.un;rw[FH];lia)
def Room.depth(r:Room k A):A.depth<Xu:=by have:=r.dp;lia
def kP:TA:=λ _ H Q=>Q [] H
def sM(W:TE)(N:TA):TA:=λ V H Q=>W V H λ x S=>N V S λ A T=>Q (x::A) T
section
variable {t:TA}
def pa_nil:PA X [] kP:=λ _ _ _ _ H Q I h=>sO ([],H,I,.nil,h)
def bK(v:PE X e Y)(j:PA X Z t)(g:autoParam (Ud (e::Z) X.env=(TL,eval e X.env)::Ud Z X.env) Ty._auto_1):PA X (e::Z)<|sM Y t:=by
 intro S N s A H Q I h;rw[g];show TU _ _ (spliced<|(TL,eval e X.env)::UD S (Ud Z X.env)) _ _ s;refine sP<|Yw (v N s A H _ I h) λ u s1 W=>?_;refine HT λ T V=>?_;obtain⟨x,K,z,c,d⟩:=W;refine V ?_;clear V T;exact Yw (j S N s1 A K _ z d) (by rintro b m ⟨k,F,y,r2,o⟩;exact (x::k,F,y,.cons c r2,o))
def FJ(t:TA):TE:=λ T H Q=>t T H λ S V=>S.length<=TW/\∀p,V p=TM->Q (.ref p) (Yu V p<|.tup S)
def mU(t:TA):TE:=λ T H Q=>t T H λ S V=>S.length<=TW/\∀p,V p=TM->Q (.ref p) (Yu V p<|.lst S)
def sQ{K}(h:PA X Y t):PE X (.Tuple Y K Z)<|FJ t:=by
 intro T s y H Q I N;refine wpAny_Tuple_spliced<|Yw (h Z T s y H _ I N) λ A s1 (F,V,S,r,z,q)=>(by rw[<- r.length];exact z,?_);have W:V s1.heap.objs.size=TM:=S.hok.fresh<|ax _;refine(.ref s1.heap.objs.size,Yu V s1.heap.objs.size<|.tup F,S.laid (t':=s1.toks) (λ b u e=>aJ _ e) (ax _) ?_,on,q _ W);exact(z,A,r,(_,bJ _ rfl,(on,_,on),on))
def sU(h:PA X Y t):PE X (.List Y Z)<|mU t:=by
 intro T s F H Q I N;refine wpAny_List_spliced<|Yw (h Z T s F H _ I N) λ A s1 (K,V,S,r,z,q)=>(by rw[<- r.length];exact z,?_);have W:V s1.heap.objs.size=TM:=S.hok.fresh<|ax _;refine(.ref s1.heap.objs.size,Yu V s1.heap.objs.size<|.lst K,S.laid (t':=s1.toks) (λ b u e=>aJ _ e) (ax _) ?_,on,q _ W);exact(z,A,0,r,bJ _ rfl)
end
abbrev Sp:=List V->Hp->VK->XK->Prop
abbrev Zq:=List Env->Hp->TR->XK->VS
structure Env0 (P:Uh)(w:Ui)(K:FG)(mg:SV)(base:Ue)(A:Uk)(outer:List Env)(s:TR)(H:Hp):Prop where
 frames:A.frames=TJ outer
 mod:Mod K mg base
 bs:∀b o,base.get? b=TJ o->s.heap.get? b=TJ o/\H b=TM
 bsz:base.objs.size<=s.heap.objs.size
 funs:s.heap.FunFrames base outer
 frf:∀b∈YF outer,H b=TM
 hok:HOk P w H s.heap
 bare:UV s.gens
def CE(V:List Env)(P:Uh)(w:Ui)(H:Hp)(s:TR)(Q:VK)(u:Value)(S:TR):Prop :=
 ∃v T,S.os=s.os/\UV S.gens/\Un (YF V) [] H T s.heap S.heap/\HOk P w T S.heap/\RelV v u/\Q v T
def CR(T:Zq)(V:List Env)(P:Uh)(w:Ui)(H:Hp)(s:TR)(Q:VK)(E:XK)(r:Wa)(S:TR):Prop :=
 match r with
 |.ok (.ret u)=>CE V P w H s Q u S
 |.ok _=>False
 |.error e=>T V H s E e S
structure FnOk (P:Uh)(w:Ui)(K:FG)(mg:SV)(base:Ue)(CX:Zq)(k:Nat)(f:TQ)(fd:Uu)(ps:List Str)(sp:Sp):Prop where
 len:∀vs H Q E,sp vs H Q E->vs.length=ps.length
 run:∀(A:Uk) (outer:List Env) (s:TR) (H:Hp) (args:Args) (us:LV) (vs:List V) (Q:VK) (E:XK),Room k A->Env0 P w K mg base A outer s H->Wl s fd args (ps.zip us)->Vals vs us->sp vs H Q E ->
  UM (TX P w) A (.call (.ref f) args) (CR CX outer P w H s Q E) s
theorem FnOk.mono{K:FG}{j k:Nat}(F:FnOk P w K J Z Y j f U L D)(h:j<=k) :
  FnOk P w K J Z Y k f U L D:=(F.len,λ A V s H S W vs Q E T=>F.run A V s H S W vs Q E<|T.mono h)
theorem FnOk.imp{K:FG}{W T:Sp}(F:FnOk P w K J Z Y k f U L W)
  (h:∀vs H Q E,T vs H Q E->W vs H Q E):FnOk P w K J Z Y k f U L T :=
 (λ vs H Q E q=>F.len vs H Q E<|h _ _ _ _ q,λ A V s H S g vs Q E y z N j v=>F.run A V s H S g vs Q E y z N j<|h _ _ _ _ v)
theorem Env0.make{K:FG}(e:Env0 P w K U Y A Z s H)(C:TQ)(S:LV)(V:List<|Str×Value) :
  Env0 P w K U Y (A.under<|.builtin "type.__call__" (.ref C::S,V)) Z s H:=(by first|exact e.frames|(simpa [Around.under,Code.envs,Code.isFrame,pushEnvs] using e.frames),e.mod,e.bs,e.bsz,e.funs,e.frf,e.hok,e.bare)
def Inv.env0(I:Inv X Z Y H s):Env0 X.prog X.w X.K X.mg X.base X.A X.stack s H :=
 (I.ok.frames,I.ok.mod,I.bs,cw I.ok.bsz I.sz,I.stack,I.stkFree,I.hok,I.bare)
def Inv.after(I:Inv X Y U H s)(h:CE X.stack X.prog X.w H s Q u Z):EP X Y U Q u Z:=by
 refine HT λ S V=>?_;obtain⟨v,W,os,bare,un,hok,r,q⟩:=h;obtain⟨N,g,d,t,T⟩:=Z;obtain rfl:T=s.os:=os;refine V ?_;clear V S;exact(v,W,I.call (h':=N) (g':=g) (d':=d) (t':=t) (ch:=[]) un hok bare λ b z=>U1 z Cr,r,q)
def xa(W:Sp)(S:List V)(E:XK)(t:TA):TE:=λ N H Q=>t N H λ vs T=>W (vs++S) T Q E
def Binds(K:FG)(W:Uu)(T:List Str)(S:LV):Prop :=
 ∀(s:TR) (V:LV),K.In s.heap->(V++S).length=T.length->Wl s W (V,[]) (T.zip<|V++S)
def Binds.all{K:FG}{S:List Str}(h:∀V:LV,V.length=S.length->VF Z (V,[])=Uo (S.zip V)):Binds K Z S []:=λ s V _ T=>by
 rw[eR] at T ⊢;exact .of_eq<|h V T
def kQ(S:Zq)(X:Cx)(E:XK):Prop:=∀(T:LO) (W:St) (H:Hp) (s:TR) (e:Value) (V:TR),Inv X T W H s->S X.stack H s E e V->X.xe e V
section
variable {e:Expr}{Z:List Expr}
theorem FK{vs:List V}(F:FnOk X.prog X.w X.K X.mg X.base G k f M D O)(K:Room k X.A)(W:Binds X.K M D J)(N:Vals Y J)(z:kQ G X E)
  (I:Inv X L B H s) (r:Vals vs U) (h:O (vs++Y) H Q E):TU (TX X.prog X.w) X.A (call (.ref f) U) (EP X L B Q) X.xe s:=by
 have r2:Vals (vs++Y)<|U++J:=r.append N;have A:(U++J).length=D.length:=by rw[<- r2.length];exact F.len _ _ _ _ h
 refine gZ<|jI (F.run X.A X.stack s H (U,[]) (U++J) (vs++Y) Q E K I.env0 (W s U I.kIn A) r2 h) λ r y S=>?_
 cases r with
 |error e=>exact z L B H s e y I S
 |ok T=>
  cases T with
  |ret u=>exact I.after S
  |next|brk|cont=>exact Uw S
theorem FL(F:FnOk X.prog X.w X.K X.mg X.base J k f D B G)(d:Room k X.A)(v:Gl X x)(g:X.mg x=TJ (.ref f))(j:W.keepIn X.K (.ref f)=TK)(K:Binds X.K D B L)(z:Vals U L)(o:kQ J X E)
  (A:PA X (e::Z) t) (V:autoParam ((x == ("__debug__" : Str))=TL) Cl._auto_1) (y:autoParam (Ud (e::Z) X.env=(TL,eval e X.env)::Ud Z X.env) Ty._auto_1) (S:autoParam ((UD Y<|Ud Z X.env).any (·.1)=TL) Ty._auto_1) :
  PE X (.Call (.Name x p) (e::Z) [] Y)<|xa G U E t:=by
 intro N s c H Q I h;refine iP<|fV I v g ?_ V;refine pA (h₀:=X.base) I.ok.mod.kin j (Yw (A Y N s c H _ I h) λ b s1 (vs,m,T,r,q)=>(T.kIn,?_)) y S;exact FK F d K z o T r q
end
section
variable {M:Zq}{k:Nat}{f C:TQ}{T:Uu}{I L:List Str}{D:Sp}{E:XK}{x m:Str}{p U Z Y:Pos}{e o:Expr}{W:List Expr}{J:List VU}{G N:TE}{t B:TA}{S:Option Str}
variable {g:LV->LV->LV}{Q:List V->List V->List V}
end
structure YG (N P:List Str)(sc:Scope):Prop where
 kind:sc.kind=.function
 co:sc.isCoroutine=TL
 gen:sc.isGenerator=TL
 nd:N.Nodup
 pre:N.take P.length=P
 par:∀x∈P,sc.names.lookup x=TJ .local\/sc.names.lookup x=TJ .cell
 nofree:∀y∈sc.names,y.2≠.free
theorem xb{kindOf:Str->Option Uj}{x:Str}:∀ {V:List (Str×Value)}{m:SV},(∀v,(x,v) ∉ V)->Vs kindOf V m x=m x
 |[],_,_=>rfl
 |(n,v)::r,m,h=>by
  unfold Vs;rw[xb λ w S=>h w<|bz _ S];split
  .have:x≠n:=by rintro rfl;exact h v bn
   simp[this]
  .rfl
theorem xc{kindOf:Str->Option Uj}{x:Str}:∀ {V:List (Str×Value)}{m:SV},(∀v,(x,v) ∉ V)->Vr kindOf V m x=m x
 |[],_,_=>rfl
 |(n,v)::r,m,h=>by
  unfold Vr;rw[xc λ w S=>h w<|bz _ S];split
  .rfl
  .have:x≠n:=by rintro rfl;exact h v bn
   simp[this]
theorem sV{kindOf:Str->Option Uj}:∀ {P:List Str}{vs:LV}{i:Nat}{m:SV},P.Nodup->P[i]?=TJ x->vs[i]?=TJ v->kindOf x=TJ .local ->
  Vs kindOf (P.zip vs) m x=TJ v
 |[],_,_,_,_,h,_,_=>by simp at h
 |_::_,[],_,_,_,_,h,_=>by simp at h
 |p::P,w::vs,0,m,W,V,S,T=>by
  simp at V S;subst V;subst S;show Vs kindOf ((p,w)::P.zip vs) m p=_;unfold Vs;rw[xb λ v N=>(gB.mp W).1 (pE N).1,U0 T];simp
 |p::P,w::vs,i+1,m,W,V,S,T=>by
  show Vs kindOf ((p,w)::P.zip vs) m x=_;unfold Vs;exact sV (i:=i) (gB.mp W).2 (by simpa using V) (by simpa using S) T
theorem sW{kindOf:Str->Option Uj}:∀ {P:List Str}{vs:LV}{i:Nat}{m:SV},P.Nodup->P[i]?=TJ x->vs[i]?=TJ v->kindOf x≠TJ .local ->
  Vr kindOf (P.zip vs) m x=TJ v
 |[],_,_,_,_,h,_,_=>by simp at h
 |_::_,[],_,_,_,_,h,_=>by simp at h
 |p::P,w::vs,0,m,W,V,S,T=>by
  simp at V S;subst V;subst S;show Vr kindOf ((p,w)::P.zip vs) m p=_;unfold Vr;rw[xc λ v N=>(gB.mp W).1 (pE N).1,T9 T];simp
 |p::P,w::vs,i+1,m,W,V,S,T=>by
  show Vr kindOf ((p,w)::P.zip vs) m x=_;unfold Vr;exact sW (i:=i) (gB.mp W).2 (by simpa using V) (by simpa using S) T
noncomputable def Yy(N:List Str)(vs:List V):St:=vs.map TJ++TY (N.length-vs.length) TM
noncomputable def dw(F:Zq)(P:Uh)(w:Ui)(K:FG)(mg:SV)(base:Ue)(N:List Str)(S:Str)(V:Scope)(f:TQ)(W:Value)(A:Uk)(outer:List Env)(s:TR)(H:Hp)(E:XK):Cx where
 prog:=P
 w:=w
 K:=K
 mg:=mg
 base:=base
 A:=A.deeper (UE S V s.heap.objs.size f W)
 N:=N
 s₀:=s
 H₀:=H
 env:=UE S V s.heap.objs.size f W
 outer:=outer
 stack:=UE S V s.heap.objs.size f W::outer
 ex:=[]
 calm:=TK
 fn:=λ _=>TK
 pn:=[]
 xe:=λ e y=>TU (TX P w) (A.deeper<|UE S V s.heap.objs.size f W) (WA (UE S V s.heap.objs.size f W) e) (λ _ T=>F outer H s E e T) (λ z T=>F outer H s E z T) y
def mV{V:Scope}(h:V.names.lookup x=TJ .cell):∃c,(Um n V.names []).lookup x=TJ c:=by
 have q:=pF V.names n []<|.inl h;exact iQ.mp q
theorem FM{K:FG}{A:Uk}{s s1:TR}{vs:List V}
  (S:YG N L Z) (Q:A.handled=TM) (W:Env0 P w K B J A Y s H) (X:vs.length=L.length) (r:Vals vs G)
  (x:Vt s s.heap.objs.size (Vs (UE U Z s.heap.objs.size f D).kindOf (L.zip G) λ _=>TM) (Um (s.heap.objs.size+1) Z.names []) (Vr (UE U Z s.heap.objs.size f D).kindOf (L.zip G) λ _=>TM) s1) :
  Inv (dw M P w K B J N U Z f D A Y s H E) [] (Yy N vs) H s1:=by
 have O:L.length<=N.length:=by have:=bT Vd S.pre;rw[bp] at this;lia
 obtain⟨o,tk,rfl,t⟩:=x.done;have j:∀b:TQ,b ∉ (dw M P w K B J N U Z f D A Y s H E).ex:=λ b z=>U1 (show b∈([]:List TQ) from z) Cr
 refine((W.mod,S.kind,on,on,ax _,λ y z c o T=>?_,λ y F=>?_,λ y c _ h=>?_,λ _=>Q,s0h W.frames,.inr (on,on),λ b z=>U1 z<|j b,W.bs,W.bsz,λ b _ _=>j b,λ b z=>U1 z<|j b,W.funs,W.frf),
  rfl,W.bare,Un.kept t,(_,x.toInCall.ns,λ i y v o T C=>?_),λ y c h=>(_,x.cell y c h),W.hok.fresh<|ax _,λ y c h=>?_,λ p g=>U1 (show p∈([]:LO) from g) Cr,W.hok.kept t,?_)
 .exact pG x.apart (dX o)<|dX T
 .have F:Z.names.lookup y=TJ .cell\/Z.names.lookup y=TJ .free:=F
  rcases F with F|F
  .exact mV F
  .exact U1 rfl<|S.nofree _<|dX F
 .exact fj<|x.above y c<|dX h
 .have m:i<vs.length:=by
   unfold Yy at T;by_cases m:i<vs.length
   .exact m
   .rw[cS<|by simpa using m] at T;rw[dY] at T;split at T<;>cases T
  have I:vs[i]?=TJ v:=by
   unfold Yy at T;rw[cU (by simpa using m),bc] at T
   cases e:vs[i]? with
   |none=>rw[e] at T;cases T
   |some a=>rw[e] at T;cases T;rfl
  obtain⟨u,l,R⟩:=r.get I
  have g:L[i]?=TJ y:=by
   rw[<- S.pre,pH BT];exact o
  have d:L.Nodup:=by rw[<- S.pre];exact S.nd.sublist<|WC _ _
  refine(u,R,?_)
  rcases S.par y (aH g) with k|k
  .exact .inl (k,sV d g l k)
  .obtain⟨c,e⟩:=mV (n:=s.heap.objs.size+1) k;refine .inr (.inl k,c,e,?_);have q:=x.cell y c e;rw[sW d g l<|by show Z.names.lookup y≠_;rw[k];decide] at q;exact q
 .exact W.hok.fresh<|fj<|x.above y c<|dX h
 .unfold Yy;show _=N.length;rw[aQ,af,fE];lia
theorem xg{K:FG}{dV kV d pm F ct oc:Value}{an od:OA}
  {C:AV}{sp:Sp}(lk:K.lookup f=TJ (oc,od,.func<|W.fnOf B Y L D Z dV kV d pm an F ct,C)) (a:W.codeIn K F Y=TK) (S:YG N h Z)
  (l:∀vs H Q E,sp vs H Q E->vs.length=h.length)
  (g:∀(A:Uk) (T:List Env) (s:TR) (H:Hp) (vs:List V) (Q:VK) (E:XK),Room k (A.deeper<|UE Y Z s.heap.objs.size f F)->sp vs H Q E ->
   ∃t,PSs (dw G P w K R U N Y Z f F A T s H E) D t/\t { nx:=λ _ j=>Q .non j,rt:=Q } (Yy N vs) H) :
  FnOk P w K R U G (k+1) f (W.fnOf B Y L D Z dV kV d pm an F ct) h sp:=by
 refine(l,λ A T s H args us vs Q E M c hb r i=>?_);have hl:=l _ _ _ _ i;have KX:K.In s.heap:=c.mod.kin.keeps λ b o e=>(c.bs b o e).1;have O:s.heap.NoLimit:=c.mod.nolimit.keeps λ b o e=>(c.bs b o e).1
 have YQ:∀y∈h.zip us,Z.names.lookup y.1=TJ .local\/(Z.names.lookup y.1=TJ .cell/\((Um (s.heap.objs.size+1) Z.names []).lookup y.1).isSome=TK):=λ(n,v) hy=>by
  rcases S.par n (pE hy).1 with q|q
  .exact .inl q
  .exact .inr (q,pF _ _ _<|.inl q)
 refine codeAny_call_function M.depth (KX _ _ lk) rfl S.co S.gen rfl (W.codeRec_of KX a)<|hb _ _ _ _ ?_;refine wpAny_newFunctionEnv_cells S.kind YQ λ env he s1 x=>?_;subst he;refine(O.keeps x.toInCall.keep,codeAny_func ?_);obtain⟨t,ht,hq⟩:=g A T s H vs Q E (M.deeper _) i;have I:Inv (dw G P w K R U N Y Z f F A T s H E) [] (Yy N vs) H s1:=FM S M.hd c hl r x;refine cj (ht [] s1 (Yy N vs) H _ I hq) (λ fl s' p=>?_) λ e s' p=>p
 have m:∀ {z:St}{j:Hp}{v:V}{u:Value},Inv (dw G P w K R U N Y Z f F A T s H E) [] z j s'->RelV v u->Q v j->CE T P w H s Q u s' :=
  λ {z j v u} J X q=>(v,j,J.os,J.bare,J.base,J.hok,X,q)
 cases fl with
 |ret u=>
  obtain⟨v,z,j,J,X,q⟩:=p;exact m J X q
 |next=>
  obtain⟨z,j,J,q⟩:=p;exact m (v:=V.non) (u:=Us) J rfl q
 |brk|cont=>
  obtain⟨_,_,_,q⟩:=p;exact Uw q
section
variable {e:Expr}{Z:List Expr}{t:TA}{id:String}{r:List V->Hp->VK->Prop}
def O9(r:List V->Hp->VK->Prop)(t:TA):TE:=λ T H Q=>t T H λ vs S=>r vs S Q
theorem pI(F:bY X (.builtin id) r)(y:Gl X x)(v:X.mg x=TM)(g:UP x=TJ (.builtin id))(K:PA X (e::Z) t)(j:x ≠ "__name__" := by decide)(V:autoParam ((x == ("__debug__" : Str))=TL) Cl._auto_1)
  (z:autoParam (Ud (e::Z) X.env=(TL,eval e X.env)::Ud Z X.env) Ty._auto_1) (S:autoParam ((UD Y<|Ud Z X.env).any (·.1)=TL) Ty._auto_1):PE X (.Call (.Name x p) (e::Z) [] Y)<|O9 r t:=by
 intro T s W H Q I h;refine iP<|eQ I y v g ?_ j V;exact WY (Yw (K Y T s W H _ I h)<|by rintro c s1 ⟨vs,N,A,o,d⟩;exact F T s1 W N vs c Q A o d) z S
theorem sY(z:bY X (.type T) r)(v:Gl X x)(j:X.mg x=TM)(d:UP x=TJ (.type T))(F:PA X (e::Z) t)(g:x ≠ "__name__" := by decide)(V:autoParam ((x == ("__debug__" : Str))=TL) Cl._auto_1)
  (y:autoParam (Ud (e::Z) X.env=(TL,eval e X.env)::Ud Z X.env) Ty._auto_1) (S:autoParam ((UD pos<|Ud Z X.env).any (·.1)=TL) Ty._auto_1):PE X (.Call (.Name x p) (e::Z) [] pos)<|O9 r t:=by
 intro W s N H Q I h;refine iP<|eQ I v j d ?_ g V;exact gX (Yw (F pos W s N H _ I h) λ k s1 (vs,A,K,c,o)=>z W s1 N A vs k Q K c o) y S
end
end _L
namespace _H
open PySem PyProof.Rows
section
open PySem.SeqAt
open PySem.AutoSeq1 (wpAny_loadPart')
open PySem.MeetsSeq PySem.MeetsSeq2 PySem.MeetsSeq3
end
section
variable {s:TR}
theorem cat_tup{vs V:LV}{Q:VS}(x:VI s.heap t vs.toArray)(l:VI s.heap b V.toArray)(k:vs≠[])
  (p:V=[]->Q (.ref t) s) (i:V≠[]->Q (.ref s.heap.objs.size) { s with heap:=s.heap.push { cls:=.type "tuple",data:=.seq (vs++V).toArray } })
  (j:vs.length+V.length<=TW):TU (TX Z w) A (UA .Add (.ref t)<|.ref b) Q E s:=by
 refine HT λ v W=>?_;obtain⟨⟨cls,d,data,r⟩,z,o,n,c⟩:=id x;obtain⟨⟨g,T,data2,F⟩,S,N,m,K⟩:=id l;refine W ?_;clear W v;simp only at o c N K;subst o c N K;have e:vs.toArray++V.toArray=(vs++V).toArray:=Cr;by_cases y:V=[]
 .exact pJ (_,z,on) (_,S,on) sZ s1g tj tm (tq _ _)
   (tuple_addW1 t b vs.toArray V.toArray n m d T r F (by simpa using k)<|by simp[y]) (z,S,p y)
 .refine pJ (_,z,on) (_,S,on) sZ s1g tj tm (tq _ _)
   (tuple_addW2 t b vs.toArray V.toArray n m d T r F (by simpa using k) (by simpa using y)<|by rw[aY,aY];exact j) (z,S,?_)
  rw[e];exact i y
noncomputable def sIx(n d:Nat):Option Int->Nat
 |none=>d
 |some v=>if v<0 then (v+(n:Int)).toNat else min v.toNat n
def FN(n d:Nat)(S:d<=n)(o:Option Int):sIx n d o<=n:=by
 cases o with
 |none=>exact S
 |some v=>
  show(if v<0 then (v+(n:Int)).toNat else min v.toNat n)<=n;by_cases V:v<0
  .rw[U0 V];lia
  .rw[T9 V];exact Nat.min_le_right _ _
def xh(v:Int)(n d:Nat):(if v<0 then max (v+(n:Int)) 0 else min v (n:Int))=((sIx n d (TJ v):Nat):Int):=by
 show(if v<0 then max (v+(n:Int)) 0 else min v (n:Int))=(((if v<0 then (v+(n:Int)).toNat else min v.toNat n):Nat):Int);by_cases V:v<0
 .simp only[U0 V];lia
 .simp only[T9 V];lia
def FO(lo V:Option Int)(n:Nat):Vf lo V 1 (n:Int)=(((sIx n 0 lo:Nat):Int),((sIx n n V:Nat):Int)):=by
 have S:¬((1:Int)<0):=BT;unfold Vf;simp only[S,u3];refine Prod.ext ?_ ?_
 .cases lo with
  |none=>rfl
  |some v=>exact xh v n 0
 .cases V with
  |none=>rfl
  |some v=>exact xh v n n
def FP(i j:Nat):US (i:Int) (j:Int) 1=j-i:=by
 unfold US;have V:(1:Int) > 0:=BT;simp only[V,fW,XV];split<;>lia
def xj{Q:Option Int->TR->Prop}(p:Vq v o)(h:Q o s):TU (TX Z w) A (Xk v) Q E s:=by
 cases p with
 |none=>exact Xv h
 |int i t=>exact slicePart_int h
theorem xk{lo S:Option Int}{Q:Int×Int×Nat->TR->Prop}(N:s.heap.IsSliceOf J Y U .none)(K:Vq Y lo)(F:Vq U S)
  (h:Q (Prod.mk (((sIx n 0 lo:Nat):Int))<|Prod.mk 1 (sIx n n S-sIx n 0 lo)) s):TU (TX Z w) A (VM (.ref J)<|Uo (n:Int)) Q E s:=by
 obtain⟨os,T,W,V⟩:=id N;unfold VM XT;refine ae<|ae<|cV T V (x:=Y) rfl<|ae<|cV T V (x:=U) rfl<|ae<|cV T V (x:=.none) rfl<|aq ?_;refine ae<|Xv ?_;show TU _ _ (if ((1:Int) == 0)=TK then _ else _) _ _ s;rw[T9 Cl];refine ae<|xj K<|ae<|xj F<|ae<|aq ?_;show TU _ _ (match Vf lo S 1 (n:Int) with|(Prod.mk lo S)=>Uo (Prod.mk lo<|Prod.mk ((1:Int)) (US lo S 1))) _ _ s;rw[FO lo S n];show TU _ _ (Uo (Prod.mk (((sIx n 0 lo:Nat):Int))<|Prod.mk ((1:Int)) (US ((sIx n 0 lo:Nat):Int) ((sIx n n S:Nat):Int) 1))) _ _ s;rw[FP];exact aq h
def FQ(V:Array Value)(i k:Nat):((Ub k).filterMap λ(m:Nat)=>V[((i:Int)+(m:Int)*1).toNat]?).toArray=((V.toList.drop i).take k).toArray:=by
 have e:(λ(m:Nat)=>V[((i:Int)+(m:Int)*1).toNat]?)=λ m=>V[i+m]?:=by
  funext m;have:((i:Int)+(m:Int)*1).toNat=i+m:=BT;rw[this]
 rw[e];have:=pick_run V i k;rw[List.filterMap_map] at this;have S:((λ x=>V[x]?) ∘ λ x=>i+x)=λ m=>V[i+m]?:=rfl;rw[S] at this;rw[this]
theorem getItem_tuple_cut{lo S:Option Int}{Q:VS}(T:VI s.heap t Z)(z:s.heap.IsSliceOf U J L .none)(g:Vq J lo)(d:Vq L S)
  (j:¬(sIx Z.size 0 lo=0/\sIx Z.size Z.size S=Z.size))
  (h:Q (.ref s.heap.objs.size) { s with heap:=s.heap.push { cls:=.type "tuple",data:=.seq ((Z.toList.drop<|sIx Z.size 0 lo).take<|sIx Z.size Z.size S-sIx Z.size 0 lo).toArray } })
  (v:Z.size<=TW):TU (TX Y w) A (Vo (.ref t)<|.ref U) Q E s:=by
 have V:sizeOk<|.seq ((Z.toList.drop<|sIx Z.size 0 lo).take<|sIx Z.size Z.size S-sIx Z.size 0 lo).toArray:=by
  show((Z.toList.drop<|sIx Z.size 0 lo).take<|sIx Z.size Z.size S-sIx Z.size 0 lo).toArray.size<=TW;rw[aY,bp,cW,Uv];omega
 have o:sIx Z.size Z.size S<=Z.size:=FN _ _ (ax _) S;obtain⟨os,F,N,y⟩:=id z;have W:s.TypeIs (.ref U) "slice" := (os,F,N);unfold Vo;try with_reducible refine dH ?_
 first|refine ae (aq ?_)|skip
 refine ae<|WG T.typeIs Cl ?_
 refine ae (kR (name:=Uf "__getitem__") T.typeIs pK
 <|gC pK T.typeIs s0s ?_<|s1h _ _)
 show TU _ _ (VN (.ref t) >>= _) _ _ s;refine ae<|XQ T ?_;refine ae<|kS W ?_;rw[U0 Cl];refine ae<|xk z g d ?_
 have K:¬((((sIx Z.size 0 lo:Nat):Int) == 0&&(1:Int) == 1&&(sIx Z.size Z.size S-sIx Z.size 0 lo) == Z.size)=TK):=by
  intro q;rw[bq,bq] at q;have c:((sIx Z.size 0 lo:Nat):Int)=0:=iR q.1.1;have k:sIx Z.size Z.size S-sIx Z.size 0 lo=Z.size:=iR q.2;exact j (by omega,by omega)
 show TU _ _ (if (((sIx Z.size 0 lo:Nat):Int) == 0&&(1:Int) == 1&&(sIx Z.size Z.size S-sIx Z.size 0 lo) == Z.size)=TK then _ else _) _ _ s;rw[T9 K,FQ]
 first
  |exact ae (m:=Uy _)<|dA (aq (_,rfl,aq h)) V
  |exact ae (m:=Uy _)<|dA (ae<|aq<|aq (_,rfl,aq h)) V
  |exact ae<|ae (m:=Uy _)<|dA (aq<|aq (_,rfl,aq h)) V
  |exact ae<|ae (m:=Uy _)<|dA (aq (_,rfl,aq h)) V
end
end _H
namespace _L
open PySem PySem.Spec PyProof.Rows
abbrev TO:=St->Hp->(Option Int->Hp->Prop)->Prop
def PO(X:Cx)(e:Option Expr)(t:TO):Prop :=
 ∀(T:LO) (s:TR) (V:St) (H:Hp) (Q:Option Int->Hp->Prop),Inv X T V H s->t V H Q ->
  TU (TX X.prog X.w) X.A (evalPart e X.env) (λ u W=>∃o S,Inv X T V S W/\Vq u o/\Q o S) X.xe s
def FR:TO:=λ _ H Q=>Q TM H
def mW{S:Yr}:∀ {T:LV},Vals (S.map V.int) T->Vu T S:=by
 induction S with
 |nil=>intro T r;rw[Yb] at r;cases r;exact .nil
 |cons n S W=>
  intro T r;rw[cB] at r
  cases r with
  |cons N r2=>
   obtain⟨t,e⟩:=N;subst e;exact .cons n t<|W r2
variable {X:Cx}
section
variable {U:TE}{lo Z:Option Expr}{Y J:TO}
def FS:PO X TM FR:=by
 intro V s S H Q I h;rw[XM];exact aq (TM,H,I,.none,h)
def B4(X:Cx)(r:V->Option Int->Option Int->Hp->VK->Prop):Prop :=
 ∀(S:LO) (s:TR) (K:St) (H:Hp) (x:V) (v N A:Value) (lo Z:Option Int) (W:TQ) (Q:VK),Inv X S K H s->RelV x v->s.heap.IsSliceOf W N A .none->Vq N lo->Vq A Z->r x lo Z H Q ->
  ∃T id,UU (.type T) "__getitem__"=Uo (TJ<|.builtin id)/\s.TypeIs v T/\TU (TX X.prog X.w) X.A (Vo v<|.ref W) (EP X S K Q) X.xe s
def tSl(r:V->Option Int->Option Int->Hp->VK->Prop)(U:TE)(Y J:TO):TE:=λ S H Q=>U S H λ x T=>Y S T λ l W=>J S W λ u N=>r x l u N Q
def FU(n:B4 X r)(p:PE X e U)(t:PO X lo Y)(a:PO X Z J):PE X (.Subscript e (.Slice lo Z TM L) B)<|tSl r U Y J:=by
 intro A s K H Q I h;refine Xa<|Yw (p A s K H _ I h) λ v s1 N=>?_;refine HT λ S V=>?_;obtain⟨x,j,d,R,E⟩:=N;refine V ?_;clear V S;refine wpAny_Slice<|Yw (t A s1 K j _ d E) λ F C (l,g,o,D,M)=>Yw (a A C K g _ o M) λ z W N=>?_;refine HT λ S V=>?_;obtain⟨u,y,c,G,O⟩:=N;refine V ?_;clear V S;rw[XM];refine aq ?_;have k:Inv X A K y { W with heap:=W.heap.push { cls:=.type "slice",data:=.fields #[F,z,.none] } }:=c.kept (t':=W.toks) λ b P q=>aJ _ q;refine HT λ S V=>?_;obtain⟨T,id,m,w,i⟩:=n A { W with heap:=W.heap.push { cls:=.type "slice",data:=.fields #[F,z,.none] } } K y x v F z l u W.heap.objs.size Q k R (Heap.IsSliceOf.new ..) D G O;refine V ?_;clear V S;show TU (TX X.prog X.w) X.A (VQ e (.Slice lo Z TM L) v<|.ref W.heap.objs.size) (EP X A K Q) X.xe { W with heap:=W.heap.push { cls:=.type "slice",data:=.fields #[F,z,.none] } };exact tail_any (ops:=[.ref W.heap.objs.size,v]) w m i (by with_unfolding_all rfl)
def hG(S:List V)(lo Z:Option Int):List V:=(S.drop<|_H.sIx S.length 0 lo).take<|_H.sIx S.length S.length Z-_H.sIx S.length 0 lo
def xn(S:List V)(lo Z:Option Int):(hG S lo Z).length<=S.length:=by
 unfold hG;rw[bp,cW];lia
def FV(K:FG):V->Option Int->Option Int->Hp->VK->Prop:=λ x lo Z H Q=>∃a S,x=.ref a/\SqT K H a S /\
 ¬(_H.sIx S.length 0 lo=0/\_H.sIx S.length S.length Z=S.length)/\∀p,H p=TM->Q (.ref p) (Yu H p<|.tup<|hG S lo Z)
def FW:B4 X<|FV X.K:=by
 intro c s i H x v p e lo Z m Q I d F j g h;refine HT λ T S=>?_;obtain⟨a,V,rfl,y,z,q⟩:=h;refine S ?_;clear S T;cases d;obtain⟨N,r,A,K⟩:=I.tuple y;have W:N.toArray.size=V.length:=by rw[aY];exact r.length.symm
 refine("tuple",_,PyProof.Rows.slot_tuple_getitem.lookup,A.typeIs,?_);refine _H.getItem_tuple_cut A F j g (by rw[W];exact z) ?_ (by rw[W];exact K);rw[W];refine(.ref s.heap.objs.size,_,I.laid (t':=s.toks) (o:=.tup<|hG V lo Z) (λ b k q=>aJ _ q) (ax _) ?_,on,q _<|I.hok.fresh<|ax _);exact(cw (xn V lo Z) K,_,(r.drop<|_H.sIx V.length 0 lo).take<|_H.sIx V.length V.length Z-_H.sIx V.length 0 lo,TupO.new _ _)
def FY(K:FG):R2:=λ x y H Q=>∃a b S V,x=.ref a/\y=.ref b/\SqT K H a S/\SqT K H b V/\S≠[]/\S.length+V.length<=TW /\
 (V=[]->Q (.ref a) H)/\(V≠[]->∀p,H p=TM->Q (.ref p) (Yu H p<|.tup<|S++V))
def Vals.nil_iff(r:Vals D L):L=[] ↔ D=[]:=by
 cases r with
 |nil|cons _ _=>simp
def FZ:YL X (UA .Add)<|FY X.K:=by
 intro i s l H x y v u Q I m r h;refine HT λ S V=>?_;obtain⟨a,b,p,e,rfl,rfl,A,K,F,W,c,k⟩:=h;refine V ?_;clear V S;cases m;cases r;refine HT λ S V=>?_;obtain⟨j,T,g,_⟩:=I.tuple A;obtain⟨N,r2,d,_⟩:=I.tuple K;refine V ?_;clear V S;refine _H.cat_tup g d (λ z=>F<|T.nil_iff.mp z) (λ z=>(.ref a,H,I,on,c<|r2.nil_iff.mp z)) (λ z=>?_) (by rw[<- T.length,<- r2.length];exact W);refine(.ref s.heap.objs.size,_,I.laid (t':=s.toks) (o:=.tup<|p++e) (λ b t q=>aJ _ q) (ax _) ?_,on,k (λ w=>z<|r2.nil_iff.mpr w) _<|I.hok.fresh<|ax _);exact(by rw[aQ];exact W,_,T.append r2,TupO.new _ _)
end
noncomputable def b9(n:Nat)(i:Int):Option Nat:=if 0<=i then (if i<n then TJ i.toNat else TM) else if -(n:Int)<=i then TJ (i+n).toNat else TM
def YX{S:Type}(V:List S)(i:Int):Option S:=(b9 V.length i).bind λ j=>V[j]?
def xp(h:b9 n i=TJ j):Wh i n=TJ j/\j<n/\-(n:Int)<=i/\i<n:=by
 unfold b9 at h;by_cases S:0<=i
 .rw[U0 S] at h;by_cases V:i<n
  .rw[U0 V] at h;have e:i.toNat=j:=bS h;exact(by rw[s1x S V,e],BT,BT,V)
  .rw[T9 V] at h;cases h
 .rw[T9 S] at h;by_cases V:-(n:Int)<=i
  .rw[U0 V] at h;have e:(i+n).toNat=j:=bS h;exact(by rw[s1t BT V,e],BT,V,BT)
  .rw[T9 V] at h;cases h
def tu{S:Type}{V:List S}{v:S}(h:YX V i=TJ v):∃j,Wh i V.length=TJ j/\V[j]?=TJ v/\j<V.length/\-(V.length:Int)<=i/\i<V.length:=by
 unfold YX at h
 cases e:b9 V.length i with
 |none=>rw[e] at h;cases h
 |some j=>
  rw[e] at h;obtain⟨T,W,N,A⟩:=xp e;exact(j,T,h,W,N,A)
def iS{V:Type}{xs:List V}{j:Nat}{v:V}(h:xs[j]?=TJ v):YX xs (j:Int)=TJ v:=by
 have S:j<xs.length:=(aP.mp h).1
 have e:b9 xs.length (j:Int)=TJ j:=by
  unfold b9;rw[U0 BT,U0 BT];simp
 unfold YX;rw[e];exact h
def xq(b:Expr):Prop:=∀o i,Wk b TL o i=operate [o,i] (Vo o i)
def IxR(X:Cx)(r:R2):Prop :=
 ∀(T S:Expr) (W:LO) (s:TR) (N:St) (H:Hp) (x y:V) (v u:Value) (Q:VK),Inv X W N H s->RelV x v->RelV y u->r x y H Q ->
  Wk S TL v u=operate [v,u] (Vo v u)->TU (TX X.prog X.w) X.A (VQ T S v u) (EP X W N Q) X.xe s
def B5(X:Cx)(id:String)(r:V->List V->Hp->VK->Prop):Prop :=
 ∀(S:LO) (s:TR) (N:St) (H:Hp) (x:V) (W:List V) (v:Value) (T:LV) (Q:VK),Inv X S N H s->RelV x v->Vals W T->r x W H Q ->
  TU (TX X.prog X.w) X.A (call (.builtin id)<|v::T) (EP X S N Q) X.xe s
section
variable {a:Expr}
def IxR.or(h:IxR X r)(F:IxR X Y):IxR X λ x y H Q=>r x y H Q\/Y x y H Q:=by
 intro S V T s K H x y v u Q I N A q W
 rcases q with q|q
 .exact h S V T s K H x y v u Q I N A q W
 .exact F S V T s K H x y v u Q I N A q W
def tz(A:IxR X r)(W:PE X a U)(N:PE X b J)(K:xq b):PE X (.Subscript a b Y)<|b7 r U J:=by
 intro T s g H Q I h;exact Xa<|sC W N I h λ v u j x y V S F z q=>A a b T j g V x y v u Q S F z q<|K _ _
def tD(K:FG):R2:=λ x y H Q=>∃p V i v,x=.ref p/\y=.int i/\SqL K H p V/\YX V i=TJ v/\Q v H
def xr(K:FG):R2:=λ x y H Q=>∃p V i v,x=.ref p/\y=.int i/\SqT K H p V/\YX V i=TJ v/\Q v H
def xt:R2:=λ x y H Q=>∃z i c,x=.str z/\y=.int i/\z.length<=TW/\YX z.cps.toList i=TJ c/\Q (.str ⟨#[c]⟩) H
def ix_list:IxR X<|tD X.K:=by
 intro d g o s b H x y v u Q I U J h m;refine HT λ S V=>?_;obtain⟨p,E,i,z,rfl,rfl,Y,a,q⟩:=h;refine V ?_;clear V S;cases U;refine HT λ S V=>?_;obtain⟨t,rfl⟩:=J;obtain⟨A,r,K,G⟩:=I.list Y;obtain⟨j,W,e,D,l,n⟩:=tu a;obtain⟨w,c,F⟩:=r.get e;refine V ?_;clear V S;have Z:=r.length;have B:=kO;have T:EP X o b Q w s:=(z,H,I,F,q);by_cases k:0<=i
 .have N:i.toNat=j:=by
   rw[s1x k n] at W;exact bS W
  exact item_listR K.isList k BT (by rw[N];simpa using c) T m
 .have N:(i+(A.toArray.size:Int)).toNat=j:=by
   rw[s1t BT l] at W;rw[aY,<- Z];exact bS W
  exact xv (x:=w) K.isList.typeIs slot_list_getitem.lookup
   (wpAny_getItem_list_neg (Q:=λ r L=>r=w/\EP X o b Q r L) K.isList BT (by rw[aY]<;>lia) BT (by rw[N];simpa using c) (rfl,T)) m
def ix_tup:IxR X<|xr X.K:=by
 intro A N K s g H x y v u Q I n a h e;refine HT λ S V=>?_;obtain⟨p,B,i,z,rfl,rfl,b,k,q⟩:=h;refine V ?_;clear V S;cases n;refine HT λ S V=>?_;obtain⟨t,rfl⟩:=a;obtain⟨l,r,F,D⟩:=I.tuple b;obtain⟨j,o,c,Y,U,J⟩:=tu k;obtain⟨w,d,W⟩:=r.get c;refine V ?_;clear V S;have m:=r.length;have L:=kO;have T:EP X K g Q w s:=(z,H,I,W,q)
 exact xv (x:=w) F.typeIs slot_tuple_getitem.lookup
  (XN (j:=j) (Q:=λ r Z=>r=w/\EP X K g Q r Z) F BT BT (by rw[aY,<- m];exact o) (by simpa using d) (rfl,T)) e
def Ga:IxR X xt:=by
 intro W T p s a H x y v u Q I b r h m;refine HT λ S V=>?_;obtain⟨z,i,c,rfl,rfl,n,o,q⟩:=h;obtain⟨t,rfl⟩:=b;obtain⟨w,rfl⟩:=r;obtain⟨j,N,F,e,g,d⟩:=tu o;refine V ?_;clear V S;have k:z.cps.toList.length=z.length:=by simp[Str.length]
 rw[k] at N g d;have l:=kO
 exact tail_any (Xh s z t) slot_str_getitem.lookup (getItem_str (c:=c) (by
  have A:decide (i < -(2 ^ 63:Int))=TL:=bA BT;have K:decide (i ≥ 2 ^ 63)=TL:=bA BT
  rw[A,K,fX]) (by rw[N];simpa using F) (.str ⟨#[c]⟩,H,I.tok _,(_,rfl),q)) m
def rIx(K:FG):R2:=λ x y H Q=>tD K x y H Q\/xr K x y H Q\/xt x y H Q
def tE:IxR X<|rIx X.K:=ix_list.or<|ix_tup.or Ga
def Gb(V:LV)(n j:Nat)(u:Value):UH (·.setIfInBounds j u) { cls:=.type "list",data:=.seq V.toArray n }={ cls:=.type "list",data:=.seq (V.set j u).toArray n }:=by
 simp[UH]
theorem Inv.lst(I:Inv X J L H s)(h:H p=TJ (.lst U)) :
  ∃(Y:LV) (n:Nat),Vals U Y/\s.heap.get? p=TJ { cls:=.type "list",data:=.seq Y.toArray n }/\U.length<=TW:=by
 obtain⟨z,Y,n,r,e⟩:=I.hok p _ h;exact(Y,n,r,e,z)
theorem Inv.lstUpd{S V:LV}{f:Obj->Obj}(I:Inv X J L H s)(h:H p=TJ (.lst D))
  (N:s.heap.get? p=TJ { cls:=.type "list",data:=.seq S.toArray n }) (T:f { cls:=.type "list",data:=.seq S.toArray n }={ cls:=.type "list",data:=.seq V.toArray Y }) (r:Vals U V) (A:U.length<=TW) (t:Nat) :
  Inv X J L (Yu H p<|.lst U) { s with heap:=s.heap.update p f,toks:=t }:=by
 have e:(s.heap.update p f).get? p=TJ { cls:=.type "list",data:=.seq V.toArray Y }:=by
  rw[fY f N (by rw[T]<;>rfl),T]
 refine I.write (x:=p) (e:=p) (by rw[h];trivial) (.inl rfl) (λ b u W q=>(dL _ _<|bI W).trans q) (_,e) ?_;exact(A,V,Y,r,e)
def Gc:V->V->V->Hp->(Hp->Prop)->Prop:=λ o i v H Q=>∃p S k j,o=.ref p/\i=.int k/\H p=TJ (.lst S)/\b9 S.length k=TJ j/\Q (Yu H p<|.lst<|S.set j v)
def Gd:wF X Gc:=by
 intro m s Z H o i v L J u Q I w l x h;refine HT λ S V=>?_;obtain⟨p,a,k,j,rfl,rfl,c,b,q⟩:=h;refine V ?_;clear V S;cases w;refine HT λ S V=>?_;obtain⟨t,rfl⟩:=l;obtain⟨T,n,r,F,e⟩:=I.lst c;obtain⟨N,Y,g,d⟩:=xp b;refine V ?_;clear V S;have K:=r.length;have U:=kO
 have z:Inv X m Z (Yu H p<|.lst<|a.set j v) { s with heap:=s.heap.update p (UH (·.setIfInBounds j u)) } :=
  I.lstUpd c F (Gb T n j u) (r.set x j) (by rw[cN];exact e) s.toks
 by_cases y:0<=k
 .have A:k.toNat=j:=by
   rw[s1x y d] at N;exact bS N
  exact W.ki_setAt F y BT (by rw[aY,<- K];exact d) (by rw[A];exact(_,z,q))
 .have A:(k+(T.toArray.size:Int)).toNat=j:=by
   rw[s1t BT g] at N;rw[aY,<- K];exact bS N
  exact W.ki_setBack F BT (by rw[aY,<- K];exact g) BT (by rw[A];exact(_,z,q))
def Ge(lo V:Option Int)(n:Nat):(Ve lo V TM n).1=((_H.sIx n 0 lo:Nat):Int)/\(Ve lo V TM n).2.1=((_H.sIx n n V:Nat):Int)/\(Ve lo V TM n).2.2=1:=by
 refine(?_,?_,on)
 .cases lo with
  |none=>simp[Ve,_H.sIx]
  |some i=>
   simp only[Ve,_H.sIx,WM,show(1:Int) > 0 by decide,fW];by_cases h:i<0
   .simp only[h,fW]<;>lia
   .simp only[h,u3]<;>lia
 .cases V with
  |none=>simp[Ve,_H.sIx]
  |some i=>
   simp only[Ve,_H.sIx,WM,show(1:Int) > 0 by decide,fW];by_cases h:i<0
   .simp only[h,fW]<;>lia
   .simp only[h,u3]<;>lia
def Gh(V:LV)(lo S:Option Int):slicePick V.toArray lo S TM=((V.drop<|_H.sIx V.length 0 lo).take<|_H.sIx V.length V.length S-_H.sIx V.length 0 lo).toArray:=by
 obtain⟨T,W,N⟩:=Ge lo S V.toArray.size;unfold slicePick;rw[T,W,N];simp only[sliceRange_one,pick_run,aY]<;>rfl
def Gi(K:FG):V->Option Int->Option Int->Hp->VK->Prop:=λ x lo T H Q=>∃a S,x=.ref a/\SqL K H a S/\∀p,H p=TM->Q (.ref p) (Yu H p<|.lst<|hG S lo T)
def Gj:B4 X<|Gi X.K:=by
 intro c s i H x v p e lo W m Q I d K j g h;refine HT λ T S=>?_;obtain⟨a,V,rfl,F,q⟩:=h;refine S ?_;clear S T;cases d;obtain⟨y,r,N,z⟩:=I.list F;have A:=r.length;refine("list",_,slot_list_getitem.lookup,N.isList.typeIs,?_);refine wpAny_getItem_list_slice N.isList K j g .none Cr ?_ (by rw[aY]<;>lia);rw[Gh,<- A];refine(.ref s.heap.objs.size,_,I.laid (t':=s.toks) (o:=.lst<|hG V lo W) (λ b k q=>aJ _ q) (ax _) ?_,on,q _<|I.hok.fresh<|ax _);exact(cw (xn V lo W) z,_,0,(r.drop<|_H.sIx V.length 0 lo).take<|_H.sIx V.length V.length W-_H.sIx V.length 0 lo,bJ _ rfl)
noncomputable def gE:V->Bool
 |.non=>TK
 |.bl _=>TK
 |.int _=>TK
 |.str _=>TK
 |_=>TL
noncomputable def i4:V->V->Bool
 |.non,.non=>TK
 |.bl a,.bl b=>a == b
 |.bl a,.int b=>(if a then 1 else 0) == b
 |.int a,.bl b=>a == (if b then 1 else 0)
 |.int a,.int b=>a == b
 |.str a,.str b=>a == b
 |_,_=>TL
def xw(W:RelV y u)(V:RelV x v)(N:gE y=TK)(T:gE x=TK):UN A s u v<|i4 y x:=by
 cases y with
 |non=>
  cases W
  cases x with
  |non=>cases V;exact SeqAt.EqAt.same _
  |bl b=>cases V;exact SeqAt.EqAt.none_bool b
  |int b=>obtain⟨t,rfl⟩:=V;exact SeqAt.EqAt.none_int b t
  |str b=>obtain⟨t,rfl⟩:=V;exact SeqAt.EqAt.none_str b t
  |_=>exact U1 (show TL=TK from T) dz
 |bl a=>
  cases W
  cases x with
  |non=>cases V;exact SeqAt.EqAt.bool_none a
  |bl b=>cases V;exact SeqAt.EqAt.bool_bool a b
  |int b=>obtain⟨t,rfl⟩:=V;exact SeqAt.EqAt.bool_int a b t
  |str b=>obtain⟨t,rfl⟩:=V;exact SeqAt.EqAt.bool_str a b t
  |_=>exact U1 (show TL=TK from T) dz
 |int a=>
  obtain⟨S,rfl⟩:=W
  cases x with
  |non=>cases V;exact SeqAt.EqAt.int_none a S
  |bl b=>cases V;exact SeqAt.EqAt.int_bool a S b
  |int b=>obtain⟨t,rfl⟩:=V;exact SeqAt.EqAt.int_int a S b t
  |str b=>obtain⟨t,rfl⟩:=V;exact s1a a S b t
  |_=>exact U1 (show TL=TK from T) dz
 |str a=>
  obtain⟨S,rfl⟩:=W
  cases x with
  |non=>cases V;exact SeqAt.EqAt.str_none a S
  |bl b=>cases V;exact SeqAt.EqAt.str_bool a S b
  |int b=>obtain⟨t,rfl⟩:=V;exact s1b a S b t
  |str b=>obtain⟨t,rfl⟩:=V;exact SeqAt.EqAt.str_str a S b t
  |_=>exact U1 (show TL=TK from T) dz
 |_=>exact U1 (show TL=TK from N) dz
def ZD(x:V)(u:Value):Bool:=match u with
 |.none=>i4 .non x
 |.bool b=>i4 (.bl b) x
 |.int i _=>i4 (.int i) x
 |.str z _=>i4 (.str z) x
 |_=>TL
def xy(r:RelV y u)(f:gE y=TK):ZD x u=i4 y x:=by
 cases y with
 |non|bl b=>cases r;rfl
 |int i|str z=>obtain⟨t,rfl⟩:=r;rfl
 |_=>exact U1 (show TL=TK from f) dz
theorem mX:∀ {S:List V}{T:LV},Vals S T->S.all gE=TK->T.any (ZD x)=S.any λ y=>i4 y x
 |_,_,.nil,_=>rfl
 |y::S,u::T,.cons r t,f=>by
  rw[cD,bq] at f;rw[mY,mY,xy r f.1,mX t f.2]
theorem mZ(K:RelV x v)(N:gE x=TK):∀ {W:List V}{T:LV},Vals W T->W.all gE=TK->∀u∈T,UN A s u v (ZD x u)
 |_,_,.nil,_=>λ u S=>by cases S
 |y::W,u::T,.cons r t,f=>λ F S=>by
  rw[cD,bq] at f
  rcases aD.mp S with rfl|S
  .rw[xy r f.1];exact xw r K f.1 N
  .exact mZ K N t f.2 F S
def E3(x:V)(S:List V):Bool:=S.any λ y=>i4 y x
def P0(K:FG)(S:Bool):R2:=λ x y H Q=>∃p V,y=.ref p/\(SqL K H p V\/SqT K H p V)/\gE x=TK/\V.all gE=TK/\Q (.bl<|if S then !E3 x V else E3 x V) H
def Gk:YL X (Ut .In)<|P0 X.K TL:=by
 intro d s c H x y v u Q I z g h;refine HT λ N S=>?_;obtain⟨p,o,rfl,T,F,W,q⟩:=h;refine S ?_;clear S N;cases g
 rcases T with T|T
 .obtain⟨V,r,K,j⟩:=I.list T;refine SeqAt.in_listAt (ZD x) K.isList (λ w A=>mZ z F r W w<|by simpa using A) (.bl _,H,I,on,?_);rw[show V.toArray.any (ZD x)=V.any (ZD x) by simp,mX r W];exact q
 .obtain⟨V,r,K,j⟩:=I.tuple T;refine SeqAt.in_tupleAt (ZD x) K (λ w A=>mZ z F r W w<|by simpa using A) (.bl _,H,I,on,?_);rw[show V.toArray.any (ZD x)=V.any (ZD x) by simp,mX r W];exact q
def Gm:YL X (Ut .NotIn)<|P0 X.K TK:=by
 intro d s c H x y v u Q I z g h;refine HT λ N S=>?_;obtain⟨p,o,rfl,T,F,W,q⟩:=h;refine S ?_;clear S N;cases g
 rcases T with T|T
 .obtain⟨V,r,K,j⟩:=I.list T;refine SeqAt.notIn_listAt (ZD x) K.isList (λ w A=>mZ z F r W w<|by simpa using A) (.bl _,H,I,on,?_);rw[show V.toArray.any (ZD x)=V.any (ZD x) by simp,mX r W];exact q
 .obtain⟨V,r,K,j⟩:=I.tuple T;refine SeqAt.notIn_tupleAt (ZD x) K (λ w A=>mZ z F r W w<|by simpa using A) (.bl _,H,I,on,?_);rw[show V.toArray.any (ZD x)=V.any (ZD x) by simp,mX r W];exact q
def Gn:bY X (.builtin "len") λ F H Q=>∃p Y,F=[.ref p]/\(SqL X.K H p Y\/SqT X.K H p Y)/\Q (.int Y.length) H:=by
 intro v s d H F g Q I r h;refine HT λ T V=>?_;obtain⟨p,Y,rfl,S,q⟩:=h;obtain⟨u,rfl,y⟩:=cM r;refine V ?_;clear V T;cases y;have j:=kO
 rcases S with S|S
 .obtain⟨N,K,A,z⟩:=I.list S;have W:=K.length;exact Calls.call_len_list A.isList (by simp only[aY]<;>lia) (.int Y.length,H,I.tok _,(s.toks+1,by rw[aY,W]),q)
 .obtain⟨N,K,A,z⟩:=I.tuple S;have W:=K.length;exact s1y A (by simp only[aY]<;>lia) (.int Y.length,H,I.tok _,(s.toks+1,by rw[aY,W]),q)
def Go:bY X (.builtin "len") λ T H Q=>∃z,T=[.str z]/\z.length<=TW/\Q (.int z.length) H:=by
 intro W s F H T K Q I r h;refine HT λ S V=>?_;obtain⟨z,rfl,A,q⟩:=h;obtain⟨u,rfl,t,rfl⟩:=cM r;refine V ?_;clear V S;have N:=kO;exact len_str BT (.int z.length,H,I.tok _,(_,on),q)
def Gp:bY X (.type "list") λ k H Q=>∃p Y,k=[.ref p]/\(SqL X.K H p Y\/SqT X.K H p Y)/\∀l,H l=TM->Q (.ref l) (Yu H l<|.lst Y):=by
 intro i s w H k x Q I r h;refine HT λ T V=>?_;obtain⟨p,Y,rfl,F,q⟩:=h;obtain⟨u,rfl,t⟩:=cM r;refine V ?_;clear V T;cases t
 have K:∀(S:LV),Vals Y S->Y.length<=TW->∀(W:Ue) (N:Nat),(∀b c,s.heap.get? b=TJ c->W.get? b=TJ c) ->
   W.get? s.heap.objs.size=TJ { cls:=.type "list",dict:=TM,data:=.seq S.toArray N,slots:=#[] }->EP X i w Q (.ref s.heap.objs.size) { s with heap:=W }:=λ S A z W N y e=>
  (.ref s.heap.objs.size,_,I.laid (t':=s.toks) y (ax _) (show ObjOk X.prog X.w _ W _ (.lst Y) from (z,S,N,A,e)),rfl,q _<|I.hok.fresh<|ax _)
 rcases F with F|F
 .obtain⟨S,A,d,z⟩:=I.list F;have m:=A.length;refine HT λ T V=>?_;obtain⟨o,g,v,n,j⟩:=d.isList;refine V ?_;clear V T;exact XH p (.inl rfl) g v j (λ W N y e=>K S A z W N y e) (by simp only[aY]<;>lia)
 .obtain⟨S,A,d,z⟩:=I.tuple F;have m:=A.length;refine HT λ T V=>?_;obtain⟨o,g,v,n,j⟩:=d;refine V ?_;clear V T;exact XH p (.inr rfl) g v j (λ W N y e=>K S A z W N y e) (by simp only[aY]<;>lia)
def Gq:bY X (.type "tuple") λ v H Q=>∃p Y,v=[.ref p]/\((SqL X.K H p Y/\∀l,H l=TM->Q (.ref l) (Yu H l<|.tup Y))\/(SqT X.K H p Y/\Q (.ref p) H)):=by
 intro z s j H v m Q I r h;refine HT λ W S=>?_;obtain⟨p,Y,rfl,h⟩:=h;obtain⟨u,rfl,c⟩:=cM r;refine S ?_;clear S W;cases c
 rcases h with ⟨N,q⟩|⟨N,q⟩
 .obtain⟨V,K,A,y⟩:=I.list N;have k:=K.length;refine call_tuple_list A.isList (λ T d=>?_) (by simp only[aY]<;>lia);have F:Inv X z j H { s with heap:=T }:=I.kept (t':=s.toks) d
  have g:Inv X z j (Yu H T.objs.size<|.tup Y) { s with heap:=T.push { cls:=.type "tuple",data:=.seq V.toArray } } :=
   F.laid (t':=s.toks) (λ b o e=>aJ _ e) (ax _) (show ObjOk X.prog X.w _ _ _ (.tup Y) from (y,V,K,TupO.new _ _))
  exact(.ref T.objs.size,_,g,on,q _<|F.hok.fresh<|ax _)
 .obtain⟨V,K,A,y⟩:=I.tuple N;exact call_tuple_same A (.ref p,H,I,on,q)
def B6(K:FG)(T:String)(x:V)(H:Hp):Prop:=match x with
 |.str _=>T="str"
 |.int _=>T="int"
 |.ref p=>(T="list" /\ ∃N,SqL K H p N)\/(T="tuple" /\ ∃o,K.lookup p=TJ o/\o.cls=.type "tuple" /\ o.dict=TM) \/
   (T="dict" /\ ((∃W,H p=TJ (.dK W))\/∃W,H p=TJ (.dT W)))\/(T="set" /\ ∃S n,H p=TJ (.set S n))
 |_=>False
theorem xz(I:Inv X U J H s)(r:RelV x v)(A:B6 X.K T x H) :
  s.TypeIs v T/\∀a,v=.ref a->∃Y,s.heap.get? a=TJ Y/\Y.dict=TM:=by
 cases x with
 |str z=>
  obtain⟨t,rfl⟩:=r;cases (show T="str" from A);exact(Xh s z t,λ _ e=>nomatch e)
 |int i=>
  obtain⟨t,rfl⟩:=r;cases (show T="int" from A);exact(s0d s i t,λ _ e=>nomatch e)
 |ref p=>
  cases r
  rcases A with ⟨rfl,b,k⟩|⟨rfl,o,V,d,y⟩|⟨rfl,V⟩|⟨rfl,S,n,V⟩
  .obtain⟨m,_,g,_⟩:=I.list k;refine(g.isList.typeIs,λ a e=>?_);cases e;obtain⟨o,n,e,c,y,_⟩:=g;exact(o,e,y)
  .refine((o,I.kIn p o V,d),λ a e=>?_);cases e;exact(o,I.kIn _ o V,y)
  .have z:∃o,s.heap.get? p=TJ o/\o.ExactDict:=by
    rcases V with ⟨j,V⟩|⟨j,V⟩
    .obtain⟨_,_,_,_,o,_,_,e,W,_⟩:=I.hok p _ V;exact(o,e,W)
    .obtain⟨_,_,_,_,o,_,_,e,W,_⟩:=I.hok p _ V;exact(o,e,W)
   obtain⟨o,e,W⟩:=z;refine((o,e,W.1),λ a F=>?_);cases F;exact(o,e,W.2.1)
  .refine HT λ K N=>?_;obtain⟨o,_,_,_,e,W,_⟩:=I.hok p _ V;refine N ?_;clear N K;refine((o,e,W.1),λ a F=>?_);cases F;exact(o,e,W.2.1)
 |_=>exact Uw A
def Gr(K:FG)(T:String)(r:V->List V->Hp->VK->Prop)(W:TE):TE:=λ N H Q=>W N H λ x S=>B6 K T x S/\r x [] S Q
def E4(K:FG)(T:String)(r:V->List V->Hp->VK->Prop)(A:TE)(t:TA):TE:=λ W H Q=>A W H λ x S=>B6 K T x S/\t W S λ F N=>r x F N Q
variable {e:Expr}{Z:List Expr}{apos cpos:Pos}{id:String}{r:V->List V->Hp->VK->Prop}
theorem Gs(p:PlainAttrs T)(N:Slot T Y id)(F:VC (.builtin id)=Uo (.type "method_descriptor"))(m:B5 X id r)(b:PE X o U)
  (V:autoParam (VP o Y X.env (eval o X.env)=eval o X.env) Ty._auto_1) (S:autoParam ((apos.endLine == cpos.line)=TK) Ty._auto_1):PE X (.Call (.Attribute o Y apos) [] [] cpos)<|Gr X.K T r U:=by
 intro y s g H Q I h;refine wpAny_Call_method0_late V S<|Yw (b y s g H _ I h) λ v s1 K=>?_;refine HT λ A W=>?_;obtain⟨x,d,z,j,i,e⟩:=K;obtain⟨c,k⟩:=xz z j i;refine W ?_;clear W A;exact(T,id,p,N,F,c,k,xA rfl<|PySem.evalArgs_none<|m y s1 g d x [] v [] Q z j .nil e)
theorem kU(J:PlainAttrs T)(K:Slot T Y id)(j:VC (.builtin id)=Uo (.type "method_descriptor"))(w:B5 X id r)(a:PE X o G)(n:PA X (e::Z) t)
  (S:autoParam (VP o Y X.env (eval o X.env)=eval o X.env) Ty._auto_1)
  (A:((UD cpos<|Ud (e::Z) X.env).all (λ x=>!x.1) && (Yd cpos<|WH [] X.env).all (λ x=>x.1.isSome)
   && decide ((e::Z).length+([]:List VU).length+(if ([]:List VU).isEmpty then 0 else 1)<30))=TK:=by rfl)
  (W:autoParam ((apos.endLine == cpos.line)=TK) Ty._auto_1) (U:autoParam (Ud (e::Z) X.env=(TL,eval e X.env)::Ud Z X.env) Ty._auto_1) (V:autoParam ((UD cpos<|Ud Z X.env).any (·.1)=TL) Ty._auto_1) :
  PE X (.Call (.Attribute o Y apos) (e::Z) [] cpos)<|E4 X.K T r G t:=by
 intro z s g H Q I h;refine wpAny_Call_method_late S A W rfl<|Yw (a z s g H _ I h) λ v s1 y=>?_;refine HT λ F N=>?_;obtain⟨x,m,d,k,E,L⟩:=y;obtain⟨i,l⟩:=xz d k E;refine N ?_;clear N F;refine(T,id,J,K,j,i,l,?_);have c:=n cpos z s1 g m _ d L;rw[U] at c ⊢;refine xA (by show(TL || (UD cpos<|Ud Z X.env).any (·.1))=TL;rw[V]<;>rfl)<|tF ?_;exact Yw c (by rintro M B ⟨vs,b,p,r2,D⟩;exact w z B g b x vs v M Q p k r2 D)
end
def K1(X:Cx)(id:String)(r:V->List V->Hp->VK->Prop):Prop :=
 ∀(S:LO) (s:TR) (N:St) (H:Hp) (x:V) (W:List V) (v:Value) (T:LV) (Q:VK),Inv X S N H s->RelV x v->Vals W T->r x W H Q ->
  TU (TX X.prog X.w) X.A (call (.builtin id)<|v::T) (EP X S N Q) X.xe s
def Vals.one{x:V}(r:Vals [x] Z):∃u,Z=[u]/\RelV x u:=by
 cases r with
 |cons r t=>cases t;exact(_,rfl,r)
theorem Vals.zero:∀ {V:LV},Vals [] V->V=[]
 |_,.nil=>rfl
def Vals.dropLast(h:Vals Y Z):Vals Y.dropLast Z.dropLast:=by
 induction h with
 |nil=>exact .nil
 |cons r t V=>
  cases t with
  |nil=>exact .nil
  |cons q S=>exact .cons r V
theorem Vals.eraseIdx:∀ {T:List V}{S:LV}(i:Nat),Vals T S->Vals (T.eraseIdx i) (S.eraseIdx i)
 |_,_,_,.nil=>.nil
 |_,_,0,.cons _ t=>t
 |_,_,i+1,.cons r t=>.cons r (Vals.eraseIdx i t)
def Vals.reverse(h:Vals Y Z):Vals Y.reverse Z.reverse:=by
 induction h with
 |nil=>exact .nil
 |cons r t V=>rw[pL,pL];exact Vals.append V<|.cons r .nil
theorem Vals.rep(h:Vals Y Z):∀k:Nat,Vals (TY k Y).flatten (TY k Z).flatten
 |0=>.nil
 |k+1=>by
  rw[fF,fF,gF,gF];exact Vals.append h<|Vals.rep h k
def Gu{S:Type}(l:List S):l.eraseIdx (l.length-1)=l.dropLast:=by
 induction l with
 |nil=>rfl
 |cons a r V=>
  cases r with
  |nil=>rfl
  |cons b r=>
   have e:(a::b::r).length-1=((b::r).length-1)+1:=by
    have T:(a::b::r).length=r.length+2:=rfl;have W:(b::r).length=r.length+1:=rfl;lia
   rw[e,List.eraseIdx_cons_succ,V];all_goals rfl
theorem xB{V:Type}:∀(l:List V) (i:Nat),(l.eraseIdx i).length<=l.length
 |[],_=>ax _
 |_::_,0=>nh _
 |_::r,i+1=>nj (xB r i)
theorem xC(S:LV):∀(k:Nat) (V:LV),
  Wq (λ W N=>W++N) V.toArray (TY k S.toArray)=(V++(TY k S).flatten).toArray
 |0,V=>by simp
 |k+1,V=>by
  have e:V.toArray++S.toArray=(V++S).toArray:=Cr
  have T:(V++S)++(TY k S).flatten=V++(TY (k+1) S).flatten:=by
   rw[fF,gF,jJ]
  rw[<- T,<- xC S k<|V++S,<- e,fF,iT]
theorem Inv.lset{V its':LV}{f:Array Value->Array Value}{F:Nat}(I:Inv X Y U H s)(S:H l=TJ (.lst J))
  (e:s.heap.get? l=TJ { cls:=.type "list",data:=.seq V.toArray n }) (W:f V.toArray=its'.toArray) (A:Vals Z its') (K:Z.length<=TW) :
  Inv X Y U (Yu H l<|.lst Z) { s with heap:=s.heap.update l (UH f),toks:=F }:=by
 have q:=PySem.IsL.update e f;rw[W] at q;refine I.write (x:=l) (e:=l) (by rw[S];exact trivial) (.inl rfl) (λ z u T N=>(dL s.heap (UH f)<|bI T).trans N) (_,q) ?_;exact(K,its',_,A,q)
theorem Inv.lnew{t':Nat}(I:Inv X U J H s)(V:Vals Y Z)(S:Y.length<=TW) :
  Inv X U J (Yu H s.heap.objs.size<|.lst Y) { s with heap:=s.heap.push { cls:=.type "list",data:=.seq Z.toArray },toks:=t' } :=
 I.laid (λ _ _ q=>aJ _ q) (ax _) (S,Z,0,V,bJ _ rfl)
def Inv.fresh(I:Inv X Z Y H s):H s.heap.objs.size=TM:=I.hok.fresh<|ax _
def Inv.lstM(I:Inv X U J H s)(V:H l=TJ (.lst Y)):Y.length<=TW/\∃(Z:LV) (n:Nat),Vals Y Z/\Y.length=Z.length/\s.heap.get? l=TJ { cls:=.type "list",data:=.seq Z.toArray n }:=by
 obtain⟨z,Z,n,r,e⟩:=I.hok l _ V;exact(z,Z,n,r,r.length,e)
def xD{n:Nat}(h:n<=TW):UC n=TL:=by
 unfold UC;exact bA BT
def tG:V->List V->Hp->VK->Prop:=λ x vs H Q=>∃l S y,x=.ref l/\vs=[y]/\H l=TJ (.lst S)/\S.length<TW/\Q .non (Yu H l<|.lst<|S++[y])
def xF:K1 X "list.append" tG:=by
 intro F s c H x vs v d Q I K A h;refine HT λ S V=>?_;obtain⟨l,o,y,rfl,rfl,W,g,q⟩:=h;refine V ?_;clear V S;cases K;refine HT λ S V=>?_;obtain⟨u,rfl,N⟩:=A.one;obtain⟨z,T,n,r,j,e⟩:=I.lstM W;refine V ?_;clear V S;refine fZ s1i (_,e,on) s0t (s0i _ _) (WD l T.toArray n u<|by rw[aY];lia) (e,?_);refine(.non,_,I.lset (its':=T++[u]) W e Cr (r.append<|.cons N .nil) ?_,on,q);rw[aQ,hZ];lia
def xG:V->List V->Hp->VK->Prop:=λ x vs H Q=>∃l S y,x=.ref l/\vs=[]/\H l=TJ (.lst S)/\S[S.length-1]?=TJ y/\Q y (Yu H l<|.lst S.dropLast)
def Gv:K1 X "list.pop" xG:=by
 intro k s p H x vs v m Q I c o h;refine HT λ T S=>?_;obtain⟨l,b,y,rfl,rfl,A,g,q⟩:=h;refine S ?_;clear S T;cases c;have W:=o.zero;subst W;refine HT λ T S=>?_;obtain⟨z,V,n,r,K,e⟩:=I.lstM A;obtain⟨u,j,d⟩:=r.get g;refine S ?_;clear S T
 have N:V.toArray[V.toArray.size-1]?=TJ u:=by
  show V.toArray[V.length-1]?=TJ u;rw[<- tH,<- K];exact j
 refine fZ F.slot_list_pop (_,e,on) F.entry_list_pop (F.args_list_pop_1 _) (MeetsSeq.list_pop_last l V.toArray n u N<|by rw[aY];lia) (e,?_);refine(y,_,I.lset (its':=V.dropLast) A e ?_ r.dropLast ?_,d,q)
 .show V.toArray.eraseIdxIfInBounds (V.toArray.size-1)=V.dropLast.toArray;rw[aY,xH,Gu]
 .rw[List.length_dropLast];lia
def pM:V->List V->Hp->VK->Prop:=λ x vs H Q=>∃l S i k y,x=.ref l/\vs=[.int i]/\H l=TJ (.lst S)/\-(2 ^ 63)<=i/\i<2 ^ 63/\Wh i S.length=TJ k/\S[k]?=TJ y/\Q y (Yu H l<|.lst<|S.eraseIdx k)
def Gw:K1 X "list.pop" pM:=by
 intro a s Y H x vs v Z Q I b m h;refine HT λ T V=>?_;obtain⟨l,p,i,k,y,rfl,rfl,N,A,K,j,o,q⟩:=h;refine V ?_;clear V T;cases b;refine HT λ T V=>?_;obtain⟨u,rfl,c⟩:=m.one;obtain⟨t,rfl⟩:=c;obtain⟨z,S,n,r,g,e⟩:=I.lstM N;obtain⟨w,d,W⟩:=r.get o;refine V ?_;clear V T
 refine fZ F.slot_list_pop (_,e,on) F.entry_list_pop (F.args_list_pop_2 _ _)
  (MeetsSeq.list_pop_at l S.toArray n i t k w (s0o A K) (by rw[aY,<- g];exact j) (by rw[<- tH];exact d)<|by rw[aY];lia) (e,?_)
 refine(y,_,I.lset (its':=S.eraseIdx k) N e ?_ (r.eraseIdx k) ?_,W,q)
 .show S.toArray.eraseIdxIfInBounds k=(S.eraseIdx k).toArray;rw[xH]
 .have:=xB p k;lia
def Gy:R2:=λ x y H Q=>∃l k V,x=.ref l/\y=.int k/\H l=TJ (.lst V)/\-(2 ^ 63)<=k/\k<2 ^ 63/\V.length*k.toNat<=TW /\
 ∀p,H p=TM->Q (.ref p) (Yu H p<|.lst (TY k.toNat V).flatten)
def xI{T:Type}(V:List T)(k:Nat):(TY k V).flatten.length=k*V.length:=by
 induction k with
 |zero=>simp
 |succ k S=>rw[fF,gF,aQ,S,Nat.succ_mul,Nat.add_comm]
def Gz:YL X (UA .Mult) Gy:=by
 intro D s E H x y v u Q I Y J h;refine HT λ W S=>?_;obtain⟨l,k,G,rfl,rfl,w,p,i,o,q⟩:=h;refine S ?_;clear S W;cases Y;refine HT λ W S=>?_;obtain⟨t,rfl⟩:=J;obtain⟨z,V,n,r,Z,e⟩:=I.lstM w;refine S ?_;clear S W;have c:V.toArray.size*k.toNat<=TW:=by rw[aY,<- Z];exact o
 have A:¬V.toArray.size*k.toNat > (2 ^ 63-1)/8:=by
  have:(TW:Nat)<=(2 ^ 63-1)/8:=Cl;lia
 have K:¬(!UR k)=TK:=by
  rw[s0o p i];exact dz
 have N:¬UC (V.toArray.size*k.toNat)=TK:=by
  rw[xD c];exact dz
 have j:Wq (λ g d=>g++d) #[] (TY (if V.toArray.isEmpty=TK then 0 else k.toNat) V.toArray)=(TY k.toNat V).flatten.toArray:=by
  have b:∀m:Nat,Wq (λ g d=>g++d) #[] (TY m V.toArray)=(TY m V).flatten.toArray:=λ m=>by
   have:=xC V m [];rw[tJ] at this;exact this
  rw[b]
  cases V with
  |nil=>simp
  |cons a B=>rw[T9 Cr]
 refine xJ (T := "list") (U := "int") Cl (_,e,on) (λ L=>s0d L k t) noFill_list_mul F.fills_int_mul pN repeat_list F.slot_int_index.lookup
  (fZ pN (s0d s k t) F.entry_int_rmul (F.args_int_rmul_2 _ _) (int___rmul___int_list k t l V.toArray n)
   (e,rfl,(_,e,rfl),fZ F.slot_list_mul (_,e,rfl) F.entry_list_mul (F.args_list_mul_2 _ _) (AutoListH.list___mul___list_int_3 l V.toArray n k t K A N) (e,?_)))
 rw[j];exact(.ref _,_,I.lnew (t':=s.toks) (r.rep k.toNat) (by rw[xI,s1u];exact o),on,q _ I.fresh)
section
variable {Z:Uh}{w:Ui}{A:Uk}{E:VS}{s:TR}
end
end _L
namespace Att
open PySem PySem.W PySem.Calls PyProof.Rows
def GA:∀(V:Yr) (vs:LV),WellAll P h vs (V.map WData.int)->Vu vs V:=by
 intro V
 induction V with
 |nil=>
  intro vs w;rw[Yb] at w;cases w;exact .nil
 |cons n V S=>
  intro vs w;rw[cB] at w
  cases w with
  |cons a b=>
   cases a;exact .cons _ _<|S _ b
theorem GC{l:OpenLaw}(o:l.most=TJ n)
  (V:l.row.toRowW.claim.pre args=TK) (F:WellAll P h Y args) :
  ∃a vs Z,Y=[Ug a]/\args=[WData.list<|Z.map WData.int]/\h.get? a=TJ { cls:=.type "list",data:=.seq vs.toArray }/\Vu vs Z/\Z.length<=n:=by
 have K:WShape.hasAll [] args [.list .int]=TK:=(pre_splitW V).1;have z:l.pre.holds [] { args:=args }=TK:=(pre_splitW V).2;refine HT λ A S=>?_;obtain⟨d,r,rfl,v,j⟩:=hasAllW_cons K;obtain rfl:=hasAllW_nil j;obtain⟨s,rfl,g⟩:=hasW_list v;obtain⟨Z,rfl⟩:=items_int g;refine S ?_;clear S A
 have y:Z.length<=n:=by
  unfold OpenLaw.pre at z
  have W:(WTm.not<|.lt (.lit<|.int (n:Int))<|.len<|.arg 0).holds [] { args:=[.list<|Z.map .int] }=TK:=by
   have W:=(holds_andW z).1;rw[o] at W;exact W
  have N:=condW_of W<|w_not<|w_lt w_lit<|w_len_list<|w_arg rfl;rw[af] at N;refine Nat.le_of_not_lt λ q=>?_;have k:(n:Int)<((Z.length:Nat):Int):=BT
  first
   |(rw[bC k] at N;exact U1 N Cl)
   |(simp at N;lia)
 cases F with
 |cons m b=>
  cases b
  cases m with
  |list c T=>exact(_,_,Z,rfl,rfl,c,GA Z _ T,y)
def GD(l:OpenLaw)(args:List WData):l.row.toRowW.claim.post args (.bool TK) args=TK :=
 postW_of (r:=l.row.toRowW) (X:=(TK == TK))
  (show WShape.has [] (.bool TK) .bool=TK by first|rfl|decide|simp[WShape.has,WShape.arms,WShape.armsAll])
  (show(WTm.eq .res<|.lit<|.bool TK).value [] { args:=args,res:=TJ (.bool TK),after:=args }=TJ (.bool<|TK == TK) from w_eq_bool (w_res rfl) w_lit) rfl
theorem attach_call{l:OpenLaw}{e:Ui->Ue->Prop}{d:DefRec}
  (C:l.most=TJ n) (k:d.params.defaults=[])
  (call:∀(w:Ui) (S V:TR) (y s:SV) (N:TQ) (o:Obj) (p z T:Value) (a:TQ) (vs:LV) (v:Yr),
   Ground q Z [] J w S y s V.heap->e w V.heap ->
   V.heap.get? N=TJ o->o.data=.func (docDef d.name d.params d.body d.scope p z T)->V.heap.CodeRec z d.name->y d.name=TJ (.ref N) ->
   V.heap.get? a=TJ { cls:=.type "list",data:=.seq vs.toArray }->Vu vs v->v.length<=n->V.gens=#[] ->
   UM (TX l.prog w) VG (.call (.ref N) ([.ref a],[])) (λ r j=>r=.ok (.ret<|.bool TK)/\OldK V.heap j.heap/\j.os=V.os/\UV j.gens) V) :
  WalkO q Z J e l.row.toRowW d [] λ f vs=>WZ f vs:=by
 intro w S V y s G Y N o p z T D kV P I c t m Q i U u F x H b O;refine HT λ g A=>?_;obtain rfl:D=.none:=Dflts.none t k;obtain rfl:kV=.none:=Dflts.noKw t;obtain⟨a,vs,v,rfl,rfl,K,W,L⟩:=GC C F b;refine A ?_;clear A g;refine enter_call<|jI (call w S V y s N o p z T a vs v G Y P (fd_plain I) c m K W L Q) λ r j X=>?_;obtain⟨rfl,B,E,M⟩:=X;exact(.inl (.bool TK,.bool TK,[],on,λ _=>rfl,.bool TK,GD l _,λ _=>(List.Pairwise.nil,λ _ R=>(nomatch R))),B,E,M)
section
variable {Z:Uh}{w:Ui}{A:Uk}{E:VS}{s:TR}{K:Frag}
end
end Att
namespace _L
open PySem PySem.Spec PyProof.Rows
theorem tK:∀ {vs:LV}{S:Yr},Vu vs S->Vals (S.map V.int) vs
 |_,_,.nil=>.nil
 |_,_,.cons n t h=>.cons (t,rfl) (tK h)
noncomputable def gG(s:Uc):Vh:=match s with
 |.FunctionDef _ a _ _ _ _ _ _ _ _=>a
 |_=>{ posonlyargs:=[],args:=[],vararg:=TM,kwonlyargs:=[],kw_defaults:=[],kwarg:=TM,defaults:=[] }
noncomputable def aR(s:Uc):List Uc:=match s with
 |.FunctionDef _ _ b _ _ _ _ _ _ _=>b
 |_=>[]
noncomputable def aB(s:Uc):Scope:=match s with
 |.FunctionDef _ _ _ _ _ _ V _ _ _=>V
 |_=>{ kind:=.function,names:=[],isGenerator:=TL,isCoroutine:=TL }
noncomputable abbrev YJ:Zq:=λ _ _ _ _ _ _=>False
abbrev E0:XK:=λ _ _ _=>False
def nq:kQ YJ X E0:=λ _ _ _ _ _ _ _ h=>h.elim
structure Fun (K:FG)(x qual:Str)(st:Uc)(f:TQ)(fd:Uu):Prop where
 ex:∃(oc:Value) (od:OA) (kV doc pm:Value) (an:OA) (cdv ct:Value) (osl:AV),
  fd=W.fnOf x qual (gG st) (aR st) (aB st) .none kV doc pm an cdv ct/\K.lookup f=TJ (oc,od,.func fd,osl)/\W.codeIn K cdv qual=TK
 kp:W.keepIn K (.ref f)=TK
section
variable {K:FG}
theorem Fun.ok{st:Uc}{o:Sp}(F:Fun K x Z st f J)(S:YG N U<|aB st)(d:∀vs H Q E,o vs H Q E->vs.length=U.length)
  (z:∀(W:Value) (A:Uk) (T:List Env) (s:TR) (H:Hp) (vs:List V) (Q:VK) (E:XK),Room k (A.deeper<|UE Z (aB st) s.heap.objs.size f W)->o vs H Q E ->
   ∃t,PSs (dw YJ P w K L Y N Z (aB st) f W A T s H E).nox (aR st) t/\t { nx:=λ _ c=>Q .non c,rt:=Q } (Yy N vs) H):FnOk P w K L Y YJ (k+1) f J U o:=by
 refine HT λ v y=>?_;obtain⟨i,l,kV,m,n,an,W,e,p,rfl,r,j⟩:=F.ex;refine y ?_;clear y v;refine xg r j S d λ A T s H vs Q E b g=>?_;obtain⟨t,h,q⟩:=z W A T s H vs Q E b g;exact(t,h.nox,q)
theorem Fun.binds{st:Uc}{A:List Str}(F:Fun K x Z st f Y)
  (h:∀(kV S N:Value) (an:OA) (V T:Value) (z:LV),z.length=A.length->VF (W.fnOf x Z (gG st) (aR st) (aB st) .none kV S N an V T) (z,[])=Uo (A.zip z)):Binds K Y A []:=by
 obtain⟨g,d,kV,S,N,an,V,T,v,rfl,j,y⟩:=F.ex;exact .all<|h kV S N an V T
theorem tM{st:Uc}{F:Value}{z an:OA}{T:AV}{kV S A V N:Value}(l:K.lookup f=TJ (F,z,.func<|W.fnOf x Z (gG st) (aR st) (aB st) .none kV S A an V N,T))
  (c:W.codeIn K V Z=TK) (k:W.keepIn K (.ref f)=TK):Fun K x Z st f<|W.fnOf x Z (gG st) (aR st) (aB st) .none kV S A an V N:=((F,z,kV,S,A,an,V,N,T,rfl,l,c),k)
end
def aN{n:Nat}(h:n<=1000):n<TW:=s1j h Cl
variable {X:Cx}
theorem pv(i:Nat)(S:autoParam (X.N[i]?=TJ x) Ty._auto_1)(W:l5 X.env.scope x:=by first|exact Or.inl rfl|exact Or.inr (Or.inl rfl)|exact Or.inr<|Or.inr rfl)(T:autoParam ((x == ("__debug__" : Str))=TL) Cl._auto_1)
  (V:autoParam ((x == ("__classdict__" : Str))=TL) Cl._auto_1):PE X (.Name x Z)<|bL i:=eO S W T V
end _L
set_option maxHeartbeats 4000000
namespace _L
open PySem PySem.Spec PyProof.Rows
section
variable {R:Wa->TR->Prop}{s:TR}
theorem GE{g V N:Expr}{p j:Value}(I:Nat->TR->Prop)
  (b:∀n s,I n s->TU (TX Z w) A (UY p) (λ r S=>match r with
   |none=>R (.ok .next) S
   | TJ v=>TU (TX Z w) A (UX V p v) (λ _ K=>TU (TX Z w) A (VA V Y v) (λ _ F=>TU (TX Z w) A (eval g Y) (λ x z =>
     TU (TX Z w) A (call (.builtin "list.append") [j,x]) (λ _ y=>∃m,m<n/\I m y) (λ _ _=>False) z)
     (λ _ _=>False) F) (λ _ _=>False) K) (λ _ _=>False) S) (λ _ _=>False) s)
  (n:Nat) (h:I n s) :
  UM (TX Z w) A (.compLoop (.ListComp g [(V,N,[],0)] U J) 0 p j Y) R s:=by
 refine codeAny_loop rfl I (λ n s e=>?_) n h;show TU _ _ ((compTurn (.ListComp g [(V,N,[],0)] U J) 0 p j Y).onRaise λ x=>do Vk x Y;Xg x) _ _ s;refine wpAny_noted ?_;rw[compTurn_list1];refine ae<|jG<|ae<|cj (b n s e) (λ r S W=>?_) λ _ _ T=>T.elim
 cases r with
 |none=>exact aq W
 |some v=>
  refine ae<|cj W (λ _ K d=>?_) λ _ _ T=>T.elim
  exact ae (cj d (λ _ F o=>ae<|ae<|cj o (λ x z c=>ae<|cj c
   (λ _ y k=>aq<|aq (rfl,k)) λ _ _ T=>T.elim) λ _ _ T=>T.elim) λ _ _ T=>T.elim)
end
noncomputable def eU(X:Cx)(N:List Str)(V:Scope)(S:LA)(C:TQ)(ex:List TQ)(s:TR)(H:Hp):Cx where
 prog:=X.prog
 w:=X.w
 K:=X.K
 mg:=X.mg
 base:=X.base
 A:=X.A
 N:=N
 s₀:=s
 H₀:=H
 env:=Ye V S C X.env
 outer:=X.stack
 stack:=X.stack
 ex:=ex
 fn:=λ _=>TL
 calm:=X.calm
 pn:=X.pn
 xe:=λ _ _=>False
noncomputable def dZ(k:Nat)(V:List Nat)(S:St):St:=TY k TM++V.map λ j=>(S[j]?).join
def kW(e:TI)(k:Nat)(r:List Nat)(g:TG)(s:TE):TE:=λ d H Q=>e d H λ J o=>
 ∃W:Nat->Nat->List V->St->Hp->Prop,(∃m,W 0 m [] (dZ k r d) o)/\∀i m z A S,W i m z A S ->
  (J.stop i S/\∀p,S p=TM->Q (.ref p) (Yu S p<|.lst z)) \/
  (J.go i S/\z.length < TW/\∃N:List V->St->Hp->Prop,(∀j K T,N j K T->∃y,y < m/\W (i+1) y j K T) /\
   ∀x T,J.yld i S x T->g x A T λ F c=>s F c λ v b=>N (z++[v]) F b)
structure P2 (X:Cx)(scope:Scope)(cl:LA)(x:Str)(j:Nat):Prop where
 at_:X.N[j]?=TJ x
 out:X.env.scope.names.lookup x=TJ .cell\/X.env.scope.names.lookup x=TJ .free
 inn:(Vp scope X.env).names.lookup x=TJ .cell\/(Vp scope X.env).names.lookup x=TJ .free
def GF{V:St}{j:Nat}(h:(V[j]?).join=TJ v):V[j]?=TJ (TJ v):=by
 cases e:V[j]? with
 |none=>rw[e] at h;cases h
 |some o=>
  rw[e] at h
  cases o with
  |none=>cases h
  |some u=>cases h;rfl
def iU(n:TI)(k:Nat)(e:List Nat)(g:TG)(t:TT)(l:TE):TE:=λ o H Q=>n o H λ J c=>
 ∃W:Nat->Nat->List V->St->Hp->Prop,(∃m,W 0 m [] (dZ k e o) c)/\∀i m K F T,W i m K F T ->
  (J.stop i T/\∀p,T p=TM->Q (.ref p) (Yu T p<|.lst K)) \/
  (J.go i T/\K.length < TW/\∃N:List V->St->Hp->Prop,(∀d z A,N d z A->∃j,j < m/\W (i+1) j d z A) /\
   ∀x A,J.yld i T x A->g x F A λ S r=>t S r λ b y=>if b=TK then l S y λ v s=>N (K++[v]) S s else N K S y)
abbrev pO:=Uh->Ui->Uk->Env->(Bool->TR->Prop)->TR->Prop
def nz(i:List Expr)(T:pO):Prop:=(∀ {V:Uh}{w:Ui}{A:Uk}{R:Wa->TR->Prop}{s:TR}{y S j:Expr}{F:Scope}{l:Pos}{t z:Value}{W:Env}(I:Nat->TR->Prop),
  (∀n s,I n s->TU (TX V w) A (UY t) (λ r N=>match r with
   |none=>R (.ok .next) N
   | TJ v=>TU (TX V w) A (UX S t v) (λ _ g=>TU (TX V w) A (VA S W v) (λ _ d=>T V w A W (λ b K =>
     if b=TK then TU (TX V w) A (eval y W) (λ x o =>
      TU (TX V w) A (call (.builtin "list.append") [z,x]) (λ _ c=>∃m,m<n/\I m c) (λ _ _=>False) o) (λ _ _=>False) K
     else ∃m,m<n/\I m K) d) (λ _ _=>False) g) (λ _ _=>False) N) (λ _ _=>False) s)->∀n,I n s ->
  UM (TX V w) A (.compLoop (.ListComp y [(S,j,i,0)] F l) 0 t z W) R s) /\
 ∀ {p w A e k a s},T p w A e k s->(∀b s,k b s->a b s)->T p w A e a s
def tN:pO:=λ _ _ _ _ k s=>k TK s
def GG:nz [] tN:=(λ I t n h=>GE I t n h,λ h m=>m _ _ h)
def PM(X:Cx)(T:pO)(A:TT):Prop:=∀(W:LO) (s:TR) (V:St) (H:Hp) (K:Bool->Hp->Prop),Inv X W V H s->A V H K->T X.prog X.w X.A X.env (λ b N=>∃S,Inv X W V S N/\K b S) s
theorem GH{X:Cx}{elt tg iter:Expr}{cl:LA}{L fv:List Str}{js:List Nat}
    (hc:X.calm=TK) (hi:PI X tg iter wi) (hclos:Vb Z X.env=Uo cl) (hcell:∀y∈Z.names,y.2≠.cell) (YQ:Z.kind=.function)
    (hnames:∀y∈Z.names,y.2=.local->Z.names.lookup y.1=TJ .local)
    (P:∀x c,cl.lookup x=TJ c->X.env.cells.lookup x=TJ c)
    (hhas:∀x,((Vp Z X.env).names.lookup x=TJ .cell\/(Vp Z X.env).names.lookup x=TJ .free)->∃c,cl.lookup x=TJ c)
    (YA:js.length=fv.length) (hcap:∀(i:Nat) x j,fv[i]?=TJ x->js[i]?=TJ j->P2 X Z cl x j)
    (hg:∀(C:TQ) (ex:List TQ) (s:TR) (H:Hp),PG (eU X (L++fv) Z cl C ex s H) tg g)
    (he:∀(C:TQ) (ex:List TQ) (s:TR) (H:Hp),PE (eU X (L++fv) Z cl C ex s H) elt te)
    (ht:∀(C:TQ) (ex:List TQ) (s:TR) (H:Hp),PM (eU X (L++fv) Z cl C ex s H) T0 tc) (lp:nz ifs T0)
    (hs:∀x,VR iter X.env x=Uo x)(I:Inv X Yq σ H s) (h:iU wi L.length js g tc te σ H Q)
    (fin:∀(a C:TQ) (s5:TR) (H5:Hp) (fl:Flow),Inv X Yq σ H5 s5->H5 C=TM->C≠X.env.locals->X.s₀.heap.objs.size<=C->(∀x c,X.env.cells.lookup x=TJ c->c≠C)->(∀p∈X.pn++Yq,p.1≠C)->(∃m,s5.heap.Ns C m)->Q (.ref a) H5->Yf (TX X.prog X.w) X.A X.xe use QQ (.ref a) C (.ok fl) s5) :
    TU (TX X.prog X.w) X.A (XJ (.ListComp elt [(tg,iter,ifs,0)] Z pos) Z X.env fpos (Xt []) TL (firstIter [(tg,iter,ifs,0)] X.env) use) QQ X.xe s:=by
  refine wpAny_comprehension_free (use:=use) rfl hs hclos YQ hnames<|Yw (hi Yq s σ H _ I h) λ v s1 h1=>Yw h1 λ itv S h2=>?_;refine HT λ G t=>?_;obtain⟨it,fp,tn,J,H2,e,F,T,st2,f2,W,⟨m0,w0⟩,turn⟩:=h2;refine t ?_;clear t G;subst e;refine dA<|wpAny_newFunctionEnv hcell (by intro y hy;simp at hy) (λ h₁ O w=>?_) YQ;dsimp only at O w ⊢;generalize hHp:S.heap.push { cls:=.type "list",dict:=TM,data:=.seq ([]:LV).toArray }=R at O w ⊢;have hC:R.objs.size=S.heap.objs.size+1:=by rw[<- hHp,jK]
  have hDC:S.heap.objs.size≠R.objs.size:=by rw[hC];exact bf<|ig _
  have ltC:∀b,b<S.heap.objs.size->b≠R.objs.size:=λ b V=>by rw[hC];exact bf<|eV V
  have old:∀b o,S.heap.get? b=TJ o->h₁.get? b=TJ o:=λ b o e=>w.extBut b o (ltC b<|aF e)<|aJ _<|hHp ▸ aJ _ e;have hacc:h₁.get? S.heap.objs.size=TJ { cls:=.type "list",data:=.seq ([]:LV).toArray 0 }:=w.extBut _ _ hDC<|aJ _<|hHp ▸ bJ _ rfl;have M:∀a,S.heap.objs.size<=a->H2 a=TM:=λ a ha=>F.hok.fresh ha
  have fpL:∀b∈fp,b<S.heap.objs.size:=λ b V=>by
    obtain⟨o,e,_⟩:=T.obj _ _ st2 b V;exact aF e
  have cellL:∀x c,cl.lookup x=TJ c->c<S.heap.objs.size:=λ x c e=>by
    obtain⟨v,q⟩:=F.cell x c<|P x c e;exact q.lt
  have pinL:∀p∈X.pn++Yq,p.1<S.heap.objs.size:=λ p hp=>aF (F.pin p hp).1;generalize D:eU X (L++fv) Z cl R.objs.size fp S H2=Y
  have ok:Y.Ok:=by
    subst D
    refine(F.ok.mod,YQ,F.ok.glob,F.ok.blt,by show S.heap.objs.size≤R.objs.size;lia,λ x y c h1 h2=>F.ok.inj x y c (P x c h1)<|P y c h2,λ x hx=>hhas x hx,
      λ x c hf=>U1 hf (by show ¬(TL=TK);decide),F.ok.hd,F.ok.frames,.inl rfl,λ b V=>(ltC b<|fpL b V,λ x c e=>(f2 b V).2.2.2.2.1 x c<|P x c e),F.bs,cw F.ok.bsz F.sz,λ b o e V=>?_,λ b V hz=>?_,F.stack,F.stkFree)
    . rcases(f2 b V).2.2.2.1 with z|z
      . exact F.ok.noex b o e z
      . exact U1 (bH (aF e)<|cw F.ok.bsz z)<|dU _
    . rcases aD.mp (F.stkSub b hz) with z|z
      . exact(f2 b V).2.1 z
      . exact(f2 b V).2.2.1 z
  have E:Y.env.locals=R.objs.size:=by subst D;rfl
  have hYs:Y.s₀=S:=by subst D;rfl
  have hYH:Y.H₀=H2:=by subst D;rfl
  have hYx:Y.ex=fp:=by subst D;rfl
  have hYf:Y.fs=YF X.stack:=by subst D;rfl
  have hYc:Y.env.cells=cl:=by subst D;rfl
  have hYp:Y.pn=X.pn:=by subst D;rfl
  have pinOk:∀p∈X.pn++Yq,S.heap.get? p.1=TJ p.2/\H2 p.1=TM/\p.1≠R.objs.size/\p.1 ∉ YF X.stack/\∀v,p.2.data≠.cell v:=λ p hp=>by
    refine HT λ G t=>?_;obtain⟨e,n,ne,nf,d⟩:=F.pin p hp;refine t ?_;clear t G;refine(e,n,ltC _<|aF e,λ z=>?_,d)
    rcases aD.mp (F.stkSub _ z) with q|q
    . exact ne q
    . exact nf q
  have stkL:∀b∈YF X.stack,b<S.heap.objs.size:=λ b V=>by
    obtain⟨_,o,ho,_⟩:=F.stack.mem V;exact aF ho
  have I3:Inv Y (Yq++[(S.heap.objs.size,{ cls:=.type "list",data:=.seq ([]:LV).toArray 0 })]) (dZ L.length js σ) H2 { S with heap:=h₁,toks:=S.toks+([]:List<|Str×Value).length }:=by
    refine(ok,by subst D;rfl,F.bare,by rw[hYH,hYs];exact Un.kept old,(_,by rw[E];exact O,λ i x v e1 e2 e3=>?_),λ x c e=>?_,by rw[E];exact M _ BT,λ x c e=>?_,λ p hp=>?_,by subst D;exact F.hok.kept old,?_)
    . subst D;have e1:(L++fv)[i]?=TJ x:=e1;unfold dZ at e2;by_cases hi:i<L.length
      . rw[cU (by simpa using hi),dY] at e2;split at e2<;>cases e2
      . rw[cS (by simpa using hi),fE,bc] at e2;rw[cS BT] at e1
        cases ej:js[i-L.length]? with
        |none=>rw[ej] at e2;cases e2
        |some j=>
          rw[ej] at e2;have cp:=hcap _ x j e1 ej;have e2':σ[j]?=TJ (TJ v):=GF<|bS e2;refine HT λ G t=>?_;obtain⟨m,hn,hl⟩:=F.loc;obtain⟨u,r,l⟩:=hl j x v cp.at_ e2'<|cp.out.elim (λ z=>.inr<|.inl z) λ z=>.inr<|.inr z;refine t ?_;clear t G;refine(u,r,.inr (cp.inn,?_));obtain⟨c,ec⟩:=hhas x cp.inn
          rcases l with ⟨k,_⟩|⟨_,c',ec',z⟩
          . have k:X.env.scope.names.lookup x=TJ .local:=k
            rcases cp.out with q|q<;>rw[q] at k<;>cases k
          . rw[P x c ec] at ec';cases ec';obtain⟨o,ho,hd⟩:=z;exact(c,ec,o,old _ _ ho,hd)
    . rw[hYc] at e;obtain⟨v,o,ho,hd⟩:=F.cell x c<|P x c e;exact(v,o,old _ _ ho,hd)
    . rw[hYc] at e;exact F.freeC x c<|P x c e
    . rw[hYp] at hp;rw[E,hYf]
      rcases cy.mp hp with z|z
      . obtain⟨a,b,c,d,f⟩:=pinOk p<|fk _ z;exact(old _ _ a,b,c,d,f)
      . rcases cy.mp z with z|z
        . obtain⟨a,b,c,d,f⟩:=pinOk p<|bO _ z;exact(old _ _ a,b,c,d,f)
        . have e:p=_:=aK.mp z;subst e;exact(hacc,M _<|ax _,hDC,λ z=>U1 (stkL _ z)<|dU _,λ v z=>by cases z)
    . subst D;unfold dZ;show _=(L++fv).length;simp[YA]
  have A:Y.prog=X.prog:=by subst D;rfl
  have hYw:Y.w=X.w:=by subst D;rfl
  have hYK:Y.K=X.K:=by subst D;rfl
  have hYA:Y.A=X.A:=by subst D;rfl
  have hYcalm:Y.calm=TK:=by subst D;exact hc
  have hYxe:Y.xe=λ _ _=>False:=by subst D;rfl
  have hYenv:Y.env=Ye Z cl R.objs.size X.env:=by subst D;rfl
  have hg':=hg R.objs.size fp S H2;have he':=he R.objs.size fp S H2;have ht':=ht R.objs.size fp S H2;rw[D] at hg' he' ht'
  have fpOk:∀ {H':Hp}{pn:LO},(∀b∈fp,H' b=TM)->(∀p∈pn,p.1=S.heap.objs.size\/p∈Yq)->∀b∈fp,iM Y pn H' b:=λ hn hp b V=>by
    refine(hn b V,by rw[E];exact ltC b<|fpL b V,?_,.inl (by rw[hYx];exact V),λ x c e=>?_,λ p hq=>?_)
    . rw[hYf];intro hz
      rcases aD.mp (F.stkSub b hz) with z|z
      . exact(f2 b V).2.1 z
      . exact(f2 b V).2.2.1 z
    . rw[hYc] at e;exact(f2 b V).2.2.2.2.1 x c<|P x c e
    . rw[hYp] at hq
      rcases cy.mp hq with z|z
      . exact(f2 b V).2.2.2.2.2 p<|fk _ z
      . rcases hp p z with q|q
        . rw[q];exact bI<|bf<|fpL b V
        . exact(f2 b V).2.2.2.2.2 p<|bO _ q
  have loop:∀s₃:TR,s₃={ S with heap:=h₁,toks:=S.toks+([]:List<|Str×Value).length } ->
      UM (TX X.prog X.w) X.A (.compLoop (.ListComp elt [(tg,iter,ifs,0)] Z pos) 0 (.ref it) (.ref S.heap.objs.size)<|Ye Z cl R.objs.size X.env)
        (Yf (TX X.prog X.w) X.A X.xe use QQ (.ref S.heap.objs.size) R.objs.size) s₃:=by
    rintro s₃ rfl
    refine lp.1 (λ n s'=>∃i ys K k σ' H',Inv Y (Yq++[(S.heap.objs.size,{ cls:=.type "list",data:=.seq (K:LV).toArray k })]) σ' H' s'/\tn i s'.heap/\(∀b∈fp,H' b=TM)/\Vals ys K/\ys.length<=TW/\W i n ys σ' H') ?_ m0
      (0,[],[],0,_,H2,I3,T.keep _ _ _ st2 λ b _ o e=>old b o e,λ b V=>(f2 b V).1,.nil,cn _,w0)
    rintro n s4 ⟨i,ys,K,k,σ4,H4,I4,st4,fr4,rv,hz,w4⟩
    have pinD:∀p∈(Yq++[(S.heap.objs.size,({ cls:=.type "list",data:=.seq (K:LV).toArray k }:Obj))]),p.1=S.heap.objs.size\/p∈Yq:=λ p hp=>by
      rcases cy.mp hp with z|z
      . exact .inr z
      . rw[aK.mp z];exact .inl rfl
    have F4:=fpOk (pn:=Yq++[(S.heap.objs.size,{ cls:=.type "list",data:=.seq (K:LV).toArray k })]) fr4 pinD
    rcases turn i n ys σ4 H4 w4 with ⟨stop,qn⟩|⟨go,hlt,N,hN,step⟩
    . have d:=T.done Y A hYw hYK hYcalm i _ s4 σ4 H4 (λ _ _=>False) I4 F4 st4 stop;rw[hYA] at d;refine Yw d λ r s5 U=>?_;obtain⟨hr,I5⟩:=U;subst hr;obtain⟨m,hn,_⟩:=id I5.loc;rw[E] at hn;have hD:=I5.pin (S.heap.objs.size,{ cls:=.type "list",data:=.seq (K:LV).toArray k })<|bO _<|bO _<|aK.mpr rfl;have hDn:H4 S.heap.objs.size=TM:=hD.2.1;have kp:∀b o,b≠R.objs.size->s5.heap.get? b=TJ o->s5.heap.get? b=TJ o:=λ b o _ e=>e;have B:=I5.base;rw[hYH,hYs,hYx,hYf] at B;have s2C:∀b o,S.heap.get? b=TJ o->b≠R.objs.size:=λ b o e=>ltC b<|aF e;have Zz:∀b u,H4 b=TJ u->b≠S.heap.objs.size:=λ b u e z=>by rw[z,hDn] at e;cases e
      have trC:∀b u,H4 b=TJ u->b≠R.objs.size:=λ b u e z=>by
        have:=I5.free;rw[E,<- z,e] at this;cases this
      have hH2:∀b u,H2 b=TJ u->b≠S.heap.objs.size:=λ b u e z=>by rw[z,M _<|ax _] at e;cases e
      have IX:Inv X Yq σ (Yu H4 S.heap.objs.size<|.lst ys) s5:=by
       refine F.call' (ch:=fp) (by show s5.os=S.os;rw[I5.os,hYs]) (λ b o e n V hx=>kp b o (s2C b o e)<|B.keep b o e n V hx,λ b o e n V hx=>?_,λ b o e n hx=>?_,λ b o e hx=>?_,λ b xs e=>?_,λ b o u e=>?_,λ b ps e=>?_) ?_ I5.bare λ b V=>((f2 b V).2.2.2.1,(f2 b V).2.1,(f2 b V).2.2.2.2.1,(f2 b V).2.2.2.2.2)
       . obtain⟨sl,q⟩:=B.slot b o e n V hx;exact(sl,kp b _ (s2C b o e) q)
       . rw[av<|bf<|aF e];exact B.free b o e n hx
       . obtain⟨o',q⟩:=B.there b o e hx;exact(o',kp b o' (s2C b o e) q)
       . rw[av<|hH2 b _ e];exact B.tups b xs e
       . rw[av<|hH2 b _ e];exact B.frzs b o u e
       . obtain⟨more,q⟩:=B.tbls b ps e;exact(more,by rw[av<|hH2 b _ e];exact q)
       . intro b u e;by_cases V:b=S.heap.objs.size
         . subst V;rw[bB] at e;cases e;exact(hz,K,k,rv,kp _ _ hDC hD.1)
         . rw[av V] at e;have okb:=I5.hok b u e;rw[A,hYw] at okb;refine okb.stay (λ c v hc q=>kp c v ?_ q) (λ c q=>by rw[av<|Zz c _ q];exact q) λ c xs q=>by rw[av<|Zz c _ q];exact q
           rcases hc with z|z
           . rw[z];exact trC b u e
           . exact trC c _ z
      have zC:Yu H4 S.heap.objs.size (.lst ys) R.objs.size=TM:=by
        rw[av<|bI hDC];have:=I5.free
        rwa [E] at this
      exact fin S.heap.objs.size R.objs.size s5 _ _ IX zC (bI<|ltC _ F.lt) (by have:=F.sz;lia) (λ x c e=>ltC c<|by obtain⟨v,q⟩:=F.cell x c e;exact q.lt) (λ p hp=>ltC _<|pinL p hp) (m,hn)<|qn _ hDn
    . have d:=T.item Y A hYw hYK hYcalm i _ s4 σ4 H4 (λ _ _=>False) I4 F4 st4 go;rw[hYA] at d;refine Yw d λ r s5 U=>?_;obtain⟨u,hr,h5⟩:=U;subst hr;refine Yw h5 λ _ s6 U=>?_;refine HT λ G t=>?_;obtain⟨x,H6,I6,r6,y6,st6,fr6⟩:=U;refine t ?_;clear t G;have I6':=I6.pinned (fpOk (pn:=Yq++[(S.heap.objs.size,{ cls:=.type "list",data:=.seq (K:LV).toArray k })]) fr6 pinD)<|T.obj _ _ st6;have d7:=hg' _ s6 σ4 H6 x u _ I6' r6<|step x H6 y6;rw[A,hYw,hYA,hYxe,hYenv] at d7;refine Yw d7 λ _ s7 U=>?_;obtain⟨σ7,H7,I7,q7⟩:=U;have dt:=ht' _ s7 σ7 H7 _ I7 q7;rw[A,hYw,hYA,hYenv] at dt;refine lp.2 dt λ bb s7 U=>?_;obtain⟨H7,I7,q7⟩:=U
      cases bb with
      |false=>
        obtain⟨m',hm,w8⟩:=hN _ _ _ q7;have tn8:tn (i+1) s7.heap:=T.keep _ _ _ st6 λ b V o e=>(I7.pin (b,o)<|bO _<|bO _<|kN V e).1
        have fr8:∀b∈fp,H7 b=TM:=λ b V=>by
          obtain⟨o,e,d⟩:=T.obj _ _ st6 b V;exact(I7.pin (b,o)<|bO _<|bO _<|kN V e).2.1
        exact(m',hm,i+1,ys,K,k,σ7,H7,I7.unpinned,tn8,fr8,rv,hz,w8)
      |true=>
        have q7:te σ7 H7 _:=q7;show TU _ _ (eval elt _) _ _ s7;have d8:=he' _ s7 σ7 H7 _ I7 q7;rw[A,hYw,hYA,hYxe,hYenv] at d8;refine Yw d8 λ u8 s8 U=>?_;refine HT λ G t=>?_;obtain⟨v8,H8,I8,r8,n8⟩:=U;obtain⟨m',hm,w8⟩:=hN _ _ _ n8;refine t ?_;clear t G;have pD:=I8.pin (S.heap.objs.size,{ cls:=.type "list",data:=.seq (K:LV).toArray k })<|bO _<|fk _<|bO _<|aK.mpr rfl;have tn8:tn (i+1) s8.heap:=T.keep _ _ _ st6 λ b V o e=>(I8.pin (b,o)<|bO _<|bO _<|kN V e).1
        have fr8:∀b∈fp,H8 b=TM:=λ b V=>by
          obtain⟨o,e,d⟩:=T.obj _ _ st6 b V;exact(I8.pin (b,o)<|bO _<|bO _<|kN V e).2.1
        have J8:Inv Y Yq σ7 H8 s8:=I8.unpinned.unpinned;have eD:s8.heap.get? S.heap.objs.size=TJ { cls:=.type "list",data:=.seq K.toArray k }:=pD.1;refine fZ s1i (_,eD,on) s0t (s0i _ _) (WD _ K.toArray k u8<|by rw[aY,<- rv.length];lia) (eD,?_);have other:∀b o,b≠S.heap.objs.size->s8.heap.get? b=TJ o->(s8.heap.update S.heap.objs.size<|UH λ xs=>xs.push u8).get? b=TJ o:=λ b o nb e=>(dL s8.heap _<|bI nb).trans e
        have J9:=J8.turned (t':=s8.toks) (it:=S.heap.objs.size) (h':=s8.heap.update S.heap.objs.size<|UH λ xs=>xs.push u8) other pD.2.1 (by rw[E];exact hDC) (.inr<|by rw[hYs];exact ax _)
          (λ x c e=>by rw[hYc] at e;exact bf<|cellL x c e) (λ p hp=>by rw[hYp] at hp;exact bf<|pinL p hp)
        have ep:(K.toArray.push u8)=(K++[u8]).toArray:=Cr
        obtain⟨kk,upD⟩:∃kk,(s8.heap.update S.heap.objs.size<|UH λ xs=>xs.push u8).get? S.heap.objs.size=TJ { cls:=.type "list",data:=.seq (K++[u8]).toArray kk }:=by
          have z:=PySem.IsL.update eD λ xs=>xs.push u8;rw[ep] at z;exact(_,z)
        refine(m',hm,i+1,ys++[v8],K++[u8],kk,σ7,H8,J9.pins_of λ p hp=>?_,T.keep _ _ _ tn8 λ b V o e=>other b o (bf<|fpL b V) e,fr8,rv.append<|.cons r8 .nil,?_,w8)
        . rcases cy.mp hp with z|z
          . exact J9.pin p<|bO _ z
          . rw[aK.mp z];exact(upD,pD.2.1,by rw[E];exact hDC,by rw[hYf];exact λ z=>U1 (stkL _ z)<|dU _,λ v z=>by cases z)
        . rw[aQ,hZ];lia
  exact codeAny_compStart_list (loop _ rfl)<|T.self _ 0 _ _ _ (T.keep _ _ _ st2 λ b _ o e=>old b o e)<|loop _ rfl
def xK:iU U k Z g (λ V H K=>K TK H) Y=kW U k Z g Y:=by
 unfold iU kW;simp only[fW]
def pm0:PM X tN λ V H K=>K TK H:=λ _ _ _ H _ I k=>(H,I,k)
set_option tactic.hygienic true in
theorem GI{K:FG}(y:K.In h)(t:h.Ns Ua G)
  (E:W.nsIn K Ua J=TJ (TJ<|.ref Z)) (z:W.excIn K Z Y U=TK):OwnCls J Z Y U G h:=by
 constructor
 .exact s2b y t E
 .unfold W.excIn at z;split at z
  .rename_i k c g m;split at z
   .rename_i Q d r s p e I i N A;simp only[bq,dJ,WB] at z;refine HT λ F S=>?_;obtain⟨⟨⟨⟨⟨D,B⟩,v⟩,b⟩,V⟩,T⟩:=z;refine S ?_;clear S F;subst D B;refine HT λ F S=>?_;obtain⟨c1,c2,c3,c4,n,w,x,a,L,o,l⟩:=c;refine S ?_;clear S F;dsimp only at N v V T;subst N v
    have j:g=#[r,s,p,e,TJ<|.builtin I,i]:=by
     obtain⟨M⟩:=g;simp only at A;rw[A]
    subst j;refine(d,c4,c1,n,c2,w,x,a,L,o,k,r,s,p,e,i,h.nsMap c4,y _ _ m,?_,?_,?_)
    .exact .of_isNs<|W.isNs_of_in y V
    .exact W.nsMap_none_of_in y V T
    .exact W.tail_of_in y b
   .cases z
  .cases z
def l8(P:Uh)(w:Ui):Zq:=λ V H s E e S=>
 ∃(a C:TQ) (W:Value) (T:Hp) (B:Ue),e=.ref a/\S.os=s.os/\UV S.gens/\VX B V a (.ref C) W S.heap /\
  (∀b o,s.heap.get? b=TJ o->H b=TM->b ∉ YF V->B.get? b=TJ o)/\(∀b o,s.heap.get? b=TJ o->b ∉ YF V->∃N,B.get? b=TJ N) /\
  Un (YF V) [] H T s.heap S.heap/\HOk P w T B/\E (.ref C) TM T
section
variable {K:FG}{H:Hp}
def GJ{l:List TQ}(N:HOk P w H h)(T:∀b∈l,H b=TM):HOk P w H<|W.hideAll h l:=λ b u e=>by
 have V:∀c v,H c=TJ v->c ∉ l:=λ c v q z=>by rw[T c z] at q;cases q
 refine(N b u e).stay (λ c v S q=>kJ _ q ?_) (λ _ q=>q) λ _ _ q=>q
 rcases S with z|z
 .rw[z];exact V b u e
 .exact V c _ z
def xL{l:List Env}:∀Z∈l,∀b,Z.frame=TJ b->b∈YF l:=λ Z S b V=>sB.mpr (Z,S,V)
theorem pP{s1:TR}{B x c:Ue}(I:Inv (dw CX P w K mg G N U Y f L A Z s H E) Yq σ D s1)
  (r:∀b o,s1.heap.get? b=TJ o->D b=TM->b ∉ YF (UE U Y s.heap.objs.size f L::Z)->B.get? b=TJ o) (t:∀b o,b<s.heap.objs.size->s1.heap.get? b=TJ o->b ∉ YF (UE U Y s.heap.objs.size f L::Z)->∃J,B.get? b=TJ J)
  (g:Un (YF<|UE U Y s.heap.objs.size f L::Z) [] D H' s1.heap x) (l:∀b o,B.get? b=TJ o->c.get? b=TJ o) (up:x.UpToSlots c) :
  (∀b o,s.heap.get? b=TJ o->H b=TM->b ∉ YF Z->B.get? b=TJ o)/\(∀b o,s.heap.get? b=TJ o->b ∉ YF Z->∃J,B.get? b=TJ J)/\Un (YF Z) [] H H' s.heap c:=by
 have S:Un (YF Z) [] H D s.heap s1.heap:=I.base
 have j:∀b,b ∉ YF Z->b<s.heap.objs.size->b ∉ YF (UE U Y s.heap.objs.size f L::Z):=λ b V m z=>by
  rcases aD.mp (I.stkSub b z) with q|q
  .have q:b=s.heap.objs.size:=q;exact dU _<|q ▸ m
  .exact V q
 have T:∀b o,s.heap.get? b=TJ o->H b=TM->b ∉ YF Z->B.get? b=TJ o:=λ b o e n V=>
  r b o (S.keep b o e n V Cr) (S.free b o e n Cr)<|j b V<|aF e
 have F:∀b o,s.heap.get? b=TJ o->b ∉ YF Z->∃J,B.get? b=TJ J:=λ b o e V=>by
  obtain⟨p,y⟩:=S.there b o e Cr;exact t b p (aF e) y<|j b V<|aF e
 have W:∀b o,s.heap.get? b=TJ o->H b=TM->b∈YF Z->∃a,c.get? b=TJ { o with slots:=a }:=λ b o e n V=>by
  refine HT λ k v=>?_;obtain⟨sl1,y⟩:=S.slot b o e n V Cr;obtain⟨sl2,Q⟩:=g.slot b _ y (S.free b o e n Cr) (bz _ V) Cr;obtain⟨_,h,d,X⟩:=I.ok.funs.mem V;refine v ?_;clear v k;have d:s.heap.get? b=TJ h:=d;rw[e] at d;cases d;obtain⟨i,O⟩:=up b _ Q X;exact(i,O)
 refine(T,F,(λ b o e n V _=>l _ _<|T b o e n V,λ b o e n V _=>W b o e n V,λ b o e n _=>?_,λ b o e _=>?_,
  λ b M e=>g.tups b M<|S.tups b M e,λ b o u e=>g.frzs b o u<|S.frzs b o u e,λ b ps e=>?_))
 .obtain⟨p,y⟩:=S.there b o e Cr;exact g.free b p y (S.free b o e n Cr) Cr
 .by_cases V:b∈YF Z
  .obtain⟨a,q⟩:=W b o e (I.ok.frf b V) V;exact(_,q)
  .obtain⟨J,q⟩:=F b o e V;exact(J,l _ _ q)
 .obtain⟨R,q1⟩:=S.tbls b ps e;obtain⟨C,q2⟩:=g.tbls b _ q1;exact(R++C,by rw[q2,s1c])
def GK:kQ (l8 P w) (dw (l8 P w) P w K D U N J Y f L A Z s H E) E:=by
 intro n G l s1 e x I m;refine HT λ F T=>?_;obtain⟨a,C,g,j,B,rfl,os,S,d,z,v,t,y,k⟩:=m;refine T ?_;clear T F;refine wpAny_leaves_onW I.ok.frames rfl d λ c V W=>?_;obtain⟨r,p,i⟩:=pP I z (λ b o _=>v b o) t V.1 W;exact(a,C,g,j,B,on,os.trans I.os,S,V,r,p,i,y,k)
def tO(X:Cx)(S:Value->Hp->Prop):Prop:=∀(T:LO) (W:St) (H:Hp) (s:TR) (V:Ue) (e C:TQ) (vs:LV),Inv X T W H s->Heap.MadeExcOf s.heap V e (.ref C) vs->S (.ref C) H->X.xe (.ref e) { s with heap:=V }
def GL:tO (dw (l8 P w) P w K D J N U Y f L A Z s H E) λ c F=>E c TM F:=by
 intro m l y s1 r e C vs I T j;have st:s1.heap.FunFrames J<|UE U Y s.heap.objs.size f L::Z:=I.stack;refine wpAny_leaves_madeW (base:=W.hideAll s1.heap<|YF<|UE U Y s.heap.objs.size f L::Z) I.ok.frames rfl (λ b o q=>s1s _ q) (W.funFrames_hide st xL) T λ v t V i p S=>?_;obtain⟨g,d,k⟩:=pP I (λ b o q _ z=>kJ _ q z) (λ b o _ q z=>(o,kJ _ q z)) (.kept λ b o q=>T.keeps b o q) V.1 S;exact(e,C,.ref t,y,_,on,I.os,I.bare,V,g,d,k,GJ I.hok I.stkFree,j)
end
def GM(C:TQ)(V:Value->Hp->Prop)(t:TA):TS:=λ _ T H=>t T H λ vs S=>vs.length<=TW/\V (.ref C) S
theorem GO{X:Cx}{V:Expr}{S:List Expr}
  (j:Vy B Y U L) (G:X.calm=TK) (M:Gl X x) (R:W.nsIn X.K Ua x=TJ (TJ<|.ref C)) (P:W.excIn X.K C L Y=TK) (u:tO X J) (a:PA X (V::S) t)
  (o:autoParam (Ud (V::S) X.env=(TL,eval V X.env)::Ud S X.env) Ty._auto_1) (v:autoParam ((UD Z<|Ud S X.env).any (·.1)=TL) Ty._auto_1) (E:autoParam ((x == ("__debug__" : Str))=TL) Cl._auto_1) :
  PS X (.Raise (TJ<|.Call (.Name x np) (V::S) [] Z) TM pos)<|GM C J t:=by
 intro g s k H D I h;have O:=GI I.ok.mod.kin I.ok.mod.glob R P;refine HT λ F A=>?_;obtain⟨tl,b,n1,q1,b1,p,m1,u1,r,l1,z,j0,j1,j2,j3,j5,mN,l,w,y,T⟩:=O.obj;refine A ?_;clear A F
 refine wpAny_Raise_call_subT (C:=C) (nm:=n1) (q:=q1) (N:=b) (bs:=b1) (bm:=tl) (hdct:=p) (sn:=m1) (sub:=u1) (ab:=r) (col:=l1) (dd:=z) (k0:=j0) (k1:=j1) (k2:=j2) (k3:=j3) (k5:=j5) (mN:=mN)
  j (T.hasType j.hasBase) (I.ok.hd G) (by rw[o];show(TL || (UD Z<|Ud S X.env).any (·.1))=TL;rw[v];rfl) y<|fV I M O.bound (rfl,?_) E
 have d:=a Z g s k H _ I h;rw[o] at d ⊢;refine tF<|Yw d λ c s2 (vs,m,K,r2,f,n)=>(on,?_,K.bk _ _ l,w.keeps K.bk,T.keeps K.bk,λ i e Q=>u g k m s2 i e C c K Q n);show c.length<=TW;rw[<- r2.length];exact f
section
variable {P:Uh}{w:Ui}{K:FG}{Y:SV}{Z:Ue}
end
def HOk.no{a:TQ}(T:HOk P w Z B)(A:B.get? a=TM):Z a=TM:=by
 cases q:Z a with
 |none=>rfl
 |some u=>
  have y:=T a u q
  obtain⟨N,W⟩:∃N,B.get? a=TJ N:=by
   cases u with
   |lst F=>obtain⟨_,_,_,_,e⟩:=y;exact(_,e)
   |tup F=>obtain⟨_,_,_,o,e,_⟩:=y;exact(_,e)
   |dK V|dT V=>obtain⟨_,_,_,_,o,_,_,e,_⟩:=y;exact(_,e)
   |set S n=>obtain⟨o,_,_,_,e,_⟩:=y;exact(_,e)
   |ins C v K=>obtain⟨_,_,_,e,_⟩:=y;exact(_,e)
   |own z=>obtain⟨_,e⟩:=y;exact(_,e)
   |xd K=>obtain⟨_,⟨_,_,_,e,_⟩,_⟩:=y;exact(_,e)
   |rng lo j=>obtain⟨_,_,_,e⟩:=y;exact(_,e)
   |frz g u=>obtain⟨e,_⟩:=y;exact(_,e)
   |tbl d|met f z=>exact(_,(show B.get? a=TJ _ from y))
   |ext c=>obtain⟨_,⟨_,e⟩,_⟩:=y;exact(_,e)
  rw[A] at W;cases W
theorem Inv.gone{i:Nat}{v:Option Value}{F:Ue}{P:Nat}(I:Inv X J Z H s)(B:X.N.Nodup)(a:X.N[i]?=TJ x)(f:X.env.scope.names.lookup x=TJ .local)(h:s.heap.Ns X.env.locals m)
  (G:∀(j:Nat) (y:Str) (z:V),X.N[j]?=TJ y->Z[j]?=TJ (TJ z)->l5 X.env.scope y->∃u,RelV z u/\wp X.env s.heap m y u) (l:F.Ns X.env.locals λ y=>if y=x then v else m y) (S:Vj X.env.locals s.heap F) :
  Inv X J (Z.set i TM) H { s with heap:=F,toks:=P }:=by
 have W:i<Z.length:=by rw[I.len];exact(aP.mp a).1
 have cne:=I.cne;have T:∀b o,X.s₀.heap.get? b=TJ o->b≠X.env.locals:=λ b o e=>bf<|bH (aF e) I.ok.above
 refine(I.ok,I.os,I.bare,(λ b o e n g N=>(S.2 b<|T b o e).trans<|I.base.keep b o e n g N,λ b o e n g N=>?_,I.base.free,λ b o e N=>?_,I.base.tups,I.base.frzs,I.base.tbls),(_,l,λ j y z w A D=>?_),
  λ y c e=>?_,I.free,I.freeC,λ p E=>?_,λ b R e=>?_,by simpa using I.len)
 .obtain⟨C,q⟩:=I.base.slot b o e n g N;exact(C,(S.2 b<|T b o e).trans q)
 .obtain⟨O,q⟩:=I.base.there b o e N;exact(O,(S.2 b<|T b o e).trans q)
 .by_cases t:j=i
  .subst t;rw[fD W] at A;cases A
  .rw[du<|bI t] at A;obtain⟨u,r,q⟩:=G j y z w A D;refine(u,r,?_)
   rcases q with ⟨k,e⟩|⟨k,c,e,L⟩
   .refine .inl (k,?_);have Q:y≠x:=λ e=>t<|rZ B w<|e ▸ a;simp[Q,e]
   .exact .inr (k,c,e,L.sameBut S<|cne y c e)
 .obtain⟨U,z⟩:=I.cell y c e;exact(U,z.sameBut S<|cne y c e)
 .obtain⟨e,n,Y,M,d⟩:=I.pin p E;exact((S.2 p.1 Y).trans e,n,Y,M,d)
 .refine(I.hok b R e).stay (λ c U K q=>(S.2 c ?_).trans q) (λ _ q=>q) λ _ _ q=>q;rintro rfl
  rcases K with rfl|K
  .rw[I.free] at e;cases e
  .rw[I.free] at K;cases K
theorem Inv.track(I:Inv X Z Y H s)(m:H a=TM)(N:ObjOk X.prog X.w (Yu H a o) s.heap a o)(y:a≠X.env.locals)(j:∀x c,X.env.cells.lookup x=TJ c->c≠a)(g:∀p∈X.pn++Z,p.1≠a)
  (k:X.s₀.heap.get? a=TM):Inv X Z Y (Yu H a o) s:=by
 have V:∀b u,H b=TJ u->b≠a:=λ b u e z=>by rw[z,m] at e;cases e
 have i:∀b u,X.s₀.heap.get? b=TJ u->b≠a:=λ b u e z=>by rw[z,k] at e;cases e
 refine(I.ok,I.os,I.bare,(I.base.keep,I.base.slot,λ b u e n r=>?_,I.base.there,λ b F e=>?_,λ b u v e=>?_,λ b l e=>?_),I.loc,I.cell,?_,λ x c e=>?_,λ p K=>?_,λ b u e=>?_,I.len)
 .rw[av<|i b u e];exact I.base.free b u e n r
 .have q:=I.base.tups b F e;rw[av<|V b _ q];exact q
 .have q:=I.base.frzs b u v e;rw[av<|V b _ q];exact q
 .obtain⟨T,q⟩:=I.base.tbls b l e;exact(T,by rw[av<|V b _ q];exact q)
 .rw[av<|bI y];exact I.free
 .rw[av<|j x c e];exact I.freeC x c e
 .refine HT λ W S=>?_;obtain⟨e,n,V,t,d⟩:=I.pin p K;refine S ?_;clear S W;exact(e,by rw[av<|g p K];exact n,V,t,d)
 .by_cases A:b=a
  .subst A;rw[bB] at e;cases e;exact N
  .rw[av A] at e;exact(I.hok b u e).stay (λ c v _ q=>q) (λ c q=>by rw[av<|V c _ q];exact q) λ c F q=>by rw[av<|V c _ q];exact q
noncomputable abbrev Cx.more(X:Cx)(xe:VS)(pn:LO):Cx:={ X with xe:=xe,pn:=pn }
noncomputable abbrev Cx.suite(X:Cx)(a:TQ)(pn:LO):Cx:={ X with A:=X.A.mark (TJ<|.ref a),calm:=TL,xe:=λ _ _=>False,pn:=pn }
def Cx.Ok.more{X:Cx}(V:X.Ok)(xe:VS)(pn:LO):(X.more xe pn).Ok :=
 (V.mod,V.kind,V.glob,V.blt,V.above,V.inj,V.has,V.cab,V.hd,V.frames,V.stk,V.exf,V.bs,V.bsz,V.noex,V.exfs,V.funs,V.frf)
def Cx.Ok.suite{X:Cx}(V:X.Ok)(a:TQ)(pn:LO):(X.suite a pn).Ok :=
 (V.mod,V.kind,V.glob,V.blt,V.above,V.inj,V.has,V.cab,λ z=>U1 z (by show ¬(TL=TK);decide),V.frames,V.stk,V.exf,V.bs,V.bsz,V.noex,V.exfs,V.funs,V.frf)
def kX(S:Zq)(X:Cx)(E:XK)(W:St):Prop:=∀(T:LO) (H:Hp) (s:TR) (e:Value) (V:TR),Inv X T W H s->S X.stack H s E e V->X.xe e V
variable {X:Cx}
section
variable {J:Sp}{Z:List V}{U:St->XK}{e:Expr}{Y:List Expr}{t:TA}
def xM(J:Sp)(Z:List V)(U:St->XK)(t:TA):TE:=λ S H Q=>t S H λ vs T=>J (vs++Z) T Q<|U S
theorem GP(F:FnOk X.prog X.w X.K X.mg X.base G k f E B J)(l:Room k X.A)(c:Gl X x)(i:X.mg x=TJ (.ref f))(m:W.keepIn X.K (.ref f)=TK)(g:Binds X.K E B D)(d:Vals Z D)(n:∀V,kX G X (U V) V)
  (j:PA X (e::Y) t) (N:autoParam ((x == ("__debug__" : Str))=TL) Cl._auto_1) (o:autoParam (Ud (e::Y) X.env=(TL,eval e X.env)::Ud Y X.env) Ty._auto_1) (A:autoParam ((UD L<|Ud Y X.env).any (·.1)=TL) Ty._auto_1) :
  PE X (.Call (.Name x p) (e::Y) [] L)<|xM J Z U t:=by
 intro y s V H Q I h;refine iP<|fV I c i ?_ N;refine pA (h₀:=X.base) I.ok.mod.kin m (Yw (j L y s V H _ I h) λ T s1 (vs,z,S,r,q)=>(S.kIn,?_)) o A;have r2:Vals (vs++Z)<|T++D:=r.append d;have b:(T++D).length=B.length:=by rw[<- r2.length];exact F.len _ _ _ _ q
 refine gZ<|jI (F.run X.A X.stack s1 z (T,[]) (T++D) (vs++Z) Q (U V) l S.env0 (g s1 T S.kIn b) r2 q) λ r w K=>?_
 cases r with
 |error e=>exact n V y z s1 e w S K
 |ok v=>
  cases v with
  |ret u=>exact S.after K
  |next|brk|cont=>exact Uw K
end
noncomputable def GQ(D:Ze)(i:Nat):Ze:={ nx:=λ V H=>D.nx (V.set i TM) H,rt:=D.rt,bk:=λ V H=>D.bk (V.set i TM) H,ct:=λ V H=>D.ct (V.set i TM) H }
def Inv.toMore(J:Inv X Z Y H s):Inv (X.more E<|X.pn++Z) [] Y H s:=(J.ok.more _ _,J.os,J.bare,J.base,J.loc,J.cell,J.free,J.freeC,λ p V=>J.pin p (by simpa using V),J.hok,J.len)
def Inv.toSuite(J:Inv X Z Y H s):Inv (X.suite a<|X.pn++Z) [] Y H s:=(J.ok.suite _ _,J.os,J.bare,J.base,J.loc,J.cell,J.free,J.freeC,λ p V=>J.pin p (by simpa using V),J.hok,J.len)
def Inv.ofMore(I:Inv X Y B H s)(J:Inv (X.more E<|X.pn++Y) D Z U L):Inv X Y Z U L:=(I.ok,J.os,J.bare,J.base,J.loc,J.cell,J.free,J.freeC,λ p V=>J.pin p<|fk _ V,J.hok,J.len)
def Inv.ofSuite(I:Inv X Y D H s)(J:Inv (X.suite a<|X.pn++Y) [] Z U L):Inv X Y Z U L:=(I.ok,J.os,J.bare,J.base,J.loc,J.cell,J.free,J.freeC,λ p V=>J.pin p<|fk _ V,J.hok,J.len)
def Inv.flown{s T:TR}{B N:Ue}(J:Inv X U L H s)(os:T.os=s.os)(bare:UV T.gens)(y:∀b o,s.heap.get? b=TJ o->H b=TM->b ∉ YF X.stack->B.get? b=TJ o)(g:∀b o,s.heap.get? b=TJ o->b ∉ YF X.stack->∃Z,B.get? b=TJ Z)(un:Un (YF X.stack) [] H Y s.heap T.heap)(v:HOk X.prog X.w Y B)(K:∀b o,B.get? b=TJ o->N.get? b=TJ o)(t:T.heap.UpToSlots N)(k:Nat):Inv X U L Y { T with heap:=N,toks:=k }:=by
 have S:∀b o,s.heap.get? b=TJ o->H b=TM->b∈YF X.stack->∃c,N.get? b=TJ { o with slots:=c }:=λ b o e A V=>by
  refine HT λ F W=>?_;obtain⟨i,m⟩:=un.slot b o e A V Cr;obtain⟨_,l,d,p⟩:=J.stack.mem V;refine W ?_;clear W F;rw[e] at d;cases d;obtain⟨j,r⟩:=t b _ m p;exact(j,r)
 refine J.call' (s':={ T with heap:=N,toks:=k }) (ch:=[]) os (λ b o e A V _=>K _ _<|y b o e A V,λ b o e A V _=>S b o e A V,un.free,λ b o e _=>?_,un.tups,un.frzs,un.tbls) (v.kept K) bare (λ b z=>nomatch z);by_cases V:b∈YF X.stack
 .obtain⟨c,q⟩:=S b o e (J.stkFree b V) V;exact(_,q)
 .obtain⟨Z,q⟩:=g b o e V;exact(Z,K _ _ q)
structure Callee (P:Uh)(w:Ui)(K:FG)(mg:SV)(base:Ue)(CX:Zq)(k:Nat)(x:Str)(ps:List Str)(sp:Sp):Prop where
 has:∃(f:TQ) (fd:Uu),FnOk P w K mg base CX k f fd ps sp/\mg x=TJ (.ref f)/\W.keepIn K (.ref f)=TK/\Binds K fd ps []
theorem Callee.mk'{K:FG}{V:SV}{st:Uc}(F:Fun K x J st f Y)(m:V x=TJ (.ref f))(b:Binds K Y U [])
  (S:FnOk P w K V Z L k f Y U D):Callee P w K V Z L k x U D:=⟨(f,Y,S,m,F.kp,b)⟩
def Callee.mono{K:FG}{j k:Nat}(c:Callee P w K U Z Y j x J L)(h:j<=k):Callee P w K U Z Y k x J L :=
 let ⟨f,V,T,m,S,b⟩:=c.has;⟨(f,V,T.mono h,m,S,b)⟩
section
variable {e:Expr}{Z:List Expr}
theorem nC(c:Callee X.prog X.w X.K X.mg X.base Y k x J U)(A:Room k X.A)(N:Gl X x)(K:kQ Y X E)(T:PA X (e::Z) t)(V:autoParam ((x == ("__debug__" : Str))=TL) Cl._auto_1)
  (W:autoParam (Ud (e::Z) X.env=(TL,eval e X.env)::Ud Z X.env) Ty._auto_1) (S:autoParam ((UD pos<|Ud Z X.env).any (·.1)=TL) Ty._auto_1):PE X (.Call (.Name x p) (e::Z) [] pos)<|xa U [] E t:=by
 obtain⟨f,y,z,m,F,b⟩:=c.has;exact FL z A N m F b .nil K T V W S
theorem GR{T:St->XK}(c:Callee X.prog X.w X.K X.mg X.base U k x L J)(F:Room k X.A)(K:Gl X x)(z:∀W,kX U X (T W) W)(N:PA X (e::Z) t)(V:autoParam ((x == ("__debug__" : Str))=TL) Cl._auto_1)
  (A:autoParam (Ud (e::Z) X.env=(TL,eval e X.env)::Ud Z X.env) Ty._auto_1) (S:autoParam ((UD Y<|Ud Z X.env).any (·.1)=TL) Ty._auto_1):PE X (.Call (.Name x p) (e::Z) [] Y)<|xM J [] T t:=by
 obtain⟨f,j,v,m,y,b⟩:=c.has;exact GP v F K m y b .nil z N V A S
end
def GS(i j:Int):Prop:=j≠0/\-18446744073709551616<j/\j<18446744073709551616
def GU{y:Int}(V:-18446744073709551616<y)(S:y<18446744073709551616):y.natAbs.log2<9000:=by
 by_cases z:y.natAbs=0
 .rw[z];decide
 .exact bH ((Nat.log2_lt z).mpr<|show y.natAbs<2 ^ 64 by lia) Cl
def GV:YL X (UA .FloorDiv)<|rI GS λ i j=>.int<|i.fdiv j:=u4 λ _ _ _ _ _ _ _ V q=>floordiv_int V.1 q<|.inl<|xN<|GU V.2.1 V.2.2
section
variable {K:FG}
end
noncomputable def tP(t n:String):Bool:=t == n || (t == "bool" && n == "int")
def GW{K:FG}(e:(if (Uq t == Uq n)=TK then TJ TK else if W.kitMeta n=TK then (fastBuiltinMro t).map (·.contains<|.type n) else TM)=TJ b):W.kitOne K (.type t) (.type n)=TJ b:=by
 unfold W.kitOne;split at e
 .rename_i h;rw[U0 h];exact e
 .rename_i h;rw[T9 h];exact e
def small{n:Nat}(h:n<=1000):n<=TW:=fj<|aN h
end _L
namespace _L
open PySem PySem.Spec PyProof.Rows PySem.W PySem.Calls
structure Zw (K:FG)(C:TQ):Prop where
 cls:(clsIn K C).isSome=TK
 ga:findIn K (.ref C) "__getattribute__"=TJ (TJ<|.builtin "BaseException.__getattribute__")
 gt:findIn K (.ref C) "__getattr__"=TJ TM
 cl:findIn K (.ref C) "__class__"=TJ (TJ<|.builtin "object.__class__")
 mo:mroIn K C (.type "object")=TJ TK
 mb:mroIn K C (.type "BaseException")=TJ TK
section
variable {K:FG}{g:Array VD}{d:XU}{t:Nat}{os:OsState}{a:TQ}
theorem GX{R:Wa->TR->Prop}(X:K.In h)(k:Zw K C)(N:h.get? a=TJ Y)(W:Y.cls=.ref C)(z:R (.ok<|.ret<|.ref C) (h,g,d,t,os)) :
  UM (TX Z w) A (.call (.builtin "getset_descriptor.__get__") ([.builtin "object.__class__",.ref a,.ref C],[])) R (h,g,d,t,os):=by
 have S:Looks (TX Z w) h (VC<|.ref a)<|.ref C:=W ▸ (Looks.ld N).andThen .now;have T:=looks_mroIn (M:=TX Z w) X k.mo;have V:((h,g,d,t,os):TR).TypeIs (.builtin "object.__class__") "getset_descriptor" := tQ
 have _L:Looks (TX Z w) h (isSubtype (.ref C)<|.type<|".".intercalate ("object.__class__".cutAt '.').dropLast) TK:=by
  rw[show(".".intercalate ("object.__class__".cutAt '.').dropLast)="object" by decide +kernel];exact T
 refine nE F.slot_gs_get.plain F.entry_gs_get<|F.slot_gs_get.check _ _ _ _ _ _ _ _ V (F.args_gs_get _ _ _) ?_
 repeat (any_goals (first|assumption|with_reducible refine S.at ?_|with_reducible refine _L.at ?_|wp_step))
 refine(tR _ (by decide +kernel),kY F.entry_object_class ?_)
 repeat (any_goals (first|assumption|with_reducible refine S.at ?_|wp_step))
theorem GY{z:Tok}{Q:Fin->TR->Prop}(X:K.In h)(k:Zw K C)(S:h.get? a=TJ Y)(V:Y.cls=.ref C)(o:Q (.done<|.ret<|.ref C) (h,g,d,t,os)) :
  TU (TX Z w) A (Builtin.«object.__getattribute__» ([.ref a,.str "__class__" z],[])) Q E (h,g,d,t,os):=by
 have T:Looks (TX Z w) h (VC<|.ref a)<|.ref C:=V ▸ (Looks.ld S).andThen .now;have W:=looks_findIn (M:=TX Z w) X k.cl;have N:((h,g,d,t,os):TR).TypeIs (.builtin "object.__class__") "getset_descriptor" := tQ;have y:=tQ;have v:=F.slot_gs_get.lookup;have j:=F.slot_gs_set.lookup
 repeat (any_goals (first|assumption|with_reducible refine T.at ?_|with_reducible refine W.at ?_|wp_step))
 refine GX X k S V ?_
 repeat (any_goals (first|assumption|wp_step))
theorem GZ{V:Value}{Q:Unit->TR->Prop}(X:K.In h)(k:Zw K C)(v:h.get? a=TJ Z)(y:Z.cls=.ref C)(o:Q () (h,g,d,t,os)) :
  TU M A (Wc "BaseException.__getattribute__" ([.ref a,V],[])) Q E (h,g,d,t,os):=by
 have N:builtinKind "BaseException.__getattribute__"=TJ .slot:=by decide +kernel
 have z:splitId "BaseException.__getattribute__"=TJ ("BaseException","__getattribute__"):=by decide +kernel
 have j:=F.args_bexc_ga (.ref a) V;have S:Looks M h (VC<|.ref a)<|.ref C:=y ▸ (Looks.ld v).andThen .now;have T:=looks_mroIn (M:=M) X k.mb;have W:Looks M h (isInstance (.ref a)<|.type "BaseException") TK:=S.andThen T;simp only[Wc,N,z];refine ae<|W.at ?_
 repeat (first|assumption|wp_step)
theorem Hb{Q:Option Value->TR->Prop}{s:TR}(X:K.In s.heap)(k:Zw K C)(W:s.heap.get? a=TJ Y)(T:Y.cls=.ref C)(j:Q (TJ<|.ref C) { s with toks:=s.toks+1 }) :
  TU (TX Z w) A (getAttr? (.ref a) "__class__") Q E s:=by
 refine HT λ S V=>?_;obtain⟨h,g,d,t,os⟩:=s;refine V ?_;clear V S;have N:Looks (TX Z w) h (VC<|.ref a)<|.ref C:=T ▸ (Looks.ld W).andThen .now;have z:=looks_findIn (M:=TX Z w) X k.ga;have _L:=looks_findIn (M:=TX Z w) X k.gt;have y:=F.excAttr_ValueError.ga.bind<|.ref a;unfold getAttr? getAttrBy? getAttrBy;refine ae<|wpAny_mkText<|ae<|jL<|dH<|ae<|N.at<|ae<|z.at ?_;dsimp only
 have v:¬(Ww (Ug C)&&UJ "BaseException.__getattribute__" == UJ "object.__getattribute__")=TK:=by
  show ¬((TK&&(UJ "BaseException.__getattribute__" == UJ "object.__getattribute__"))=TK);decide +kernel
 rw[T9 v];unfold getAttrByItsOwn hookBefore;refine ae ?_;rw[U0<|show Ww (Ug C)=TK from rfl];refine _L.at<|ae<|jL<|dH ?_;unfold WO;rw[T9<|by decide +kernel];unfold Xp;refine ae<|fG y ?_;refine gZ<|nE F.excAttr_ValueError.ga.plain F.entry_bexc_ga<|GZ X k W T<|GY X k W T ?_
 repeat (any_goals (first|assumption|wp_step))
end
set_option tactic.hygienic true in
theorem xO{K:FG}(k:Zw K C):KitX K (.ref a) (.ref C) (λ h=>∃o vs,h.get? a=TJ o/\o.cls=.ref C/\o.data=.fields vs) where
 ty:=λ M h _ (o,_,T,W,_)=>W ▸ (Looks.ld T).andThen .now
 it:=λ M h X _=>by
  obtain⟨A,V⟩:=iQ.mp k.cls;unfold clsIn at V;split at V
  .rename_i j g z3 d S;intro c b m s y q;unfold isType loadHead;exact ae<|s0p (y _ _<|X _ _ S)<|aq q
  .cases V
 ne:=λ h v r F n p X N=>by
  obtain⟨A,V⟩:=iQ.mp k.cls;refine pQ.mpr λ q=>?_;have e:C=v:=Value.ref.inj<|dJ.mp q;subst e;unfold clsIn at V;split at V
  .rename_i j g z3 d S;have z:=(X _ _ S).symm.trans N;cases z
  .cases V
 ca:=λ X (o,_,T,W,_) q=>Hb X k T W q
def Hc(S:Gl X x)(T:W.nsIn X.K Ua x=TJ (TJ<|.ref C))(V:autoParam ((x == ("__debug__" : Str))=TL) Cl._auto_1):PE X (.Name x Z)<|tC<|.ref C:=by
 intro N s A H Q I h;exact fV I S (s2b I.ok.mod.kin I.ok.mod.glob T) (.ref C,H,I,on,h) V
noncomputable def ij(t:TQ)(i:Int):Obj:={ cls:=.type "reversed",data:=.fields #[.ref t,Ur i] }
def IsRv(h:Ue)(a t:TQ)(i:Int):Prop:=∃o,h.get? a=TJ o/\o.cls=.type "reversed" /\ o.data=.fields #[.ref t,Ur i]
def IsRv.typeIs{s:TR}(x:IsRv s.heap a t i):s.TypeIs (.ref a) "reversed" := let ⟨o,S,V,_⟩:=x;(o,S,V)
def He:UU (.type "tuple") "__reversed__"=Uo TM:=by rw[fH,fJ];kernel_rfl
def xP:UU (.type "tuple") "__getitem__"=Uo (TJ<|.builtin "tuple.__getitem__"):=by rw[fH,fJ];kernel_rfl
def Hf:isSubtype (.type "tuple") (.type "dict")=Uo TL:=by rw[jM];kernel_rfl
def Hg:Slot "reversed" "__init__" "object.__init__" :=
 .of (owner := "object") (n := "__init__") (by rw[fH,fJ];kernel_rfl) (by decide +kernel) (by decide +kernel) (by decide +kernel) (.inl<|by decide +kernel) (by rw[jM];kernel_rfl)
def rv_next:Slot "reversed" "__next__" "reversed.__next__" :=
 .of (owner := "reversed") (n := "__next__") (by rw[fH,fJ];kernel_rfl) (by decide +kernel) (by decide +kernel) (by decide +kernel) (.inl<|by decide +kernel) (by rw[jM];kernel_rfl)
def xQ:Slot "reversed" "__iter__" "reversed.__iter__" :=
 .of (owner := "reversed") (n := "__iter__") (by rw[fH,fJ];kernel_rfl) (by decide +kernel) (by decide +kernel) (by decide +kernel) (.inl<|by decide +kernel) (by rw[jM];kernel_rfl)
def xS:Yg table "reversed.__next__"=TJ Builtin.«reversed.__next__»:=WP (by kernel_rfl)
def Hh:Yg table "reversed.__iter__"=TJ Builtin.«dict_keyiterator.__iter__» :=
 entryFor_alias (id' := "dict_keyiterator.__iter__") (by kernel_rfl) (by first|rfl|decide +kernel) (by decide +kernel) (by kernel_rfl)
def xT(a:Value):Wb "reversed.__next__" ([a],[]):=by unfold Wb;kernel_rfl
def Hi(a:Value):Wb "reversed.__iter__" ([a],[]):=by unfold Wb;kernel_rfl
def Hj:TypeCalled "reversed" "reversed.__new__" "object.__init__" :=
 (by decide +kernel,PySem.F.create_reversed,(_,_,PySem.F.mro_reversed),PySem.F.made_reversed,PySem.F.plain_reversed_new,PySem.F.sub_reversed_self,Hg)
theorem Hk(t:TQ)(V:Array Value)(K:(V.size:Int)<2 ^ 63):WW (Builtin.«reversed.__new__» ([.type "reversed",.ref t],[]))
  (λ _ R s=>VI s.heap t V/\∀F,R (.ok<|.ret<|.ref s.heap.objs.size) { s with heap:=s.heap.push (ij t<|(V.size:Int)-1),toks:=F }) :=
 .of_wp λ N w A R s h=>by
  obtain⟨W,h⟩:=h;have S:s.TypeIs (.ref t) "tuple" := W.typeIs;unfold Builtin.«reversed.__new__»;refine ae<|fG (PySem.newClass_reversed _) ?_;try dsimp only
  refine ae<|fG (a:=()) (by first|rfl|kernel_rfl) ?_;refine ae<|fG (a:=()) (by first|rfl|kernel_rfl) ?_;try dsimp only
  refine ae<|iV S He ?_;try dsimp only
  refine ae ?_
  k_delta "hasItemSlot"
  refine ae<|pR (T := "tuple") (b:=TL) S Hf ?_;rw[T9 dz];refine ae<|iV S xP ?_;dsimp only;rw[U0<|by decide +kernel];refine aq ?_;rw[T9 Cl];refine ae<|s1y W K ?_;refine ae<|fG (a:=TJ (V.size:Int)) rfl ?_;dsimp only;refine ae ?_;unfold Xl;refine dA<|aq (_,on,h _)
section
variable {A:Uk}{s:TR}
theorem xU{Q:VS}(T:VI s.heap t Z)(W:(Z.size:Int)<2 ^ 63)
  (h:∀S,Q (.ref s.heap.objs.size) { s with heap:=s.heap.push (ij t<|(Z.size:Int)-1),toks:=S }):TU (TX Y w) A (call (.type "reversed") [.ref t]) Q E s :=
 callType_new Hj Cl (PySem.F.typeCall_reversed_1 _) (PySem.F.newCall_reversed_1 _) (λ V=>tS V _) PySem.F.entry_reversed_new (Hk t Z W)
  (T,λ S=>((_,bJ _ rfl,rfl),h S))
theorem xV{i:Nat}{Q:Option Value->TR->Prop}(V:IsRv s.heap Y t (i:Int))(N:VI s.heap t Z)(K:Z[i]?=TJ x)(d:(Z.size:Int)<2 ^ 63)
  (F:∀W v,IsRv W Y t ((i:Int)-1)->Vj Y s.heap W->Q (TJ x) { s with heap:=W,toks:=v }):TU (TX U w) A (UY<|.ref Y) Q E s:=by
 obtain⟨o,T,y,S⟩:=id V;have z:s.TypeIs (.ref t) "tuple" := N.typeIs;have g:i<Z.size:=(nG.mp K).1;unfold UY;refine ae<|jL<|kR (name:=Uf "__next__") V.typeIs rv_next<|gC rv_next V.typeIs xS ?_<|xT _;unfold Builtin.«reversed.__next__»;refine ae<|fG (a:=(Ug Y,[])) rfl ?_;try dsimp only
 refine ae<|cV T S (x:=.ref t) rfl ?_;refine ae<|cV T S (x:=Ur (i:Int)) rfl ?_;show TU _ _ (if (i:Int)<0 then _ else _) _ _ s;rw[T9 BT];refine ae<|iV z xP ?_;rw[T9 Cl];refine ae<|wpAny_mkInt ?_;refine ae<|jL<|XN (k:=(i:Int)) (j:=i) N BT BT (by simp[Wh];lia) K ?_;dsimp only;refine ae<|cV T S (x:=Ur (i:Int)) rfl ?_;show TU _ _ (setField (.ref Y) 1 (Ur<|(i:Int)-1) >>= _) _ _ _;refine ae<|iW T S Cr ?_;refine aq (x,on,aq<|F _ _ ?_<|tT ..);exact(_,fY _ T<|nH<|im S _,(tU ..).trans y,by rw[im S];simp)
def xW{Q:Option Value->TR->Prop}(y:A.handled=TM)(V:IsRv s.heap Z t<|-1)(z:∀F v,Ym Z s.heap F->Q TM { s with heap:=F,toks:=v }):TU (TX Y w) A (UY<|.ref Z) Q E s:=by
 obtain⟨o,N,g,W⟩:=id V;unfold UY;refine ae<|jL<|kR (name:=Uf "__next__") V.typeIs rv_next<|gC rv_next V.typeIs xS ?_<|xT _;unfold Builtin.«reversed.__next__»;refine ae<|fG (a:=(Ug Z,[])) rfl ?_;try dsimp only
 refine ae<|cV N W (x:=.ref t) rfl ?_;refine ae<|cV N W (x:=Ur<|-1) rfl ?_;show TU _ _ (if (-1:Int)<0 then _ else _) _ _ s;rw[U0 Cl];refine ae<|s0e ?_;refine ae ?_
 k_delta "reversedEnd"
 refine ae<|iW N W Cr ?_;refine iW (fY _ N<|nH<|im W _) (im W _) Cr ?_;refine ae ?_
 have S:∀b u,b≠Z->s.heap.get? b=TJ u->((s.heap.update Z<|UG λ x=>x.setIfInBounds 1<|Ur<|-1).update Z<|UG λ x=>x.setIfInBounds 0 Us).get? b=TJ u:=λ b u K e=>by
  rw[dL _ _<|bI K,dL _ _<|bI K];exact e
 generalize ((s.heap.update Z<|UG λ x=>x.setIfInBounds 1<|Ur<|-1).update Z<|UG λ x=>x.setIfInBounds 0 Us)=j at *;show TU _ _ (Yi (.type "StopIteration") [] >>= _) _ _ _;refine ae ?_;simp only[Yi,Yj];refine ae (dA ?_<|by size_fits);refine ae (m:=VH _ _)<|fG (a:=Us) (by first|rfl|(simp only[VH];rfl)) ?_;refine dA ?_ (by size_fits);simp only[raiseNew];refine ae<|XR ?_;rw[show A.in1.handled=TM from y];refine ae<|aq<|wpAny_throw ?_;refine ae<|pR (T := "StopIteration") (b:=TK) (_,bJ _ rfl,on) isSubtype_stop ?_;exact aq<|z _ _ λ b u K e=>aJ _<|aJ _<|S b u K e
def tV{Q:VS}(V:IsRv s.heap Z t i)(h:Q (.ref Z) s):TU (TX Y w) A (Wx<|.ref Z) Q E s:=by
 refine wpAny_pyIter_slot V.typeIs xQ<|gC xQ V.typeIs Hh ?_<|Hi _;show TU _ _ (ret<|.ref Z) _ _ s;exact aq (_,on,"reversed",_,V.typeIs,rv_next.lookup,h)
end
noncomputable def pS(K:FG)(a:TQ)(n:Nat):It:=(λ i H=>∃V,SqT K H a V/\V.length=n/\i<n,λ i H x S=>S=H/\∀V,SqT K H a V->V[n-1-i]?=TJ x,λ i H=>∃V,SqT K H a V/\V.length=n/\i=n)
def pU:(TW:Int)<2 ^ 63:=by rw[iO];decide
def Hl{K:FG}(a W:TQ)(n:Nat):Turn P w K O (pS K a n) [W] W (λ i h=>IsRv h W a<|(n:Int)-1-(i:Int)) :=
 .one (n := "reversed") (by rintro _ _ ⟨o,e,c,d⟩;exact (o,_,e,c,d)) (by rintro _ _ _ ⟨o,e,r⟩ k;exact (o,k o e,r)) (λ _ _ _ _ _ st h=>tV st h) (λ X i g s B H E Q z y I st (F,T,l,t) f=>by
  subst z;obtain⟨U,j,p,M⟩:=I.tuple T;have v:F[n-1-i]?=TJ (F[n-1-i]' BT):=aZ BT;obtain⟨u,Z,J⟩:=j.get v;have G:=j.length;have D:=pU;rw[show(n:Int)-1-(i:Int)=((n-1-i:Nat):Int) by lia] at st
  exact xV st p (x:=u) (by simpa using Z) (by simp;lia) λ V A N L=>f u _ V A (λ b o S e=>(L.2 b S).trans e) (by rwa [show((n-1-i:Nat):Int)-1=(n:Int)-1-((i+1:Nat):Int) by lia] at N) J (on,λ R Y=>by rw[I.tuple_inj Y T];exact v)) λ X i g s B H E Q z y I st (F,T,l,t) f=>by
  rw[show(n:Int)-1-(i:Int)=-1 by lia] at st;exact xW y st λ V A m=>f V A λ b o S e=>m b o S e
def Hn(K:FG)(T:TE):TI:=λ W H R=>T W H λ x V=>∃a S,x=.ref a/\SqT K V a S/\R (pS K a S.length) V
theorem Ho{p W:Pos}(k:Gl X "reversed")(m:X.mg "reversed"=TM)(c:PE X e Z)(F:autoParam (Ud [e] X.env=[(TL,eval e X.env)]) Ty._auto_1) :
  PI X J (.Call (.Name "reversed" p) [e] [] W)<|Hn X.K Z:=by
 intro K s v H R I h;have g:=(bK c (pa_nil (X:=X)) F) W K s v H (λ vs T=>match vs with|[x]=>∃a S,x=.ref a/\SqT X.K T a S/\R (pS X.K a S.length) T|_=>False) I h;refine Wo<|eQ I k m s1k<|gX (Yw g λ L s1 A=>?_) F rfl;obtain⟨vs,T,N,t,i⟩:=A
 match vs,i with
 |[x],(a,S,e,r,q)=>
  subst e;obtain⟨u,rfl,l⟩:=cM t;cases (show u=Ug a from l);obtain⟨V,n,p,U⟩:=N.tuple r;have Y:=n.length;have w:=pU;refine xU p (by simp;omega) λ y=>?_;have j:Inv X K v T { s1 with heap:=s1.heap.push (ij a<|(V.toArray.size:Int)-1),toks:=y }:=N.kept (t':=y) λ b o e=>aJ _ e
  have z:IsRv (s1.heap.push<|ij a<|(V.toArray.size:Int)-1) s1.heap.objs.size a<|(S.length:Int)-1-((0:Nat):Int):=by
   refine(_,bJ _ rfl,on,?_);show Data.fields #[.ref a,Ur<|(V.toArray.size:Int)-1]=_;have e:((V.toArray.size:Nat):Int)-1=(S.length:Int)-1-((0:Nat):Int):=by simp;omega
   rw[e]
  refine tV z (s1.heap.objs.size,[s1.heap.objs.size],_,_,T,on,j,Hl a _ S.length,z,λ b d=>?_,q);have e:b=s1.heap.objs.size:=by simpa using d
  subst e;exact N.fpOk (ax _)<|N.hok.fresh<|ax _
def Hq:UU (.type "list_reverseiterator") "__len__"=Uo TM:=by rw[fH,fJ];kernel_rfl
def Hr:UU (.type "list_reverseiterator") "__length_hint__"=Uo (TJ<|.builtin "list_reverseiterator.__length_hint__"):=by rw[fH,fJ];kernel_rfl
section
variable {B:Uk}{Z:TR}{U:List TQ}{V:Array VD->Array VD->Prop}{m:Nat}{Y:Nat->Value->Prop}{Sx:Nat->TR->Prop}
theorem xX{R:LV->TR->Prop}(H:(Uq T == .type "list" || Uq T == .type "tuple")=TL)(X:["set","frozenset","dict","dict_keys","dict_values","dict_items"].any (λ x=>Uq T == .type x)=TL)
  (s:∀(z:TR) (a:Bool->TR->Prop) (Q:VS),Sx 0 z->(∀b N,z.toks<=N->a b { z with toks:=N })->TU (TX G M) B.in1 (UF<|.ref J) a Q z)
  (A:WalksS G M B.in1 J L U V m Y Sx) (u:∀j z,Sx j z->z.TypeIs (.ref J) T) (f:Sx 0 Z) (C:∀b∈L,b<Z.heap.objs.size) (P:J∈L) (E:m<=TW)
  (r:∀K c,WX U V Z K->Wm Y c m->R c.toList K):TU (TX G M) B (Xq<|.ref J) R X0 Z:=by
 have S:Z.heap.objs.size ∉ L:=λ q=>U1 (C _ q)<|dU _;have w:Z.heap.objs.size≠J:=by rintro rfl;exact S P
 let W:Obj:={ cls:=.type "list",data:=.seq ([]:LV).toArray }
 unfold Xq;refine ae<|wpAny_runValue<|kY F.entry_proto_collect ?_;rw[nI F.plain_proto_collect _];show TU _ B.in1 (Xt [] >>= λ q=>again<|.builtin "list.__iadd__" ([q,.ref J],[])) _ _ Z;refine ae<|dA ?_;refine aq (iX F.plain_list_iadd _,kY F.entry_list_iadd ?_);rw[nI F.plain_list_iadd _];have t:=A.frame 0 Z (Z.heap.push W) Z.toks f (ax _) λ b _ o e=>aJ _ e;have y:(Z.heap.push W).get? Z.heap.objs.size=TJ W:=bJ _ rfl;have l:Vi (.ref Z.heap.objs.size) (.ref J)=TL:=by simp[Vi,w]
 show TU _ B.in1 (UO (.ref Z.heap.objs.size) (.ref J)<|.ref Z.heap.objs.size) _ _ _;unfold UO;refine ae<|kS (u 0 _ t) ?_;rw[T9<|by rw[l,kZ,H];decide];refine ae<|A.self 0 _ _ _ t ?_;refine ae<|dH<|s _ _ _ t λ i N g=>?_;have I:=A.frame 0 _ _ N t g λ b _ o e=>e
 cases i with
 |false=>
  split
  .rename_i h;exact U1 (X.symm.trans h) dz
  refine aq (iX s0u _,s0j A E _ S _ m 0 _ _ _ rfl (cn _) I y (ItemsOf.nil Y) λ K c O n v d=>?_);show TU _ B (load Z.heap.objs.size >>= _) _ _ K;exact ae<|Xj v<|aq<|r K c (Moved.drop_new (o:=W) (tk:=N) n g) d
 |true=>
  rw[Bool.true_or,U0 rfl];refine ae<|s0e ?_;refine ae ?_;show TU _ B.in1 (Vl Z.heap.objs.size (·.push .none) >>= λ _=>Vl Z.heap.objs.size (·.pop)) _ _ _;refine ae<|lg y rfl ?_;have D:=fY (UH (·.push Us)) y rfl;refine lg D rfl ?_;have a3:=fY (UH (·.pop)) D rfl
  have p:∀b o,b≠Z.heap.objs.size->(Z.heap.push W).get? b=TJ o->(((Z.heap.push W).update Z.heap.objs.size (UH (·.push Us))).update Z.heap.objs.size (UH (·.pop))).get? b=TJ o :=
   λ b o k e=>(dL _ _<|bI k).trans<|(dL _ _<|bI k).trans e
  refine aq (iX s0u _,s0j A E _ S _ m 0 _ _ _ rfl (cn _)
   (A.frame 0 ({ Z with heap:=Z.heap.push W,toks:=N }:TR) _ N I (ax _) λ b k o e=>p b o (λ q=>S<|q ▸ k) e) a3 (ItemsOf.nil Y) λ K c O n v d=>?_)
  show TU _ B (load Z.heap.objs.size >>= _) _ _ K;refine ae<|Xj v ?_;refine aq<|r K c (Moved.drop_new (o:=W) (tk:=N) (Moved.trans A.gtrans ((Moved.refl A.grefl).then_heap (ax _) λ b o k e=>?_) n) g) d;exact p b o (λ q=>k<|q ▸ bn) e
def Hs{z:TR}{R:Bool->TR->Prop}(t:z.TypeIs (.ref J) "list_reverseiterator")(f:∀b T,z.toks<=T->R b { z with toks:=T }):TU (TX L D) B (UF<|.ref J) R E z:=by
 unfold UF;refine ae<|iV t Hq ?_;show TU _ B (specialOf (Ug J) (Uf "__length_hint__") >>= _) _ _ _;refine ae<|iV t Hr ?_
 (generalize V:("list_reverseiterator.__length_hint__" : String)=S;wp_delta;rw[show splitId S=TJ ("list_reverseiterator","__length_hint__") from by subst V;decide +kernel];subst V)
 refine ae<|pR (b:=TK) t (by rw[jM];kernel_rfl) ?_;exact aq<|f _ _<|ax _
theorem Ht{R:VS}(j:(Uq T == Uq "tuple")=TL)(y:Z.TypeIs (.ref J) T)(v:m<=TW)(A:∀(R:LV->TR->Prop) (E:VS),(∀W S,WX U V Z W->Wm Y S m->R S.toList W)->TU (TX L D) B.in1 (Xq<|.ref J) R E Z)
  (K:∀W S,WX U V Z W->Wm Y S m->R (.ref W.heap.objs.size) { W with heap:=W.heap.push { cls:=.type "tuple",data:=.seq S } }) :
  UM (TX L D) B (.call (.builtin "tuple.__new__") ([.type "tuple",.ref J],[])) (wants R G) Z:=by
 refine Xb ?_;show TU _ B.in1 (do Wc "tuple.__new__" ([.type "tuple",.ref J],[]);again (.builtin "tuple.__new__" ([.type "tuple",.ref J],[]))) _ _ Z;refine ae<|fG (F.newCall_tuple_1 _)<|aq (iX F.plain_tuple_new _,kY F.entry_tuple_new ?_);rw[nI F.plain_tuple_new _];have g:=sub_tuple_self;have d:=init_tuple_lookup;have o:=madeHere_tuple;wp_walk using kS y,A _ _;intro W S z N;show TU _ _ (Uy S.toList.toArray >>= λ q=>ret q) _ _ _;have e:S.toList.toArray=S:=Cr;rw[e];unfold Uy;exact ae (dA (aq<|K W S z N)<|by show S.size<=TW;rw[N.1];exact v)
theorem xY{R:VS}(v:(Uq T == Uq "tuple")=TL)(g:Z.TypeIs (.ref J) T)(d:m<=TW)(A:∀(R:LV->TR->Prop) (E:VS),(∀S W,WX U V Z S->Wm Y W m->R W.toList S)->TU (TX L D) B.in1.in1 (Xq<|.ref J) R E Z)
  (K:∀S W,WX U V Z S->Wm Y W m->R (.ref S.heap.objs.size) { S with heap:=S.heap.push { cls:=.type "tuple",data:=.seq W } }) :
  TU (TX L D) B (call (.type "tuple") [.ref J]) R G Z :=
 callType_codes (Q₁:=λ N z=>z.TypeIs N "tuple" /\ R N z) F.called_tuple (F.typeCall_tuple_1 _) F.entry_object_init
  (Ht v g d A λ S W j y=>((_,bJ _ rfl,rfl),K S W j y))
  λ N z q=>(q.1,tS N _,object_init_meets F.called_tuple.init.lookup F.called_tuple.made Cl L D B.in1 _ z (q.1,rfl,q.2))
end
theorem xZ{s1 S:TR}{tk:Nat}{Q:VK}(N:Inv X L D Y s1)(z:Vals J Z)(G:J.length<=TW)(W:WX [s1.heap.objs.size] (λ a b=>b=a) { s1 with heap:=s1.heap.push H,toks:=tk } S)
  (F:Wm (λ i v=>Z.toArray[Z.toArray.size-1-i]?=TJ v) U Z.toArray.size) (q:∀p,Y p=TM->Q (.ref p) (Yu Y p<|.tup J.reverse)):EP X L D Q (.ref S.heap.objs.size) { S with heap:=S.heap.push { cls:=.type "tuple",data:=.seq U } }:=by
 have P:=z.length;have n:=N.fpOk (ax s1.heap.objs.size)<|N.hok.fresh<|ax _
 have K:Inv X L D Y S:=by
  refine HT λ T V=>?_;obtain⟨u,I,M,R,O⟩:=S;refine V ?_;clear V T;have g:I=s1.gens:=W.gens;have d:M=s1.drawn:=W.drawn;have c:O=s1.os:=W.os;subst g d c;refine HT λ T V=>?_;obtain⟨m,r,C,s,t,l⟩:=n;refine V ?_;clear V T;exact N.turned (t':=R) (λ b o B e=>W.heap b o (by simpa using B)<|aJ _ e) m r s t l
 have k:U=Z.reverse.toArray:=by
  have A:U.size=Z.length:=by simpa using F.1
  apply Array.ext
  .simp[A]
  .intro j w x;have q:=F.2 j _<|yg w;simp only[aY,yh] at q;have E:Z.reverse[j]?=TJ U[j]:=by rw[pV BT];exact q
   rw[List.getElem_toArray];exact(bS<|(aZ<|by simpa using x).symm.trans E).symm
 subst k
 have y:Inv X L D (Yu Y S.heap.objs.size<|.tup J.reverse) { S with heap:=S.heap.push { cls:=.type "tuple",data:=.seq Z.reverse.toArray } } :=
  K.laid (t':=S.toks) (λ b o e=>aJ _ e) (ax _) (show ObjOk X.prog X.w _ _ _ (.tup J.reverse) from (by simpa using G,Z.reverse,z.reverse,TupO.new _ _))
 exact(.ref S.heap.objs.size,_,y,on,q _<|K.hok.fresh<|ax _)
variable {X:Cx}
def Hu(K:FG)(T:TE):TE:=λ W H Q=>T W H λ x V=>∃a S,x=.ref a/\SqL K V a S/\∀p,V p=TM->Q (.ref p) (Yu V p<|.tup S.reverse)
theorem Hv{M O g S:Pos}(Z:X.calm=TK)(L:Gl X "tuple")(J:Gl X "reversed")(mt:X.mg "tuple"=TM)(G:X.mg "reversed"=TM)(Y:PE X e te)(r:autoParam (Ud [e] X.env=[(TL,eval e X.env)]) Ty._auto_1) :
  PE X (.Call (.Name "tuple" M) [.Call (.Name "reversed" O) [e] [] S] [] g)<|Hu X.K te:=by
 intro c s n H Q I h;refine Wo<|eQ I L mt boot_tuple<|gX ?_ rfl rfl;refine sP ?_;have w:=(bK Y (pa_nil (X:=X)) r) S c s n H (λ vs W=>match vs with|[x]=>∃a d,x=.ref a/\SqL X.K W a d/\∀p,W p=TM->Q (.ref p) (Yu W p<|.tup d.reverse)|_=>False) I h;refine Wo<|eQ I J G s1k<|gX (Yw w λ us s1 F=>?_) r rfl;obtain⟨vs,W,K,C,R⟩:=F
 match vs,R with
 |[x],(a,d,e,U,q)=>
  subst e;obtain⟨u,rfl,P⟩:=cM C;cases (show u=Ug a from P);obtain⟨V,t,v,D⟩:=K.list U;have hl:=t.length;refine call_reversed_list v.isList ?_;refine sO ?_;have I2:Inv X c n W { s1 with heap:=s1.heap.push (Xf a<|(V.toArray.size:Int)-1) }:=K.kept (t':=s1.toks) λ b o e=>aJ _ e;have k:a<s1.heap.objs.size:=by obtain⟨o,T,_⟩:=v.isList;exact aF T
  have y:a≠s1.heap.objs.size:=bf k
  have i:(s1.heap.push<|Xf a<|(V.toArray.size:Int)-1).IsRevIter s1.heap.objs.size a<|(V.toArray.size:Int)-1-((0:Nat):Int):=by
   refine(_,bJ _ rfl,on,?_);have e:(V.toArray.size:Int)-1-((0:Nat):Int)=(V.toArray.size:Int)-1:=BT;rw[e];rfl
  have sz:(s1.heap.push<|Xf a<|(V.toArray.size:Int)-1).objs.size=s1.heap.objs.size+1:=by simp[Yp]
  have l:V.toArray.size<=TW:=by simp only[aY];lia
  refine xY Cl (let ⟨o,T,N,_⟩:=i;(o,T,N):Shared.TypeIs { s1 with heap:=s1.heap.push (Xf a<|(V.toArray.size:Int) - 1) } (.ref s1.heap.objs.size) "list_reverseiterator") l (λ _ _ f=>xX Cl Cl (λ z _ _ q f=>Hs (let ⟨o,T,N,_⟩:=q.2.1;(o,T,N)) f) (Walks.listRev (A:=X.A.in1.in1.in1) (I.ok.hd Z) s1.heap.objs.size a y V.toArray).toS (λ j z q=>let ⟨o,T,N,_⟩:=q.2.1;(o,T,N))
   (cn _,i,v.isList.at λ o e=>aJ _ e) (λ b m=>?_) (bn ..) l f) λ z' ac E B=>?_
  .show b<(s1.heap.push<|Xf a<|(V.toArray.size:Int)-1).objs.size;rw[sz];simp only[aD,cX,cO] at m
   rcases m with rfl|rfl
   .exact ig _
   .exact eV k
  exact xZ (tk:=s1.toks) K t (by simpa using D) E B q
def Hw(K:FG):R2:=λ x y H Q=>∃a b V S,x=.ref a/\y=.ref b/\SqT K H a V/\SqT K H b S/\V.length+S.length<=TW /\
 (V=[]->Q (.ref b) H)/\(V≠[]->S=[]->Q (.ref a) H)/\(V≠[]->S≠[]->∀p,H p=TM->Q (.ref p) (Yu H p<|.tup<|V++S))
def Hx:YL X (UA .Add)<|Hw X.K:=by
 intro m s B H x y v u Q I o c h;refine HT λ S V=>?_;obtain⟨a,b,k,D,rfl,rfl,g,d,i,Y,U,J⟩:=h;refine V ?_;clear V S;by_cases A:k=[]
 .cases o;cases c;refine HT λ S V=>?_;obtain⟨K,L,w,_⟩:=I.tuple g;obtain⟨F,r2,Z,_⟩:=I.tuple d;refine V ?_;clear V S;have e:K=[]:=L.nil_iff.mpr A;refine HT λ S V=>?_;obtain⟨⟨c1,r,G,l1⟩,z,hc1,l,W⟩:=id w;obtain⟨⟨c2,p,E,t⟩,j,T,n,N⟩:=id Z;refine V ?_;clear V S;simp only at hc1 W T N;subst hc1 W T N
  exact pJ (_,z,on) (_,j,on) sZ s1g tj tm (tq _ _)
   (tuple_addW0 a b K.toArray F.toArray l n r p l1 t<|by simp[e]) (z,j,.ref b,H,I,rfl,Y A)
 .exact FZ m s B H _ _ v u Q I o c (a,b,k,D,on,on,g,d,A,i,U A,J A)
section
variable {B:Uk}{Y:VS}{Z:TR}
theorem Hy{R:VS}(p:Z.heap.IsTupleIter j t k)(q:Z.heap.IsTuple t U)(e:U[k]?=TJ x)
  (f:∀T,T.IsTupleIter j t (k+1)->Vj j Z.heap T->R x { Z with heap:=T }):TU (TX J L) B (UT<|.ref j) R Y Z:=by
 refine HT λ S V=>?_;obtain⟨o,g,c,d⟩:=id p;obtain⟨K,N,_,A,W⟩:=q;refine V ?_;clear V S;unfold UT;refine ae<|kR (name:=Uf "__next__") p.typeIs pW<|gC pW p.typeIs yi ?_<|yj _;show TU _ _ (Xd (.ref j) 0 >>= _) _ _ Z;refine ae<|cV g d (x:=.ref t) rfl ?_;show TU _ _ (if (Ug t == Us)=TK then _ else _) _ _ Z;rw[T9<|show ¬((Ug t == Us)=TK) from dz];show TU _ _ (Xd (.ref j) 1 >>= _) _ _ Z;refine ae<|cV g d (x:=.int k 0) rfl ?_;show TU _ _ (VL (.ref t) >>= _) _ _ Z;refine ae<|lh N W ?_;simp only[TZ,e];refine ae<|iW g d Cr<|aq (x,on,aq<|f _ ?_<|tT ..);exact(_,fY _ g<|nH<|im d _,(tU ..).trans c,by rw[im d];simp[Ur])
theorem Hz(W:B.handled=TM)(p:Z.heap.IsTupleIter j t k)(q:Z.heap.IsTuple t U)(e:U[k]?=TM)
  (f:∀T z,Ym j Z.heap T->(∃o,T.get? z=TJ o/\o.cls=.type "StopIteration")->Y (.ref z) { Z with heap:=T }):TU (TX J L) B (UT<|.ref j) R Y Z:=by
 refine HT λ S V=>?_;obtain⟨o,g,c,d⟩:=id p;obtain⟨F,A,_,K,N⟩:=q;refine V ?_;clear V S;unfold UT;refine ae<|kR (name:=Uf "__next__") p.typeIs pW<|gC pW p.typeIs yi ?_<|yj _;show TU _ _ (Xd (.ref j) 0 >>= _) _ _ Z;refine ae<|cV g d (x:=.ref t) rfl ?_;show TU _ _ (if (Ug t == Us)=TK then _ else _) _ _ Z;rw[T9<|show ¬((Ug t == Us)=TK) from dz];show TU _ _ (Xd (.ref j) 1 >>= _) _ _ Z;refine ae<|cV g d (x:=.int k 0) rfl ?_;show TU _ _ (VL (.ref t) >>= _) _ _ Z;refine ae<|lh A N ?_;simp only[TZ,e];refine ae<|s0e<|ae<|iW g d Cr ?_;show TU _ _ (Yi (.type "StopIteration") [] >>= _) _ _ _;refine ae ?_;simp only[Yi,Yj];refine ae (dA ?_<|by size_fits);refine ae (m:=VH _ _)<|fG (a:=Us) (by first|rfl|(simp only[VH];rfl)) ?_;refine dA ?_ (by size_fits);simp only[raiseNew];refine ae<|XR ?_;first|rw[show B.in1.handled=TM from W]|rw[W]
 refine ae<|aq<|wpAny_throw ?_;exact f _ _ (((tT ..).extBut.push _).push _) (_,bJ _ rfl,on)
def yk{h V:Ue}(p:h.IsTupleIter j t k)(f:∀o,h.get? j=TJ o->V.get? j=TJ o):V.IsTupleIter j t k:=let ⟨o,g,r⟩:=p;(o,f o g,r)
def tW{h V:Ue}(p:h.IsTuple t U)(f:∀o,h.get? t=TJ o->V.get? t=TJ o):V.IsTuple t U:=let ⟨o,g,r⟩:=p;(o,f o g,r)
end
def Inv.turnedL{N:Ue}{t':Nat}{fl:List TQ}(I:Inv X Z Y H s)(S:∀b o,b ∉ fl->s.heap.get? b=TJ o->N.get? b=TJ o)(W:∀b∈fl,iM X Z H b):Inv X Z Y H { s with heap:=N,toks:=t' }:=by
 have T:∀b u,H b=TJ u->b ∉ fl:=λ b u e z=>by rw[(W b z).1] at e;cases e
 refine I.step (g':=s.gens) (d':=s.drawn) (ch:=fl) (λ b d=>?_) (λ b o _ _ V e _=>S b o V e) (λ b o _ _ V e _=>(o.slots,S b o V e)) (λ _ _ _ _ q=>q)
  (λ b o V e=>(o,S b o V e)) (λ _ _ e=>e) (λ _ _ _ e=>e) (λ b i e=>(#[],by rw[e];simp)) (λ m k=>?_) (λ b u e=>?_) I.bare
 .obtain⟨_,F,_,y,j,g⟩:=W b d;exact(y,F,j,g)
 .obtain⟨o,K,A,p,r⟩:=k;exact(o,K,A,S _ o (λ z=>(W _ z).2.1 rfl) p,r)
 .refine(I.hok b u e).stay (λ c v V q=>S c v ?_ q) (λ _ q=>q) λ _ _ q=>q
  rcases V with z|z
  .rw[z];exact T b u e
  .exact T c _ z
section
variable {U:List Expr}{Z:Nat}{Y:Pos}
end
def HA(F:X.calm=TK):bY X (.builtin "sum") λ A H Q=>∃(a:TQ) (Z:Yr),A=[.ref a]/\SqL X.K H a (Z.map V.int)/\Q (.int Z.sum) H:=by
 intro m s l H A t Q I r h;refine HT λ T S=>?_;obtain⟨a,Z,rfl,v,q⟩:=h;obtain⟨u,rfl,o⟩:=cM r;refine S ?_;clear S T;cases (show u=Ug a from o);obtain⟨j,c,d,p⟩:=I.list v;have N:=mW c;have y:=N.numsOf;obtain⟨W,e⟩:=N.allInts.items;have z:s.heap.IsList a<|intItems W:=e ▸ d.isList;refine sum_intListG (I.ok.hd F) z λ b i k g=>?_
 have K:preSum (numAt W) W.size=Z.sum:=by
  rw[preSum_eq,ce Cr,<- s1l,<- e];exact bT List.sum y
 rw[K];exact(.int Z.sum,H,I.kept g,(k,on),q)
noncomputable def K2(lo st:Int)(n:Nat):It:=(λ i _=>i<n,λ i H x V=>V=H/\x=.int (lo+i*st),λ i _=>n<=i)
def HB{K:FG}(V:TQ)(lo st:Int)(n:Nat):Turn P w K Z (K2 lo st n) [V] V (λ i h=>Wj h V (lo+(i:Nat)*st) ((n:Int)-(i:Nat)) st) :=
 .one (λ _ _ q=>(_,_,q,rfl,rfl)) (λ _ _ _ q k=>k _ q) (λ _ _ _ _ _ q h=>wJ q h) (λ X i A s c H E Q z W I q N f=>by
  refine(Walks.range W V lo st n).item i s _ _ N q λ v S d y g j=>?_;obtain⟨t,rfl⟩:=y
  exact f _ (.int<|lo+i*st) S d (λ b o T e=>j b o (by simpa using T) e) g (t,on) (on,on)) λ X i A s c H E Q z W I q N f=>wK W q (by have:n<=i:=N;lia) λ S F=>f S s.toks λ b o T e=>F b o T e
def HD(S:TA):TI:=λ T H R=>S T H λ vs V=>∃i j c:Int,vs=[.int i,.int j,.int c]/\(c≠0/\c.natAbs<1073741824/\UK i j c=TK)/\R (K2 i c (Ul i j c).toNat) V
def HE(i j c:Int)(V:c≠0):0<=Ul i j c:=by
 unfold Ul;split
 .split
  .have:=WV (show 0<=j-i-1 by lia) (show 0<=c by lia);lia
  .lia
 .split
  .have:=WV (show 0<=i-j-1 by lia) (show 0<=-c by lia);lia
  .lia
theorem HG{tg a b c:Expr}{p pos:Pos}(hg:Gl X "range")(hm:X.mg "range"=TM)(ha:PA X [a,b,c] ta)(hs:autoParam (Ud [a,b,c] X.env=[(TL,eval a X.env),(TL,eval b X.env),(TL,eval c X.env)]) Ty._auto_1)
  (hs2:autoParam (Ud [b,c] X.env=[(TL,eval b X.env),(TL,eval c X.env)]) Ty._auto_1):PI X tg (.Call (.Name "range" p) [a,b,c] [] pos)<|HD ta:=by
 intro Yq s σ H R I h;refine Wo (eQ I hg hm boot_range<|gX (Yw (ha pos Yq s σ H _ I h) λ us s1 (vs,H1,I1,r1,q1)=>?_) (by rw[hs,hs2])<|by rw[hs2];rfl);refine HT λ Gzz gzz=>?_;obtain⟨i,j,k,e,⟨c0,c1,c2⟩,q⟩:=q1;refine gzz ?_;clear gzz Gzz;subst e
 cases r1 with
 |cons r rr=>
  cases rr with
  |cons r' rr=>
   cases rr with
   |cons r'' rr=>
    cases rr;refine HT λ Gzz gzz=>?_;obtain⟨t,rfl⟩:=r;obtain⟨t',rfl⟩:=r';obtain⟨t'',rfl⟩:=r'';refine gzz ?_;clear gzz Gzz;refine call_range_3 c0 ?_<|.inl<|PyProof.noPylong_small c1;refine s1e (IsRange.new ..) c2 ?_;have I2:Inv X Yq σ H1 { s1 with heap:=s1.heap.push { cls:=.type "range",data:=.fields #[.int i t,.int j t',.int k t''] },toks:=s1.toks }:=I1.kept λ b o e=>aJ _ e;generalize s1.heap.push { cls:=.type "range",data:=.fields #[.int i t,.int j t',.int k t''] }=hr at I2 ⊢;refine(hr.objs.size,[hr.objs.size],_,_,H1,on,I2.kept (t':=s1.toks) λ b o e=>aJ _ e,HB _ i k (Ul i j k).toNat,?_,λ b hb=>?_,q)
    .have e1:i+((0:Nat):Int)*k=i:=by simp
     have e2:(((Ul i j k).toNat:Nat):Int)-((0:Nat):Int)=Ul i j k:=by have:=HE i j k c0;lia
     show Wj _ _ (i+((0:Nat):Int)*k) ((((Ul i j k).toNat:Nat):Int)-((0:Nat):Int)) k;rw[e1,e2];exact bJ _ rfl
    .have e:b=hr.objs.size:=by simpa using hb
     subst e;exact I2.fpOk (ax _)<|I2.hok.fresh<|ax _
open AutoSeq1 (wpAny_loadPart')
def HH:fillsNumberSlot (.type "tuple") "mul"=Uo TL :=
 PySem.fillsNumberSlot_seq (id := "tuple.__mul__") (r:=TJ<|.builtin "tuple.__rmul__") F.slot_tuple_mul.lookup (by decide +kernel) (by rw[fH,fJ];kernel_rfl) (by decide +kernel)
def HI:seqRepeat? (.type "tuple")=Uo (TJ<|.builtin "tuple.__mul__"):=by
 have V:UU (.type "tuple") "__rmul__"=Uo (TJ<|.builtin "tuple.__rmul__"):=by rw[fH,fJ];kernel_rfl
 unfold seqRepeat?;rw[WN (T := "tuple") (name := "__mul__") (id := "tuple.__mul__") F.slot_tuple_mul.lookup (by decide +kernel),WN (T := "tuple") (name := "__rmul__") (id := "tuple.__rmul__") V<|by decide +kernel];rfl
theorem HJ(k:Int)(t:Tok)(l:TQ)(T:Array Value)(n:Nat)(N:OA)(K:AV) :
  WW (Builtin.«int.__rmul__» ([.int k t,.ref l],[])) (λ _ R s=>s.heap.get? l=TJ { cls:=.type "tuple",dict:=N,data:=.seq T n,slots:=K }/\R (.ok<|.ret Value.notImplemented) s) :=
 .of_wp λ W w A R s h=>by refine HT λ S V=>?_;obtain⟨z,g,d,y,os⟩:=s;obtain⟨F,h⟩:=h;refine V ?_;clear V S;wp_walk;exact(_,rfl,h)
theorem HK(l:TQ)(S:Array Value)(n:Nat)(u:Tok)(N:OA)(F:AV) :
  WW (Builtin.«tuple.__mul__» ([.ref l,.int 1 u],[])) (λ _ R s=>s.heap.get? l=TJ { cls:=.type "tuple",dict:=N,data:=.seq S n,slots:=F }/\R (.ok<|.ret<|.ref l) s) :=
 .of_wp λ W w A R s h=>by
  refine HT λ T V=>?_;obtain⟨y,g,d,v,os⟩:=s;obtain⟨K,h⟩:=h;refine V ?_;clear V T;have z:=tX;have c1:¬((decide ((1:Int) < -(2 ^ 63)) || decide ((1:Int) ≥ 2 ^ 63))=TK):=Cl;have c2:(S.isEmpty || (1:Int) == 1)=TK:=Cr;wp_walk using Vg K;exact(_,on,h)
theorem HL(l:TQ)(V:Array Value)(n:Nat)(k:Int)(u:Tok)(K:OA)(y:AV)(F:k<=0)(j:-(2 ^ 63)<=k)(z:V.isEmpty=TL) :
  WW (Builtin.«tuple.__mul__» ([.ref l,.int k u],[])) (λ _ R s=>s.heap.get? l=TJ { cls:=.type "tuple",dict:=K,data:=.seq V n,slots:=y }/\R (.ok<|.ret<|.ref s.heap.objs.size) { s with heap:=s.heap.push { cls:=.type "tuple",data:=.seq #[] } }) :=
 .of_wp λ N w A R s h=>by
  refine HT λ T S=>?_;obtain⟨o,g,d,c,os⟩:=s;obtain⟨W,h⟩:=h;refine S ?_;clear S T;have v:=tX;have c1:¬((decide (k < -(2 ^ 63)) || decide (k ≥ 2 ^ 63))=TK):=by simp;lia
  have c2:¬(V.isEmpty || k == 1)=TK:=by simp[z];lia
  have c3:(decide (k<=0) || V.isEmpty)=TK:=by simp[F]
  wp_walk using Vg W;rw[T9 c1];wp_walk using Vg W;rw[T9 c2];dsimp only;rw[U0 c3];wp_walk;exact(_,on,h)
theorem HM(l:TQ)(V:Array Value)(n:Nat)(k:Int)(u:Tok)(j:OA)(b:AV)(p:1<k)(i:k<2 ^ 63)(K:V.isEmpty=TL)(o:V.size*k.toNat<=TW) :
  WW (Builtin.«tuple.__mul__» ([.ref l,.int k u],[])) (λ _ R s=>s.heap.get? l=TJ { cls:=.type "tuple",dict:=j,data:=.seq V n,slots:=b }/\R (.ok<|.ret<|.ref s.heap.objs.size) { s with heap:=s.heap.push { cls:=.type "tuple",data:=.seq ((TY k.toNat V).foldl (·++·) #[]) } }) :=
 .of_wp λ F w A R s h=>by
  refine HT λ T S=>?_;obtain⟨t,g,d,x,os⟩:=s;obtain⟨N,h⟩:=h;refine S ?_;clear S T;have r:=tX;have W:(V.size:Int)*k=((V.size*k.toNat:Nat):Int):=by rw[Int.natCast_mul];congr 1;lia
  have z:(TW:Int)<=(2 ^ 63-1)/8:=by rw[iO];decide
  have c1:¬((decide (k < -(2 ^ 63)) || decide (k ≥ 2 ^ 63))=TK):=by simp;lia
  have c2:¬(V.isEmpty || k == 1)=TK:=by simp[K];lia
  have c3:¬(decide (k<=0) || V.isEmpty)=TK:=by simp[K];lia
  have c4:¬((V.size:Int)*k > (2 ^ 63-1)/8):=by rw[W];lia
  have y:¬(VO ((V.size:Int)*k)=TK):=by
   unfold VO;rw[W,dB];lia
  have v:((TY k.toNat V).foldl (·++·) #[]).size<=TW:=by
   have e:∀(m:Nat) (a:Array Value),((TY m V).foldl (·++·) a).size=a.size+m*V.size:=by
    intro m
    induction m with
    |zero=>intro a;simp
    |succ m c=>intro a;rw[fF,iT,c];simp[Nat.succ_mul];lia
   rw[e];simp;rw[s1u];exact o
  wp_walk using Vg N;rw[T9 c1];wp_walk using Vg N;rw[T9 c2];dsimp only;rw[T9 c3];rw[T9 c4];rw[T9 y];unfold Uy;refine ae<|dA (aq ?_) v;exact(_,on,h)
section
variable {R:Wa->TR->Prop}{s:TR}
theorem HN{c V F W:Expr}{a o:Value}(I:Nat->TR->Prop)
  (l:∀n s,I n s->TU (TX Z w) A (UY a) (λ r S=>match r with
   |none=>R (.ok .next) S
   | TJ v=>TU (TX Z w) A (UX V a v) (λ _ y=>TU (TX Z w) A (VA V Y v) (λ _ j=>TU (TX Z w) A (isTrue W Y<|eval W Y) (λ b T =>
     if b=TK then TU (TX Z w) A (eval c Y) (λ x g =>
      TU (TX Z w) A (call (.builtin "list.append") [o,x]) (λ _ d=>∃m,m<n/\I m d) (λ _ _=>False) g) (λ _ _=>False) T
     else ∃m,m<n/\I m T)
     (λ _ _=>False) j) (λ _ _=>False) y) (λ _ _=>False) S) (λ _ _=>False) s)
  (n:Nat) (h:I n s) :
  UM (TX Z w) A (.compLoop (.ListComp c [(V,F,[W],0)] U J) 0 a o Y) R s:=by
 refine codeAny_loop rfl I (λ n s L=>?_) n h;show TU _ _ ((compTurn (.ListComp c [(V,F,[W],0)] U J) 0 a o Y).onRaise λ x=>do Vk x Y;Xg x) _ _ s;refine wpAny_noted ?_;rw[compTurn_list];refine ae<|jG<|ae<|cj (l n s L) (λ r S N=>?_) λ _ _ k=>k.elim
 cases r with
 |none=>exact aq N
 |some v=>
  refine ae<|cj N (λ _ y p=>?_) λ _ _ k=>k.elim;refine ae<|cj p (λ _ j e=>?_) λ _ _ k=>k.elim;refine ae<|cj (wpAny_tests_one e) (λ ok T K=>?_) λ _ _ k=>k.elim
  cases ok with
  |false=>exact aq (rfl,K)
  |true=>exact ae<|ae<|cj K (λ x g i=>ae<|cj i (λ _ d t=>aq<|aq (rfl,t)) λ _ _ z=>z.elim) λ _ _ z=>z.elim
end
def yl(V:Expr):pO:=λ p w A S k s=>TU (TX p w) A (isTrue V S<|eval V S) k (λ _ _=>False) s
def ym{V:Expr}:nz [V]<|yl V:=(λ I t n h=>HN I t n h,λ h m=>cj h m λ _ _ z=>z)
def P3{X:Cx}(S:X.xe=λ _ _=>False)(h:PT X Z Y):PM X (yl Z) Y:=λ V s T H K I k=>by
 have z:=h V s T H K I k;rw[S] at z;exact z
theorem HP{B:Uk}(N:B.handled=TM)(j t:TQ)(A:t≠j)(V:Array Value):Draws Z Y B j [j,t] V.size (λ i v=>V[i]?=TJ v) (λ i h=>h.IsTupleIter j t i/\h.IsTuple t V) where
 live:=λ _ _ q=>let ⟨o,g,_⟩:=q.1;(o,g)
 frame:=λ _ _ _ q k=>(yk q.1 λ o g=>k j Cr o g,tW q.2 λ o g=>k t Cr o g)
 item:=λ i s R W S q f=>Hy q.1 q.2 (x:=V[i]) (by simp[S]) λ m p T=>f _ m s.toks (by simp[S]) (p,tW q.2 λ o g=>T.extBut _ _ A g) T
 done:=λ s R W q f=>Hz N q.1 q.2 Cr f
section
variable {Z:TR}
set_option tactic.hygienic true in
theorem HQ(t:TQ)(W:Array Value)(n:Nat)(K:OA)(z:AV) :
  WW (Builtin.«enumerate.__new__» ([.type "enumerate",.ref t],[])) (λ _ R s=>s.heap.get? t=TJ { cls:=.type "tuple",dict:=K,data:=.seq W n,slots:=z } /\
   R (.ok<|.ret<|.ref (s.heap.push { cls:=.type "tuple_iterator",data:=.fields #[.ref t,.int 0 0] }).objs.size) { s with heap:=(s.heap.push { cls:=.type "tuple_iterator",data:=.fields #[.ref t,.int 0 0] }).push { cls:=.type "enumerate",data:=.fields #[.none,.bool TL,.ref s.heap.objs.size,Ur 0,.none,.none] } }) :=
 .of_wp λ j k A R s h=>by
  refine HT λ T V=>?_;obtain⟨F,g,d,v,os⟩:=s;obtain⟨S,h⟩:=h;refine V ?_;clear V T;have o:=sub_enumerate;have N:Heap.IsTuple (Shared.heap (F,g,d,v,os)) t W:=(_,S,rfl,n,rfl);wp_walk using tY S;refine wpAny_stack_any λ y=>aq ?_;split
  .rename_i c _ _ _ _ _;cases (c == Uq "enumerate")<;>(wp_walk using tY S,pX N)<;>exact(_,rfl,h)
  .wp_walk using tY S,pX N;exact(_,on,h)
theorem HR{R:VS}(q:Z.heap.IsTuple t Y)
  (f:∀m,XY m (Z.heap.objs.size+1) Z.heap.objs.size 0 .none->m.IsTupleIter Z.heap.objs.size t 0->(∀c o,Z.heap.get? c=TJ o->m.get? c=TJ o)->R (.ref<|Z.heap.objs.size+1) { Z with heap:=m }) :
  TU (TX J L) B (call (.type "enumerate") [.ref t]) R U Z:=by
 refine HT λ S V=>?_;obtain⟨⟨c,W,N,g⟩,y,A,n,K⟩:=q;refine V ?_;clear V S;cases (show c=.type "tuple" from A);cases (show N=.seq Y n from K);refine callType_new F.called_enumerate Cl (F.typeCall_enumerate_1 _) (F.newCall_enumerate_1 _) (λ j=>tS j _) F.entry_enumerate_new (HQ t Y n W g) (y,?_);have v:(Z.heap.push { cls:=.type "tuple_iterator",data:=.fields #[.ref t,.int 0 0] }).objs.size=Z.heap.objs.size+1:=jK ..;show _/\_;have T:=bJ (Z.heap.push { cls:=.type "tuple_iterator",data:=.fields #[.ref t,.int 0 0] }) (o:={ cls:=.type "enumerate",data:=.fields #[.none,.bool TL,.ref Z.heap.objs.size,Ur 0,.none,.none] }) rfl;rw[v] at T ⊢;exact((_,T,on),f _ T (_,aJ _<|bJ _ rfl,on,on) λ c o z=>aJ _<|aJ _ z)
end
noncomputable def z7(S:Hp->List V->Prop):It:=(λ i H=>∃W x,S H W/\W[i]?=TJ x,
 λ i H v N=>∃T x,v=.ref T/\H T=TM/\N=Yu H T (.tup [.int i,x])/\∀W,S H W->W[i]?=TJ x,λ i H=>∃W,S H W/\W.length=i)
structure E5 (K:FG)(a j:TQ)(S:Hp->List V->Prop)(sq:Ue->Array Value->Prop)(it:Nat->Ue->Prop):Prop where
 iv:∀ {X:Cx}{Yq:LO}{σ:St}{H:Hp}{s:TR}{xs:List V},X.K=K->Inv X Yq σ H s->S H xs->(∃us:LV,Vals xs us/\sq s.heap us.toArray)/\∀ys,S H ys->ys=xs
 dr:∀ {pg:Uh}{wd:Ui}{B:Uk}(us:Array Value),B.handled=TM->a≠j->Draws pg wd B j [j,a] us.size (λ i v=>us[i]?=TJ v) λ i h=>it i h/\sq h us
 ob:∀ {h:Ue}{i:Nat},it i h->∃o,h.get? j=TJ o/\∀v,o.data≠.cell v
 kp:∀ {h h':Ue}{i:Nat},it i h->(∀o,h.get? j=TJ o->h'.get? j=TJ o)->it i h'
 ne:∀ {h:Ue}{us:Array Value},sq h us->(∀z i u,XY h z j i u->a≠z)/\∀i,it i h->a≠j
theorem HS{K:FG}{a z j:TQ}(k:E5 K a j S sq it)(C:z≠j) :
  Turn P w K (.Tuple es x1 pp) (z7 S) [z,j] z (λ i h=>(∃u,XY h z j i u)/\it i h) where
 mem:=Cr
 obj:=λ i h q c W=>by
  obtain⟨⟨u,A⟩,F⟩:=q;simp only[aD,cX,cO] at W
  rcases W with rfl|rfl
  .exact(_,A,λ v y=>nomatch y)
  .exact k.ob F
 keep:=λ i h h' q kk=>by
  obtain⟨⟨u,A⟩,F⟩:=q;exact((u,kk _ Cr _ A),k.kp F λ o g=>kk _ Cr o g)
 item:=by
  intro X U D Y W i t s n H E I r st J;subst U D Y;refine HT λ N T=>?_;obtain⟨xs,x,L,hx⟩:=J;obtain⟨⟨u,A⟩,F⟩:=st;obtain⟨⟨l,Q,b⟩,M⟩:=k.iv rfl I L;obtain⟨ux,p,O⟩:=Q.get hx;refine T ?_;clear T N;have az:=(k.ne b).1 _ _ _ A;have il:i<l.toArray.size:=by simpa using (aP.mp p).1
  refine wpAny_pyNext_enum_itemD (k.dr (B:=X.A.in1) l.toArray (I.ok.hd W)<|(k.ne b).2 _ F) A (F,b) il C (by simp only[aD,cX,cO,not_or];exact(C,az.symm)) λ y m d G zo R np sz Z=>?_;have yu:y=ux:=by simp only[yh] at G;rw[p] at G;exact(bS G).symm
  subst yu
  have I1:Inv X t n H { s with heap:=m,toks:=d+1 }:=I.turnedL (t':=d+1) (fl:=[z,j]) (λ c o W e=>by
   simp only[aD,cX,cO,not_or] at W
   exact Z c o W.1 W.2 e) r
  refine HT λ N T=>?_;obtain⟨f,f1,f2,f3,f4,f5⟩:=I.fpOk (ax s.heap.objs.size)<|I.hok.fresh<|ax _;refine T ?_;clear T N
  have n0:X.s₀.heap.get? s.heap.objs.size=TM:=by
   cases q:X.s₀.heap.get? s.heap.objs.size with
   |none=>rfl
   |some o=>exact U1 (bH (aF q) I.sz)<|dU _
  have I2:Inv X t n (Yu H s.heap.objs.size<|.tup [.int i,x]) { s with heap:=m,toks:=d+1 }:=I1.track f (small Cr,[.int i d,y],.cons (show RelV (V.int i) (Wu i d) from (_,rfl))<|.cons O .nil,(_,np,(rfl,_,rfl),rfl)) f1 f4 f5 n0;have lt:∀ {c o},s.heap.get? c=TJ o->c≠s.heap.objs.size:=λ e=>bf<|aF e;have zT:z≠s.heap.objs.size:=lt A;refine HT λ N T=>?_;obtain⟨e0,e1,e2,e3,e4,e5⟩:=r z Cr;refine T ?_;clear T N;refine(_,on,wpAny_letOwnedTupleGo_enum zo λ h2 z2 sb=>?_);have I3:Inv X t n (Yu H s.heap.objs.size<|.tup [.int i,x]) { s with heap:=h2,toks:=d+1 }:=Inv.turned (s:={ s with heap:=m,toks:=d+1 }) (h':=h2) (t':=d+1) (it:=z) I2 (λ c o W e=>sb.extBut _ _ W e) (by rw[av zT];exact e0) e1 e3 e4 e5;refine(.ref s.heap.objs.size,_,I3,on,(_,x,on,f,on,λ xs' k1=>?_),((_,by simpa using z2),k.kp R.1 λ o g=>sb.extBut _ _ C.symm g),λ c W=>?_)
  .rw[M _ k1];exact hx
  .have cT:c≠s.heap.objs.size:=by
    obtain⟨o4,g4,_⟩:=k.ob F;simp only[aD,cX,cO] at W
    rcases W with rfl|rfl
    .exact zT
    .exact lt g4
   rw[av cT];exact(r c W).1
 done:=by
  intro X U D Y W i t s n H E I r st J;subst U D Y;refine HT λ N T=>?_;obtain⟨xs,L,rfl⟩:=J;obtain⟨⟨u,A⟩,F⟩:=st;obtain⟨⟨l,Q,b⟩,_⟩:=k.iv rfl I L;refine T ?_;clear T N;refine wpAny_pyNext_enum_endD (k.dr (B:=X.A.in1) l.toArray (I.ok.hd W)<|(k.ne b).2 _ F) A (by rw[aY,<- Q.length];exact F,b) λ m Z=>(on,?_)
  exact I.turnedL (t':=s.toks) (fl:=[z,j]) (λ c o W e=>by
   simp only[aD,cX,cO,not_or] at W
   exact Z c o W.2 e) r
 self:=λ _ _ _ _ _ st h=>let ⟨(_,A),_⟩:=st;WE A h
theorem yn{S:TQ->Hp->List V->Prop}{r:TQ->Ue->Array Value->Prop}{b:TQ->TQ->Nat->Ue->Prop}(k:∀ {a j},E5 X.K a j (S a) (r a) (b a j))
  (w:∀ {t:TQ}{i:Array Value}{R:VS}{W:TR},r t W.heap i->(∀m,XY m (W.heap.objs.size+1) W.heap.objs.size 0 .none->b t W.heap.objs.size 0 m->(∀c o,W.heap.get? c=TJ o->m.get? c=TJ o)->R (.ref<|W.heap.objs.size+1) { W with heap:=m })->TU (TX X.prog X.w) X.A (call (.type "enumerate") [.ref t]) R X.xe W){p N:Pos}(J:Gl X "enumerate") (L:X.mg "enumerate"=TM) (U:PE X e O) (d:Ud [e] X.env=[(TL,eval e X.env)]) :
  PI X (.Tuple f x1 pp) (.Call (.Name "enumerate" p) [e] [] N) λ K H R=>O K H λ v T=>∃a Z,v=.ref a/\S a T Z/\R (z7<|S a) T:=by
 intro z s K H R I h;have Y:=(bK U (pa_nil (X:=X)) d) N z s K H (λ vs T=>match vs with|[x]=>∃a Z,x=.ref a/\S a T Z/\R (z7<|S a) T|_=>False) I h;refine Wo<|eQ I J L boot_enumerate<|gX (Yw Y λ i s1 F=>?_) d rfl;obtain⟨vs,T,A,E,G⟩:=F
 match vs,G with
 |[x],(a,Z,e,D,q)=>
  subst e;obtain⟨u,rfl,M⟩:=cM E;cases (show u=Ug a from M);obtain⟨⟨P,va,Q⟩,_⟩:=(k (a:=a) (j:=a)).iv rfl A D;refine w Q λ m l C B=>?_;have n:Inv X z K T { s1 with heap:=m }:=A.kept (t':=s1.toks) B;refine WE l (s1.heap.objs.size+1,[s1.heap.objs.size+1,s1.heap.objs.size],_,_,T,on,n,HS k<|tZ _,((_,l),C),λ c g=>?_,q)
  have y:s1.heap.objs.size<=c:=by
   simp only[aD,cX,cO] at g
   rcases g with rfl|rfl<;>lia
  exact A.fpOk y<|A.hok.fresh y
noncomputable abbrev P4(K:FG)(a:TQ):It:=z7 λ H V=>SqT K H a V
def HU(K:FG)(S:TE):TI:=λ W H R=>S W H λ v V=>∃a T,v=.ref a/\SqT K V a T/\R (P4 K a) V
theorem HV{K:FG}:E5 K a j (λ H A=>SqT K H a A) (λ h V=>h.IsTuple a V) (λ i h=>h.IsTupleIter j a i) where
 iv:=λ T I h=>by subst T;exact(let ⟨V,r,p,_⟩:=I.tuple h;(V,r,p),λ m g=>I.tuple_inj g h)
 dr:=λ V W ne=>HP W _ _ ne V
 ob:=λ(o,g,_,d)=>(o,g,λ v y=>by rw[d] at y;cases y)
 kp:=λ q k=>yk q k
 ne:=λ(o,g,c,_)=>(λ z i u N e=>by subst e;rw[N] at g;cases g;simp at c,λ i (F,S,c4,_) e=>by subst e;rw[S] at g;cases g;rw[c4] at c;simp at c)
theorem HW{p V:Pos}(T:Gl X "enumerate")(W:X.mg "enumerate"=TM)(S:PE X e Z)(N:autoParam (Ud [e] X.env=[(TL,eval e X.env)]) Ty._auto_1) :
  PI X (.Tuple Y J U) (.Call (.Name "enumerate" p) [e] [] V) (HU X.K Z) :=
 yn HV (λ q f=>HR q f) T W S N
def nJ(K:FG):List (TQ×TS)->Value->(TS->Prop)->Prop
 |[],_,_=>False
 |(C,V)::r,c,k=>(W.exmOne K c (.ref C)=TJ TK/\k V)\/(W.exmOne K c (.ref C)=TJ TL/\nJ K r c k)
def yp(K:FG)(T:List<|TQ×TS)(D:Ze):St->XK:=λ V c _ S=>nJ K T c λ W=>W D V S
def HX(K:FG)(V:List<|TQ×TS)(S:(St->XK)->TS):TS:=λ D T H=>S (yp K V D) D T H
inductive YU (X:Cx):List UB->List (TQ×TS)->Prop
 |nil:YU X [] []
 |cons {x:Str}{C:TQ}{b₀:Uc}{suite:List Uc}{np hpos:Pos}{ts:TS}{r:List UB}{tr:List (TQ×TS)}(hg:Gl X x) (hn:W.nsIn X.K Ua x=TJ (TJ<|.ref C))
   (hs:∀(a:TQ) (pn:LO),PSs (X.suite a pn) (b₀::suite) ts) (hr:YU X r tr) (hd:(x == ("__debug__" : Str))=TL):YU X (.ExceptHandler (TJ<|.Name x np) TM (b₀::suite) hpos::r)<|(C,ts)::tr
theorem HY{X:Cx}{A:UB}{hl:List UB}{tb:(St->XK)->TS}(N:X.stack=X.env::X.outer/\X.env.frame=TJ X.env.locals)
  (hb:∀(xe:VS) (pn:LO) (EE:St->XK),(∀L,kX (l8 X.prog X.w) (X.more xe pn) (EE L) L)->PSs (X.more xe pn) Z (tb EE)) (hc:YU X (A::hl) C) :
  PS X (.Try Z (A::hl) [] [] pos)<|HX X.K C tb:=by
 intro p s L H D I h;refine WS ?_;generalize hXE:(λ e l=>TU (TX X.prog X.w) X.A (Vk e X.env) (λ _ n=>TU (TX X.prog X.w) X.A (Wy e TM) (λ _ w=>TU (TX X.prog X.w) X.A (Yh e X.env<|A::hl) (SP X p D) X.xe w) X.xe n) X.xe l:VS)=XE;have S:=hb XE (X.pn++p) (yp X.K C D) ?_ [] s L H D (I.toMore) h
 .refine Yw S λ g m q=>?_
  cases g with
  |next=>obtain⟨K,F,J,z⟩:=q;exact oY (K,F,I.ofMore J,z)
  |brk|cont=>obtain⟨K,F,J,z⟩:=q;exact(K,F,I.ofMore J,z)
  |ret u=>obtain⟨v,K,F,J,r,z⟩:=q;exact(v,K,F,I.ofMore J,r,z)
 intro U pins1 H1 s1 e m I1 hx;refine HT λ y T=>?_;obtain⟨a,k,Q,F,B,rfl,os,t,g,inB,thB,un,okB,V⟩:=hx;refine T ?_;clear T y;have V:nJ X.K C (.ref k) λ ts=>ts D U F:=V;subst hXE
 have g:VX B (X.env::X.outer) a (.ref k) Q m.heap:=by
  have z:VX B X.stack a (.ref k) Q m.heap:=g;rw[N.1] at z;exact z
 have hfr:X.A.frames=TJ (X.env::X.outer):=by rw[I.ok.frames,N.1]
 have i:=λ(h2:Ue) (f2:VX B (X.env::X.outer) a (.ref k) Q h2) u2 t2=>(I.ofMore I1).flown os t inB thB un okB f2.1 u2 t2;refine wpAny_looks_onW hfr N.2 g λ h4 o x=>?_;refine wpAny_landsW o λ f d Y=>?_;have b:=i f d (x.trans Y) m.toks;refine HT λ y T=>?_;obtain⟨oe5,ve5,he5,hc5,hd5,_⟩:=d.first;refine T ?_;clear T y
 have LT:Looks (TX X.prog X.w) f (VC<|.ref a)<|.ref k:=hc5 ▸ (Looks.ld he5).andThen .now
 have O:∀(c:List UB) (j:List<|TQ×TS),YU X c j->(nJ X.K j (.ref k) λ ts=>ts D U F)->TU (TX X.prog X.w) X.A (Yh (.ref a) X.env c) (SP X p D) X.xe { m with heap:=f }:=by
  intro c j hcl
  induction hcl with
  |nil=>intro z;exact z.elim
  |cons hg hn hs hr hd ih=>
   intro z;have R:=s2b b.ok.mod.kin b.ok.mod.glob hn;refine s0v (yq ?_) (by intro q;cases q);refine fV (X:=X.suite a<|X.pn++p) (b.toSuite) hg R ?_ hd
   rcases z with ⟨z1,z2⟩|⟨z1,z2⟩
   .refine(W.exm_one (M:=TX X.prog X.w) b.kIn LT z1).here ?_;refine codeAny_handlers_suite ?_;refine lands_againW d λ h6 P up6=>?_;have J6:=i h6 P ((x.trans Y).trans up6) m.toks;refine cj (hs a (X.pn++p) [] _ _ _ D (J6.toSuite) z2) (λ g s9 q=>?_) λ _ _ z=>z.elim
    cases g with
    |next|brk|cont=>obtain⟨σ9,G,E,z⟩:=q;exact(_,G,I.ofSuite E,z)
    |ret u=>obtain⟨v,σ9,G,E,r,z⟩:=q;exact(v,_,G,I.ofSuite E,r,z)
   .refine(W.exm_one (M:=TX X.prog X.w) b.kIn LT z1).here ?_;exact ih z2
 exact O _ _ hc V
def HZ(i j:Int):Prop:=0<j/\j<1606938044258990275541962092341162602522202993782792835301376
def Ia{y:Int}(V:0<y)(S:y<1606938044258990275541962092341162602522202993782792835301376):y.natAbs.log2<9000:=by
 have z:y.natAbs≠0:=by omega
 exact bH ((Nat.log2_lt z).mpr<|show y.natAbs<2 ^ 200 by omega) Cl
def Ib:YL X (UA .FloorDiv)<|rI HZ λ i j=>.int<|i/j:=u4 λ i j _ _ _ _ _ V q=>floordiv_int (by have:=V.1;lia) (by rw[pr i<|by have:=V.1;lia];exact q)<|.inl<|xN<|Ia V.1 V.2
end _L
namespace _H
open PySem PySem.Spec PyProof.Rows _L
theorem whole_tup{s:TR}{lo W:Option Int}{R:VS}(V:VI s.heap t Z)(K:s.heap.IsSliceOf U J L .none)(v:Vq J lo)(j:Vq L W)
  (F:sIx Z.size 0 lo=0) (z:sIx Z.size Z.size W=Z.size) (h:R (.ref t) s):TU (TX Y w) A (Vo (.ref t)<|.ref U) R E s:=by
 obtain⟨os,N,T,y⟩:=id K;have S:s.TypeIs (.ref U) "slice" := (os,N,T);unfold Vo;try with_reducible refine dH ?_
 first|refine ae (aq ?_)|skip
 refine ae<|WG V.typeIs Cl ?_;refine ae<|kR (name:=Uf "__getitem__") V.typeIs pK<|gC pK V.typeIs s0s ?_<|s1h _ _;show TU _ _ (VN (.ref t) >>= _) _ _ s;refine ae<|XQ V ?_;refine ae<|kS S ?_;rw[U0 Cl];refine ae<|xk K v j ?_;show TU _ _ (if (((sIx Z.size 0 lo:Nat):Int) == 0&&(1:Int) == 1&&(sIx Z.size Z.size W-sIx Z.size 0 lo) == Z.size)=TK then _ else _) _ _ s;rw[U0<|by rw[F,z];simp];unfold XA;exact ae<|ae<|kS V.typeIs<|aq<|ae<|s0e<|aq (_,on,aq h)
end _H
namespace _L
open PySem PySem.Spec PyProof.Rows
variable {X:Cx}
def Ic:UU (.type "reversed") "__len__"=Uo TM:=by rw[fH,fJ];kernel_rfl
def Ie:UU (.type "reversed") "__length_hint__"=Uo (TJ<|.builtin "reversed.__length_hint__"):=by rw[fH,fJ];kernel_rfl
theorem Ig{B:Uk}(c:B.handled=TM)(I t:TQ)(T:t≠I)(V:Array Value)(l:(V.size:Int)<2 ^ 63) :
  Walks Z Y B I [I,t] [I] V.size (λ i v=>V[V.size-1-i]?=TJ v) (λ i h=>i<=V.size/\IsRv h I t ((V.size:Int)-1-(i:Int))/\VI h t V) where
 sub:=λ b K=>by simp at K;simp[K]
 frame:=λ _ _ _ st k=>(st.1,let ⟨o,g,r⟩:=st.2.1;(o,k I Cr o g,r),let ⟨o,g,r⟩:=st.2.2;(o,k t Cr o g,r))
 item:=λ i s R y p st f=>by
  obtain⟨_,S,N⟩:=st;have e:(V.size:Int)-1-(i:Int)=((V.size-1-i:Nat):Int):=BT;rw[e] at S;have F:V[V.size-1-i]?=TJ (V[V.size-1-i]' BT):=yg BT;refine xV S N F l λ m A q z=>f _ m A F (p,?_,?_) λ b o W g=>z.extBut b o (by simpa using W) g
  .have j:((V.size-1-i:Nat):Int)-1=(V.size:Int)-1-((i+1:Nat):Int):=by lia
   rw[j] at q;exact q
  .obtain⟨o,g,r⟩:=N;exact(o,z.extBut _ _ T g,r)
 done:=λ s R y st f=>by
  obtain⟨_,S,N⟩:=st;have e:(V.size:Int)-1-(V.size:Int)=-1:=BT;rw[e] at S;exact xW c S λ m A d=>f m A λ b o W g=>d b o (by simpa using W) g
 self:=λ _ _ _ _ st h=>tV st.2.1 h
def Ih(v:Value):bindSpecial (.builtin "reversed.__length_hint__") v=Uo (.builtin "reversed.__length_hint__",[v]):=by
 unfold bindSpecial;rw[show VC (.builtin "reversed.__length_hint__")=Uo (.type "method_descriptor") by show builtinType _=_;rw[builtinType_eq_fast];kernel_rfl];rfl
def Ii:Slot "reversed" "__length_hint__" "reversed.__length_hint__" := .of (owner := "reversed") (n := "__length_hint__") (by rw[fH,fJ];kernel_rfl) (by decide +kernel) (by decide +kernel) (by decide +kernel) (.inr<|by decide +kernel) (by rw[jM];kernel_rfl)
def Ij:Yg table "reversed.__length_hint__"=TJ Builtin.«reversed.__length_hint__»:=WP (by kernel_rfl)
def Ik(a:Value):Wb "reversed.__length_hint__" ([a],[]):=by unfold Wb;kernel_rfl
theorem Il{R:VS}{z:TR}{its:Array Value}(T:IsRv z.heap J t<|(its.size:Int)-1)(A:VI z.heap t its)(N:(its.size:Int)<2 ^ 63)
  (f:∀u W,z.toks<=W->R (.int its.size u) { z with toks:=W }):TU (TX Y U) B (call (.builtin "reversed.__length_hint__") [.ref J]) R Z z:=by
 obtain⟨o,S,K,V⟩:=id T;refine gC Ii T.typeIs Ij ?_<|Ik _;show TU _ _ (Xd (.ref J) 0 >>= _) _ _ z;refine ae<|cV S V (x:=.ref t) rfl ?_;show TU _ _ (if (Ug t == Us)=TK then _ else _) _ _ z;rw[T9<|show ¬((Ug t == Us)=TK) from dz];show TU _ _ (call (.builtin "len") [.ref t] >>= _) _ _ z;refine ae<|s1y A N ?_;refine ae (m:=asInt? _)<|aq ?_;show TU _ _ (Xd (.ref J) 1 >>= _) _ _ _;refine ae<|cV S V (x:=Ur<|(its.size:Int)-1) rfl ?_;show TU _ _ (if (its.size:Int)<(its.size:Int)-1+1 then _ else retInt ((its.size:Int)-1+1)) _ _ _;rw[T9 BT,show(its.size:Int)-1+1=its.size by lia];exact ae<|wpAny_mkInt<|aq (_,on,f _ _<|by show z.toks<=z.toks+1+1+1;lia)
section
variable {U:Array VD->Array VD->Prop}{m:Nat}{Z:Nat->Value->Prop}{Y:Nat->TR->Prop}
def Im{z:TR}{R:Bool->TR->Prop}(d:m<=TW)(T:∀(A:VS) (v:VS),(∀u V,z.toks<=V->A (.int m u) { z with toks:=V })->TU (TX L D) B (call (.builtin "reversed.__length_hint__") [.ref J]) A v z)(t:z.TypeIs (.ref J) "reversed")(f:∀b V,z.toks<=V->R b { z with toks:=V }):TU (TX L D) B (UF<|.ref J) R E z:=by
 unfold UF;refine ae<|iV t Ic ?_;show TU _ B (specialOf (Ug J) (Uf "__length_hint__") >>= _) _ _ _;refine ae<|iV t Ie ?_
 (generalize S:("reversed.__length_hint__" : String)=N;wp_delta;rw[show splitId N=TJ ("reversed","__length_hint__") from by subst S;decide +kernel];subst S)
 refine ae<|pR (b:=TK) t (by rw[jM];kernel_rfl) ?_;rw[T9 Cl];dsimp only;rw[T9<|by decide +kernel];refine ae<|s0e ?_;refine ae<|fG (Ih _) ?_;dsimp only;refine ae<|jL<|T _ _ λ u V W=>?_;have j:=pU;have K:UR (m:Int)=TK:=by simp[UR];lia
 have y:UC (m:Int).toNat=TL:=by simp[UC];lia
 generalize g:(m:Int)=F at K y ⊢;show TU _ B (asInt? (.int F u) >>= _) _ _ _;refine ae (m:=asInt?<|.int F u)<|aq ?_;dsimp only;rw[T9<|by rw[K];decide];try dsimp only
 rw[T9 BT];try dsimp only
 rw[T9<|by rw[y];decide];exact aq<|f _ _ W
end
def Io(K:FG)(T:TE):TE:=λ W H Q=>T W H λ x V=>∃a S,x=.ref a/\SqT K V a S/\∀p,V p=TM->Q (.ref p) (Yu V p<|.tup S.reverse)
theorem Ip{P p2 d S:Pos}(J:X.calm=TK)(E:Gl X "tuple")(G:Gl X "reversed")(mt:X.mg "tuple"=TM)(R:X.mg "reversed"=TM)(L:PE X e te)(n:autoParam (Ud [e] X.env=[(TL,eval e X.env)]) Ty._auto_1) :
  PE X (.Call (.Name "tuple" P) [.Call (.Name "reversed" p2) [e] [] S] [] d)<|Io X.K te:=by
 intro i s Y H Q I h;refine Wo<|eQ I E mt boot_tuple<|gX ?_ rfl rfl;refine sP ?_;have U:=(bK L (pa_nil (X:=X)) n) S i s Y H (λ vs W=>match vs with|[x]=>∃a k,x=.ref a/\SqT X.K W a k/\∀p,W p=TM->Q (.ref p) (Yu W p<|.tup k.reverse)|_=>False) I h;refine Wo<|eQ I G R s1k<|gX (Yw U λ us s1 F=>?_) n rfl;obtain⟨vs,W,K,r1,q1⟩:=F
 match vs,q1 with
 |[x],(a,k,e,D,q)=>
  subst e;obtain⟨u,rfl,ru⟩:=cM r1;cases (show u=Ug a from ru);obtain⟨V,Z,v,M⟩:=K.tuple D;have hl:=Z.length;have z63:=pU;refine xU v (by simp;lia) λ A=>?_;refine sO ?_;have I2:Inv X i Y W { s1 with heap:=s1.heap.push (ij a<|(V.toArray.size:Int)-1),toks:=A }:=K.kept (t':=A) λ b o e=>aJ _ e;have t:a<s1.heap.objs.size:=by obtain⟨o,T,_⟩:=v;exact aF T
  have y:a≠s1.heap.objs.size:=bf t
  have w:IsRv (s1.heap.push<|ij a<|(V.toArray.size:Int)-1) s1.heap.objs.size a<|(V.toArray.size:Int)-1-((0:Nat):Int):=by
   refine(_,bJ _ rfl,on,?_);have e:(V.toArray.size:Int)-1-((0:Nat):Int)=(V.toArray.size:Int)-1:=BT;rw[e];rfl
  have sz:(s1.heap.push<|ij a<|(V.toArray.size:Int)-1).objs.size=s1.heap.objs.size+1:=by simp[Yp]
  have c:V.toArray.size<=TW:=by simp only[aY];lia
  refine xY Cl (let ⟨o,T,N,_⟩:=w;(o,T,N):Shared.TypeIs { s1 with heap:=s1.heap.push (ij a<|(V.toArray.size:Int) - 1),toks:=A } (.ref s1.heap.objs.size) "reversed") c (λ _ _ f=>xX (m:=V.toArray.size) (Sx:=_) Cl Cl (λ z _ _ q f=>Im (m:=V.toArray.size) c (λ R' E' f=>Il (its:=V.toArray) (by have:=q.2.1;rw[show(V.toArray.size:Int) - 1 - ((0:Nat):Int)=(V.toArray.size:Int) - 1 by lia] at this;exact this) q.2.2 (by simp;lia) f) (let ⟨o,T,N,_⟩:=q.2.1;(o,T,N)) f) (Ig (B:=X.A.in1.in1.in1) (I.ok.hd J) s1.heap.objs.size a y V.toArray<|by simp;lia).toS (λ j z q=>let ⟨o,T,N,_⟩:=q.2.1;(o,T,N))
   (cn _,w,let ⟨o,g,r⟩:=v;(o,aJ _ g,r)) (λ b l=>?_) (bn ..) c f) λ z' ac C O=>?_
  .show b<(s1.heap.push<|ij a<|(V.toArray.size:Int)-1).objs.size;rw[sz];simp only[aD,cX,cO] at l
   rcases l with rfl|rfl
   .exact ig _
   .exact eV t
  exact xZ (tk:=A) K Z (by simpa using M) C O q
noncomputable abbrev yr(K:FG)(a:TQ):It:=z7 λ H V=>SqL K H a V
def Iq(K:FG)(S:TE):TI:=λ W H R=>S W H λ v V=>∃a T,v=.ref a/\SqL K V a T/\R (yr K a) V
theorem Ir{K:FG}:E5 K a j (λ H A=>SqL K H a A) (λ h V=>h.IsList a V) (λ i h=>h.IsListIter j a i) where
 iv:=λ T I h=>by subst T;exact(let ⟨V,r,p,_⟩:=I.list h;(V,r,p.isList),λ m g=>I.list_inj g h)
 dr:=λ V W ne=>Draws.list W _ _ ne V
 ob:=λ(o,g,_,d)=>(o,g,λ v y=>by rw[d] at y;cases y)
 kp:=λ q k=>q.at k
 ne:=λ(o,g,c,_)=>(λ z i u N e=>by subst e;rw[N] at g;cases g;simp at c,λ i (F,S,c4,_) e=>by subst e;rw[S] at g;cases g;rw[c4] at c;simp at c)
theorem Iu{p V:Pos}(T:Gl X "enumerate")(W:X.mg "enumerate"=TM)(S:PE X e Z)(N:autoParam (Ud [e] X.env=[(TL,eval e X.env)]) Ty._auto_1) :
  PI X (.Tuple Y J U) (.Call (.Name "enumerate" p) [e] [] V) (Iq X.K Z) :=
 yn Ir (λ q f=>call_enumerate_list q λ m K F _ A=>f m K F A) T W S N
section
variable {Z:Expr}
end
def Iv(K:FG):R2:=λ x y H Q=>∃l b V S,x=.ref l/\y=.ref b/\SqL K H l V/\SqL K H b S/\V.length+S.length<=TW/\∀p,H p=TM->Q (.ref p) (Yu H p<|.lst<|V++S)
def Iw:YL X (UA .Add)<|Iv X.K:=by
 intro t s E H x y v u Q I p i h;refine HT λ T V=>?_;obtain⟨l,b,L,G,rfl,rfl,k,c,U,q⟩:=h;refine V ?_;clear V T;cases p;cases i;refine HT λ T V=>?_;obtain⟨W,r,⟨⟨c1,Z,D,l1⟩,n,e,j,g,d⟩,_⟩:=I.list k;obtain⟨S,r2,⟨⟨c2,Y,B,J⟩,m,z,N,A,K⟩,_⟩:=I.list c;refine V ?_;clear V T;simp only at j g d N A K;subst j g d N A K;have w:=r.length;have a:=r2.length;have o:W.toArray++S.toArray=(W++S).toArray:=Cr;refine pJ (_,e,on) (_,z,on) noFill_list_add seq_list_add F.slot_list_add F.entry_list_add (F.args_list_add_2 _ _) (list_addW l b W.toArray S.toArray n m _ _ _ _<|by rw[aY,aY];lia) (e,z,?_);rw[o];exact(.ref _,_,I.lnew (t':=s.toks) (r.append r2) (by rw[aQ];lia),on,q _ I.fresh)
section
variable {Z:Uh}{U:Ui}{B:Uk}{Y:VS}{V:TR}
end
section
variable {U:List Expr}{Z:Nat}{Y:Pos}
end
end _L
namespace _L
open PySem PySem.Spec PyProof.Rows PySem.W PySem.Calls
def Ix(i j:Int):Prop:=Wp i j
def Iy:YL X (UA .Mult)<|rI Ix λ i j=>.int<|i*j:=u4 λ _ _ _ _ _ _ _ V q=>mul_int q V
section
variable {s:TR}
theorem yt{l:TQ}{T:String}{vs:LV}{Q:VS}(d:T="list" \/ T="tuple")(p:s.heap.get? l=TJ o)(c:o.cls=.type T)(k:o.data=.seq vs.toArray n)(g:Vu vs Y)(y:vs.length<64)
  (h:∀(S z:Ue) (F:LV) (V:Yr) (e:Nat),(∀b u,s.heap.get? b=TJ u->S.get? b=TJ u)->(∀b u,S.get? b=TJ u->z.get? b=TJ u)->z.get? S.objs.size=TJ (Yk "list" F.toArray e)->Vu F V->V.Perm Y->V.Pairwise (·<=·)->Q (.ref S.objs.size) { s with heap:=z }) :
  TU (TX Z w) A (call (.builtin "sorted") [.ref l]) Q E s:=by
 refine Calls.call_function_entry kind_sorted plain_sorted entry_sorted (args_sorted1 _) ?_;unfold Builtin.«sorted»;refine ae (m:=checkCount "sorted" 1 1 _)<|aq ?_;refine ae (wpAny_collect_seq l d p c k (λ S k1=>?_)<|by simp only[aY];exact fj<|aN BT);rw[show vs.toArray.toList=vs by simp];refine ae<|wpAny_newList ?_;have W:(S.push<|Yk "list" vs.toArray 0).get? S.objs.size=TJ (Yk "list" vs.toArray 0):=bJ _ rfl;refine ae<|dH<|gC slot_list_sort (_,W,on) entry_list_sort (list_sort_tree W g y λ K V v j a3=>(_,on,?_))<|args_list_sort _;refine aq (_,on,?_);obtain⟨e,r⟩:=sortedHeap_at (vs:=vs) (out:=K) W;refine h S _ K.toList V e k1 (λ b u q=>?_) (by rw[s0k];exact r) v j a3;have N:=aF q;rw[sortedHeap_old (bf N)<|by rw[size_push'];exact eV N];exact aJ _ q
end
theorem yv:∀ {T:List V}{S:LV},T.length=S.length->(∀(i:Nat) u,S[i]?=TJ u->∃x,T[i]?=TJ x/\RelV x u)->Vals T S
 |[],[],_,_=>.nil
 |[],_::_,h,_=>by simp at h
 |_::_,[],h,_=>by simp at h
 |x::T,u::S,h,f=>by
  obtain⟨y,e,r⟩:=f 0 u rfl;cases (bS e);exact .cons r<|yv (by simpa using h) λ i v e=>f (i+1) v e
variable {X:Cx}
def Iz:bY X (.builtin "sorted") (λ U H Q=>∃p Z,U=[.ref p]/\(SqL X.K H p (UL V.int Z)\/SqT X.K H p (UL V.int Z))/\Z.length<64/\∀S:Yr,S.Perm Z->S.Pairwise (·<=·)->∀l,H l=TM->Q (.ref l) (Yu H l<|.lst<|S.map V.int)):=by
 intro j s x H U G Q I r h;refine HT λ W T=>?_;obtain⟨p,Z,rfl,v,z,q⟩:=h;obtain⟨u,rfl,B⟩:=cM r;refine T ?_;clear T W;cases B
 have K:∀(A F:Ue) (N:LV) (S:Yr) (e:Nat),(∀b u,s.heap.get? b=TJ u->A.get? b=TJ u)->(∀b u,A.get? b=TJ u->F.get? b=TJ u)->F.get? A.objs.size=TJ (Yk "list" N.toArray e)->Vu N S->S.Perm Z->S.Pairwise (·<=·)->EP X j x Q (.ref A.objs.size) { s with heap:=F }:=by
  intro A F N S e k1 D g L Y a3;have a:Inv X j x H { s with heap:=A }:=I.kept (t':=s.toks) k1;have m:(S.map V.int).length<=TW:=by rw[af,Y.length_eq];exact fj<|aN BT
  have J:Inv X j x (Yu H A.objs.size<|.lst<|S.map V.int) { s with heap:=F }:=a.laid (t':=s.toks) D (ax _) (show ObjOk X.prog X.w _ _ _ (.lst<|S.map V.int) from (m,N,e,tK L,g));exact(.ref A.objs.size,_,J,on,q S Y a3 _<|a.hok.fresh<|ax _)
 rcases v with v|v
 .obtain⟨i,w,t,m⟩:=I.list v;have y:=mW w;refine HT λ W T=>?_;obtain⟨o,k,d,n,c⟩:=t.isList;refine T ?_;clear T W;exact yt (.inl rfl) k d c y (by rw[y.length];exact z) K
 .obtain⟨i,w,t,m⟩:=I.tuple v;have y:=mW w;refine HT λ W T=>?_;obtain⟨o,k,d,n,c⟩:=t;refine T ?_;clear T W;exact yt (.inr rfl) k d c y (by rw[y.length];exact z) K
def IA:bY X (.type "range") λ xs H Q=>∃j:Int,xs=[.int j]/\∀r,H r=TM->Q (.ref r) (Yu H r<|.rng 0 j):=by
 intro Yq s σ H xs us Q I r h;refine HT λ Gzz gzz=>?_;obtain⟨j,rfl,q⟩:=h;obtain⟨u,rfl,t,rfl⟩:=cM r;refine gzz ?_;clear gzz Gzz;refine call_range_1 (.ref s.heap.objs.size,_,I.laid (λ b o e=>aJ _ e) (ax _) ?_,on,q _<|I.hok.fresh<|ax _);exact(_,_,_,bJ _ rfl)
noncomputable def YN(n:Nat):Yr:=(Ub n).map λ(i:Nat)=>(i:Int)
def IB(y:X.calm=TK):bY X (.type "list") λ K H Q=>∃p n,K=[.ref p]/\H p=TJ (.rng 0<|We n)/\n<=1000/\∀l,H l=TM->Q (.ref l) (Yu H l<|.lst<|(YN n).map V.int):=by
 intro a s J H K U Q I r h;refine HT λ W T=>?_;obtain⟨p,n,rfl,o,d,q⟩:=h;obtain⟨u,rfl,w⟩:=cM r;refine T ?_;clear T W;cases w;obtain⟨t,u,v,e⟩:=I.hok p _ o
 have c:UK 0 (We n) 1=TK:=by
  have z:∀m:Fin 1001,UK 0 (We m.val) 1=TK:=by decide +kernel
  exact z (n,BT)
 have N:Ul 0 (We n) 1=n:=by
  unfold Ul;rw[U0 Cl];split
  .show(We n-0-1)/1+1=_;simp; 
  .simp at *;lia
 refine call_list_range (I.ok.hd y) e c N BT λ Z Y S F k g A=>?_
 have b:Vals ((YN n).map V.int) S.toList:=by
  refine yv (by simp[YN,A.1]) λ i v e=>?_;rw[tH] at e;obtain⟨x,rfl⟩:=A.2 i v e;have j:i<n:=by rw[<- A.1];exact(nG.mp e).1
  exact(.int i,by simp[YN,j],x,Cr)
 exact(.ref s.heap.objs.size,_,I.laid k (ax _) (show ObjOk X.prog X.w _ _ _ (.lst _) from (by simp[YN];exact fj<|aN d,S.toList,F,b,by rw[s0k];exact g)),on,q _<|I.hok.fresh<|ax _)
def IC:B5 X "list.pop" pM:=Gw
def ID:V->Option Int->Option Int->Hp->VK->Prop:=λ x lo S H Q=>∃z,x=.str z/\z.length<=4000000/\Q (.str<|Txt.slice z lo S) H
def IE:B4 X ID:=by
 intro m s a H x v n w lo b e Q I g A y j h;refine HT λ S V=>?_;obtain⟨z,rfl,r,q⟩:=h;obtain⟨t,rfl⟩:=g;refine V ?_;clear V S;have d:4000000<=TW:=by rw[iO];decide
 have part:∀ {u:Value}{o:Option Int},Vq u o->∃l,u=partValue l/\o=l.map λ p:Int×Tok=>p.1:=λ p=>by
  cases p with
  |none=>exact(TM,rfl,rfl)
  |int i t=>exact(TJ (i,t),rfl,rfl)
 refine HT λ S V=>?_;obtain⟨l,rfl,rfl⟩:=part y;obtain⟨u,rfl,rfl⟩:=part j;obtain⟨o,N,T,W⟩:=A;refine V ?_;clear V S;refine("str",_,F.slot_str_getitem.lookup,Xh _ _ _,wpAny_getItem_str_slice (l:=l) (u:=u) (st:=TM) (o,N,T,W) rfl ?_);have K:=Txt.slice_le z (l.map λ p:Int×Tok=>p.1)<|u.map λ p:Int×Tok=>p.1;exact post_val_or_str (cw K BT,λ c k=>(.str _,H,I.tok k,(c,on),q))
theorem yw:∀ {S:List Bool}{T:LV},Vals (S.map V.bl) T->T=S.map UW
 |[],_,.nil=>rfl
 |b::S,_,.cons r t=>by
  cases (show _=UW b from r);rw[yw t];rfl
def IF(j:X.calm=TK):bY X (.builtin "any") λ z H Q=>∃(a:TQ) (Z:List Bool),z=[.ref a]/\SqL X.K H a (Z.map V.bl)/\Q (.bl<|Z.any id) H:=by
 intro n s J H z U Q I r h;refine HT λ W T=>?_;obtain⟨a,Z,rfl,d,q⟩:=h;obtain⟨u,rfl,k⟩:=cM r;refine T ?_;clear T W;cases (show u=Ug a from k);obtain⟨o,m,c,x⟩:=I.list d;have N:=c.isList;have K:a<s.heap.objs.size:=by obtain⟨_,e,_⟩:=N;exact aF e
 have y:=yw m;subst y;refine call_any_walk<|WF N ?_
 refine(s.heap.objs.size,[s.heap.objs.size,a],[s.heap.objs.size],(Z.map UW).toArray.size,_,_,λ i=>(Z[i]?).getD TL,on,Walks.list (A:=X.A.in1) (I.ok.hd j) _ a (bf K) (Z.map UW).toArray,
  ((_,bJ _ rfl,rfl,rfl),N.push _),λ i v Y l t S F=>?_,λ w p g=>?_)
 .have S:(Z.map UW)[i]?=TJ v:=by simpa using S
  rw[bc] at S
  cases e:Z[i]? with
  |none=>rw[e] at S;cases S
  |some b=>
   rw[e] at S;cases S;simp only[e,Option.getD_some] at F;exact gz F
 .have e:((Ub (Z.map UW).toArray.size).any λ i=>(Z[i]?).getD TL)=Z.any id:=by
   rw[aY,af];exact LSm.range_any Z
  rw[e];exact(.bl _,H,I.kept (t':=p)<|LSm.kept_iter g,on,q)
section
variable {Z:Type} [DecidableEq Z]
end
section
variable {P:Uh}{w:Ui}{H:Hp}{h:Ue}{a:TQ}
end
section
variable {Z:LO}{Y:St}{H:Hp}{s:TR}{a:TQ}{y v:V}{u r:Value}{o:Option V}{A:Uk}{E:VS}
end
section
variable {Y:LO}{U:St}{H:Hp}{s:TR}{a:TQ}{Z:List (YZ×V)}{k:YZ}{u:Value}{A:Uk}{E:VS}
end
def yz(i:Expr):Prop:=∀S V,Wk i TL S V=operate [S,V] (Vo S V)
theorem IG{T id:String}
  (v:UU (.type T) "__getitem__"=Uo (TJ<|.builtin id)) (j:yz Y)
  (h:TU (TX Z w) A (eval U J) (λ o W=>TU (TX Z w) A (eval Y J) (λ i V=>V.TypeIs o T/\TU (TX Z w) A (Vo o i) Q E V) E W) E s) :
  TU (TX Z w) A (eval (.Subscript U Y L) J) Q E s:=by
 refine Xa<|cj h (λ o W F=>cj F (λ i V S=>?_) λ _ _ x=>x) λ _ _ x=>x;obtain⟨y,S⟩:=S;unfold VQ;refine ae ?_;rw[getitemInPython_of_ne y.not_modules];refine ae<|iV y v ?_
 have K:TU (TX Z w) A (Wk Y TL o i) (λ r N=>TU (TX Z w) A (letTemporaryGo U o r >>= λ _=>Uo r) Q E N) E V:=by
  rw[j o i];exact wpAny_operating<|cj S (λ r N z=>ae<|wpAny_letTemporaryGo<|aq z) λ _ _ x=>x
 first
  |exact aq<|ae K
  |exact ae<|aq<|ae K
  |exact ae K
section
variable {o i e Z:Expr}{V U Y:Pos}{J D L:TE}
end
section
variable {Z:Pos}
end
section
variable {Z:LO}{Y:St}{H:Hp}{s:TR}{a:TQ}{y d:V}{u r:Value}{o:Option V}{A:Uk}{E:VS}
end
section
variable {o e f:Expr}{Z Y:Pos}{V J U:TE}
end
section
variable {Y:LO}{U:St}{H:Hp}{s:TR}{a:TQ}{Z:List (YZ×V)}{A:Uk}{E:VS}
end
section
variable {Z:LO}{Y:St}{H:Hp}{s:TR}{a:TQ}{y:V}{u:Value}{A:Uk}{E:VS}
end
section
variable {Z:Type} [DecidableEq Z]
end
def KTab(P:Uh)(w:Ui)(K:FG)(d:TQ)(V:LA):Prop:=(d == VT)=TL/\∀h:Ue,K.In h->h.DictOf (rV P w) d (V.map λ p=>((UI p.1:YZ),Ug p.2))
noncomputable def yA(V:Params)(l:List<|Str×Tok×TQ):List DictEntry:=l.map λ p=>(PyData.keyHash V p.1,.str p.1 p.2.1,.ref p.2.2)
theorem KTab.mk{w:Ui}{K:FG}{d:TQ}(A:(d == VT)=TL)(T:K.lookup d=TJ { cls:=.type "dict",data:=.dict Z n })(S:Z.toList=yA w.params l)(W:(l.map (·.1)).Nodup) :
  KTab P w K d<|l.map λ p=>(p.1,p.2.2):=by
 refine(A,λ h N=>(_,Z,n,N d _ T,(on,on,on),on,?_,?_,?_))
 .intro e V;have V:e∈Z.toList:=s0g.mpr V;rw[S] at V;obtain⟨p,_,rfl⟩:=bg.mp V;exact(UI p.1,rQ p.1 p.2.1,on)
 .rw[S];clear S W T
  induction l with
  |nil=>exact .nil
  |cons p r F=>exact .cons (rQ p.1 p.2.1) rfl F
 .rw[bV,bV];have e:((λ x:YZ×Value=>x.1) ∘ (λ p:Str×TQ=>((UI p.1:YZ),Ug p.2))) ∘ (λ p:Str×Tok×TQ=>(p.1,p.2.2))=(λ x:Str=>(UI x:YZ)) ∘ λ p=>p.1:=rfl;rw[<- bV] at *
  have z:(l.map λ p=>(UI p.1:YZ)).Nodup:=by
   have:(l.map λ p=>(UI p.1:YZ))=(l.map (·.1)).map (λ x:Str=>(UI x:YZ)):=by rw[bV];rfl
   rw[this];exact List.Pairwise.map _ (λ a b (h:a≠b) z=>h<|s1w z) W
  simpa [bV,Function.comp_def] using z
def IH{V:LA}:valueAt (V.map λ p=>((UI p.1:YZ),Ug p.2)) (UI x)=(V.lookup x).map Ug:=by
 induction V with
 |nil=>rfl
 |cons p r W=>
  obtain⟨k,a⟩:=p;unfold valueAt at *;rw[cB,List.find?_cons,dM];by_cases e:x=k
  .subst e;simp
  .have S:decide ((UI k:YZ)=UI x)=TL:=bA λ z=>e (s1w z).symm;have T:(x == k)=TL:=mK.mpr e;rw[T];simp only[S];exact W
def II(S:LA):V->Hp->VK->Prop:=λ y H Q=>∃x a,y=.str x/\S.lookup x=TJ a/\Q (.ref a) H
def IJ(V:LA)(T:TE):TE:=λ W H Q=>T W H λ y S=>II V y S Q
theorem IL(g:Gl X n)(c:X.mg n=TJ (.ref d))(T:KTab X.prog X.w X.K d Z)(o:PE X i U)(k:yz i)(N:autoParam ((n == ("__debug__" : Str))=TL) Cl._auto_1) :
  PE X (.Subscript (.Name n J) i Y)<|IJ Z U:=by
 intro z s r H Q I h;refine IG PySem.F.slot_dict_getitem.lookup k<|fV I g c (Yw (o z s r H _ I h) λ p b W=>?_) N;refine HT λ S V=>?_;obtain⟨y,F,A,m,x,a,j,l,q⟩:=W;refine V ?_;clear V S;subst j;obtain⟨t,rfl⟩:=m;have K:=T.2 b.heap A.kIn;refine(K.typeIs,wpAny_getItem_of (rQ x t) K.mapOf (v:=.ref a) (by rw[IH,l];rfl) (.ref a,F,A.tok _,on,q))
section
variable {Z:Uh}{U:Ui}{B:Uk}{Y:VS}{V:TR}
end
section
variable {U:List Expr}{Z:Nat}{Y:Pos}
end
section
variable {P:Uh}{w:Ui}{K:FG}{Y:SV}{Z:Ue}
end
section
variable {U:Zq}{k:Nat}{D:List Str}{Y:List V}{J:Sp}{E:XK}{x:Str}{p Z:Pos}{e:Expr}{L:List Expr}{t:TA}
end
section
open PySem.Builtin PySem.Builtin.Str
end
section
variable {Z:Uh}{U:Ui}{B:Uk}{Y:VS}{L:TR}{J d:TQ}{m:Nat}{D:Nat->Value->Prop}{V:Ue->Prop}
end
section
variable {Z:Uh}{U:Ui}{B:Uk}{Y:VS}{V:TR}
end
def IM(r:Vals Y Z){j:Nat}(h:j<Z.toArray.size):∃z,Y[j]?=TJ z/\RelV z Z.toArray[j]:=by
 have l:=r.length;have k:j<Y.length:=by rw[l];simpa using h
 obtain⟨u,V,S⟩:=r.get<|aZ k
 have e:Z.toArray[j]=u:=by
  have z:Z[j]?=TJ (Z[j]'(by simpa using h)):=aZ _;rw[z] at V;simpa using V
 exact(_,aZ k,by rw[e];exact S)
section
variable {Z:LO}{Y:St}{H:Hp}{s:TR}
end
def IN(K:FG)(T:TE):TI:=λ W H R=>T W H λ x V=>(∃a,x=.ref a/\(∃S,SqL K V a S)/\R (G9 K a) V)\/(∃a,x=.ref a/\(∃S,SqT K V a S)/\R (I9 K a) V)
def IP(j:PE X l Z):PI X Y l<|IN X.K Z:=by
 intro y s m H R I h;refine Yw (j y s m H _ I h) λ v s1 N=>?_;refine HT λ W S=>?_;obtain⟨x,F,V,z,d⟩:=N;refine S ?_;clear S W
 rcases d with ⟨a,e,⟨k,K⟩,q⟩|⟨a,e,⟨k,K⟩,q⟩
 .subst e;cases z;obtain⟨T,c,p,g⟩:=V.list K;refine WF p.isList ?_;refine(s1.heap.objs.size,[s1.heap.objs.size],_,_,F,on,V.kept (t':=s1.toks) λ b o e=>aJ _ e,EH a _,(_,bJ _ rfl,on,on),λ b A=>?_,q);have e:b=s1.heap.objs.size:=by simpa using A
  subst e;exact V.fpOk (ax _)<|V.hok.fresh<|ax _
 .subst e;cases z;obtain⟨T,c,p,g⟩:=V.tuple K;refine pX (show s1.heap.IsTuple a T.toArray from p) ?_;refine(s1.heap.objs.size,[s1.heap.objs.size],_,_,F,on,V.kept (t':=s1.toks) λ b o e=>aJ _ e,EI a _,(_,bJ _ rfl,on,on),λ b A=>?_,q);have e:b=s1.heap.objs.size:=by simpa using A
  subst e;exact V.fpOk (ax _)<|V.hok.fresh<|ax _
section
variable {Z:Expr}
end
theorem nK:∀(S:List<|Str×Uj) (n:Nat) (V:LA),Um n S V=Um n S []++V
 |[],_,_=>rfl
 |(x,k)::r,n,V=>by
  unfold Um;split
  .rw[nK r (n+1)<|(x,n)::V,nK r (n+1) [(x,n)],jJ];rfl
  .exact nK r n V
theorem ip{V:Type}:∀ {a b:List (Str×V)}{x:Str},(a++b).lookup x=match a.lookup x with|some c=>TJ c|none=>b.lookup x
 |[],_,_=>rfl
 |(y,c)::a,b,x=>by
  rw[pY,dM,dM]
  cases x == y with
  |true=>rfl
  |false=>exact ip
theorem yB{T:Type}{y:Str}:∀ {V:List (Str×T)}{q:Str×T},q∈V->q.1=y->(V.lookup y).isSome=TK
 |a::r,q,W,e=>by
  rw[dM]
  cases S:y == a.1 with
  |true=>rfl
  |false=>
   rcases aD.mp W with z|z
   .rw[<- z,e,lj] at S;cases S
   .exact yB z e
theorem yC{T:Type}:∀ {V:List (Str×T)}{q:Str×T},(V.map (·.1)).Nodup->q∈V->V.lookup q.1=TJ q.2
 |a::r,q,S,W=>by
  rw[dM]
  rcases aD.mp W with z|z
  .rw[<- z,lj]
  .have N:=(gB.mp S).1
   have:(q.1 == a.1)=TL:=by
    cases A:q.1 == a.1 with
    |false=>rfl
    |true=>exact U1 (bg.mpr (q,z,iR A)) N
   rw[this];exact yC (gB.mp S).2 z
theorem pZ{x:Str}:∀ {V:List (Str×Uj)}{n:Nat},(∀y∈V,y.2=.cell->y.1≠x)->(Um n V []).lookup x=TM
 |[],_,_=>rfl
 |(y,k)::r,n,h=>by
  unfold Um;split
  .rename_i T;rw[nK,ip,pZ λ z S=>h z<|bz _ S];have W:y≠x:=h (y,k) bn<|iR T;show Uz x [(y,n)]=TM;rw[dM]
   have:(x == y)=TL:=by
    cases q:x == y with
    |false=>rfl
    |true=>exact U1 (iR q).symm W
   rw[this];rfl
  .exact pZ λ z S=>h z<|bz _ S
section
variable {s₀ s:TR}{m:SV}{env:Env}{cs:LA}
theorem IQ{v:Value}{Q:Unit->TR->Prop}(x:Vt s₀ env.locals m cs Z s)(F:env.scope.kind=.function)(z:env.kindOf n=TJ .local)
  (h:∀N,Vt s₀ env.locals (λ y=>if y=n then TJ v else m y) cs Z N->Q () N):TU M A (Wi env n v) Q E s:=by
 refine wt z x.toInCall.ns (λ K S V=>h _ ((?_,S,λ b o e=>?_,x.toInCall.fresh),λ k c T=>?_,x.apart,x.above)) (by rw[F];rfl)
 .obtain⟨W,j,rfl⟩:=x.toInCall.same;exact(K,_,on)
 .exact V.extBut b o (bf<|bH (aF e) x.toInCall.fresh)<|x.toInCall.keep b o e
 .exact(x.cell k c T).sameBut V<|kM<|x.above k c<|dX T
theorem IR{v:Value}{Q:Unit->TR->Prop}(x:Vt s₀ env.locals m cs Z s)(r:env.scope.kind=.function)(p:env.kindOf n=TJ .cell)
  (N:cs.lookup n=TJ c) (d:env.cells.lookup n=TJ c)
  (h:∀z,Vt s₀ env.locals m cs (λ y=>if y=n then TJ v else Z y) z->Q () z):TU M A (Wi env n v) Q E s:=by
 have W:=x.above n c<|dX N;refine s0f r p d (x.cell n c N) λ g K T=>h _ ((?_,x.toInCall.ns.sameBut T<|bf W,λ b o e=>?_,x.toInCall.fresh),λ k j V=>?_,x.apart,x.above)
 .obtain⟨F,i,rfl⟩:=x.toInCall.same;exact(g,_,on)
 .exact T.extBut b o (bf<|Nat.lt_trans (bH (aF e) x.toInCall.fresh) W)<|x.toInCall.keep b o e
 .by_cases S:k=n
  .subst S;rw[N] at V;cases V;simpa using K
  .rw[T9 S];exact(x.cell k j V).sameBut T λ e=>S<|pG x.apart (dX V)<|e ▸ dX N
theorem ua(f:Str×Value->PUnit->Sem (ForInStep PUnit))(d:∀n v u,f (n,v) u=(do Wi env n v;Uo (.yield ⟨⟩)))(g:env.scope.kind=.function)(S:∀n c,cs.lookup n=TJ c->env.cells.lookup n=TJ c) :
  ∀(V:List<|Str×Value) (m z:SV) (s:TR) (Q:PUnit->TR->Prop),Vt s₀ env.locals m cs z s ->
   (∀x∈V,env.kindOf x.1=TJ .local\/(env.kindOf x.1=TJ .cell/\(cs.lookup x.1).isSome=TK)) ->
   (∀K,Vt s₀ env.locals (Vs env.kindOf V m) cs (Vr env.kindOf V z) K->Q ⟨⟩ K)->TU M A (forIn V ⟨⟩ f) Q E s
 |[],m,z,s,Q,x,_,h=>by rw[List.forIn_nil];exact aq<|h s x
 |(n,v)::r,m,z,s,Q,x,k,h=>by
  rw[nL,d];have b:∀y∈r,env.kindOf y.1=TJ .local\/(env.kindOf y.1=TJ .cell/\(cs.lookup y.1).isSome=TK):=λ y p=>k y<|bz _ p
  rcases k (n,v) bn with N|⟨N,j⟩
  .refine ae<|ae<|IQ x g N λ K o=>aq<|ua f d g S r _ _ K Q o b λ T W=>h T ?_;unfold Vs Vr;rw[U0 N,U0 N];exact W
  .obtain⟨c,j⟩:=iQ.mp j;have F:¬env.kindOf n=TJ .local:=by rw[N];decide
   refine ae<|ae<|IR x g N j (S n c j) λ K o=>aq<|ua f d g S r _ _ K Q o b λ T W=>h T ?_;unfold Vs Vr;rw[T9 F,T9 F];exact W
end
section
variable {s:TR}
theorem IS{V:Scope}{T:TQ}{N:LA}{S:List (Str×Value)}{code:Value}{Q:Env->TR->Prop}
  (r:V.kind=.function)
  (k:∀x∈S,V.names.lookup x.1=TJ .local\/(V.names.lookup x.1=TJ .cell/\((Um (s.heap.objs.size+1) V.names []).lookup x.1).isSome=TK))
  (m:∀W,W=newEnv V s.heap.objs.size T (Um (s.heap.objs.size+1) V.names []++N) U Y code TM Z ->
   ∀z,Vt s W.locals (Vs W.kindOf S λ _=>TM) (Um (s.heap.objs.size+1) V.names []) (Vr W.kindOf S λ _=>TM) z->Q W z) :
  TU M A (Xr V T N S U Y code TM Z) Q E s:=by
 simp only[Xr,Option.isSome_none,nM,u3];refine ae<|wpAny_alloc ?_;refine ae<|wpAny_layCells _ (λ d K y=>by cases j:K == XD<;>simp[j]) _ _ _ _ ?_;have F:=cellsFrom_ok V.names (s.heap.push { cls:=.type "frame",data:=.dict #[] }) (s.heap.objs.size+1) [] (λ _ _ g=>(nomatch g),List.Pairwise.nil) (by rw[jK];exact ax _);rw[jK] at F;rw[show({ s with heap:=s.heap.push { cls:=.type "frame",data:=.dict #[] } }:TR).heap.objs.size=s.heap.objs.size+1 from jK ..];rw[nK V.names (s.heap.objs.size+1) N]
 refine ae (ua (s₀:=s) (cs:=Um (s.heap.objs.size+1) V.names []) (env:=newEnv V s.heap.objs.size T (Um (s.heap.objs.size+1) V.names []++N) U Y code TM Z)
  _ (λ _ _ _=>rfl) r (λ n c v=>by show Uz n (Um (s.heap.objs.size+1) V.names []++N)=TJ c;rw[ip,v]) S (λ _=>TM) (λ _=>TM) _ _
  (((_,_,rfl),(Heap.Ns.new s.heap<|.type "frame").keeps<|Xe _ _,λ b o e=>Xe _ _ b o<|aJ _ e,ax _),
   λ n c v=>(F.empty n c<|dX v).1,F.apart,λ n c g=>(F.empty n c g).2)
  k λ z x=>aq<|m _ rfl z x)
end
noncomputable def lw(c:TQ)(v:V):HO:=.ext λ h=>∃u,RelV v u/\h.IsCell c (TJ u)
noncomputable def gH(c:TQ)(V:Str):HO:=.ext λ h=>h.CodeRec (.ref c) V
noncomputable def fK(F A:TQ)(W:Str)(V:Vh)(T:Expr)(S:Scope)(K:LA):HO:=.ext λ h=>∃z N,h.get? F=TJ (kla_obj "<lambda>" W V T S K z A N)
structure CelAt (H:Hp)(cl:LA)(vcs:List V):Prop where
 len:cl.length=vcs.length
 at_:∀(i:Nat) q,cl[i]?=TJ q->∃v o,vcs[i]?=TJ v/\H q.2=TJ (.frz o<|lw q.2 v)
 apart:cl.Pairwise λ x y=>x.2≠y.2
def CelAt.mem{V:LA}(h:CelAt H V Z){q:Str×TQ}(T:q∈V):∃o v,H q.2=TJ (.frz o<|lw q.2 v):=by
 obtain⟨i,e⟩:=qd.mp T;obtain⟨v,o,_,S⟩:=h.at_ i q e;exact(o,v,S)
open Classical in
noncomputable def minC(H:Hp)(V:LA):Hp:=λ b=>if ∃q∈V,q.2=b then TM else H b
open Classical in
noncomputable def Zl(H V:Hp)(S:LA):Hp:=λ b=>if ∃q∈S,q.2=b then H b else V b
def qg{V:LA}{q:Str×TQ}(h:q∈V):minC H V q.2=TM:=U0 (q,h,rfl)
def dC{V:LA}{b:TQ}(h:∀q∈V,q.2≠b):minC H V b=H b:=T9 (by rintro ⟨q,S,e⟩;exact h q S e)
def IT{V:LA}(h:minC H V b=TJ o):H b=TJ o/\∀q∈V,q.2≠b:=by
 by_cases c:∃q∈V,q.2=b
 .rw[show minC H V b=TM from U0 c] at h;cases h
 .rw[show minC H V b=H b from T9 c] at h;exact(h,λ q S e=>c (q,S,e))
def lx{H:Hp}{V:LA}(h:H b=TM):minC H V b=TM:=by
 by_cases c:∃q∈V,q.2=b
 .exact U0 c
 .rw[show minC H V b=H b from T9 c];exact h
def ly{V:LA}{q:Str×TQ}(h:q∈V):Zl H Z V q.2=H q.2:=U0 (q,h,rfl)
def gI{V:LA}{b:TQ}(h:∀q∈V,q.2≠b):Zl H Z V b=Z b:=T9 λ(q,S,e)=>h q S e
def HOk.minC{V:LA}(x:HOk P w H h)(K:CelAt H V Z):HOk P w (minC H V) h:=λ b o e=>by
 obtain⟨A,_⟩:=IT e
 have W:∀c u,H c=TJ u->(∀N v,u≠.frz N v)->_L.minC H V c=TJ u:=λ c u S n=>by
  rw[dC λ q F z=>?_]
  .exact S
  .obtain⟨N,v,T⟩:=K.mem F;rw[z,S] at T;exact n _ _<|bS T
 exact(x b o A).stay (λ _ _ _ q=>q) (λ c q=>W c _ q λ _ _ z=>nomatch z) λ c y q=>W c _ q λ _ _ z=>nomatch z
structure Za (N ps fv:List Str)(sc:Scope):Prop where
 kind:sc.kind=.function
 co:sc.isCoroutine=TL
 gen:sc.isGenerator=TL
 nd:N.Nodup
 pre:N.take (ps++fv).length=ps++fv
 par:∀x∈ps,sc.names.lookup x=TJ .local\/sc.names.lookup x=TJ .cell
 fre:∀x∈fv,sc.names.lookup x=TJ .free
 has:∀y∈sc.names,y.2=.free->y.1∈fv
 own:∀x∈fv,∀y∈sc.names,y.2=.cell->y.1≠x
noncomputable def qh(P:Uh)(w:Ui)(K:FG)(mg:SV)(base:Ue)(N:List Str)(S:Str)(V:Scope)(f:TQ)(T:Value)(W:LA)(A:Uk)(outer:List Env)(s:TR)(H:Hp):Cx where
 prog:=P
 w:=w
 K:=K
 mg:=mg
 base:=base
 A:=A.deeper (envX S V s.heap.objs.size f T<|Um (s.heap.objs.size+1) V.names []++W)
 N:=N
 s₀:=s
 H₀:=H
 env:=envX S V s.heap.objs.size f T (Um (s.heap.objs.size+1) V.names []++W)
 outer:=outer
 stack:=envX S V s.heap.objs.size f T (Um (s.heap.objs.size+1) V.names []++W)::outer
 ex:=[]
 calm:=TK
 fn:=λ x=>decide<|V.names.lookup x=TJ .cell
 pn:=[]
 xe:=λ _ _=>False
def IU{vs:List V}{i:Nat}(h:(Yy N vs)[i]?=TJ (TJ v)):vs[i]?=TJ v:=by
 unfold Yy at h
 have S:i<vs.length:=by
  by_cases S:i<vs.length
  .exact S
  .rw[cS (by simpa using S),dY] at h;split at h<;>cases h
 rw[cU (by simpa using S),bc] at h
 cases e:vs[i]? with
 |none=>rw[e] at h;cases h
 |some a=>rw[e] at h;cases h;rfl
theorem IV{K:FG}{N W fv:List Str}{T:LA}{A:Uk}{s s1:TR}{vs j:List V}
  (S:Za N W fv Z) (hd:A.handled=TM) (F:Env0 P w K mg U A Y s H) (hl:vs.length=W.length) (r:Vals vs us) (d:T.map (·.1)=fv) (J:CelAt H T j)
  (x:Vt s s.heap.objs.size (Vs (λ x=>Z.names.lookup x) (W.zip us) λ _=>TM) (Um (s.heap.objs.size+1) Z.names []) (Vr (λ x=>Z.names.lookup x) (W.zip us) λ _=>TM) s1) :
  Inv (qh P w K mg U N qual Z f cd T A Y s<|minC H T) [] (Yy N<|vs++j) (minC H T) s1:=by
 obtain⟨Q,tk,rfl,hk⟩:=x.done;have E:T.length=fv.length:=by rw[<- d,af]
 have hpl:(W++fv).length<=N.length:=by have:=bT Vd S.pre;rw[bp] at this;lia
 have G:∀b:TQ,b ∉ (qh P w K mg U N qual Z f cd T A Y s<|minC H T).ex:=λ b z=>U1 (show b∈([]:List TQ) from z) Cr
 have old:∀q∈T,q.2<s.heap.objs.size:=λ q hq=>by
  obtain⟨o,v,e⟩:=J.mem hq;exact F.hok.lt e
 have g:∀(i:Nat) q,T[i]?=TJ q->∃v u,j[i]?=TJ v/\RelV v u/\Q.IsCell q.2 (TJ u):=λ i q e=>by
  obtain⟨v,o,M,e2⟩:=J.at_ i q e;obtain⟨_,⟨u,ru,B⟩,_⟩:=F.hok _ _ e2;exact(v,u,M,ru,B.keeps hk)
 have lk:∀y c,(Um (s.heap.objs.size+1) Z.names []++T).lookup y=TJ c->(y,c)∈Um (s.heap.objs.size+1) Z.names []\/(y,c)∈T:=λ y c e=>cy.mp<|dX e;have l:∀y c,(y,c)∈Um (s.heap.objs.size+1) Z.names []->s.heap.objs.size<=c:=λ y c e=>fj<|x.above y c e
 refine((F.mod,S.kind,on,on,ax _,λ y z c Q h2=>?_,λ y D=>?_,λ y c hf h=>?_,λ _=>hd,s0h F.frames,.inr (on,on),λ b z=>U1 z<|G b,λ b o e=>((F.bs b o e).1,lx (F.bs b o e).2),F.bsz,λ b _ _=>G b,λ b z=>U1 z<|G b,F.funs,λ b hb=>lx<|F.frf b hb),
  rfl,F.bare,Un.kept hk,(_,x.toInCall.ns,λ i y v Q h2 h3=>?_),λ y c h=>?_,(F.hok.minC J).fresh<|ax _,λ y c h=>?_,λ p a=>U1 (show p∈([]:LO) from a) Cr,(F.hok.minC J).kept hk,?_)
 .rcases lk y c Q with R|R<;>rcases lk z c h2 with C|C
  .exact pG x.apart R C
  .exact U1 (l y c R)<|Nat.not_le_of_lt<|old _ C
  .exact U1 (l z c C)<|Nat.not_le_of_lt<|old _ R
  .exact pG J.apart R C
 .have D:Z.names.lookup y=TJ .cell\/Z.names.lookup y=TJ .free:=D
  rcases D with D|D
  .obtain⟨c,e⟩:=mV (n:=s.heap.objs.size+1) D;exact(c,by show Uz y (Um (s.heap.objs.size+1) Z.names []++T)=TJ c;rw[ip,e])
  .have L:=S.has _ (dX D) rfl;have L:y∈T.map (·.1):=by rw[d];exact L
   obtain⟨q,hq,e⟩:=bg.mp L;have iss:(T.lookup y).isSome=TK:=yB hq e;obtain⟨c,ec⟩:=iQ.mp iss;have M:(Um (s.heap.objs.size+1) Z.names []).lookup y=TM:=pZ (S.own y<|by rw[<- d];exact L);exact(c,by show Uz y (Um (s.heap.objs.size+1) Z.names []++T)=TJ c;rw[ip,M];exact ec)
 .have hf:Z.names.lookup y=TJ .cell:=au hf;obtain⟨c',e⟩:=mV (n:=s.heap.objs.size+1) hf;have h:Uz y (Um (s.heap.objs.size+1) Z.names []++T)=TJ c:=h;rw[ip,e] at h;cases h;exact l y _<|dX e
 .have O:=IU h2;have hi:i<(vs++j).length:=(aP.mp O).1;have lv:(vs++j).length=(W++fv).length:=by rw[aQ,aQ,hl,<- J.len,E]
  have a:(W++fv)[i]?=TJ y:=by
   rw[<- S.pre,pH BT];exact Q
  have X:(W++fv).Nodup:=by rw[<- S.pre];exact S.nd.sublist<|WC _ _
  have ndP:W.Nodup:=X.sublist<|List.sublist_append_left _ _;by_cases hil:i<W.length
  .rw[cU BT] at O;rw[cU hil] at a;obtain⟨u,hu,rv⟩:=r.get O;refine(u,rv,?_)
   rcases S.par y (aH a) with k|k
   .exact .inl (k,sV ndP a hu k)
   .obtain⟨c,e⟩:=mV (n:=s.heap.objs.size+1) k;refine .inr (.inl k,c,by show Uz y (Um (s.heap.objs.size+1) Z.names []++T)=TJ c;rw[ip,e],?_);have q:=x.cell y c e;rw[sW ndP a hu<|by rw[k];decide] at q;exact q
  .rw[cS BT,hl] at O;rw[cS BT] at a;have L:=aH a;have t:(T.map (·.1))[i-W.length]?=TJ y:=by rw[d];exact a
   rw[bc] at t
   obtain⟨q,eq,M⟩:∃q,T[i-W.length]?=TJ q/\q.1=y:=by
    cases z:T[i-W.length]? with
    |none=>rw[z] at t;cases t
    |some q=>rw[z] at t;exact(q,rfl,bS t)
   refine HT λ Gzz I=>?_;obtain⟨v',u,e2,ru,B⟩:=g _ q eq;refine I ?_;clear I Gzz;rw[O] at e2;cases e2;have ndF:(T.map (·.1)).Nodup:=by rw[d];exact X.sublist<|List.sublist_append_right _ _
   have lkq:T.lookup y=TJ q.2:=by rw[<- M];exact yC ndF<|aH eq
   have own0:(Um (s.heap.objs.size+1) Z.names []).lookup y=TM:=pZ<|S.own y L;exact(u,ru,.inr (.inr<|S.fre y L,q.2,by show Uz y (Um (s.heap.objs.size+1) Z.names []++T)=TJ q.2;rw[ip,own0];exact lkq,B))
 .rcases lk y c h with m|m
  .have h:Uz y (Um (s.heap.objs.size+1) Z.names []++T)=TJ c:=h;rw[ip] at h
   cases e:(Um (s.heap.objs.size+1) Z.names []).lookup y with
   |some c2=>rw[e] at h;cases h;exact(_,x.cell y _ e)
   |none=>
    rw[e] at h;obtain⟨i,ei⟩:=qd.mp<|dX h;obtain⟨v,u,_,_,B⟩:=g i _ ei;exact(_,B)
  .obtain⟨i,ei⟩:=qd.mp m;obtain⟨v,u,_,_,B⟩:=g i _ ei;exact(_,B)
 .rcases lk y c h with m|m
  .exact(F.hok.minC J).fresh<|l y c m
  .exact qg m
 .unfold Yy;show _=N.length;have lv:(vs++j).length=(W++fv).length:=by rw[aQ,aQ,hl,<- J.len,E]
  rw[aQ,af,fE];lia
def qi(P:Uh)(w:Ui)(K:FG)(F:SV)(T:Ue)(k:Nat)(N:TQ)(vs:List V)(H:Hp)(Q:VK):Prop :=
 ∀(A:Uk) (S:List Env) (s:TR) (W:LV),Room k A->Env0 P w K F T A S s H->Vals vs W->UM (TX P w) A (.call (.ref N) (W,[])) (CR YJ S P w H s Q λ _ _ _=>False) s
end _L
namespace _L
open PySem PySem.Spec PyProof.Rows PySem.W PySem.Calls
def FnV(H:Hp)(V:TQ):Prop:=∃S,H V=TJ (.ext S)/\∀h,S h->FnAt V h
def FnV.lam{H:Hp}{V:LA}(h:H J=TJ (fK J D L Z U Y V)):FnV H J:=(_,h,(by rintro _ ⟨_,_,e⟩;exact (_,_,_,_,e)))
def IW(P:Uh)(w:Ui)(K:FG)(N:SV)(V:Ue)(k i:Nat)(t:TA):TE:=λ W H Q=>∃S,W[i]?=TJ (TJ<|.ref S)/\FnV H S/\t W H λ vs T=>FnV T S/\qi P w K N V k S vs T Q
variable {X:Cx}
section
variable {e:Expr}{Z:List Expr}
theorem IY{i:Nat}(D:Room k X.A)(w:X.N[i]?=TJ x)(B:l5 X.env.scope x)(a:PA X (e::Z) t)(U:autoParam ((x == ("__debug__" : Str))=TL) Cl._auto_1)(K:autoParam ((x == ("__classdict__" : Str))=TL) Cl._auto_1)
  (L:autoParam (Ud (e::Z) X.env=(TL,eval e X.env)::Ud Z X.env) Ty._auto_1) (F:autoParam ((UD Y<|Ud Z X.env).any (·.1)=TL) Ty._auto_1) :
  PE X (.Call (.Name x p) (e::Z) [] Y)<|IW X.prog X.w X.K X.mg X.base k i t:=by
 intro T s j H Q I h;obtain⟨N,W,n,h⟩:=h;refine iP<|Yw ((eO (pos:=p) w B U K) T s j H (λ v d=>v=.ref N/\d=H) I<|by unfold bL;rw[W];exact(on,on)) λ u s1 (v,d,o,G,m,b)=>?_;subst m b;cases G;have V:∀ {g:Hp}{y:TR},Inv X T j g y->FnV g N->FnAt N y.heap:=λ J (R,e,k)=>k _ (J.hok _ _ e).1;refine callWith_F (V o n) (Yw (a Y T s1 j _ _ o h) λ M E (vs,O,S,r2,A,c)=>(V S A,?_)) L F;refine gZ<|jI (c X.A X.stack E M D S.env0 r2) λ r y z=>?_
 cases r with
 |error e=>exact Uw z
 |ok l=>
  cases l with
  |ret u=>exact S.after z
  |next|brk|cont=>exact Uw z
end
def OwnCl(S:LA)(fv:List Str)(V:LA):Prop:=V.map (·.1)=fv/\∀q∈V,S.lookup q.1=TJ q.2
theorem OwnCl.uniq:∀ {fv:List Str}{T V:LA},OwnCl Z fv T->OwnCl Z fv V->T=V
 |[],[],[],_,_=>rfl
 |[],_::_,_,h,_=>by cases h.1
 |[],[],_::_,_,h=>by cases h.1
 |_::_,[],_,h,_=>by cases h.1
 |_::_,_::_,[],_,h=>by cases h.1
 |n::fv,(a,c)::T,(b,d)::V,h,S=>by
  have A:a=n:=(qj h.1).1;have K:b=n:=(qj S.1).1;subst A K;have l1:=h.2 (b,c) bn;have N:=S.2 (b,d) bn;rw[show Z.lookup b=TJ c from l1] at N;cases N;rw[OwnCl.uniq (fv:=fv) ((qj h.1).2,λ q W=>h.2 q<|bz _ W) ((qj S.1).2,λ q W=>S.2 q<|bz _ W)]
def TabOk(H:Hp)(T:TQ)(V:Pos)(S:Str):Prop:=∃W,H T=TJ (.tbl W)/\VJ W.toList/\(codeAmong V W.toList=TM\/∃N,codeAmong V W.toList=TJ (.ref N)/\H N=TJ (gH N S))
def IZ{c:Value}(l:LV)(h:VJ l):VJ<|l++[Ur a,Ur b,c]:=by
 fun_induction VJ l with
 |case1=>simp[VJ,Ur]
 |case2 i t j u v rest V=>simpa [VJ] using V h
 |case3=>exact h.elim
structure Zx (base:Ue)(mg:SV)(c T:TQ):Prop where
 hd:CodeHd base c T
 none_:base.get? T=TM
 blt:∃bm o,mg "__builtins__"=TJ (.ref bm)/\bm≠Vm/\bm≠Ua/\bm≠T/\base.get? bm=TJ o/\o.cls=.type "module" /\ o.dict=TJ Vm/\o.data=.plain
 ne:Ua≠T
def Ja(v:LA)(fv:List Str)(T:TQ)(K:Pos)(V:Str)(S:Vh)(A:Expr)(W:Scope):TE:=λ _ H Q=>TabOk H T K V /\
 ∀F z y N,OwnCl v fv y->H F=TM->N F=TJ (fK F z V S A W y)->N z=TJ (gH z V)->TabOk N T K V->(∀b o,b≠T->H b=TJ o->N b=TJ o)->Q (.ref F) N
def yD{T W:Ue}(x:T.CodeRec (.ref c) Z)(k:∀o,T.get? c=TJ o->W.get? c=TJ o):W.CodeRec (.ref c) Z:=by
 refine HT λ S V=>?_;obtain⟨A,o,vs,t,e,N,r⟩:=x;refine V ?_;clear V S;cases e;exact(c,o,vs,t,on,k _ N,r)
section
variable {fv:List Str}{Z:LA}
theorem Jb{p:Str}(hq:X.env.qual ++ "<lambda>"=p)(j:X.env.code=.ref c)(P:Zx X.base X.mg c T)(L:Xc Y X.env=([],[]))(J:Vb U X.env=Uo Z)(O:OwnCl X.env.cells fv Z) :
  PE X (.Lambda Y body U pos)<|Ja X.env.cells fv T pos p Y body U:=by
 intro Yq s σ H Q I h;refine HT λ y W=>?_;obtain⟨⟨g,v,E,hz⟩,h⟩:=h;refine W ?_;clear W y;subst hq;have eT:s.heap.get? T=TJ (tabObj g):=I.hok _ _ v;have hg:s.heap.Ns Ua X.mg:=I.mod.glob.keeps I.bk;refine HT λ y W=>?_;obtain⟨bm,ob,b1,b2,b3,b4,b5,b6⟩:=P.blt;refine W ?_;clear W y;have hb:s.heap.BuiltinsAt X.mg T:=(bm,ob,b1,b2,b3,b4,I.bk _ _ b5,b6);have C:CodeHd s.heap c T:=P.hd.keeps I.bk;refine kla_eval L ?_
 rcases hz with D|⟨V,hf,a⟩
 .refine kla_makeFunction J I.ok.glob hg j C eT E D P.ne hb λ V A N tk hx m i B htb=>?_;have K:H N.objs.size=TM:=I.hok.fresh<|fj<|s1j m i;have hc0:H V=TM:=I.hok.fresh m;have nTc:V≠T:=λ z=>by rw[z,v] at hc0;cases hc0
  have nTf:N.objs.size≠T:=λ z=>by rw[z,v] at K;cases K
  have ncf:V≠N.objs.size:=bf i;have r:∀b o,b≠T->s.heap.get? b=TJ o->(N.push<|kla_obj "<lambda>" (X.env.qual ++ "<lambda>") Y body U Z ((X.mg "__name__").getD .none) V A).get? b=TJ o:=λ b o n e=>aJ _<|hx b o n e;have eP:(N.push<|kla_obj "<lambda>" (X.env.qual ++ "<lambda>") Y body U Z ((X.mg "__name__").getD .none) V A).get? T=TJ (tabObj<|g++#[Ur pos.line,Ur pos.col,.ref V]):=aJ _ htb;have eF:(N.push<|kla_obj "<lambda>" (X.env.qual ++ "<lambda>") Y body U Z ((X.mg "__name__").getD .none) V A).get? N.objs.size=TJ (kla_obj "<lambda>" (X.env.qual ++ "<lambda>") Y body U Z ((X.mg "__name__").getD .none) V A):=bJ _ rfl;have eC:(N.push<|kla_obj "<lambda>" (X.env.qual ++ "<lambda>") Y body U Z ((X.mg "__name__").getD .none) V A).CodeRec (.ref V)<|X.env.qual ++ "<lambda>":=yD B λ o e=>aJ _ e;generalize N.push (kla_obj "<lambda>" (X.env.qual ++ "<lambda>") Y body U Z ((X.mg "__name__").getD .none) V A)=h2 at *;generalize N.objs.size=S at *;have F:∀b o,s.heap.get? b=TJ o->b≠V/\(H b=TM->b≠T):=λ b o e=>(bf<|bH (aF e) m,λ n z=>by rw[z,v] at n;cases n);have M:∀b o,s.heap.get? b=TJ o->b≠S:=λ b o e=>bf<|Nat.lt_trans (bH (aF e) m) i;have t:∀b,b≠T->b≠V->b≠S->Yu (Yu (Yu H T<|.tbl<|g++#[Ur pos.line,Ur pos.col,.ref V]) V<|gH V<|X.env.qual ++ "<lambda>") S (fK S V (X.env.qual ++ "<lambda>") Y body U Z) b=H b:=λ b n1 n2 n3=>by rw[av n3,av n2,av n1]
  have Zz:∀b o,H b=TJ o->b≠V/\b≠S:=λ b o e=>((λ z=>by rw[z,hc0] at e;cases e),(λ z=>by rw[z,K] at e;cases e));have _H:Yu (Yu (Yu H T<|.tbl<|g++#[Ur pos.line,Ur pos.col,.ref V]) V<|gH V<|X.env.qual ++ "<lambda>") S (fK S V (X.env.qual ++ "<lambda>") Y body U Z) T=TJ (.tbl<|g++#[Ur pos.line,Ur pos.col,.ref V]):=by rw[av nTf.symm,av nTc.symm,bB]
  have R:Yu (Yu (Yu H T<|.tbl<|g++#[Ur pos.line,Ur pos.col,.ref V]) V<|gH V<|X.env.qual ++ "<lambda>") S (fK S V (X.env.qual ++ "<lambda>") Y body U Z) V=TJ (gH V<|X.env.qual ++ "<lambda>"):=by rw[av ncf,bB]
  have HF:Yu (Yu (Yu H T<|.tbl<|g++#[Ur pos.line,Ur pos.col,.ref V]) V<|gH V<|X.env.qual ++ "<lambda>") S (fK S V (X.env.qual ++ "<lambda>") Y body U Z) S=TJ (fK S V (X.env.qual ++ "<lambda>") Y body U Z):=bB;generalize Yu (Yu (Yu H T<|.tbl<|g++#[Ur pos.line,Ur pos.col,.ref V]) V<|gH V<|X.env.qual ++ "<lambda>") S (fK S V (X.env.qual ++ "<lambda>") Y body U Z)=w at *;have same:∀b o,b≠T->H b=TJ o->w b=TJ o:=λ b o n e=>by rw[t b n (Zz b o e).1 (Zz b o e).2];exact e
  have un:Un X.fs [] H w s.heap h2:=(λ b o e n _ _=>r b o ((F b o e).2 n) e,λ b o e n _ _=>(o.slots,r b o ((F b o e).2 n) e),λ b o e n _=>by rw[t b ((F b o e).2 n) (F b o e).1<|M b o e];exact n,λ b o e _=>by
   by_cases z:b=T
   .rw[z];exact(_,eP)
   .exact(o,r b o z e),λ b xs e=>same b _ (λ z=>by rw[z,v] at e;cases e) e,λ b o u e=>same b _ (λ z=>by rw[z,v] at e;cases e) e,λ b qs e=>by
   by_cases z:b=T
   .subst z;rw[v] at e;cases e;exact(_,_H)
   .exact(#[],by rw[same b _ z e];simp))
  have hok:HOk X.prog X.w w h2:=λ b o e=>by
   by_cases zf:b=S
   .subst zf;rw[HF] at e;cases e;exact((_,_,eF),(_,eF),(by rintro h1 h3 ⟨pm,f,e1⟩ k;exact (pm,f,k _ e1)))
   .by_cases zc:b=V
    .subst zc;rw[R] at e;cases e;refine HT λ y W=>?_;obtain⟨c2,o2,vs2,t2,e2,ho2,r2⟩:=id eC;refine W ?_;clear W y;cases e2;exact(eC,(_,ho2),λ h1 h3 x k=>yD x k)
    .by_cases zT:b=T
     .subst zT;rw[_H] at e;cases e;exact eP
     .rw[t b zT zc zf] at e;refine(I.hok b o e).stay (λ d u l q=>r d u (λ z=>?_) q) (λ d q=>same d _ (λ z=>by rw[z,v] at q;cases q) q) λ d xs q=>same d _ (λ z=>by rw[z,v] at q;cases q) q
      rcases l with l|l
      .exact zT<|l.symm.trans z
      .rw[z,v] at l;cases l
  exact(.ref S,w,I.un un hok,on,h S V Z w O K HF R (_,_H,by simpa using IZ g.toList E,.inr (V,by simpa using codeAmong_snoc g.toList E D,R)) same)
 .refine kla_makeFunctionHit J I.ok.glob hg j C eT E hf hb λ A N tk hx G=>?_;have K:H N.objs.size=TM:=I.hok.fresh G;have same:∀b o,H b=TJ o->Yu H N.objs.size (fK N.objs.size V (X.env.qual ++ "<lambda>") Y body U Z) b=TJ o:=λ b o e=>by rw[av<|kI e K];exact e
  refine(.ref N.objs.size,Yu H N.objs.size<|fK N.objs.size V (X.env.qual ++ "<lambda>") Y body U Z,I.laid (t':=tk) (λ b u e=>aJ _<|hx b u e) G ?_,on,h _ V Z _ O K bB (same _ _ a) (g,same _ _ v,E,.inr (V,hf,same _ _ a)) λ b o _ e=>same b o e);exact((_,_,bJ _ rfl),(_,bJ _ rfl),(by rintro h1 h3 ⟨pm,f,e1⟩ k;exact (pm,f,k _ e1)))
end
noncomputable def Zo(h:Ue)(H:Hp):LA->List V->Hp
 |q::S,v::vs=>Yu (Zo h H S vs) q.2 (.frz ((h.get? q.2).getD { cls:=.none,data:=.plain })<|lw q.2 v)
 |_,_=>H
theorem yE{b:TQ}:∀ {S:LA}{vs:List V},(∀q∈S,q.2≠b)->Zo h H S vs b=H b
 |[],_,_=>rfl
 |_::_,[],_=>rfl
 |q::S,v::vs,n=>by
  show Yu _ _ _ b=_;rw[av<|bI<|n q bn];exact yE λ W T=>n W<|bz _ T
theorem yF:∀ {S:LA}{vs:List V},(S.Pairwise λ x y=>x.2≠y.2)->S.length=vs.length->∀(i:Nat) q,S[i]?=TJ q->∃v,vs[i]?=TJ v/\Zo h H S vs q.2=TJ (.frz ((h.get? q.2).getD { cls:=.none,data:=.plain })<|lw q.2 v)
 |[],_,_,_,i,q,e=>by simp at e
 |_::_,[],_,l,_,_,_=>by simp at l
 |a::S,v::vs,T,l,0,q,e=>by
  cases (bS e);exact(v,on,bB)
 |a::S,v::vs,T,l,i+1,q,e=>by
  have e:S[i]?=TJ q:=by simpa using e
  obtain⟨u,W,N⟩:=yF (nN.mp T).2 (by simpa using l) i q e;refine(u,by simpa using W,?_);show Yu _ _ _ _=_;rw[av<|bI<|(nN.mp T).1 q<|aH e];exact N
def Jc(F:LA)(fv:List Str)(z:List Nat)(y:Sp)(t:TA):TE:=λ A H Q=>t A H λ vs N=>∃T:List V,z.map (λ j=>A[j]?)=T.map (λ v=>TJ<|TJ v) /\
 ∀S W,OwnCl F fv S->(∀q∈S,N q.2=TM)->CelAt W S T->(∀b,(∀q∈S,q.2≠b)->W b=N b)->y vs W (λ v K=>Q v<|minC K S) E0
section
variable {e:Expr}{U:List Expr}{fv:List Str}{Y:List Nat}{Z:LA}
theorem Jd(c:Callee X.prog X.w X.K X.mg X.base YJ k x ps sp)(hr:Room k X.A)(hg:Gl X x)(N:OwnCl X.env.cells fv Z)(hj:Y.map (λ j=>X.N[j]?)=fv.map TJ)(hk:∀n∈fv,X.env.scope.names.lookup n=TJ .cell)(hf:∀n∈fv,X.fn n=TK)(nd:fv.Nodup)
  (ha:PA X (e::U) t) (hdb:autoParam ((x == ("__debug__" : Str))=TL) Cl._auto_1)
  (he:autoParam (Ud (e::U) X.env=(TL,eval e X.env)::Ud U X.env) Ty._auto_1) (hpl:autoParam ((UD pos<|Ud U X.env).any (·.1)=TL) Ty._auto_1) :
  PE X (.Call (.Name x p) (e::U) [] pos)<|Jc X.env.cells fv Y sp t:=by
 refine HT λ A V=>?_;obtain⟨f,fd,F,hm,kp,J⟩:=c.has;refine V ?_;clear V A;intro Yq s0 σ H0 Q I0 h;refine iP<|fV I0 hg hm ?_ hdb;refine pA (h₀:=X.base) I0.ok.mod.kin kp (Yw (ha pos Yq s0 σ H0 _ I0 h) λ us s (vs,H,I,r,W,hv,q)=>(I.kIn,?_)) he hpl;have P:∀q∈Z,q.1∈fv:=λ q S=>by rw[<- N.1];exact bg.mpr (q,S,rfl)
 have K:∀q∈Z,H q.2=TM:=λ q S=>I.freeC q.1 q.2<|N.2 q S
 have g:Z.Pairwise λ x y=>x.2≠y.2:=by
  have nd':(Z.map (·.1)).Nodup:=by rw[N.1];exact nd
  have ec:=N.2;clear N P K
  induction Z with
  |nil=>exact .nil
  |cons a r ih=>
   refine nN.mpr (λ y hy z=>?_,ih (gB.mp nd').2 λ q S=>ec q<|bz _ S);have:=I.ok.inj a.1 y.1 a.2 (ec a bn) (by rw[z];exact ec y<|bz _ hy);exact(gB.mp nd').1<|bg.mpr (y,hy,this.symm)
 have lf:Y.length=fv.length:=by have:=bT Vd hj;simpa using this
 have lv:Y.length=W.length:=by have:=bT Vd hv;simpa using this
 have lc:Z.length=fv.length:=by rw[<- N.1,af]
 have l:Z.length=W.length:=by rw[lc,<- lf,lv]
 have C:∀(i:Nat) q,Z[i]?=TJ q->∃v u,W[i]?=TJ v/\RelV v u/\s.heap.IsCell q.2 (TJ u):=λ i q e=>by
  have il:i<Z.length:=(aP.mp e).1;have ej:=aZ (l:=Y) (i:=i) BT;have ev:=aZ (l:=W) (i:=i) BT
  have en:X.N[Y[i]' BT]?=TJ q.1:=by
   have z:=bT (λ l=>l[i]?) hj;simp only[bc,ej,Wg] at z;have y:fv[i]?=TJ q.1:=by rw[<- N.1,bc,e];rfl
   rw[y] at z;exact bS z
  have eσ:σ[Y[i]' BT]?=TJ (TJ<|W[i]' BT):=by
   have z:=bT (λ l=>l[i]?) hv;simp only[bc,ej,ev,Wg] at z;exact bS z
  obtain⟨m,_,lo⟩:=I.loc;have kq:=hk q.1<|P q<|aH e;obtain⟨u,ru,lk⟩:=lo _ _ _ en eσ<|.inr<|.inl kq;refine(_,u,ev,ru,?_)
  rcases lk with ⟨k1,_⟩|⟨_,c,ec,ic⟩
  .have k1:X.env.scope.names.lookup q.1=TJ .local:=k1;rw[kq] at k1;cases k1
  .rw[N.2 q<|aH e] at ec;cases ec;exact ic
 have hat:=yF (h:=s.heap) (H:=H) g l;have hC:CelAt (Zo s.heap H Z W) Z W:=(l,λ i q e=>let ⟨v,B,M⟩:=hat i q e;(v,_,B,M),g);have T:∀b,(∀q∈Z,q.2≠b)->Zo s.heap H Z W b=H b:=λ b n=>yE n
 have w:∀b,(∃q∈Z,q.2=b)\/∀q∈Z,q.2≠b:=λ b=>by
  by_cases c:∃q∈Z,q.2=b
  .exact .inl c
  .exact .inr λ q S e=>c (q,S,e)
 have O:∀q∈Z,∃o v,Zo s.heap H Z W q.2=TJ (.frz o<|lw q.2 v)/\s.heap.get? q.2=TJ o/\∃u,RelV v u/\s.heap.IsCell q.2 (TJ u):=λ q S=>by
  refine HT λ A V=>?_;obtain⟨i,e⟩:=qd.mp S;obtain⟨v,B,M⟩:=hat i q e;obtain⟨v',u,e3,ru,ic⟩:=C i q e;refine V ?_;clear V A;rw[B] at e3;cases e3;obtain⟨o,D,d⟩:=id ic;rw[D] at M;exact(o,v,M,D,u,ru,ic)
 have Zz:∀b o,H b=TJ o->Zo s.heap H Z W b=TJ o:=λ b o e=>by
  rw[T b λ q S z=>by rw[<- z,K q S] at e;cases e];exact e
 have hok:HOk X.prog X.w (Zo s.heap H Z W) s.heap:=λ b o e=>by
  rcases w b with ⟨q,S,rfl⟩|L
  .refine HT λ A V=>?_;obtain⟨o',v,B,D,u,ru,ic⟩:=O q S;refine V ?_;clear V A;rw[B] at e;cases e;exact(D,(u,ru,ic),(_,D),(by rintro h1 h2 ⟨u,ru,o2,M,d2⟩ k;exact (u,ru,o2,k _ M,d2)))
  .rw[T b L] at e;exact(I.hok b o e).stay (λ _ _ _ z=>z) (λ d z=>Zz d _ z) λ d xs z=>Zz d _ z
 have abv:∀q∈Z,X.s₀.heap.objs.size<=q.2:=λ q S=>I.ok.cab q.1 q.2 (hf q.1<|P q S)<|N.2 q S
 have nfr:∀b∈YF X.stack,∀q∈Z,q.2≠b:=λ b J q S z=>by
  rcases aD.mp (I.stkSub b J) with y|y
  .exact I.cne q.1 q.2 (N.2 q S)<|z.trans y
  .obtain⟨_,o,D,_⟩:=I.ok.funs.mem y;have:=aF D;rw[<- z] at this;exact U1 this<|Nat.not_lt_of_le<|abv q S
 have e0:Env0 X.prog X.w X.K X.mg X.base X.A X.stack s<|Zo s.heap H Z W:=by
  have E:=I.env0;refine(E.frames,E.mod,λ b o e=>((E.bs b o e).1,?_),E.bsz,E.funs,λ b J=>?_,hok,E.bare)
  .rw[T b λ q S z=>?_]
   .exact(E.bs b o e).2
   .have:=aF e;rw[<- z] at this;exact U1 (bH this I.ok.bsz)<|Nat.not_lt_of_le<|abv q S
  .rw[T b<|nfr b J];exact E.frf b J
 have hl:us.length=ps.length:=by rw[<- r.length];exact F.len _ _ _ _<|q Z _ N K hC T
 have hb':=J s us I.kIn (by simpa using hl);rw[eR] at hb';refine gZ<|jI (F.run X.A X.stack s (Zo s.heap H Z W) (us,[]) us vs _ E0 hr e0 hb' r<|q Z _ N K hC T) λ r s' S=>?_
 cases r with
 |error e=>exact Uw S
 |ok fl=>
  cases fl with
  |next|brk|cont=>exact Uw S
  |ret u=>
   refine HT λ A V=>?_;obtain⟨v,H',os,bare,G,R,rv,q'⟩:=S;refine V ?_;clear V A;have hC':CelAt H' Z W:=(l,λ i q e=>let ⟨v,o,B,M⟩:=hC.at_ i q e;(v,o,B,G.frzs _ _ _ M),g);refine HT λ A V=>?_;obtain⟨hh,gg,dd,tt,os'⟩:=s';obtain rfl:os'=s.os:=os;refine V ?_;clear V A
   have un2:Un (YF X.stack) [] H (minC H' Z) s.heap hh:=by
    refine(λ b o e n J hx=>?_,λ b o e n J hx=>?_,λ b o e n hx=>?_,G.there,λ b xs e=>?_,λ b o u e=>?_,λ b qs e=>?_)
    .rcases w b with ⟨q,S,rfl⟩|L
     .refine HT λ A V=>?_;obtain⟨o',v',B,D,_⟩:=O q S;refine V ?_;clear V A;rw[e] at D;cases D;exact(R _ _<|G.frzs _ _ _ B).1
     .exact G.keep b o e (by rw[T b L];exact n) J hx
    .exact G.slot b o e (by rw[T b<|nfr b J];exact n) J hx
    .rcases w b with ⟨q,S,rfl⟩|L
     .exact qg S
     .exact lx<|G.free b o e (by rw[T b L];exact n) hx
    .have L:∀q∈Z,q.2≠b:=λ q S z=>by rw[<- z,K q S] at e;cases e
     rw[dC L];exact G.tups b xs<|Zz b _ e
    .have L:∀q∈Z,q.2≠b:=λ q S z=>by rw[<- z,K q S] at e;cases e
     rw[dC L];exact G.frzs b o u<|Zz b _ e
    .have L:∀q∈Z,q.2≠b:=λ q S z=>by rw[<- z,K q S] at e;cases e
     rw[dC L];exact G.tbls b qs<|Zz b _ e
   exact(v,minC H' Z,I.call (h':=hh) (g':=gg) (d':=dd) (t':=tt) (ch:=[]) un2 (R.minC hC') bare λ b z=>U1 z Cr,rv,q')
end
theorem Je{K:FG}{O mb:SV}{fa a:TQ}{x:Str}{S:TR}{vs:LV}(T:List<|TQ×TQ)
  (hT:TabsAt T S.heap) (hK0:noTabs K=TK) (hbm:∃f M,O "__builtins__"=TJ (.ref f)/\f≠Vm/\S.heap.get? f=TJ M/\M.cls=.type "module" /\ M.dict=TJ Vm/\M.data=.plain)
  (KX:K.In S.heap) (D:S.heap.Ns Ua O) (U:S.heap.Ns Vm mb) (hbb:∀x:Str,x ≠ "__name__" -> mb x=UP x) (hlim:S.heap.NoLimit) (hg:S.gens=#[])
  (ha:S.heap.get? a=TJ { cls:=.type "list",data:=.seq vs.toArray }) (hi:Vu vs ns) (hl:ns.length<=TW) (hr:Room k VG)
  (F:∀Z:Ue,K.In Z->Z.Ns Ua O->(∀q∈T,Zx Z O q.1 q.2)->FnOk P w K O Z CX k fa fd [x] sp) (X:∀(s:TR) (u:Value),Wl s fd ([u],[]) [(x,u)])
  (hsp:∀H:Hp,(∀q∈T,H q.2=TJ (.tbl #[]))->SqL K H a (ns.map V.int)->sp [.ref a] H (λ v _=>v=.bl TK) λ _ _ _=>False)
  (hCX:∀H e i,CX [] H S (λ _ _ _=>False) e i->False) :
  UM (TX P w) VG (.call (.ref fa) ([.ref a],[])) (λ r i=>r=.ok (.ret<|.bool TK)/\OldK S.heap i.heap/\i.os=S.os/\UV i.gens) S:=by
 have rv:=tK hi;have lenV:=hi.length;have t:∀q∈T,S.heap.get? q.2=TJ (tabObj #[]):=λ q A=>(hT q A).2
 have naT:∀q∈T,q.2≠a:=λ q A z=>by
  have e:=t q A;rw[z,ha] at e;cases e
 have kT:∀q∈T,K.lookup q.2=TM:=λ q A=>by
  cases e:K.lookup q.2 with
  |none=>rfl
  |some o=>
   have Y:=KX _ _ e;rw[t q A] at Y;have h2:=gJ.mp hK0 (q.2,o)<|mem_of_lookupK e;cases Y;exact U1 (show TL=TK from h2) dz
 have core:∀H:Hp,(∀q∈T,H q.2=TJ (.tbl #[]))->(∀b,H b=TM\/(∃o xs,H b=TJ (.frz o<|.lst xs))\/∃q∈T,q.2=b)->SqL K H a (ns.map V.int)->HOk P w H S.heap->(∀b,H b≠TM->b=a\/∃q∈T,q.2=b)->(H a≠TM->K.lookup a=TM) ->
   UM (TX P w) VG (.call (.ref fa) ([.ref a],[])) (λ r i=>r=.ok (.ret<|.bool TK)/\OldK S.heap i.heap/\i.os=S.os/\UV i.gens) S:=by
  intro H hH hO hS B hA hK;have W:∀ {b:TQ}{o:Obj},S.heap.get? b=TJ o->H b=TM->(fU S.heap H).get? b=TJ o:=λ e n=>Eh e n
  have noA:∀ {b:TQ}{o:Obj},S.heap.get? b=TJ o->o≠{ cls:=.type "list",data:=.seq vs.toArray }->o≠tabObj #[]->H b=TM:=λ {b o} e n1 n2=>by
   cases q:H b with
   |none=>rfl
   |some u=>
    rcases hA b (by rw[q];simp) with z|⟨p,hp,z⟩
    .subst z;rw[ha] at e;cases e;exact U1 rfl n1
    .subst z;rw[t p hp] at e;cases e;exact U1 rfl n2
  have E:∀ {b:TQ}{m:SV},S.heap.Ns b m->(fU S.heap H).Ns b m:=λ {b m} (o,es,ep,e,d,r)=>(o,es,ep,W e (noA e (λ z=>by rw[z] at d;cases d) λ z=>by rw[z] at d;cases d),d,r)
  have hKb:K.In<|fU S.heap H:=λ b o e=>W (KX b o e) (by
   cases q:H b with
   |none=>rfl
   |some u=>
    rcases hA b (by rw[q];simp) with z|⟨p,hp,z⟩
    .subst z;rw[hK<|by rw[q];simp] at e;cases e
    .subst z;rw[kT p hp] at e;cases e)
  have hM:Mod K O<|fU S.heap H:=(hKb,E D,(mb,E U,hbb),let ⟨mc,h1,h2⟩:=hlim;(mc,E h1,h2));have e0:Env0 P w K O (fU S.heap H) VG [] S H:=(rfl,hM,λ b o e=>wo e,s1v<|Eg _ _,trivial,λ b U=>U1 (show b∈([]:List TQ) from U) Cr,B,.of_eq hg)
  have tf:∀q∈T,Zx (fU S.heap H) O q.1 q.2:=λ q A=>by
   refine HT λ j N=>?_;obtain⟨o,vs',I,tf,J,tg,inF,C,tt,Y,r1,r2⟩:=(hT q A).1;obtain⟨f,M,b1,b2,b3,b4,b5,b6⟩:=hbm;refine N ?_;clear N j;have bmT:f≠q.2:=λ z=>by rw[z,t q A] at b3;cases b3;cases b4
   have bmG:f≠Ua:=λ z=>by
    refine HT λ j N=>?_;obtain⟨o,es,ep,e,d,_⟩:=D;refine N ?_;clear N j;rw[<- z,b3] at e;cases e;rw[b6] at d;cases d
   have gT:Ua≠q.2:=λ z=>by
    refine HT λ j N=>?_;obtain⟨o,es,ep,e,d,_⟩:=D;refine N ?_;clear N j;rw[z,t q A] at e;cases e;cases d
   refine((o,vs',I,tf,J,tg,inF,C,tt,W Y (noA Y (λ z=>by rw[z] at r1;exact U1 (show Uq "list"=Uq "code" from r1) Cl) λ z=>by rw[z] at r1;cases r1),r1,r2),?_,(f,M,b1,b2,bmG,bmT,W b3 (noA b3 (λ z=>by rw[z] at b4;exact U1 (show Uq "list"=Uq "module" from b4) Cl) λ z=>by rw[z] at b4;cases b4),b4,b5,b6),gT)
   cases e:(fU S.heap H).get? q.2 with
   |none=>rfl
   |some o=>have:=(wo e).2;rw[hH q A] at this;cases this
  refine jI ((F _ hKb (E D) tf).run VG [] S H ([.ref a],[]) [.ref a] [.ref a] _ _ hr e0 (X S<|.ref a) (.cons rfl .nil)<|hsp H hH hS) λ r i h=>?_
  cases r with
  |error e=>exact(hCX H e i h).elim
  |ok fl=>
   cases fl with
   |next|brk|cont=>exact Uw h
   |ret u=>
    refine HT λ j N=>?_;obtain⟨v,H',os,bare,un,Q,r',q⟩:=h;refine N ?_;clear N j;have q':v=.bl TK:=q;subst q';obtain rfl:u=UW TK:=r';refine(on,(λ b o e=>?_,λ b o e=>un.there b o e Cr),os,bare)
    rcases hO b with z|⟨M,xs,z⟩|⟨p,hp,z⟩
    .exact .inl<|un.keep b o e z (by intro z;exact U1 (show b∈([]:List TQ) from z) Cr) Cr
    .have z2:=un.frzs b M _ z;obtain⟨Y,_⟩:=B b _ z;obtain⟨e2,_⟩:=Q b _ z2;rw[e] at Y;cases Y;exact .inl e2
    .subst z;obtain⟨R,z2⟩:=un.tbls p.2 #[]<|hH p hp;have e2:i.heap.get? p.2=TJ (tabObj<|#[]++R):=Q _ _ z2;have Y:=t p hp;rw[e] at Y;cases Y;refine HT λ j N=>?_;obtain⟨o,vs',I,tf,J,tg,inF,C,tt,c1,c2,c3,c4,_⟩:=(hT p hp).1;refine N ?_;clear N j;exact .inr<|.inl ((p.1,o,vs',c1,c2,c3,c4),on,#[],R,on,e2)
 have L:∀H:Hp,(∀b,H b=TM\/∃o xs,H b=TJ (.frz o<|.lst xs))->SqL K H a (ns.map V.int)->HOk P w H S.heap->(∀b,H b≠TM->b=a)->(H a≠TM->K.lookup a=TM) ->
   UM (TX P w) VG (.call (.ref fa) ([.ref a],[])) (λ r i=>r=.ok (.ret<|.bool TK)/\OldK S.heap i.heap/\i.os=S.os/\UV i.gens) S:=by
  intro H hO hS B hA hK;have inT:∀q∈T,(λ b=>if (T.any λ q=>q.2 == b)=TK then TJ (HO.tbl #[]) else H b) q.2=TJ (.tbl #[]):=λ q A=>U0<|iq.mpr (q,A,Cr)
  have g:∀b,(∃q∈T,q.2=b)\/(λ b=>if (T.any λ q=>q.2 == b)=TK then TJ (HO.tbl #[]) else H b) b=H b:=λ b=>by
   by_cases c:(T.any λ q=>q.2 == b)=TK
   .obtain⟨q,A,e⟩:=iq.mp c;exact .inl (q,A,iR e)
   .exact .inr<|T9 c
  have aT:(λ b=>if (T.any λ q=>q.2 == b)=TK then TJ (HO.tbl #[]) else H b) a=H a:=by
   rcases g a with ⟨q,A,z⟩|z
   .exact U1 z<|naT q A
   .exact z
  generalize (λ b=>if (T.any λ q=>q.2 == b)=TK then TJ (HO.tbl #[]) else H b)=G at *
  have noneT:∀q∈T,H q.2=TM:=λ q A=>by
   cases e:H q.2 with
   |none=>rfl
   |some u=>exact U1 (hA q.2<|by rw[e];simp)<|naT q A
  refine core G inT (λ b=>?_) ?_ (λ b o e=>?_) (λ b n=>?_) (λ n=>hK<|by rw[<- aT];exact n)
  .rcases g b with z|z
   .exact .inr<|.inr z
   .rw[z];rcases hO b with y|y
    .exact .inl y
    .exact .inr<|.inl y
  .rcases hS with (z|⟨o,z⟩)|z
   .exact .inl (.inl<|by rw[aT];exact z)
   .exact .inl<|.inr (o,by rw[aT];exact z)
   .exact .inr z
  .rcases g b with ⟨q,A,z⟩|z
   .subst z;rw[inT q A] at e;cases e;exact t q A
   .rw[z] at e
    rcases hO b with y|⟨M,xs,y⟩
    .rw[y] at e;cases e
    .rw[y] at e;cases e;obtain⟨Y,l,its,n,r,e2⟩:=B b _ y;exact(Y,l,its,n,r,e2)
  .rcases g b with z|z
   .exact .inr z
   .rw[z] at n;exact .inl<|hA b n
 cases hk:K.lookup a with
 |some o=>
  have e:=KX a o hk;rw[ha] at e;cases e;refine L (λ _=>TM) (λ _=>.inl rfl) (.inr (_,vs.toArray,_,hk,on,on,on,by rw[aY,lenV];exact hl,by simpa using rv)) (λ b u z=>by have z':(TM:Option HO)=TJ u:=z;cases z') (λ b z=>U1 rfl z) λ z=>U1 rfl z
 |none=>
  refine L (λ b=>if b=a then TJ (.frz { cls:=.type "list",data:=.seq vs.toArray }<|.lst<|ns.map V.int) else TM) (λ b=>?_) (.inl<|.inr ({ cls:=.type "list",data:=.seq vs.toArray },U0 rfl)) (λ b u z=>?_) (λ b z=>?_) λ _=>hk
  .by_cases U:b=a
   .exact .inr (_,_,U0 U)
   .exact .inl<|T9 U
  .by_cases U:b=a
   .have z':=(U0 U).symm.trans z;cases z';subst U;exact(ha,by rw[af];exact hl,vs,_,rv,ha)
   .have z':=(T9 U).symm.trans z;cases z'
  .by_cases U:b=a
   .exact U
   .exact U1 (T9 U) z
def Jf{K:FG}{j V:Value}{g S:OA}{N:Uu}{d W:AV}{vs:Array Value}(A:nsIn K Ua x=TJ (TJ<|.ref f))(F:K.lookup f=TJ (j,g,.func N,d))(z:N.code=.ref c)(y:K.lookup c=TJ (V,S,.fields vs,W))(v:vs[11]?=TJ (.ref T)):tabIn K x=TJ (c,T):=by
 unfold tabIn;simp only[A,F,z,y,v]
theorem walk_ofT{l:W.OpenLaw}{P:Ui->Ue->Prop}{d:DefRec}{K:Params->FG}{CX:Ui->Zq}{sp:Ui->List TQ->Sp}{x:Str}
  (hn:l.most=TJ n) (M:n<=TW) (B:d.params.defaults=[]) (hr:Room k VG)
  (hY:∀(w:Ui) (h:Ue),P w h->(K w.params).In h) (J:∀w:Ui,noTabs (K w.params)=TK)
  (F:∀(w:Ui) (g:SV) (m:TQ) (h:Ue),(K w.params).In h->h.Ns Ua g->g d.name=TJ (.ref m) ->
   ∃(U:Uu) (Z:List (Str×TQ×TQ)),(∀p∈Z,tabIn (K w.params) p.1=TJ p.2/\((recsOf q).find? λ e=>e.name == p.1).isSome=TK)/\(∀(s:TR) (u:Value),Wl s U ([u],[]) [(x,u)]) /\
    ∀S:Ue,(K w.params).In S->S.Ns Ua g->(∀p∈Z,Zx S g p.2.1 p.2.2)->FnOk l.prog w (K w.params) g S (CX w) k m U [x] (sp w<|Z.map λ p=>p.2.2))
  (Q:∀(w:Ui) (H:Hp) (a:TQ) (b:Yr) (ts:List TQ),b.length<=n->(∀T∈ts,H T=TJ (.tbl #[]))->SqL (K w.params) H a (b.map V.int)->sp w ts [.ref a] H (λ v _=>v=.bl TK) λ _ _ _=>False)
  (i:∀(w:Ui) (H:Hp) (s:TR) (e:Value) (R:TR),CX w [] H s (λ _ _ _=>False) e R->False) :
  W.WalkO q O XP P l.row.toRowW d [] λ f vs=>WZ f vs:=by
 refine Att.attach_call hn B λ w X A g mb m o pm cd doc a vs b G Y ho hd hcd E c y C hg=>?_;have r:=hY w _ Y;refine HT λ z N=>?_;obtain⟨U,Z,ht,hb,hF⟩:=F w g m _ r G.T.g E;refine N ?_;clear N z
 have L:TabsAt (Z.map (·.2)) A.heap:=λ p I=>by
  refine HT λ z N=>?_;obtain⟨t,j,rfl⟩:=bg.mp I;obtain⟨h1,h2⟩:=ht t j;obtain⟨d',D⟩:=iQ.mp h2;refine N ?_;clear N z;exact tab_of G.T r D (show tabIn (K w.params) t.1=TJ (t.2.1,t.2.2) from h1)
 refine Je (Z.map (·.2)) L (J w) G.T.bmain r G.T.g G.T.b G.T.builtins G.T.nolimit hg c y (cw C M) hr (λ S kb nb tf=>hF S kb nb λ p I=>tf p.2<|bg.mpr (p,I,on)) hb (λ H hH hS=>Q w H a b _ C (λ T L=>?_) hS) λ H e R=>i w H A e R;obtain⟨t,j,rfl⟩:=bg.mp L;exact hH t.2<|bg.mpr (t,j,on)
section
variable {Z:Vh}{Y:Scope}{U:Pos}{fv:List Str}{c T:TQ}{V:LA}
end
section
variable {Z:Uh}{w:Ui}{A:Uk}{R:Wa->TR->Prop}{I:TQ}{Y U:List TQ}{n:Nat}{P:Nat->Value->Prop}{St:Nat->Ue->Prop}
end
def Jg(o:X.calm=TK):bY X (.builtin "min") λ T H Q=>∃a Z,T=[.ref a]/\SqL X.K H a (UL V.int Z)/\0<Z.length/\∀M:Int,M∈Z->(∀z∈Z,M<=z)->Q (.int M) H:=by
 intro w s L H T J Q I r h;refine HT λ A W=>?_;obtain⟨a,Z,rfl,k,N,q⟩:=h;obtain⟨u,rfl,l⟩:=cM r;refine W ?_;clear W A;cases (show u=Ug a from l);obtain⟨b,n,i,F⟩:=I.list k;have y:=mW n;obtain⟨T,e⟩:=y.allInts.items;have S:Z=T.toList.map (·.1):=by rw[<- y.numsOf,<- s1l,<- e]
 have g:=i.isList;rw[e] at g;have K:0<T.size:=by rw[S,af,Uv] at N;exact N
 refine min_intList (I.ok.hd o) g K λ v x U m p=>?_;obtain⟨t,rfl⟩:=intItems_at m;obtain⟨Y,d⟩:=argBest_lt (numAt T)<|T.size-1;refine(.int _,H,I.kept p,(t,on),q _ ?_ λ z F=>?_)
 .rw[S,s2c];exact getD_mem (by rw[af,Uv];lia)
 .rw[S] at F;obtain⟨j,c,rfl⟩:=mem_getD F;rw[af,Uv] at c;rw[<- s2c];exact d j BT
def Jh(o:X.calm=TK):bY X (.builtin "max") λ T H Q=>∃a Z,T=[.ref a]/\SqL X.K H a (UL V.int Z)/\0<Z.length/\∀M:Int,M∈Z->(∀z∈Z,z<=M)->Q (.int M) H:=by
 intro w s L H T J Q I r h;refine HT λ A W=>?_;obtain⟨a,Z,rfl,k,N,q⟩:=h;obtain⟨u,rfl,l⟩:=cM r;refine W ?_;clear W A;cases (show u=Ug a from l);obtain⟨b,n,i,F⟩:=I.list k;have y:=mW n;obtain⟨T,e⟩:=y.allInts.items;have S:Z=T.toList.map (·.1):=by rw[<- y.numsOf,<- s1l,<- e]
 have g:=i.isList;rw[e] at g;have K:0<T.size:=by rw[S,af,Uv] at N;exact N
 refine max_intList (I.ok.hd o) g K λ v x U m p=>?_;obtain⟨t,rfl⟩:=intItems_at m;obtain⟨Y,d⟩:=argBest_gt (numAt T)<|T.size-1;refine(.int _,H,I.kept p,(t,on),q _ ?_ λ z F=>?_)
 .rw[S,s2c];exact getD_mem (by rw[af,Uv];lia)
 .rw[S] at F;obtain⟨j,c,rfl⟩:=mem_getD F;rw[af,Uv] at c;rw[<- s2c];exact d j BT
section
variable {Z:Uh}{U:Ui}{B:Uk}{Y:VS}{V:TR}
end
section
variable {U:List Expr}{Z:Nat}{Y:Pos}
end
def uc:V->List V->Hp->VK->Prop:=λ x vs H Q=>∃l S i y,x=.ref l/\vs=[.int i,y]/\H l=TJ (.lst S)/\0<=i/\i<=S.length/\S.length<TW/\Q .non (Yu H l<|.lst<|S.take i.toNat++y::S.drop i.toNat)
def Ji:B5 X "list.insert" uc:=by
 intro d s p H x vs v m Q I j K h;refine HT λ T S=>?_;obtain⟨l,b,i,y,rfl,rfl,N,k,i1,c,q⟩:=h;refine S ?_;clear S T;cases j;refine HT λ T S=>?_;obtain⟨u,w,rfl,⟨t,rfl⟩,W⟩:=jH K;obtain⟨z,V,n,r,o,e⟩:=I.lstM N;refine S ?_;clear S T;have g:TW<=2 ^ 62:=by rw[iO];decide
 have A:UR i=TK:=s0o BT BT
 refine fZ F.slot_list_insert (_,e,on) F.entry_list_insert (F.args_list_insert_3 _ _ _)
  (AutoSeq1.list_insert_list_int_val_1 l V.toArray n i t w (by simp[A])<|by rw[aY];lia) (e,?_)
 refine(.non,_,I.lset (its':=V.take i.toNat++w::V.drop i.toNat) N e ?_ ((r.take _).append<|.cons W<|r.drop _) ?_,on,q)
 .show(V.toArray.extract 0<|if i<0 then (i+(V.toArray.size:Int)).toNat else min i.toNat V.toArray.size).push w++V.toArray.extract (if i<0 then (i+(V.toArray.size:Int)).toNat else min i.toNat V.toArray.size)=_;rw[T9 BT,aY,lA BT];apply Array.ext';simp[List.extract_eq_take_drop,ce]
 .rw[aQ,Up,bp,cW];lia
section
variable {Z:Uh}{U:Ui}{B:Uk}{Y:VS}{V:TR}
end
section
variable {U:List Expr}{Z:Nat}{Y:Pos}
end
section
variable {A:Uk}{R:Wa->TR->Prop}{Z:List TQ}{P:Nat->Value->Prop}{St:Nat->Ue->Prop}
def Jj(T:Ue)(S:TQ)(Z:List TQ)(W:Nat->Int)(P:Nat->Value->Prop):Prop:=∀i v,P i v->∃a V,v=.ref a/\¬a∈Z/\a≠S/\T.IsTuple a V/\(V.size:Int)<2 ^ 63/\W i=V.size
def ud(V:Nat->Int)(m i:Nat):Prop:=∀j,j<m->V j<=V i/\(j<i->V j<V i)
theorem Jk(W:Walks Y w A.in1 I fp Z n P St)(N:Nat->Int)(S:TQ)(M:¬S∈fp)(u:Ue)(hk:Jj u S Z N P)(hn:0<n):∀(k j:Nat) (s:TR) (B:Array Value) (c:Nat),n-j=k->j<=n->St j s.heap->((j=0/\B=#[])\/∃i D L,P i D/\i<j/\ud N j i/\B=#[D,.int (N i) L])->(∀b o,¬b∈Z->b≠S->u.get? b=TJ o->s.heap.get? b=TJ o)->s.heap.get? S=TJ (.type "list",TM,.seq B c,#[]) ->
  (∀i v J tk,P i v->i<n->ud N n i->(∀b o,¬b∈Z->b≠S->u.get? b=TJ o->J.get? b=TJ o)->R (.ok<|.ret v) { s with heap:=J,toks:=tk })->UM (TX Y w) A (.builtin "max.loop" ([.ref I,.builtin "len",.ref S],[])) R s:=by
 have Q:¬S∈Z:=λ h=>M<|W.sub _ h;have nm:(toString "max" ++ toString ".loop" : String)="max.loop" := by decide
 intro k;induction k with
 |zero=>
  intro j s B c d hj r hy l E q;obtain rfl:j=n:=BT;obtain⟨i,D,L,g,C,hb,rfl⟩:=hy.resolve_left λ z=>by lia
  refine kY yG ?_;rw[nI lB _];show TU (TX Y w) A.in1 (VL (.ref S) >>= _) _ _ s;refine ae (m:=VL<|.ref S)<|lh E rfl ?_;show TU (TX Y w) A.in1 (tryCatch (UY<|.ref I) _ >>= _) _ _ s;refine ae (m:=tryCatch (UY<|.ref I) _)<|qk<|W.done s _ _ r λ J tk H=>?_;have K:=H S _ Q E;show TU (TX Y w) A.in1 (Vl S (λ _=>#[]) >>= _) _ _ _;refine ae (m:=Vl S λ _=>#[])<|lg K rfl<|ae<|s0w<|aq ?_;exact q i D _ tk g C hb λ b o T V e=>(dL _ _<|bI V).trans<|H b o T<|l b o T V e
 |succ k ih=>
  intro j s B c d hj r hy l E q;have U:j<n:=BT;refine kY yG ?_;rw[nI lB _];show TU (TX Y w) A.in1 (VL (.ref S) >>= _) _ _ s;refine ae (m:=VL<|.ref S)<|lh E rfl ?_;show TU (TX Y w) A.in1 (tryCatch (UY<|.ref I) _ >>= _) _ _ s;refine ae (m:=tryCatch (UY<|.ref I) _)<|qk<|W.item j s _ _ U r λ v J tk hP y H=>?_;have K:=H S _ Q E;have x:∀b o,¬b∈Z->b≠S->u.get? b=TJ o->J.get? b=TJ o:=λ b o T V e=>H b o T<|l b o T V e;refine HT λ Gzz G=>?_;obtain⟨a,its,rfl,aw,aS,at0,a63,ek⟩:=hk _ _ hP;refine G ?_;clear G Gzz;show TU (TX Y w) A.in1 (tryCatch (Va [.ref a]<|call (.builtin "len") [.ref a]) _ >>= _) _ _ _;refine ae<|qk<|dH<|s1y (tW at0 λ o e=>x a o aw aS e) a63 ?_;rw[<- ek]
  have nx:∀ {f:Obj->Obj}{tt:Tok}{cc F:Nat},f (.type "list",TM,.seq B c,#[])=(.type "list",TM,.seq #[.ref a,.int (N j) tt] cc,#[])->ud N (j+1) j->UM (TX Y w) A (.builtin "max.loop" ([.ref I,.builtin "len",.ref S],[])) R { s with heap:=J.update S f,toks:=F }:=λ {f tt cc F} e fb=>
   ih (j+1) _ _ _ (by rw[<- Nat.sub_sub,d,s1m]) U (W.frame _ _ _ y λ b hbf o e=>(dL _ _ λ h:S=b=>M<|by rw[h];exact hbf).trans e) (.inr (j,_,tt,hP,ig _,fb,rfl)) (λ b o T V e=>(dL _ _<|bI V).trans<|x b o T V e) (by rw[<- e];exact fY f K<|by rw[e];rfl) λ i2 v2 h2 F q1 q2 q3 q4=>q i2 v2 h2 F q1 q2 q3 q4
  rcases hy with ⟨rfl,rfl⟩|⟨i,D,L,g,C,hb,rfl⟩
  .show TU (TX Y w) A.in1 (Vl S (λ _=>#[.ref a,.int (N 0) _]) >>= _) _ _ _;refine ae (m:=Vl S _)<|lg K rfl ?_;rw[nm];refine aq (a:=_) (iX lB _,nx rfl λ p X=>?_);obtain rfl:p=0:=BT;exact(jN _,λ z=>U1 z<|dU _)
  .show TU (TX Y w) A.in1 (tryCatch (Va [.ref a,.int (N j) _]<|richCompare .Gt (.int (N j) _) (.int (N i) L) >>= _) _ >>= _) _ _ _;refine ae<|qk<|dH<|ae<|CmpOf.ints_gt (prog:=Y) (w:=w) (A:=A.in1) (P:=λ i v=>∃t,v=.int (N i) t) N (λ i v h=>h) j i _ _ _ _ _ (_,on) (L,on) ?_;refine ae<|dH<|gz ?_;refine ae<|s0w<|aq ?_;by_cases O:N j > N i
   .simp only[O,decide_true,fW];refine ae (m:=Vl S _)<|lg K rfl<|ae<|s0w ?_;rw[nm];refine aq (a:=_) (iX lB _,nx rfl λ p X=>?_);by_cases e:p=j
    .subst e;exact(jN _,λ z=>U1 z<|dU _)
    .have:=(hb p BT).1;exact(BT,λ _=>by lia)
   .simp only[O,decide_false,nM,u3];refine ae (m:=letGo _)<|s0w ?_;rw[nm];refine aq (a:=_) (iX lB _,ih (j+1) _ _ c (by rw[<- Nat.sub_sub,d,s1m]) U y (.inr (i,D,L,g,BT,λ p X=>?_,on)) x K λ i2 v2 h2 F q1 q2 q3 q4=>q i2 v2 h2 F q1 q2 q3 q4);by_cases e:p=j
    .subst e;exact(BT,λ z=>by lia)
    .exact hb p BT
end
section
variable {st:Uc}{rest:List Uc}{t u:TS}{e:Expr}{Y:List Expr}{U:TE}{V:TA}{Z:Pos}
end
section
variable {A:Uk}
def Jl(a b v:Value):Wb "max" ([a,b],[(Uf "key",v)]):=by unfold Wb;kernel_rfl
theorem Jm{s:TR}{i1 i2:Array Value}{Q:VS}(x:A.handled=TM)(d:s.heap.IsTuple Z i1)(c:s.heap.IsTuple Y i2)(D:(i1.size:Int)<2 ^ 63)(B:(i2.size:Int)<2 ^ 63)
  (k:∀v N n,(v=.ref Z/\i2.size<=i1.size\/v=.ref Y/\i1.size<i2.size)->(∀b o,s.heap.get? b=TJ o->N.get? b=TJ o)->Q v { s with heap:=N,toks:=n }):TU (TX U w) A (call (.builtin "max") [.ref Z,.ref Y] [(Uf "key",.builtin "len")]) Q E s:=by
 have J:(toString "max" ++ toString ".loop" : String)="max.loop" := by decide
 have r:(s.heap.push { cls:=.type "tuple",data:=.seq #[.ref Z,.ref Y] }).IsTuple s.heap.objs.size #[.ref Z,.ref Y]:=(_,bJ _ rfl,rfl,0,rfl);have V:(s.heap.push { cls:=.type "tuple",data:=.seq #[.ref Z,.ref Y] }).objs.size=s.heap.objs.size+1:=jK ..;refine kmb_tree PySem.F.kind_max PySem.F.plain_max PySem.F.entry_max (Jl _ _ _) ?_;show TU _ A.in1 (Builtin.Builtins.bindParams "max" ["key","default"] 0 ([],[(Uf "key",.builtin "len")]) >>= _) _ _ s;refine ae<|fG (show Builtin.Builtins.bindParams "max" ["key","default"] 0 ([],[(Uf "key",.builtin "len")])=Uo [TJ<|.builtin "len",TM] from rfl) ?_;show TU _ A.in1 (Yj [.ref Z,.ref Y] >>= _) _ _ s;refine ae<|dA ?_;refine ae (m:=Wx _)<|pX r ?_;refine ae (m:=Xt _)<|dA ?_;rw[J];have W:=Walks.tuple (prog:=U) (w:=w) (A:=A.in1) x (s.heap.push { cls:=.type "tuple",data:=.seq #[.ref Z,.ref Y] }).objs.size s.heap.objs.size (by rw[V];exact bf<|ig _) #[.ref Z,.ref Y];have K:((s.heap.push { cls:=.type "tuple",data:=.seq #[.ref Z,.ref Y] }).push { cls:=.type "tuple_iterator",data:=.fields #[.ref s.heap.objs.size,.int 0 0] }).objs.size=s.heap.objs.size+2:=by rw[jK,V]
 have y:Z<s.heap.objs.size:=by obtain⟨o,g,_⟩:=d;exact aF g
 have j:Y<s.heap.objs.size:=by obtain⟨o,g,_⟩:=c;exact aF g
 refine aq (a:=_) (iX lB _,Jk W (λ i=>([(i1.size:Int),(i2.size:Int)].getD i 0)) ((s.heap.push { cls:=.type "tuple",data:=.seq #[.ref Z,.ref Y] }).push { cls:=.type "tuple_iterator",data:=.fields #[.ref s.heap.objs.size,.int 0 0] }).objs.size ?_ s.heap (λ i v S=>?_) (qm _) _ 0 _ _ _ rfl (cn _) ?_ (.inl (on,on)) (λ b o _ _ e=>aJ _<|aJ _<|aJ _ e) (bJ _ rfl) λ i v N n T G l L=>?_)
 .rw[K,V];intro z
  rcases aD.mp z with z|z
  .exact U1 z<|tZ _
  .exact U1 (aK.mp z)<|kM<|eV<|ig _
 .have t:∀a,a<s.heap.objs.size->¬a∈[(s.heap.push { cls:=.type "tuple",data:=.seq #[.ref Z,.ref Y] }).objs.size]:=λ a h z=>by
   have:=aK.mp z;rw[V] at this;exact bf (eV h) this
  match i,S with
  |0,S=>cases S;exact(Z,i1,rfl,t _ y,by rw[K];exact bf<|eV<|eV y,d,D,rfl)
  |1,S=>cases S;exact(Y,i2,rfl,t _ j,by rw[K];exact bf<|eV<|eV j,c,B,rfl)
  |i+2,S=>simp at S
 .exact W.frame _ _ _ ((_,bJ _ rfl,on,on),r.push _) λ b _ o e=>aJ _ e
 .have p:∀b o,s.heap.get? b=TJ o->N.get? b=TJ o:=λ b o e=>by
   have F:=aF e;exact L b o (λ z=>by have:=aK.mp z;rw[V] at this;exact bf (eV F) this) (by rw[K];exact bf<|eV<|eV F) e
  match i,T with
  |0,T=>
   cases T;have b:=(l 1<|ig _).1;have b:(i2.size:Int)<=(i1.size:Int):=b;exact k _ _ _ (.inl (on,BT)) p
  |1,T=>
   cases T;have b:=(l 0<|qm _).2<|qm _;have b:(i1.size:Int)<(i2.size:Int):=b;exact k _ _ _ (.inr (on,BT)) p
  |i+2,T=>simp at T
end
def Jn(r:V->V->Hp->VK->Prop)(N A:TE):TE:=λ S H Q=>N S H λ x T=>A S T λ y W=>r x y W Q
def Jo(f:Array Value->Array Value)(o:Obj):(UG f o).dict=o.dict:=by
 unfold UG;split<;>rfl
def ue(B h:Ue)(e:TQ)(S:Value)(T:TQ)(W:Value):Prop :=
 ∃V vs,h.get? e=TJ V/\(V.cls=S/\V.dict=TJ T)/\V.data=.fields vs/\vs[1]?=TJ W
def Jp(B h:Ue)(e:TQ)(N W:Value):Prop:=∃T V S,N=.ref T/\B.get? T=TM/\T≠e/\h.get? T=TJ V/\V.data=.fields S/\S[3]?=TJ W
def FlyD(B:Ue)(l:List Env)(e:TQ)(V:Value)(T:TQ)(W:Value)(h:Ue):Prop :=
 B.StaysIn h/\B.get? e=TM/\h.FunFrames B l/\∃S,ue B h e V T S/\Jp B h e S W
def uf(B:Ue)(l:List Env)(e:TQ)(V:Value)(S:TQ)(h:Ue):Prop :=
 B.StaysIn h/\B.get? e=TM/\h.FunFrames B l/\ue B h e V S .none
def FlyD.first(x:FlyD B l e Y U J h):∃Z vs,h.get? e=TJ Z/\Z.cls=Y/\Z.data=.fields vs/\Z.dict=TJ U :=
 let ⟨_,_,_,_,(Z,vs,T,V,S,_),_⟩:=x;(Z,vs,T,V.1,S,V.2)
section
variable {A:Uk}{s:TR}{B:Ue}{Y:Env}{Z:List Env}{e:TQ}
theorem yH{Q:Unit->TR->Prop}(i:A.frames=TJ (Y::Z))(hf:Y.frame=TJ L)(kb:B.StaysIn s.heap)(R:B.get? e=TM)(g:s.heap.FunFrames B<|Y::Z)(x:ue B s.heap e cls u O)
  (q:∀k,FlyD B (Y::Z) e cls u (Ur L) k->s.heap.UpToSlots k->Q () { s with heap:=k }) :
  TU M A (do let f <- frameOf Y;let U <- entryPlaceOf L nx;let tb <- EntryCells.newEntry O f .none (Ur L) .none U;setField (.ref e) 1 tb) Q E s:=by
 refine HT λ c K=>?_;obtain⟨P,vs,p,I,W,h⟩:=x;refine K ?_;clear K c;have H:1<vs.size:=(nG.mp h).1
 have w:e ∉ (Y::Z).filterMap (·.frame):=λ m=>by
  obtain⟨_,o3,j,n⟩:=g.mem m;rw[p] at j;cases j;exact n vs W
 refine ae<|wpAny_frameOf_fun i g hf λ S d=>ae<|wpAny_entryPlaceOf λ U F=>?_;unfold EntryCells.newEntry newFields;refine ae<|dA ?_<|F.sizeOk5 _ _ _ _ _;generalize r:({ cls:=.type "traceback",dict:=TM,data:=.fields ([O,.ref L,.none,Ur L,.none]++(if U.isEmpty then TY 6 Us else U)).toArray }:Obj)=TO;have D:S.get? e=TJ P:=(d.2.1 e w).trans p;have y:B.StaysIn S:=λ b o V=>(d.2.1 b λ m=>by rw[(g.mem m).1] at V;cases V).trans<|kb b o V;have G:(S.push TO).get? e=TJ P:=aJ TO D;have C:S.objs.size≠e:=kM<|aF D;have J:=im W λ a:Array Value=>a.setIfInBounds 1<|Ug S.objs.size;have j:=fY (UG λ a:Array Value=>a.setIfInBounds 1<|Ug S.objs.size) G<|nH J
 have N:∀b o,b≠e->S.get? b=TJ o->((S.push TO).update e<|UG λ a:Array Value=>a.setIfInBounds 1<|Ug S.objs.size).get? b=TJ o:=λ b o l V=>by
  rw[dL _ _<|bI l];exact aJ TO V
 have T:∀b o,s.heap.get? b=TJ o->(∀ws,o.data≠.fields ws)->b≠e:=λ b o V v z=>by
  rw[z,p] at V;cases V;exact v vs W
 refine iW G W H<|q _ ?_ ?_
 .refine(λ b o V=>N b o (λ z=>by rw[z,R] at V;cases V)<|y b o V,R,g.of_keeps λ b o V v=>?_,.ref S.objs.size,?_,?_)
  .obtain⟨X,t⟩:=d.2.2 b o V;exact(_,N b _ (T b o V v) t,on)
  .exact(_,_,j,((tU _ _).trans I.1,(Jo _ _).trans I.2),J,by simp[H])
  .subst r;refine(S.objs.size,_,_,on,y.fresh,C,(dL _ _<|bI C).trans<|bJ S rfl,on,?_);first|(simp;done)|(rcases F with rfl|⟨_,_,_,_,_,_,_,rfl⟩<;>simp)
 .intro b o V v;obtain⟨X,t⟩:=d.2.2 b o V;exact(X,N b _ (T b o V v) t)
theorem Jq{Q:Unit->TR->Prop}(N:A.frames=TJ (Y::Z))(z:Y.frame=TJ L)(x:uf B (Y::Z) e U J s.heap)
  (q:∀W,FlyD B (Y::Z) e U J (Ur L) W->s.heap.UpToSlots W->Q () { s with heap:=W }):TU M A (Vk (.ref e) Y) Q E s:=by
 refine HT λ T V=>?_;obtain⟨j,g,y,d,vs,F,v,S,K⟩:=x;refine V ?_;clear V T;unfold Vk;simp only[z];refine ae<|cV F S K ?_;rw[T9 Cl];exact yH N z j g y (d,vs,F,v,S,K) q
theorem yI{Q:Unit->TR->Prop}(d:A.frames=TJ (Y::Z))(r:Y.frame=TJ L)(x:FlyD B (Y::Z) e U J .none s.heap)
  (q:∀F,FlyD B (Y::Z) e U J (Ur L) F->s.heap.UpToSlots F->Q () { s with heap:=F }):TU M A (Vk (.ref e) Y) Q E s:=by
 refine HT λ v K=>?_;obtain⟨n,D,t,C,⟨G,vs,m,l,y,c⟩,T,P,I,rfl,w,p,g,j,k⟩:=x;refine K ?_;clear K v;unfold Vk;simp only[r];refine ae<|cV m y c ?_;rw[U0 (by simp:(Ug T != Us)=TK)];refine ae<|cV g j k ?_;rw[T9 (by simp[Ur]:¬((Us == Ur L)=TK))];refine ae<|iW g j (nG.mp k).1 ?_;have W:∀b,b≠T->(s.heap.update T<|UG λ a:Array Value=>a.setIfInBounds 3 Us).get? b=s.heap.get? b:=λ b z=>dL _ _<|bI z
 have S:∀b o,s.heap.get? b=TJ o->(∀R,o.data≠.fields R)->b≠T:=λ b o V N z=>by
  rw[z,g] at V;cases V;exact N I j
 refine yH d r (λ b o V=>(W b λ z=>by rw[z,w] at V;cases V).trans<|n b o V) D (t.of_keeps λ b o V N=>(o,(W b<|S b o V N).trans V,on)) (G,vs,(W e<|bI p).trans m,l,y,c) λ F i O=>q F i λ b o V N=>?_;exact O b o ((W b<|S b o V N).trans V) N
theorem qo{Q:Unit->TR->Prop}(x:FlyD B l e U J L s.heap)
  (q:∀j,FlyD B l e U J .none j->s.heap.UpToSlots j->Q () { s with heap:=j }):TU M A (Wy (.ref e) TM) Q E s:=by
 refine HT λ v N=>?_;obtain⟨n,w,p,D,⟨Z,vs,k,t,K,c⟩,T,G,r,rfl,m,d,g,y,i⟩:=x;refine N ?_;clear N v;have z3:3<r.size:=(nG.mp i).1;have W:∀b,b≠T->(s.heap.update T<|UG λ a:Array Value=>a.setIfInBounds 3<|(TM:OA).elim Us λ f=>Ur f).get? b=s.heap.get? b:=λ b z=>dL _ _<|bI z
 have S:∀b o,s.heap.get? b=TJ o->(∀Y,o.data≠.fields Y)->b≠T:=λ b o V F z=>by
  rw[z,g] at V;cases V;exact F r y
 unfold Wy;refine ae<|cV k K c ?_;rw[U0 (by simp:(Ug T != Us)=TK)];refine iW g y z3<|q _ (λ b o V=>(W b λ z=>by rw[z,m] at V;cases V).trans<|n b o V,w,p.of_keeps λ b o V F=>(o,(W b<|S b o V F).trans V,on),.ref T,(Z,vs,(W e<|bI d).trans k,t,K,c),T,_,_,on,m,d,fY _ g<|nH<|im y _,im y _,by simp[z3]) λ b o V F=>(o.slots,(W b<|S b o V F).trans V)
def FlyD.pop(x:FlyD B (Y::Z) e U J L h):FlyD B Z e U J L h:=let ⟨a,b,(_,_,c),d⟩:=x;(a,b,c,d)
theorem Jr{Q:Unit->TR->Prop}(S:A.frames=TJ (Y::Z))(K:Y.frame=TJ L)(x:FlyD B (Y::Z) e U J .none s.heap)
  (q:∀V,FlyD B Z e U J .none V->s.heap.UpToSlots V->Q () { s with heap:=V }):TU M A (WA Y<|.ref e) Q E s:=by
 unfold WA;refine ae<|yI S K x λ N T F=>?_;exact qo (s:={ s with heap:=N }) T λ V W z=>q V W.pop<|F.trans z
theorem Js{Q:Unit->TR->Prop}(S:A.frames=TJ (Y::Z))(K:Y.frame=TJ L)(x:uf B (Y::Z) e U J s.heap)
  (q:∀V,FlyD B Z e U J .none V->s.heap.UpToSlots V->Q () { s with heap:=V }):TU M A (WA Y<|.ref e) Q E s:=by
 unfold WA;refine ae<|Jq S K x λ N T F=>?_;exact qo (s:={ s with heap:=N }) T λ V W z=>q V W.pop<|F.trans z
end
end _L
namespace _L
open PySem PySem.Spec PyProof.Rows Builtin Builtin.ObjectAttr
noncomputable def iY(v:Value)(t:String):Bool:=match v with|.type u=>u == t|_=>TL
def yJ(h:iY v t=TK):v=.type t:=by
 cases v with
 |type u=>cases dJ.mp (show(u == t)=TK from h);rfl
 |_=>exact TN h
noncomputable def ug(v:Option Value)(t:String):Bool:=match v with|some (.builtin u)=>u == t|_=>TL
def Ju(h:ug v t=TK):v=TJ (.builtin t):=by
 cases v with
 |none=>exact TN h
 |some v=>
  cases v with
  |builtin u=>cases dJ.mp (show(u == t)=TK from h);rfl
  |_=>exact TN h
noncomputable def uh(v:Value)(C:TQ):Bool:=match v with|.ref a=>a == C|_=>TL
def Jv(h:uh v C=TK):v=.ref C:=by
 cases v with
 |ref a=>cases dJ.mp (show(a == C)=TK from h);rfl
 |_=>exact TN h
noncomputable def K3{V:Type}(l:List V)(k:V->Bool):Bool:=match l with|[_,_,_,_,x,_]=>k x|_=>TL
def Jw{V:Type}{l:List V}{k:V->Bool}(h:K3 l k=TK):∃a b c d x e,l=[a,b,c,d,x,e]/\k x=TK:=by
 rcases l with _|⟨a,_|⟨b,_|⟨c,_|⟨d,_|⟨x,_|⟨e,_|⟨_,_⟩⟩⟩⟩⟩⟩⟩<;>first|exact(_,_,_,_,_,_,rfl,h)|exact TN h
def K4(K:FG)(C:TQ)(V:LV):Data->Bool
 |.cls S=>S.hasDict && !S.hasDel&&(match S.mro with|v::T=>uh v C&&W.tailIn K V T|[]=>TL)
 |_=>TL
def lC(K:FG)(C:TQ)(V:LV)(S:String):Bool:=match K.lookup C with
 |some o=>iY o.cls "type" && K3 o.slots.toList (ug · S)&&K4 K C V o.data
 |none=>TL
structure i5 (h:Ue)(C:TQ)(bmB:LV)(nid:String):Prop where
 ex:∃(nm q:Str) (N:TQ) (bs bm:LV) (sn:List Str) (sub:LV) (ab:Bool) (col:Option Bool) (dd:OA) (k0 k1 k2 k3 k5:Option Value),
  h.get? C=TJ (excClassObj nm q C N bs bm TK sn sub ab col dd k0 k1 k2 k3 k5 nid)/\OwnTail h bmB bm
def Jx{K:FG}(h:K4 K C Z d=TK):∃(B q:Str) (N:TQ) (D J:LV) (G:List Str) (U:LV) (L:Bool) (Y:Option Bool),d=.cls (B,D,.ref C::J,N,q,TK,G,U,L,Y,TL)/\W.tailIn K Z J=TK:=by
 cases d with
 |cls y=>
  refine HT λ S V=>?_;obtain⟨c1,c2,A,c4,c,z,k,m,b,F,T⟩:=y;refine V ?_;clear V S
  cases z<;>cases T<;>first|exact TN h|skip
  cases A with
  |nil=>exact TN h
  |cons v o=>
   obtain⟨j,g⟩:=iZ.mp (show(uh v C&&W.tailIn K Z o)=TK from h);cases Jv j;exact(_,_,_,_,_,_,_,_,_,on,g)
 |_=>exact TN h
def uj{K:FG}(y:K.In h)(q:lC K C Z Y=TK):i5 h C Z Y:=by
 unfold lC at q
 cases T:K.lookup C with
 |none=>rw[T] at q;cases q
 |some o=>
  rw[T] at q;refine HT λ S V=>?_;obtain⟨A,g,N,⟨l⟩⟩:=o;obtain⟨q,j⟩:=iZ.mp (show(iY A "type" && K3 l (ug · Y)&&K4 K C Z N)=TK from q);obtain⟨v,z⟩:=iZ.mp q;refine V ?_;clear V S;cases yJ v;refine HT λ S V=>?_;obtain⟨a,b,c,d,x,e,rfl,z⟩:=Jw z;refine V ?_;clear V S;cases Ju z;refine HT λ S V=>?_;obtain⟨_,_,_,_,_,_,_,_,_,rfl,F⟩:=Jx j;refine V ?_;clear V S;exact⟨(_,_,_,_,_,_,_,_,_,_,_,_,_,_,_,y _ _ T,W.tail_of_in y F)⟩
noncomputable abbrev dy(C t:TQ)(d:OA):Obj:={ cls:=.ref C,dict:=d,data:=.fields #[.ref t,.none,.none,.none,.bool TL,.none] }
noncomputable def bj(a C:TQ)(d:OA):HO:=.ext λ h=>∃t,h.get? a=TJ (dy C t d)
def uk{h:Ue}{a C t:TQ}(e:h.get? a=TJ (dy C t d)):ObjOk P w H h a<|bj a C d:=((t,e),(_,e),(by rintro _ _ ⟨V,q⟩ k;exact (V,k _ q)))
noncomputable def dN(d:TQ)(S:List<|Str×V):HO:=.ext λ h=>S.length<=1000/\∃T,h.Ns1 d T/\(∀f,RelO (S.lookup f) (T f))/\VZ T (S.map (·.1))
def yK{h:Ue}{S:List (Str×V)}(z:S.length<=1000)(e:h.Ns1 d Z)(r:∀f,RelO (S.lookup f) (Z f))(F:VZ Z (S.map (·.1))):ObjOk P w H h d (dN d S) :=
 ((z,Z,e,r,F),let ⟨o,_,_,q,_⟩:=e;(o,q),(by rintro _ _ ⟨y,N,A,r2,K⟩ k;exact (y,N,let ⟨o,W,T,q,c⟩:=A;(o,W,T,k o q,c),r2,K)))
section
variable {A:Uk}{g:Array VD}{dr:XU}{Z:Nat}{os:OsState}
theorem Jy{K:FG}{S:LV}{Q:VS}(F:Vy B L U J)(m:K.In h)(X:i5 h C J L)(a:W.findIn K (.ref C) "__init__"=TJ (TJ<|.ref D))(x:W.typeIn K (.ref D)=TJ (.type "function"))
  (p:TU (TX Y w) (A.under<|.builtin "type.__call__" (.ref C::S,[])) (call (.ref D)<|.ref (h.objs.size+1)::S) (λ r i=>r=.none/\Q (.ref<|h.objs.size+1) i) E ((h.push { cls:=.type "tuple",data:=.seq S.toArray }).push<|dy C h.objs.size TM,g,dr,Z,os))
  (M:S.length<=TW):TU (TX Y w) A (call (.ref C) S) Q E (h,g,dr,Z,os):=by
 refine HT λ j y=>?_;obtain⟨nm,q,N,u,t,sn,O,H,n,f,k0,k1,k2,k3,k5,V,T⟩:=X.ex;refine y ?_;clear y j;have P:=tc_lookup;have R:=tc_bind<|.ref C;have I:((h,g,dr,Z,os):TR).TypeIs (.ref C) "type" := (_,V,rfl);refine gZ<|Xb ?_;show TU _ _ (callAny (.ref C) _) _ _ _
 repeat (any_goals (first|assumption|wp_step|with_reducible refine nO V ?_))
 refine gK rfl<|codeAny_call_builtin_at (tR _<|by decide +kernel) entry_typeCall<|wpAny_check_type_call_sub V ?_
 repeat (first|wp_step|with_reducible refine wpAny_madeBy_exc V ?_|with_reducible refine nO V ?_)
 refine codeAny_call_builtin_code (tR _ F.quiet)<|wpAny_check_new_subT F T V<|codeAny_exc_new_subT F T V ?_ M;show TU _ _ _ _ _ (((h.push { cls:=.type "tuple",data:=.seq S.toArray }).push<|dy C h.objs.size TM,g,dr,Z,os):TR);generalize v:(h.push { cls:=.type "tuple",data:=.seq S.toArray }).push (dy C h.objs.size TM)=s at p ⊢;have k:∀b o,h.get? b=TJ o->s.get? b=TJ o:=λ b o e=>by rw[<- v];exact aJ _<|aJ _ e
 have c:s.get? (h.objs.size+1)=TJ (dy C h.objs.size TM):=by rw[<- v];heap_get
 have d:=k _ _ V;have l:(Ug C::t).contains (.ref C)=TK:=Cr;unfold isInstance
 repeat (first|wp_step|with_reducible refine nO c ?_|(with_reducible refine s0x d ?_;rw[l]))
 refine(qp (m.keeps k) a).at ?_;refine dH<|ae<|(W.bind_fn (m.keeps k) _ x).at<|ae<|cj p (λ r i G=>?_) λ _ _ z=>z;obtain⟨rfl,z⟩:=G;wp_walk;exact z
end
section
variable {A:Uk}{h:Ue}{g:Array VD}{dr:XU}{Z:Nat}{os:OsState}{C x:TQ}{K:FG}
theorem Jz{z:LV}{Q:VS}(F:Vy B J Y U)(X:i5 h C U J)(K:h.get? x=TJ (dy C t d))(i:z.length<=TW)
  (j:∀W:Ue,W.get? x=TJ (dy C h.objs.size d)->(∀b o,b≠x->h.get? b=TJ o->W.get? b=TJ o)->Q .none (W,g,dr,Z,os)) :
  TU (TX L w) A (call (.builtin Y)<|.ref x::z) Q E (h,g,dr,Z,os):=by
 refine HT λ S V=>?_;obtain⟨G,q,N,s,r,M,k,m,y,p,l,k1,n,a,D,v,T⟩:=X.ex;refine V ?_;clear V S;refine gZ<|nE F.init.plain F.initEntry<|wpAny_check_init_subT F T v K rfl ?_;wp_walk;refine j _ ?_ λ b o c e=>?_
 .rw[fY _ (aJ _ K) rfl];rfl
 .rw[dL _ _<|bI c];exact aJ _ e
noncomputable def jO:LV->Bool
 |.ref _::r=>jO r
 |l=>l == [.type "ValueError",.type "Exception",.type "BaseException",.type "object"]
theorem yL(V:Value):∀ {l:LV},jO l=TK->refuseLoop V "__setattr__" l=Uo ()
 |[],e=>by cases e
 |.ref c::r,e=>by rw[refuseLoop_ref];exact yL V e
 |.type n::r,e=>by rw[dJ.mp<|show(Uq n::r == _)=TK from e];exact PySem.F.store_ValueError.passes V
 |.int _ _::r,e|.bool _::r,e|.none::r,e|.str _ _::r,e|.builtin _::r,e|.float _ _::r,e|.bytes _ _::r,e=>by cases e
theorem yM:∀ {l:LV},jO l=TK->l.contains (.type "object")=TK
 |[],e=>by cases e
 |.ref c::r,e=>by rw[um,yM (l:=r) e,jP]
 |.type n::r,e=>by rw[dJ.mp<|show(Uq n::r == _)=TK from e];decide +kernel
 |.int _ _::r,e|.bool _::r,e|.none::r,e|.str _ _::r,e|.builtin _::r,e|.float _ _::r,e|.bytes _ _::r,e=>by cases e
theorem yN:∀ {l:LV},jO l=TK->l.contains (.type "BaseException")=TK
 |[],e=>by cases e
 |.ref c::r,e=>by rw[um,yN (l:=r) e,jP]
 |.type n::r,e=>by rw[dJ.mp<|show(Uq n::r == _)=TK from e];decide +kernel
 |.int _ _::r,e|.bool _::r,e|.none::r,e|.str _ _::r,e|.builtin _::r,e|.float _ _::r,e|.bytes _ _::r,e=>by cases e
structure AtX (K:FG)(C:TQ):Prop where
 over:(W.clsIn K C).any (λ cd=>cd.hasDict&&jO cd.mro)=TK
 sa:W.findIn K (.ref C) "__setattr__"=TJ (TJ<|.builtin "object.__setattr__")
 ga:W.findIn K (.ref C) "__getattribute__"=TJ (TJ<|.builtin "BaseException.__getattribute__")
def AtX.cls(a:AtX K C):∃Y,W.clsIn K C=TJ Y/\Y.hasDict=TK/\jO Y.mro=TK:=by
 obtain⟨Y,V,q⟩:=W.any_some a.over;rw[bq] at q;exact(Y,V,q.1,q.2)
def uo{vs:Array Value}(A:h.get? x=TJ o)(T:o.cls=.ref C)(N:o.data=.fields vs)(S:Option Obj)(V:match o.dict,S with|some Y,TJ U=>h.get? Y=TJ U|none,TM=>True|_,_=>False):W.InstAt h x o C S :=
 (A,T,by unfold W.notCls;rw[N],V)
theorem yO{s:TR}{R:Wa->TR->Prop}(S:K.In s.heap)(I:W.InstAt s.heap x D C L)(a:AtX K C)(p:W.takerIn K C U=TJ TM)
  (m:∀b,TU (TX Y w) A.in1 (storeInOwnDict (.ref x) (.ref C) (.str U J) U v b) (λ z N=>match z with|.done f=>R (.ok f) N|.again c2=>c2.quiet=TK/\UM (TX Y w) A c2 R N) (λ e N=>R (.error e) N) s) :
  UM (TX Y w) A (.call (.builtin "object.__setattr__") ([.ref x,.str U J,v],[])) R s:=by
 obtain⟨F,g,_,T⟩:=a.cls;have SO:=PySem.F.store_object
 have j:F.mro.isEmpty=TL:=by cases q:F.mro with|nil=>rw[q] at T;cases T|cons _ _=>rfl
 have y:W.Looks (TX Y w) s.heap (isInstance (.ref x)<|.type "object") TK:=I.type.andThen (W.looks_mroIn S<|by unfold W.mroIn;rw[g,WL,T9 (by rw[j];decide),yM T]);obtain⟨V,c,r⟩:=Option.bind_eq_some_iff.mp p
 have d:W.Looks (TX Y w) s.heap (storeTaker? V) TM:=by
  cases V with
  |none=>exact s1z
  |some o=>
   obtain⟨b,k,e⟩:=jQ.mp r
   cases b with
   |true=>cases e
   |false=>exact(W.looks_takesIn S k).andThen s1z
 refine nE SO.slot.plain SO.entry<|@W.check_slot (TX Y w) _ _ s "object.__setattr__" "object" "__setattr__" (.ref x) [.str U J,v] [] _ SO.kind SO.split y (SO.args (.ref x) (.str U J) v) ?_;rw[W.osa_eq,refuse_eq];have i:W.Looks (TX Y w) s.heap (mroOf<|.ref C) F.mro:=(s1n S g).andThen s1z;refine ae<|ae<|I.type.here<|ae<|i.here ?_;rw[yL _ T];refine aq<|ae<|I.type.here<|ae<|(qp S c).here<|ae<|d.here<|m _
theorem JA{v:Value}{Q:Unit->TR->Prop}(d:K.In h)(a:AtX K C)(X:W.takerIn K C Y=TJ TM)(z:h.get? x=TJ (dy C t TM))
  (P:∀(S:Ue) (i:Nat),S.get? x=TJ (dy C t<|TJ h.objs.size)->S.Ns1 h.objs.size (λ y=>if y=Y then TJ v else TM)->(∀b o,b≠x->h.get? b=TJ o->S.get? b=TJ o)->Q () (S,g,dr,i,os)) :
  TU (TX J w) A (setAttr (.ref x) Y v) Q E (h,g,dr,Z,os):=by
 have I:=uo z rfl rfl TM ja;refine W.set_plain d I a.sa<|yO (s:=(h,g,dr,Z+1,os)) d I a X λ b=>?_;obtain⟨u,O,T,_⟩:=a.cls;have F:x≠h.objs.size:=bf<|aF z;refine ae<|aq<|ae<|ae<|s0p z<|ae<|W.Looks.here (s:=(h,g,dr,Z+1,os)) (s1n d O) ?_;rw[T];have N:(h.push { cls:=.type "dict",data:=.dict #[] }).get? x=TJ (dy C t TM):=aJ _ z;refine ae<|wpAny_alloc'<|ae<|wpAny_update' N<|aq ?_;generalize c:(h.push { cls:=.type "dict",data:=.dict #[] }).update x (λ o=>{ cls:=o.cls,dict:=TJ h.objs.size,data:=o.data,slots:=o.slots })=U;have M:U.get? x=TJ (dy C t<|TJ h.objs.size):=by rw[<- c];exact fY _ N rfl
 have B:U.get? h.objs.size=TJ { cls:=.type "dict",data:=.dict #[] }:=by rw[<- c];exact(s0y _ _ _ _<|bI F).trans<|Heap.get?_push_at rfl rfl
 have G:∀b o,b≠x->h.get? b=TJ o->U.get? b=TJ o:=λ b o p e=>by rw[<- c];exact(s0y _ _ _ _ p).trans<|aJ _ e
 have H:U.Ns h.objs.size λ _=>TM:=(_,#[],_,B,rfl,λ e R=>U1 R Cr,λ _=>rfl);show TU _ _ (storeInDict h.objs.size _ Y v) _ _ _;unfold storeInDict newKeyGuard;refine ae<|aq<|ae<|wpAny_nsSet1 (Heap.Ns1.of_empty H) λ S l n=>?_;refine HT λ j V=>?_;obtain⟨q,D,L,r,m,k⟩:=l.count<|PySem.Within.cons Y v PySem.Within.nil;refine V ?_;clear V j;refine ae<|WU r (by rw[m];refine WQ<|cw k ?_;rw[Up,Wf,iO];lia) ?_;exact aq<|P _ _ ((n.2 x F).trans M) l λ b o p e=>(n.2 b<|bf<|aF e).trans<|G b o p e
theorem JB{v:Value}{Q:Unit->TR->Prop}(F:K.In h)(a:AtX K C)(B:W.takerIn K C Y=TJ TM)(m:h.get? x=TJ (dy C t<|TJ U))(k:h.Ns1 U J)
  (G:VZ J M) (D:M.length<1000)
  (n:∀(N:Ue) (c:Nat),N.Ns1 U (λ y=>if y=Y then TJ v else J y)->Vj U h N->Q () (N,g,dr,c,os)) :
  TU (TX L w) A (setAttr (.ref x) Y v) Q E (h,g,dr,Z,os):=by
 refine HT λ S V=>?_;obtain⟨O,H,X,l,o⟩:=id k;refine V ?_;clear V S;have I:=uo m rfl rfl (TJ O) l;refine W.set_plain F I a.sa<|yO (s:=(h,g,dr,Z+1,os)) F I a B λ b=>?_;obtain⟨P,i,T,_⟩:=a.cls;refine ae<|aq<|ae<|ae<|s0p m<|ae<|W.Looks.here (s:=(h,g,dr,Z+1,os)) (s1n F i) ?_;rw[T];refine aq (a:=TJ U)<|ae<|aq<|ae<|wpAny_nsSet1 (s:=(h,g,dr,Z+1,os)) k λ N r R=>?_;refine HT λ S V=>?_;obtain⟨u,e,p,d,j,z⟩:=r.count<|PySem.Within.cons Y v G;refine V ?_;clear V S;refine ae<|WU d (by rw[j];refine WQ<|cw z ?_;rw[Up,iO];lia) ?_;exact aq<|n _ _ r R
theorem JC{vs:Array Value}{Q:VS}(S:K.In h)(a:AtX K C)(D:W.findIn K (.ref C) U=TJ TM)(F:W.findIn K (.ref C) "__getattr__"=TJ TM)
  (R:h.get? x=TJ o) (i:o.cls=.ref C) (t:o.data=.fields vs) (z:o.dict=TJ L) (y:h.Ns1 L P) (O:P U=TJ v) (l:W.handedIn v=TK) (G:Q v (h,g,dr,Z+1,os)) :
  TU (TX Y w) A (getAttr (.ref x) U J) Q E (h,g,dr,Z,os):=by
 obtain⟨b,T,N,V⟩:=a.cls;have m:=PySem.F.excAttr_ValueError;obtain⟨X,B,n⟩:=FC y;have I:=uo R i t (TJ X) (by rw[z];exact B);have LT:W.Looks (TX Y w) h (VC<|.ref x)<|.ref C:=I.type;have r:=qp (M:=TX Y w) S a.ga;have s:=qp (M:=TX Y w) S F
 have k:b.mro.isEmpty=TL:=by cases q:b.mro with|nil=>rw[q] at V;cases V|cons _ _=>rfl
 have isB:W.Looks (TX Y w) h (isInstance (.ref x)<|.type "BaseException") TK:=LT.andThen (W.looks_mroIn S<|by unfold W.mroIn;rw[T,WL,T9 (by rw[k];decide),yN V]);have LF:W.Looks (TX Y w) h (find (.ref x) (.ref C) U)<|.value v:=W.looks_find S I (W.findObj_own (by unfold W.hasDictIn;rw[T];exact N) D rfl<|by rw[n,O]);have e:=m.ga.bind<|.ref x;have j:(J&&Ww (UJ "BaseException.__getattribute__"))=TL:=by cases J<;>rfl
 have c:(UJ "BaseException.__getattribute__" == UJ "object.__getattribute__")=TL:=by decide +kernel
 have d:(Ww (Ug C)&&UJ "BaseException.__getattribute__" == UJ "object.__getattribute__")=TL:=by rw[c];rfl
 unfold getAttr getAttrBy;refine ae<|wpAny_mkText<|dH<|ae<|LT.at<|ae<|r.at ?_;dsimp only;rw[d,T9 Cl];have p:W.Looks (TX Y w) h (hookBefore<|.ref C) TM:=W.looks_hook S F;refine ae<|p.at<|ae<|jL<|dH ?_;unfold WO;rw[j,T9 Cl];unfold Xp;rw[e];refine ae<|aq ?_;show TU _ _ (call (.builtin "BaseException.__getattribute__") [.ref x,.str U Z]) _ _ _;refine gZ<|nE m.ga.plain PySem.F.entry_bexc_ga<|@W.check_slot (TX Y w) _ _ (h,g,dr,Z+1,os) "BaseException.__getattribute__" "BaseException" "__getattribute__" (.ref x) [.str U Z] [] _ (by decide +kernel) (by decide +kernel) isB (PySem.F.args_bexc_ga _ _) ?_;unfold Builtin.«object.__getattribute__»;refine ae<|aq<|ae<|aq<|ae<|LT.at<|ae<|LF.at ?_;refine aq ?_;show TU _ _ (handedOut v) _ _ _;rw[W.handedOut_of l];exact aq G
end
noncomputable def rm(H:Hp)(a:TQ):Hp:=λ b=>if b=a then TM else H b
def jR{a b:TQ}(h:b≠a):rm H a b=H b:=by unfold rm;rw[T9 h]
def yP:rm H a a=TM:=by unfold rm;rw[U0 rfl]
def e8(P:Uh)(w:Ui):Zq:=λ V H s E e S=>
 ∃(a C W:TQ) (T:Hp) (B:Ue),e=.ref a/\S.os=s.os/\UV S.gens/\FlyD B V a (.ref C) W .none S.heap /\
  (∀b o,s.heap.get? b=TJ o->H b=TM->b ∉ YF V->B.get? b=TJ o)/\(∀b o,s.heap.get? b=TJ o->b ∉ YF V->∃N,B.get? b=TJ N) /\
  Un (YF V) [] H T s.heap S.heap/\HOk P w T B/\E (.ref C) (TJ W) T
section
variable {K:FG}{H:Hp}
def JD{l:List TQ}(j:HOk P w H h)(N:H a=TJ (bj a C d))(K:∀b∈l,H b=TM):HOk P w (rm H a)<|W.hideAll h<|a::l:=λ b u e=>by
 have T:b≠a:=λ z=>by rw[z,yP] at e;cases e
 rw[jR T] at e
 have S:∀c v,H c=TJ v->c≠a->c ∉ a::l:=λ c v q F z=>by
  rcases aD.mp z with z|z
  .exact F z
  .rw[K c z] at q;cases q
 have V:∀c v,H c=TJ v->v≠bj a C d->c≠a:=λ c v q y z=>by rw[z,N] at q;cases q;exact y rfl
 refine(j b u e).stay (λ c v A q=>kJ _ q ?_) (λ c q=>?_) λ c g q=>?_
 .rcases A with z|z
  .rw[z];exact S b u e T
  .exact S c _ z (V c _ z<|by unfold bj;intro z;cases z)
 .rw[jR<|V c _ q<|by unfold bj;intro z;cases z];exact q
 .rw[jR<|V c _ q<|by unfold bj;intro z;cases z];exact q
def JE:kQ (e8 P w) (dw (e8 P w) P w K D U N J Y f L A Z s H E) E:=by
 intro n G l s1 e x I m;refine HT λ F T=>?_;obtain⟨a,C,g,j,B,rfl,os,S,d,z,v,t,y,k⟩:=m;refine T ?_;clear T F;refine Jr I.ok.frames rfl d λ c V W=>?_;obtain⟨r,p,i⟩:=pP I z (λ b o _=>v b o) t V.1 W;exact(a,C,g,j,B,on,os.trans I.os,S,V,r,p,i,y,k)
def ur(X:Cx)(S:XK):Prop:=∀(T:LO) (W:St) (H:Hp) (s:TR) (a C V:TQ),Inv X T W H s->H a=TJ (bj a C<|TJ V)->X.s₀.heap.objs.size<=a->S (.ref C) (TJ V) (rm H a)->X.xe (.ref a) s
def JF:ur (dw (e8 P w) P w K mg J N U Y f L A Z s H E) E:=by
 intro h σ T s1 a C g I d V l;have V:s.heap.objs.size<=a:=V;have st:s1.heap.FunFrames J<|UE U Y s.heap.objs.size f L::Z:=I.stack;obtain⟨⟨t,F⟩,_⟩:=(show ObjOk P w T s1.heap a (bj a C<|TJ g) from I.hok a _ d);generalize m:W.hideAll s1.heap (a::YF (UE U Y s.heap.objs.size f L::Z))=B
 have p:uf B (UE U Y s.heap.objs.size f L::Z) a (.ref C) g s1.heap:=by
  rw[<- m];exact(λ b o q=>s1s _ q,W.hideAll_none _<|.head _,W.funFrames_hide st λ k D b x=>bz _<|xL k D b x,_,_,F,(on,on),on,on)
 refine Js I.ok.frames rfl p λ i S j=>?_;have get:∀b o,s1.heap.get? b=TJ o->b≠a->b ∉ YF (UE U Y s.heap.objs.size f L::Z)->B.get? b=TJ o:=λ b o q M z=>by rw[<- m];exact kJ _ q λ y=>(aD.mp y).elim M z
 have r:∀c v,T c=TJ v->v≠bj a C (TJ g)->rm T a c=TJ v:=λ c v q Q=>by
  rw[jR λ z=>by rw[z,d] at q;cases q;exact Q rfl];exact q
 obtain⟨O,R,X⟩:=pP (H':=rm T a) I (λ b o q n z=>get b o q (λ y=>by rw[y,d] at n;cases n) z) (λ b o G q z=>(o,get b o q (λ y=>dU _<|bH (y ▸ G) V) z))
  (λ _ _ q _ _ _=>q,λ _ _ q _ _ _=>(_,q),λ b o q n _=>by unfold rm;split;rfl;exact n,λ _ _ q _=>(_,q),λ b xs e=>r b _ e (by unfold bj;intro z;cases z),λ b o u e=>r b _ e (by unfold bj;intro z;cases z),λ b ps e=>(#[],by rw[Array.append_empty];exact r b _ e<|by unfold bj;intro z;cases z)) S.1 j
 exact(a,C,g,rm T a,B,on,I.os,I.bare,S,O,R,X,by rw[<- m];exact JD I.hok d I.stkFree,l)
end
section
variable {A:Uk}{E:VS}{bmB:LV}
theorem JG(j:bmB.contains (.type "BaseException")=TK)(c:A.handled=TM)
  (q:TU M A v (λ u s1=>∃e t d,u=.ref e/\i5 s1.heap C bmB nid/\s1.heap.get? e=TJ (dy C t d)/\E (.ref e) s1) E s):TU M A (Xy Z (TJ v) TM) Q E s:=by
 unfold Xy;refine ae<|cj q (λ u s1 z=>?_) λ _ _ z=>z;refine HT λ S V=>?_;obtain⟨e,t,d,rfl,X,o,y⟩:=z;obtain⟨x,a,N,b,K,Y,k,m,F,r,i,k1,l,n,w,W,T⟩:=X.ex;obtain⟨p,g,dr,U,os⟩:=s1;refine V ?_;clear V S;have isB:(Ug C::K).contains (.type "BaseException")=TK:=by rw[um,T.hasType j,jP]
 repeat (first|with_reducible refine nO o ?_|(with_reducible refine s0x W ?_;rw[isB])|with_reducible refine nO W ?_|wp_step)
 exact wpAny_raiseNew_none c y
end
structure P5 (K:FG)(C f:TQ)(bmB:LV)(nid:String):Prop where
 cls:lC K C bmB nid=TK
 init:W.findIn K (.ref C) "__init__"=TJ (TJ<|.ref f)
 fn:W.isFn K (.ref f)=TK
 kp:W.keepIn K (.ref C)=TK
def JI(C:TQ)(N:Sp)(W:XK)(t:TA):TS:=λ _ A H=>t A H λ vs V=>vs.length<=TW/\∀a,V a=TM ->
 N (.ref a::vs) (Yu V a<|bj a C TM) (λ v S=>v=.non/\∃T,S a=TJ (bj a C<|TJ T)/\W (.ref C) (TJ T) (rm S a)) E0
theorem JJ{X:Cx}{T:Expr}{y:List Expr}
  (R:Vy B Y J bm) (hc:X.calm=TK) (hg:Gl X x) (hm:X.mg x=TJ (.ref C)) (M:P5 X.K C f bm Y) (F:FnOk X.prog X.w X.K X.mg X.base YJ k f fd ps sp) (hr:Room (k+1) X.A) (n:Binds X.K fd ps []) (hx:ur X Ex) (ha:PA X (T::y) t)
  (w:autoParam ((x == ("__debug__" : Str))=TL) Cl._auto_1) (he:autoParam (Ud (T::y) X.env=(TL,eval T X.env)::Ud y X.env) Ty._auto_1) (L:autoParam ((UD Z<|Ud y X.env).any (·.1)=TL) Ty._auto_1) :
  PS X (.Raise (TJ<|.Call (.Name x np) (T::y) [] Z) TM U)<|JI C sp Ex t:=by
 intro p s O H D I h;rw[arm_exec_Raise];show TU (TX X.prog X.w) X.A (do Vv U;Xy X.env (TJ<|do let v <- eval (.Call (.Name x np) (T::y) [] Z) X.env;Vv U;Uo v) TM) _ _ s;refine ae<|jG<|JG (C:=C) (bmB:=bm) (nid:=Y) R.hasBase (I.ok.hd hc)<|ae ?_;refine iP<|fV I hg hm ?_ w;refine pA (h₀:=X.base) I.ok.mod.kin M.kp (Yw (ha Z p s O H _ I h) λ N s1 (vs,H1,z,r,hz,q)=>(z.kIn,?_)) he L;have E:N.length<=TW:=by rw[<- r.length];exact hz
 refine HT λ A W=>?_;obtain⟨S,g,dr,Q,os⟩:=s1;refine W ?_;clear W A;have hX:=uj z.kIn M.cls;have hq:=q (S.objs.size+1)<|z.hok.fresh<|nh _;show TU _ _ (call (.ref C) N) _ _ _;refine Jy R z.kIn hX M.init (dJ.mp M.fn) ?_ E;have gx:((S.push { cls:=.type "tuple",data:=.seq N.toArray }).push<|dy C S.objs.size TM).get? (S.objs.size+1)=TJ (dy C S.objs.size TM):=by heap_get
 generalize a:(S.push { cls:=.type "tuple",data:=.seq N.toArray }).push (dy C S.objs.size TM)=l at gx ⊢;have kk:∀b o,S.get? b=TJ o->l.get? b=TJ o:=λ b o e=>by rw[<- a];exact aJ _<|aJ _ e
 have c:Inv X p O (Yu H1 (S.objs.size+1)<|bj (S.objs.size+1) C TM) (l,g,dr,Q,os):=z.laid (t':=Q) kk (nh _)<|uk gx;have r2:Vals (V.ref (S.objs.size+1)::vs)<|Ug (S.objs.size+1)::N:=.cons rfl r
 have hl:(Ug (S.objs.size+1)::N++[]).length=ps.length:=by
  have e:=r2.length;rw[F.len _ _ _ _ hq] at e;simpa using e.symm
 have d:=n (l,g,dr,Q,os) (Ug (S.objs.size+1)::N) c.kIn hl;rw[eR] at d;refine gZ<|jI (F.run _ X.stack _ _ (Ug (S.objs.size+1)::N,[]) (Ug (S.objs.size+1)::N) _ _ E0 (hr.make C N []) (c.env0.make C N []) d r2 hq) λ r s' K=>?_
 cases r with
 |error e=>exact Uw K
 |ok fl=>
  cases fl with
  |ret u=>
   refine HT λ A W=>?_;obtain⟨v,P,m,rv,ev,i,j,q3⟩:=c.after K;refine W ?_;clear W A;subst ev;refine(rv,ae<|jG<|aq ?_);obtain⟨⟨t3,G⟩,_⟩:=(show ObjOk X.prog X.w P s'.heap (S.objs.size+1) (bj (S.objs.size+1) C<|TJ i) from m.hok _ _ j);exact(_,t3,TJ i,on,uj m.kIn M.cls,G,hx p O P s' _ C i m j (cw z.sz<|nh _) q3)
  |next|brk|cont=>exact Uw K
end _L
namespace _L
open PySem PySem.Spec PyProof.Rows PySem.W
noncomputable def iu(a C d:TQ):HO:=.ext λ h=>∃o vs,h.get? a=TJ o/\o.cls=.ref C/\o.data=.fields vs/\o.dict=TJ d
def JK{H:Hp}(h:H a=TJ o):Yu H a o=H:=by
 funext b;by_cases e:b=a
 .rw[e,bB,h]
 .rw[av e]
variable {X:Cx}
section
variable {e:Expr}{f:Str}{Z:Pos}{Y U:TE}
def JL(K:FG)(W:LV)(V:String)(t:TA):TE:=λ N H Q=>t N H λ vs S=>∃a C d T,vs=.ref a::T/\S a=TJ (bj a C d)/\lC K C W V=TK/\T.length<=TW/\Q .non S
set_option tactic.hygienic true in
theorem JM{k S:Pos}{V:Expr}{T:List Expr}{p:Sem Bool}(i:Vy B E L O)(hg:Gl X x)(hm:X.mg x=TJ (.ref G))
  (w:W.specialIn X.K (.ref G) "__getattribute__"=TJ (TJ<|.builtin "type.__getattribute__")) (y:W.readsIn X.K G (.type "type")=TK) (Y:W.findCls X.K (.ref G) (.type "type") "__init__"=TJ (.val<|.builtin L))
  (U:W.handedIn (.builtin L)=TK) (ha:PA X (V::T) t)
  (hb:eval (.Call (.Attribute (.Name x k) "__init__" S) (V::T) [] Z) X.env=(do
   let M <- eval (.Name x k) X.env
   Vv S.atName
   let (f,D) <- Va [M] (getMethod M "__init__" p)
   callWith Z f D (UD Z<|Ud (V::T) X.env) (Yd Z<|WH [] X.env)):=by rfl)
  (j:autoParam ((x == ("__debug__" : Str))=TL) Cl._auto_1) (he:autoParam (Ud (V::T) X.env=(TL,eval V X.env)::Ud T X.env) Ty._auto_1) (c:autoParam ((UD Z<|Ud T X.env).any (·.1)=TL) Ty._auto_1) :
  PE X (.Call (.Attribute (.Name x k) "__init__" S) (V::T) [] Z)<|JL X.K O E t:=by
 intro l s σ H Q I h;refine W.methodCall_KW (pl:=p) (fV I hg hm ?_ j) hb;refine W.method_cls I.kIn w<|W.cls_value I.kIn y Y U ?_;have b:=ha Z l { s with toks:=s.toks+1 } σ H _ (I.tok _) h;rw[he] at b ⊢;refine W.callWith_of (P:=λ _=>True) (by show((TL || (UD Z<|Ud T X.env).any (·.1)) || TL)=TL;rw[c];rfl) (λ _ _=>(.machine,.inr<|.inl rfl,W.Looks.of_pure rfl))<|tF<|Yw b λ us s1 (vs,m,z,r,a,C,d,ws,n,v,hc,hz,q)=>(Fr,?_);subst n
 cases r with
 |cons r0 r=>
  rename_i u us' R;refine HT λ F N=>?_;obtain rfl:u=Ug a:=r0;obtain⟨hp,g,dr,tk,os⟩:=s1;obtain⟨⟨t0,A⟩,_⟩:=(show ObjOk X.prog X.w m hp a (bj a C d) from z.hok a _ v);refine N ?_;clear N F;refine Jz i (uj z.kIn hc) A (by rw[<- r.length];exact hz) λ y K kk=>(.non,m,?_,on,q);have J:=z.write (x:=a) (e:=a) (o:=bj a C d) (h':=y) (t':=tk) (by rw[v];exact ja) (.inl rfl) kk (_,K)<|uk K;rw[JK v] at J;exact J
def JN(K:FG)(Y U:TE)(f:Str):TS:=λ D T H=>U T H λ y W=>Y T W λ x S=>∃a C,x=.ref a/\S a=TJ (bj a C TM)/\AtX K C/\NoAttr K C f /\
 ∀V,S V=TM->V≠a->D.nx T (Yu (Yu S V<|dN V [(f,y)]) a<|bj a C<|TJ V)
def JO(ha:PE X o Y)(hv:PE X J U)(hs:UQ J (TJ<|.Attribute o f L) Z.line X.env=Uo TL):PS X (.Assign [.Attribute o f L] J Z)<|JN X.K Y U f:=by
 intro Q s M H D I h;refine yQ (Yw (hv Q s M H _ I h) λ u s1 (y,P,I1,ry,q)=>Yw (ha Q s1 M P _ I1 q) λ ov s2 t=>?_) hs;refine HT λ A T=>?_;obtain⟨x,K,j,rx,a,C,ex,i,c,n,q2⟩:=t;refine T ?_;clear T A;subst ex;refine HT λ A T=>?_;obtain rfl:ov=Ug a:=rx;obtain⟨W,g,dr,tk,os⟩:=s2;obtain⟨⟨t0,N⟩,_⟩:=(show ObjOk X.prog X.w K W a (bj a C TM) from j.hok a _ i);refine T ?_;clear T A;refine JA j.kIn c n.taker N λ h2 E m B p=>(M,_,?_,q2 W.objs.size (j.hok.fresh<|ax _)<|kM<|aF N);have Hd:K W.objs.size=TM:=j.hok.fresh<|ax _;have nda:W.objs.size≠a:=kM<|aF N;have R:∀b v,K b=TJ v->v≠bj a C TM->b≠a:=λ b v e G z=>by rw[z,i] at e;cases e;exact G rfl
 have F:∀b,K b=TM->b≠a:=λ b e z=>by rw[z,i] at e;cases e
 have nD:∀b v,K b=TJ v->b≠W.objs.size:=λ b v e z=>by rw[z,Hd] at e;cases e
 have nS:∀b S,W.get? b=TJ S->b≠W.objs.size:=λ b S e=>bf<|aF e
 have V:∀b v,K b=TJ v->v≠bj a C TM->Yu (Yu K W.objs.size<|dN W.objs.size [(f,y)]) a (bj a C<|TJ W.objs.size) b=TJ v:=λ b v e G=>by
  rw[av<|R b v e G,av<|nD b v e];exact e
 refine j.un (h':=h2) (t':=E) (λ b S e k _ _=>p b S (F b k) e,λ b S e k _ _=>(S.slots,p b S (F b k) e),λ b S e k _=>?_,λ b S e _=>?_,λ b xs e=>V b _ e (by unfold bj;intro z;cases z),λ b S v e=>V b _ e (by unfold bj;intro z;cases z),λ b ps e=>(#[],?_)) λ b v e=>?_
 .rw[av<|F b k,av<|nS b S e];exact k
 .by_cases d:b=a
  .exact(_,d ▸ m)
  .exact(S,p b S d e)
 .rw[V b _ e<|by unfold bj;intro z;cases z];simp
 .by_cases d:b=a
  .subst d;rw[bB] at e;cases e;exact uk m
  .rw[av d] at e;by_cases O:b=W.objs.size
   .subst O;rw[bB] at e;cases e;refine yK Cr B (λ r=>?_) λ r l=>?_
    .by_cases z:r=f
     .subst z;simp only[List.lookup_cons_self,fW];exact ry
     .have z2:(r == f)=TL:=by simpa using z
      rw[dM,z2,T9 z];exact ja
    .by_cases z:r=f
     .simp[z]
     .exact U1 (T9 z) l
   .rw[av O] at e;refine(j.hok b v e).stay (λ c2 w hc q=>p c2 w ?_ q) (λ c2 q=>V c2 _ q<|by unfold bj;intro z;cases z) λ c2 xs q=>V c2 _ q (by unfold bj;intro z;cases z)
    rcases hc with z|z
    .rw[z];exact d
    .exact R c2 _ z (by unfold bj;intro z;cases z)
def JP(K:FG)(Y U:TE)(f:Str):TS:=λ D W H=>U W H λ y N=>Y W N λ x S=>∃a C V T,x=.ref a/\S a=TJ (bj a C<|TJ V)/\S V=TJ (dN V T)/\AtX K C/\NoAttr K C f/\T.length<1000 /\
 D.nx W (Yu S V<|dN V<|dW f y T)
def JQ(O:PE X o Y)(hv:PE X J U)(hs:UQ J (TJ<|.Attribute o f L) Z.line X.env=Uo TL):PS X (.Assign [.Attribute o f L] J Z)<|JP X.K Y U f:=by
 intro r s k H D I h;refine yQ (Yw (hv r s k H _ I h) λ u s1 (y,w,B,ry,q)=>Yw (O r s1 k w _ B q) λ ov j F=>?_) hs;refine HT λ T V=>?_;obtain⟨x,m,A,rx,a,C,W,K,M,E,p,c,n,R,q2⟩:=F;refine V ?_;clear V T;subst M;refine HT λ T V=>?_;obtain rfl:ov=Ug a:=rx;obtain⟨i,g,dr,tk,os⟩:=j;obtain⟨⟨t0,N⟩,_⟩:=(show ObjOk X.prog X.w m i a (bj a C<|TJ W) from A.hok a _ E);obtain⟨⟨_,mA,P,rr,l⟩,_⟩:=(show ObjOk X.prog X.w m i W (dN W K) from A.hok W _ p);refine V ?_;clear V T;refine JB A.kIn c n.taker N P l (by simpa using R) λ Q d t j=>(k,_,?_,q2);refine A.write (x:=W) (e:=W) (h':=Q) (t':=d) (by rw[p];exact ja) (.inl rfl) (λ b ob ne e=>(j.2 b ne).trans e) (let ⟨o2,_,_,G,_⟩:=t;(o2,G)) ?_;refine yK (by have:=wZ f y K;lia) t (λ S=>?_) λ S v=>?_
 .rw[wY];by_cases z:S=f
  .rw[U0 z,U0 z];exact ry
  .rw[T9 z,T9 z];exact rr S
 .by_cases z:S=f
  .rw[z];exact(sK f y K).1
  .refine(sK f y K).2 S<|l S λ zz=>v ?_;show(if S=f then TJ u else mA S)=TM;rw[T9 z];exact zz
def lD(K:FG)(Y:TE)(f:Str):TE:=λ T H Q=>Y T H λ x V=>∃a C d S v,x=.ref a/\V a=TJ (iu a C d)/\V d=TJ (dN d S)/\AtX K C/\NoAttr K C f/\NoAttr K C "__getattr__" /\ S.lookup f=TJ v/\Q v V
def yR(i:PE X e Y)(p:VP e f X.env (eval e X.env)=eval e X.env):PE X (.Attribute e f Z)<|lD X.K Y f:=by
 intro j s E H Q I h;refine FE p<|Yw (i j s E H _ I h) λ u s1 A=>?_;refine HT λ S V=>?_;obtain⟨x,N,W,B,a,C,d,r,v,b,k,m,c,n,L,l,q⟩:=A;refine V ?_;clear V S;subst b;refine HT λ S V=>?_;obtain rfl:u=Ug a:=B;obtain⟨y,g,dr,O,os⟩:=s1;obtain⟨⟨M,G,w,K,z,F⟩,_⟩:=(show ObjOk X.prog X.w N y a (iu a C d) from W.hok a _ k);obtain⟨⟨_,J,t,D,_⟩,_⟩:=(show ObjOk X.prog X.w N y d (dN d r) from W.hok d _ m);obtain⟨R,U,T⟩:=RelO.some_of (v:=v) (o:=J f) (by rw[<- l];exact D f);refine V ?_;clear V S;exact JC W.kIn c n L w K z F t U (FD T) (v,N,W.tok _,T,q)
theorem JR(k:Zw X.K C)(e:kitOne X.K (.ref C) (.ref c)=TJ b) :
  bY X (.builtin "isinstance") λ A H Q=>∃a d,A=[.ref a,.ref c]/\H a=TJ (iu a C d)/\Q (.bl b) H:=by
 intro o s p H A m Q I r h;refine HT λ S V=>?_;obtain⟨a,d,rfl,K,q⟩:=h;obtain⟨u,g,rfl,v,r2⟩:=jH r;refine V ?_;clear V S;cases (show u=Ug a from v);cases (show g=Ug c from r2);refine HT λ S V=>?_;obtain⟨⟨y,N,F,T,W,_⟩,_⟩:=(show ObjOk X.prog X.w H s.heap a (iu a C d) from I.hok a _ K);refine V ?_;clear V S;exact kia_one (xO k) I.kIn (y,N,F,T,W) e (λ z=>nomatch z) λ j=>(.bl b,H,I.tok j,on,q)
end
section
variable {T:Zq}{k:Nat}{f C:TQ}{B:Uu}{W:List Str}{J:Sp}{U:List V}{D:LV}{E:XK}{L:St->XK}{x m:Str}{p Y Z:Pos}{e o:Expr}{G:List Expr}{S:TE}{t:TA}
end
section
open PySem.Builtin PySem.Builtin.Str
end
section
variable {a b e:Expr}{L:List Expr}{D U J:TE}{t:TA}{u v:TS}{st:Uc}{rest V:List Uc}{Y p Z:Pos}{x:Str}
end
section
variable {k j:Nat}{V:List Str}{Y:Sp}{E:XK}{x:Str}{p Z:Pos}{e:Expr}{U:List Expr}{t:TA}
end
end _L
namespace _L
open PySem PyProof.Rows
section
variable {a p q:TQ}{b:Bool}{i j:Int}{x y:Str}{v:V}{vs:List V}{r:_L.St}{H:Hp}{Q:VK}{K:FG}{o:Option V}{n:Nat}{Y Z:Type}
end
variable {X:Cx}
section
variable {st:Uc}{rest:List Uc}{t u:TS}{e a b:Expr}{Y:List Expr}{V U:TE}{J:TA}{Z:Pos}
end
section
variable {D:Zq}{k:Nat}{f:TQ}{J:Uu}{B:List Str}{U:Sp}{E:XK}{x:Str}{p Z:Pos}{e:Expr}{L:List Expr}{V:TE}{t:TA}{st:Uc}{rest:List Uc}{Y u:TS}
end
section
open PySem.W
theorem JT(k:Zw X.K C)(e:W.kitOne X.K (.ref C) (.type n)=TJ b) :
  bY X (.builtin "isinstance") λ K H Q=>∃a d,K=[.ref a,.ty n]/\H a=TJ (iu a C d)/\Q (.bl b) H:=by
 intro c s p H K m Q I r h;refine HT λ S V=>?_;obtain⟨a,d,rfl,F,q⟩:=h;obtain⟨u,o,rfl,j,r2⟩:=jH r;refine V ?_;clear V S;cases (show u=Ug a from j);cases (show o=Uq n from r2);refine HT λ S V=>?_;obtain⟨⟨v,A,y,T,N,_⟩,_⟩:=(show ObjOk X.prog X.w H s.heap a (iu a C d) from I.hok a _ F);refine V ?_;clear V S;exact kia_one (xO k) I.kIn (v,A,y,T,N) e (λ z=>nomatch z) λ g=>(.bl b,H,I.tok g,on,q)
end
end _L
namespace _L
open PySem PySem.Spec PyProof.Rows PySem.W PySem.Calls
variable {X:Cx}
section
variable {Z:Uh}{U:Ui}{B:Uk}{Y:VS}{V:TR}{r:TQ}{j:Int}{t u v:Tok}{n:Nat}
end
end _L
namespace _H
open PySem PyProof.Rows
section
open PySem.SeqAt
open PySem.AutoSeq1 (wpAny_loadPart')
open PySem.MeetsSeq PySem.MeetsSeq2 PySem.MeetsSeq3
end
section
variable {Z:Uh}{w:Ui}{A:Uk}{E:VS}{s:TR}
end
end _H
namespace _L
open PySem PySem.Spec PyProof.Rows
variable {X:Cx}
end _L
namespace _L
set_option backward.match.sparseCases false
open PySem PySem.Spec PyProof.Rows
def nl{a b:Nat}(h:a<b\/b<a):a≠b:=BT
section
variable {Z:Uh}{U:Ui}{B:Uk}{Y:VS}{V:TR}
end
def K5(K:FG)(b:Bool)(H:Hp)(a:TQ)(vs:List V):Prop:=if b=TK then SqT K H a vs else SqL K H a vs
variable {X:Cx}
section
variable {Z:LO}{Y:St}{H:Hp}{s:TR}
end
section
variable {U:List Expr}{Z:Nat}{Y:Pos}
end
set_option genInjectivity true in
set_option genSizeOfSpec true in
inductive SO where
 |dct (l:List<|Int×Int)|fn (a:TQ)|lls (as:List TQ) (ll:List<|LL)
noncomputable def SO.ctorIdx(t:SO):Nat:=t.casesOn (λ _=>0) (λ _=>1) (λ _ _=>2)
set_option genInjectivity true in
set_option genSizeOfSpec true in
inductive TV where
 |non|bl (b:Bool)|int (i:Int)|str (x:Str)|tup (l:List TV)|lst (l:List TV)|bor (l:List TV)|own (l:List TV)|obj (o:SO)
noncomputable def TV.ctorIdx(t:TV):Nat:=t.casesOn 0 (λ _=>1) (λ _=>2) (λ _=>3) (λ _=>4) (λ _=>5) (λ _=>6) (λ _=>7) (λ _=>8)
open TV renaming int->U2,tup->U3,str->U4
noncomputable abbrev dcO(l:List<|Int×Int):HO:=.dK<|l.map λ q=>((VE q.1:YZ),V.int q.2)
abbrev Fz:=TQ->Prop
def Ls(K:FG)(F:Fz)(H:Hp)(a:TQ)(vs:List V):Prop:=(F a/\SqL K H a vs) \/
 ∃(o:Obj) (S:Array Value) (n:Nat),K.lookup a=TJ o/\o.cls=.type "list" /\ o.dict=TM/\o.data=.seq S n/\S.size<=TW/\Vals vs S.toList
def Ls.sq{K:FG}{vs:List V}(h:Ls K F H a vs):SqL K H a vs:=h.elim (λ h=>h.2) λ h=>.inr h
def Ls.imp{K:FG}{F S:Fz}{vs:List V}(h:Ls K F H a vs)(i:F a->SqL K H a vs->S a/\SqL K Z a vs):Ls K S Z a vs:=h.elim (λ h=>.inl<|i h.1 h.2) .inr
mutual
def Rp(K:FG)(F:Fz)(H:Hp):TV->V->Prop
 |.non,v=>v=.non
 |.bl b,v=>v=.bl b
 |.int i,v=>v=.int i
 |.str x,v=>v=.str x
 |.tup l,v=>∃a vs,v=.ref a/\SqT K H a vs/\RpL K F H l vs
 |.lst l,v=>∃a vs,v=.ref a/\Ls K F H a vs/\RpL K F H l vs
 |.bor _,_=>False
 |.own _,_=>False
 |.obj _,_=>False
def RpL(K:FG)(F:Fz)(H:Hp):List TV->List V->Prop
 |[],vs=>vs=[]
 |t::ts,vs=>∃v r,vs=v::r/\Rp K F H t v/\RpL K F H ts r
end
structure Wd (J:Hp->Prop)(F:Fz)(H:Hp):Prop where
 j:J H
 d:∀a,F a->H a≠TM
structure Grow (J:Hp->Prop)(F:Fz)(H:Hp)(F':Fz)(H':Hp):Prop where
 sm:∀a o,(∀ps,o≠.tbl ps)->H a=TJ o->H' a=TJ o
 dm:∀a,H a≠TM->H' a≠TM
 up:∀a,F a->F' a
 nw:∀a,F' a->F a\/H a=TM
 w:Wd J F' H'
section
variable {K:FG}{J:Hp->Prop}{F F' Z:Fz}{H H':Hp}
def Grow.refl(w:Wd J F H):Grow J F H F H:=(λ _ _ _ e=>e,λ _ e=>e,λ _ e=>e,λ _ e=>.inl e,w)
def Grow.trans(g:Grow J F H Y U)(k:Grow J Y U Z L):Grow J F H Z L :=
 (λ a o n e=>k.sm a o n<|g.sm a o n e,λ a e=>k.dm a<|g.dm a e,λ a e=>k.up a<|g.up a e,λ a e=>by
  rcases k.nw a e with q|q
  .exact g.nw a q
  .by_cases z:H a=TM
   .exact .inr z
   .exact U1 q<|g.dm a z,k.w)
def Rd.sm{a:TQ}{u:HO}(s:∀a o,(∀V,o≠.tbl V)->H a=TJ o->H' a=TJ o)(n:∀V,u≠.tbl V)(h:Rd H a u):Rd H' a u:=by
 rcases h with h|⟨o,h⟩
 .exact .inl<|s _ _ n h
 .exact .inr (o,s _ _ (λ V z=>by cases z) h)
def SqT.sm{a:TQ}{vs:List V}(s:∀a o,(∀S,o≠.tbl S)->H a=TJ o->H' a=TJ o)(h:SqT K H a vs):SqT K H' a vs:=by
 rcases h with h|h
 .exact .inl (h.sm s λ S z=>by cases z)
 .exact .inr h
def SqL.sm{a:TQ}{vs:List V}(s:∀a o,(∀S,o≠.tbl S)->H a=TJ o->H' a=TJ o)(h:SqL K H a vs):SqL K H' a vs:=by
 rcases h with h|h
 .exact .inl (h.sm s λ S z=>by cases z)
 .exact .inr h
structure Ke (K:FG)(F:Fz)(H:Hp)(F':Fz)(H':Hp):Prop where
 t:∀a vs,SqT K H a vs->SqT K H' a vs
 l:∀a vs,Ls K F H a vs->Ls K F' H' a vs
mutual
theorem Rp.ke(k:Ke K F H F' H'):∀ {t:TV}{v:V},Rp K F H t v->Rp K F' H' t v
 |.non,_,h=>h
 |.bl _,_,h=>h
 |.int _,_,h=>h
 |.str _,_,h=>h
 |.tup _,_,(a,vs,e,q,r)=>(a,vs,e,k.t _ _ q,RpL.ke k r)
 |.lst _,_,(a,vs,e,f,r)=>(a,vs,e,k.l _ _ f,RpL.ke k r)
 |.bor _,_,h=>h.elim
 |.own _,_,h=>h.elim
 |.obj _,_,h=>h.elim
theorem RpL.ke(k:Ke K F H F' H'):∀ {ts:List TV}{vs:List V},RpL K F H ts vs->RpL K F' H' ts vs
 |[],_,h=>h
 |_::_,_,(v,r,e,h1,h2)=>(v,r,e,Rp.ke k h1,RpL.ke k h2)
end
def Grow.ke(g:Grow J F H F' H'):Ke K F H F' H':=(λ _ _ h=>h.sm g.sm,λ a _ h=>h.imp λ f h=>(g.up a f,h.sm g.sm))
def Ke.up(h:∀a,F a->F' a):Ke K F H F' H:=(λ _ _ h=>h,λ a _ q=>q.imp λ f q=>(h a f,q))
def Rr(K:FG)(H:Hp)(F':Fz)(H':Hp):TV->V->Prop
 |.own l,v=>∃a vs,v=.ref a/\H a=TM/\¬F' a/\H' a=TJ (.lst vs)/\RpL K F' H' l vs
 |.bor l,v=>∃a vs,v=.ref a/\¬F' a/\H' a=TJ (.lst vs)/\RpL K F' H' l vs
 |t,v=>Rp K F' H' t v
def Rr.of(h:Rp K F' H' t v):Rr K H F' H' t v:=by
 cases t<;>first|exact h|exact h.elim
def Rr.grow(g:Grow J Y U Z L)(h:Rr K H Y U t v):Rr K H Z L t v:=by
 have T:∀ {a vs},¬Y a->U a=TJ (.lst vs)->¬Z a:=λ n e z=>by
  rcases g.nw _ z with q|q
  .exact n q
  .rw[q] at e;cases e
 cases t with
 |own l=>refine HT λ S V=>?_;obtain⟨a,vs,e,n,f,q,r⟩:=h;refine V ?_;clear V S;exact(a,vs,e,n,T f q,g.sm _ _ (λ W z=>by cases z) q,r.ke g.ke)
 |bor l=>refine HT λ S V=>?_;obtain⟨a,vs,e,f,q,r⟩:=h;refine V ?_;clear V S;exact(a,vs,e,T f q,g.sm _ _ (λ W z=>by cases z) q,r.ke g.ke)
 |_=>exact Rp.ke g.ke h
def Rr.late(g:Grow J F H L Y)(h:Rr K Y Z U t v):Rr K H Z U t v:=by
 cases t with
 |own l=>
  refine HT λ S V=>?_;obtain⟨a,vs,e,n,f,q,r⟩:=h;refine V ?_;clear V S;refine(a,vs,e,?_,f,q,r);by_cases z:H a=TM
  .exact z
  .exact U1 n<|g.dm a z
 |_=>exact h
abbrev RrL(K:FG)(H:Hp)(F':Fz)(H':Hp):List TV->List V->Prop:=UZ<|Rr K H F' H'
def RrL.grow{vs:List V}(g:Grow J Y U Z L)(h:RrL K H Y U D vs):RrL K H Z L D vs:=Paired.mapP h λ _ _ r=>r.grow g
theorem RpL.length:∀ {S:List TV}{vs:List V},RpL K F H S vs->S.length=vs.length
 |[],_,h=>by cases h;rfl
 |_::_,_,(_,_,e,_,h)=>by rw[e,Up,Up,RpL.length h]
theorem RpL.get:∀ {S:List TV}{vs:List V}{i:Nat}{t:TV},RpL K F H S vs->S[i]?=TJ t->∃v,vs[i]?=TJ v/\Rp K F H t v
 |[],_,_,_,_,e=>by simp at e
 |_::_,_,0,_,(v,r,e,W,_),q=>by cases q;exact(v,by rw[e];rfl,W)
 |_::_,_,i+1,_,(v,r,e,_,N),q=>by
  obtain⟨w,T,h⟩:=RpL.get (i:=i) N q;exact(w,by rw[e];exact T,h)
theorem RpL.append:∀ {S T:List TV}{vs W:List V},RpL K F H S vs->RpL K F H T W->RpL K F H (S++T) (vs++W)
 |[],_,_,_,h,g=>by cases h;exact g
 |_::_,_,_,_,(v,r,e,N,A),g=>by subst e;exact(v,_,rfl,N,RpL.append A g)
theorem RpL.take:∀ {S:List TV}{vs:List V}(n:Nat),RpL K F H S vs->RpL K F H (S.take n) (vs.take n)
 |_,_,0,_=>rfl
 |[],_,_+1,h=>by cases h;rfl
 |_::_,_,n+1,(v,r,e,T,W)=>by subst e;exact(v,_,rfl,T,RpL.take n W)
theorem RpL.drop:∀ {S:List TV}{vs:List V}(n:Nat),RpL K F H S vs->RpL K F H (S.drop n) (vs.drop n)
 |_,_,0,h=>h
 |[],_,_+1,h=>by cases h;rfl
 |_::_,_,n+1,(v,r,e,W,T)=>by subst e;exact RpL.drop n T
theorem RpL.set(h:Rp K F H t v):∀ {T:List TV}{vs:List V}(i:Nat),RpL K F H T vs->RpL K F H (T.set i t) (vs.set i v)
 |[],_,_,q=>by cases q;rfl
 |_::_,_,0,(w,r,e,_,S)=>by subst e;exact(v,r,rfl,h,S)
 |_::_,_,i+1,(w,r,e,W,S)=>by subst e;exact(w,_,rfl,W,RpL.set h i S)
def RpL.reverse{vs:List V}(h:RpL K F H Y vs):RpL K F H Y.reverse vs.reverse:=by
 induction Y generalizing vs with
 |nil=>cases h;rfl
 |cons t r A=>
  refine HT λ T S=>?_;obtain⟨v,q,e,W,N⟩:=h;refine S ?_;clear S T;subst e;rw[pL,pL];exact(A N).append (v,[],on,W,on)
theorem RpL.ints:∀ {S:Yr}{vs:List V},RpL K F H (S.map U2) vs->vs=S.map V.int
 |[],_,h=>h
 |_::_,_,(v,r,e,T,W)=>by rw[e,RpL.ints W,show v=_ from T];rfl
theorem RpL.ofInts:∀(S:Yr),RpL K F H (S.map U2) (S.map V.int)
 |[]=>rfl
 |_::r=>(_,_,rfl,rfl,RpL.ofInts r)
theorem RpL.bls:∀ {S:List Bool}{vs:List V},RpL K F H (S.map TV.bl) vs->vs=S.map V.bl
 |[],_,h=>h
 |_::_,_,(v,r,e,T,W)=>by rw[e,RpL.bls W,show v=_ from T];rfl
noncomputable def TV.items:TV->Option (Bool×List TV)
 |.tup l=>TJ (TK,l)
 |.lst l=>TJ (TL,l)
 |.bor l=>TJ (TL,l)
 |.own l=>TJ (TL,l)
 |_=>TM
def Rr.sq{b:Bool}{l:List TV}(h:Rr K H F' H' t v)(e:t.items=TJ (b,l)):∃a vs,v=.ref a/\RpL K F' H' l vs/\((b=TK/\SqT K H' a vs)\/(b=TL/\SqL K H' a vs)):=by
 cases t<;>cases e
 .obtain⟨a,vs,e,q,r⟩:=h;exact(a,vs,e,r,.inl (rfl,q))
 .obtain⟨a,vs,e,q,r⟩:=h;exact(a,vs,e,r,.inr (rfl,q.sq))
 .obtain⟨a,vs,e,_,q,r⟩:=h;exact(a,vs,e,r,.inr (rfl,.of q))
 .obtain⟨a,vs,e,_,_,q,r⟩:=h;exact(a,vs,e,r,.inr (rfl,.of q))
structure JS (J:Hp->Prop):Prop where
 nw:∀(H:Hp) (p:TQ) (o:HO),H p=TM->J H->J (Yu H p o)
 mu:∀(H:Hp) (p:TQ) (vs ws:List V),H p=TJ (.lst vs)->J H->J (Yu H p<|.lst ws)
def Grow.new(V:JS J)(w:Wd J F H)(o:HO)(h:H p=TM):Grow J F H F<|Yu H p o:=by
 have k:∀a x,H a=TJ x->Yu H p o a=TJ x:=λ a x e=>by rw[av λ z=>by rw[z,h] at e;cases e];exact e
 have d:∀a,H a≠TM->Yu H p o a≠TM:=λ a e z=>by
  cases q:H a with
  |none=>exact e q
  |some x=>rw[k a x q] at z;cases z
 exact(λ a x _ e=>k a x e,d,λ _ e=>e,λ _ e=>.inl e,V.nw H p o h w.j,λ a f=>d a<|w.d a f)
def Grow.frz(g:Grow J F H U Y)(n:H a=TM)(e:Y a≠TM):Grow J F H (λ b=>U b\/b=a) Y :=
 (g.sm,g.dm,λ b f=>.inl<|g.up b f,λ b f=>by
  rcases f with f|rfl
  .exact g.nw b f
  .exact .inr n,g.w.j,λ b f=>by
  rcases f with f|rfl
  .exact g.w.d b f
  .exact e)
noncomputable def TV.fz:TV->TV
 |.own l=>.lst l
 |.bor l=>.lst l
 |t=>t
noncomputable def TV.nb:TV->Bool
 |.bor _=>TL
 |_=>TK
def Rr.frz(g:Grow J F H Y U)(h:Rr K H Y U t v)(n:t.nb=TK):∃Z,Grow J F H Z U/\(∀a,Y a->Z a)/\(∀a,Z a->Y a\/v=.ref a)/\Rp K Z U t.fz v:=by
 cases t with
 |own l=>
  refine HT λ S V=>?_;obtain⟨a,vs,e,n,f,q,r⟩:=h;refine V ?_;clear V S;refine(λ b=>Y b\/b=a,g.frz n (by rw[q];simp),λ _ f=>.inl f,λ b f=>?_,a,vs,e,.inl (.inr rfl,.of q),r.ke<|.up λ _ f=>.inl f)
  rcases f with f|rfl
  .exact .inl f
  .exact .inr e
 |bor l=>cases n
 |_=>exact(Y,g,λ _ f=>f,λ _ f=>.inl f,h)
end
mutual
def eqT:TV->TV->Bool
 |.non,.non=>TK
 |.bl a,.bl b=>a == b
 |.bl a,.int b=>(if a then 1 else 0) == b
 |.int a,.bl b=>a == (if b then 1 else 0)
 |.int a,.int b=>decide (a=b)
 |.str a,.str b=>decide (a=b)
 |.tup l,.tup m=>eqTL l m
 |.lst l,.lst m=>eqTL l m
 |_,_=>TL
def eqTL:List TV->List TV->Bool
 |[],[]=>TK
 |x::xs,y::ys=>eqT x y&&eqTL xs ys
 |_,_=>TL
end
def eqTL_c(x y:TV)(V S:List TV):eqTL (x::V) (y::S)=(eqT x y&&eqTL V S):=rfl
def dp:Nat->TV->Prop
 |_,.non=>True|_,.bl _=>True|_,.int _=>True|_,.str _=>True
 |n+1,.tup l=>∀x∈l,dp n x
 |n+1,.lst l=>∀x∈l,dp n x
 |_,_=>False
theorem nP:∀ {l m:List TV},l.length≠m.length->eqTL l m=TL
 |[],[],h=>U1 rfl h
 |[],_::_,_=>rfl
 |_::_,[],_=>rfl
 |x::V,y::S,h=>by rw[eqTL_c,nP (l:=V) (m:=S) (λ z=>h<|by rw[Up,Up,z]),lE]
theorem nQ:∀ {l m:List TV},l.length=m.length->(Ub l.length).all (λ j=>eqT (l.getD j .non)<|m.getD j .non)=eqTL l m
 |[],[],_=>rfl
 |x::V,y::S,h=>by
  rw[Up,List.range_succ_eq_map,cD,XZ];show(eqT x y&&(Ub V.length).all λ j=>eqT (V.getD j .non)<|S.getD j .non)=eqTL (x::V) (y::S);rw[nQ (l:=V) (m:=S) (by simpa using h),eqTL_c]
mutual
theorem ut:∀ {t:TV}{n:Nat},dp n t->eqT t t=TK
 |.non,_,_=>rfl
 |.bl b,_,_=>lj b
 |.int _,_,_=>bC rfl
 |.str _,_,_=>bC rfl
 |.tup l,0,h=>h.elim
 |.tup l,n+1,h=>eqTL_self (l:=l) (n:=n) h
 |.lst l,0,h=>h.elim
 |.lst l,n+1,h=>eqTL_self (l:=l) (n:=n) h
 |.bor _,0,h=>h.elim
 |.bor _,_+1,h=>h.elim
 |.own _,0,h=>h.elim
 |.own _,_+1,h=>h.elim
 |.obj _,0,h=>h.elim
 |.obj _,_+1,h=>h.elim
theorem eqTL_self:∀ {l:List TV}{n:Nat},(∀x∈l,dp n x)->eqTL l l=TK
 |[],_,_=>rfl
 |x::xs,n,h=>by rw[eqTL_c,ut<|h x Cr,eqTL_self λ y hy=>h y<|by simp[hy]];rfl
end
def RelV.uniq(h:RelV x u)(g:RelV y u):x=y:=by
 cases x<;>cases y<;>first
  |(cases h;cases g;rfl)
  |(obtain⟨_,rfl⟩:=h;obtain⟨_,e⟩:=g;cases e;rfl)
  |(cases h;cases g;done)
  |(cases h;obtain⟨_,e⟩:=g;cases e;done)
  |(obtain⟨_,rfl⟩:=h;cases g;done)
  |(obtain⟨_,rfl⟩:=h;obtain⟨_,e⟩:=g;cases e;done)
theorem Vals.uniq:∀ {T W:List V}{S:LV},Vals T S->Vals W S->T=W
 |_,_,_,.nil,.nil=>rfl
 |_,_,_,.cons r t,.cons N A=>by rw[r.uniq N,Vals.uniq t A]
section
variable {s:TR}
def Inv.tup_uniq(I:Inv X U J H s)(h:SqT X.K H a Z)(g:SqT X.K H a Y):Z=Y:=by
 refine HT λ S V=>?_;obtain⟨N,z,K,_⟩:=I.tuple h;obtain⟨A,r2,F,_⟩:=I.tuple g;obtain⟨o,e,_,n,d⟩:=K;obtain⟨v,W,_,y,T⟩:=F;refine V ?_;clear V S;rw[e] at W;cases W;rw[d] at T;have:N.toArray=A.toArray:=by injection T
 have:N=A:=by simpa using bT VW this
 subst this;exact z.uniq r2
def Inv.lst_uniq(I:Inv X U J H s)(h:SqL X.K H a Z)(g:SqL X.K H a Y):Z=Y:=by
 refine HT λ S V=>?_;obtain⟨N,z,K,_⟩:=I.list h;obtain⟨A,r2,F,_⟩:=I.list g;obtain⟨o,n,e,_,_,d⟩:=K;obtain⟨v,y,W,_,_,T⟩:=F;refine V ?_;clear V S;rw[e] at W;cases W;rw[d] at T;have:N.toArray=A.toArray:=by injection T
 have:N=A:=by simpa using bT VW this
 subst this;exact z.uniq r2
def Inv.tl(I:Inv X Z J H s)(h:SqT X.K H a Y)(g:SqL X.K H a U):False:=by
 refine HT λ S V=>?_;obtain⟨y,z,N,_⟩:=I.tuple h;obtain⟨v,r2,A,_⟩:=I.list g;obtain⟨o,e,c,_⟩:=N;obtain⟨F,K,W,T,_⟩:=A;refine V ?_;clear V S;rw[e] at W;cases W;rw[c] at T;simp at T
mutual
theorem Inv.rp_uniq(I:Inv X Yq σ H s):∀ {t u:TV}{v:V},Rp X.K F H t v->Rp X.K F H u v->t=u
 |.non,u,v,h,g=>by cases h;cases u<;>first|rfl|(cases g;done)|(obtain⟨_,_,e,_⟩:=g;cases e)|exact g.elim
 |.bl _,u,v,h,g=>by cases h;cases u<;>first|(cases g;rfl)|(cases g;done)|(obtain⟨_,_,e,_⟩:=g;cases e)|exact g.elim
 |.int _,u,v,h,g=>by cases h;cases u<;>first|(cases g;rfl)|(cases g;done)|(obtain⟨_,_,e,_⟩:=g;cases e)|exact g.elim
 |.str _,u,v,h,g=>by cases h;cases u<;>first|(cases g;rfl)|(cases g;done)|(obtain⟨_,_,e,_⟩:=g;cases e)|exact g.elim
 |.tup l,u,v,(a,vs,e,q,r),g=>by
  subst e
  cases u with
  |tup m=>
   refine HT λ Gzz gzz=>?_;obtain⟨b,ws,e,q',r'⟩:=g;refine gzz ?_;clear gzz Gzz;cases e;have:=I.tup_uniq q q';subst this;rw[Inv.rpl_uniq I r r']
  |lst m=>refine HT λ Gzz gzz=>?_;obtain⟨b,ws,e,q',r'⟩:=g;refine gzz ?_;clear gzz Gzz;cases e;exact(I.tl q q'.sq).elim
  |_=>first|exact g.elim|cases g
 |.lst l,u,v,(a,vs,e,q,r),g=>by
  subst e
  cases u with
  |lst m=>
   refine HT λ Gzz gzz=>?_;obtain⟨b,ws,e,q',r'⟩:=g;refine gzz ?_;clear gzz Gzz;cases e;have:=I.lst_uniq q.sq q'.sq;subst this;rw[Inv.rpl_uniq I r r']
  |tup m=>refine HT λ Gzz gzz=>?_;obtain⟨b,ws,e,q',r'⟩:=g;refine gzz ?_;clear gzz Gzz;cases e;exact(I.tl q' q.sq).elim
  |_=>first|exact g.elim|cases g
 |.bor _,_,_,h,_=>h.elim
 |.own _,_,_,h,_=>h.elim
 |.obj _,_,_,h,_=>h.elim
theorem Inv.rpl_uniq(I:Inv X Yq σ H s):∀ {ts us:List TV}{vs:List V},RpL X.K F H ts vs->RpL X.K F H us vs->ts=us
 |[],us,_,h,g=>by
  cases h
  cases us with
  |nil=>rfl
  |cons t r=>obtain⟨_,_,e,_⟩:=g;cases e
 |t::ts,us,_,(v,r,e,h1,h2),g=>by
  subst e
  cases us with
  |nil=>cases g
  |cons u us=>refine HT λ Gzz gzz=>?_;obtain⟨_,_,e,g1,g2⟩:=g;refine gzz ?_;clear gzz Gzz;cases e;rw[Inv.rp_uniq I h1 g1,Inv.rpl_uniq I h2 g2]
end
def lF{K:FG}{vs:List V}(r:RpL K F H l vs)(q:Vals vs Z){j:Nat}(h:j<Z.toArray.size):∃z,Rp K F H (l.getD j .non) z/\RelV z Z.toArray[j]/\l.getD j .non∈l:=by
 obtain⟨z,e,N⟩:=IM q h;have k:j<l.length:=by rw[r.length,q.length];simpa using h
 obtain⟨v,S,W⟩:=r.get<|aZ k;rw[e] at S;cases S;have T:l.getD j .non=l[j]:=by simp[aG,aZ k]
 rw[T];exact(z,W,N,lG k)
def qq{A:Uk}(p:s.heap.IsTuple a Z\/s.heap.IsList a Z)(V:A.units<Vn)(g:Rp X.K F H u y)(T:RelV y w)(W:∀l,u≠.tup l/\u≠.lst l):UN A s (.ref a) w TL/\UN A s w (.ref a) TL:=by
 cases u with
 |bor l|own l|obj l=>exact g.elim
 |tup l=>exact((W l).1 rfl).elim
 |lst l=>exact((W l).2 rfl).elim
 |non=>cases g;cases T;exact p.elim (λ p=>(.tuple_none p V,.none_tuple p V)) λ p=>(.list_none p V,.none_list p V)
 |bl b=>cases g;cases T;exact p.elim (λ p=>(.tuple_bool b p V,.bool_tuple b p V)) λ p=>(.list_bool b p V,.bool_list b p V)
 |int b=>cases g;obtain⟨S,rfl⟩:=T;exact p.elim (λ p=>(.tuple_int b S p V,.int_tuple b S p V)) λ p=>(.list_int b S p V,.int_list b S p V)
 |str b=>cases g;obtain⟨S,rfl⟩:=T;exact p.elim (λ p=>(.tuple_str b S p V,.str_tuple b S p V)) λ p=>(.list_str b S p V,.str_list b S p V)
def yS(I:Inv X Yq σ H s){n:Nat}(ih:∀m,n=m+1->∀(A:Uk) (t u:TV) (x y:V) (v w:Value),A.units+m<Vn->dp m t->Rp X.K F H t x->Rp X.K F H u y->RelV x v->RelV y w->UN A s v w (eqT t u))(A:Uk)(t u:TV)(x y:V)(v w:Value)(hu:A.units+n<Vn)(d:dp n t)(h:Rp X.K F H t x)(g:Rp X.K F H u y)(E:RelV x v)(L:RelV y w):UN A s v w<|eqT t u:=by
 have N:A.units<Vn:=BT;have i:∀ {a vs},SqT X.K H a vs->∃K:LV,Vals vs K/\s.heap.IsTuple a K.toArray:=λ q=>by obtain⟨K,r,p,_⟩:=I.tuple q;exact(K,r,p)
 have o:∀ {a vs},SqL X.K H a vs->∃K:LV,Vals vs K/\s.heap.IsList a K.toArray:=λ q=>by obtain⟨K,r,p,_⟩:=I.list q;exact(K,r,p.isList)
 have M:∀ {a b:TQ}{l m:List TV}{vs U:List V}{K W:LV},RpL X.K F H l vs->RpL X.K F H m U->Vals vs K->Vals U W->(∀k,n=k+1->∀x∈l,dp k x)->0<n->(a=b->vs=U)->(K.toArray.size=l.length->W.toArray.size=m.length->(∀(j:Nat) (k1:j<K.toArray.size) (k2:j<W.toArray.size),UN A.in1 s K.toArray[j] W.toArray[j] (eqT (l.getD j .non)<|m.getD j .non))->SeqAt.RcAt A s (.ref a) (.ref b) (eqTL l m))->UN A s (.ref a) (.ref b) (eqTL l m):=λ {a b l m vs U K W} r J B r2 R n0 uq z=>by
  obtain⟨k,rfl⟩:=Nat.exists_eq_add_of_lt n0;rw[Nat.zero_add] at R ih hu;by_cases O:a=b
  .obtain rfl:=uq O;obtain rfl:=I.rpl_uniq r J;rw[eqTL_self<|R k rfl,O];exact SeqAt.EqAt.same _
  .refine SeqAt.EqAt.of_refs O<|z (by simp[r.length,B.length]) (by simp[J.length,r2.length]) λ j k1 k2=>?_;refine HT λ T S=>?_;obtain⟨z1,h1,P,m1⟩:=lF r B k1;obtain⟨z2,h2,f,_⟩:=lF J r2 k2;refine S ?_;clear S T;exact ih k rfl A.in1 _ _ z1 z2 _ _ (by show A.units+1+k<Vn;lia) (R k rfl _ m1) h1 h2 P f
 cases t with
 |bor l|own l|obj l=>exact h.elim
 |tup l=>
  refine HT λ T S=>?_;obtain⟨a,vs,rfl,q,r⟩:=h;refine S ?_;clear S T;cases E;obtain⟨K,B,D⟩:=i q
  cases u with
  |lst m=>
   refine HT λ T S=>?_;obtain⟨b,U,rfl,Z,J⟩:=g;refine S ?_;clear S T;cases L;obtain⟨W,r2,Y⟩:=o Z.sq;exact SeqAt.EqAt.tuple_list D Y N
  |tup m=>
   refine HT λ T S=>?_;obtain⟨b,U,rfl,Z,J⟩:=g;refine S ?_;clear S T;cases L;obtain⟨W,r2,Y⟩:=i Z;refine M r J B r2 (λ k e=>by subst e;exact d) (by cases n<;>first|exact Uw d|exact lH _) (λ e=>by subst e;exact I.tup_uniq q Z) λ G Q C=>?_;have z:=SeqAt.RcAt.tuples (A:=A) D Y (e:=λ j=>eqT (l.getD j .non)<|m.getD j .non) N C;rw[G,Q] at z;by_cases c:l.length=m.length
   .rw[<- c,Nat.min_self,nQ c] at z;simpa using z
   .rw[nP c]
    rwa [show(l.length == m.length)=TL by simpa using c,lE] at z
  |_=>exact(qq (.inl D) N g L λ _=>(nofun,nofun)).1
 |lst l=>
  refine HT λ T S=>?_;obtain⟨a,vs,rfl,q,r⟩:=h;refine S ?_;clear S T;cases E;obtain⟨K,B,D⟩:=o q.sq
  cases u with
  |tup m=>
   refine HT λ T S=>?_;obtain⟨b,U,rfl,Z,J⟩:=g;refine S ?_;clear S T;cases L;obtain⟨W,r2,Y⟩:=i Z;exact SeqAt.EqAt.list_tuple D Y N
  |lst m=>
   refine HT λ T S=>?_;obtain⟨b,U,rfl,Z,J⟩:=g;refine S ?_;clear S T;cases L;obtain⟨W,r2,Y⟩:=o Z.sq;refine M r J B r2 (λ k e=>by subst e;exact d) (by cases n<;>first|exact Uw d|exact lH _) (λ e=>by subst e;exact I.lst_uniq q.sq Z.sq) λ G Q C=>?_;by_cases c:l.length=m.length
   .have z:=SeqAt.RcAt.lists (A:=A) D Y (e:=λ j=>eqT (l.getD j .non)<|m.getD j .non) (by rw[G,Q,c]) N C
    rwa [G,nQ c] at z
   .rw[nP c];exact yT D Y (by rw[G,Q];simpa using c) N
  |_=>exact(qq (.inr D) N g L λ _=>(nofun,nofun)).1
 |_=>cases u with
  |bor l|own l|obj l=>exact g.elim
  |tup m=>refine HT λ T S=>?_;obtain⟨b,U,rfl,Z,_⟩:=g;refine S ?_;clear S T;cases L;obtain⟨W,r2,Y⟩:=i Z;exact(qq (.inl Y) N h E λ _=>(nofun,nofun)).2
  |lst m=>refine HT λ T S=>?_;obtain⟨b,U,rfl,Z,_⟩:=g;refine S ?_;clear S T;cases L;obtain⟨W,r2,Y⟩:=o Z.sq;exact(qq (.inr Y) N h E λ _=>(nofun,nofun)).2
  |_=>cases h;cases g;exact xw E L rfl rfl
def yU(I:Inv X Z Y H s)(n:Nat):∀(A:Uk) (t u:TV) (x y:V) (v w:Value),A.units+n<Vn->dp n t->Rp X.K F H t x->Rp X.K F H u y->RelV x v->RelV y w->UN A s v w (eqT t u):=by
 induction n with
 |zero=>exact yS I λ m e=>nomatch e
 |succ n S=>exact yS I λ m e=>by cases e;exact S
end
inductive BI where
 |len|tuple|list|sum|max|min|abs|int|str|sorted|any|all|isI|isB|isT|isL|isS|maxlen|trev (b:Bool)|lrange (k:Bool)
noncomputable def BI.ctorIdx(t:BI):Nat:=t.casesOn 0 1 2 3 4 5 6 7 8 9 10 11 12 13 14 15 16 17 (λ _=>18) (λ _=>19)
inductive IK where
 |seq|rng|rng2|rng3|zip (a b:Bool)|zip3|enum (a:Bool)|rev (a:Bool)|str
noncomputable def IK.ctorIdx(t:IK):Nat:=t.casesOn 0 1 2 3 (λ _ _=>4) 5 (λ _=>6) (λ _=>7) 8
inductive Cd where
 |v (i:Nat)|c (t:TV)|g (k:Nat)
 |bin (o:Wr) (a b:Cd)|neg (a:Cd)|not (a:Cd)|cmp (o:Vx) (a b:Cd)|cm2 (o o':Vx) (a b c:Cd)
 |and (a b:Cd)|or (a b:Cd)|ite (c a b:Cd)
 |nil|cons (a r:Cd)|tup (l:Cd)|lst (l:Cd)|ix (a b:Cd)|sl (a lo hi:Cd)
 |call (f:Nat) (l:Cd)|bi (f:BI) (l:Cd)|isi (f:BI) (a:Cd)|mxl (a b:Cd)|trev (k:Bool) (a:Cd)|lrng (k:Bool) (a:Cd)|dk (k:Nat) (a:Cd)|ap (i f:Nat) (l:Cd)|cf (i f:Nat) (x:Str) (a:Cd)
 |comp (own:List Str) (fv:List Str) (js:List Nat) (tg:List Nat) (k:IK) (it:Cd) (e:Cd)|compI (own:List Str) (fv:List Str) (js:List Nat) (tg:List Nat) (k:IK) (it:Cd) (c e:Cd)
noncomputable def Cd.ctorIdx(t:Cd):Nat:=t.casesOn (λ _=>0) (λ _=>1) (λ _=>2) (λ _ _ _=>3) (λ _=>4) (λ _=>5) (λ _ _ _=>6) (λ _ _ _ _ _=>7) (λ _ _=>8) (λ _ _=>9) (λ _ _ _=>10) 11 (λ _ _=>12) (λ _=>13) (λ _=>14) (λ _ _=>15) (λ _ _ _=>16) (λ _ _=>17) (λ _ _=>18) (λ _ _=>19) (λ _ _=>20) (λ _ _=>21) (λ _ _=>22) (λ _ _=>23) (λ _ _ _=>24) (λ _ _ _ _=>25) (λ _ _ _ _ _ _ _=>26) (λ _ _ _ _ _ _ _ _=>27)
abbrev Yt:=List TV->(TV->Prop)->Prop
abbrev En:=List<|Option TV
def i2(t u:TV)(P:Int->Int->Prop):Prop:=match t,u with|.int i,.int j=>P i j|_,_=>False
def i1(t:TV)(P:Int->Prop):Prop:=match t with|.int i=>P i|_=>False
def b1(t:TV)(P:Bool->Prop):Prop:=match t with|.bl i=>P i|_=>False
def l1(t:TV)(P:List TV->Prop):Prop:=match t with|.lst l=>P l|.bor l=>P l|.own l=>P l|_=>False
def s1(t:TV)(P:List TV->Prop):Prop:=match t with|.lst l=>P l|.bor l=>P l|.own l=>P l|.tup l=>P l|_=>False
noncomputable def aO(i j:Int):Int:=if 0<j then i%j else i.fmod j
noncomputable def aX(i j:Int):Int:=if 0<j then i/j else i.fdiv j
def uu(t u:TV)(K:TV->Prop):Prop:=match t,u with
 |.int i,.int j=>K (.int<|i+j)
 |.tup l,.tup m=>l.length+m.length<=TW/\K (.tup<|l++m)
 |t,u=>l1 t λ l=>l1 u λ m=>l.length+m.length<=TW/\K (.own<|l++m)
def uv(t u:TV)(K:TV->Prop):Prop:=match t,u with
 |.int i,.int j=>Wp i j/\K (.int<|i*j)
 |.tup l,.int k=>l≠[]/\(0<=k/\k<2 ^ 63)/\l.length*k.toNat<=TW/\K (.tup (TY k.toNat l).flatten)
 |t,.int k=>(match t with|.own l=>(0<=k/\k<2 ^ 63)/\l.length*k.toNat<=TW/\K (.own (TY k.toNat l).flatten)|_=>False)
 |_,_=>False
def E6:Wr->TV->TV->(TV->Prop)->Prop
 |.Add,t,u,K=>uu t u K
 |.Sub,t,u,K=>i2 t u λ i j=>K<|.int<|i-j
 |.Mult,t,u,K=>uv t u K
 |.FloorDiv,t,u,K=>i2 t u λ i j=>(j≠0/\-18446744073709551616<j/\j<1606938044258990275541962092341162602522202993782792835301376)/\K (.int<|aX i j)
 |.Mod,t,u,K=>i2 t u λ i j=>j≠0/\K (.int<|aO i j)
 |.Pow,t,u,K=>i2 t u λ i j=>mS i j/\K (.int<|i ^ j.toNat)
 |.RShift,t,u,K=>i2 t u λ i j=>0<=j/\K (.int<|i/2 ^ j.toNat)
 |.BitAnd,t,u,K=>i2 t u λ i j=>K<|.int<|Builtin.bitAnd i j
 |.BitOr,t,u,K=>i2 t u λ i j=>K<|.int<|Builtin.bitOr i j
 |.BitXor,t,u,K=>i2 t u λ i j=>K<|.int<|Builtin.bitXor i j
 |_,_,_,_=>False
def K6(t u:TV):Prop:=match t,u with
 |.tup l,.tup _=>dp 99 (.tup l)
 |.lst l,.lst _=>dp 99 (.lst l)
 |.int _,.int _=>True|.str _,.str _=>True|.bl _,.bl _=>True|.non,.non=>True
 |.non,.int _=>True|.int _,.non=>True|.non,.str _=>True|.str _,.non=>True|.int _,.str _=>True|.str _,.int _=>True
 |.non,.bl _=>True|.bl _,.non=>True
 |_,_=>False
noncomputable def Zc:TV->Bool
 |.non=>TK|.bl _=>TK|.int _=>TK|.str _=>TK|_=>TL
noncomputable def inT(x:TV)(l:List TV):Bool:=l.any λ y=>eqT y x
def K7(t u:TV)(K:TV->Prop):Prop:=match t,u with
 |t,u=>i2 t u λ i j=>K<|.bl<|decide<|j<i
def jS:Vx->TV->TV->(TV->Prop)->Prop
 |.Eq,t,u,K=>K6 t.fz u.fz/\K (.bl<|eqT t.fz u.fz)
 |.NotEq,t,u,K=>K6 t.fz u.fz/\K (.bl<|!eqT t.fz u.fz)
 |.Lt,t,u,K=>i2 t u λ i j=>K<|.bl<|decide<|i<j
 |.LtE,t,u,K=>i2 t u λ i j=>K<|.bl<|decide<|i<=j
 |.Gt,t,u,K=>K7 t u K
 |.GtE,t,u,K=>i2 t u λ i j=>K<|.bl<|decide<|j<=i
 |.In,t,u,K=>s1 u λ l=>Zc t=TK/\(∀x∈l,Zc x=TK)/\K (.bl<|inT t l)
 |.NotIn,t,u,K=>s1 u λ l=>Zc t=TK/\(∀x∈l,Zc x=TK)/\K (.bl<|!inT t l)
 |.Is,t,u,K=>u=.non/\K (.bl<|match t with|.non=>TK|_=>TL)
 |.IsNot,t,u,K=>u=.non/\K (.bl<|match t with|.non=>TL|_=>TK)
def ai(l:List TV)(lo V:Option Int):List TV:=(l.drop<|_H.sIx l.length 0 lo).take<|_H.sIx l.length l.length V-_H.sIx l.length 0 lo
def oI(t:TV)(P:Option Int->Prop):Prop:=match t with|.non=>P TM|.int i=>P (TJ i)|_=>False
def E7(t:TV)(a b:Option Int)(K:TV->Prop):Prop:=match t with
 |.tup l=>K (.tup<|ai l a b)
 |.str x=>x.length<=4000000/\K (.str<|Txt.slice x a b)
 |t=>l1 t λ l=>K<|.own<|ai l a b
def E8(t u:TV)(K:TV->Prop):Prop:=match t with
 |.str x=>i1 u λ i=>x.length<=TW/\∃c,YX x.cps.toList i=TJ c/\K (.str ⟨#[c]⟩)
 |t=>s1 t λ l=>i1 u λ i=>∃x,YX l i=TJ x/\K x
def LF:TV->Prop
 |.tup l=>∀x∈l,LF x
 |.lst _=>False|.bor _=>False|.own _=>False|.obj _=>False
 |_=>True
def k1(b:Bool)(t:TV)(P:List TV->Prop):Prop:=if b=TK then (match t with|.tup l=>P l|_=>False) else l1 t P
def ZE:BI->List TV->(TV->Prop)->Prop
 |.len,[t],K=>(match t with|.str x=>x.length<=TW/\K (.int x.length)|t=>s1 t λ l=>K<|.int l.length)
 |.tuple,[t],K=>s1 t λ l=>K<|.tup l
 |.list,[t],K=>s1 t λ l=>K<|.own l
 |.sum,[t],K=>l1 t λ l=>∃V:Yr,l=V.map .int/\K (.int V.sum)
 |.max,[t,u],K=>i2 t u λ i j=>K<|.int<|if j > i then j else i
 |.max,[t],K=>l1 t λ l=>∃V:Yr,l=V.map .int/\0<V.length/\∀M:Int,M∈V->(∀z∈V,z<=M)->K (.int M)
 |.min,[t],K=>l1 t λ l=>∃V:Yr,l=V.map .int/\0<V.length/\∀M:Int,M∈V->(∀z∈V,M<=z)->K (.int M)
 |.min,[t,u],K=>i2 t u λ i j=>K<|.int<|if j<i then j else i
 |.abs,[t],K=>i1 t λ i=>K<|.int<|if i<0 then -i else i
 |.int,[t],K=>(match t with|.int i=>K (.int i)|.bl k=>K (.int<|if k then 1 else 0)|_=>False)
 |.str,[t],K=>i1 t λ i=>i.natAbs.log2<1920/\K (.str<|Uf<|toString i)
 |.sorted,[t],K=>s1 t λ l=>∃V:Yr,l=V.map .int/\V.length<64/\∀S:Yr,S.Perm V->S.Pairwise (·<=·)->K (.own<|S.map .int)
 |.any,[t],K=>l1 t λ l=>∃T:List Bool,l=T.map .bl/\K (.bl<|T.any id)
 |.all,[t],K=>l1 t λ l=>∃T:List Bool,l=T.map .bl/\K (.bl<|T.all id)
 |.isI,[t],K=>(match t with|.int _=>K (.bl TK)|.bl _=>K (.bl TK)|.str _=>K (.bl TL)|.non=>K (.bl TL)|.tup _=>K (.bl TL)|_=>False)
 |.isB,[t],K=>(match t with|.bl _=>K (.bl TK)|.int _=>K (.bl TL)|.str _=>K (.bl TL)|.non=>K (.bl TL)|.tup _=>K (.bl TL)|_=>False)
 |.isT,[t],K=>(match t with|.tup _=>K (.bl TK)|.int _=>K (.bl TL)|.str _=>K (.bl TL)|.non=>K (.bl TL)|.bl _=>K (.bl TL)|_=>False)
 |.isL,[t],K=>(match t with|.tup _=>K (.bl TL)|.int _=>K (.bl TL)|.str _=>K (.bl TL)|.non=>K (.bl TL)|.bl _=>K (.bl TL)|.lst _=>K (.bl TK)|.bor _=>K (.bl TK)|.own _=>K (.bl TK)|.obj _=>False)
 |.isS,[t],K=>(match t with|.tup _=>K (.bl TL)|.int _=>K (.bl TL)|.str _=>K (.bl TK)|.non=>K (.bl TL)|.bl _=>K (.bl TL)|_=>False)
 |.trev b,[t],K=>k1 b t λ l=>K<|.tup l.reverse
 |.maxlen,[t,u],K=>(match t,u with|.tup l,.tup m=>K (.tup<|if l.length<m.length then m else l)|_,_=>False)
 |.lrange k,[t],K=>i1 t λ j=>(0<=j/\j<=1000)/\K (if k=TK then .tup ((Ub j.toNat).map λ i=>.int (i:Nat)) else .own ((Ub j.toNat).map λ i=>.int (i:Nat)))
 |_,_,_=>False
noncomputable def z3(l m n:List TV):List TV:=Yc (λ x (p:TV×TV)=>.tup [x,p.1,p.2]) l<|m.zip n
def l9:IK->List TV->(List TV->Prop)->Prop
 |.seq,[t],K=>s1 t K
 |.rng,[t],K=>i1 t λ j=>(-(2 ^ 62)<=j/\j<2 ^ 62)/\K ((Ub j.toNat).map λ i=>.int (i:Nat))
 |.rng2,[t,u],K=>i2 t u λ i j=>(-(2 ^ 62)<=i/\i<2 ^ 62/\-(2 ^ 62)<=j/\j<2 ^ 62)/\K ((Ub (j-i).toNat).map λ k=>.int<|i+(k:Nat))
 |.rng3,[t,u,w],K=>i2 t u λ i j=>i1 w λ c=>(c≠0/\c.natAbs<1073741824/\UK i j c=TK)/\K ((Ub (Ul i j c).toNat).map λ k=>.int<|i+(k:Nat)*c)
 |.zip a b,[t,u],K=>k1 a t λ l=>k1 b u λ m=>K<|Yc (λ x y=>.tup [x,y]) l m
 |.zip3,[t,u,w],K=>k1 TK t λ l=>k1 TK u λ m=>k1 TK w λ n=>(m.length=l.length/\n.length=l.length)/\K (z3 l m n)
 |.enum a,[t],K=>k1 a t λ l=>K<|l.mapIdx λ i x=>.tup [.int (i:Nat),x]
 |.rev a,[t],K=>k1 a t λ l=>K l.reverse
 |.str,[t],K=>(match t with|.str x=>K (x.cps.toList.map λ c=>.str ⟨#[c]⟩)|_=>False)
 |_,_,_=>False
def z8(s:Option TV)(K:TV->Prop):Prop:=match s with|some (.bor _)=>False|some t=>K t|none=>False
def B7(s:Option TV)(P:List TV->Prop):Prop:=match s with|some (.bor l)=>P l|_=>False
def t1(t:TV)(P:Str->Prop):Prop:=match t with|.str x=>P x|_=>False
noncomputable def z9:List TV->Str->Option TV
 |.tup [.str k,t]::r,x=>if decide (k=x)=TK then TJ t else z9 r x
 |_,_=>TM
noncomputable abbrev kT(k:Yr):TV:=.tup<|k.map .int
def u5(s:Option<|Option TV)(P:TQ->Prop):Prop:=match s with|some (TJ<|.obj<|.fn a)=>P a|_=>False
def B8:Option (Option TV)->(TV->Prop)->Prop
 |some<|TJ<|.obj _,_=>False
 |some<|TJ t,K=>K (match t with|.own l=>.bor l|t=>t)
 |_,_=>False
def Zh(V:En)(S:List Nat)(t:TV)(K:En->Prop):Prop:=match S with
 |[i]=>K (V.set i<|TJ t)
 |[i,j]=>(match t with|.tup [x,y]=>K ((V.set i<|TJ x).set j<|TJ y)|_=>False)
 |[i,j,k]=>(match t with|.tup [x,y,z]=>K (((V.set i<|TJ x).set j<|TJ y).set k<|TJ z)|_=>False)
 |[i,j,k,m]=>(match t with|.tup [x,y,z,w]=>K ((((V.set i<|TJ x).set j<|TJ y).set k<|TJ z).set m<|TJ w)|_=>False)
 |_=>False
def ZK(b:TV->(List TV->Prop)->Prop):List TV->(List TV->Prop)->Prop
 |[],K=>K []
 |t::r,K=>b t λ y=>ZK b r λ V=>K<|y++V
section
variable (FT:List Yt)(GT:List TV)
mutual
def wE:Cd->En->(TV->Prop)->Prop
 |.v i,ρ,K=>B8 ρ[i]? K
 |.c t,_,K=>K t
 |.g k,_,K=>z8 GT[k]? K
 |.bin o a b,ρ,K=>wE a ρ λ x=>wE b ρ λ y=>E6 o x y K
 |.neg a,ρ,K=>wE a ρ λ x=>i1 x λ i=>K<|.int<|-i
 |.not a,ρ,K=>wE a ρ λ x=>b1 x λ i=>K<|.bl<|!i
 |.cmp o a b,ρ,K=>wE a ρ λ x=>wE b ρ λ y=>jS o x y K
 |.cm2 o o' a b c,ρ,K=>wE a ρ λ x=>wE b ρ λ y=>jS o x y λ z=>b1 z λ k=>if k=TK then wE c ρ λ w=>jS o' y w K else K (.bl TL)
 |.and a b,ρ,K=>wE a ρ λ x=>b1 x λ k=>if k=TK then wE b ρ K else K (.bl TL)
 |.or a b,ρ,K=>wE a ρ λ x=>b1 x λ k=>if k=TK then K (.bl TK) else wE b ρ K
 |.ite c a b,ρ,K=>wE c ρ λ x=>b1 x λ k=>if k=TK then wE a ρ K else wE b ρ K
 |.tup l,ρ,K=>wL l ρ λ ts=>ts.all TV.nb=TK/\ts.length<=TW/\K (.tup<|ts.map .fz)
 |.lst l,ρ,K=>wL l ρ λ ts=>ts.all TV.nb=TK/\ts.length<=TW/\K (.own<|ts.map .fz)
 |.ix a b,ρ,K=>wE a ρ λ x=>wE b ρ λ y=>E8 x y K
 |.sl a lo hi,ρ,K=>wE a ρ λ x=>wE lo ρ λ y=>oI y λ p=>wE hi ρ λ z=>oI z λ q=>E7 x p q K
 |.call f l,ρ,K=>wL l ρ λ ts=>∃P,(∃S,FT[f]?=TJ S/\S (ts.map .fz) P)/\∀t,P t->(ts.all TV.nb=TL->LF t)/\K t
 |.bi f l,ρ,K=>wL l ρ λ ts=>ZE f ts K
 |.isi f a,ρ,K=>wE a ρ λ t=>ZE f [t] K
 |.mxl a b,ρ,K=>wE a ρ λ t=>wE b ρ λ u=>ZE .maxlen [t,u] K
 |.trev k a,ρ,K=>wE a ρ λ t=>ZE (.trev k) [t] K
 |.lrng k a,ρ,K=>wE a ρ λ t=>ZE (.lrange k) [t] K
 |.dk k a,ρ,K=>B7 GT[k]? λ kvs=>wE a ρ λ y=>t1 y λ x=>∃t,z9 kvs x=TJ t/\K t
 |.ap i f l,ρ,K=>(FT[f]?).isSome=TK/\u5 ρ[i]? λ a=>wL l ρ λ ts=>ts.all TV.nb=TK/\∃P,(∃S,FT[f]?=TJ S/\S (.str "" :: .obj (.fn a)::ts.map .fz) P)/\∀t,P t->K t
 |.cf i f x c,ρ,K=>(∃S,FT[f]?=TJ S/\S [.str x] λ _=>True)/\u5 ρ[i]? λ a=>wE c ρ λ u=>u.nb=TK/\∃P,(∃S,FT[f]?=TJ S/\S [.str x,.obj<|.fn a,u.fz] P)/\∀t,P t->K t
 |.comp own _ js tg k it e,ρ,K=>wL it ρ λ ts=>l9 k ts λ its=>its.length<TW /\
   ZK (λ t K'=>Zh (TY own.length TM++js.map λ j=>(ρ[j]?).join) tg t λ ρ'=>wE e ρ' λ y=>(y.nb=TK/\K' [y.fz])) its λ ys=>K<|.own ys
 |.compI own _ js tg k it c e,ρ,K=>wL it ρ λ ts=>l9 k ts λ its=>its.length<TW /\
   ZK (λ t K'=>Zh (TY own.length TM++js.map λ j=>(ρ[j]?).join) tg t λ ρ'=>wE c ρ' λ x=>b1 x λ q=>if q=TK then wE e ρ' λ y=>(y.nb=TK/\K' [y.fz]) else K' []) its λ ys=>K<|.own ys
 |_,_,_=>False
def wL:Cd->En->(List TV->Prop)->Prop
 |.nil,_,K=>K []
 |.cons a r,ρ,K=>wE a ρ λ t=>wL r ρ λ ts=>K<|t::ts
 |_,_,_=>False
end
end
section
variable {K K':TV->Prop}{t:TV}
def lJ{P V:Int->Int->Prop}(h:∀i j,P i j->V i j)(q:i2 t u P):i2 t u V:=by
 cases t<;>cases u<;>first|exact h _ _ q|exact q.elim
def gM{P V:Int->Prop}(h:∀i,P i->V i)(q:i1 t P):i1 t V:=by
 cases t<;>first|exact h _ q|exact q.elim
def cI{P V:Bool->Prop}(h:∀i,P i->V i)(q:b1 t P):b1 t V:=by
 cases t<;>first|exact h _ q|exact q.elim
def uw{P V:List TV->Prop}(h:∀i,P i->V i)(q:l1 t P):l1 t V:=by
 cases t<;>first|exact h _ q|exact q.elim
def qr{P V:List TV->Prop}(h:∀i,P i->V i)(q:s1 t P):s1 t V:=by
 cases t<;>first|exact h _ q|exact q.elim
def jb{P V:List TV->Prop}(h:∀i,P i->V i)(q:k1 b t P):k1 b t V:=by
 cases b
 .exact uw h q
 .cases t<;>first|exact h _ q|exact q.elim
def qt{P V:Option Int->Prop}(h:∀i,P i->V i)(q:oI t P):oI t V:=by
 cases t<;>first|exact h _ q|exact q.elim
def JU(h:∀t,K t->K' t)(q:uu t u K):uu t u K':=by
 cases t<;>cases u<;>first|exact h _ q|exact gK q.1 (h _ q.2)|exact q.elim
def JV(h:∀t,K t->K' t)(q:uv t u K):uv t u K':=by
 cases t<;>cases u<;>first|exact q.elim|exact gK q.1 (h _ q.2)|exact gK q.1 (gK q.2.1<|gK q.2.2.1<|h _ q.2.2.2)|exact gK q.1<|gK q.2.1<|h _ q.2.2
def JW(h:∀t,K t->K' t)(q:E6 o t u K):E6 o t u K':=by
 cases o<;>first
  |exact q.elim
  |exact JU h q
  |exact JV h q
  |exact lJ (λ _ _ q=>h _ q) q
  |exact lJ (λ _ _ q=>(q.1,h _ q.2)) q
def JX(h:∀t,K t->K' t)(q:K7 t u K):K7 t u K':=by
 cases t<;>cases u<;>first|exact q.elim|exact h _ q|(obtain⟨S,V,a,b,q⟩:=q;exact(S,V,a,b,h _ q))
def iw(h:∀t,K t->K' t)(q:jS o t u K):jS o t u K':=by
 cases o<;>first
  |exact(q.1,h _ q.2)
  |exact lJ (λ _ _ q=>h _ q) q
  |exact JX h q
  |exact qr (λ _ q=>(q.1,q.2.1,h _ q.2.2)) q
def JY(h:∀t,K t->K' t)(q:E7 t a b K):E7 t a b K':=by
 cases t<;>first|exact h _ q|exact gK q.1 (h _ q.2)|exact q.elim
def JZ(h:∀t,K t->K' t)(q:E8 t u K):E8 t u K':=by
 have a:∀l,(i1 u λ i=>∃x,YX l i=TJ x/\K x)->i1 u λ i=>∃x,YX l i=TJ x/\K' x:=λ l q=>gM (by rintro i ⟨c,e,q⟩;exact (c,e,h _ q)) q;have b:∀x:Str,(i1 u λ i=>x.length<=TW/\∃c,YX x.cps.toList i=TJ c/\K (.str ⟨#[c]⟩))->i1 u λ i=>x.length<=TW/\∃c,YX x.cps.toList i=TJ c/\K' (.str ⟨#[c]⟩):=λ l q=>gM (by rintro i ⟨z,c,e,q⟩;exact (z,c,e,h _ q)) q
 cases t with
 |str x=>exact b x q
 |tup l|lst l|bor l|own l=>exact a l q
 |_=>exact q.elim
def uy(h:∀t,K t->K' t)(q:ZE f Z K):ZE f Z K':=by
 have W:∀ {t:TV}{g:List TV->TV},(s1 t λ l=>K<|g l)->s1 t λ l=>K'<|g l:=λ q=>qr (λ _ q=>h _ q) q;have T:∀ {t:TV}{g:Int->TV},(i1 t λ l=>K<|g l)->i1 t λ l=>K'<|g l:=λ q=>gM (λ _ q=>h _ q) q;have S:∀ {t u:TV}{g:Int->Int->TV},(i2 t u λ i j=>K<|g i j)->i2 t u λ i j=>K'<|g i j:=λ q=>lJ (λ _ _ q=>h _ q) q
 rcases Z with _|⟨t,_|⟨u,_|⟨w,r⟩⟩⟩
 .cases f<;>exact q.elim
 .cases f with
  |len=>cases t<;>first|exact h _ q|exact q.elim|exact gK q.1<|h _ q.2
  |tuple|list=>exact W q
  |trev b=>exact jb (λ _ q=>h _ q) q
  |sum|any|all=>exact uw (by rintro _ ⟨V,e,q⟩;exact (V,e,h _ q)) q
  |max|min=>exact uw (by rintro _ ⟨V,e,l,q⟩;exact (V,e,l,λ M m z=>h _<|q M m z)) q
  |abs=>exact T q
  |int|isI|isB|isT|isL|isS=>cases t<;>first|exact h _ q|exact q.elim
  |str|lrange k=>exact gM (by rintro _ ⟨a,q⟩;exact (a,h _ q)) q
  |sorted=>exact qr (by rintro _ ⟨V,e,l,q⟩;exact (V,e,l,λ M m z=>h _<|q M m z)) q
  |maxlen=>exact q.elim
 .cases f with
  |max|min=>exact S q
  |maxlen=>cases t<;>cases u<;>first|exact h _ q|exact q.elim
  |_=>exact q.elim
 .cases f<;>exact q.elim
def jc{K K':List TV->Prop}(h:∀t,K t->K' t)(q:l9 k Z K):l9 k Z K':=by
 rcases Z with _|⟨t,_|⟨u,_|⟨w,_|⟨y,r⟩⟩⟩⟩
 .cases k<;>exact q.elim
 .cases k with
  |seq=>exact qr h q
  |rng=>exact gM (by rintro _ ⟨a,q⟩;exact (a,h _ q)) q
  |enum a|rev a=>exact jb (λ _ q=>h _ q) q
  |str=>cases t<;>first|exact h _ q|exact q.elim
  |_=>exact q.elim
 .cases k with
  |rng2=>exact lJ (by rintro _ _ ⟨a,q⟩;exact (a,h _ q)) q
  |zip a b=>exact jb (λ _ q=>jb (λ _ q=>h _ q) q) q
  |_=>exact q.elim
 .cases k with
  |rng3=>exact lJ (λ _ _ q=>gM (by rintro _ ⟨a,q⟩;exact (a,h _ q)) q) q
  |zip3=>exact jb (λ _ q=>jb (λ _ q=>jb (by rintro _ ⟨a,q⟩;exact (a,h _ q)) q) q) q
  |_=>exact q.elim
 .cases k<;>exact q.elim
def Ka(h:∀t,K t->K' t)(q:z8 s K):z8 s K':=by
 cases s with
 |none=>exact q
 |some t=>cases t<;>first|exact h _ q|exact q.elim
def yV(q:B7 s P):∃l,s=TJ (.bor l)/\P l:=by
 cases s with
 |none=>exact q.elim
 |some t=>cases t<;>first|exact(_,rfl,q)|exact q.elim
def uz(q:u5 s P):∃a,s=TJ (TJ<|.obj<|.fn a)/\P a:=by
 rcases s with _|_|t
 .exact q.elim
 .exact q.elim
 .cases t with
  |obj o=>cases o<;>first|exact(_,rfl,q)|exact q.elim
  |_=>exact q.elim
def yW{P V:TQ->Prop}(h:∀a,P a->V a)(q:u5 s P):u5 s V:=by
 obtain⟨a,e,p⟩:=uz q;subst e;exact h a p
def Kb{P V:List TV->Prop}(h:∀l,P l->V l)(q:B7 s P):B7 s V:=by
 obtain⟨l,e,p⟩:=yV q;subst e;exact h l p
def yX(q:t1 t P):∃x,t=.str x/\P x:=by cases t<;>first|exact(_,rfl,q)|exact q.elim
def Kc{P V:Str->Prop}(h:∀x,P x->V x)(q:t1 t P):t1 t V:=by
 obtain⟨x,e,p⟩:=yX q;subst e;exact h x p
def Kd(h:∀t,K t->K' t)(q:B8 s K):B8 s K':=by
 rcases s with _|_|t
 .exact q
 .exact q
 .cases t<;>first|exact h _ q|exact q.elim
def iy{K K':En->Prop}(h:∀t,K t->K' t)(q:Zh Y Z t K):Zh Y Z t K':=by
 rcases Z with _|⟨i,_|⟨j,_|⟨k,_|⟨l,_|⟨V,r⟩⟩⟩⟩⟩
 .exact q.elim
 .exact h _ q
 .cases t with
  |tup l=>rcases l with _|⟨x,_|⟨y,_|⟨z,r⟩⟩⟩<;>first|exact h _ q|exact q.elim
  |_=>exact q.elim
 .cases t with
  |tup l=>rcases l with _|⟨x,_|⟨y,_|⟨z,_|⟨w,r⟩⟩⟩⟩<;>first|exact h _ q|exact q.elim
  |_=>exact q.elim
 .cases t with
  |tup l=>rcases l with _|⟨x,_|⟨y,_|⟨z,_|⟨w,_|⟨S,r⟩⟩⟩⟩⟩<;>first|exact h _ q|exact q.elim
  |_=>exact q.elim
 .exact q.elim
theorem qu{b V:TV->(List TV->Prop)->Prop}(S:∀t K K',(∀y,K y->K' y)->b t K->V t K'):∀ {l:List TV}{K K':List TV->Prop},(∀y,K y->K' y)->ZK b l K->ZK V l K'
 |[],_,_,h,q=>h _ q
 |_::_,_,_,h,q=>S _ _ _ (λ y q=>qu S (λ T q=>h _ q) q) q
variable {FT:List Yt}{GT:List TV}
structure Mo (FT:List Yt)(GT:List TV)(c:Cd):Prop where
 e:∀ {ρ:En}{K K':TV->Prop},(∀t,K t->K' t)->wE FT GT c ρ K->wE FT GT c ρ K'
 l:∀ {ρ:En}{K K':List TV->Prop},(∀t,K t->K' t)->wL FT GT c ρ K->wL FT GT c ρ K'
def lK{k:Bool}{A V B S:Prop}(T:A->V)(W:B->S)(q:if k=TK then A else B):if k=TK then V else S:=by
 cases k
 .exact W q
 .exact T q
def mo(FT:List Yt)(GT:List TV):∀c,Mo FT GT c:=λ c=>by
 induction c with
 |v i=>exact(λ h q=>Kd h q,λ _ q=>q.elim)
 |c t=>exact(λ h q=>h _ q,λ _ q=>q.elim)
 |g k=>exact(λ h q=>Ka h q,λ _ q=>q.elim)
 |bin o a b V S=>exact(λ h q=>V.e (λ x q=>S.e (λ y q=>JW h q) q) q,λ _ q=>q.elim)
 |neg a V=>exact(λ h q=>V.e (λ x q=>gM (λ _ q=>h _ q) q) q,λ _ q=>q.elim)
 |not a V=>exact(λ h q=>V.e (λ x q=>cI (λ _ q=>h _ q) q) q,λ _ q=>q.elim)
 |cmp o a b V S=>exact(λ h q=>V.e (λ x q=>S.e (λ y q=>iw h q) q) q,λ _ q=>q.elim)
 |cm2 o G a b c V S W=>exact(λ h q=>V.e (λ x q=>S.e (λ y q=>iw (λ z q=>cI (λ k q=>lK (λ q=>W.e (λ w q=>iw h q) q) (λ q=>h _ q) q) q) q) q) q,λ _ q=>q.elim)
 |and a b V S=>exact(λ h q=>V.e (λ x q=>cI (λ k q=>lK (λ q=>S.e h q) (λ q=>h _ q) q) q) q,λ _ q=>q.elim)
 |or a b V S=>exact(λ h q=>V.e (λ x q=>cI (λ k q=>lK (λ q=>h _ q) (λ q=>S.e h q) q) q) q,λ _ q=>q.elim)
 |ite c a b W V S=>exact(λ h q=>W.e (λ x q=>cI (λ k q=>lK (λ q=>V.e h q) (λ q=>S.e h q) q) q) q,λ _ q=>q.elim)
 |nil=>exact(λ _ q=>q.elim,λ h q=>h _ q)
 |cons a r V Z=>exact(λ _ q=>q.elim,λ h q=>V.e (λ t q=>Z.l (λ N q=>h _ q) q) q)
 |tup l T|lst l T=>exact(λ h q=>T.l (by rintro N ⟨a,b,q⟩;exact (a,b,h _ q)) q,λ _ q=>q.elim)
 |ix a b V S=>exact(λ h q=>V.e (λ x q=>S.e (λ y q=>JZ h q) q) q,λ _ q=>q.elim)
 |sl a lo B V T n=>exact(λ h q=>V.e (λ x q=>T.e (λ y q=>qt (λ p q=>n.e (λ z q=>qt (λ r q=>JY h q) q) q) q) q) q,λ _ q=>q.elim)
 |call f l T=>exact(λ h q=>T.l (λ N q=>let ⟨P,s,q⟩:=q;(P,s,λ t p=>((q t p).1,h _ (q t p).2))) q,λ _ q=>q.elim)
 |bi f l T=>exact(λ h q=>T.l (λ N q=>uy h q) q,λ _ q=>q.elim)
 |isi f a V|trev k a V|lrng k a V=>exact(λ h q=>V.e (λ t q=>uy h q) q,λ _ q=>q.elim)
 |mxl a b V S=>exact(λ h q=>V.e (λ t q=>S.e (λ u q=>uy h q) q) q,λ _ q=>q.elim)
 |dk k a V=>exact(λ h q=>Kb (λ J q=>V.e (λ y q=>Kc (by rintro x ⟨t,e,q⟩;exact (t,e,h _ q)) q) q) q,λ _ q=>q.elim)
 |ap i f l T=>exact(λ h q=>(q.1,yW (λ a q=>T.l (λ N q=>(q.1,let ⟨P,s,q⟩:=q.2;(P,s,λ t p=>h _<|q t p))) q) q.2),λ _ q=>q.elim)
 |cf i f x c W=>exact(λ h q=>(q.1,yW (λ a q=>W.e (λ u q=>(q.1,let ⟨P,s,q⟩:=q.2;(P,s,λ t p=>h _<|q t p))) q) q.2),λ _ q=>q.elim)
 |comp d fv U L k Y e F A=>exact(λ h q=>F.l (λ N q=>jc (λ j q=>(q.1,qu (λ t K K' h q=>iy (λ m q=>A.e (λ y q=>(q.1,h _ q.2)) q) q) (λ D q=>h _ q) q.2)) q) q,λ _ q=>q.elim)
 |compI d fv U L k Y c e F W A=>exact(λ h q=>F.l (λ N q=>jc (λ j q=>(q.1,qu (λ t K K' h q=>iy (λ m q=>W.e (λ x q=>cI (λ z q=>lK (λ q=>A.e (λ y q=>(q.1,h _ q.2)) q) (λ q=>h _ q) q) q) q) q) (λ D q=>h _ q) q.2)) q) q,λ _ q=>q.elim)
def aj(c:Cd){K K':TV->Prop}(h:∀t,K t->K' t)(q:wE FT GT c Z K):wE FT GT c Z K':=(mo FT GT c).e h q
def bE(c:Cd){K K':List TV->Prop}(h:∀t,K t->K' t)(q:wL FT GT c Z K):wL FT GT c Z K':=(mo FT GT c).l h q
end
example (FT:List Yt) (GT:List TV) (K:TV->Prop):wE FT GT (.neg<|.v 0) [TJ<|.int 3] K=K (.int<|-3):=rfl
section
variable {J:Hp->Prop}
def r2(X:Cx)(J:Hp->Prop)(p:TV->TV->(TV->Prop)->Prop):R2:=λ x y T Q=>∃F H V t u,Grow J F H V T/\Rr X.K H V T t x/\Rr X.K H V T u y/\p t u λ r=>∀W S v,Grow J F H W S->Rr X.K H W S r v->Q v S
def ef(h:i2 t u P):∃i j,t=.int i/\u=.int j/\P i j:=by
 cases t<;>cases u<;>first|exact(_,_,rfl,rfl,h)|exact h.elim
def gN(h:i1 t P):∃i,t=.int i/\P i:=by
 cases t<;>first|exact(_,rfl,h)|exact h.elim
def jd(h:b1 t P):∃i,t=.bl i/\P i:=by
 cases t<;>first|exact(_,rfl,h)|exact h.elim
def jT(h:l1 t P):∃l,t.items=TJ (TL,l)/\P l:=by
 cases t<;>first|exact(_,rfl,h)|exact h.elim
def lL(h:s1 t P):∃b l,t.items=TJ (b,l)/\P l:=by
 cases t<;>first|exact(_,_,rfl,h)|exact h.elim
def Rr.lq{K:FG}{l:List TV}(h:Rr K H Y Z t v)(e:t.items=TJ (TL,l)):∃a vs,v=.ref a/\RpL K Y Z l vs/\SqL K Z a vs:=by
 refine HT λ S V=>?_;obtain⟨a,vs,e,r,q⟩:=h.sq e;refine V ?_;clear V S
 rcases q with ⟨z,_⟩|⟨_,q⟩
 .cases z
 .exact(a,vs,e,r,q)
def jU(W:JS J){K:FG}{Q:VK}{vs:List V}(g:Grow J F H Y Z)(r:RpL K Y Z l vs)(q:∀T S v,Grow J F H T S->Rr K H T S (.tup l) v->Q v S)(p:TQ)(N:Z p=TM):Q (.ref p) (Yu Z p<|.tup vs) :=
 q Y _ _ (g.trans<|.new W g.w _ N) (p,vs,rfl,.of bB,r.ke (Grow.new W g.w _ N).ke)
def Grow.none(g:Grow J F H Y Z)(h:Z a=TM):H a=TM:=by
 by_cases z:H a=Option.none
 .exact z
 .exact U1 h<|g.dm a z
def jf(N:JS J){K:FG}{Q:VK}{vs:List V}(g:Grow J F H Y Z)(r:RpL K Y Z l vs)(q:∀W T v,Grow J F H W T->Rr K H W T (.own l) v->Q v T)(p:TQ)(S:Z p=TM):Q (.ref p) (Yu Z p<|.lst vs) :=
 q Y _ _ (g.trans<|.new N g.w _ S) (p,vs,rfl,g.none S,λ z=>g.w.d p z S,bB,r.ke (Grow.new N g.w _ S).ke)
def Kf(X:Cx):R2:=λ x y H Q=>∃a k V,x=.ref a/\y=.int k/\SqT X.K H a V/\V≠[]/\(0<=k/\k<2 ^ 63)/\V.length*k.toNat<=TW/\(k=1->Q (.ref a) H)/\(k≠1->∀p,H p=TM->Q (.ref p) (Yu H p<|.tup (TY k.toNat V).flatten))
def Kg:YL X (UA .Mult)<|Kf X:=by
 intro d s Y H x y v u Q I P f h;refine HT λ W S=>?_;obtain⟨a,k,xs,rfl,rfl,B,E,⟨h1,D⟩,w,R,C⟩:=h;refine S ?_;clear S W;cases P;refine HT λ W S=>?_;obtain⟨t,rfl⟩:=f;obtain⟨V,r,O,_⟩:=I.tuple B;obtain⟨⟨c,A,dt,K⟩,g,i,n,l⟩:=id O;refine S ?_;clear S W;simp only at i l;subst i l;have G:=r.length
 have Z:V.toArray.isEmpty=TL:=by
  cases V with
  |nil=>exact U1 (r.nil_iff.mp rfl) E
  |cons _ _=>rfl
 have j:V.toArray.size*k.toNat<=TW:=by rw[aY,<- G];exact w
 refine xJ (T := "tuple") (U := "int") Cl (_,g,on) (λ s'=>s0d s' k t) HH F.fills_int_mul pN HI F.slot_int_index.lookup
 <|fZ pN (s0d s k t) F.entry_int_rmul (F.args_int_rmul_2 _ _) (HJ k t a V.toArray n A K) (g,rfl,(_,g,rfl),?_)
 by_cases p:k=1
 .subst p;exact fZ uA (_,g,on) uB (uC _ _) (HK a V.toArray n t A K) (g,.ref a,H,I,on,R rfl)
 have L:∀(m:Nat) (b:LV),(TY m V.toArray).foldl (·++·) b.toArray=(b++(TY m V).flatten).toArray:=by
  intro m
  induction m with
  |zero=>intro b;simp
  |succ m M=>
   intro b;rw[fF,iT,List.append_toArray,M,fF,gF,jJ]
 have N:∀z:LV,z=(TY k.toNat V).flatten->EP X d Y Q (.ref s.heap.objs.size) { s with heap:=s.heap.push { cls:=.type "tuple",data:=.seq z.toArray } }:=by
  rintro z rfl;refine(.ref s.heap.objs.size,_,I.laid (t':=s.toks) (o:=.tup (TY k.toNat xs).flatten) (λ b ob q=>aJ _ q) (ax _) ?_,on,C p _<|I.hok.fresh<|ax _);exact(by rw[xI,s1u];exact w,_,r.rep k.toNat,TupO.new _ _)
 by_cases J:k=0
 .subst J;exact fZ uA (_,g,on) uB (uC _ _) (HL a V.toArray n 0 t A K BT BT Z) (g,N [] rfl)
 .refine fZ uA (_,g,on) uB (uC _ _) (HM a V.toArray n k t A K BT D Z j) (g,?_);have e:=L k.toNat [];rw[tJ] at e;show EP X d Y Q (.ref s.heap.objs.size) { s with heap:=s.heap.push { cls:=.type "tuple",data:=.seq ((TY k.toNat V.toArray).foldl (·++·) ([]:LV).toArray) } };rw[e];exact N _ rfl
def Kh(B:JS J)(o:Wr):YL X (UA o)<|r2 X J<|E6 o:=by
 intro A s Z T x y v u Q I K d h;obtain⟨F,H,N,t,w,g,Y,W,p⟩:=h
 cases o with
 |Add=>
  cases t with
  |int i=>
   cases Y
   cases w with
   |int j=>cases W;exact EW A s Z T _ _ v u Q I K d<|p N T _ g rfl
   |_=>exact p.elim
  |tup l=>
   cases w with
   |tup m=>
    refine HT λ S V=>?_;obtain⟨a,vs,rfl,G,D⟩:=Y;obtain⟨b,R,rfl,E,r2⟩:=W;obtain⟨L,p⟩:=p;refine V ?_;clear V S;have U:=D.append r2;refine Hx A s Z T _ _ v u Q I K d (a,b,vs,R,on,on,G,E,by rw[<- D.length,<- r2.length];exact L,λ e=>?_,λ _ e=>?_,λ _ _=>jU B g U p)
    .subst e;exact p N T _ g (b,_,rfl,E,U)
    .subst e;rw[eR] at U;exact p N T _ g (a,_,rfl,G,U)
   |_=>exact p.elim
  |lst l|bor l|own l=>
   refine HT λ S V=>?_;obtain⟨m,C,L,p⟩:=jT p;obtain⟨a,vs,rfl,D,G⟩:=Y.lq rfl;obtain⟨b,R,rfl,r2,E⟩:=W.lq C;refine V ?_;clear V S;exact Iw A s Z T _ _ v u Q I K d (a,b,vs,R,on,on,G,E,by rw[<- D.length,<- r2.length];exact L,jf B g (D.append r2) p)
  |_=>exact p.elim
 |Sub=>
  refine HT λ S V=>?_;obtain⟨i,j,rfl,rfl,p⟩:=ef p;refine V ?_;clear V S;cases Y;cases W;exact EY A s Z T _ _ v u Q I K d<|p N T _ g rfl
 |Mult=>
  cases t with
  |int i=>
   cases Y
   cases w with
   |int j=>cases W;exact Iy A s Z T _ _ v u Q I K d (p.1,p.2 N T _ g rfl)
   |_=>exact p.elim
  |own l=>
   cases w with
   |int k=>
    cases W;refine HT λ S V=>?_;obtain⟨a,vs,rfl,n,f,q,r⟩:=Y;obtain⟨O,L,p⟩:=p;refine V ?_;clear V S
    have U:RpL X.K N T (TY k.toNat l).flatten (TY k.toNat vs).flatten:=by
     generalize k.toNat=m
     induction m with
     |zero=>rfl
     |succ m M=>rw[fF,fF,gF,gF];exact r.append M
    exact Gz A s Z T _ _ v u Q I K d (a,k,vs,on,on,q,BT,O.2,by rw[<- r.length];exact L,jf B g U p)
   |_=>exact p.elim
  |tup l=>
   cases w with
   |int k=>
    cases W;refine HT λ S V=>?_;obtain⟨a,vs,rfl,q,r⟩:=Y;obtain⟨P,O,L,p⟩:=p;refine V ?_;clear V S
    have U:RpL X.K N T (TY k.toNat l).flatten (TY k.toNat vs).flatten:=by
     generalize k.toNat=m
     induction m with
     |zero=>rfl
     |succ m M=>rw[fF,fF,gF,gF];exact r.append M
    have vn:vs≠[]:=λ z=>P (nR<|by rw[r.length,z];rfl)
    exact Kg A s Z T _ _ v u Q I K d (a,k,vs,on,on,q,vn,O,by rw[← r.length];exact L,λ e=>by
     subst e;rw[show((1:Int).toNat)=1 from rfl,List.replicate_one,gF,List.flatten_nil,eR] at p
     exact p N T _ g (a,vs,on,q,r),λ _=>jU B g U p)
   |_=>exact p.elim
  |_=>cases w<;>exact p.elim
 |FloorDiv=>
  refine HT λ S V=>?_;obtain⟨i,j,rfl,rfl,⟨c1,c2,c3⟩,p⟩:=ef p;refine V ?_;clear V S;cases Y;cases W;by_cases c:0<j
  .rw[show aX i j=i/j by unfold aX;rw[U0 c]] at p;exact Ib A s Z T _ _ v u Q I K d ((c,c3),p N T _ g rfl)
  .rw[show aX i j=i.fdiv j by unfold aX;rw[T9 c]] at p;exact GV A s Z T _ _ v u Q I K d ((c1,c2,BT),p N T _ g rfl)
 |Mod=>
  refine HT λ S V=>?_;obtain⟨i,j,rfl,rfl,c1,p⟩:=ef p;refine V ?_;clear V S;cases Y;cases W;by_cases c:0<j
  .rw[show aO i j=i%j by unfold aO;rw[U0 c]] at p;exact EZ A s Z T _ _ v u Q I K d (c,p N T _ g rfl)
  .rw[show aO i j=i.fmod j by unfold aO;rw[T9 c]] at p;exact Fa A s Z T _ _ v u Q I K d (c1,p N T _ g rfl)
 |Pow=>
  refine HT λ S V=>?_;obtain⟨i,j,rfl,rfl,c1,p⟩:=ef p;refine V ?_;clear V S;cases Y;cases W;exact Fb A s Z T _ _ v u Q I K d (c1,p N T _ g rfl)
 |RShift=>
  refine HT λ S V=>?_;obtain⟨i,j,rfl,rfl,c1,p⟩:=ef p;refine V ?_;clear V S;cases Y;cases W;exact Fc A s Z T _ _ v u Q I K d (c1,p N T _ g rfl)
 |BitAnd=>
  refine HT λ S V=>?_;obtain⟨i,j,rfl,rfl,p⟩:=ef p;refine V ?_;clear V S;cases Y;cases W;exact Fd A s Z T _ _ v u Q I K d<|p N T _ g rfl
 |BitOr=>
  refine HT λ S V=>?_;obtain⟨i,j,rfl,rfl,p⟩:=ef p;refine V ?_;clear V S;cases Y;cases W;exact Fe A s Z T _ _ v u Q I K d<|p N T _ g rfl
 |BitXor=>
  refine HT λ S V=>?_;obtain⟨i,j,rfl,rfl,p⟩:=ef p;refine V ?_;clear V S;cases Y;cases W;exact Ff A s Z T _ _ v u Q I K d<|p N T _ g rfl
 |_=>exact p.elim
end
section
variable {J:Hp->Prop}{H:Hp}{F:Fz}
def FA:Fz:=λ _=>True
def Rr.top{K:FG}(h:Rr K H Y Z t v):Rp K FA Z t.fz v:=by
 have k:Ke K Y Z FA Z:=.up λ _ _=>trivial
 cases t with
 |own l=>obtain⟨a,vs,e,_,_,q,r⟩:=h;exact(a,vs,e,.inl (trivial,.of q),r.ke k)
 |bor l=>obtain⟨a,vs,e,_,q,r⟩:=h;exact(a,vs,e,.inl (trivial,.of q),r.ke k)
 |_=>exact Rp.ke k h
def uD{K:FG}(h:Rp K F H t v)(f:Zc t=TK):gE v=TK:=by
 cases t<;>first|(cases h;rfl)|(cases f)
def Ki{K:FG}(h:Rp K F H t v)(g:Rp K F H u w)(f:Zc t=TK)(V:Zc u=TK):i4 v w=eqT t u:=by
 cases t<;>cases u<;>first|(cases h;cases g;rfl)|(cases f;done)|(cases V;done)
theorem uE{K:FG}:∀ {l:List TV}{vs:List V},RpL K F H l vs->(∀x∈l,Zc x=TK)->vs.all gE=TK
 |[],_,h,_=>by cases h;rfl
 |t::N,_,(v,r,e,S,T),f=>by subst e;rw[cD,uD S<|f t Cr,uE T λ x W=>f x<|by simp[W]];rfl
theorem uF{K:FG}(S:Rp K F H t v)(f:Zc t=TK):∀ {l:List TV}{vs:List V},RpL K F H l vs->(∀x∈l,Zc x=TK)->E3 v vs=inT t l
 |[],_,h,_=>by cases h;rfl
 |u::z,_,(w,r,e,T,W),g=>by
  subst e;have A:=uF S f W λ x N=>g x (by simp[N]);unfold E3 inT at *;rw[mY,mY,A,Ki T S (g u Cr) f]
theorem Kj(I:Inv X D G H s){A:Uk}{vs g:List V}(B:A.units+99<Vn)(d:dp 99<|.tup l)(q:SqT X.K H a vs)(r:RpL X.K F H l vs)(U:SqT X.K H b g)(y:RpL X.K F H m g) :
  ∃(Y Z:LV),s.heap.IsTuple a Y.toArray/\s.heap.IsTuple b Z.toArray/\(∀j (K:j<Y.toArray.size) (z:j<Z.toArray.size),UN A.in1 s Y.toArray[j] Z.toArray[j] (eqT (l.getD j .non)<|m.getD j .non)) /\
   ((Ub<|min Y.toArray.size Z.toArray.size).all (λ j=>eqT (l.getD j .non)<|m.getD j .non)&&Y.toArray.size == Z.toArray.size)=eqTL l m:=by
 refine HT λ T S=>?_;obtain⟨Y,v,n,_⟩:=I.tuple q;obtain⟨Z,r2,w,_⟩:=I.tuple U;refine S ?_;clear S T;have k:∀x∈l,dp 98 x:=d;refine(Y,Z,n,w,λ j k1 i=>?_,?_)
 .refine HT λ T S=>?_;obtain⟨J,K,W,t⟩:=lF r v k1;obtain⟨L,z,N,_⟩:=lF y r2 i;refine S ?_;clear S T;exact yU I 98 A.in1 _ _ J L _ _ (by show A.units+1+98<Vn;lia) (k _ t) K z W N
 .have p:Y.toArray.size=l.length:=by simp[r.length,v.length]
  have e:Z.toArray.size=m.length:=by simp[y.length,r2.length]
  rw[p,e];by_cases c:l.length=m.length
  .rw[<- c,Nat.min_self,nQ c];simp
  .rw[nP c];have o:(l.length == m.length)=TL:=by simpa using c
   rw[o,lE]
theorem Kk(I:Inv X U L H s){A:Uk}{vs g:List V}(w:A.units+99<Vn)(d:dp 99<|.lst l)(q:SqL X.K H a vs)(r:RpL X.K F H l vs)(i:SqL X.K H b g)(y:RpL X.K F H m g) :
  ∃(Y Z:LV),s.heap.IsList a Y.toArray/\s.heap.IsList b Z.toArray/\(∀j (K:j<Y.toArray.size) (z:j<Z.toArray.size),UN A.in1 s Y.toArray[j] Z.toArray[j] (eqT (l.getD j .non)<|m.getD j .non))/\Y.toArray.size=l.length/\Z.toArray.size=m.length:=by
 refine HT λ T S=>?_;obtain⟨Y,v,p,_⟩:=I.list q;obtain⟨Z,r2,e,_⟩:=I.list i;refine S ?_;clear S T;have o:∀x∈l,dp 98 x:=d;refine(Y,Z,p.isList,e.isList,λ j k1 c=>?_,by simp[r.length,v.length],by simp[y.length,r2.length]);refine HT λ T S=>?_;obtain⟨t,K,W,k⟩:=lF r v k1;obtain⟨n,z,N,_⟩:=lF y r2 c;refine S ?_;clear S T;exact yU I 98 A.in1 _ _ t n _ _ (by show A.units+1+98<Vn;lia) (o _ k) K z W N
def P6(X:Cx)(J:Hp->Prop)(p:TV->TV->(TV->Prop)->Prop):R2:=λ x y V Q=>∃F H S t u,Grow J F H S V/\Rr X.K H S V t x/\Rr X.K H S V u y/\p t u λ r=>∀v,Rr X.K H S V r v->Q v V
def yY(hu:X.A.units+120<Vn)(W:Bool):YL X (Ut<|if W then .NotEq else .Eq)<|P6 X J<|jS<|if W then .NotEq else .Eq:=by
 intro i s L j x y v u Q I Y U h;refine HT λ S V=>?_;obtain⟨F,H,C,t,w,g,R,o,h⟩:=h;refine V ?_;clear V S;have c:K6 t.fz w.fz:=by cases W<;>exact h.1
 have p:∀v,Rr X.K H C j (.bl<|cond W (!eqT t.fz w.fz)<|eqT t.fz w.fz) v->Q v j:=by cases W<;>exact h.2
 clear h;have Z:=R.top;have D:=o.top;generalize t.fz=t at *;generalize w.fz=w at *;clear R o;have T:∀ {b},b=eqT t w->EP X i L Q (.bool<|cond W (!b) b) s:=λ e=>(.bl _,j,I,rfl,by rw[e];exact p _ rfl)
 have E:iN x y=TK->decide (x=y)=eqT t w->TU (TX X.prog X.w) X.A (Ut (if W then .NotEq else .Eq) v u) (EP X i L Q) X.xe s:=λ O e=>by
  cases W
  .exact sH i s L j _ _ v u Q I Y U<|rEq_ex.mpr (O,p _<|by rw[e];rfl)
  .exact Fk i s L j _ _ v u Q I Y U<|rNe_ex.mpr (O,p _<|by rw[e];rfl)
 cases t with
 |tup l=>
  cases w with
  |tup m=>
   refine HT λ S V=>?_;obtain⟨a,vs,rfl,q,r⟩:=Z;obtain⟨b,f,rfl,B,G⟩:=D;refine V ?_;clear V S;cases Y;cases U;refine HT λ S V=>?_;obtain⟨P,M,N,K,e,z⟩:=Kj I (A:=X.A) BT c q r B G;refine V ?_;clear V S;replace T:=T z;cases W
   .exact SeqAt.RcAt.tuples N K BT e _ _ _ _ T
   .exact SeqAt.RcNeAt.tuples N K BT e _ _ _ _ T
  |_=>exact c.elim
 |lst l=>
  cases w with
  |lst m=>
   refine HT λ S V=>?_;obtain⟨a,vs,rfl,q,r⟩:=Z;obtain⟨b,f,rfl,B,G⟩:=D;refine V ?_;clear V S;cases Y;cases U;refine HT λ S V=>?_;obtain⟨P,M,N,K,e,d,n⟩:=Kk I (A:=X.A) BT c q.sq r B.sq G;refine V ?_;clear V S;by_cases k:l.length=m.length
   .have z:=T<|nQ k;rw[<- d] at z;cases W
    .exact SeqAt.RcAt.lists N K (by rw[d,n,k]) BT e _ _ _ _ z
    .exact SeqAt.RcNeAt.lists N K (by rw[d,n,k]) BT e _ _ _ _ z
   .replace T:=T (nP k).symm;cases W
    .exact yT N K (by rw[d,n];simpa using k) BT _ _ _ _ T
    .exact SeqAt.RcNeAt.lists_lengths N K (by rw[d,n];simpa using k) BT _ _ _ _ T
  |_=>exact c.elim
 |int _|str _|bl _|non=>cases w<;>first|exact c.elim|(cases Z;cases D;exact E rfl<|by first|rfl|exact J2 _ _|exact J3 _ _|exact sD)
 |_=>exact Z.elim
def lM(Y:X.A.units+120<Vn)(o:Vx):YL X (Ut o)<|P6 X J<|jS o:=by
 cases o with
 |Eq=>exact yY Y TL
 |NotEq=>exact yY Y TK
 |In=>
  intro N s d W x y v u Q I K z h;refine HT λ S V=>?_;obtain⟨F,H,c,t,w,g,A,T,p⟩:=h;obtain⟨b,l,e,k,n,p⟩:=lL p;obtain⟨a,vs,rfl,r,q⟩:=T.sq e;refine V ?_;clear V S
  have Z:Rp X.K c W t x:=by cases t<;>first|exact A|cases k
  refine Gk N s d W _ _ v u Q I K z (a,vs,on,?_,uD Z k,uE r n,?_)
  .rcases q with ⟨_,q⟩|⟨_,q⟩
   .exact .inr q
   .exact .inl q
  .rw[T9 Cl,uF Z k r n];exact p _ rfl
 |NotIn=>
  intro N s d W x y v u Q I K z h;refine HT λ S V=>?_;obtain⟨F,H,c,t,w,g,A,T,p⟩:=h;obtain⟨b,l,e,k,n,p⟩:=lL p;obtain⟨a,vs,rfl,r,q⟩:=T.sq e;refine V ?_;clear V S
  have Z:Rp X.K c W t x:=by cases t<;>first|exact A|cases k
  refine Gm N s d W _ _ v u Q I K z (a,vs,on,?_,uD Z k,uE r n,?_)
  .rcases q with ⟨_,q⟩|⟨_,q⟩
   .exact .inr q
   .exact .inl q
  .rw[U0 rfl,uF Z k r n];exact p _ rfl
 |Is=>
  intro N s d W x y v u Q I K z h;refine HT λ S V=>?_;obtain⟨F,H,c,t,w,g,A,T,rfl,p⟩:=h;refine V ?_;clear V S;cases T;have m:=A.top;refine Fp N s d W _ _ v u Q I K z (on,?_);replace p:=p _ rfl
  cases t<;>first|exact Uw m|(cases m;exact p)|(obtain⟨a,vs,rfl,_⟩:=m;exact p)
 |IsNot=>
  intro N s d W x y v u Q I K z h;refine HT λ S V=>?_;obtain⟨F,H,c,t,w,g,A,T,rfl,p⟩:=h;refine V ?_;clear V S;cases T;have m:=A.top;refine Fq N s d W _ _ v u Q I K z (on,?_);replace p:=p _ rfl
  cases t<;>first|exact Uw m|(cases m;exact p)|(obtain⟨a,vs,rfl,_⟩:=m;exact p)
 |Lt=>intro N s d W x y v u Q I K z h;refine HT λ S V=>?_;obtain⟨F,H,c,t,w,g,A,T,p⟩:=h;obtain⟨i,j,rfl,rfl,p⟩:=ef p;refine V ?_;clear V S;cases A;cases T;exact Fl N s d W _ _ v u Q I K z<|p _ rfl
 |LtE=>intro N s d W x y v u Q I K z h;refine HT λ S V=>?_;obtain⟨F,H,c,t,w,g,A,T,p⟩:=h;obtain⟨i,j,rfl,rfl,p⟩:=ef p;refine V ?_;clear V S;cases A;cases T;exact Fm N s d W _ _ v u Q I K z<|p _ rfl
 |Gt=>
  intro N s d W x y v u Q I K z h;refine HT λ S V=>?_;obtain⟨F,H,c,t,w,g,A,T,p⟩:=h;refine V ?_;clear V S;cases t<;>cases w<;>try exact p.elim
  .cases A;cases T;exact Fn N s d W _ _ v u Q I K z<|p _ rfl
 |GtE=>intro N s d W x y v u Q I K z h;refine HT λ S V=>?_;obtain⟨F,H,c,t,w,g,A,T,p⟩:=h;obtain⟨i,j,rfl,rfl,p⟩:=ef p;refine V ?_;clear V S;cases A;cases T;exact Fo N s d W _ _ v u Q I K z<|p _ rfl
def Kl{K:FG}{vs:List V}(r:RpL K F H l vs)(e:YX l i=TJ t):∃v,YX vs i=TJ v/\Rp K F H t v:=by
 unfold YX at *;rw[<- r.length]
 cases q:b9 l.length i with
 |none=>rw[q] at e;cases e
 |some j=>rw[q] at e;exact r.get e
def Km:IxR X<|r2 X J E8:=by
 intro T S j s d N x y v u Q I n Z h k;refine HT λ W V=>?_;obtain⟨F,H,U,t,w,g,D,K,p⟩:=h;refine V ?_;clear V W
 have m:∀b l,t.items=TJ (b,l)->(i1 w λ i=>∃x,YX l i=TJ x/\∀Y o v,Grow J F H Y o->Rr X.K H Y o x v->Q v o)->TU (TX X.prog X.w) X.A (VQ T S v u) (EP X j d Q) X.xe s:=λ b l e p=>by
  refine HT λ W V=>?_;obtain⟨i,rfl,z,E,p⟩:=gN p;refine V ?_;clear V W;cases K;refine HT λ W V=>?_;obtain⟨a,vs,rfl,r,q⟩:=D.sq e;obtain⟨B,L,O⟩:=Kl r E;refine V ?_;clear V W;have A:=p U N _ g<|Rr.of O
  rcases q with ⟨_,q⟩|⟨_,q⟩
  .exact tE T S j s d N _ _ v u Q I n Z (.inr<|.inl (a,vs,i,B,on,on,q,L,A)) k
  .exact tE T S j s d N _ _ v u Q I n Z (.inl (a,vs,i,B,on,on,q,L,A)) k
 cases t with
 |str x=>
  refine HT λ W V=>?_;obtain⟨i,rfl,M,c,G,p⟩:=gN p;refine V ?_;clear V W;cases K;cases D;exact tE T S j s d N _ _ v u Q I n Z (.inr<|.inr (x,i,c,on,on,M,G,p U N _ g rfl)) k
 |tup l|lst l|bor l|own l=>exact m _ _ rfl p
 |_=>exact p.elim
def rsl(X:Cx)(J:Hp->Prop):V->Option Int->Option Int->Hp->VK->Prop:=λ x lo A N Q=>∃F H W t,Grow J F H W N/\Rr X.K H W N t x /\
 E7 t lo A λ r=>∀T S v,Grow J F H T S->Rr X.K H T S r v->Q v S
def uG{K:FG}{vs:List V}(r:RpL K F H l vs)(lo S:Option Int):RpL K F H (ai l lo S)<|hG vs lo S:=by
 unfold ai hG;rw[<- r.length];exact(r.drop _).take _
def Ko(G:JS J):B4 X<|rsl X J:=by
 intro K s m A x v Y U lo W k Q I o y j d h;refine HT λ S V=>?_;obtain⟨F,H,D,t,g,Z,p⟩:=h;refine V ?_;clear V S
 have w:∀l,t.items=TJ (TL,l)->(∀L b v,Grow J F H L b->Rr X.K H L b (.own<|ai l lo W) v->Q v b)->∃T id,UU (.type T) "__getitem__"=Uo (TJ<|.builtin id)/\s.TypeIs v T/\TU (TX X.prog X.w) X.A (Vo v<|.ref k) (EP X K m Q) X.xe s:=λ l e p=>by
  refine HT λ S V=>?_;obtain⟨a,vs,rfl,r,q⟩:=Z.lq e;refine V ?_;clear V S;exact Gj K s m A _ v Y U lo W k Q I o y j d (a,vs,on,q,jf G g (uG r lo W) p)
 cases t with
 |tup l=>
  refine HT λ S V=>?_;obtain⟨a,N,rfl,i,r⟩:=Z;refine V ?_;clear V S;by_cases c:_H.sIx N.length 0 lo=0/\_H.sIx N.length N.length W=N.length
  .cases o;obtain⟨n,M,E,O⟩:=I.tuple i;have B:n.toArray.size=N.length:=by rw[aY];exact M.length.symm
   refine("tuple",_,PyProof.Rows.slot_tuple_getitem.lookup,E.typeIs,_H.whole_tup E y j d (by rw[B];exact c.1) (by rw[B];exact c.2) (.ref a,A,I,on,p D A _ g (a,N,on,i,?_)));have z:=uG r lo W;unfold hG at z
   rwa [c.1,c.2,Xm,Nat.sub_zero,bP] at z
  .exact FW K s m A _ v Y U lo W k Q I o y j d (a,N,on,i,c,jU G g (uG r lo W) p)
 |str z=>cases Z;exact IE K s m A _ v Y U lo W k Q I o y j d (z,rfl,p.1,p.2 D A _ g rfl)
 |lst l|bor l|own l=>exact w l rfl p
 |_=>exact p.elim
end
section
variable {J:Hp->Prop}
def yZ(X:Cx):V->V->Hp->VK->Prop:=λ x y H Q=>∃(a b:TQ) (S T:List V),x=.ref a/\y=.ref b/\SqT X.K H a S/\SqT X.K H b T/\(T.length<=S.length->Q (.ref a) H)/\(S.length<T.length->Q (.ref b) H)
def Kp{p U N L:Pos}(i:X.calm=TK)(n:Gl X "max")(Z:X.mg "max"=TM)(K:Gl X "len")(F:X.mg "len"=TM)(t:PE X e R)(l:PE X f C)(z:autoParam (Ud [e,f] X.env=(TL,eval e X.env)::Ud [f] X.env) Ty._auto_1)(T:autoParam (Ud [f] X.env=[(TL,eval f X.env)]) Ty._auto_1):PE X (.Call (.Name "max" p) [e,f] [(TJ<|Uf "key",.Name "len" L,U)] N)<|Jn (yZ X) R C:=by
 intro c s P H Q I h;refine iP<|eQ I n Z boot_max ?_;have k:=(bK t (bK l (pa_nil (X:=X)) T) z) N c s P H (λ vs A=>match vs with|[x,y]=>yZ X x y A Q|_=>False) I h;refine callWith_kw (Yw k λ us s1 (vs,A,W,G,g)=>?_) (by rw[z,T];rfl) (by rw[z,T];rfl)
 match vs,g with
 |[x0,y0],g=>
  refine HT λ S V=>?_;obtain⟨u,v,rfl,E,M⟩:=jH G;refine V ?_;clear V S;refine kws_cons<|eQ W K F boot_len<|kws_nil ?_;refine HT λ S V=>?_;obtain⟨a,b,xs,ys,rfl,rfl,m,r,D,B⟩:=g;refine V ?_;clear V S;cases (show u=Ug a from E);cases (show v=Ug b from M);refine HT λ S V=>?_;obtain⟨i1,t1,J,y1⟩:=W.tuple m;obtain⟨i2,O,j,y2⟩:=W.tuple r;refine V ?_;clear V S;have l1:=t1.length;have l2:=O.length;have Y:TW=16777216:=iO;refine Jm (W.ok.hd i) J j (by rw[aY];omega) (by rw[aY];omega) λ v q tk d o=>?_;simp only[aY] at d
  rcases d with ⟨rfl,w⟩|⟨rfl,w⟩
  .exact(.ref a,A,W.kept o,on,D<|by omega)
  .exact(.ref b,A,W.kept o,on,B<|by omega)
def rL(X:Cx)(J:Hp->Prop)(p:List TV->(TV->Prop)->Prop):List V->Hp->VK->Prop:=λ K N Q=>∃F H W A,Grow J F H W N/\RrL X.K H W N A K/\p A λ r=>∀T S v,Grow J F H T S->Rr X.K H T S r v->Q v S
noncomputable def P7:BI->Value
 |.len=>.builtin "len" |.tuple=>.type "tuple" |.list=>.type "list" |.sum=>.builtin "sum" |.max=>.builtin "max" |.min=>.builtin "min" |.abs=>.builtin "abs" |.int=>.type "int" |.str=>.type "str"
 |.sorted=>.builtin "sorted" |.any=>.builtin "any" |.all=>.builtin "all" |_=>.none
def jV{K:FG}{t:TV}(h:RrL K H Z Y [t] U):∃x,U=[x]/\Rr K H Z Y t x:=by
 cases h with
 |cons r q=>cases q;exact(_,rfl,r)
def uH{K:FG}{t u:TV}(h:RrL K H Z Y [t,u] U):∃x y,U=[x,y]/\Rr K H Z Y t x/\Rr K H Z Y u y:=by
 cases h with
 |cons r q=>obtain⟨y,rfl,V⟩:=jV q;exact(_,y,rfl,r,V)
def Kq(h:rL X J p U Y Q)(n:∀V K,p V K->V.length=1):∃F H Z t x,U=[x]/\Grow J F H Z Y/\Rr X.K H Z Y t x/\p [t] λ r=>∀T S v,Grow J F H T S->Rr X.K H T S r v->Q v S:=by
 obtain⟨F,H,Z,V,g,r,q⟩:=h
 match V,n _ _ q with
 |[t],_=>obtain⟨x,rfl,W⟩:=jV r;exact(F,H,Z,t,x,rfl,g,W,q)
def uI{K:FG}{b:Bool}{vs:List V}(q:(b=TK/\SqT K Z a vs)\/(b=TL/\SqL K Z a vs)):SqL K Z a vs\/SqT K Z a vs:=q.elim (λ z=>.inr z.2) λ z=>.inl z.2
def bi1{f:BI}(h:f=.len\/f=.tuple\/f=.list\/f=.sum\/f=.abs\/f=.int\/f=.sorted\/f=.any):∀V K,ZE f V K->V.length=1:=by
 intro V K q
 rcases V with _|⟨t,_|⟨u,_|⟨w,r⟩⟩⟩
 .rcases h with rfl|rfl|rfl|rfl|rfl|rfl|rfl|rfl<;>exact q.elim
 .rfl
 .rcases h with rfl|rfl|rfl|rfl|rfl|rfl|rfl|rfl<;>exact q.elim
 .rcases h with rfl|rfl|rfl|rfl|rfl|rfl|rfl|rfl<;>exact q.elim
def jg(k:JS J)(Z:X.calm=TK)(f:BI)(h:f=.len\/f=.tuple\/f=.list\/f=.sum\/f=.abs\/f=.int\/f=.sorted\/f=.any):bY X (P7 f)<|rL X J<|ZE f:=by
 intro W s A T D N Q I K Y;refine HT λ S V=>?_;obtain⟨F,H,j,t,x,rfl,g,y,p⟩:=Kq Y<|bi1 h;refine V ?_;clear V S
 rcases h with rfl|rfl|rfl|rfl|rfl|rfl|rfl|rfl
 .have m:∀b l,t.items=TJ (b,l)->(∀w c v,Grow J F H w c->Rr X.K H w c (.int l.length) v->Q v c)->TU (TX X.prog X.w) X.A (call (P7 .len) N) (EP X W A Q) X.xe s:=λ b l e p=>by
   refine HT λ S V=>?_;obtain⟨a,vs,rfl,r,q⟩:=y.sq e;refine V ?_;clear V S;exact Gn W s A T _ N Q I K (a,vs,on,uI q,by rw[<- r.length];exact p j T _ g rfl)
  cases t with
  |str z=>cases y;exact Go W s A T _ N Q I K (z,rfl,p.1,p.2 j T _ g rfl)
  |tup l|lst l|bor l|own l=>exact m _ _ rfl p
  |_=>exact p.elim
 .refine HT λ S V=>?_;obtain⟨b,l,e,p⟩:=lL p;obtain⟨a,vs,rfl,r,q⟩:=y.sq e;refine V ?_;clear V S;refine Gq W s A T _ N Q I K (a,vs,on,?_)
  rcases q with ⟨_,q⟩|⟨_,q⟩
  .exact .inr (q,p j T _ g (a,vs,on,q,r))
  .exact .inl (q,jU k g r p)
 .refine HT λ S V=>?_;obtain⟨b,l,e,p⟩:=lL p;obtain⟨a,vs,rfl,r,q⟩:=y.sq e;refine V ?_;clear V S;exact Gp W s A T _ N Q I K (a,vs,on,uI q,jf k g r p)
 .refine HT λ S V=>?_;obtain⟨l,e,d,rfl,p⟩:=jT p;obtain⟨a,vs,rfl,r,q⟩:=y.lq e;refine V ?_;clear V S;cases r.ints;exact HA Z W s A T _ N Q I K (a,d,on,q,p j T _ g rfl)
 .obtain⟨i,rfl,p⟩:=gN p;cases y;exact Fw W s A T _ N Q I K (i,on,p j T _ g rfl)
 .cases t with
  |int i=>cases y;exact wW W s A T _ N Q I K<|.inl (i,rfl,p j T _ g rfl)
  |bl i=>cases y;exact wW W s A T _ N Q I K<|.inr (i,rfl,p j T _ g rfl)
  |_=>exact p.elim
 .refine HT λ S V=>?_;obtain⟨b,l,e,d,rfl,n,p⟩:=lL p;obtain⟨a,vs,rfl,r,q⟩:=y.sq e;refine V ?_;clear V S;cases r.ints;exact Iz W s A T _ N Q I K (a,d,on,uI q,n,λ o U L=>jf k g (RpL.ofInts o)<|p o U L)
 .refine HT λ S V=>?_;obtain⟨l,e,d,rfl,p⟩:=jT p;obtain⟨a,vs,rfl,r,q⟩:=y.lq e;refine V ?_;clear V S;cases r.bls;exact IF Z W s A T _ N Q I K (a,d,on,q,p j T _ g rfl)
def Kr(K:X.calm=TK):bY X (.builtin "max")<|rL X J<|ZE .max:=by
 intro A s o T Z d Q I v h;refine HT λ S V=>?_;obtain⟨F,H,N,n,g,r,p⟩:=h;refine V ?_;clear V S
 rcases n with _|⟨t,_|⟨u,_|⟨w,r⟩⟩⟩
 .exact p.elim
 .refine HT λ S V=>?_;obtain⟨x,rfl,W⟩:=jV r;obtain⟨l,e,k,rfl,c,p⟩:=jT p;obtain⟨a,vs,rfl,r,q⟩:=W.lq e;refine V ?_;clear V S;cases r.ints;exact Jh K A s o T _ d Q I v (a,k,on,q,c,λ M m z=>p M m z N T _ g rfl)
 .refine HT λ S V=>?_;obtain⟨x,y,rfl,W,b⟩:=uH r;obtain⟨i,j,rfl,rfl,p⟩:=ef p;refine V ?_;clear V S;cases W;cases b;exact Fx K A s o T _ d Q I v (i,j,on,p N T _ g rfl)
 .exact p.elim
def Ks(K:X.calm=TK):bY X (.builtin "min")<|rL X J<|ZE .min:=by
 intro A s o T Z d Q I v h;refine HT λ S V=>?_;obtain⟨F,H,N,n,g,r,p⟩:=h;refine V ?_;clear V S
 rcases n with _|⟨t,_|⟨u,_|⟨w,r⟩⟩⟩
 .exact p.elim
 .refine HT λ S V=>?_;obtain⟨x,rfl,W⟩:=jV r;obtain⟨l,e,k,rfl,c,p⟩:=jT p;obtain⟨a,vs,rfl,r,q⟩:=W.lq e;refine V ?_;clear V S;cases r.ints;exact Jg K A s o T _ d Q I v (a,k,on,q,c,λ M m z=>p M m z N T _ g rfl)
 .refine HT λ S V=>?_;obtain⟨x,y,rfl,W,b⟩:=uH r;obtain⟨i,j,rfl,rfl,p⟩:=ef p;refine V ?_;clear V S;cases W;cases b;exact Fy K A s o T _ d Q I v (i,j,on,p N T _ g rfl)
 .exact p.elim
noncomputable def ZV:BI->String
 |.isI=> "int" |.isB=> "bool" |.isT=> "tuple" |.isL=> "list" |.isS=> "str" |_=> ""
noncomputable def ZA:TV->String
 |.non=> "NoneType" |.bl _=> "bool" |.int _=> "int" |.str _=> "str" |.tup _=> "tuple" |_=> "list"
theorem Kt{t:TV}{Q:VS}(I:Inv X Y U Z s)(T:Rp X.K FA Z t.fz x)(N:RelV x u)
  (e:W.kitOne X.K (.type<|ZA t) (.type n)=TJ b) (h:∀g,Q (.bool b) { s with toks:=g }):TU (TX X.prog X.w) A (call (.builtin "isinstance") [u,.type n]) Q E s:=by
 have lst:∀ {l a vs},x=.ref a->SqL X.K Z a vs->RpL X.K FA Z l vs->ZA t="list" -> TU (TX X.prog X.w) A (call (.builtin "isinstance") [u,.type n]) Q E s:=λ j q r v=>by
  subst j;cases N;refine HT λ S V=>?_;obtain⟨F,_,⟨o,n,K,c,_⟩,_⟩:=I.list q;refine V ?_;clear V S;rw[v] at e;exact lN W.kitx_list I.kIn (_,K,c) e (λ z=>nomatch z) h
 cases t with
 |non=>cases T;cases N;exact lN W.kitx_none I.kIn ja e (λ z=>nomatch z) h
 |bl y=>cases T;cases N;exact lN W.kitx_bool I.kIn ja e (λ z=>nomatch z) h
 |int i=>cases T;obtain⟨t,rfl⟩:=N;exact lN W.kitx_int I.kIn ja e (λ z=>nomatch z) h
 |str i=>cases T;obtain⟨t,rfl⟩:=N;exact lN W.kitx_str I.kIn ja e (λ z=>nomatch z) h
 |tup l=>
  refine HT λ S V=>?_;obtain⟨a,vs,rfl,q,r⟩:=T;refine V ?_;clear V S;cases N;refine HT λ S V=>?_;obtain⟨F,_,⟨o,K,c,_⟩,_⟩:=I.tuple q;refine V ?_;clear V S;exact lN W.kitx_tuple I.kIn (_,K,c) e (λ z=>nomatch z) h
 |lst l|bor l|own l=>obtain⟨a,vs,rfl,q,r⟩:=T;exact lst rfl q.sq r rfl
 |obj l=>exact T.elim
def Ku{K:FG}(f:BI)(h:f=.isI\/f=.isB\/f=.isT\/f=.isL\/f=.isS)(t:TV):W.kitOne K (.type<|ZA t) (.type<|ZV f)=TJ (tP (ZA t)<|ZV f):=by
 have m:ZA t="NoneType" \/ ZA t="bool" \/ ZA t="int" \/ ZA t="str" \/ ZA t="tuple" \/ ZA t="list" := by cases t<;>simp[ZA]
 generalize ZA t=y at *
 rcases m with rfl|rfl|rfl|rfl|rfl|rfl<;>rcases h with rfl|rfl|rfl|rfl|rfl<;>exact GW (by decide +kernel)
def Kv(f:BI)(h:f=.isI\/f=.isB\/f=.isT\/f=.isL\/f=.isS):bY X (.builtin "isinstance") λ K T Q=>∃x,K=[x,.ty<|ZV f]/\rL X J (ZE f) [x] T Q:=by
 intro w s Y T K Z Q I o j;refine HT λ S V=>?_;obtain⟨x,rfl,F,H,z,l,g,r,p⟩:=j;obtain⟨u,n,rfl,k,m⟩:=jH o;refine V ?_;clear V S;cases (show n=Uq _ from m)
 have d:∃t,l=[t]:=by
  cases r with
  |cons a b=>cases b;exact(_,rfl)
 refine HT λ S V=>?_;obtain⟨t,rfl⟩:=d;obtain⟨_,y,c⟩:=jV r;refine V ?_;clear V S;cases y;refine Kt I c.top k (Ku f h t) λ i=>(.bl _,T,I.tok i,on,?_);have A:∀b,tP (ZA t) (ZV f)=b->(∀N W v,Grow J F H N W->Rr X.K H N W (.bl b) v->Q v W)->Q (.bl<|tP (ZA t)<|ZV f) T:=λ b e q=>by rw[e];exact q z T _ g rfl
 rcases h with rfl|rfl|rfl|rfl|rfl<;>cases t<;>first|exact p.elim|exact A TK (by simp only[ZA,ZV];decide +kernel) p|exact A TL (by simp only[ZA,ZV];decide +kernel) p
end
section
variable {K:FG}{J:Hp->Prop}
def Vw(K:FG)(F:Fz)(H:Hp)(t:TV)(x:V):Prop:=match t.items with
 |some (TK,l)=>∃a vs,x=.ref a/\SqT K H a vs/\RpL K F H l vs
 |some (TL,l)=>∃a vs,x=.ref a/\SqL K H a vs/\RpL K F H l vs
 |none=>Rp K F H t x
def Vw.l{t:TV}{l:List TV}(h:Vw K F H t x)(e:t.items=TJ (TL,l)):∃a vs,x=.ref a/\SqL K H a vs/\RpL K F H l vs:=by
 unfold Vw at h;rw[e] at h;exact h
def Vw.t{t:TV}{l:List TV}(h:Vw K F H t x)(e:t.items=TJ (TK,l)):∃a vs,x=.ref a/\SqT K H a vs/\RpL K F H l vs:=by
 unfold Vw at h;rw[e] at h;exact h
def Rr.vw{H T W}(h:Rr K H T W t x):Vw K T W t x:=by
 unfold Vw
 cases e:t.items with
 |none=>cases t<;>first|exact h|cases e
 |some p=>
  refine HT λ S V=>?_;obtain⟨b,l⟩:=p;obtain⟨a,vs,rfl,r,q⟩:=h.sq e;refine V ?_;clear V S;cases b
  .rcases q with ⟨z,_⟩|⟨_,q⟩
   .cases z
   .exact(a,vs,on,q,r)
  .rcases q with ⟨_,q⟩|⟨z,_⟩
   .exact(a,vs,on,q,r)
   .cases z
def Rp.vw{V S}{t:TV}(h:Rp K V S t.fz x):Vw K V S t x:=by
 cases t with
 |bor l|own l|lst l=>obtain⟨a,vs,e,q,r⟩:=h;exact(a,vs,e,q.sq,r)
 |_=>exact h
structure YW (K:FG)(J:Hp->Prop)(Jt:It)(its ts:List TV)(xs:List V):Prop where
 go:∀F H i,Wd J F H->UZ (Vw K F H) ts xs->i<its.length->Jt.go i H
 stop:∀F H,Wd J F H->UZ (Vw K F H) ts xs->Jt.stop its.length H
 yld:∀F H i x H',Wd J F H->UZ (Vw K F H) ts xs->i<its.length->Jt.yld i H x H'->∃t,its[i]?=TJ t/\Grow J F H F H'/\Rp K F H' t x
def fN{t:TV}{x:V}(h:UZ (Vw K F H) [t] [x]):Vw K F H t x:=by cases h with|cons r _=>exact r
def fO{V:Type}{l:List V}{i:Nat}(h:i<l.length):∃x,l[i]?=TJ x:=(_,aZ h)
theorem Kw{t:TV}{l:List TV}(e:t.items=TJ (TL,l)):YW K J (G9 K a) l [t] [.ref a] where
 go F H i w h W:=by
  refine HT λ S V=>?_;obtain⟨b,vs,T,q,r⟩:=(fN h).l e;refine V ?_;clear V S;cases T;obtain⟨x,z⟩:=fO (l:=vs) (by rw[<- r.length];exact W);exact(vs,x,q,z)
 stop F H w h:=by
  refine HT λ S V=>?_;obtain⟨b,vs,T,q,r⟩:=(fN h).l e;refine V ?_;clear V S;cases T;exact(vs,q,by rw[r.length];exact ax _)
 yld F H i x g w h W y:=by
  refine HT λ S V=>?_;obtain⟨b,vs,T,q,r⟩:=(fN h).l e;refine V ?_;clear V S;cases T;refine HT λ S V=>?_;obtain⟨rfl,y⟩:=y;obtain⟨t,N⟩:=fO W;obtain⟨v,A,j⟩:=r.get N;refine V ?_;clear V S;have:=y vs q;rw[A] at this;cases this;exact(t,N,.refl w,j)
theorem Kx{t:TV}{l:List TV}(e:t.items=TJ (TK,l)):YW K J (I9 K a) l [t] [.ref a] where
 go F H i w h W:=by
  refine HT λ S V=>?_;obtain⟨b,vs,T,q,r⟩:=(fN h).t e;refine V ?_;clear V S;cases T;obtain⟨x,z⟩:=fO (l:=vs) (by rw[<- r.length];exact W);exact(vs,x,q,z)
 stop F H w h:=by
  refine HT λ S V=>?_;obtain⟨b,vs,T,q,r⟩:=(fN h).t e;refine V ?_;clear V S;cases T;exact(vs,q,by rw[r.length];exact ax _)
 yld F H i x g w h W y:=by
  refine HT λ S V=>?_;obtain⟨b,vs,T,q,r⟩:=(fN h).t e;refine V ?_;clear V S;cases T;refine HT λ S V=>?_;obtain⟨rfl,y⟩:=y;obtain⟨t,N⟩:=fO W;obtain⟨v,A,j⟩:=r.get N;refine V ?_;clear V S;have:=y vs q;rw[A] at this;cases this;exact(t,N,.refl w,j)
theorem Ky(lo:Int)(n:Nat):YW K J (E2 lo n) ((Ub n).map λ k=>.int<|lo+(k:Nat)) Z Y where
 go F H i w h V:=by show i<n;simpa using V
 stop F H w h:=by show n<=_;simp
 yld F H i x T w h V y:=by
  obtain⟨rfl,rfl⟩:=y;have S:i<n:=by simpa using V
  exact(.int<|lo+(i:Nat),by rw[bc,ji S];rfl,.refl w,on)
theorem Kz(lo st:Int)(n:Nat):YW K J (K2 lo st n) ((Ub n).map λ k=>.int<|lo+(k:Nat)*st) Z Y where
 go F H i w h V:=by show i<n;simpa using V
 stop F H w h:=by show n<=_;simp
 yld F H i x T w h V y:=by
  obtain⟨rfl,rfl⟩:=y;have S:i<n:=by simpa using V
  exact(.int<|lo+(i:Nat)*st,by rw[bc,ji S];rfl,.refl w,on)
def KA{V:Type}{l:List V}{i:Nat}(h:i<l.length):l.reverse[i]?=l[l.length-1-i]?:=pV h
theorem KC{t:TV}{l:List TV}{n:Nat}(e:t.items=TJ (TK,l))(N:n=l.length):YW K J (pS K a n) l.reverse [t] [.ref a] where
 go F H i w h W:=by
  refine HT λ S V=>?_;obtain⟨b,vs,T,q,r⟩:=(fN h).t e;refine V ?_;clear V S;cases T;exact(vs,q,by rw[<- r.length,N],by rw[lO] at W;lia)
 stop F H w h:=by
  refine HT λ S V=>?_;obtain⟨b,vs,T,q,r⟩:=(fN h).t e;refine V ?_;clear V S;cases T;exact(vs,q,by rw[<- r.length,N],by rw[lO,N])
 yld F H i x g w h W y:=by
  refine HT λ S V=>?_;obtain⟨b,vs,T,q,r⟩:=(fN h).t e;refine V ?_;clear V S;cases T;obtain⟨rfl,y⟩:=y;rw[lO] at W;refine HT λ S V=>?_;obtain⟨t,A⟩:=fO (l:=l) (i:=l.length-1-i) BT;obtain⟨v,z,j⟩:=r.get A;refine V ?_;clear V S;have:=y vs q;rw[N,z] at this;cases this;exact(t,by rw[KA W];exact A,.refl w,j)
theorem za(k:JS J){S:Hp->List V->Prop}(A:∀ {F H},Vw K F H t (.ref a)->∃vs,S H vs/\RpL K F H l vs):YW K J (z7 S) (l.mapIdx λ i x=>.tup [.int (i:Nat),x]) [t] [.ref a] where
 go F H i w h j:=by
  obtain⟨vs,q,r⟩:=A<|fN h;obtain⟨x,c⟩:=fO (l:=vs) (by rw[<- r.length];simpa using j);exact(vs,x,q,c)
 stop F H w h:=by
  obtain⟨vs,q,r⟩:=A<|fN h;exact(vs,q,by rw[<- r.length];simp)
 yld F H i x s w h j y:=by
  refine HT λ N W=>?_;obtain⟨vs,q,r⟩:=A<|fN h;obtain⟨T,z,rfl,m,rfl,y⟩:=y;obtain⟨t,d⟩:=fO (l:=l) (i:=i) (by simpa using j);obtain⟨v,o,b⟩:=r.get d;refine W ?_;clear W N;have:=y vs q;rw[o] at this;cases this;have g:Grow J F H F<|Yu H T<|.tup [.int i,z]:=.new k w _ m;exact(.tup [.int (i:Nat),t],by rw[uJ,d];rfl,g,T,_,on,.of bB,_,_,on,on,_,_,on,b.ke g.ke,on)
def KD(W:JS J){t:TV}{l:List TV}(e:t.items=TJ (TK,l)):YW K J (P4 K a) (l.mapIdx λ i x=>.tup [.int (i:Nat),x]) [t] [.ref a]:=za W λ h=>by refine HT λ S V=>?_;obtain⟨b,vs,T,q,r⟩:=h.t e;refine V ?_;clear V S;cases T;exact(vs,q,r)
def KE(W:JS J){t:TV}{l:List TV}(e:t.items=TJ (TL,l)):YW K J (yr K a) (l.mapIdx λ i x=>.tup [.int (i:Nat),x]) [t] [.ref a]:=za W λ h=>by refine HT λ S V=>?_;obtain⟨b,vs,T,q,r⟩:=h.l e;refine V ?_;clear V S;cases T;exact(vs,q,r)
theorem Vw.b{t:TV}{b:Bool}{l:List TV}(h:Vw K F H t x)(e:t.items=TJ (b,l)):∃a vs,x=.ref a/\K5 K b H a vs/\RpL K F H l vs:=by
 cases b
 .exact h.l e
 .exact h.t e
end
noncomputable def gl(V:List<|Str×Uj)(x:Str):Bool:=decide<|V.lookup x=TJ .globalImplicit
noncomputable def vs(V:List<|Str×Uj)(x:Str):Bool:=decide (V.lookup x=TJ .local) || decide (V.lookup x=TJ .cell) || decide (V.lookup x=TJ .free)
noncomputable def cf(V:List<|Str×Uj)(x:Str):Bool:=decide (V.lookup x=TJ .cell) || decide (V.lookup x=TJ .free)
noncomputable def Zd(x:Str):Bool:=!decide (x=("__debug__" : Str)) && !decide (x=("__classdict__" : Str)) && !decide (x=("__name__" : Str))
noncomputable def u6:TV->Const->Bool
 |.int i,.int j=>decide (i=j)
 |.str x,.str y=>decide (x=y)
 |.bl x,.bool y=>decide (x=y)
 |.non,.none=>TK
 |_,_=>TL
noncomputable def zb:Cd->Bool
 |.nil=>TK|_=>TL
noncomputable def lP:Cd->Bool
 |.c .non=>TK|_=>TL
noncomputable def aM:Expr->Bool
 |.Starred ..=>TL|_=>TK
noncomputable def eh:Expr->Bool
 |.Set ..=>TL|_=>TK
noncomputable def jm:Expr->Bool
 |.Name ..=>TK|.Constant (.int _) _ _=>TK|.BinOp ..=>TK|.Subscript ..=>TK|.Call ..=>TK|.UnaryOp ..=>TK|_=>TL
noncomputable def ze:BI->Bool
 |.isI=>TK|.isB=>TK|.isT=>TK|.isL=>TK|.isS=>TK|_=>TL
noncomputable def P8:BI->Option Str
 |.len=>TJ "len" |.tuple=>TJ "tuple" |.list=>TJ "list" |.sum=>TJ "sum" |.max=>TJ "max" |.min=>TJ "min" |.abs=>TJ "abs" |.int=>TJ "int"
 |.sorted=>TJ "sorted" |.any=>TJ "any" |_=>TM
noncomputable def be(e:Expr)(k:Str->Pos->Bool):Bool:=match e with|.Name x p=>k x p|_=>TL
@[elab_as_elim] theorem aU{V:Expr->Prop}{e:Expr}{k:Str->Pos->Bool}(h:be e k=TK)(f:∀x p,k x p=TK->V (.Name x p)):V e:=by cases e<;>first|exact f _ _ h|exact TN h
def KF(h:be e k=TK):∃x p,e=.Name x p/\k x p=TK:=by cases e<;>first|exact(_,_,rfl,h)|exact TN h
noncomputable def lQ(e:Expr)(k:Const->Nat->Pos->Bool):Bool:=match e with|.Constant x p q=>k x p q|_=>TL
@[elab_as_elim] theorem jn{V:Expr->Prop}{e:Expr}{k:Const->Nat->Pos->Bool}(h:lQ e k=TK)(f:∀x p q,k x p q=TK->V (.Constant x p q)):V e:=by cases e<;>first|exact f _ _ _ h|exact TN h
noncomputable def zi(e:Expr)(k:Expr->Wr->Expr->Pos->Bool):Bool:=match e with|.BinOp x p q r=>k x p q r|_=>TL
@[elab_as_elim] theorem KG{V:Expr->Prop}{e:Expr}{k:Expr->Wr->Expr->Pos->Bool}(h:zi e k=TK)(f:∀x p q r,k x p q r=TK->V (.BinOp x p q r)):V e:=by cases e<;>first|exact f _ _ _ _ h|exact TN h
noncomputable def K8(e:Expr)(k:UnaryOp->Expr->Pos->Bool):Bool:=match e with|.UnaryOp x p q=>k x p q|_=>TL
@[elab_as_elim] theorem zk{V:Expr->Prop}{e:Expr}{k:UnaryOp->Expr->Pos->Bool}(h:K8 e k=TK)(f:∀x p q,k x p q=TK->V (.UnaryOp x p q)):V e:=by cases e<;>first|exact f _ _ _ h|exact TN h
noncomputable def uK(e:Expr)(k:Expr->List Vx->List Expr->Pos->Bool):Bool:=match e with|.Compare x p q r=>k x p q r|_=>TL
@[elab_as_elim] theorem zm{V:Expr->Prop}{e:Expr}{k:Expr->List Vx->List Expr->Pos->Bool}(h:uK e k=TK)(f:∀x p q r,k x p q r=TK->V (.Compare x p q r)):V e:=by cases e<;>first|exact f _ _ _ _ h|exact TN h
noncomputable def K9(e:Expr)(k:BoolOp->List Expr->Pos->Bool):Bool:=match e with|.BoolOp x p q=>k x p q|_=>TL
def KH(h:K9 e k=TK):∃x p q,e=.BoolOp x p q/\k x p q=TK:=by cases e<;>first|exact(_,_,_,rfl,h)|exact TN h
noncomputable def P9(e:Expr)(k:Expr->Expr->Expr->Pos->Bool):Bool:=match e with|.IfExp x p q r=>k x p q r|_=>TL
@[elab_as_elim] theorem KJ{V:Expr->Prop}{e:Expr}{k:Expr->Expr->Expr->Pos->Bool}(h:P9 e k=TK)(f:∀x p q r,k x p q r=TK->V (.IfExp x p q r)):V e:=by cases e<;>first|exact f _ _ _ _ h|exact TN h
noncomputable def jW(e:Expr)(k:List Expr->Nat->Pos->Bool):Bool:=match e with|.Tuple x p q=>k x p q|_=>TL
@[elab_as_elim] theorem jX{V:Expr->Prop}{e:Expr}{k:List Expr->Nat->Pos->Bool}(h:jW e k=TK)(f:∀x p q,k x p q=TK->V (.Tuple x p q)):V e:=by cases e<;>first|exact f _ _ _ h|exact TN h
noncomputable def zn(e:Expr)(k:List Expr->Pos->Bool):Bool:=match e with|.List x p=>k x p|_=>TL
@[elab_as_elim] theorem zq{V:Expr->Prop}{e:Expr}{k:List Expr->Pos->Bool}(h:zn e k=TK)(f:∀x p,k x p=TK->V (.List x p)):V e:=by cases e<;>first|exact f _ _ h|exact TN h
noncomputable def jY(e:Expr)(k:Expr->Expr->Pos->Bool):Bool:=match e with|.Subscript x p q=>k x p q|_=>TL
@[elab_as_elim] theorem lT{V:Expr->Prop}{e:Expr}{k:Expr->Expr->Pos->Bool}(h:jY e k=TK)(f:∀x p q,k x p q=TK->V (.Subscript x p q)):V e:=by cases e<;>first|exact f _ _ _ h|exact TN h
noncomputable def zu(e:Expr)(k:Option Expr->Option Expr->Option Expr->Pos->Bool):Bool:=match e with|.Slice x p q r=>k x p q r|_=>TL
@[elab_as_elim] theorem KL{V:Expr->Prop}{e:Expr}{k:Option Expr->Option Expr->Option Expr->Pos->Bool}(h:zu e k=TK)(f:∀x p q r,k x p q r=TK->V (.Slice x p q r)):V e:=by cases e<;>first|exact f _ _ _ _ h|exact TN h
noncomputable def cr(e:Expr)(k:Expr->List Expr->List VU->Pos->Bool):Bool:=match e with|.Call x p q r=>k x p q r|_=>TL
@[elab_as_elim] theorem cE{V:Expr->Prop}{e:Expr}{k:Expr->List Expr->List VU->Pos->Bool}(h:cr e k=TK)(f:∀x p q r,k x p q r=TK->V (.Call x p q r)):V e:=by cases e<;>first|exact f _ _ _ _ h|exact TN h
noncomputable def qv(e:Expr)(k:Expr->Str->Pos->Bool):Bool:=match e with|.Attribute x p q=>k x p q|_=>TL
@[elab_as_elim] theorem uL{V:Expr->Prop}{e:Expr}{k:Expr->Str->Pos->Bool}(h:qv e k=TK)(f:∀x p q,k x p q=TK->V (.Attribute x p q)):V e:=by cases e<;>first|exact f _ _ _ h|exact TN h
noncomputable def E9(e:Expr)(k:Expr->List Comprehension->Scope->Pos->Bool):Bool:=match e with|.ListComp x p q r=>k x p q r|_=>TL
def uM(h:E9 e k=TK):∃x p q r,e=.ListComp x p q r/\k x p q r=TK:=by cases e<;>first|exact(_,_,_,_,rfl,h)|exact TN h
noncomputable def c1{V:Type}(l:List V)(k:V->Bool):Bool:=match l with|[x]=>k x|_=>TL
noncomputable def c2{V:Type}(l:List V)(k:V->V->Bool):Bool:=match l with|[x,y]=>k x y|_=>TL
noncomputable def c4{V:Type}(l:List V)(k:V->V->V->V->Bool):Bool:=match l with|[x,y,z,w]=>k x y z w|_=>TL
noncomputable def c3{V:Type}(l:List V)(k:V->V->V->Bool):Bool:=match l with|[x,y,z]=>k x y z|_=>TL
noncomputable def cC{V:Type}(l:List V)(k:V->List V->Bool):Bool:=match l with|x::r=>k x r|_=>TL
section
variable {Z:Type}{l:List Z}{a b c d e f g h i:Bool}
@[elab_as_elim] theorem dD{V:List Z->Prop}{k:Z->Bool}(h:c1 l k=TK)(f:∀x,k x=TK->V ([x])):V l:=by rcases l with _|⟨x,_|⟨_,_⟩⟩<;>first|exact f _ h|exact TN h
def jo{k:Z->Bool}(h:c1 l k=TK):∃x,l=[x]/\k x=TK:=by rcases l with _|⟨x,_|⟨_,_⟩⟩<;>first|exact(_,rfl,h)|exact TN h
@[elab_as_elim] theorem iz{V:List Z->Prop}{k:Z->Z->Bool}(h:c2 l k=TK)(f:∀x y,k x y=TK->V ([x,y])):V l:=by rcases l with _|⟨x,_|⟨y,_|⟨_,_⟩⟩⟩<;>first|exact f _ _ h|exact TN h
@[elab_as_elim] theorem KM{V:List Z->Prop}{k:Z->Z->Z->Z->Bool}(h:c4 l k=TK)(f:∀x y z w,k x y z w=TK->V ([x,y,z,w])):V l:=by
 match l,h with
 |[x,y,z,w],h=>exact f x y z w h
@[elab_as_elim] theorem KN{V:List Z->Prop}{k:Z->Z->Z->Bool}(h:c3 l k=TK)(f:∀x y z,k x y z=TK->V ([x,y,z])):V l:=by rcases l with _|⟨x,_|⟨y,_|⟨z,_|⟨_,_⟩⟩⟩⟩<;>first|exact f _ _ _ h|exact TN h
@[elab_as_elim] theorem dO{V:List Z->Prop}{k:Z->List Z->Bool}(h:cC l k=TK)(f:∀x r,k x r=TK->V (x::r)):V l:=by rcases l with _|⟨x,r⟩<;>first|exact f _ _ h|exact TN h
@[elab_as_elim] theorem bQ{V:List Z->Prop}(h:l.isEmpty=TK)(f:V []):V l:=by cases l<;>first|exact f|exact TN h
def an{a b:Bool}(h:(a&&b)=TK):a=TK/\b=TK:=iZ.mp h
def a3(z:(a&&b&&c)=TK):a=TK/\b=TK/\c=TK:=let ⟨x,y⟩:=an z;((an x).1,(an x).2,y)
def a4(z:(a&&b&&c&&d)=TK):a=TK/\b=TK/\c=TK/\d=TK:=let ⟨x,y⟩:=an z;let ⟨p,q,r⟩:=a3 x;(p,q,r,y)
def a5(z:(a&&b&&c&&d&&e)=TK):a=TK/\b=TK/\c=TK/\d=TK/\e=TK:=let ⟨x,y⟩:=an z;let ⟨p,q,r,s⟩:=a4 x;(p,q,r,s,y)
def a6(z:(a&&b&&c&&d&&e&&f)=TK):a=TK/\b=TK/\c=TK/\d=TK/\e=TK/\f=TK:=let ⟨x,y⟩:=an z;let ⟨p,q,r,s,t⟩:=a5 x;(p,q,r,s,t,y)
def a7(z:(a&&b&&c&&d&&e&&f&&g)=TK):a=TK/\b=TK/\c=TK/\d=TK/\e=TK/\f=TK/\g=TK:=let ⟨x,y⟩:=an z;let ⟨p,q,r,s,t,u⟩:=a6 x;(p,q,r,s,t,u,y)
def a8(z:(a&&b&&c&&d&&e&&f&&g&&h)=TK):a=TK/\b=TK/\c=TK/\d=TK/\e=TK/\f=TK/\g=TK/\h=TK:=let ⟨x,y⟩:=an z;let ⟨p,q,r,s,t,u,v⟩:=a7 x;(p,q,r,s,t,u,v,y)
def a9(z:(a&&b&&c&&d&&e&&f&&g&&h&&i)=TK):a=TK/\b=TK/\c=TK/\d=TK/\e=TK/\f=TK/\g=TK/\h=TK/\i=TK:=let ⟨x,y⟩:=an z;let ⟨p,q,r,s,t,u,v,w⟩:=a8 x;(p,q,r,s,t,u,v,w,y)
end
def m7(S:Bool)(N:List Str)(A:List<|Str×Uj)(K:List Nat)(W:Expr):Bool :=
 let V (i:Nat) (e:Expr):Bool:=be e λ x _=>decide (N[i]?=TJ x)&&(decide (A.lookup x=TJ .local) || (S&&decide (A.lookup x=TJ .cell)))
 match K with
 |[i]=>V i W
 |[i,j]=>jW W λ T _ _=>c2 T λ a b=>V i a&&V j b
 |[i,j,k]=>jW W λ T _ _=>c3 T λ a b c=>V i a&&V j b&&V k c
 |[i,j,k,m]=>jW W λ T _ _=>c4 T λ a b c d=>V i a&&V j b&&V k c&&V m d
 |_=>TL
noncomputable def L4:Expr->Bool
 |.BoolOp ..=>TL|.UnaryOp .Not ..=>TL|.Compare ..=>TL|.IfExp ..=>TL|.NamedExpr ..=>TL|.Constant ..=>TL|_=>TK
def tB':Cd->Expr->Bool
 |.and ..,_=>TK|.or ..,_=>TK|.not ..,_=>TK|.cmp ..,_=>TK|.cm2 ..,_=>TK
 |_,e=>L4 e
noncomputable def lU:Expr->Bool
 |.Tuple ..=>TK|_=>TL
noncomputable def B9:IK->Option (Str×Nat)
 |.rng=>TJ ("range",0)|.rng3=>TJ ("range",2)|.enum _=>TJ ("enumerate",0)|.rev TK=>TJ ("reversed",0)|_=>TM
noncomputable def F5:IK->Bool
 |.zip _ _=>TK|.zip3=>TK|.enum _=>TK|_=>TL
noncomputable def cY(S V:List<|Str×Uj):List<|Str×Uj:=V.map λ(x,k)=>if (k == .free&&S.lookup x == TJ .cell) then (x,.cell) else (x,k)
def A1(N:List Str)(S:List<|Str×Uj)(V:Scope)(T fv:List Str)(W:List Nat):Bool :=
 decide (V.kind=.function)&&V.names.all (λ y=>!decide (y.2=.cell))&&V.names.all (λ y=>!decide (y.2=.local) || decide (V.names.lookup y.1=TJ .local))&&V.names.all (λ y=>!decide (y.2=.free) || cf S y.1)
  && decide (W.length=fv.length)&&(fv.zip W).all (λ p=>decide (N[p.2]?=TJ p.1)&&cf S p.1&&cf (cY S V.names) p.1)&&decide (T++fv).Nodup
section
variable (fs gs:List Str)
mutual
def ck:Cd->List Str->List (Str×Uj)->Expr->Bool
 |.v i,N,nm,e=>be e λ x _=>decide (N[i]?=TJ x)&&vs nm x&&Zd x
 |.c t,_,_,e=>lQ e λ k _ _=>u6 t k
 |.g k,_,nm,e=>be e λ x _=>decide (gs[k]?=TJ x)&&gl nm x&&Zd x
 |.bin o a b,N,nm,e=>zi e λ l op r _=>decide (op=o)&&ck a N nm l&&ck b N nm r
 |.neg a,N,nm,e=>K8 e λ op x _=>decide (op=.USub)&&ck a N nm x
 |.not a,N,nm,e=>K8 e λ op x _=>decide (op=.Not)&&tB' a x&&ck a N nm x
 |.cmp o a b,N,nm,e=>uK e λ l os rs _=>c1 os λ op=>c1 rs λ r=>decide (op=o)&&ck a N nm l&&ck b N nm r&&eh r
 |.cm2 o o' a b c,N,nm,e=>uK e λ l os rs _=>c2 os λ op op'=>c2 rs λ r w=>decide (op=o)&&decide (op'=o')&&ck a N nm l&&ck b N nm r&&ck c N nm w&&eh w
 | .and a b,N,nm,e=>K9 e λ op es p=>decide (op=.And) && (match es with
   |[x,y]=>tB' a x&&tB' b y&&ck a N nm x&&ck b N nm y
   |x::y::z::r=>tB' a x&&ck a N nm x&&ck b N nm (.BoolOp .And (y::z::r) p)
   |_=>TL)
 | .or a b,N,nm,e=>K9 e λ op es p=>decide (op=.Or) && (match es with
   |[x,y]=>tB' a x&&tB' b y&&ck a N nm x&&ck b N nm y
   |x::y::z::r=>tB' a x&&ck a N nm x&&ck b N nm (.BoolOp .Or (y::z::r) p)
   |_=>TL)
 |.ite c a b,N,nm,e=>P9 e λ x y z _=>tB' c x&&ck c N nm x&&ck a N nm y&&ck b N nm z
 |.tup l,N,nm,e=>jW e λ es _ _=>ckL l N nm es
 |.lst l,N,nm,e=>zn e λ es _=>ckL l N nm es
 |.ix a b,N,nm,e=>jY e λ x y _=>jm y&&ck a N nm x&&ck b N nm y
 |.sl a lo hi,N,nm,e=>jY e λ x y _=>zu y λ l h s _=>s.isNone&&ck a N nm x&&(match l with|none=>lP lo|some l=>ck lo N nm l && !lP lo)&&(match h with|none=>lP hi|some h=>ck hi N nm h && !lP hi)
 |.call f l,N,nm,e=>cr e λ g as w _=>be g λ x _=>cC as λ a es=>w.isEmpty&&decide (fs[f]?=TJ x)&&gl nm x&&Zd x&&ckL l N nm (a::es)
 |.bi f l,N,nm,e=>cr e λ g as w _=>be g λ x _=>cC as λ a es=>w.isEmpty&&decide (P8 f=TJ x)&&gl nm x&&ckL l N nm (a::es)
 |.isi f a,N,nm,e=>cr e λ g as w _=>be g λ x _=>c2 as λ y u=>be u λ z _=>w.isEmpty&&decide (x="isinstance")&&gl nm x&&ze f&&decide (z=Uf (ZV f))&&gl nm z&&aM y&&ck a N nm y
 |.mxl a b,N,nm,e=>cr e λ g as w _=>be g λ x _=>c2 as λ y z=>c1 w λ k=>be k.value λ u _=>decide (x="max")&&gl nm x&&decide (k.arg=TJ (Uf "key"))&&decide (u="len")&&gl nm u&&aM y&&aM z&&ck a N nm y&&ck b N nm z
 |.trev _ a,N,nm,e=>cr e λ g as w _=>be g λ x _=>c1 as λ u=>cr u λ g' as' w' _=>be g' λ y _=>c1 as' λ z=>w.isEmpty&&w'.isEmpty&&decide (x="tuple")&&gl nm x&&decide (y="reversed")&&gl nm y&&aM z&&ck a N nm z
 |.lrng k a,N,nm,e=>cr e λ g as w _=>be g λ x _=>c1 as λ u=>cr u λ g' as' w' _=>be g' λ y _=>c1 as' λ z=>(w.isEmpty && !k)&&w'.isEmpty&&decide (x=if k=TK then "tuple" else "list")&&gl nm x&&decide (y="range")&&gl nm y&&aM z&&ck a N nm z
 |.ap i f l,N,nm,e=>cr e λ g as w _=>be g λ x _=>cC as λ a es=>w.isEmpty&&decide (f=fs.length)&&decide (N[i]?=TJ x)&&vs nm x&&Zd x&&ckL l N nm (a::es)
 |.cf i f x c,N,nm,e=>cr e λ g as w _=>be g λ y _=>c2 as λ u v=>be v λ z _=>(w.isEmpty&&decide (f=fs.length)&&decide (y=x)&&gl nm y&&Zd y)&&decide (N[i]?=TJ z)&&vs nm z&&Zd z&&aM u&&ck c N nm u
 |.dk k a,N,nm,e=>jY e λ o y _=>be o λ x _=>decide (gs[k]?=TJ x)&&gl nm x&&Zd x&&jm y&&ck a N nm y
 |.comp own fv js tg k it e,N,nm,x=>E9 x λ elt gn sc _=>c1 gn λ g=>g.ifs.isEmpty&&decide (g.is_async=0)&&A1 N nm sc own fv js&&ckI it k g.target N nm g.iter&&m7 TL (own++fv) (cY nm sc.names) tg g.target&&tg.all (λ i=>decide<|i<own.length)&&ck e (own++fv) (cY nm sc.names) elt
 |.compI own fv js tg k it c e,N,nm,x=>E9 x λ elt gn sc _=>c1 gn λ g=>c1 g.ifs λ cnd=>decide (g.is_async=0)&&A1 N nm sc own fv js&&ckI it k g.target N nm g.iter&&m7 TL (own++fv) (cY nm sc.names) tg g.target&&tg.all (λ i=>decide<|i<own.length)&&tB' c cnd&&ck c (own++fv) (cY nm sc.names) cnd&&ck e (own++fv) (cY nm sc.names) elt
 |_,_,_,_=>TL
def ckL:Cd->List Str->List (Str×Uj)->List Expr->Bool
 |.nil,_,_,es=>(match es with|[]=>TK|_=>TL)
 |.cons a r,N,nm,es=>(match es with|e::es=>aM e&&ck a N nm e&&ckL r N nm es|[]=>TL)
 |_,_,_,_=>TL
def ckI:Cd->IK->Expr->List Str->List (Str×Uj)->Expr->Bool
 | .cons a r,k,tg,N,nm,it=>(match k with
   |.seq=>eh it&&zb r&&ck a N nm it
   |.str=>TL
   |k=>cr it λ g as w _=>be g λ x _=>cC as λ e es=>w.isEmpty&&decide (B9 k=TJ (x,es.length))&&gl nm x&&(!F5 k || lU tg)&&aM e&&ck a N nm e&&ckL r N nm es)
 |_,_,_,_,_,_=>TL
end
end
section
variable {K:FG}{J:Hp->Prop}
def Sr(K:FG)(F:Fz)(H:Hp)(t:TV)(v:V):Prop:=match t with
 |.own l=>Rr K H F H (.bor l) v
 |.obj (.dct l)=>∃a,v=.ref a/\H a=TJ (dcO l)
 |.obj (.fn a)=>v=.ref a/\FnV H a
 |.obj (.lls S N)=>∃T,v=.ref T/\Ls K F H T (S.map V.ref)/\S.Nodup/\S.length=N.length/\∀(j:Nat) a W,S[j]?=TJ a->N[j]?=TJ W->¬F a/\∃A,H a=TJ (.lst A)/\RpL K F H (W.map kT) A
 |t=>Rp K F H t v
structure EV (K:FG)(J:Hp->Prop)(F:Fz)(H:Hp)(σ:St)(ρ:En):Prop where
 w:Wd J F H
 sl:∀(i:Nat) t,ρ[i]?=TJ (TJ t)->∃v,σ[i]?=TJ (TJ v)/\Sr K F H t v
def Sr.grow(g:Grow J F H Y Z)(h:Sr K F H t v):Sr K Y Z t v:=by
 cases t with
 |own l=>exact Rr.grow (t:=.bor l) (H:=Z) g h
 |obj o=>
  cases o with
  |dct l=>obtain⟨a,e,q⟩:=h;exact(a,e,g.sm _ _ (λ T z=>by cases z) q)
  |fn a=>obtain⟨e,i,q,k⟩:=h;exact(e,i,g.sm _ _ (λ T z=>by cases z) q,k)
  |lls n w=>
   refine HT λ S V=>?_;obtain⟨W,e,m,b,d,h⟩:=h;refine V ?_;clear V S;refine(W,e,g.ke.l _ _ m,b,d,λ j a c N A=>?_);obtain⟨s,p,q,r⟩:=h j a c N A;refine(λ z=>?_,p,g.sm _ _ (λ T z=>by cases z) q,r.ke g.ke)
   rcases g.nw _ z with y|y
   .exact s y
   .rw[q] at y;cases y
 |_=>exact Rp.ke g.ke h
def EV.grow(e:EV K J F H L U)(g:Grow J F H Z Y):EV K J Z Y L U :=
 (g.w,λ i t h=>let ⟨v,q,r⟩:=e.sl i t h;(v,q,r.grow g))
def i6(K:FG)(J:Hp->Prop)(S:Yt):Sp:=λ vs H Q _=>∃F W P,Wd J F H/\RpL K F H W vs/\S W P/\∀t,P t->∀T V v,Grow J F H T V->Rp K T V t v->Q v V
theorem gO(g:Grow J F H Y U):∀ {T:List TV}{vs:List V},RrL K H Y U T vs->T.all TV.nb=TK->∃Z,Grow J F H Z U/\(∀a,Y a->Z a)/\RpL K Z U (T.map TV.fz) vs
 |[],_,h,_=>by cases h;exact(Y,g,λ _ f=>f,rfl)
 |t::T,_,h,n=>by
  cases h with
  |cons r q=>
   rw[cD,bq] at n;obtain⟨Z,A,W,r2⟩:=gO g q n.2
   cases t with
   |own l=>
    refine HT λ N S=>?_;obtain⟨a,vs,e,y,f,z,v⟩:=r;refine S ?_;clear S N;refine(λ b=>Z b\/b=a,A.frz y (by rw[z];simp),λ b f=>.inl<|W b f,_,_,on,(a,vs,e,.inl (.inr rfl,.of z),v.ke<|.up λ b f=>.inl<|W b f),r2.ke<|.up λ b f=>.inl f)
   |bor l=>cases n.1
   |_=>exact(Z,A,W,_,_,rfl,Rp.ke (.up W) r,r2)
mutual
theorem LF.rp:∀ {t:TV}{v:V},LF t->Rp K F H t v->Rp K F' H t v
 |.non,_,_,h=>h
 |.bl _,_,_,h=>h
 |.int _,_,_,h=>h
 |.str _,_,_,h=>h
 |.tup l,_,f,(a,vs,e,q,r)=>(a,vs,e,q,LF.rpl (λ x hx=>by simp only[LF] at f;exact f x hx) r)
 |.lst _,_,f,_=>by simp[LF] at f
 |.bor _,_,f,_=>by simp[LF] at f
 |.own _,_,f,_=>by simp[LF] at f
 |.obj _,_,f,_=>by simp[LF] at f
theorem LF.rpl:∀ {ts:List TV}{vs:List V},(∀x∈ts,LF x)->RpL K F H ts vs->RpL K F' H ts vs
 |[],_,_,h=>h
 |t::ts,_,f,(v,r,e,h1,h2)=>(v,r,e,LF.rp (f t Cr) h1,LF.rpl (λ x hx=>f x<|by simp[hx]) h2)
end
end
noncomputable def BN:List Str:=["len","tuple","list","sum","max","min","abs","int","str","sorted","any","all","isinstance","bool","range","zip","enumerate","reversed","set","dict"]
def L6(P:Uh)(w:Ui)(K:FG)(S:SV)(x:Str)(l:List TV):Prop:=∃d V,S x=TJ (.ref d)/\KTab P w K d V/\∀y t,z9 l y=TJ t->∃a,V.lookup y=TJ a/\∀F H,Rp K F H t (.ref a)
def KO(K:FG)(J:Hp->Prop)(S:Yt):Sp:=λ vs H Q _=>∃F a N V P,vs=V++[.ref a]/\Wd J F H/\FnV H a/\RpL K F H N V/\S (.obj (.fn a)::N) P/\∀t,P t->∀W T v,Grow J F H W T->Rp K W T t v->Q v T
structure L7 (P:Uh)(w:Ui)(K:FG)(mg:SV)(base:Ue)(A:Uk)(J:Hp->Prop)(S:Yt):Prop where
 ap:∃k,Room k A/\∀a ts vs P' F H Q,Wd J F H->FnV H a->RpL K F H ts vs->S (.str "" :: .obj (.fn a)::ts) P'->(∀t,P' t->∀F' H' v,Grow J F H F' H'->Rp K F' H' t v->Q v H')->qi P w K mg base k a vs H Q
 cf:∀x,S [.str x] (λ _=>True)->∃k ps,Room k A/\Callee P w K mg base YJ k x ps (KO K J λ l=>S<|.str x::l)
structure YC (X:Cx)(J:Hp->Prop)(FT:List Yt)(GT:List TV)(fs gs:List Str):Prop where
 calm:X.calm=TK
 units:X.A.units+120<Vn
 hJ:JS J
 fns:∀(f:Nat) x S,fs[f]?=TJ x->FT[f]?=TJ S->∃k ps,Room k X.A/\Callee X.prog X.w X.K X.mg X.base YJ k x ps (i6 X.K J S)
 glb:∀(g:Nat) x t,gs[g]?=TJ x->GT[g]?=TJ t->t.nb=TK->∃v u,X.mg x=TJ u/\RelV v u/\∀F H,Rp X.K F H t v
 dic:∀(g:Nat) x l,gs[g]?=TJ x->GT[g]?=TJ (.bor l)->L6 X.prog X.w X.K X.mg x l
 blt:∀x∈BN,X.mg x=TM
 len:fs.length<=FT.length
 hof:∀S,FT[fs.length]?=TJ S->L7 X.prog X.w X.K X.mg X.base X.A J S
def zw{K:FG}{V:List Yt}{T:List Str}(h:T.length=V.length):∀S,V[T.length]?=TJ S->L7 P w K Y Z A J S:=λ S e=>by rw[h,eE<|ax _] at e;cases e
structure XS (X:Cx)(N:List Str)(nm:List<|Str×Uj):Prop where
 N:X.N=N
 nm:X.env.scope.names=nm
section
variable {J:Hp->Prop}{Z:List Yt}{Y:List TV}{U:List Str}
def rE(K:FG)(J:Hp->Prop)(Z:List Yt)(Y:List TV)(c:Cd):TE:=λ W H Q=>∃F T,EV K J F H W T/\wE Z Y c T λ t=>∀S V v,Grow J F H S V->Rr K H S V t v->Q v V
def rT(K:FG)(J:Hp->Prop)(Z:List Yt)(Y:List TV)(c:Cd):TT:=λ W H Q=>∃F S,EV K J F H W S/\wE Z Y c S λ t=>b1 t λ b=>∀T V,Grow J F H T V->Q b V
def rA(K:FG)(J:Hp->Prop)(Z:List Yt)(Y:List TV)(c:Cd):TA:=λ N H Q=>∃F T,EV K J F H N T/\wL Z Y c T λ W=>∀S V vs,Grow J F H S V->RrL K H S V W vs->Q vs V
def PE.imp{t S:TE}(h:PE X e t)(i:∀V H Q,S V H Q->t V H Q):PE X e S:=λ T s V H Q I q=>h T s V H Q I<|i V H Q q
def PT.imp{t S:TT}(h:PT X e t)(i:∀V H Q,S V H Q->t V H Q):PT X e S:=λ T s V H Q I q=>h T s V H Q I<|i V H Q q
def PA.imp{t T:TA}(h:PA X e t)(i:∀V H Q,T V H Q->t V H Q):PA X e T:=λ S W s V H Q I q=>h S W s V H Q I<|i V H Q q
def aV{V:List Expr}(h:aM e=TK):Ud (e::V) L=(TL,eval e L)::Ud V L:=by cases e<;>first|rfl|cases h
theorem uN:∀ {V:List Expr}{env:Env},V.all aM=TK->(Ud V env).any (·.1)=TL
 |[],_,_=>rfl
 |e::V,env,h=>by
  rw[cD,bq] at h;rw[aV h.1,mY,uN h.2];rfl
def dP{V:List Expr}(h:V.all aM=TK):(UD D<|Ud V L).any (·.1)=TL:=by
 unfold UD;rw[Ya];exact uN h
def Zg(V:XS X N L)(h:gl L x=TK):Gl X x:=by
 show X.env.scope.names.lookup x=_;rw[V.nm];exact au h
def jp(V:XS X N L)(h:vs L x=TK):l5 X.env.scope x:=by
 unfold vs at h;rw[jq,jq] at h;unfold l5;rw[V.nm]
 rcases h with (h|h)|h
 .exact .inl<|au h
 .exact .inr<|.inl<|au h
 .exact .inr<|.inr<|au h
def cZ(h:Zd x=TK):(x == ("__debug__" : Str))=TL/\(x == ("__classdict__" : Str))=TL/\x ≠ "__name__" := by
 simp only[Zd,bq,WB,zy] at h;exact(by simpa using h.1.1,by simpa using h.1.2,h.2)
end
theorem uO{env:Env}:∀(l:List<|Str×Uj) (S:LA),(∀x,(x,Ux)∈l->∃c,env.cells.lookup x=TJ c) ->
  ∃Y,(forIn l S (λ(x:Str × Uj) (r:LA)=>(match x with
   |(Z,U)=>if (U == Ux)=TK then (do let y <- Wv env Z;Uo (Vz<|(Z,y)::r)) else Uo (Vz r):Sem<|ForInStep<|LA)):Sem<|LA)=Uo Y /\
   (∀x c,Y.lookup x=TJ c->S.lookup x=TJ c\/env.cells.lookup x=TJ c)/\(∀x,(x,Ux)∈l\/(∃c,S.lookup x=TJ c)->∃c,Y.lookup x=TJ c)
 | [],S,_=>(S,rfl,λ _ _ h=>.inl h,λ x h=>by
  rcases h with h|h
  .cases h
  .exact h)
 |(n,k)::l,S,h=>by
  by_cases W:k=.free
  .subst W;obtain⟨c,K⟩:=h n Cr;obtain⟨Y,e,N,A⟩:=uO l ((n,c)::S) λ x V=>h x (by simp[V]);refine(Y,?_,λ x d V=>?_,λ x V=>?_)
   .rw[nL];have:Wv env n=Uo c:=by unfold Wv;rw[K]
    simp only[this,lj,fW,s2a];exact e
   .rcases N x d V with z|z
    .rw[dM] at z;split at z
     .rename_i T;have:x=n:=by simpa using T
      subst this;cases z;exact .inr K
     .exact .inl z
    .exact .inr z
   .refine A x ?_
    rcases V with V|⟨d,F⟩
    .rcases aD.mp V with z|z
     .cases z;exact .inr (c,by simp[dM])
     .exact .inl z
    .by_cases T:x=n
     .subst T;exact .inr (c,by simp[dM])
     .have:(x == n)=TL:=by simpa using T
      exact .inr (d,by rw[dM,this];exact F)
  .obtain⟨Y,e,N,A⟩:=uO l S λ x V=>h x (by simp[V]);refine(Y,?_,N,λ x V=>A x ?_)
   .rw[nL];have:(k == Ux)=TL:=by simpa using W
    simp only[this,nM,u3,s2a];exact e
   .rcases V with V|V
    .rcases aD.mp V with z|z
     .cases z;exact U1 rfl W
     .exact .inl z
    .exact .inr V
theorem KP{scope:Scope}{env:Env}(h:∀x,(x,Ux)∈scope.names->∃c,env.cells.lookup x=TJ c) :
  ∃Z,Vb scope env=Uo Z/\(∀x c,Z.lookup x=TJ c->env.cells.lookup x=TJ c)/\∀x,(x,Ux)∈scope.names->∃c,Z.lookup x=TJ c:=by
 obtain⟨Z,e,S,T⟩:=uO (env:=env) scope.names [] h;refine(Z,?_,λ x c V=>?_,λ x V=>T x<|.inl V)
 .unfold Vb;simp only[bind_pure];exact e
 .rcases S x c V with z|z
  .cases z
  .exact z
section
variable {N:List Str}{nm:List (Str×Uj)}{sc:Scope}{own fv:List Str}{js:List Nat}
def KQ{V S:Type} [BEq V] [LawfulBEq V] {l:List (V×S)}{x:V}{y:S}(h:l.lookup x=TJ y):(x,y)∈l:=by
 induction l with
 |nil=>cases h
 |cons p r T=>
  obtain⟨a,b⟩:=p;rw[dM] at h;split at h
  .rename_i e;have:x=a:=by simpa using e
   subst this;cases h;simp
  .exact bz _<|T h
structure Q0 (X:Cx)(N:List Str)(nm:List<|Str×Uj)(sc:Scope)(own fv:List Str)(js:List Nat)(cl:LA):Prop where
 clos:Vb sc X.env=Uo cl
 cell:∀y∈sc.names,y.2≠.cell
 kind:sc.kind=.function
 names:∀y∈sc.names,y.2=.local->sc.names.lookup y.1=TJ .local
 sub:∀x c,cl.lookup x=TJ c->X.env.cells.lookup x=TJ c
 has:∀x,((Vp sc X.env).names.lookup x=TJ .cell\/(Vp sc X.env).names.lookup x=TJ .free)->∃c,cl.lookup x=TJ c
 len:js.length=fv.length
 cap:∀(i:Nat) x j,fv[i]?=TJ x->js[i]?=TJ j->P2 X sc cl x j
 nd:(own++fv).Nodup
 rel:(Vp sc X.env).names=cY nm sc.names
def uP(h:cf nm x=TK):nm.lookup x=TJ .cell\/nm.lookup x=TJ .free:=by
 unfold cf at h;rw[jq] at h;exact h.imp au au
def lV(o:X.Ok)(z:XS X N nm)(h:A1 N nm sc own fv js=TK):∃Z,Q0 X N nm sc own fv js Z:=by
 unfold A1 at h;simp only[bq] at h;refine HT λ v A=>?_;obtain⟨⟨⟨⟨⟨⟨s,p⟩,t⟩,l⟩,w⟩,a⟩,Y⟩:=h;refine A ?_;clear A v
 have W:∀x,(Prod.mk x Ux)∈sc.names->nm.lookup x=TJ .cell\/nm.lookup x=TJ .free:=λ x S=>by
  have:=gJ.mp l _ S;simp only[decide_true,Bool.not_true,kZ] at this;exact uP this
 obtain⟨Z,e,s1,L⟩:=KP (scope:=sc) (env:=X.env) λ x S=>o.has x (by
  have:=W x S;rw[<- z.nm] at this
  exact this)
 have V:∀y∈sc.names,y.2≠.cell:=λ y F=>by simpa using gJ.mp p y F
 have T:(Vp sc X.env).names=cY nm sc.names:=by
  unfold Vp cY;rw[<- z.nm];apply jr;intro y F;obtain⟨n,k⟩:=y;have:(X.env.scope.kind == ScopeKind.function)=TK:=by rw[o.kind];rfl
  simp only[this,Xz];rfl
 refine(Z,e,V,au s,λ y F e=>?_,s1,λ x S=>L x ?_,au w,λ i x j b r=>?_,au Y,T)
 .have:=gJ.mp t y F;simpa [e] using this
 .have:∀k,(Vp sc X.env).names.lookup x=TJ k->k=.cell\/k=.free->(Prod.mk x Ux)∈sc.names:=λ k U J=>by
   have m:=KQ U;obtain⟨⟨n,d⟩,g,K⟩:=bg.mp m;have K:(if (d == Ux&&X.env.scope.kind == .function&&X.env.kindOf n == TJ .cell)=TK then (Prod.mk n XD) else (Prod.mk n d))=(Prod.mk x k):=K;split at K
   .rename_i c;cases K;simp only[bq] at c;have:d=.free:=by simpa using c.1.1
    subst this;exact g
   .cases K
    rcases J with rfl|rfl
    .exact U1 rfl<|V _ g
    .exact g
  rcases S with S|S
  .exact this _ S<|.inl rfl
  .exact this _ S<|.inr rfl
 .have m:(Prod.mk x j)∈fv.zip js:=by
   refine aH (i:=i) ?_;rw[zA];exact(b,r)
  have:=gJ.mp a _ m;simp only[bq] at this;refine(by rw[z.N];exact au this.1.1,?_,?_)
  .rw[z.nm];exact uP this.1.2
  .rw[T];exact uP this.2
end
section
variable {K:FG}{J:Hp->Prop}{F:Fz}{H:Hp}{Z:St}{Y:En}
def zB(h:Rp K F H t v):Sr K F H t v:=by cases t<;>first|exact h|exact h.elim
def EV.set{i:Nat}(e:EV K J F H Z Y)(h:Rp K F H t v)(T:i<Z.length):EV K J F H (Z.set i<|TJ v) (Y.set i<|TJ t) :=
 (e.w,λ j u V=>by
  rw[da] at V;split at V
  .rename_i c;subst c;split at V
   .cases V;exact(v,by rw[da];simp[T],zB h)
   .cases V
  .rename_i c;obtain⟨w,S,r⟩:=e.sl j u V
   exact(w,by rw[da,T9 c];exact S,r))
def EV.any{i:Nat}(e:EV K J F H Z Y)(h:∀t,Y[i]?≠TJ (TJ t)):EV K J F H (Z.set i v) Y :=
 (e.w,λ j u V=>by
  obtain⟨w,S,r⟩:=e.sl j u V;refine(w,?_,r);rw[da,T9 λ z=>by subst z;exact h u V]
  exact S)
def Zy(K:FG):List Nat->TG
 |[i]=>cH i
 |[i,j]=>ph K 2 (gA (cH i)<|gA (cH j) pf)
 |[i,j,k]=>ph K 3 (gA (cH i)<|gA (cH j)<|gA (cH k) pf)
 |[i,j,k,m]=>ph K 4 (gA (cH i)<|gA (cH j)<|gA (cH k)<|gA (cH m) pf)
 |_=>λ _ _ _ _=>False
theorem zD{K:FG}{Z:St}{d:List Nat}{Q:St->Hp->Prop}{E:St->En->Prop}(st:∀ {Z Y i t v},i∈d->E Z Y->Rp K F H t v->i<Z.length->E (Z.set i<|TJ v) (Y.set i<|TJ t))(h:Zh Y d t P)(e:E Z Y)(r:Rp K F H t v)(T:∀i∈d,i<Z.length)
  (W:∀N b,P b->E N b->N.length=Z.length->Q N H):Zy K d v Z H Q:=by
 match d,h with
 |[i],h=>exact W _ _ h (st Cr e r<|T i Cr) Cr
 |[i,j],h=>
  cases t with
  |tup l=>
   match l,h with
   |[x,y],h=>
    refine HT λ S V=>?_;obtain⟨a,U,rfl,q,o,n,rfl,A,c,r2,rfl,g,rfl⟩:=r;refine V ?_;clear V S;exact(a,_,on,q,on,o,_,on,c,_,on,on,W _ _ h (st Cr (st Cr e A<|T i Cr) g<|by simpa using T j Cr) Cr)
   |[],h=>exact h.elim
   |[_],h=>exact h.elim
   |_::_::_::_,h=>exact h.elim
  |_=>exact h.elim
 |[i,j,k],h=>
  cases t with
  |tup l=>
   match l,h with
   |[x,y,z],h=>
    refine HT λ S V=>?_;obtain⟨a,U,rfl,q,o,n,rfl,A,c,r2,rfl,g,p,L,rfl,s,rfl⟩:=r;refine V ?_;clear V S;exact(a,_,on,q,on,o,_,on,c,_,on,p,_,on,on,W _ _ h (st Cr (st Cr (st Cr e A<|T i Cr) g<|by simpa using T j Cr) s<|by simpa using T k Cr) Cr)
   |[],h=>exact h.elim
   |[_],h=>exact h.elim
   |[_,_],h=>exact h.elim
   |_::_::_::_::_,h=>exact h.elim
  |_=>exact h.elim
 |[i,j,k,m],h=>
  cases t with
  |tup l=>
   match l,h with
   |[x,y,z,w],h=>
    refine HT λ S V=>?_;obtain⟨a,U,rfl,q,o,n,rfl,A,c,r2,rfl,g,p,L,rfl,s,D,B,rfl,J,rfl⟩:=r;refine V ?_;clear V S;exact(a,_,on,q,on,o,_,on,c,_,on,p,_,on,D,_,on,on,W _ _ h (st Cr (st Cr (st Cr (st Cr e A<|T i Cr) g<|by simpa using T j Cr) s<|by simpa using T k Cr) J<|by simpa using T m Cr) Cr)
   |[],h=>exact h.elim
   |[_],h=>exact h.elim
   |[_,_],h=>exact h.elim
   |[_,_,_],h=>exact h.elim
   |_::_::_::_::_::_,h=>exact h.elim
  |_=>exact h.elim
 |[],h=>exact h.elim
 |_::_::_::_::_::_,h=>exact h.elim
theorem zE{Q:St->Hp->Prop}(h:Zh Y U t P)(e:EV K J F H Z Y)(z:Rp K F H t v)(A:∀i∈U,i<Z.length)
  (N:∀S T,P T->EV K J F H S T->S.length=Z.length->(∀V,EV K J F H Z V->(∀i∈U,∀u,V[i]?≠TJ (TJ u))->EV K J F H S V)->Q S H):Zy K U v Z H Q :=
 zD (E:=λ S T=>EV K J F H S T/\∀V,EV K J F H Z V->(∀i∈U,∀u,V[i]?≠TJ (TJ u))->EV K J F H S V) (λ m e r l=>(e.1.set r l,λ V W n=>(e.2 V W n).any<|n _ m)) h (e,λ _ W _=>W) z A λ S T p e l=>N S T p e.1 l e.2
end
def uQ{S:Bool}(B:X.N.Nodup)(n:X.calm=TK)(s:XS X N Y)(Q:S=TK->∀x,X.env.scope.names.lookup x=TJ .cell->X.fn x=TK)(h:m7 S N Y Z O=TK):PG X O (Zy X.K Z)/\∀i∈Z,i<N.length:=by
 have V:∀(i:Nat) (x:Str) (p:Pos),(decide (N[i]?=TJ x)&&(decide (Y.lookup x=TJ .local) || (S&&decide (Y.lookup x=TJ .cell))))=TK->PG X (.Name x p) (cH i)/\i<N.length:=λ i x p h=>by
  rw[bq,jq,bq] at h;obtain⟨M,c⟩:=h;have e:=au M;refine(?_,(aP.mp e).1)
  rcases c with c|⟨c,I⟩
  .have k:X.env.scope.names.lookup x=TJ .local:=by rw[s.nm];exact au c
   exact wG B (by rw[s.N];exact e) (.inl k)<|.inr k
  .have k:X.env.scope.names.lookup x=TJ .cell:=by rw[s.nm];exact au I
   exact wG B (by rw[s.N];exact e) (.inr k)<|.inl<|Q c x k
 match Z,h with
 |[i],h=>
  refine aU h λ x p g=>?_;obtain⟨a,b⟩:=V _ _ p g;exact(a,λ i W=>by rw[aK.mp W];exact b)
 |[i,j],h=>
  refine jX h λ D _ _ g=>?_;refine iz g λ J L g=>?_;refine aU (an g).1 λ x p A=>?_;refine aU (an g).2 λ y q K=>?_;obtain⟨d,b1⟩:=V _ _ p A;obtain⟨o,U⟩:=V _ _ q K;refine(sy n<|gU d<|gU o sw,λ i W=>?_);simp only[aD,cX,cO] at W
  rcases W with rfl|rfl<;>assumption
 |[i,j,k],h=>
  refine jX h λ D _ _ g=>?_;refine KN g λ J L E g=>?_;obtain⟨A,K,v⟩:=a3 g;refine aU A λ x p A=>?_;refine aU K λ y q K=>?_;refine aU v λ z r v=>?_;refine HT λ F T=>?_;obtain⟨d,b1⟩:=V _ _ p A;obtain⟨o,U⟩:=V _ _ q K;obtain⟨a3,G⟩:=V _ _ r v;refine T ?_;clear T F;refine(sy n<|gU d<|gU o<|gU a3 sw,λ i W=>?_);simp only[aD,cX,cO] at W
  rcases W with rfl|rfl|rfl<;>assumption
 |[i,j,k,m],h=>
  refine jX h λ D _ _ g=>?_;refine KM g λ J L E C g=>?_;obtain⟨A,K,v,l⟩:=a4 g;refine aU A λ x p A=>?_;refine aU K λ y q K=>?_;refine aU v λ z r v=>?_;refine aU l λ w t l=>?_;refine HT λ F T=>?_;obtain⟨d,b1⟩:=V _ _ p A;obtain⟨o,U⟩:=V _ _ q K;obtain⟨a3,G⟩:=V _ _ r v;obtain⟨a4,R⟩:=V _ _ t l;refine T ?_;clear T F;refine(sy n<|gU d<|gU o<|gU a3<|gU a4 sw,λ i W=>?_);simp only[aD,cX,cO] at W
  rcases W with rfl|rfl|rfl|rfl<;>assumption
 |[],h=>exact TN h
 |_::_::_::_::_::_,h=>exact TN h
section
variable {J:Hp->Prop}{Y:List Yt}{Z:List TV}{U:List Str}
def rW(K:FG)(J:Hp->Prop)(Y:List Yt)(Z:List TV)(k:IK)(c:Cd):TI:=λ y H R=>∃F z,EV K J F H y z/\wL Y Z c z λ T=>l9 k T λ S=>∀W V A N,Grow J F H W V->RrL K H W V T A->YW K J N S T A->R N V
def PI.imp{t S:TI}(h:PI X L e t)(i:∀V H Q,S V H Q->t V H Q):PI X L e S:=λ T s V H Q I q=>h T s V H Q I<|i V H Q q
def uR(h:eh e=TK):Vc L e=TL:=by cases e<;>first|rfl|cases h
def zF{o V:Vx}{r w:Expr}(h:eh w=TK):Xx [o,V] [r,w]=TL:=by
 show Vc V w=TL;exact uR h
def zG(h:eh e=TK):VR e L x=Uo x:=by cases e<;>first|rfl|cases h
def qw(h:jm e=TK):xq e:=by
 intro o i
 cases e<;>first|rfl|(cases h;done)
def s_v(K:XS X N L)(h:ck D U (.v i) N L e=TK):PE X e<|rE X.K J Y Z<|.v i:=by
 refine aU h λ x p g=>?_;have A:=iZ.mp g;refine HT λ T V=>?_;obtain⟨d,o⟩:=iZ.mp A.1;obtain⟨y,j,_⟩:=cZ A.2;refine V ?_;clear V T;refine(eO (by rw[K.N];exact au d) (jp K o) y j).imp λ c H Q q=>?_;obtain⟨F,z,W,w⟩:=q;have w:B8 z[i]? _:=w
 rcases S:z[i]? with _|_|t
 .rw[S] at w;exact w.elim
 .rw[S] at w;exact w.elim
 .rw[S] at w;obtain⟨v,e,r⟩:=W.sl i t S;unfold bL;rw[e]
  cases t with
  |bor l=>exact r.elim
  |obj l=>exact w.elim
  |_=>exact w F H v (.refl W.w) r
def s_c(h:ck L U (.c t) N D e=TK):PE X e<|rE X.K J Y Z<|.c t:=by
 refine jn h λ k _ _ W=>?_;replace h:u6 t k=TK:=W
 cases t<;>cases k<;>first
  |exact TN h
  |(cases au h;exact pe_int.imp<|by rintro T H Q ⟨F,S,V,w⟩;exact w F H _ (.refl V.w) rfl)
  |(cases au h;exact pe_str.imp<|by rintro T H Q ⟨F,S,V,w⟩;exact w F H _ (.refl V.w) rfl)
  |(cases au h;exact pe_bl.imp<|by rintro T H Q ⟨F,S,V,w⟩;exact w F H _ (.refl V.w) rfl)
  |exact pe_non.imp (by rintro T H Q ⟨F,S,V,w⟩;exact w F H _ (.refl V.w) rfl)
def s_g(n:YC X J Y Z L U)(a:XS X N D)(h:ck L U (.g k) N D e=TK):PE X e<|rE X.K J Y Z<|.g k:=by
 refine aU h λ x p c=>?_;have z:=iZ.mp c;obtain⟨b,i⟩:=iZ.mp z.1;obtain⟨o,_,_⟩:=cZ z.2
 cases S:Z[k]? with
 |none=>exact (by rintro d s j H Q I ⟨F,y,W,w⟩;exact by have w:z8 Z[k]? _:=w;rw[S] at w;exact w.elim)
 |some t=>
  cases K:t.nb with
  |false=>
   intro d s j H Q I (F,y,W,w);have w:z8 Z[k]? _:=w;rw[S] at w
   cases t<;>first|exact w.elim|exact TN K
  |true=>
   refine HT λ T V=>?_;obtain⟨v,u,m,r,p⟩:=n.glb k _ t (au b) S K;refine V ?_;clear V T;refine(El (Zg a i) m r o).imp λ j H Q A=>?_;obtain⟨F,y,W,w⟩:=A;have w:z8 Z[k]? _:=w;rw[S] at w
   cases t with
   |bor l=>cases K
   |_=>exact w F H v (.refl W.w)<|Rr.of<|p F H
def KR{k:Nat}(O:YC X J Y Z u U)(R:XS X N E)(e:U[k]?=TJ x)(i:gl E x=TK)(n:Zd x=TK)(L:jm y=TK)(D:PE X y<|rE X.K J Y Z a):PE X (.Subscript (.Name x q) y f)<|rE X.K J Y Z<|.dk k a:=by
 intro j s P H Q I (F,C,p,w);refine HT λ S V=>?_;obtain⟨l,m,w⟩:=yV (show B7 Z[k]? _ from w);obtain⟨d,G,B,T,W⟩:=O.dic k x l e m;refine V ?_;clear V S;refine IL (Zg R i) B T D (qw L) (cZ n).1 j s P H Q I (F,C,p,aj a (λ t w A K v g r=>?_) w);refine HT λ S V=>?_;obtain⟨z,rfl,t,c,w⟩:=yX w;refine V ?_;clear V S;cases r;obtain⟨b,o,M⟩:=W z t c;exact(z,b,on,o,w A K _ g<|Rr.of<|M A K)
def KS(g:YC X J Y Z L U)(K:PE X l<|rE X.K J Y Z a)(z:PE X r<|rE X.K J Y Z b):PE X (.BinOp l o r p) (rE X.K J Y Z<|.bin o a b) :=
 (ES (Kh g.hJ o) K z).imp (by rintro m H Q ⟨F,W,S,w⟩;exact (F,W,S,aj a (λ x w N d v V j=>(N,W,S.grow V,aj b (λ y w A c k T r2=>(F,H,A,x,y,V.trans T,j.grow T,r2.late V,w)) w)) w))
def KU{o:Vx}(k:YC X J Y Z L U)(j:PE X l<|rE X.K J Y Z a)(g:PE X r<|rE X.K J Y Z b)(d:eh r=TK):PE X (.Compare l [o] [r] p) (rE X.K J Y Z<|.cmp o a b) :=
 (sJ (lM k.units o) j g<|uR d).imp (by rintro e H Q ⟨F,N,W,w⟩;exact (F,N,W,aj a (λ x w A m v V c=>(A,N,W.grow V,aj b (λ y w T K s S r2=>(F,H,T,x,y,V.trans S,c.grow S,r2.late V,iw (λ z w v r=>w T K v (V.trans S) r) w)) w)) w))
def KW(K:PE X l<|rE X.K J Y Z a)(z:PE X r<|rE X.K J Y Z b)(j:jm r=TK):PE X (.Subscript l r p) (rE X.K J Y Z<|.ix a b) :=
 (tz Km K z<|qw j).imp (by rintro k H Q ⟨F,W,S,w⟩;exact (F,W,S,aj a (λ x w N d v V g=>(N,W,S.grow V,aj b (λ y w A o c T r2=>(F,H,A,x,y,V.trans T,g.grow T,r2.late V,w)) w)) w))
def KY(N:PE X l<|rE X.K J Y Z a):PE X (.UnaryOp .USub l p) (rE X.K J Y Z<|.neg a) :=
 (ET Fg N).imp λ z H Q (F,K,T,w)=>(F,K,T,aj a (λ x w V S v W A=>by
  obtain⟨i,rfl,w⟩:=gN w;cases A
  exact w V S _ W rfl) w)
def KZ(N:PE X l<|rE X.K J Y Z a):PE X (.UnaryOp .Not l p) (rE X.K J Y Z<|.not a) :=
 (Ev N).imp λ z H Q (F,K,T,w)=>(F,K,T,aj a (λ x w V S v W A=>by
  obtain⟨i,rfl,w⟩:=jd w;cases A
  exact(i,on,w V S _ W rfl)) w)
def qx{Q:VK}(g:Grow J F H D L)(w:∀S V v,Grow J F H S V->Rr X.K H S V t v->Q v V):∀S V v,Grow J D L S V->Rr X.K L S V t v->Q v V:=λ S V v T r=>w S V v (g.trans T)<|r.late g
def La{o A:Vx}(d:YC X J Y Z O U)(t:PE X l<|rE X.K J Y Z a)(n:PE X r<|rE X.K J Y Z b)(D:PE X L<|rE X.K J Y Z c)(B:eh L=TK):PE X (.Compare l [o,A] [r,L] p) (rE X.K J Y Z<|.cm2 o A a b c) :=
 (Fu (lM d.units o) (lM d.units A) t n D<|zF B).imp λ q H Q (F,j,W,w)=>(F,j,W,aj a (λ x w m I v V G=>(m,j,W.grow V,aj b (λ y w T s R S r2=>(F,H,T,x,y,V.trans S,G.grow S,r2.late V,iw (λ z w C E=>by
  obtain⟨k,i,K⟩:=jd w;subst i;cases E;refine(k,on,?_);split at K
  .rw[U0<|by assumption];exact(T,j,(W.grow V).grow S,aj c (λ z w g e P N M=>(F,H,g,y,z,(V.trans S).trans N,(r2.late V).grow N,M.late<|V.trans S,iw (λ u w v r=>w g e v ((V.trans S).trans N) r) w)) K)
  .rw[T9<|by assumption];exact K T s _ (V.trans S) rfl) w)) w)) w)
def zH{l r:Expr}{rest:List Expr}(z:PE X l<|rE X.K J Y Z a)(j:PE X (.BoolOp .And (r::rest) p)<|rE X.K J Y Z b):PE X (.BoolOp .And (l::r::rest) p) (rE X.K J Y Z<|.and a b) :=
 (wA z j).imp λ d H Q (F,N,W,w)=>(F,N,W,aj a (λ x w T A v V g=>by
  obtain⟨k,K,S⟩:=jd w;subst K;cases g;show if k=TK then _ else _;split at S
  .rw[U0<|by assumption];exact(T,N,W.grow V,aj b (λ y w=>qx V w) S)
  .rw[T9<|by assumption];exact S T A _ V rfl) w)
def zI{l r:Expr}{rest:List Expr}(z:PE X l<|rE X.K J Y Z a)(j:PE X (.BoolOp .Or (r::rest) p)<|rE X.K J Y Z b):PE X (.BoolOp .Or (l::r::rest) p) (rE X.K J Y Z<|.or a b) :=
 (Eu z j).imp λ d H Q (F,N,W,w)=>(F,N,W,aj a (λ x w T A v V g=>by
  obtain⟨k,K,S⟩:=jd w;subst K;cases g;show if k=TK then _ else _;split at S
  .rw[U0<|by assumption];exact S T A _ V rfl
  .rw[T9<|by assumption];exact(T,N,W.grow V,aj b (λ y w=>qx V w) S)) w)
def Lb(v:PT X x<|rT X.K J Y Z c)(A:PE X y<|rE X.K J Y Z a)(K:PE X z<|rE X.K J Y Z b):PE X (.IfExp x y z p) (rE X.K J Y Z<|.ite c a b) :=
 (Ew v A K).imp λ g H Q (F,W,S,w)=>(F,W,S,aj c (λ x w=>cI (λ k T N j V=>by
  split at T
  .rw[U0<|by assumption];exact(N,W,S.grow V,aj a (λ y w=>qx V w) T)
  .rw[T9<|by assumption];exact(N,W,S.grow V,aj b (λ y w=>qx V w) T)) w) w)
def zJ(y:PE X e<|rE X.K J Y Z a)(j:PA X L<|rA X.K J Y Z r)(g:aM e=TK):PA X (e::L) (rA X.K J Y Z<|.cons a r) :=
 (bK y j<|aV g).imp (by rintro k H Q ⟨F,W,S,w⟩;exact (F,W,S,aj a (λ x w N o v V d=>(N,W,S.grow V,bE r (λ c w A K vs T r2=>w A K _ (V.trans T)<|.cons (d.grow T)<|Paired.mapP r2 λ _ _ z=>z.late V) w)) w))
def Lc:PA X []<|rA X.K J Y Z .nil:=pa_nil.imp (by rintro T H Q ⟨F,S,V,w⟩;exact w F H _ (.refl V.w) .nil)
def Ld(N:YC X J Y Z D U)(h:PA X L<|rA X.K J Y Z l):PE X (.Tuple L k p) (rE X.K J Y Z<|.tup l) :=
 (sQ h).imp λ g H Q (F,A,V,w)=>(F,A,V,bE l (λ j (n,z,w) K v vs S W=>by
  obtain⟨y,T,_,r2⟩:=gO S W n
  exact(by rw[<- r2.length,af];exact z,jU N.hJ T r2 w)) w)
def Le(N:YC X J Y Z D U)(h:PA X L<|rA X.K J Y Z l):PE X (.List L p) (rE X.K J Y Z<|.lst l) :=
 (sU h).imp λ g H Q (F,A,V,w)=>(F,A,V,bE l (λ j (n,z,w) K v vs S W=>by
  obtain⟨y,T,_,r2⟩:=gO S W n
  exact(by rw[<- r2.length,af];exact z,jf N.hJ T r2 w)) w)
theorem Lf{a lo K:Cd}(i:YC X J Y Z G U)(k:PE X e<|rE X.K J Y Z a)(r:PO X l λ S H Q=>∃F L,EV X.K J F H S L/\wE Y Z lo L λ t=>oI t λ o=>∀T V,Grow J F H T V->Q o V)(m:PO X h λ S H Q=>∃F L,EV X.K J F H S L/\wE Y Z K L λ t=>oI t λ o=>∀T V,Grow J F H T V->Q o V) :
  PE X (.Subscript e (.Slice l h TM E) p) (rE X.K J Y Z<|.sl a lo K) :=
 (FU (Ko i.hJ) k r m).imp (by rintro S H Q ⟨F,L,W,w⟩;exact (F,L,W,aj a (λ x w g n v N s=>(g,L,W.grow N,aj lo (λ y w=>qt (λ a w d D A=>(d,L,(W.grow N).grow A,aj K (λ z w=>qt (λ b w c B j=>(F,H,c,x,(N.trans A).trans j,(s.grow A).grow j,w)) w) w)) w) w)) w))
end
section
variable {J:Hp->Prop}{Z:List TV}{Y:List Str}
set_option tactic.hygienic true in
def uS{K:FG}{vs:List V}(w:Wd J L U)(h:RrL K H L U B vs):∃D,Wd J D U/\RpL K D U (B.map TV.fz) vs:=by
 refine(λ b=>U b≠TM,(w.j,λ a f=>f),?_);have up:∀a,L a->U a≠TM:=w.d
 induction h with
 |nil=>rfl
 |cons r q A=>
  refine(_,_,on,?_,A);rename_i t v _ _
  cases t with
  |own l=>refine HT λ T S=>?_;obtain⟨a,vs,e,_,_,W,N⟩:=r;refine S ?_;clear S T;exact(a,vs,e,(.inl ((λ z=>by rw[W] at z;cases z),.of W)),N.ke<|.up up)
  |bor l=>refine HT λ T S=>?_;obtain⟨a,vs,e,_,W,N⟩:=r;refine S ?_;clear S T;exact(a,vs,e,(.inl ((λ z=>by rw[W] at z;cases z),.of W)),N.ke<|.up up)
  |_=>exact Rp.ke (.up up) r
theorem Lg{f:Nat}{a:Expr}{y:List Expr}(D:YC X J U Z E Y)(e:E[f]?=TJ x)(R:Gl X x)(O:(x == ("__debug__" : Str))=TL)(I:PA X (a::y)<|rA X.K J U Z l)(u:aM a=TK)(j:y.all aM=TK) :
  PE X (.Call (.Name x p) (a::y) [] pos)<|rE X.K J U Z<|.call f l:=by
 refine HT λ T V=>?_;obtain⟨S,r⟩:∃S,U[f]?=TJ S:=fO<|bH (aP.mp e).1 D.len;obtain⟨k,ps,C,c⟩:=D.fns f x S e r;refine V ?_;clear V T;refine(nC c C R nq I O (aV u)<|dP j).imp λ σ H Q (F,ρ,G,w)=>(F,ρ,G,bE l (λ ts w K B vs A i=>?_) w);refine HT λ T V=>?_;obtain⟨P,⟨S',m,L⟩,w⟩:=w;refine V ?_;clear V T;rw[r] at m;cases m;rw[eR]
 cases n:ts.all TV.nb with
 |true=>
  obtain⟨z,s,_,r2⟩:=gO A i n;exact(z,_,P,s.w,r2,L,λ t g o N v W d=>(w t g).2 o N v (s.trans W)<|Rr.of d)
 |false=>
  obtain⟨z,w2,r2⟩:=uS A.w i;refine(z,_,P,w2,r2,L,λ t g o N v W d=>?_);obtain⟨q,w⟩:=w t g;have M:Grow J K B K N:=(W.sm,W.dm,λ _ h=>h,λ _ h=>.inl h,W.w.j,λ b f=>W.dm b<|A.w.d b f);exact w K N v (A.trans M)<|Rr.of<|(q n).rp d
theorem jZ{a:Expr}{V:List Expr}{id:String}(K:bY X (.builtin id)<|rL X J<|ZE f)(y:Gl X x)(v:X.mg x=TM)(d:UP x=TJ (.builtin id))(j:x ≠ "__name__")(z:(x == ("__debug__" : Str))=TL)(A:PA X (a::V)<|rA X.K J U Z l)(g:aM a=TK)(S:V.all aM=TK) :
  PE X (.Call (.Name x p) (a::V) [] L) (rE X.K J U Z<|.bi f l) :=
 (pI K y v d A j z (aV g)<|dP S).imp (by rintro b H Q ⟨F,k,W,w⟩;exact (F,k,W,bE l (λ c w T m vs N o=>(F,H,T,c,N,o,w)) w))
theorem uT{a:Expr}{V:List Expr}{id:String}(K:bY X (.type id)<|rL X J<|ZE f)(y:Gl X x)(v:X.mg x=TM)(d:UP x=TJ (.type id))(j:x ≠ "__name__")(z:(x == ("__debug__" : Str))=TL)(A:PA X (a::V)<|rA X.K J U Z l)(g:aM a=TK)(S:V.all aM=TK) :
  PE X (.Call (.Name x p) (a::V) [] L) (rE X.K J U Z<|.bi f l) :=
 (sY K y v d A j z (aV g)<|dP S).imp λ b H Q (F,k,W,w)=>(F,k,W,bE l (λ c w T m vs N o=>(F,H,T,c,N,o,w)) w)
theorem Lh{a:Expr}{F:List Expr}(S:YC X J U Z D Y)(T:P8 f=TJ x)(A:Gl X x)(N:PA X (a::F)<|rA X.K J U Z l)(K:aM a=TK)(V:F.all aM=TK) :
  PE X (.Call (.Name x p) (a::F) [] L)<|rE X.K J U Z<|.bi f l:=by
 have W:∀y,y∈BN->X.mg y=TM:=S.blt
 cases f with
 |len=>cases T;exact jZ (jg S.hJ S.calm .len Cr) A (W _ Cl) (by decide +kernel) Cl Cl N K V
 |tuple=>cases T;exact uT (jg S.hJ S.calm .tuple Cr) A (W _ Cl) (by decide +kernel) Cl Cl N K V
 |list=>cases T;exact uT (jg S.hJ S.calm .list Cr) A (W _ Cl) (by decide +kernel) Cl Cl N K V
 |sum=>cases T;exact jZ (jg S.hJ S.calm .sum Cr) A (W _ Cl) (by decide +kernel) Cl Cl N K V
 |max=>cases T;exact jZ (Kr S.calm) A (W _ Cl) (by decide +kernel) Cl Cl N K V
 |min=>cases T;exact jZ (Ks S.calm) A (W _ Cl) (by decide +kernel) Cl Cl N K V
 |abs=>cases T;exact jZ (jg S.hJ S.calm .abs Cr) A (W _ Cl) (by decide +kernel) Cl Cl N K V
 |int=>cases T;exact uT (jg S.hJ S.calm .int Cr) A (W _ Cl) (by decide +kernel) Cl Cl N K V
 |sorted=>cases T;exact jZ (jg S.hJ S.calm .sorted Cr) A (W _ Cl) (by decide +kernel) Cl Cl N K V
 |any=>cases T;exact jZ (jg S.hJ S.calm .any Cr) A (W _ Cl) (by decide +kernel) Cl Cl N K V
 |_=>cases T
theorem Li{f:BI}{z:Str}{p T A:Pos}(r:YC X J U Z L Y)(h:f=.isI\/f=.isB\/f=.isT\/f=.isL\/f=.isS)(k:z=Uf (ZV f))(o:Gl X "isinstance")(S:Gl X z)(N:aM y=TK)(c:PE X y<|rE X.K J U Z b) :
  PE X (.Call (.Name "isinstance" p) [y,.Name z A] [] T)<|rE X.K J U Z<|.isi f b:=by
 have W:∀y,y∈BN->X.mg y=TM:=r.blt
 have V:UP z=TJ (.type<|ZV f)/\X.mg z=TM/\z ≠ "__name__" /\ (z == ("__debug__" : Str))=TL:=by
  subst k
  rcases h with rfl|rfl|rfl|rfl|rfl<;>exact(by decide +kernel,W _ Cl,Cl,Cl)
 have d:PA X [y,.Name z A]<|sM (rE X.K J U Z b)<|sM (tC<|.ty<|ZV f) kP:=bK c (bK (ww (v:=.ty<|ZV f) S V.2.1 V.1 rfl V.2.2.1 V.2.2.2) pa_nil rfl)<|aV N;refine(pI (Kv (J:=J) f h) o (W _ Cl) (by decide +kernel) d Cl Cl (aV N) rfl).imp λ i H Q (F,s,j,w)=>(F,s,j,aj b (λ t w K e v g m=>?_) w);exact(v,on,F,H,K,[t],g,.cons m .nil,w)
theorem Lj{p d O R:Pos}(c:YC X J U Z q Y)(G:Gl X "max")(j:Gl X "len")(E:aM y=TK)(g:aM z=TK)(M:PE X y<|rE X.K J U Z a)(I:PE X z<|rE X.K J U Z b) :
  PE X (.Call (.Name "max" p) [y,z] [(TJ<|Uf "key",.Name "len" R,O)] d)<|rE X.K J U Z<|.mxl a b:=by
 refine(Kp c.calm G (c.blt _ Cl) j (c.blt _ Cl) M I (aV E)<|aV g).imp λ h H Q (F,L,s,w)=>(F,L,s,aj a (λ t w D P v N C=>(D,L,s.grow N,aj b (λ u w k r f K r2=>?_) w)) w);have w:ZE .maxlen [t,u] λ t=>∀S V v,Grow J F H S V->Rr X.K H S V t v->Q v V:=w
 cases t with
 |tup l=>
  cases u with
  |tup m=>
   refine HT λ W T=>?_;obtain⟨A,n,rfl,e,s1⟩:=C.grow K;obtain⟨B,x,rfl,i,o⟩:=r2;refine T ?_;clear T W;refine(A,B,n,x,on,on,e,i,λ z=>?_,λ z=>?_)
   .have w:∀S V v,Grow J F H S V->Rr X.K H S V (.tup<|if l.length<m.length then m else l) v->Q v V:=w;rw[T9<|by rw[s1.length,o.length];lia] at w;exact w k r _ (N.trans K) (A,n,on,e,s1)
   .have w:∀S V v,Grow J F H S V->Rr X.K H S V (.tup<|if l.length<m.length then m else l) v->Q v V:=w;rw[U0<|by rw[s1.length,o.length];lia] at w;exact w k r _ (N.trans K) (B,x,on,i,o)
  |_=>exact w.elim
 |_=>cases u<;>exact w.elim
theorem Lk{p z i N:Pos}(V:YC X J U Z L Y)(d:Gl X "tuple")(W:Gl X "reversed")(o:aM y=TK)(c:PE X y<|rE X.K J U Z a) :
  PE X (.Call (.Name "tuple" p) [.Call (.Name "reversed" i) [y] [] N] [] z)<|rE X.K J U Z<|.trev k a:=by
 cases k with
 |false=>
  refine(Hv V.calm d W (V.blt _ Cl) (V.blt _ Cl) c<|aV o).imp λ n H Q (F,g,A,w)=>(F,g,A,aj a (λ t w m s v K j=>?_) w);obtain⟨l,e,w⟩:=jT (show l1 t λ l=>∀T S v,Grow J F H T S->Rr X.K H T S (.tup l.reverse) v->Q v S from w);obtain⟨b,vs,rfl,r,q⟩:=j.lq e;exact(b,vs,on,q,jU V.hJ K r.reverse w)
 |true=>
  refine(Ip V.calm d W (V.blt _ Cl) (V.blt _ Cl) c<|aV o).imp λ n H Q (F,g,A,w)=>(F,g,A,aj a (λ t w m s v K j=>?_) w);have w:k1 TK t λ l=>∀T S v,Grow J F H T S->Rr X.K H T S (.tup l.reverse) v->Q v S:=w
  cases t with
  |tup l=>obtain⟨b,vs,rfl,q,r⟩:=j;exact(b,vs,rfl,q,jU V.hJ K r.reverse w)
  |_=>exact w.elim
theorem Ll{k:Bool}{p z b V:Pos}(D:(!k)=TK)(T:YC X J U Z I Y)(L:Gl X<|Uf<|if k=TK then "tuple" else "list")(A:Gl X "range")(m:aM y=TK)(G:PE X y<|rE X.K J U Z a) :
  PE X (.Call (.Name (Uf<|if k=TK then "tuple" else "list") p) [.Call (.Name "range" b) [y] [] V] [] z)<|rE X.K J U Z<|.lrng k a:=by
 have K:=sY (p:=b) (pos:=V) IA A (T.blt _ Cl) (by decide +kernel) (bK G pa_nil<|aV m) Cl Cl (aV m) rfl;have e:∀j:Int,(YN j.toNat).map U2=(Ub j.toNat).map λ i=>U2 (i:Nat):=λ j=>by unfold YN;rw[bV];rfl
 cases k with
 |false=>
  refine(sY (IB T.calm) L (T.blt _ Cl) (by decide +kernel) (bK K pa_nil rfl) Cl Cl rfl rfl).imp λ O H Q (F,M,n,w)=>(F,M,n,aj a (λ t w d o v c E=>?_) w);refine HT λ W S=>?_;obtain⟨j,rfl,⟨s,c1⟩,w⟩:=gN (show i1 t λ j=>(0<=j/\j<=1000)/\∀g N v,Grow J F H g N->Rr X.K H g N (.own<|(Ub j.toNat).map λ i=>.int (i:Nat)) v->Q v N from w);refine S ?_;clear S W;cases E;refine(j,on,λ r K=>?_);have x:Grow J d o d<|Yu o r<|.rng 0 j:=.new T.hJ c.w _ K;refine(r,j.toNat,on,by rw[bB];congr 2;exact(nU s).symm,BT,λ l B=>?_);rw[<- e] at w;exact jf T.hJ (c.trans x) (RpL.ofInts _) w l B
 |true=>exact TN D
end
section
variable {J:Hp->Prop}{Z:List TV}{Y:List Str}{N:List Str}
def Lm(o:PE X y<|rE X.K J U Z a):PI X L y (rW X.K J U Z .seq<|.cons a .nil) :=
 (IP o).imp λ k H R (F,c,d,w)=>(F,c,d,aj a (λ t w A K v g r=>by
  refine HT λ S V=>?_;obtain⟨b,l,e,w⟩:=lL (show s1 t λ W=>∀N T j z,Grow J F H N T->RrL X.K H N T [t] j->YW X.K J z W [t] j->R z T from w);obtain⟨p,vs,rfl,_,q⟩:=r.sq e;refine V ?_;clear V S
  rcases q with ⟨rfl,q⟩|⟨rfl,q⟩
  .exact .inr (p,on,(vs,q),w A K _ _ g (.cons r .nil)<|Kx e)
  .exact .inl (p,on,(vs,q),w A K _ _ g (.cons r .nil)<|Kw e)) w)
def Ln(n:Nat):((Ub n).map λ k=>U2<|0+(k:Nat))=(Ub n).map λ k=>U2 (k:Nat):=Cr
def Lo{p S:Pos}(k:YC X J U Z L Y)(o:Gl X "range")(N:aM e=TK)(d:PE X e<|rE X.K J U Z a):PI X D (.Call (.Name "range" p) [e] [] S) (rW X.K J U Z .rng<|.cons a .nil) :=
 (EM o (k.blt _ Cl) (bK d pa_nil<|aV N)<|aV N).imp λ b H R (F,m,y,w)=>(F,m,y,aj a (λ t w K z v g r=>by
  obtain⟨j,rfl,c,w⟩:=gN (show i1 t λ j=>(-(2 ^ 62)<=j/\j<2 ^ 62)/\∀T V A W,Grow J F H T V->RrL X.K H T V [t] A->YW X.K J W ((Ub j.toNat).map λ i=>.int (i:Nat)) [t] A->R W V from w);cases r
  exact(j,on,c.1,c.2,w K z _ _ g (.cons rfl .nil)<|by rw[<- Ln];exact Ky 0 _)) w)
def Lp{K:FG}{t u z:TV}(h:RrL K H U L [t,u,z] D):∃x y w,D=[x,y,w]/\Rr K H U L t x/\Rr K H U L u y/\Rr K H U L z w:=by
 cases h with
 |cons r q=>obtain⟨y,w,rfl,S,V⟩:=uH q;exact(_,y,w,rfl,r,S,V)
def Lq{p N:Pos}(B:YC X J U Z E Y)(m:Gl X "range")(s:aM e=TK)(T:aM L=TK)(W:aM D=TK)(b:PA X [e,L,D]<|rA X.K J U Z l):PI X M (.Call (.Name "range" p) [e,L,D] [] N) (rW X.K J U Z .rng3 l) :=
 (HG m (B.blt _ Cl) b (by rw[aV s,aV T,aV W];rfl)<|by rw[aV T,aV W];rfl).imp λ I H R (F,G,k,w)=>(F,G,k,bE l (λ A w K d vs g r=>by
  rcases A with _|⟨t,_|⟨u,_|⟨z,_|⟨_,A⟩⟩⟩⟩
  .exact w.elim
  .exact w.elim
  .exact w.elim
  .refine HT λ S V=>?_;obtain⟨i,j,rfl,rfl,w⟩:=ef w;obtain⟨c,rfl,o,w⟩:=gN w;refine V ?_;clear V S;have w:=w K d vs _ g r<|Kz i c _;refine HT λ S V=>?_;obtain⟨x,y,v,rfl,n,r2,a⟩:=Lp r;refine V ?_;clear V S;cases n;cases r2;cases a;exact(i,j,c,on,o,w)
  .exact w.elim) w)
def qy(h:k1 b t P):∃l,t.items=TJ (b,l)/\P l:=by
 cases b with
 |true=>cases t<;>first|exact(_,rfl,h)|exact h.elim
 |false=>exact jT h
def Rr.sb{K:FG}{b:Bool}{l:List TV}(h:Rr K H L U t v)(e:t.items=TJ (b,l)):∃a vs,v=.ref a/\K5 K b U a vs:=by
 obtain⟨a,vs,rfl,q,_⟩:=h.vw.b e;exact(a,vs,on,q)
def Lr{p d:Pos}(K:YC X J U Z D Y)(m:Gl X "enumerate")(b:aM e=TK)(k:PE X e<|rE X.K J U Z a):PI X (.Tuple L G B) (.Call (.Name "enumerate" p) [e] [] d)<|rW X.K J U Z (.enum c)<|.cons a .nil:=by
 cases c with
 |true=>
  exact(HW m (K.blt _ Cl) k<|aV b).imp λ s H R (F,o,j,w)=>(F,o,j,aj a (λ t w z y v g r=>by
   obtain⟨l,W,w⟩:=qy (show k1 TK t λ l=>∀S V N T,Grow J F H S V->RrL X.K H S V [t] N->YW X.K J T (l.mapIdx λ i x=>.tup [.int (i:Nat),x]) [t] N->R T V from w);obtain⟨A,vs,rfl,q⟩:=r.sb W
   exact(A,vs,on,q,w z y _ _ g (.cons r .nil)<|KD K.hJ W)) w)
 |false=>
  exact(Iu m (K.blt _ Cl) k<|aV b).imp λ s H R (F,o,j,w)=>(F,o,j,aj a (λ t w z y v g r=>by
   obtain⟨l,W,w⟩:=qy (show k1 TL t λ l=>∀S V N T,Grow J F H S V->RrL X.K H S V [t] N->YW X.K J T (l.mapIdx λ i x=>.tup [.int (i:Nat),x]) [t] N->R T V from w);obtain⟨A,vs,rfl,q⟩:=r.sb W
   exact(A,vs,on,q,w z y _ _ g (.cons r .nil)<|KE K.hJ W)) w)
def Lu{p S:Pos}(m:YC X J U Z L Y)(o:Gl X "reversed")(c:aM e=TK)(d:PE X e<|rE X.K J U Z a):PI X D (.Call (.Name "reversed" p) [e] [] S)<|rW X.K J U Z (.rev TK)<|.cons a .nil:=by
 exact(Ho o (m.blt _ Cl) d<|aV c).imp λ s H R (F,b,j,w)=>(F,b,j,aj a (λ t w z y v g r=>by
   obtain⟨l,N,w⟩:=qy (show k1 TK t λ l=>∀T V K W,Grow J F H T V->RrL X.K H T V [t] K->YW X.K J W l.reverse [t] K->R W V from w);obtain⟨A,vs,rfl,q,k⟩:=r.vw.t N
   exact(A,vs,on,q,w z y _ _ g (.cons r .nil)<|KC N k.length.symm)) w)
noncomputable def d5(V:List Str)(S:List Nat)(T:En):En:=TY V.length TM++S.map λ j=>(T[j]?).join
def EV.comp{K:FG}{V:List Str}(e:EV K J F H D U):EV K J F H (dZ V.length L D) (d5 V L U) :=
 (e.w,λ i t h=>by
  unfold d5 at h;unfold dZ;by_cases S:i<V.length
  .rw[cU (by simpa using S),dY] at h;split at h<;>cases h
  .rw[cS (by simpa using S),fE,bc] at h;rw[cS (by simpa using S),fE,bc]
   cases T:L[i-V.length]? with
   |none=>rw[T] at h;cases h
   |some j=>
    rw[T] at h;have h:(U[j]?).join=TJ t:=bS h
    have N:U[j]?=TJ (TJ t):=by
     cases q:U[j]? with
     |none=>rw[q] at h;cases h
     |some o=>rw[q] at h;cases o<;>cases h;rfl
    obtain⟨v,W,r⟩:=e.sl j t N
    exact(v,by rw[Wg,W];rfl,r))
def zK{own:List Str}{i:Nat}(h:i<own.length):∀u,(d5 own js ρ)[i]?≠TJ (TJ u):=λ u z=>by
 unfold d5 at z;rw[cU (by simpa using h),dY] at z;split at z<;>cases z
theorem zM{K:VY}{own:List Str}{l Z:List Nat}{Q:VK}{tc:TT}{te:TE}
  (hJ:JS J) (f:Grow J F H D B) (rx:RrL K H D B ts xs) (ok:YW K J u U ts xs) (ev:EV K J F H I M) (lt:∀i∈Z,i<own.length) (hn:U.length<TW) (b:TV->(List TV->Prop)->Prop)
  (hm:∀t K K',(∀y,K y->K' y)->b t K->b t K') (w:ZK b U λ k=>∀A S v,Grow J F H A S->Rr K H A S (.own k) v->Q v S)
  (st:∀t P x A S j,b t P->EV K J A S j (d5 own l M)->j.length=(dZ own.length l I).length->Rp K A S t x ->
   ∀R:List V->St->Hp->Prop,(∀k vs T o d,P k->k.length<=1->Grow J A S o d->RpL K o d k vs->EV K J o d T (d5 own l M)->T.length=j.length->R vs T d) ->
    Zy K Z x j S λ g a=>tc g a λ q G=>if q=TK then te g G λ v C=>R [v] g C else R [] g G) :
  ∃W:Nat->Nat->List V->St->Hp->Prop,(∃m,W 0 m [] (dZ own.length l I) B)/\∀i m k j S,W i m k j S ->
   (u.stop i S/\∀p,S p=TM->Q (.ref p) (Yu S p<|.lst k)) \/
   (u.go i S/\k.length < TW/\∃N:List V->St->Hp->Prop,(∀n T d,N n T d->∃m',m' < m/\W (i+1) m' n T d) /\
    ∀x d,u.yld i S x d->Zy K Z x j d λ g a=>tc g a λ q G=>if q=TK then te g G λ v C=>N (k++[v]) g C else N k g G):=by
 refine(λ i m k j S=>i≤U.length/\m=U.length - i/\∃A n,Grow J D B A S/\EV K J A S j (d5 own l M)/\j.length=(dZ own.length l I).length/\RpL K A S n k/\n.length≤i/\ZK b (U.drop i) λ s=>∀A S v,Grow J F H A S->Rr K H A S (.own<|n++s) v->Q v S,
  (_,cn _,rfl,D,[],.refl f.w,(ev.grow f).comp,rfl,rfl,cn _,w),?_)
 rintro i m k j S ⟨hi,rfl,A,n,L,X,sl,rz,zl,Y⟩;have vw:UZ (Vw K A S) ts xs:=Paired.mapP (rx.grow L) λ _ _ r=>r.vw;by_cases c:i<U.length
 .refine .inr (ok.go A S i L.w vw c,by rw[← rz.length];lia,λ E T d=>∃o s,Grow J D B o d/\EV K J o d T (d5 own l M)/\T.length=(dZ own.length l I).length/\RpL K o d s E/\s.length≤i+1/\ZK b (U.drop<|i+1) λ O=>∀A S v,Grow J F H A S->Rr K H A S (.own<|s++O) v->Q v S,
   (by rintro E T d ⟨o,s,q⟩;exact (_,BT,c,rfl,o,s,q)),λ x d y=>?_)
  obtain⟨t,et,h,rt⟩:=ok.yld A S i x d L.w vw c y
  have ed:U.drop i=t::U.drop (i+1):=by
   rw[qz c]
   congr 1
   rw[aZ c] at et;exact bS et
  rw[ed] at Y
  have z:=st t _ x A d j Y (X.grow h) sl rt (λ vs T a=>∃o s,Grow J D B o a/\EV K J o a T (d5 own l M)/\T.length=(dZ own.length l I).length/\RpL K o a s (k++vs)/\s.length<=i+1/\ZK b (U.drop<|i+1) λ O=>∀A S v,Grow J F H A S->Rr K H A S (.own<|s++O) v->Q v S)
   (λ zs2 vs T o a q l1 g2 r2 e2 s2=>(o,n++zs2,(L.trans h).trans g2,e2,s2.trans sl,(rz.ke (h.trans g2).ke).append r2,by rw[aQ];lia,by
    exact qu hm (λ O q=>by rw[jJ];exact q) q))
  simp only[eR] at z;exact z
 .have e:i=U.length:=by lia
  subst e;rw[uU] at Y;have Y:∀A S v,Grow J F H A S->Rr K H A S (.own<|n++[]) v->Q v S:=Y;rw[eR] at Y;exact .inl (ok.stop A S L.w vw,jf hJ (f.trans L) rz Y)
end
section
variable {J:Hp->Prop}{Z:List TV}{V:List Str}{N:List Str}{nm:List (Str×Uj)}
def lW{T:LA}(S:YC X J Y Z U V):YC (eU X L B T C D s H) J Y Z U V:=(S.calm,S.units,S.hJ,S.fns,S.glb,S.dic,S.blt,S.len,S.hof)
def zN{V fv:List Str}{d S:List Nat}(M:JS J)(o:∀i∈S,i<V.length)(h:rE X.K J Y Z (.comp V fv d S k U e) σ H Q):iU (rW X.K J Y Z k U) V.length d (Zy X.K S) (λ _ H K=>K TK H) (rE X.K J Y Z e) σ H Q:=by
 obtain⟨F,L,n,w⟩:=h;refine(F,L,n,bE U (λ ts w=>jc (λ O w F1 H1 xs Jt E rx f=>?_) w) w);obtain⟨I,w⟩:=w
 exact zM (tc:=λ _ H Q=>Q TK H) (te:=rE X.K J Y Z e) M E rx f n o I (λ t l=>Zh (d5 V d L) S t λ N=>wE Y Z e N λ y=>(y.nb=TK/\l [y.fz])) (λ t K l h q=>iy (λ N q=>aj e (λ y q=>(q.1,h _ q.2)) q) q) w
  (λ t P x D H' σ' b T sl rt R z=>zE b T rt (λ i j=>by rw[sl];unfold dZ;simp;have:=o i j;lia) λ s m p A c W=>by
   show if TK=TK then _ else _;rw[U0 rfl];refine(D,m,A,aj e (λ y (C,p) F2 G v g r=>?_) p);obtain⟨B,a,_,_,rp⟩:=r.frz g C
   exact z [y.fz] [v] s B G p (ax _) a (v,[],on,rp,on) ((W _ T λ i j u=>zK (o i j) u).grow a) c)
def zP{V fv:List Str}{n S:List Nat}(hJ:JS J)(D:∀i∈S,i<V.length)(h:rE X.K J Y Z (.compI V fv n S k O c e) σ H Q):iU (rW X.K J Y Z k O) V.length n (Zy X.K S) (rT X.K J Y Z c) (rE X.K J Y Z e) σ H Q:=by
 obtain⟨F,G,M,w⟩:=h;refine(F,G,M,bE O (λ ts w=>jc (λ its w F1 H1 xs Jt g1 rx ok=>?_) w) w);obtain⟨hn,w⟩:=w
 exact zM (tc:=rT X.K J Y Z c) (te:=rE X.K J Y Z e) hJ g1 rx ok M D hn (λ t U=>Zh (d5 V n G) S t λ T=>wE Y Z c T λ x=>b1 x λ q=>if q=TK then wE Y Z e T λ y=>(y.nb=TK/\U [y.fz]) else U []) (λ t K U h q=>iy (λ T q=>aj c (λ x q=>cI (λ z q=>by
   split at q
   .rw[U0<|by assumption];exact aj e (λ y q=>(q.1,h _ q.2)) q
   .rw[T9<|by assumption];exact h _ q) q) q) q) w
  (λ t P x f H' σ' b W sl rt R A=>zE b W rt (λ i L=>by rw[sl];unfold dZ;simp;have:=D i L;lia) λ l s p N m o=>by
   have C:=o _ W λ i L u=>zK (own:=V) (js:=n) (ρ:=G) (D i L) u;refine(f,s,N,aj c (λ x w=>cI (λ q B E H2 j=>?_) w) p);split at B
   .rw[U0<|by assumption];refine(E,s,N.grow j,aj e (λ y (nb,p) F3 H3 v g r=>?_) B);refine HT λ a d=>?_;obtain⟨F4,I,_,_,rp⟩:=r.frz g nb;refine d ?_;clear d a;exact A [y.fz] [v] l F4 H3 p (ax _) (j.trans I) (v,[],on,rp,on) ((C.grow j).grow I) m
   .rw[T9<|by assumption]
    exact A [] [] l E H2 B (cn _) j rfl (C.grow j) m)
structure CmP (X:Cx)(N:List Str)(nm:List<|Str×Uj)(elt tg iter:Expr)(ifs:List Expr)(scope:Scope)(cl:LA)(own fv:List Str)(js tgs:List Nat)(wi:TI)(tc:TT)(te:TE):Prop where
 c:X.calm=TK
 i:PI X tg iter wi
 S:Q0 X N nm scope own fv js cl
 T:m7 TL (own++fv) (cY nm scope.names) tgs tg=TK
 e:∀(C:TQ) (ex:List TQ) (s:TR) (H:Hp),XS (eU X (own++fv) scope cl C ex s H) (own++fv) (cY nm scope.names)->PE (eU X (own++fv) scope cl C ex s H) elt te
 t:∃T0,nz ifs T0/\∀(C:TQ) (ex:List TQ) (s:TR) (H:Hp),XS (eU X (own++fv) scope cl C ex s H) (own++fv) (cY nm scope.names)->PM (eU X (own++fv) scope cl C ex s H) T0 tc
 n:eh iter=TK
section
variable {U:Expr}{Y:Scope}{J:LA}{pos:Pos}{fv:List Str}
theorem CmP.core(M:CmP X N nm B O U D Y J L fv P G f u q)(I:Inv X E R H s)(h:iU f L.length P (Zy X.K G) u q R H Q)
  (K:∀(a C:TQ) (F:TR) (A:Hp) (j:Flow),Inv X E R A F->A C=TM->C≠X.env.locals->X.s₀.heap.objs.size<=C->(∀x c,X.env.cells.lookup x=TJ c->c≠C)->(∀p∈X.pn++E,p.1≠C)->(∃m,F.heap.Ns C m)->Q (.ref a) A->Yf (TX X.prog X.w) X.A X.xe use QQ (.ref a) C (.ok j) F) :
  TU (TX X.prog X.w) X.A (XJ (.ListComp B [(O,U,D,0)] Y pos) Y X.env fpos (Xt []) TL (firstIter [(O,U,D,0)] X.env) use) QQ X.xe s:=by
 refine HT λ W T=>?_;obtain⟨v,o,S,g,d,⟨e,r,b⟩,k⟩:=M;refine T ?_;clear T W;have y:=λ C V s H=>((rfl,S.rel):XS (eU X (L++fv) Y J C V s H) (L++fv)<|cY nm Y.names);exact GH v o S.clos S.cell S.kind S.names S.sub S.has S.len S.cap (λ C V s H=>(uQ (X:=eU X (L++fv) Y J C V s H) S.nd v (y C V s H) (λ z=>by cases z) g).1) (λ C V s H=>d C V s H<|y C V s H) (λ C V s H=>b C V s H<|y C V s H) r (λ x=>zG k) I h K
def CmP.pe(M:CmP X N nm L f U D Y J B fv R G wi P u)(I:Inv X O E H s)(h:iU wi B.length R (Zy X.K G) P u E H Q):TU (TX X.prog X.w) X.A (eval (.ListComp L [(f,U,D,0)] Y pos) X.env) (EP X O E Q) X.xe s:=by
 rw[eval_ListComp];refine M.core (use:=TM) (QQ:=EP X O E Q) I h λ a C A V g S F z y v j (m,T) q=>(m,T,λ c K=>?_);exact(.ref a,V,S.turned (t':=A.toks) (it:=C) (λ d o W e=>K.extBut d o W e) F z (.inr y) v j,on,q)
theorem CmP.ps(M:CmP X N nm E O U G Y J Q fv js R wi tc te){i:Nat}
  (n:X.N.Nodup) (K:X.N[i]?=TJ x) (f:ZO X.env.scope x) (w:X.fn x=TK\/X.env.scope.names.lookup x=TJ .local)
  (A:UQ (.ListComp E [(O,U,G,0)] Y B) (TJ<|.Name x L) pos.line X.env=Uo TK)
  (I:Inv X P σ H s) (h:gW (iU wi Q.length js (Zy X.K R) tc te) (cH i) D σ H):TU (TX X.prog X.w) X.A (exec (.Assign [.Name x L] (.ListComp E [(O,U,G,0)] Y B) pos) X.env) (SP X P D) X.xe s:=by
 rw[exec_Assign_Name_used _ _ _ _ A];refine ae<|jG ?_;rw[arm_evalThenUse_ListComp];have core:=M.core (use:=TJ<|VA (.Name x L) X.env) (QQ:=λ _ F=>SP X P D .next F) (fpos:=firstIterPos [(O,U,G,0)] B) (pos:=B) I h λ a C y g fl c zC v zS j zp (m,Z) q=>?_
 .refine ae<|ae<|Yw core λ _ F u=>?_;exact aq<|aq u
 .show TU (TX X.prog X.w) X.A (VA (.Name x L) X.env<|.ref a) _ X.xe y;show TU (TX X.prog X.w) X.A (do Vv L;bindName X.env x (.ref a)) _ X.xe y;refine ae<|jG ?_;refine bindName_ ?_;refine wq c n K f (show RelV (.ref a) (.ref a) from rfl) (λ s6 k T=>?_) w;obtain⟨b,sb,W⟩:=T
  have p:C≠b:=by
   rcases W with rfl|W
   .exact v
   .exact λ z=>j x b W z.symm
  refine HT λ S V=>?_;obtain⟨o,l,t,e,r⟩:=Z;refine V ?_;clear V S;refine(m,(o,l,t,(sb.2 C p).trans e,r),λ h' sc=>?_);exact(_,g,k.turned (t':=s6.toks) (it:=C) (λ d o nd e=>sc.extBut d o nd e) zC v (.inr zS) j zp,q)
end
def qA{V fv:List Str}{S:LA}:∃U,nz [] U/\∀(C:TQ) (T:List TQ) (s:TR) (H:Hp),XS (eU X (V++fv) Y S C T s H) N nm->PM (eU X (V++fv) Y S C T s H) U λ _ H K=>K TK H:=(tN,GG,λ _ _ _ _ _=>pm0)
theorem Lv{W fv:List Str}{t T A:Expr}(z:YC X J L Z B V)(d:XS X N nm)(y:A1 N nm D W fv E=TK)(K:PI X t T<|rW X.K J L Z k G)(v:m7 TL (W++fv) (cY nm D.names) U t=TK)(g:U.all (λ i=>decide<|i<W.length)=TK)(F:eh T=TK)
  (j:∀Y:Cx,YC Y J L Z B V->XS Y (W++fv) (cY nm D.names)->PE Y A (rE Y.K J L Z e)):PE X (.ListComp A [(t,T,[],0)] D M)<|rE X.K J L Z<|.comp W fv E U k G e:=by
 intro c s r H Q I h;obtain⟨m,S⟩:=lV I.ok d y;exact CmP.pe (z.calm,K,S,v,λ C b s H o=>j _ (lW z) o,qA,F) I<|zN z.hJ (λ i K=>au<|gJ.mp g i K) h
theorem Lw{T fv:List Str}{t W K A:Expr}(F:YC X J U Z B V)(r:XS X N nm)(g:A1 N nm D T fv E=TK)(z:PI X t W<|rW X.K J U Z k G)(d:m7 TL (T++fv) (cY nm D.names) L t=TK)(b:L.all (λ i=>decide<|i<T.length)=TK)(y:eh W=TK)
  (o:∀Y:Cx,YC Y J U Z B V->XS Y (T++fv) (cY nm D.names)->PT Y A (rT Y.K J U Z c)) (m:∀Y:Cx,YC Y J U Z B V->XS Y (T++fv) (cY nm D.names)->PE Y K (rE Y.K J U Z e)):PE X (.ListComp K [(t,W,[A],0)] D M)<|rE X.K J U Z<|.compI T fv E L k G c e:=by
 intro p s n H Q I h;obtain⟨l,S⟩:=lV I.ok r g;exact CmP.pe (F.calm,z,S,d,λ C j s H v=>m _ (lW F) v,(_,ym,λ C j s H v=>P3 rfl<|o _ (lW F) v),y) I<|zP F.hJ (λ i z=>au<|gJ.mp b i z) h
def Lx{V:List Expr}(h:V.all aM=TK):(UD U<|Ud V Y).all (λ x=>!x.1)=TK:=by
 unfold UD;rw[XZ];have:=uN (env:=Y) h;rw[List.all_eq_not_any_not];simpa using this
theorem lX{e:Expr}{es:List Expr}(h:(e::es).all aM=TK)(V:(e::es).length<20) :
  ((UD cp<|Ud (e::es) env).all (λ x=>!x.1)&&(Yd cp<|WH [] env).all (λ x=>x.1.isSome)&&decide ((e::es).length+([]:List VU).length+(if ([]:List VU).isEmpty then 0 else 1)<30))=TK:=by
 rw[Lx h,bq,bq];refine((on,on),?_);simp only[List.isEmpty_nil,fW,Wf];exact bC BT
theorem Ly{i f:Nat}{a:Expr}{y:List Expr}(xo:YC X J Y Z O V)(n:XS X N nm)(hf:f=O.length)(C:N[i]?=TJ x)(u:vs nm x=TK)(h:Zd x=TK)(ha:PA X (a::y)<|rA X.K J Y Z l)(hs:aM a=TK)(d:y.all aM=TK) :
  PE X (.Call (.Name x p) (a::y) [] pos)<|rE X.K J Y Z<|.ap i f l:=by
 subst hf;intro G s σ H Q I (F,U,m,K,w);refine HT λ W T=>?_;obtain⟨S,K⟩:=iQ.mp K;obtain⟨E,M,_⟩:=cZ h;obtain⟨j,g,w⟩:=uz (show u5 U[i]? _ from w);obtain⟨v,e,rfl,fv⟩:=m.sl i _ g;obtain⟨k,hr,hc⟩:=(xo.hof S K).ap;refine T ?_;clear T W;refine IY (k:=k) (i:=i) hr (by rw[n.N];exact C) (jp n u) ha E M (aV hs) (dP d) G s σ H Q I (j,e,fv,F,U,m,bE l (λ ts w F1 o us b r1=>?_) w);refine HT λ W T=>?_;obtain⟨hn,P,⟨S',c,sp⟩,w⟩:=w;refine T ?_;clear T W;rw[K] at c;cases c;obtain⟨D,r,_,r2⟩:=gO b r1 hn;have A:FnV o j:=let ⟨φ,q,kf⟩:=fv;(φ,b.sm _ _ (λ ps z=>by cases z) q,kf);exact(A,hc j _ us P D o Q r.w A r2 sp λ t pt L B v R r'=>w t pt L B v (r.trans R)<|Rr.of r')
theorem Lz{i f:Nat}(xo:YC X J Y Z O V)(m:XS X N nm)(hf:f=O.length)(hg:Gl X x)(hd:(x == ("__debug__" : Str))=TL)(C:N[i]?=TJ z)(h:vs nm z=TK)(h3:Zd z=TK)(hc:PE X u<|rE X.K J Y Z c)(o:aM u=TK) :
  PE X (.Call (.Name x p) [u,.Name z q] [] pos)<|rE X.K J Y Z<|.cf i f x c:=by
 subst hf;intro L s e H Q I (F,b,j,(S,y,sx),w);refine HT λ W T=>?_;obtain⟨B,G,_⟩:=cZ h3;obtain⟨k,ps,hr,D⟩:=(xo.hof S y).cf x sx;obtain⟨M,A,w⟩:=uz (show u5 b[i]? _ from w);refine T ?_;clear T W;refine nC D hr hg nq (bK hc (bK (eO (pos:=q) (by rw[m.N];exact C) (jp m h) B G) pa_nil rfl)<|aV o) hd (aV o) rfl L s e H Q I ?_;refine(F,b,j,aj c (λ t w F1 U v g r=>?_) w);refine HT λ W T=>?_;obtain⟨v2,E,rfl,fv⟩:=(j.grow g).sl i _ A;obtain⟨hn,P,⟨S',K,sp⟩,w⟩:=w;refine T ?_;clear T W;rw[y] at K;cases K;refine HT λ W T=>?_;obtain⟨n,d,_,_,r2⟩:=r.frz g hn;refine T ?_;clear T W;show bL i e U _;unfold bL;rw[E];exact(n,M,[t.fz],[v],P,on,d.w,fv,(v,[],on,r2,on),sp,λ t pt l a v' R r'=>w t pt l a v' (d.trans R)<|Rr.of r')
def LB(h:PE X e<|rE X.K J Y Z c)(N:∀V,isTrue e X.env V=(do let v <- V;Vv e.pos;Va [v] (truthy v))):PT X e (rT X.K J Y Z c) :=
 (si h N).imp λ z H Q (F,K,W,w)=>(F,K,W,aj c (λ t w S T v g r=>by
  obtain⟨b,e,A⟩:=jd w;subst e;cases r
  exact A S T g) w)
def LC{o:Vx}(s:YC X J Y Z U V)(g:PE X l<|rE X.K J Y Z a)(d:PE X r<|rE X.K J Y Z b)(c:eh r=TK):PT X (.Compare l [o] [r] p) (rT X.K J Y Z<|.cmp o a b) :=
 (Fs (lM s.units o) g d<|uR c).imp λ n H Q (F,A,N,w)=>(F,A,N,aj a (λ x w K i v S k=>(K,A,N.grow S,aj b (λ y w W j t T r2=>(F,H,W,x,y,S.trans T,k.grow T,r2.late S,iw (λ z w v r=>by
  obtain⟨b,e,m⟩:=jd w;subst e;cases r
  exact m W j<|S.trans T) w)) w)) w)
def LD{o K:Vx}(m:YC X J Y Z C V)(L:PE X l<|rE X.K J Y Z a)(D:PE X r<|rE X.K J Y Z b)(B:PE X U<|rE X.K J Y Z c)(G:eh U=TK):PT X (.Compare l [o,K] [r,U] p) (rT X.K J Y Z<|.cm2 o K a b c) :=
 (Fv (lM m.units o) (lM m.units K) L D B<|zF G).imp λ h H Q (F,g,N,w)=>(F,g,N,aj a (λ x w s R v S E=>(s,g,N.grow S,aj b (λ y w W i P T r2=>(F,H,W,x,y,S.trans T,E.grow T,r2.late S,iw (λ z w q M=>by
  obtain⟨k,n,j⟩:=jd w;subst n;cases M;refine(k,on,?_);split at j
  .rw[U0<|by assumption]
   exact(W,g,(N.grow S).grow T,aj c (λ z w d t f A I=>(F,H,d,y,z,(S.trans T).trans A,(r2.late S).grow A,I.late<|S.trans T,iw (λ u w v r=>by
    obtain⟨b,e,O⟩:=jd w;subst e;cases r
    exact O d t<|(S.trans T).trans A) w)) j)
  .rw[T9<|by assumption];exact j W i<|S.trans T) w)) w)) w)
def LG(W:PT X l<|rT X.K J Y Z a):PT X (.UnaryOp .Not l p) (rT X.K J Y Z<|.not a) :=
 (sj W).imp (by rintro A H Q ⟨F,N,T,w⟩;exact (F,N,T,aj a (λ x w=>cI (λ b w V S g=>w V S g) w) w))
def zQ{l r:Expr}{rest:List Expr}(g:PT X l<|rT X.K J Y Z a)(d:PW X (.BoolOp .And (r::rest) p)<|rT X.K J Y Z b):PW X (.BoolOp .And (l::r::rest) p)<|rT X.K J Y Z<|.and a b:=by
 intro o v s c H Q I q;refine Er g d o v s c H Q I ?_;obtain⟨F,N,W,w⟩:=q;refine(F,N,W,aj a (λ x w=>cI (λ k S T K V=>?_) w) w);split at S
 .rw[U0<|by assumption];exact(T,N,W.grow V,aj b (λ y w=>cI (λ k w A z j=>w A z<|V.trans j) w) S)
 .rw[T9<|by assumption];exact S T K V
def zR{l r:Expr}{rest:List Expr}(g:PT X l<|rT X.K J Y Z a)(d:PW X (.BoolOp .Or (r::rest) p)<|rT X.K J Y Z b):PW X (.BoolOp .Or (l::r::rest) p)<|rT X.K J Y Z<|.or a b:=by
 intro o v s c H Q I q;refine wz g d o v s c H Q I ?_;obtain⟨F,N,W,w⟩:=q;refine(F,N,W,aj a (λ x w=>cI (λ k S T K V=>?_) w) w);split at S
 .rw[U0<|by assumption];exact S T K V
 .rw[T9<|by assumption];exact(T,N,W.grow V,aj b (λ y w=>cI (λ k w A z j=>w A z<|V.trans j) w) S)
def LJ(h:lP c=TK):c=.c .non:=by
 cases c with
 |c t=>cases t<;>first|rfl|exact TN h
 |_=>exact TN h
def zU{lo:Cd}(h:lP lo=TK):PO X TM λ V H Q=>∃F Y,EV X.K J F H V Y/\wE U Z lo Y λ t=>oI t λ o=>∀T S,Grow J F H T S->Q o S:=by
 intro W s V H Q I q;obtain⟨F,Y,N,w⟩:=q;have e:=LJ h;subst e;exact FS W s V H Q I<|w F H<|.refl N.w
def zV{lo:Cd}(j:PE X e<|rE X.K J U Z lo):PO X (TJ e) λ S H Q=>∃F Y,EV X.K J F H S Y/\wE U Z lo Y λ t=>oI t λ o=>∀K W,Grow J F H K W->Q o W:=by
 intro z s S H Q I q;obtain⟨F,Y,y,w⟩:=q;rw[evalPart_some];refine Yw (j z s S H (λ x V=>(x=.non/\Q TM V)\/∃i,x=.int i/\Q (TJ i) V) I (F,Y,y,aj lo (λ t w T V v g r=>?_) w)) λ u s1 (x,V,N,A,d)=>?_
 .cases t with
  |non=>cases r;exact .inl (rfl,w T V g)
  |int i=>cases r;exact .inr (i,rfl,w T V g)
  |_=>exact w.elim
 .rcases d with ⟨rfl,q⟩|⟨i,rfl,q⟩
  .cases A;exact(TM,V,N,.none,q)
  .obtain⟨c,rfl⟩:=A;exact(TJ i,V,N,.int _ _,q)
end
def LK(h:zb c=TK):c=.nil:=by cases c<;>first|rfl|exact TN h
def zW(h:lU e=TK):∃Z k p,e=.Tuple Z k p:=by cases e<;>first|exact(_,_,_,rfl)|exact TN h
set_option tactic.hygienic true in
def LM(h:L4 e=TK)(V:Sem Value):isTrue e Z V=(do let v <- V;Vv e.pos;Va [v] (truthy v)):=by
 cases e<;>first|rfl|(exact TN h)|skip
 rename_i S _ _
 cases S<;>first|rfl|exact TN h
section
variable {Y Z:List Str}
def eG:∀ {r:Cd}{N:List Str}{S:List (Str×Uj)}{V:List Expr},ckL Y Z r N S V=TK->V.all aM=TK:=λ {r}=>by
 induction r with
 |nil=>intro N S V h;cases V with|nil=>rfl|cons e V=>exact TN h
 |cons a r _ A=>
  intro N S V h
  cases V with
  |nil=>exact TN h
  |cons e V=>
   obtain⟨T,W⟩:=an h;rw[cD,(an T).1,A W];rfl
 |_=>intro N S V h;exact TN h
def ka(h:ckI Y Z c k L N J U=TK):eh U=TK:=by
 cases c with
 |cons a r=>
  cases k with
  |seq=>exact(an (an h).1).1
  |str=>exact TN h
  |_=>exact cE h λ _ _ _ _ _=>rfl
 |_=>exact TN h
end
section
variable {J:Hp->Prop}{FT:List Yt}{GT:List TV}{fs gs:List Str}
abbrev BF(J:Hp->Prop)(FT:List Yt)(GT:List TV)(fs gs:List Str)(c:Cd)(R:Cx->Expr->Prop):Prop:=∀ {X:Cx}{N:List Str}{S:List (Str×Uj)}{T:BoolOp}{V:List Expr}{p:Pos},YC X J FT GT fs gs->XS X N S->ck fs gs c N S (.BoolOp T V p)=TK->R X (.BoolOp T V p)
structure SA (J:Hp->Prop)(FT:List Yt)(GT:List TV)(fs gs:List Str)(c:Cd):Prop where
 e:∀ {X:Cx}{N:List Str}{nm:List (Str×Uj)}{e:Expr},YC X J FT GT fs gs->XS X N nm->ck fs gs c N nm e=TK->PE X e (rE X.K J FT GT c)
 l:∀ {X:Cx}{N:List Str}{nm:List (Str×Uj)}{es:List Expr},YC X J FT GT fs gs->XS X N nm->ckL fs gs c N nm es=TK->PA X es (rA X.K J FT GT c)
 i:∀ {k:IK}{X:Cx}{N:List Str}{nm:List (Str×Uj)}{tg it:Expr},YC X J FT GT fs gs->XS X N nm->ckI fs gs c k tg N nm it=TK->PI X tg it (rW X.K J FT GT k c)
 t:∀ {X:Cx}{N:List Str}{nm:List (Str×Uj)}{e:Expr},YC X J FT GT fs gs->XS X N nm->tB' c e=TK->ck fs gs c N nm e=TK->PT X e (rT X.K J FT GT c)
 w:BF J FT GT fs gs c λ X e=>PW X e<|rT X.K J FT GT c
abbrev EF(J:Hp->Prop)(FT:List Yt)(GT:List TV)(fs gs:List Str)(c:Cd):Prop:=∀ {X:Cx}{N:List Str}{V:List (Str×Uj)}{e:Expr},YC X J FT GT fs gs->XS X N V->ck fs gs c N V e=TK->PE X e (rE X.K J FT GT c)
def SA.val(E:EF J FT GT fs gs c)(t:∀e,tB' c e=L4 e:=by intro;rfl)(l:autoParam (∀N V S,ckL fs gs c N V S=TL) My._auto_1)(i:autoParam (∀k A N V T,ckI fs gs c k A N V T=TL) My._auto_1)(w:autoParam (∀N V W S p,ck fs gs c N V (.BoolOp W S p)=TL) My._auto_1):SA J FT GT fs gs c :=
 (E,λ _ _ h=>by rw[l] at h;exact TN h,λ _ _ h=>by rw[i] at h;exact TN h,λ K F n h=>LB (E K F h) (LM<|by rw[<- t];exact n),λ _ _ h=>by rw[w] at h;exact TN h)
def SA.tst(E:EF J FT GT fs gs c)(T:∀ {X:Cx}{N:List Str}{V:List (Str×Uj)}{e:Expr},YC X J FT GT fs gs->XS X N V->ck fs gs c N V e=TK->PT X e (rT X.K J FT GT c))(l:autoParam (∀N V S,ckL fs gs c N V S=TL) My._auto_1)(i:autoParam (∀k K N V W,ckI fs gs c k K N V W=TL) My._auto_1)(w:autoParam (∀N V A S p,ck fs gs c N V (.BoolOp A S p)=TL) My._auto_1):SA J FT GT fs gs c :=
 (E,λ _ _ h=>by rw[l] at h;exact TN h,λ _ _ h=>by rw[i] at h;exact TN h,λ F z _ h=>T F z h,λ _ _ h=>by rw[w] at h;exact TN h)
def LN(h:ze f=TK):f=.isI\/f=.isB\/f=.isT\/f=.isL\/f=.isS:=by cases f<;>first|exact TN h|simp
theorem SA.bo(W:BF J FT GT fs gs c λ X e=>PW X e<|rT X.K J FT GT c)(E:BF J FT GT fs gs c λ X e=>PE X e<|rE X.K J FT GT c)
  (o:∀ {N V e},ck fs gs c N V e=TK->∃Y Z p,e=.BoolOp Y Z p) (l:autoParam (∀N V Z,ckL fs gs c N V Z=TL) My._auto_1) (i:autoParam (∀k K N V A,ckI fs gs c k K N V A=TL) My._auto_1):SA J FT GT fs gs c :=
 (λ S T h=>let ⟨_,_,_,e⟩:=o h;by subst e;exact E S T h,λ _ _ h=>by rw[l] at h;exact TN h,λ _ _ h=>by rw[i] at h;exact TN h,λ S T _ h=>let ⟨_,_,_,e⟩:=o h;by subst e;exact(W S T h).pt,W)
set_option tactic.hygienic true in
def sA(J:Hp->Prop)(FT:List Yt)(GT:List TV)(fs gs:List Str)(c:Cd):SA J FT GT fs gs c:=by
 induction c with
 |v i=>exact .val λ xo V h=>s_v V h
 |c t=>exact .val λ xo V h=>s_c h
 |g k=>exact .val λ xo V h=>s_g xo V h
 |bin o a b W n=>
  refine .val λ {X N d e} xo V h=>?_;refine KG h λ l C r p k1=>?_;obtain⟨F,K,A⟩:=a3 k1;cases au F;exact KS xo (W.e xo V K)<|n.e xo V A
 |neg a W=>
  refine .val λ {X N d e} xo V h=>?_;refine zk h λ C x p k1=>?_;cases au (an k1).1;exact KY<|W.e xo V (an k1).2
 |not a W=>
  refine .tst (λ {X N d e} xo V h=>?_) λ {X N d e} xo V h=>?_
  all_goals
   refine zk h λ C x p k1=>?_;obtain⟨F,K,A⟩:=a3 k1;cases au F
  .exact KZ<|W.e xo V A
  .exact LG<|W.t xo V K A
 |cmp o a b W n=>
  refine .tst (λ {X N d e} xo V h=>?_) λ {X N d e} xo V h=>?_
  all_goals
   refine zm h λ l os rs p k1=>?_;refine dD k1 λ C m=>?_;refine dD m λ r Z=>?_;obtain⟨F,K,A,j⟩:=a4 Z;cases au F
  .exact KU xo (W.e xo V K) (n.e xo V A) j
  .exact LC xo (W.e xo V K) (n.e xo V A) j
 |cm2 o o' a b c W n I=>
  refine .tst (λ {X N d e} xo V h=>?_) λ {X N d e} xo V h=>?_
  all_goals
   refine zm h λ l os rs p k1=>?_;refine iz k1 λ C op' m=>?_;refine iz m λ r r' Z=>?_;refine HT λ T S=>?_;obtain⟨F,K,A,j,s,D⟩:=a6 Z;refine S ?_;clear S T;cases au F;cases au K
  .exact La xo (W.e xo V A) (n.e xo V j) (I.e xo V s) D
  .exact LD xo (W.e xo V A) (n.e xo V j) (I.e xo V s) D
 |and a b W n|or a b W n=>
  refine .bo (λ xo V h=>?_) (λ xo V h=>?_) λ h=>let ⟨C,es,p,e,_⟩:=KH h;(C,es,p,e)
  all_goals
   obtain⟨g,P⟩:=an h;cases au g;rename_i es _
   rcases es with _|⟨x,_|⟨y,_|⟨z,r⟩⟩⟩<;>try exact TN P
  .obtain⟨B,R,h3,h4⟩:=a4 P;first|exact zQ (W.t xo V B h3) (Ep<|n.t xo V R h4)|exact zR (W.t xo V B h3)<|wy<|n.t xo V R h4
  .obtain⟨B,h3,h4⟩:=a3 P;first|exact zQ (W.t xo V B h3) (n.w xo V h4)|exact zR (W.t xo V B h3)<|n.w xo V h4
  .obtain⟨B,R,h3,h4⟩:=a4 P;first|exact zH (W.e xo V h3) (su<|n.e xo V h4)|exact zI (W.e xo V h3)<|su<|n.e xo V h4
  .obtain⟨B,h3,h4⟩:=a3 P;first|exact zH (W.e xo V h3) (n.e xo V h4)|exact zI (W.e xo V h3)<|n.e xo V h4
 |ite c a b I W n=>
  refine .val λ {X N d e} xo V h=>?_;refine KJ h λ x y z p k1=>?_;obtain⟨F,K,A,j⟩:=a4 k1;exact Lb (I.t xo V F K) (W.e xo V A)<|n.e xo V j
 |nil=>
  refine(λ _ _ h=>TN h,λ {X N d es} xo V h=>?_,λ _ _ h=>TN h,λ _ _ _ h=>TN h,λ _ _ h=>TN h)
  cases es with
  |nil=>exact Lc
  |cons e es=>exact TN h
 |cons a r W ir=>
  refine(λ _ _ h=>TN h,λ {X N d es} xo V h=>?_,λ {k X N d tg it} xo V h=>?_,λ _ _ _ h=>TN h,λ _ _ h=>TN h)
  .cases es with
   |nil=>exact TN h
   |cons e es=>
    obtain⟨B,h3⟩:=an h;obtain⟨B,R⟩:=an B;exact zJ (W.e xo V R) (ir.l xo V h3) B
  .have call:∀ {x:Str}{p:Pos}{e:Expr}{es:List Expr}{U:Pos},decide (B9 k=TJ (x,es.length))=TK->gl d x=TK->(!F5 k || lU tg)=TK->aM e=TK->ck fs gs a N d e=TK->ckL fs gs r N d es=TK->PI X tg (.Call (.Name x p) (e::es) [] U) (rW X.K J FT GT k<|.cons a r):=by
    intro x p e es U B R h3 h4 h5 h6;have hk:=au B;have he:=W.e xo V h5;have hr:=ir.l xo V h6;have st:=eG h6;have g:=Zg V R
    have n0:es=[]->r=.nil:=λ z=>by subst z;cases r<;>first|rfl|exact TN h6
    cases k<;>first|(cases hk;done)|(simp only[B9,Option.some.injEq,Prod.mk.injEq] at hk;obtain⟨rfl,hk⟩:=hk)|skip
    case rng=>
     cases nR hk.symm;cases n0 rfl;exact Lo xo g h4 he
    case rng3=>
     match es,hk with
     |[y,z],_=>exact Lq xo g h4 (by simp at st;exact st.1) (by simp at st;exact st.2)<|zJ he hr h4
    case enum c=>
     obtain⟨tes,tk,tp,rfl⟩:=zW (show lU tg=TK by simpa [F5] using h3);cases nR hk.symm;cases n0 rfl;exact Lr xo g h4 he
    case rev c=>
     cases c<;>try (cases hk;done)
     simp only[B9,Option.some.injEq,Prod.mk.injEq] at hk;obtain⟨rfl,hk⟩:=hk;cases nR hk.symm;cases n0 rfl;exact Lu xo g h4 he
   have arg:(cr it λ g E w _=>be g λ x _=>cC E λ e es=>w.isEmpty&&decide (B9 k=TJ (x,es.length))&&gl d x&&(!F5 k || lU tg)&&aM e&&ck fs gs a N d e&&ckL fs gs r N d es)=TK->PI X tg it (rW X.K J FT GT k<|.cons a r):=λ h=>by
    refine cE h λ g E w U k1=>?_;refine aU k1 λ x p m=>?_;refine dO m λ e es Z=>?_;refine HT λ T S=>?_;obtain⟨L,F,K,A,j,s,D⟩:=a7 Z;refine S ?_;clear S T;refine bQ L ?_;exact call F K A j s D
   cases k with
   |seq=>
    obtain⟨B,h3⟩:=an h;cases LK (an B).2;exact Lm<|W.e xo V h3
   |str=>exact TN h
   |_=>exact arg h
 |tup l G=>
  refine .val λ {X N d e} xo V h=>?_;refine jX h λ es _ _ k1=>?_;exact Ld xo<|G.l xo V k1
 |lst l G=>
  refine .val λ {X N d e} xo V h=>?_;refine zq h λ es _ k1=>?_;exact Le xo<|G.l xo V k1
 |ix a b W n=>
  refine .val λ {X N d e} xo V h=>?_;refine lT h λ x y p k1=>?_;obtain⟨F,K,A⟩:=a3 k1;exact KW (W.e xo V K) (n.e xo V A) F
 |sl a lo hi W G ih=>
  refine .val λ {X N d e} xo V h=>?_;refine lT h λ x y p k1=>?_;refine KL k1 λ l u st q m=>?_;obtain⟨L,F,K,A⟩:=a4 m;cases lY.mp L;refine Lf xo (W.e xo V F) ?_ ?_
  .cases l with
   |none=>exact zU K
   |some l=>exact zV<|G.e xo V (an K).1
  .cases u with
   |none=>exact zU A
   |some u=>exact zV<|ih.e xo V (an A).1
 |call f l G=>
  refine .val λ {X N d e} xo V h=>?_;refine cE h λ Q E w U k1=>?_;refine aU k1 λ x p m=>?_;refine dO m λ a es Z=>?_;refine HT λ T S=>?_;obtain⟨L,F,K,A,j⟩:=a5 Z;refine S ?_;clear S T;refine bQ L ?_;have st:=eG j;rw[cD,bq] at st;exact Lg xo (au F) (Zg V K) (cZ A).1 (G.l xo V j) st.1 st.2
 |bi f l G=>
  refine .val λ {X N d e} xo V h=>?_;refine cE h λ Q E w U k1=>?_;refine aU k1 λ x p m=>?_;refine dO m λ a es Z=>?_;obtain⟨L,F,K,j⟩:=a4 Z;refine bQ L ?_;have st:=eG j;rw[cD,bq] at st;exact Lh xo (au F) (Zg V K) (G.l xo V j) st.1 st.2
 |isi f a W=>
  refine .val λ {X N d e} xo V h=>?_;refine cE h λ Q E w U k1=>?_;refine aU k1 λ x p m=>?_;refine iz m λ y u Z=>?_;refine aU Z λ z _ M=>?_;refine HT λ T S=>?_;obtain⟨L,F,K,A,j,s,D,H⟩:=a8 M;refine S ?_;clear S T;refine bQ L ?_;cases au F;exact Li xo (LN A) (au j) (Zg V K) (Zg V s) D<|W.e xo V H
 |mxl a b W n=>
  refine .val λ {X N d e} xo V h=>?_;refine cE h λ Q E w U k1=>?_;refine aU k1 λ x p m=>?_;refine iz m λ y z Z=>?_;refine HT λ T S=>?_;obtain⟨⟨kx,kv,kp⟩,rfl,M⟩:=jo Z;obtain⟨u,_,e1,k5⟩:=KF M;refine S ?_;clear S T;cases e1;refine HT λ T S=>?_;obtain⟨F,K,A,j,s,D,H,g8,g9⟩:=a9 k5;refine S ?_;clear S T;cases au F;cases au A;cases au j;exact Lj xo (Zg V K) (Zg V s) D H (W.e xo V g8)<|n.e xo V g9
 |trev k a W=>
  refine .val λ {X N d e} xo V h=>?_;refine cE h λ Q E w U k1=>?_;refine aU k1 λ x p m=>?_;refine dD m λ u Z=>?_;refine cE Z λ f'' as' w' pos' M=>?_;refine aU M λ y p' k5=>?_;refine dD k5 λ z k6=>?_;refine HT λ T S=>?_;obtain⟨L,O,F,K,A,j,s,D⟩:=a8 k6;refine S ?_;clear S T;refine bQ L ?_;refine bQ O ?_;cases au F;cases au A;exact Lk xo (Zg V K) (Zg V j) s<|W.e xo V D
 |ap i f l G=>
  refine .val λ {X N d e} xo V h=>?_;refine cE h λ Q E w U k1=>?_;refine aU k1 λ x p m=>?_;refine dO m λ a es Z=>?_;refine HT λ T S=>?_;obtain⟨L,F,K,A,j,s⟩:=a6 Z;refine S ?_;clear S T;refine bQ L ?_;have st:=eG s;rw[cD,bq] at st;exact Ly xo V (au F) (au K) A j (G.l xo V s) st.1 st.2
 |cf i f x c I=>
  refine .val λ {X N d e} xo V h=>?_;refine cE h λ Q E w U k1=>?_;refine aU k1 λ y p m=>?_;refine iz m λ u v Z=>?_;refine aU Z λ z q M=>?_;refine HT λ T S=>?_;obtain⟨L,F,K,A,j,s⟩:=a6 M;obtain⟨b0,b1,b2,b3,b4⟩:=a5 L;refine S ?_;clear S T;refine bQ b0 ?_;cases au b2;exact Lz xo V (au b1) (Zg V b3) (cZ b4).1 (au F) K A (I.e xo V s) j
 |lrng k a W=>
  refine .val λ {X N d e} xo V h=>?_;refine cE h λ Q E w U k1=>?_;refine aU k1 λ x p m=>?_;refine dD m λ u Z=>?_;refine cE Z λ f'' as' w' pos' M=>?_;refine aU M λ y p' k5=>?_;refine dD k5 λ z k6=>?_;refine HT λ T S=>?_;obtain⟨L,O,F,K,A,j,s,D⟩:=a8 k6;refine S ?_;clear S T;refine bQ (an L).1 ?_;refine bQ O ?_;cases au F;cases au A;exact Ll (k:=k) (an L).2 xo (Zg V K) (Zg V j) s<|W.e xo V D
 |dk k a W=>
  refine .val λ {X N d e} xo V h=>?_;refine lT h λ o y p k1=>?_;refine aU k1 λ x q m=>?_;obtain⟨F,K,A,j,s⟩:=a5 m;exact KR xo V (au F) K A j<|W.e xo V s
 |comp own fv js tg k it e ii ie=>
  refine .val λ {X N d x} xo V h=>?_;refine HT λ T S=>?_;obtain⟨elt,gn,sc,p,rfl,k1⟩:=uM h;obtain⟨⟨t,iter,ifs,z⟩,rfl,m⟩:=jo k1;obtain⟨L,F,K,A,j,s,D⟩:=a7 m;refine S ?_;clear S T;cases (show ifs=[] from qB.mp L);cases au F;exact Lv xo V K (ii.i xo V A) j s (ka A) λ Y yo ys=>ie.e yo ys D
 |compI own fv js tg k it c e ii I ie=>
  refine .val λ {X N d x} xo V h=>?_;refine HT λ T S=>?_;obtain⟨elt,gn,sc,p,rfl,k1⟩:=uM h;obtain⟨⟨t,iter,ifs,z⟩,rfl,m⟩:=jo k1;obtain⟨cnd,e1,Z⟩:=jo m;refine S ?_;clear S T;cases e1;refine HT λ T S=>?_;obtain⟨F,K,A,j,s,D,H,g8⟩:=a8 Z;refine S ?_;clear S T;cases au F;exact Lw xo V K (ii.i xo V A) j s (ka A) (λ Y yo ys=>I.t yo ys D H) λ Y yo ys=>ie.e yo ys g8
def sE(c:Cd)(V:YC X J FT GT fs gs)(S:XS X N Z)(h:ck fs gs c N Z e=TK):PE X e<|rE X.K J FT GT c:=(sA J FT GT fs gs c).e V S h
def sL(c:Cd)(V:YC X J FT GT fs gs)(S:XS X N Y)(h:ckL fs gs c N Y Z=TK):PA X Z<|rA X.K J FT GT c:=(sA J FT GT fs gs c).l V S h
def sI(c:Cd)(k:IK)(V:YC X J FT GT fs gs)(S:XS X N Y)(h:ckI fs gs c k U N Y Z=TK):PI X U Z<|rW X.K J FT GT k c:=(sA J FT GT fs gs c).i V S h
def sT(c:Cd)(V:YC X J FT GT fs gs)(S:XS X N Z)(n:tB' c e=TK)(h:ck fs gs c N Z e=TK):PT X e<|rT X.K J FT GT c:=(sA J FT GT fs gs c).t V S n h
end
inductive MM where
 |append|insert|extend (t:Bool)|pop
noncomputable def MM.ctorIdx(t:MM):Nat:=t.casesOn 0 1 (λ _=>2) 3
inductive Ct where
 |nil|never|ret (c:Cd)|doc (r:Ct)
 |set (i:Nat) (c:Cd) (r:Ct)|sets (is:List Nat) (c:Cd) (r:Ct)|fz (i:Nat) (r:Ct)|ex (c:Cd) (r:Ct)
 |met (m:MM) (i:Nat) (l:Cd) (r:Ct)|put (i:Nat) (c d:Cd) (r:Ct)
 |ite (c:Cd) (a b r:Ct)|«for» (tg:List Nat) (k:IK) (it:Cd) (b r:Ct)
 |nl (i:Nat) (own:List Str) (k:IK) (it:Cd) (r:Ct)|pu (i j:Nat) (e:Cd) (r:Ct)|fu (i:Nat) (r:Ct)|xl (i f:Nat) (l:Cd) (r:Ct)
noncomputable def Ct.ctorIdx(t:Ct):Nat:=t.casesOn 0 1 (λ _=>2) (λ _=>3) (λ _ _ _=>4) (λ _ _ _=>5) (λ _ _=>6) (λ _ _=>7) (λ _ _ _ _=>8) (λ _ _ _ _=>9) (λ _ _ _ _=>10) (λ _ _ _ _ _=>11) (λ _ _ _ _ _=>12) (λ _ _ _ _=>13) (λ _ _=>14) (λ _ _ _ _=>15)
noncomputable def u7(V:En)(i:Nat):En:=match V[i]? with|some (TJ<|.own l)=>V.set i (TJ<|.lst l)|_=>V
def fzC:Cd->En->En
 |.v i,V=>u7 V i
 |_,V=>V
def fzV:Cd->En->En
 |.cons a r,V=>fzV r (fzC a V)
 |_,V=>V
def f8(b:TV->En->(En->Prop)->Prop):List TV->En->(En->Prop)->Prop
 |[],V,K=>K V
 |t::r,V,K=>b t V λ S=>f8 b r S K
def C6(s:Option<|Option TV)(P:List TQ->List (LL)->Prop):Prop:=match s with|some (TJ<|.obj<|.lls V S)=>P V S|_=>False
def F7(s:Option<|Option TV)(P:Int->Prop):Prop:=match s with|some (TJ<|.int k)=>P k|_=>False
noncomputable def uV(V:En):Bool:=V.all λ s=>match s with|some (.obj<|.lls _ _)=>TL|_=>TK
def uW(q:C6 s P):∃Z Y,s=TJ (TJ<|.obj<|.lls Z Y)/\P Z Y:=by
 rcases s with _|_|t
 .exact q.elim
 .exact q.elim
 .cases t with
  |obj o=>cases o<;>first|exact(_,_,rfl,q)|exact q.elim
  |_=>exact q.elim
def zX(q:F7 s P):∃k,s=TJ (TJ<|.int k)/\P k:=by
 rcases s with _|_|t
 .exact q.elim
 .exact q.elim
 .cases t<;>first|exact(_,rfl,q)|exact q.elim
def zY{P T:List TQ->List (LL)->Prop}(h:∀V S,P V S->T V S)(q:C6 s P):C6 s T:=by
 obtain⟨V,S,e,p⟩:=uW q;subst e;exact h V S p
def LP{P V:Int->Prop}(h:∀k,P k->V k)(q:F7 s P):F7 s V:=by
 obtain⟨k,e,p⟩:=zX q;subst e;exact h k p
def gc(s:Option<|Option TV)(P:List TV->Prop):Prop:=match s with|some (TJ<|.own l)=>P l|_=>False
def A2(m:MM)(l:List TV)(V:List TV)(K:TV->List TV->Prop):Prop:=match m,V with
 |.append,[t]=>t.nb=TK/\l.length<TW/\K .non (l++[t.fz])
 |.insert,[u,t]=>i1 u λ i=>t.nb=TK/\(0<=i/\i<=l.length)/\l.length<TW/\K .non (l.take i.toNat++t.fz::l.drop i.toNat)
 |.extend b,[t]=>t.nb=TK/\k1 b t λ m=>l.length+m.length<=TW/\K .non (l++m)
 |.pop,[]=>∃y,l[l.length-1]?=TJ y/\K y l.dropLast
 |.pop,[u]=>i1 u λ i=>(-(2 ^ 63)<=i/\i<2 ^ 63)/\∃k y,Wh i l.length=TJ k/\l[k]?=TJ y/\K y (l.eraseIdx k)
 |_,_=>False
section
variable (Z:List Yt)(Y:List TV)
def wS:Ct->En->(En->Prop)->(TV->Prop)->Prop
 |.nil,V,W,_=>W V
 |.never,_,_,_=>False
 |.ret c,V,_,T=>wE Z Y c (fzC c V) λ t=>t.nb=TK/\T t.fz
 |.set i c r,V,W,T=>wE Z Y c (fzC c V) λ t=>t.nb=TK/\wS r ((fzC c V).set i<|TJ t) W T
 |.sets s c r,V,W,T=>wE Z Y c V λ t=>(match t with|.tup _=>Zh V s t λ N=>wS r N W T|_=>False)
 |.fz i r,V,W,T=>wS r (u7 V i) W T
 |.doc r,V,W,T=>wS r V W T
 |.ex c r,V,W,T=>wE Z Y c V λ _=>wS r V W T
 |.met m i l r,V,W,T=>gc (fzV l V)[i]? λ z=>wL Z Y l (fzV l V) λ F=>A2 m z F λ _ w=>wS r ((fzV l V).set i<|TJ<|.own w) W T
 |.put i c d r,V,W,T=>gc (fzC d V)[i]? λ z=>wE Z Y d (fzC d V) λ t=>t.nb=TK/\wE Z Y c (fzC d V) λ u=>i1 u λ k=>∃n,b9 z.length k=TJ n/\wS r ((fzC d V).set i<|TJ<|.own<|z.set n t.fz) W T
 |.ite c a b r,V,W,T=>wE Z Y c V λ t=>b1 t λ k=>if k=TK then wS a V (λ N=>wS r N W T) T else wS b V (λ N=>wS r N W T) T
 |.for p k v b r,V,W,T=>wL Z Y v (fzV v V) λ F=>F.all TV.nb=TK/\l9 k F λ A=>f8 (λ t V K=>Zh V p t λ N=>wS b N K T) A (fzV v V) λ N=>wS r N W T
 |.nl i _ k v r,V,W,T=>uV V=TK/\wL Z Y v V λ F=>l9 k F λ A=>A.length<TW/\∀y:List TQ,y.Nodup->y.length=A.length->wS r (V.set i<|TJ<|.obj<|.lls y<|TY y.length []) W T
 |.pu i j e r,V,W,T=>C6 V[i]? λ y g=>F7 V[j]? λ k=>∃(n:Nat) (l:LL),k=n/\g[n]?=TJ l/\l.length<1000/\wE Z Y e V λ t=>∃o,t=kT o/\wS r (V.set i<|TJ<|.obj<|.lls y<|g.set n<|l++[o]) W T
 |.fu i r,V,W,T=>C6 V[i]? λ _ g=>wS r (V.set i<|TJ<|.lst<|g.map λ l=>.lst<|l.map kT) W T
 |.xl i f l r,V,W,T=>gc V[i]? λ z=>wL Z Y l V λ F=>∃P,(∃S,Z[f]?=TJ S/\S (F.map .fz) P)/\∀t,P t->∃m,t=.lst m/\(∀x∈m,LF x)/\z.length+m.length<=TW/\wS r (V.set i<|TJ<|.own<|z++m) W T
end
def nV{P V:List TV->Prop}(h:∀l,P l->V l)(q:gc s P):gc s V:=by
 unfold gc at *;split at q
 .exact h _ q
 .exact q.elim
def qC(q:gc s P):∃l,s=TJ (TJ<|.own l)/\P l:=by
 unfold gc at q;split at q
 .exact(_,on,q)
 .exact q.elim
def zZ{K V:TV->List TV->Prop}(h:∀y S,K y S->V y S)(q:A2 m l Z K):A2 m l Z V:=by
 rcases Z with _|⟨t,_|⟨u,_|⟨w,r⟩⟩⟩
 .cases m with
  |pop=>obtain⟨y,e,q⟩:=q;exact(y,e,h _ _ q)
  |_=>exact q.elim
 .cases m with
  |append=>exact(q.1,q.2.1,h _ _ q.2.2)
  |extend b=>exact(q.1,jb (λ m q=>(q.1,h _ _ q.2)) q.2)
  |pop=>exact gM (by rintro i ⟨c,k,y,e,f,q⟩;exact (c,k,y,e,f,h _ _ q)) q
  |_=>exact q.elim
 .cases m with
  |insert=>exact gM (by rintro i ⟨a,b,c,q⟩;exact (a,b,c,h _ _ q)) q
  |_=>exact q.elim
 .cases m<;>exact q.elim
section
variable {Z:List TV}
theorem bF:∀(c:Ct) {S:En}{A F:En->Prop}{T W:TV->Prop},(∀S,A S->F S)->(∀t,T t->W t)->wS Y Z c S A T->wS Y Z c S F W
 |.nil,_,_,_,_,_,h,_,q=>h _ q
 |.never,_,_,_,_,_,_,_,q=>q.elim
 |.ret c,_,_,_,_,_,_,g,q=>aj c (λ t q=>(q.1,g _ q.2)) q
 |.set i c r,_,_,_,_,_,h,g,q=>aj c (λ t q=>(q.1,bF r h g q.2)) q
 | .sets I c r,_,_,_,_,_,h,g,q=>aj c (λ t q=>by
   cases t with
   |tup l=>exact iy (λ V q=>bF r h g q) q
   |_=>exact q.elim) q
 |.fz i r,S,A,_,T,_,h,g,q=>bF r h g (show wS Y Z r (u7 S i) A T from q)
 |.doc r,S,A,_,T,_,h,g,q=>bF r h g (show wS Y Z r S A T from q)
 |.ex c r,_,_,_,_,_,h,g,q=>aj c (λ t q=>bF r h g q) q
 |.met m i l r,_,_,_,_,_,h,g,q=>nV (λ x q=>bE l (λ w q=>zZ (λ y Q q=>bF r h g q) q) q) q
 |.put i c d r,_,_,_,_,_,h,g,q=>nV (λ x q=>aj d (λ t q=>(q.1,aj c (λ u q=>gM (by rintro k ⟨n,e,q⟩;exact (n,e,bF r h g q)) q) q.2)) q) q
 | .ite c a b r,_,_,_,_,_,h,g,q=>aj c (λ t q=>cI (λ k q=>by
   split at q
   .rw[U0<|by assumption];exact bF a (λ S q=>bF r h g q) g q
   .rw[T9<|by assumption];exact bF b (λ S q=>bF r h g q) g q) q) q
 |.for v k s b r,_,A,F,T,W,h,g,q=>by
   refine bE s (λ w q=>(q.1,jc (λ p q=>?_) q.2)) q
   have e:∀(l:List TV) (S:En),f8 (λ t S K=>Zh S v t λ V=>wS Y Z b V K T) l S (λ V=>wS Y Z r V A T)->f8 (λ t S K=>Zh S v t λ V=>wS Y Z b V K W) l S (λ V=>wS Y Z r V F W):=by
    intro l
    induction l with
    |nil=>intro S q;exact bF r h g q
    |cons t l U=>
     intro S q;have q:Zh S v t λ V=>wS Y Z b V (λ N=>f8 (λ t S K=>Zh S v t λ V=>wS Y Z b V K T) l N λ V=>wS Y Z r V A T) T:=q;exact iy (λ V q=>bF b (λ N q=>U N q) g q) q
   exact e _ _ q
 |.nl i G k s r,_,_,_,_,_,h,g,q=>(q.1,bE s (λ w q=>jc (λ p q=>(q.1,λ o a b=>bF r h g<|q.2 o a b)) q) q.2)
 |.pu i j e r,_,_,_,_,_,h,g,q=>zY (λ o D q=>LP (by rintro k ⟨n,l,a,b,c,q⟩;exact (n,l,a,b,c,aj e (λ t (J,z,q)=>(J,z,bF r h g q)) q)) q) q
 |.fu i r,_,_,_,_,_,h,g,q=>zY (λ o D q=>bF r h g q) q
 |.xl i f l r,_,_,_,_,_,h,g,q=>nV (λ x q=>bE l (by rintro w ⟨P,M,q⟩;exact (P,M,λ t E=>let ⟨m,e,L,B,q⟩:=q t E;(m,e,L,B,bF r h g q))) q) q
end
def LLd(N:Hp)(K:St)(W:En):Prop:=∀(i:Nat) V A,W[i]?=TJ (TJ<|.obj<|.lls V A)->(∀a∈V,N a=TM)/\(∀(j:Nat) l a,W[j]?=TJ (TJ<|.own l)->K[j]?=TJ (TJ<|.ref a)->a ∉ V)/\∀(j:Nat) S T,W[j]?=TJ (TJ<|.obj<|.lls S T)->j=i
structure ER (K:FG)(J:Hp->Prop)(F0:Fz)(H0:Hp)(PN:List<|TV×V)(F:Fz)(H:Hp)(σ:St)(ρ:En):Prop where
 ev:EV K J F H σ ρ
 gr:Grow J F0 H0 F H
 nb:∀(i:Nat) l a,ρ[i]?=TJ (TJ<|.own l)->σ[i]?=TJ (TJ<|.ref a)->H0 a=TM
 di:∀(i k:Nat) l l' v,ρ[i]?=TJ (TJ<|.own l)->ρ[k]?=TJ (TJ<|.own l')->σ[i]?=TJ (TJ v)->σ[k]?=TJ (TJ v)->i=k
 pn:∀p∈PN,Rp K F H p.1 p.2
 ol:LLd H0 σ ρ
section
variable {K:FG}{J:Hp->Prop}{L F V:Fz}{U:Hp}{Y:St}{Z:En}
def ER.grow(e:ER K J L U B F H Y Z)(g:Grow J F H V D):ER K J L U B V D Y Z:=(e.ev.grow g,e.gr.trans g,e.nb,e.di,λ p S=>(e.pn p S).ke g.ke,e.ol)
def cP{Z:En}{i j:Nat}(h:(Z.set i<|TJ t)[j]?=TJ (TJ<|.own l)):(i=j/\t=.own l)\/(i≠j/\Z[j]?=TJ (TJ<|.own l)):=by
 rw[da] at h;split at h
 .rename_i c;split at h
  .cases h;exact .inl (c,rfl)
  .cases h
 .rename_i c;exact .inr (c,h)
def dE{Y:St}{i j:Nat}(n:i≠j):(Y.set i v)[j]?=Y[j]?:=by rw[da,T9 n]
def dQ{Z:En}{i j:Nat}(h:(Z.set i<|TJ t)[j]?=TJ (TJ u)):(i=j/\t=u)\/(i≠j/\Z[j]?=TJ (TJ u)):=by
 rw[da] at h;split at h
 .rename_i c;split at h
  .cases h;exact .inl (c,rfl)
  .cases h
 .rename_i c;exact .inr (c,h)
def LLd.set{t:TV}(h:LLd U Y Z)(o:∀l,t≠.own l)(V:∀S N,t≠.obj (.lls S N)):LLd U (Y.set i v)<|Z.set i<|TJ t:=λ k S N e=>by
 rcases dQ e with ⟨_,z⟩|⟨n,z⟩
 .exact U1 z<|V _ _
 .obtain⟨F,g,d⟩:=h k S N z;refine(F,λ j l a W K=>?_,λ j T A W=>?_)
  .rcases dQ W with ⟨_,y⟩|⟨m,y⟩
   .exact U1 y<|o _
   .rw[dE m] at K;exact g j l a y K
  .rcases dQ W with ⟨_,y⟩|⟨m,y⟩
   .exact U1 y<|V _ _
   .exact d j T A y
def LLd.sub{V:En}(h:LLd U Y Z)(o:∀(j:Nat) l,V[j]?=TJ (TJ<|.own l)->∃B,Z[j]?=TJ (TJ<|.own B))(v:∀(j:Nat) S K,V[j]?=TJ (TJ<|.obj<|.lls S K)->∃D,Z[j]?=TJ (TJ<|.obj<|.lls S D)):LLd U Y V:=λ k S K e=>by
 refine HT λ N W=>?_;obtain⟨F,g⟩:=v k S K e;obtain⟨c,m,b⟩:=h k S F g;refine W ?_;clear W N;exact(c,λ j l a A d=>let ⟨B,z⟩:=o j l A;m j B a z d,λ j T D A=>let ⟨y,z⟩:=v j T D A;b j T y z)
def ER.set{i:Nat}(e:ER K J L U D F H Y Z)(h:Rp K F H t v)(g:i<Y.length):ER K J L U D F H (Y.set i<|TJ v)<|Z.set i<|TJ t:=by
 have S:∀l,t≠.own l:=λ l z=>by subst z;exact h.elim
 refine(e.ev.set h g,e.gr,λ j l a T V=>?_,λ j k l y w T V N A=>?_,e.pn,e.ol.set S λ o c z=>by subst z;exact h.elim)
 .rcases cP T with ⟨_,z⟩|⟨n,z⟩
  .exact U1 z<|S l
  .rw[dE n] at V;exact e.nb j l a z V
 .rcases cP T with ⟨_,z⟩|⟨n,z⟩
  .exact U1 z<|S l
  .rcases cP V with ⟨_,W⟩|⟨d,W⟩
   .exact U1 W<|S y
   .rw[dE n] at N;rw[dE d] at A;exact e.di j k l y w z W N A
def ER.own{i:Nat}(e:ER K J L U PN F H Y Z)(g:Grow J F H V P)(h:Rr K H V P (.own l) v)(D:i<Y.length):ER K J L U PN V P (Y.set i<|TJ v)<|Z.set i<|TJ<|.own l:=by
 refine HT λ W S=>?_;obtain⟨a,vs,rfl,O,nf,q,r⟩:=h;refine S ?_;clear S W;have R:U a=TM:=e.gr.none O
 have B:∀(j:Nat) p,Z[j]?=TJ (TJ<|.own p)->Y[j]?≠TJ (TJ<|.ref a):=λ j p d T=>by
  refine HT λ W S=>?_;obtain⟨v,A,b,ws,rfl,_,qb,_⟩:=e.ev.sl j _ d;refine S ?_;clear S W;rw[T] at A;cases A;rw[O] at qb;cases qb
 have G:=e.grow g
 have E:LLd U (Y.set i<|TJ<|.ref a)<|Z.set i<|TJ<|.own l:=λ k as E z=>by
  rcases dQ z with ⟨_,y⟩|⟨n,z⟩
  .cases y
  .obtain⟨d,T,N⟩:=e.ol k as E z;refine(d,λ j p b A x=>?_,λ j M I A=>?_)
   .rcases dQ A with ⟨rfl,y⟩|⟨m,y⟩
    .rw[da] at x;simp[D] at x;subst x;intro hb;refine HT λ W S=>?_;obtain⟨v0,_,a0,_,_,_,hl,hh⟩:=e.ev.sl k _ z;obtain⟨u,X⟩:=kg hb;obtain⟨_,us,q',_⟩:=hh u a (E[u]'(by rw[<- hl];exact(aP.mp X).1)) X<|aZ _;refine S ?_;clear S W;rw[O] at q';cases q'
    .rw[dE m] at x;exact T j p b y x
   .rcases dQ A with ⟨_,y⟩|⟨m,y⟩
    .cases y
    .exact N j M I y
 refine((G.ev.w,λ j t s=>?_),G.gr,λ j p b d T=>?_,λ j k l1 f w d T N o=>?_,G.pn,E)
 .rw[da] at s;split at s
  .rename_i c;subst c;split at s
   .cases s;exact(.ref a,by rw[da];simp[D],a,vs,on,nf,q,r)
   .cases s
  .rename_i c;obtain⟨w,A,z⟩:=G.ev.sl j t s;exact(w,by rw[dE c];exact A,z)
 .rcases cP d with ⟨rfl,_⟩|⟨n,z⟩
  .rw[da] at T;simp[D] at T;subst T;exact R
  .rw[dE n] at T;exact e.nb j p b z T
 .rcases cP d with ⟨rfl,_⟩|⟨n,z⟩
  .rcases cP T with ⟨rfl,_⟩|⟨Q,C⟩
   .rfl
   .rw[da] at N;simp[D] at N;subst N;rw[dE Q] at o;exact U1 o<|B k f C
  .rcases cP T with ⟨rfl,_⟩|⟨Q,C⟩
   .rw[da] at o;simp[D] at o;subst o;rw[dE n] at N;exact U1 N<|B j l1 z
   .rw[dE n] at N;rw[dE Q] at o;exact e.di j k l1 f w z C N o
set_option tactic.hygienic true in
def ER.fz(e:ER K J L U I F H Y Z)(i:Nat):∃V,ER K J L U I V H Y (u7 Z i)/\∀a,F a->V a:=by
 unfold u7;split
 .rename_i l N;refine HT λ T S=>?_;obtain⟨v,ev,a,vs,rfl,nf,q,r⟩:=e.ev.sl i _ N;refine S ?_;clear S T;have na:U a=TM:=e.nb i l a N ev;have up:Ke K F H (λ b=>F b\/b=a) H:=.up λ _ f=>.inl f;have h:i<Y.length:=(aP.mp ev).1
  refine(λ b=>F b\/b=a,(((e.ev.w.j,λ b f=>?_),λ j t W=>?_),e.gr.frz na (by rw[q];simp),λ j A b g d=>?_,λ j k l1 l2 w g d C P=>?_,λ p u=>(e.pn p u).ke up,e.ol.sub (λ j A z=>by
   rcases cP z with ⟨_,y⟩|⟨_,y⟩
   .cases y
   .exact(_,y)) λ j B M z=>by
   rcases dQ z with ⟨_,y⟩|⟨_,y⟩
   .cases y
   .exact(_,y)),λ _ f=>.inl f)
  .rcases f with f|rfl
   .exact e.ev.w.d b f
   .rw[q];simp
  .rw[da] at W;split at W
   .rename_i c;subst c;split at W
    .cases W;exact(.ref a,ev,a,vs,rfl,.inl (.inr rfl,.of q),r.ke up)
    .cases W
   .rename_i c;obtain⟨w,G,z⟩:=e.ev.sl j t W;refine(w,G,?_)
    cases t with
    |own A=>
     refine HT λ T S=>?_;obtain⟨b,ws,rfl,s,q',r'⟩:=z;refine S ?_;clear S T;refine(b,ws,on,λ z=>?_,q',r'.ke up)
     rcases z with z|z
     .exact s z
     .subst z;exact c<|e.di i j l A _ N W ev G
    |obj o=>
     cases o with
     |lls B M=>
      refine HT λ T S=>?_;obtain⟨Q,O,l0,nd,m,X⟩:=z;refine S ?_;clear S T;refine(Q,O,up.l _ _ l0,nd,m,λ jj b ks E R=>?_);obtain⟨x,us,q2,r2⟩:=X jj b ks E R;refine(λ y=>?_,us,q2,r2.ke up)
      rcases y with y|y
      .exact x y
      .subst y;exact(e.ol j B M W).2.1 i l b N ev<|aH E
     |_=>exact z
    |_=>exact Rp.ke up z
  .rcases cP g with ⟨_,z⟩|⟨n,z⟩
   .cases z
   .exact e.nb j A b z d
  .rcases cP g with ⟨_,z⟩|⟨n,z⟩
   .cases z
   .rcases cP d with ⟨_,D⟩|⟨n',D⟩
    .cases D
    .exact e.di j k l1 l2 w z D C P
 .exact(F,e,λ _ f=>f)
def ER.fzC(e:ER K J L U D F H Y Z)(c:Cd):∃V,ER K J L U D V H Y (fzC c Z)/\∀a,F a->V a:=by
 cases c<;>first|exact e.fz _|exact(F,e,λ _ f=>f)
def ER.fzV(c:Cd):∀ {F:Fz}{Z:En},ER K J L U D F H Y Z->∃V,ER K J L U D V H Y (fzV c Z)/\∀a,F a->V a:=by
 induction c with
 |cons a r _ N=>
  intro F Z e;obtain⟨y,T,A⟩:=e.fzC a;obtain⟨S,W,z⟩:=N T;exact(S,W,λ b f=>z b<|A b f)
 |_=>intro F Z e;exact(F,e,λ _ f=>f)
def ER.mut(C:JS J){i:Nat}(e:ER K J L U PN F H Y Z)(h:Z[i]?=TJ (TJ<|.own l))(g:Y[i]?=TJ (TJ<|.ref a))(r:RpL K F H G D):ER K J L U PN F (Yu H a<|.lst D) Y (Z.set i<|TJ<|.own G)/\Ke K F H F (Yu H a<|.lst D):=by
 refine HT λ S V=>?_;obtain⟨v,ev,b,vs,rfl,nf,q,_⟩:=e.ev.sl i _ h;refine V ?_;clear V S;rw[g] at ev;cases ev;have X:U a=TM:=e.nb i l a h g
 have W:∀b,H b≠TM->Yu H a (.lst D) b≠TM:=λ b N=>by
  by_cases c:b=a
  .subst c;rw[bB];simp
  .rw[av c];exact N
 have rd:∀b u,(∀vs,u≠.lst vs)->Rd H b u->Rd (Yu H a<|.lst D) b u:=λ b u n h=>by
  rcases h with h|⟨o,h⟩
  .exact .inl (by rw[av λ z=>by subst z;rw[q] at h;cases h;exact n _ rfl];exact h)
  .exact .inr (o,by rw[av λ z=>by subst z;rw[q] at h;cases h];exact h)
 have ke:Ke K F H F<|Yu H a<|.lst D:=(λ b vs h=>by
  rcases h with h|h
  .exact .inl<|rd _ _ (λ _ z=>by cases z) h
  .exact .inr h,λ b vs h=>h.imp λ f h=>(f,by
  have x:b≠a:=λ z=>by subst z;exact nf f
  rcases h with h|h
  .refine .inl ?_
   rcases h with h|⟨o,h⟩
   .exact .inl (by rw[av x];exact h)
   .exact .inr (o,by rw[av x];exact h)
  .exact .inr h))
 have ilt:i<Z.length:=(aP.mp h).1
 refine((((C.mu H a vs D q e.ev.w.j,λ b f=>W b<|e.ev.w.d b f),λ j t A=>?_),(λ b o n N=>?_,λ b N=>W b<|e.gr.dm b N,e.gr.up,e.gr.nw,C.mu H a vs D q e.ev.w.j,λ b f=>W b<|e.ev.w.d b f),λ j l1 b m s=>?_,λ j k l1 l2 w m s h3 h4=>?_,λ p hp=>(e.pn p hp).ke ke,e.ol.sub (λ j l1 z=>by
   rcases cP z with ⟨rfl,_⟩|⟨_,y⟩
   .exact(l,h)
   .exact(_,y)) λ j Q P z=>by
   rcases dQ z with ⟨_,y⟩|⟨_,y⟩
   .cases y
   .exact(_,y)),ke)
 .rw[da] at A;split at A
  .rename_i c;subst c;cases A;exact(.ref a,g,a,D,on,nf,bB,r.ke ke)
  .rename_i c;obtain⟨w,O,z⟩:=e.ev.sl j t A;refine(w,O,?_)
   cases t with
   |own l1=>
    refine HT λ S V=>?_;obtain⟨b,I,rfl,E,T,r'⟩:=z;refine V ?_;clear V S;have x:b≠a:=λ z=>by subst z;exact c<|e.di i j l l1 _ h A g O
    exact(b,I,on,E,by rw[av x];exact T,r'.ke ke)
   |obj o=>
    cases o with
    |dct G=>obtain⟨b,d,T⟩:=z;exact(b,d,by rw[av λ z=>by subst z;rw[q] at T;cases T];exact T)
    |fn b=>obtain⟨d,φ,T,kf⟩:=z;exact(d,φ,by rw[av λ z=>by subst z;rw[q] at T;cases T];exact T,kf)
    |lls Q P=>
     refine HT λ S V=>?_;obtain⟨a0,d,l0,nd,B,hh⟩:=z;refine V ?_;clear V S;refine(a0,d,ke.l _ _ l0,nd,B,λ jj b ks R e4=>?_);obtain⟨M,I,q2,r2⟩:=hh jj b ks R e4;exact(M,I,by rw[av λ y=>by subst y;exact(e.ol j Q P A).2.1 i l b h g<|aH R];exact q2,r2.ke ke)
   |_=>exact Rp.ke ke z
 .rw[av λ z=>by subst z;rw[X] at N;cases N];exact e.gr.sm b o n N
 .rcases cP m with ⟨rfl,_⟩|⟨n,z⟩
  .rw[g] at s;cases s;exact X
  .exact e.nb j l1 b z s
 .have f:∀(j:Nat) (l:List TV),(Z.set i<|TJ<|TV.own G)[j]?=TJ (TJ<|TV.own l)->∃l,Z[j]?=TJ (TJ<|TV.own l):=λ j l1 m=>by
   rcases cP m with ⟨rfl,_⟩|⟨n,z⟩
   .exact(l,h)
   .exact(l1,z)
  obtain⟨m1,z1⟩:=f j l1 m;obtain⟨m2,z2⟩:=f k l2 s;exact e.di j k m1 m2 w z1 z2 h3 h4
end
noncomputable def L8:MM->Str
 |.append=> "append" |.insert=> "insert" |.extend TK=> "__name__" |.extend TL=> "extend" |.pop=> "pop"
noncomputable def v5:Expr->Bool
 |.ListComp ..=>TL|.SetComp ..=>TL|.DictComp ..=>TL|.Tuple ..=>TL|.List ..=>TL|_=>TK
noncomputable def v7(N:List Str)(V:List<|Str×Uj)(i:Nat)(x:Str):Bool:=decide (N[i]?=TJ x)&&(decide (V.lookup x=TJ .local) || decide (V.lookup x=TJ .cell))
def Q1(K F:List Str)(N:List Str)(T:List<|Str×Uj)(m:MM)(i:Nat)(l:Cd)(e:Expr):Bool:=cr e λ g S w A=>qv g λ o V W=>be o λ x _=>w.isEmpty&&decide (N[i]?=TJ x)&&vs T x&&Zd x&&decide (V=L8 m)&&decide (V ≠ "__name__" /\ W.endLine=A.line/\S.length<20)&&ckL K F l N T S
noncomputable def LQ:Const->Bool
 |.str _=>TK|_=>TL
noncomputable def m8(l:List Uc)(k:List Expr->Expr->Pos->List Uc->Bool):Bool:=match l with|.Assign x p q::l=>k x p q l|_=>TL
@[elab_as_elim] theorem jt{V:List Uc->Prop}{l:List Uc}{k:List Expr->Expr->Pos->List Uc->Bool}(h:m8 l k=TK)(f:∀x p q t,k x p q t=TK->V (.Assign x p q::t)):V l:=by
 cases l with
 |nil=>exact TN h
 |cons a t=>cases a<;>first|exact f _ _ _ _ h|exact TN h
noncomputable def F8(l:List Uc)(k:Option Expr->Pos->List Uc->Bool):Bool:=match l with|.Return x p::l=>k x p l|_=>TL
@[elab_as_elim] theorem qD{V:List Uc->Prop}{l:List Uc}{k:Option Expr->Pos->List Uc->Bool}(h:F8 l k=TK)(f:∀x p t,k x p t=TK->V (.Return x p::t)):V l:=by
 cases l with
 |nil=>exact TN h
 |cons a t=>cases a<;>first|exact f _ _ _ h|exact TN h
noncomputable def v9(l:List Uc)(k:Expr->Pos->List Uc->Bool):Bool:=match l with|.Expr x p::l=>k x p l|_=>TL
@[elab_as_elim] theorem lZ{V:List Uc->Prop}{l:List Uc}{k:Expr->Pos->List Uc->Bool}(h:v9 l k=TK)(f:∀x p t,k x p t=TK->V (.Expr x p::t)):V l:=by
 cases l with
 |nil=>exact TN h
 |cons a t=>cases a<;>first|exact f _ _ _ h|exact TN h
noncomputable def L9(l:List Uc)(k:Expr->List Uc->List Uc->Pos->List Uc->Bool):Bool:=match l with|.If x p q r::l=>k x p q r l|_=>TL
@[elab_as_elim] theorem Aa{V:List Uc->Prop}{l:List Uc}{k:Expr->List Uc->List Uc->Pos->List Uc->Bool}(h:L9 l k=TK)(f:∀x p q r t,k x p q r t=TK->V (.If x p q r::t)):V l:=by
 cases l with
 |nil=>exact TN h
 |cons a t=>cases a<;>first|exact f _ _ _ _ _ h|exact TN h
noncomputable def Q2(l:List Uc)(k:Expr->Expr->List Uc->List Uc->Pos->List Uc->Bool):Bool:=match l with|.For x p q r s::l=>k x p q r s l|_=>TL
@[elab_as_elim] theorem LR{V:List Uc->Prop}{l:List Uc}{k:Expr->Expr->List Uc->List Uc->Pos->List Uc->Bool}(h:Q2 l k=TK)(f:∀x p q r s t,k x p q r s t=TK->V (.For x p q r s::t)):V l:=by
 cases l with
 |nil=>exact TN h
 |cons a t=>cases a<;>first|exact f _ _ _ _ _ _ h|exact TN h
noncomputable def Q3(l:List Uc)(k:List Uc->List UB->List Uc->List Uc->Pos->List Uc->Bool):Bool:=match l with|.Try x p q r s::l=>k x p q r s l|_=>TL
def LS(h:Q3 l k=TK):∃x p q r s t,l=.Try x p q r s::t/\k x p q r s t=TK:=by
 cases l with
 |nil=>exact TN h
 |cons a t=>cases a<;>first|exact(_,_,_,_,_,_,rfl,h)|exact TN h
section
variable (Y U:List Str)(N:List Str)(Z:List<|Str×Uj)
def br:Bool->Ct->List Uc->Bool
 |_,.nil,V=>V.isEmpty
 |_,.never,_=>TK
 |_,.ret c,V=>F8 V λ e _ _=>(match e with|some e=>ck Y U c N Z e|none=>TL)
 |S,.set i c r,V=>m8 V λ W e _ rest=>c1 W λ t=>be t λ x _=>v7 N Z i x&&ck Y U c N Z e&&br S r rest
 |S,.sets E c r,V=>m8 V λ W e _ rest=>c1 W λ F=>m7 TK N Z E F&&lU F&&v5 e&&ck Y U c N Z e&&br S r rest
 |S,.fz _ r,V=>br S r V
 |S,.doc r,V=>v9 V λ e _ rest=>lQ e λ k _ _=>LQ k&&br S r rest
 |S,.ex c r,V=>v9 V λ e _ rest=>v5 e&&ck Y U c N Z e&&br S r rest
 |S,.met m i l r,V=>v9 V λ e _ rest=>Q1 Y U N Z m i l e&&br S r rest
 |S,.put i c d r,V=>m8 V λ W e _ rest=>c1 W λ t=>jY t λ o y _=>be o λ x _=>decide (N[i]?=TJ x)&&vs Z x&&Zd x&&jm y&&ck Y U c N Z y&&ck Y U d N Z e&&br S r rest
 |S,.ite c a b r,V=>L9 V λ t x y _ rest=>tB' c t&&ck Y U c N Z t&&br S a x&&br S b y&&br S r rest
 |S,.for F k L b r,V=>Q2 V λ t K A J _ rest=>J.isEmpty&&S&&m7 TK N Z F t&&ckI Y U L k t N Z K&&br S b A&&br S r rest
 |S,.nl i D k L r,V=>m8 V λ W e _ rest=>c1 W λ t=>be t λ x _=>v7 N Z i x&&ck Y U (.comp D [] [] [0] k L<|.lst .nil) N Z e&&br S r rest
 |S,.pu i j e r,V=>v9 V λ q _ rest=>cr q λ g p w n=>qv g λ o T s=>jY o λ u v _=>be u λ x _=>be v λ z _=>c1 p λ a=>(w.isEmpty&&decide (N[i]?=TJ x/\N[j]?=TJ z/\T="append" /\ s.endLine=n.line)&&vs Z x&&Zd x)&&vs Z z&&Zd z&&aM a&&ck Y U e N Z a&&br S r rest
 |S,.fu _ r,V=>br S r V
 |S,.xl i f l r,V=>v9 V λ q _ rest=>cr q λ g p w n=>qv g λ o T s=>be o λ x _=>c1 p λ u=>cr u λ G B M _=>be G λ y _=>(w.isEmpty&&M.isEmpty&&decide (N[i]?=TJ x/\T="extend" /\ s.endLine=n.line/\Y[f]?=TJ y)&&vs Z x&&Zd x)&&gl Z y&&Zd y && !B.isEmpty&&ckL Y U l N Z B&&br S r rest
end
section
variable {J:Hp->Prop}{U:List Yt}{Y:List TV}{B:List Str}{G:Fz}{L:Hp}{E:List (TV×V)}
def PS.imp{st:Uc}{t S:TS}(h:PS X st t)(i:∀D V H,S D V H->t D V H):PS X st S:=λ T s V H D I q=>h T s V H D I<|i D V H q
def PSs.imp{st:List Uc}{t S:TS}(h:PSs X st t)(i:∀D V H,S D V H->t D V H):PSs X st S:=λ T s V H D I q=>h T s V H D I<|i D V H q
def m9(K:FG)(J:Hp->Prop)(G:Fz)(L:Hp)(E:List<|TV×V)(n:Nat)(P:St->Hp->Prop)(N:En):Prop:=∀W T S,ER K J G L E W T S N->S.length=n->P S T
def C7(K:FG)(J:Hp->Prop)(G:Fz)(L:Hp)(P:VK)(t:TV):Prop:=∀S V v,Grow J G L S V->Rp K S V t v->P v V
def rS(K:FG)(J:Hp->Prop)(U:List Yt)(Y:List TV)(n:Nat)(G:Fz)(L:Hp)(E:List<|TV×V)(c:Ct):TS:=λ D T H=>∃F S,ER K J G L E F H T S/\T.length=n/\wS U Y c S (m9 K J G L E n D.nx) (C7 K J G L D.rt)
def ER.rr{K:FG}{i:Nat}(e:ER K J G L E F H M I)(g:Grow J F H Z D)(h:Rr K H Z D t v)(nb:t.nb=TK)(V:i<M.length):ER K J G L E Z D (M.set i<|TJ v)<|I.set i<|TJ t:=by
 cases t with
 |own l=>exact e.own g h V
 |bor l=>cases nb
 |_=>exact(e.grow g).set h V
def ma{x:Str}(V:XS X N Z)(S:∀x,X.env.scope.names.lookup x=TJ .cell->X.fn x=TK)(h:v7 N Z i x=TK):X.N[i]?=TJ x/\ZO X.env.scope x/\(X.fn x=TK\/X.env.scope.names.lookup x=TJ .local)/\i<N.length:=by
 unfold v7 at h;rw[bq,jq] at h;have e:=au h.1;have lo:ZO X.env.scope x:=by unfold ZO;rw[V.nm];exact h.2.imp au au
 exact(by rw[V.N];exact e,lo,lo.elim .inr λ z=>.inl<|S x z,(aP.mp e).1)
def mf(h:v5 e=TK):UQ e t n Z=Uo TL:=by cases e<;>first|rfl|cases h
def Ab(h:E9 (.ListComp a b c d) k=TK):k a b c d=TK:=h
def LU{a b V p}(h:ck Z B c N D (.SetComp a b V p)=TK):False:=by cases c<;>exact TN h
def LW{a b d V p}(h:ck Z B c N D (.DictComp a b d V p)=TK):False:=by cases c<;>exact TN h
section
variable {i:Nat}{Z:Pos}
theorem LX{W fv o A k j e}(K:YC X J U Y P B)(c:XS X N u)(a:X.N.Nodup)(F:X.N[i]?=TJ x)(G:ZO X.env.scope x)(L:X.fn x=TK\/X.env.scope.names.lookup x=TJ .local)(y:UQ (.ListComp Q M R O) (TJ<|.Name x f) Z.line X.env=Uo TK)(h:ck P B (.comp W fv o A k j e) N u (.ListComp Q M R O)=TK) :
  PS X (.Assign [.Name x f] (.ListComp Q M R O) Z)<|gW (rE X.K J U Y<|.comp W fv o A k j e)<|cH i:=by
 refine HT λ T V=>?_;obtain⟨⟨t,d,v,z⟩,rfl,m⟩:=jo<|Ab h;refine V ?_;clear V T;clear h;refine HT λ T V=>?_;obtain⟨b,r,p,g,l,n,w⟩:=a7 m;refine V ?_;clear V T;cases (show v=[] from qB.mp b);cases au r;intro Yq s σ H D I q;obtain⟨cl,S⟩:=lV I.ok c p;exact CmP.ps (K.calm,sI j k K c g,S,l,λ C ex s H E=>sE e (lW K) E w,qA,ka g) a F G L y I<|zN K.hJ (λ i F=>au<|gJ.mp n i F) q
theorem LY{W fv m A k v c e}(K:YC X J U Y P B)(b:XS X N nm)(hN:X.N.Nodup)(F:X.N[i]?=TJ x)(hx:ZO X.env.scope x)(hf:X.fn x=TK\/X.env.scope.names.lookup x=TJ .local)(y:UQ (.ListComp Q M R O) (TJ<|.Name x p') Z.line X.env=Uo TK)(h:ck P B (.compI W fv m A k v c e) N nm (.ListComp Q M R O)=TK) :
  PS X (.Assign [.Name x p'] (.ListComp Q M R O) Z)<|gW (rE X.K J U Y<|.compI W fv m A k v c e)<|cH i:=by
 refine HT λ T V=>?_;obtain⟨⟨t,o,ifs,z⟩,rfl,n⟩:=jo<|Ab h;refine V ?_;clear V T;clear h;obtain⟨r,p,g⟩:=jo n;cases p;refine HT λ T V=>?_;obtain⟨w,a,d,L,G,f,E,u⟩:=a8 g;refine V ?_;clear V T;cases au w;intro Yq s σ H D I q;obtain⟨cl,S⟩:=lV I.ok b a;exact CmP.ps (K.calm,sI v k K b d,S,L,λ C l s H j=>sE e (lW K) j u,(_,ym,λ C l s H j=>P3 rfl<|sT c (lW K) j f E),ka d) hN F hx hf y I<|zP K.hJ (λ i F=>au<|gJ.mp G i F) q
theorem LZ(K:YC X J U Y O B)(F:XS X N R)(S:X.N.Nodup)(W:X.N[i]?=TJ x)(A:ZO X.env.scope x)(T:X.fn x=TK\/X.env.scope.names.lookup x=TJ .local)(V:UQ (.ListComp M D Q I) (TJ<|.Name x C) Z.line X.env=Uo TK)(h:ck O B c N R (.ListComp M D Q I)=TK) :
  PS X (.Assign [.Name x C] (.ListComp M D Q I) Z)<|gW (rE X.K J U Y c)<|cH i:=by
 cases c with
 |comp=>exact LX K F S W A T V h
 |compI=>exact LY K F S W A T V h
 |_=>exact TN h
end
theorem Ac{i:Nat}(y:YC X J U Y D B)(v:XS X N M)(T:X.N.Nodup)(K:X.N[i]?=TJ x)(F:ZO X.env.scope x)(A:X.fn x=TK\/X.env.scope.names.lookup x=TJ .local)(h:ck D B c N M e=TK) :
  PS X (.Assign [.Name x Z] e pos)<|gW (rE X.K J U Y c)<|cH i:=by
 have plain:UQ e (TJ<|.Name x Z) pos.line X.env=Uo TL->PS X (.Assign [.Name x Z] e pos) (gW (rE X.K J U Y c)<|cH i):=λ j=>mO T K F (sE c y v h) j A
 cases e with
 |ListComp S V z g=>
  cases W:(X.env.blockKind == .function&&X.env.kindOf x == TJ .local&&Z.line == (Expr.ListComp S V z g).pos.line && !(z.names.any λ(n,k)=>n == x&&(k == .local || k == .cell))) with
  |false=>exact plain (by show(Uo _:Sem Bool)=_;rw[<- W])
  |true=>exact LZ y v T K F A (by show(Uo _:Sem Bool)=_;rw[<- W]) h
 |SetComp=>exact(LU h).elim
 |DictComp=>exact(LW h).elim
 |_=>exact plain rfl
end
section
variable {Z:TR}
theorem Ma{l b:TQ}{R:VS}(gl:Z.heap.get? l=TJ { cls:=.type "list",dict:=TM,data:=.seq U k,slots:=#[] })(N:Z.heap.get? b=TJ u)(A:u.cls=.type "list")(K:u.data=.seq Y n)(S:U.size+Y.size<=TW)
  (V:R .none { Z with heap:=Z.heap.update l (UH (·++Y)) }):TU (TX L D) B (call (.builtin "list.extend") [.ref l,.ref b]) R J Z:=by
 refine gC uX (_,gl,on) PySem.F.entry_list_extend ?_<|PySem.F.args_list_extend_2 _ _;show TU _ _ (UO (.ref l) (.ref b) .none) _ _ Z;unfold UO;refine ae<|kS (u,N,A) ?_;have T:(Vi (.ref l) (.ref b) || Uq "list" == Uq "list" || Uq "list" == Uq "tuple")=TK:=Cr;rw[U0 T];refine ae ?_;unfold Yl;refine ae<|lh N K<|aq ?_;refine ae ?_;refine ae<|lh gl rfl<|aq ?_;have W:¬(!U.isEmpty&&UC (U.size+Y.size))=TK:=by rw[xD S,lE];exact dz
 rw[T9 W];show TU _ _ (Vl l (·++Y) >>= λ _=>ret Us) _ _ Z;refine ae (lg gl rfl ?_ BT<|by rw[Array.size_append];lia);exact aq (_,on,V)
end
def Ad(K:FG):V->List V->Hp->VK->Prop:=λ x vs H Q=>∃l b S T,x=.ref l/\vs=[.ref b]/\H l=TJ (.lst S)/\SqL K H b T/\S.length+T.length<=TW/\Q .non (Yu H l<|.lst<|S++T)
def Ae:B5 X "list.extend"<|Ad X.K:=by
 intro c s Z H x vs v t Q I o d h;refine HT λ S V=>?_;obtain⟨l,b,w,a,rfl,rfl,N,F,m,q⟩:=h;refine V ?_;clear V S;cases o;obtain⟨u,rfl,g⟩:=cM d;cases g;refine HT λ S V=>?_;obtain⟨z,W,n,r,k,e⟩:=I.lstM N;obtain⟨T,r2,⟨i,p,K,c2,_,A⟩,j⟩:=I.list F;refine V ?_;clear V S;have y:=r2.length;refine Ma e K c2 A (by simp only[aY];lia) ?_;refine(.non,_,I.lset (its':=W++T) N e Cr (r.append r2) ?_,on,q);rw[aQ];lia
section
variable {J:Hp->Prop}{FT:List Yt}{GT:List TV}{Z:List Str}{F0:Fz}{H0:Hp}{PN:List (TV×V)}
def rM(K:FG)(J:Hp->Prop)(FT:List Yt)(GT:List TV)(F0:Fz)(H0:Hp)(PN:List<|TV×V)(m:MM)(i:Nat)(l:Cd):TE:=λ N H Q=>∃F S,ER K J F0 H0 PN F H N S/\gc S[i]? λ z=>wL FT GT l S λ A=>A2 m z A λ y j=>∀W T v,ER K J F0 H0 PN W T N (S.set i<|TJ<|.own j)->Rp K W T y v->Q v T
def ER.at_{K:FG}{i:Nat}(e:ER K J F0 H0 PN F H U Y)(h:Y[i]?=TJ (TJ<|.own l)):∃a vs,U[i]?=TJ (TJ<|.ref a)/\H a=TJ (.lst vs)/\RpL K F H l vs:=by
 obtain⟨v,V,a,vs,rfl,_,q,r⟩:=e.ev.sl i _ h;exact(a,vs,V,q,r)
def rl2{K:FG}{t u:TV}{vs:List V}(h:RpL K F H [t,u] vs):∃x y,vs=[x,y]/\Rp K F H t x/\Rp K F H u y:=by
 obtain⟨x,r,rfl,S,y,W,rfl,T,rfl⟩:=h;exact(x,y,on,S,T)
def rl1{K:FG}{t:TV}{vs:List V}(h:RpL K F H [t] vs):∃x,vs=[x]/\Rp K F H t x:=by
 obtain⟨x,r,rfl,S,rfl⟩:=h;exact(x,on,S)
def RpL.dropLast{K:FG}{vs:List V}(h:RpL K F H l vs):RpL K F H l.dropLast vs.dropLast:=by
 rw[Af,Af,<- h.length];exact h.take _
def RpL.eraseIdx{K:FG}{vs:List V}(h:RpL K F H l vs)(k:Nat):RpL K F H (l.eraseIdx k)<|vs.eraseIdx k:=by
 rw[nW,nW];exact(h.take k).append<|h.drop _
def mR(K:FG)(m:MM)(a:TQ)(S:List V)(H:Hp)(Q:VK):Prop:=match m with
 |.append=>tG (.ref a) S H Q
 |.insert=>uc (.ref a) S H Q
 |.extend b=>∃c vs T,S=[.ref c]/\K5 K b H c T/\H a=TJ (.lst vs)/\vs.length+T.length<=TW/\Q .non (Yu H a<|.lst<|vs++T)
 |.pop=>(S=[]->xG (.ref a) S H Q)/\(S≠[]->pM (.ref a) S H Q)
theorem nX{K:FG}{i:Nat}(y:JS J)(e:ER K J F0 H0 PN F H U Y)(h:Y[i]?=TJ (TJ<|.own l))(A:U[i]?=TJ (TJ<|.ref a)) :
  ∃vs,H a=TJ (.lst vs)/\RpL K F H l vs/\vs.length=l.length/\∀W S,RpL K F H W S->ER K J F0 H0 PN F (Yu H a<|.lst S) U (Y.set i<|TJ<|.own W)/\Ke K F H F (Yu H a<|.lst S):=by
 refine HT λ T V=>?_;obtain⟨b,vs,N,q,z⟩:=e.at_ h;refine V ?_;clear V T;rw[A] at N;cases N;exact(vs,q,z,z.length.symm,λ W S r=>e.mut y h A r)
theorem Mb(A:JS J){i:Nat}{Q:VK}(e:ER X.K J F0 H0 PN F H C R)(h:R[i]?=TJ (TJ<|.own l))(K:C[i]?=TJ (TJ<|.ref a))(g:Grow J F H P Y)(r:RrL X.K H P Y O ws)
  (w:A2 m l O λ y ys=>∀M b v,ER X.K J F0 H0 PN M b C (R.set i<|TJ<|.own ys)->Rp X.K M b y v->Q v b):mR X.K m a ws Y Q:=by
 rcases O with _|⟨t,_|⟨u,_|⟨z,rr⟩⟩⟩
 .cases m with
  |pop=>
   cases r;refine HT λ S V=>?_;obtain⟨y,U,w⟩:=w;obtain⟨vs,q,T,W,N⟩:=nX A (e.grow g) h K;obtain⟨v,Z,G⟩:=T.get U;obtain⟨s,D⟩:=N _ _ T.dropLast;refine V ?_;clear V S;exact(λ _=>(a,vs,v,on,on,q,by rw[W];exact Z,w _ _ _ s<|G.ke D),λ n=>U1 rfl n)
  |_=>exact w.elim
 .cases m with
  |append=>
   refine HT λ S V=>?_;obtain⟨d,j,w⟩:=w;obtain⟨o,L,_,r2⟩:=gO g r (by rw[cD,d];rfl);obtain⟨x,rfl,E⟩:=rl1 r2;obtain⟨vs,q,T,W,N⟩:=nX A (e.grow L) h K;refine V ?_;clear V S;exact(a,vs,x,on,on,q,by rw[W];exact j,w _ _ _ (N _ _<|T.append<|show RpL X.K o Y [t.fz] [x] from (x,[],on,E,on)).1 rfl)
  |extend bb=>
   refine HT λ S V=>?_;obtain⟨d,w⟩:=w;obtain⟨mm,p,j,w⟩:=qy w;obtain⟨vs,q,T,W,N⟩:=nX A (e.grow g) h K;obtain⟨x,rfl,B⟩:=jV r;obtain⟨c,zs,rfl,qc,I⟩:=B.vw.b p;refine V ?_;clear V S;exact(c,vs,zs,on,qc,q,by rw[W,<- I.length];exact j,w _ _ _ (N _ _<|T.append I).1 rfl)
  |pop=>
   refine HT λ S V=>?_;obtain⟨k,rfl,c,n,y,f,U,w⟩:=gN w;obtain⟨x,rfl,B⟩:=jV r;refine V ?_;clear V S;cases B;refine HT λ S V=>?_;obtain⟨vs,q,T,W,N⟩:=nX A (e.grow g) h K;obtain⟨v,Z,G⟩:=T.get U;obtain⟨s,D⟩:=N _ _<|T.eraseIdx n;refine V ?_;clear V S;exact(λ z=>(List.cons_ne_nil _ _ z).elim,λ _=>(a,vs,k,n,v,on,on,q,c.1,c.2,by rw[W];exact f,Z,w _ _ _ s<|G.ke D))
  |_=>exact w.elim
 .cases m with
  |insert=>
   refine HT λ S V=>?_;obtain⟨k,rfl,d,c,j,w⟩:=gN w;obtain⟨o,L,_,r2⟩:=gO g r (by rw[cD,cD,d];rfl);obtain⟨x,y,rfl,E,ry⟩:=rl2 r2;refine V ?_;clear V S;cases E;refine HT λ S V=>?_;obtain⟨vs,q,T,W,N⟩:=nX A (e.grow L) h K;refine V ?_;clear V S;exact(a,vs,k,y,on,on,q,c.1,by rw[W];exact c.2,by rw[W];exact j,w _ _ _ (N _ _<|(T.take k.toNat).append<|show RpL X.K o Y (u.fz::l.drop k.toNat) (y::vs.drop k.toNat) from (y,_,on,ry,T.drop _)).1 rfl)
  |_=>exact w.elim
 .cases m<;>exact w.elim
def Mc(h:ckL Y Z l N U []=TK):l=.nil:=by cases l<;>first|rfl|exact TN h
def Me{K:TV->List TV->Prop}(h:A2 m xs [] K):m=.pop:=by cases m<;>first|rfl|exact h.elim
theorem nY(K:JS J)(h:rM X.K J FT GT F0 H0 PN m i l Y H Q) :
  ∃a,(∀ {P:VK},P (.ref a) H->bL i Y H P)/\B6 X.K "list" (.ref a) H/\rA X.K J FT GT l Y H λ A T=>mR X.K m a A T Q:=by
 refine HT λ S V=>?_;obtain⟨F,z,e,w⟩:=h;obtain⟨j,N,w⟩:=qC w;obtain⟨a,vs,W,q,_⟩:=e.at_ N;refine V ?_;clear V S;exact(a,λ {P} p=>by unfold bL;rw[W];exact p,.inl (on,vs,.of q),F,z,e.ev,bE l (λ v w y T A g r=>Mb K e N W g r w) w)
def Mf{i:Nat}{p W A:Pos}{o:List Expr}(L:YC X J FT GT fs Z)(O:XS X N nm)(h1:N[i]?=TJ x)(h2:vs nm x=TK)(h3:Zd x=TK)(h0:L8 m ≠ "__name__")(h5:W.endLine=A.line)(u:o.length<20)(j:ckL fs Z l N nm o=TK):PE X (.Call (.Attribute (.Name x p) (L8 m) W) o [] A)<|rM X.K J FT GT F0 H0 PN m i l:=by
 obtain⟨d1,d2,_⟩:=cZ h3;have M:PE X (.Name x p)<|bL i:=eO (by rw[O.N];exact h1) (jp O h2) d1 d2;have E:=dJ.mpr h5;have st:=eG j;have f:=sL l L O j
 cases o with
 |nil=>
  cases Mc j;intro Yq s d H Q I q
  obtain rfl:m=.pop:=by
   refine HT λ T S=>?_;obtain⟨F,D,e,w⟩:=q;obtain⟨O,_,w⟩:=qC w;refine S ?_;clear S T;exact Me (xs:=O) (K:=λ y ys=>∀R B v,ER X.K J F0 H0 PN R B d (D.set i<|TJ<|.own ys)->Rp X.K R B y v->Q v B) w
  refine(Gs (apos:=W) (cpos:=A) kh Ag Ah Gv M rfl E).imp (λ d H Q q=>?_) Yq s d H Q I q;obtain⟨a,Y,U,F,D,G,w⟩:=nY L.hJ q;exact Y (U,(w F H [] (.refl G.w) .nil).1 rfl)
 |cons y o=>
  rw[cD,bq] at st
  have C:∀ {r:V->List V->Hp->VK->Prop}{n:Str},(∀ {d H Q},rM X.K J FT GT F0 H0 PN m i l d H Q->∃a,(∀ {P:VK},P (.ref a) H->bL i d H P)/\B6 X.K "list" (.ref a) H/\rA X.K J FT GT l d H λ ws H1=>r (.ref a) ws H1 Q) ->
    PE X (.Call (.Attribute (.Name x p) n W) (y::o) [] A) (E4 X.K "list" r (bL i)<|rA X.K J FT GT l)->PE X (.Call (.Attribute (.Name x p) n W) (y::o) [] A) (rM X.K J FT GT F0 H0 PN m i l):=λ k h=>h.imp λ d H Q q=>by
   obtain⟨a,Y,U,w⟩:=k q;exact Y (U,w)
  cases m with
  |append=>exact C (r:=tG) (nY L.hJ)<|kU (apos:=W) (cpos:=A) kh Ai Aj xF M f rfl (lX (eG j) u) E (aV st.1)<|dP st.2
  |insert=>exact C (r:=uc) (nY L.hJ)<|kU (apos:=W) (cpos:=A) kh PySem.F.slot_list_insert PySem.F.type_list_insert Ji M f rfl (lX (eG j) u) E (aV st.1)<|dP st.2
  |pop=>
   refine C (r:=pM) (λ q=>?_)<|kU (apos:=W) (cpos:=A) kh Ag Ah IC M f rfl (lX (eG j) u) E (aV st.1)<|dP st.2;refine HT λ T S=>?_;obtain⟨a,Y,U,F,D,G,w⟩:=nY L.hJ q;refine S ?_;clear S T;refine(a,Y,U,F,D,G,?_)
   cases l with
   |cons b r=>exact aj b (λ t w=>bE r (λ ts w R B vs g rr=>(w R B vs g rr).2 λ z=>by subst z;cases rr) w) w
   |_=>exact TN j
  |extend b=>
   cases b with
   |true=>exact U1 rfl h0
   |false=>
    refine C (r:=Ad X.K) (λ q=>?_)<|kU (apos:=W) (cpos:=A) kh uX Ak Ae M f rfl (lX (eG j) u) E (aV st.1)<|dP st.2;refine HT λ T S=>?_;obtain⟨a,Y,U,F,D,G,w⟩:=nY L.hJ q;refine S ?_;clear S T;exact(a,Y,U,F,D,G,bE l (λ ts w F1 H1 ws g r=>let ⟨c,vs,zs,e1,e2,e3,z⟩:=w F1 H1 ws g r;(a,c,vs,zs,on,e1,e3,e2,z)) w)
def Mg(c:YC X J FT GT Y Z)(k:XS X N U)(h:Q1 Y Z N U m i l e=TK):PE X e (rM X.K J FT GT F0 H0 PN m i l)/\v5 e=TK:=by
 refine cE h λ g a w n k1=>?_;refine uL k1 λ o T t j=>?_;refine aU j λ x p d=>?_;refine HT λ S V=>?_;obtain⟨b,A,K,F,r,s,v⟩:=a7 d;refine V ?_;clear V S;refine bQ b ?_;cases au r;obtain⟨W,z,y⟩:=au s;exact(Mf c k (au A) K F W z y v,on)
def rXl(K:FG)(J:Hp->Prop)(FT:List Yt)(GT:List TV)(F0:Fz)(H0:Hp)(PN:List<|TV×V)(i f:Nat)(l:Cd):TE:=λ A H Q=>∃F T,ER K J F0 H0 PN F H A T/\gc T[i]? λ N=>wL FT GT l T λ y=>∃P,(∃S,FT[f]?=TJ S/\S (y.map .fz) P)/\∀t,P t->∃m,t=.lst m/\(∀x∈m,LF x)/\N.length+m.length<=TW/\∀z W,ER K J F0 H0 PN z W A (T.set i<|TJ<|.own<|N++m)->Q .non W
def Mh{i f:Nat}{a:Expr}{s:List Expr}{p d A p2 p3:Pos}(z:YC X J FT GT O Z)(j:XS X N L)(h1:N[i]?=TJ x)(h2:vs L x=TK)(h3:Zd x=TK)(hl:d.endLine=A.line)(C:O[f]?=TJ y)(hg:gl L y=TK)(ho:Zd y=TK)(R:ckL O Z l N L (a::s)=TK):PE X (.Call (.Attribute (.Name x p) "extend" d) [.Call (.Name y p2) (a::s) [] p3] [] A)<|rXl X.K J FT GT F0 H0 PN i f l:=by
 obtain⟨d1,d2,_⟩:=cZ h3;have hv:PE X (.Name x p)<|bL i:=eO (by rw[j.N];exact h1) (jp j h2) d1 d2;have fo:=lX (e:=.Call (.Name y p2) (a::s) [] p3) (es:=[]) (env:=X.env) (cp:=A) rfl (show 1<20 by decide);have st:=eG R;rw[cD,bq] at st;refine HT λ T V=>?_;obtain⟨S,M⟩:∃S,FT[f]?=TJ S:=fO<|bH (aP.mp C).1 z.len;obtain⟨k,ps,hr,c⟩:=z.fns f y S C M;refine V ?_;clear V T;have ha:=bK (nC (p:=p2) (pos:=p3) c hr (Zg j hg) nq (sL l z j R) (cZ ho).1 (aV st.1)<|dP st.2) pa_nil rfl;refine(kU (apos:=d) (cpos:=A) kh uX Ak Ae hv ha rfl fo (dJ.mpr hl) rfl rfl).imp λ σ H Q Y=>?_;refine HT λ T V=>?_;obtain⟨F,ρ,r,w⟩:=Y;obtain⟨ls,U,w⟩:=qC w;obtain⟨b,vs,o,q,_⟩:=r.at_ U;refine V ?_;clear V T;unfold E4 bL;rw[o];refine(.inl (on,vs,.of q),F,ρ,r.ev,bE l (λ ts w g H1 us n r1=>?_) w);refine HT λ T V=>?_;obtain⟨P,⟨S',G,sp⟩,w⟩:=w;refine V ?_;clear V T;rw[M] at G;cases G;rw[eR];obtain⟨F2,w2,r2⟩:=uS n.w r1;refine(F2,_,P,w2,r2,sp,λ t pt F' B v K r'=>?_);refine HT λ T V=>?_;obtain⟨m,rfl,lf,lz,w⟩:=w t pt;refine V ?_;clear V T;have gg:Grow J g H1 g B:=(K.sm,K.dm,λ _ h=>h,λ _ h=>.inl h,K.w.j,λ b f=>K.dm b<|n.w.d b f);have E:=(r.grow n).grow gg;refine HT λ T V=>?_;obtain⟨b',D,I,qb,u⟩:=E.at_ U;refine V ?_;clear V T;rw[o] at I;cases I;refine HT λ T V=>?_;obtain⟨cc,zs,rfl,qc,rz⟩:=(Rr.of (H:=H) r').vw.b (show(TV.lst m).items=TJ (TL,m) from rfl);refine V ?_;clear V T;have W:RpL X.K g B m zs:=LF.rpl lf rz;obtain⟨em,ke⟩:=E.mut z.hJ U o<|u.append W;exact(b,cc,D,zs,on,on,qb,qc,by rw[<- u.length,<- W.length];exact lz,w _ _ em)
end
section
variable {J:Hp->Prop}{FT:List Yt}{GT:List TV}{fs gs:List Str}{N:List Str}{nm:List (Str×Uj)}{Y:Fz}{Z:Hp}
theorem Mi{K:VY}{A V:List TV}{n:Nat}{D:Ze}{tb:TS}(b:TV->En->(En->Prop)->Prop)(P:En->Prop)
  (k:ER K J Y Z G O R L B) (sl:L.length=n) (X:RpL K O R (A.map TV.fz) U) (M:YW K J C V A U) (w:f8 b V B P) (r:∀z,P z->m9 K J Y Z G n D.nx z)
  (st:∀t z h T S x (Q:En->Prop) (I:Ze),b t z Q->ER K J Y Z ((A.map TV.fz).zip U++G) h T S z->S.length=n->Rp K h T t x->I.rt=D.rt->(∀g,Q g->m9 K J Y Z ((A.map TV.fz).zip U++G) n I.nx g)->Zy K u x S T λ d a=>tb I d a) :
  ∃W:Nat->Nat->St->Hp->Prop,(∃m,W 0 m L R)/\∀i m L H,W i m L H ->
   (C.stop i H/\D.nx L H)\/(C.go i H/\∃N:St->Hp->Prop,(∀S T,N S T->∃m',m'<m/\W (i+1) m' S T)/\∀x T,C.yld i H x T->Zy K u x L T λ d a=>tb { D with nx:=N,ct:=N,bk:=D.nx } d a):=by
 have l:(A.map TV.fz).length=U.length:=X.length
 have o:∀p∈(A.map TV.fz).zip U,Rp K O R p.1 p.2:=by
  intro p j;obtain⟨i,E⟩:=kg j;rw[zA] at E;obtain⟨v,ev,rv⟩:=X.get E.1;rw[E.2] at ev;cases ev;exact rv
 have vw:∀ {F:Fz}{H:Hp}{L:St}{B:En},ER K J Y Z ((A.map TV.fz).zip U++G) F H L B->UZ (Vw K F H) A U:=λ {F H L B} e=>by
  have f:=e.pn;clear X M w r st o k
  revert U
  induction A with
  |nil=>intro U l e f;cases U with|nil=>exact .nil|cons x U=>simp at l
  |cons t A ih=>
   intro U l e f
   cases U with
   |nil=>simp at l
   |cons x U=>
    refine .cons (Rp.vw<|f (t.fz,x) Cr) (ih (by simpa using l) (e.ev,e.gr,e.nb,e.di,λ p j=>f p (by
     rw[cB,s1o,pY]
     exact bz _ j),e.ol) λ p j=>f p<|by
     rw[cB,s1o,pY]
     exact bz _ j)
 refine(λ i m L H=>i≤V.length/\m=V.length - i/\∃F B,ER K J Y Z ((A.map TV.fz).zip U++G) F H L B/\L.length=n/\f8 b (V.drop i) B P,
  (_,cn _,rfl,O,B,(k.ev,k.gr,k.nb,k.di,λ p j=>(cy.mp j).elim (o p)<|k.pn p,k.ol),sl,w),?_)
 rintro i m L H ⟨E,rfl,F,B,e,s,w⟩;have v:=vw e;by_cases c:i<V.length
 .refine .inr (M.go F H i e.ev.w v c,λ S T=>∃F B,ER K J Y Z ((A.map TV.fz).zip U++G) F T S B/\S.length=n/\f8 b (V.drop<|i+1) B P,λ S T q=>(_,BT,c,on,q),λ x T y=>?_);obtain⟨t,et,gy,rt⟩:=M.yld F H i x T e.ev.w v c y
  have ed:V.drop i=t::V.drop (i+1):=by
   rw[qz c]
   congr 1
   rw[aZ c] at et;exact bS et
  rw[ed] at w;exact st t B F T L x _ _ w (e.grow gy) s rt rfl λ g q F2 a d e2 s2=>(F2,g,e2,s2,q)
 .have ei:i=V.length:=by lia
  subst ei;rw[uU] at w;refine .inl (M.stop F H e.ev.w v,r B w F H L (e.ev,e.gr,e.nb,e.di,λ p j=>e.pn p<|bO _ j,e.ol) s)
theorem Mj{K:FG}{own:List Str}{Q:VK}{R:List TQ->Prop}(C:JS J)(e:EV K J F H σ ρ)(w:wL FT GT P ρ λ G=>l9 k G λ T=>T.length<TW/\∀S:List TQ,S.Nodup->S.length=T.length->R S)
  (L:∀S W A o,R S->S.Nodup->Grow J F H W A->H o=TM->¬W o->A o=TJ (.lst<|S.map V.ref)->(∀a∈S,H a=TM/\¬W a/\A a=TJ (.lst []))->o ∉ S->Q (.ref o) A):kW (rW K J FT GT k P) own.length [] (Zy K [0]) (mU kP) σ H Q:=by
 refine(F,ρ,e,bE P (λ G w=>jc (λ T w U n xs Jt Z rx B=>?_) w) w);obtain⟨hn,w⟩:=w;refine(λ i m X M A=>i<=T.length/\m=T.length-i/\∃W S,Grow J U n W A/\X=S.map V.ref/\S.length=i/\S.Nodup/\∀a∈S,n a=TM/\¬W a/\A a=TJ (.lst []),(_,cn _,on,U,[],.refl Z.w,on,on,.nil,λ a g=>nomatch g),?_);rintro i m X M A ⟨hi,rfl,W,S,v,rfl,al,D,g⟩;have E:UZ (Vw K W A) G xs:=Paired.mapP (rx.grow v) λ _ _ r=>r.vw;by_cases c:i<T.length
 .refine .inr (B.go W A i v.w E c,by rw[af];lia,λ u I d=>∃l N,Grow J U n l d/\u=N.map V.ref/\N.length=i+1/\N.Nodup/\∀a∈N,n a=TM/\¬l a/\d a=TJ (.lst []),λ u I d (l,N,q)=>(_,BT,c,on,l,N,q),λ x d y=>?_);obtain⟨t,et,s,rt⟩:=B.yld W A i x d v.w E c y;refine(cn _,λ p j=>?_);have O:=s.trans<|Grow.new C s.w (.lst []) j;have Y:∀a∈S,a≠p:=λ a h z=>by have:=s.sm _ _ (λ ps z=>by cases z) (g a h).2.2;rw[z,j] at this;cases this
  refine(W,S++[p],v.trans O,by rw[bG];rfl,by rw[aQ,al];rfl,List.nodup_append.mpr (D,gB.mpr (Cr,List.nodup_nil),λ a h b hb=>by cases aK.mp hb;exact Y a h),λ a hm=>?_)
  rcases cy.mp hm with h|h
  .obtain⟨z1,z2,z3⟩:=g a h;exact(z1,z2,O.sm _ _ (λ ps z=>by cases z) z3)
  .cases aK.mp h;exact((v.trans s).none j,λ f=>s.w.d _ f j,bB)
 .have e:i=T.length:=by lia
  refine .inl (e ▸ B.stop W A v.w E,λ p j=>?_);have Y:∀a∈S,a≠p:=λ a h z=>by have:=(g a h).2.2;rw[z,j] at this;cases this
  exact L S W _ p (w S D BT) D ((Z.trans v).trans<|.new C v.w _ j) ((Z.trans v).none j) (λ f=>v.w.d _ f j) bB (λ a h=>(Z.none (g a h).1,(g a h).2.1,by rw[av<|Y a h];exact(g a h).2.2)) λ h=>Y p h rfl
def Al(h:uV U=TK){k:Nat}(e:U[k]?=TJ (TJ<|.obj<|.lls L D)):False:=by
 have:=gJ.mp h _<|aH e;cases this
theorem ER.setL{K:FG}{i:Nat}{W:List TQ}(e:ER K J Y Z u F H P C)(Q:uV C=TK)(g:Grow J F H L D)(n0:H U=TM)(nf0:¬L U)(O:D U=TJ (.lst<|W.map V.ref))(nd:W.Nodup)(x:∀a∈W,H a=TM/\¬L a/\D a=TJ (.lst []))(na:U ∉ W)(q:i<P.length) :
  ER K J Y Z u (λ b=>L b\/b=U) D (P.set i<|TJ<|.ref U)<|C.set i<|TJ<|.obj<|.lls W<|TY W.length []:=by
 have d:=e.grow (g.frz n0<|by rw[O];simp);refine((d.ev.w,λ j t N=>?_),d.gr,λ j f b p o=>?_,λ j k l1 l2 w p o M I=>?_,d.pn,λ k s B z=>?_)
 .rw[da] at N;split at N
  .rename_i c;subst c;split at N
   .cases N;refine(.ref U,by rw[da];simp[q],U,on,.inl (.inr rfl,.of O),nd,Cr,λ jj a ks S T=>?_);have m:=aH S;obtain⟨_,z2,z3⟩:=x a m;rw[dY] at T;split at T
    .cases T;refine(λ y=>?_,[],z3,on)
     rcases y with y|y
     .exact z2 y
     .subst y;exact na m
    .cases T
   .cases N
  .rename_i c;obtain⟨w,S,z⟩:=d.ev.sl j t N;exact(w,by rw[dE c];exact S,z)
 .rcases cP p with ⟨_,z⟩|⟨n,z⟩
  .cases z
  .rw[dE n] at o;exact e.nb j f b z o
 .rcases cP p with ⟨_,z⟩|⟨n,z⟩
  .cases z
  .rcases cP o with ⟨_,G⟩|⟨n',G⟩
   .cases G
   .rw[dE n] at M;rw[dE n'] at I;exact e.di j k l1 l2 w z G M I
 .rcases dQ z with ⟨rfl,y⟩|⟨n,y⟩
  .cases y;refine(λ a h=>e.gr.none (x a h).1,λ j l b S T X=>?_,λ j s B S=>?_)
   .rcases dQ S with ⟨_,y⟩|⟨m,y⟩
    .cases y
    .rw[dE m] at T;refine HT λ r A=>?_;obtain⟨v,E,b',ws,rfl,_,R,_⟩:=e.ev.sl j _ y;refine A ?_;clear A r;rw[T] at E;cases E;rw[(x b X).1] at R;cases R
   .rcases dQ S with ⟨y,_⟩|⟨m,y⟩
    .exact y.symm
    .exact(Al Q y).elim
  .exact(Al Q y).elim
def Ml{K:FG}{F:Fz}{H:Hp}{vs T:List V}(W:¬F a)(q:H a=TJ (.lst vs)):Ke K F H F<|Yu H a<|.lst T:=by
 have N:∀b u,(∀vs,u≠.lst vs)->Rd H b u->Rd (Yu H a<|.lst T) b u:=λ b u n h=>by
  rcases h with h|⟨o,h⟩
  .exact .inl (by rw[av λ z=>by subst z;rw[q] at h;cases h;exact n _ rfl];exact h)
  .exact .inr (o,by rw[av λ z=>by subst z;rw[q] at h;cases h];exact h)
 exact(λ b vs h=>by
  rcases h with h|h
  .exact .inl<|N _ _ (λ _ z=>by cases z) h
  .exact .inr h,λ b vs h=>h.imp λ f h=>(f,by
  have S:b≠a:=λ z=>by subst z;exact W f
  rcases h with h|h
  .refine .inl ?_
   rcases h with h|⟨o,h⟩
   .exact .inl (by rw[av S];exact h)
   .exact .inr (o,by rw[av S];exact h)
  .exact .inr h))
theorem ER.push{K:FG}{i n:Nat}(h:JS J)(e:ER K J Y Z PN F H σ E)(Q:E[i]?=TJ (TJ<|.obj<|.lls B D))(G:B[n]?=TJ b)(hn:D[n]?=TJ l)(q:H b=TJ (.lst U))(r:RpL K F H (l.map kT) U)(rv:Rp K F H (kT ks) v) :
  ER K J Y Z PN F (Yu H b<|.lst<|U++[v]) σ<|E.set i<|TJ<|.obj<|.lls B<|D.set n<|l++[ks]:=by
 obtain⟨o1,o2,o3⟩:=e.ol i B D Q;have u:=aH G;refine HT λ N V=>?_;obtain⟨v0,M,a0,e0,l0,nd,hl,hh⟩:=e.ev.sl i _ Q;refine V ?_;clear V N;have nf:=(hh n b l G hn).1;have ke:Ke K F H F<|Yu H b<|.lst<|U++[v]:=Ml nf q
 have A:∀c,H c≠TM->Yu H b (.lst<|U++[v]) c≠TM:=λ c g=>by
  by_cases z:c=b
  .subst z;rw[bB];simp
  .rw[av z];exact g
 have f:∀(j:Nat) (m:List TV),(E.set i<|TJ<|.obj<|.lls B<|D.set n<|l++[ks])[j]?=TJ (TJ<|TV.own m)->E[j]?=TJ (TJ<|TV.own m):=λ j m L=>by
  rcases cP L with ⟨_,y⟩|⟨_,z⟩
  .cases y
  .exact z
 refine(((h.mu H b U _ q e.ev.w.j,λ c f=>A c<|e.ev.w.d c f),λ j t hj=>?_),(λ c o nt g=>by rw[av λ z=>by subst z;rw[o1 c u] at g;cases g];exact e.gr.sm c o nt g,λ c g=>A c<|e.gr.dm c g,e.gr.up,e.gr.nw,h.mu H b U _ q e.ev.w.j,λ c f=>A c<|e.ev.w.d c f),λ j m c L I=>e.nb j m c (f j m L) I,λ j k m1 m2 w L I h3 h4=>e.di j k m1 m2 w (f j m1 L) (f k m2 I) h3 h4,λ p hp=>(e.pn p hp).ke ke,e.ol.sub (λ j m z=>(m,f j m z)) λ j x s z=>?_)
 .rcases dQ hj with ⟨rfl,y⟩|⟨c,y⟩
  .subst y;refine(v0,M,a0,e0,ke.l _ _ l0,nd,by rw[cN];exact hl,λ jj a O T W=>?_);by_cases z:jj=n
   .subst z;rw[G] at T;cases T;rw[fD (aP.mp hn).1] at W;cases W;refine(nf,_,bB,?_);rw[bG];exact(r.ke ke).append (v,[],on,rv.ke ke,on)
   .rw[du λ y=>z y.symm] at W;obtain⟨C,X,q2,r2⟩:=hh jj a O T W;have ne:a≠b:=λ y=>by subst y;exact z<|(List.getElem?_inj (aP.mp T).1 nd).mp<|T.trans G.symm
    exact(C,X,by rw[av ne];exact q2,r2.ke ke)
  .obtain⟨w,T,z⟩:=e.ev.sl j t y;refine(w,T,?_)
   cases t with
   |own l1=>
    refine HT λ N V=>?_;obtain⟨d,P,rfl,R,S,r'⟩:=z;refine V ?_;clear V N;exact(d,P,on,R,by rw[av λ y'=>by subst y';exact o2 j l1 d y T u];exact S,r'.ke ke)
   |obj o=>
    cases o with
    |dct l'=>obtain⟨d,W,S⟩:=z;exact(d,W,by rw[av λ z=>by subst z;rw[q] at S;cases S];exact S)
    |fn d=>obtain⟨W,φ,S,kf⟩:=z;exact(W,φ,by rw[av λ z=>by subst z;rw[q] at S;cases S];exact S,kf)
    |lls x s=>exact U1 (o3 j x s y).symm c
   |_=>exact Rp.ke ke z
 .rcases dQ z with ⟨rfl,y⟩|⟨_,y⟩
  .cases y;exact(D,Q)
  .exact(s,y)
theorem RpL.mk{K:FG}:∀ {S:List TV}{vs:List V},S.length=vs.length->(∀(j:Nat) t v,S[j]?=TJ t->vs[j]?=TJ v->Rp K F H t v)->RpL K F H S vs
 |[],[],_,_=>rfl
 |_::_,v::vs,N,h=>(v,vs,rfl,h 0 _ _ rfl rfl,RpL.mk (by simpa using N) λ j t v T W=>h (j+1) t v T W)
def ER.fu{K:FG}{i:Nat}(e:ER K J Y Z PN F H σ D)(C:D[i]?=TJ (TJ<|.obj<|.lls U L)):∃F',ER K J Y Z PN F' H σ (D.set i<|TJ<|.lst<|L.map λ l=>.lst<|l.map kT):=by
 refine HT λ S V=>?_;obtain⟨o1,o2,o3⟩:=e.ol i U L C;obtain⟨v0,x,a0,e0,l0,nd,P,R⟩:=e.ev.sl i _ C;refine V ?_;clear V S;have up:Ke K F H (λ b=>F b\/b∈U) H:=.up λ _ f=>.inl f
 have W:∀a∈U,H a≠TM:=λ a ha=>by
  refine HT λ S V=>?_;obtain⟨n,O⟩:=kg ha;obtain⟨_,q,r,_⟩:=R n a (L[n]'(by rw[<- P];exact(aP.mp O).1)) O<|aZ _;refine V ?_;clear V S;rw[r];simp
 have wd:Wd J (λ b=>F b\/b∈U) H:=(e.ev.w.j,λ b f=>f.elim (e.ev.w.d b)<|W b)
 have f:∀(j:Nat) (m:List TV),(D.set i<|TJ<|.lst<|L.map λ l=>.lst<|l.map kT)[j]?=TJ (TJ<|TV.own m)->D[j]?=TJ (TJ<|TV.own m):=λ j m g=>by
  rcases cP g with ⟨_,y⟩|⟨_,z⟩
  .cases y
  .exact z
 refine(λ b=>F b\/b∈U,(wd,λ j t hj=>?_),(e.gr.sm,e.gr.dm,λ b z=>.inl<|e.gr.up b z,λ b z=>z.elim (e.gr.nw b) λ h=>.inr<|o1 b h,wd),λ j m c g B=>e.nb j m c (f j m g) B,λ j k X u w g B h3 h4=>e.di j k X u w (f j X g) (f k u B) h3 h4,λ p hp=>(e.pn p hp).ke up,e.ol.sub (λ j m z=>(m,f j m z)) λ j N T z=>?_)
 .rcases dQ hj with ⟨rfl,y⟩|⟨c,y⟩
  .subst y;refine(v0,x,a0,_,e0,up.l _ _ l0,RpL.mk (by rw[af,af,P]) λ n t v A I=>?_);rw[bc] at A I;obtain⟨l,el,rfl⟩:=jQ.mp A;obtain⟨a,Q,rfl⟩:=jQ.mp I;obtain⟨_,q,r,E⟩:=R n a l Q el;exact(a,q,on,.inl (.inr<|aH Q,.of r),E.ke up)
  .obtain⟨w,A,z⟩:=e.ev.sl j t y;refine(w,A,?_)
   cases t with
   |own l1=>
    refine HT λ S V=>?_;obtain⟨d,M,rfl,G,r,E⟩:=z;refine V ?_;clear V S;refine(d,M,on,λ s=>?_,r,E.ke up)
    rcases s with s|s
    .exact G s
    .exact o2 j l1 d y A s
   |obj o=>
    cases o with
    |lls N T=>exact U1 (o3 j N T y).symm c
    |_=>exact z
   |_=>exact Rp.ke up z
 .rcases dQ z with ⟨_,y⟩|⟨_,y⟩
  .cases y
  .exact(T,y)
structure YOk (X:Cx)(J:Hp->Prop)(FT:List Yt)(GT:List TV)(fs gs N:List Str)(nm:List<|Str×Uj)(lp:Bool):Prop where
 xo:YC X J FT GT fs gs
 xs:XS X N nm
 nd:N.Nodup
 fn:∀x,X.env.scope.names.lookup x=TJ .cell->X.fn x=TK
 ps:lp=TK->PassesOwn (TX X.prog X.w) X.A X.env X.xe
theorem Am{K:FG}{Q:St->Hp->Prop}(h:Zh B D t P)(e:ER K J Y Z L F H U B)(N:Rp K F H t v)(W:∀i∈D,i<U.length)
  (T:∀V S,P S->ER K J Y Z L F H V S->V.length=U.length->Q V H):Zy K D v U H Q :=
 zD (E:=ER K J Y Z L F H) (λ _ e r l=>e.set r l) h e N W T
end
section
variable {J:Hp->Prop}{Y:List Yt}{Z:List TV}{U:List Str}{F0:Fz}{H0:Hp}
def Mm{V e:Expr}(h:v5 e=TK):Wt [V] e n L=Uo TL:=mf h
def Mp:Wt [.Subscript o i p] e n L=Uo TL:=by cases e<;>rfl
def Mq:Ws [.Subscript o i p] e L=Uo TM:=by cases e<;>rfl
def Mr{V e:Expr}(h:v5 e=TK):Ws [V] e L=Uo TM:=by
 cases V<;>first|rfl|(cases e<;>first|rfl|cases h)
theorem Mt(h:jm i=TK):∀v,VA (.Subscript o i p) L v=(do
   let D <- Va [v] (eval o L)
   let B <- Va [v,D] (eval i L)
   Vv p
   Va [v,D,B] (setItem D B v)
   release [v,D,B] []):=by
 intro v
 cases i<;>first|rfl|(cases h;done)
theorem Mu{i:Nat}(y:YC X J Y Z fs U)(v:XS X N nm)(E:X.N.Nodup)(R:X.N[i]?=TJ x)(P:ZO X.env.scope x)(O:X.fn x=TK\/X.env.scope.names.lookup x=TJ .local)(h:ck fs U (.comp L [] [] [0] k B<|.lst .nil) N nm e=TK) :
  PS X (.Assign [.Name x u] e pos)<|gW (kW (rW X.K J Y Z k B) L.length [] (Zy X.K [0])<|mU kP)<|cH i:=by
 refine HT λ W V=>?_;obtain⟨j,l,F,m,e1,g⟩:=uM h;refine V ?_;clear V W;cases e1;refine HT λ W V=>?_;obtain⟨⟨t,T,c,z⟩,rfl,g'⟩:=jo g;obtain⟨g0,g1,w,K,G,h4,h5⟩:=a7 g';refine V ?_;clear V W;cases (show c=[] from qB.mp g0);cases au g1
 obtain⟨A,rfl⟩:∃p,j=.List [] p:=by
  refine zq h5 λ es p k=>?_
  cases es with
  |nil=>exact(p,rfl)
  |cons a r=>exact TN k
 intro b s f H D I q;obtain⟨cl,S⟩:=lV I.ok v w
 cases M:(X.env.blockKind == .function&&X.env.kindOf x == TJ .local&&u.line == (Expr.ListComp (.List [] A) [(t,T,[],0)] F m).pos.line && !(F.names.any λ(n,k)=>n == x&&(k == .local || k == .cell))) with
 |false=>
  have d:PE X (.ListComp (.List [] A) [(t,T,[],0)] F m)<|kW (rW X.K J Y Z k B) L.length [] (Zy X.K [0])<|mU kP:=λ b s f H Q I q=>by
   obtain⟨cl,S⟩:=lV I.ok v w;exact CmP.pe (y.calm,sI B k y v K,S,G,λ C ex s H yx=>sU pa_nil,qA,ka K) I (by rw[xK];exact q)
  exact mO E R P d (by show(Uo _:Sem Bool)=_;rw[<- M]) O b s f H D I q
 |true=>
  have o:UQ (.ListComp (.List [] A) [(t,T,[],0)] F m) (TJ<|.Name x u) pos.line X.env=Uo TK:=by show(Uo _:Sem Bool)=_;rw[<- M]
  exact CmP.ps (y.calm,sI B k y v K,S,G,λ C ex s H yx=>sU pa_nil,qA,ka K) E R P O o I (by rw[xK];exact q)
theorem Mv{i j:Nat}{p p2 p3 K y:Pos}(xo:YC X J Y Z fs U)(W:XS X N M)(h1:N[i]?=TJ x)(h2:vs M x=TK)(h3:Zd x=TK)(h4:N[j]?=TJ z)(h5:vs M z=TK)(h6:Zd z=TK)(hl:K.endLine=y.line)(st:aM a=TK)(ha:PE X a<|rE X.K J Y Z c) :
  PE X (.Call (.Attribute (.Subscript (.Name x p) (.Name z p2) p3) "append" K) [a] [] y) λ A H Q=>∃F L D B n l,ER X.K J F0 H0 PN F H A L/\L[i]?=TJ (TJ<|.obj<|.lls D B)/\L[j]?=TJ (TJ<|.int (n:Nat))/\B[n]?=TJ l/\l.length<1000/\wE Y Z c L λ t=>∃G,t=kT G/\∀O s,ER X.K J F0 H0 PN O s A (L.set i<|TJ<|.obj<|.lls D<|B.set n<|l++[G])->Q .non s:=by
 refine HT λ T S=>?_;obtain⟨u,f,_⟩:=cZ h3;obtain⟨h,d4,_⟩:=cZ h6;refine S ?_;clear S T;have hv:PE X (.Subscript (.Name x p) (.Name z p2) p3)<|b7 (tD X.K) (bL i)<|bL j:=tz ix_list (eO (by rw[W.N];exact h1) (jp W h2) u f) (eO (by rw[W.N];exact h4) (jp W h5) h d4)<|qw rfl;refine(kU (apos:=K) (cpos:=y) kh Ai Aj xF hv (bK ha pa_nil<|aV st) rfl (lX (by rw[cD,st];rfl)<|show 1<20 by decide) (dJ.mpr hl) (aV st) rfl).imp λ A H Q (F,L,D,B,n,l,e,E,hj,k,ln,w)=>?_;refine HT λ T S=>?_;obtain⟨v,ev,P,rfl,l0,nd,C,hh⟩:=e.ev.sl i _ E;obtain⟨v2,o,e3⟩:=e.ev.sl j _ hj;refine S ?_;clear S T;cases (show v2=V.int (n:Nat) from e3);refine HT λ T S=>?_;obtain⟨b,d⟩:∃b,D[n]?=TJ b:=(_,aZ<|by rw[C];exact(aP.mp k).1);obtain⟨nf,m,q,r⟩:=hh n b l d k;refine S ?_;clear S T;unfold E4 b7;show bL i A H _;unfold bL;rw[ev];simp only[o];refine(P,D.map V.ref,n,.ref b,on,on,l0.sq,?_,.inl (on,m,.of q),F,L,e.ev,aj c (λ t (G,et,w) R H1 v g r1=>?_) w)
 .exact iS (by rw[bc,d];rfl)
 .subst et;have I:=g.sm _ _ (λ ps z=>by cases z) q;have ul:m.length=l.length:=by rw[<- r.length,af]
  exact(b,m,v,on,on,I,by rw[ul];exact bH ln<|fj<|aN<|ax _,w R _<|ER.push xo.hJ (e.grow g) E d k I (r.ke g.ke) r1)
theorem sS:∀(c:Ct) {X:Cx}{lp:Bool}{PN:List (TV×V)}{W:List Uc},YOk X J Y Z fs U N nm lp->br fs U N nm lp c W=TK->PSs X W (rS X.K J Y Z N.length F0 H0 PN c)
 |.nil,X,lp,PN,W,y,h=>by
  refine bQ h ?_;exact pss_nil.imp (by rintro D L H ⟨F,K,e,s,w⟩;exact w F H L e s)
 |.never,X,lp,PN,W,y,h=>pss_never.imp (by rintro D L H ⟨F,K,e,s,w⟩;exact w.elim)
 |.ret c,X,lp,PN,W,y,h=>by
  refine qD h λ o _ _ g=>?_
  cases o with
  |none=>exact TN g
  |some e=>
   refine(bU (mM<|sE c y.xo y.xs g) pss_never).imp λ D L H A=>?_;refine HT λ T S=>?_;obtain⟨F,K,e,s,w⟩:=A;obtain⟨G,B,_⟩:=e.fzC c;refine S ?_;clear S T;refine(G,_,B.ev,aj c (λ t (nb,w) F1 H1 v g r=>?_) w);obtain⟨F2,g2,_,_,rp⟩:=r.frz g nb;exact w F2 H1 v (B.gr.trans g2) rp
 |.set i c r,X,lp,PN,W,y,h=>by
  .refine jt h λ ts e _ rest k1=>?_;refine dD k1 λ t k2=>?_;refine aU k2 λ x _ k3=>?_;refine HT λ T S=>?_;obtain⟨E,M,C⟩:=_L.a3 k3;obtain⟨a1,a2,a3,a4⟩:=ma y.xs y.fn E;refine S ?_;clear S T;refine(bU (Ac y.xo y.xs (by rw[y.xs.N];exact y.nd) a1 a2 a3 M)<|sS r (PN:=PN) y C).imp λ D L H (F,K,e,s,w)=>?_;obtain⟨G,B,_⟩:=e.fzC c;exact(G,_,B.ev,aj c (by rintro t ⟨nb,w⟩ F1 H1 v g r;exact (F1,_,B.rr g r nb BT,by rw[cN];exact s,w)) w)
 |.sets is c r,X,lp,PN,W,y,h=>by
  .refine jt h λ ts e _ rest k1=>?_;refine dD k1 λ tg k2=>?_;refine HT λ T S=>?_;obtain⟨E,M,C,h4,h5⟩:=a5 k2;obtain⟨pg,lt⟩:=uQ (X:=X) (by rw[y.xs.N];exact y.nd) y.xo.calm y.xs (λ _=>y.fn) E;obtain⟨tes,tk,tp,rfl⟩:=zW M;refine S ?_;clear S T;refine(bU (wI (sE c y.xo y.xs h4) pg (Mm C) (Mr C) rfl)<|sS r (PN:=PN) y h5).imp λ D L H A=>?_;refine HT λ T S=>?_;obtain⟨F,K,e,s,w⟩:=A;refine S ?_;clear S T;refine(F,K,e.ev,aj c (λ t w F1 H1 v g rr=>?_) w)
   cases t with
   |tup l=>exact Am w (e.grow g) rr (λ i hi=>by rw[s];exact lt i hi) λ σ' O p B s'=>(F1,O,B,s'.trans s,p)
   |_=>exact w.elim
 |.fz i r,X,lp,PN,W,y,h=>by
  refine(sS r (PN:=PN) y<|show br fs U N nm lp r W=TK from h).imp λ D L H A=>?_;obtain⟨F,K,e,s,w⟩:=A;obtain⟨G,B,_⟩:=e.fz i;exact(G,_,B,s,w)
 |.doc r,X,lp,PN,W,y,h=>by
  refine lZ h λ e _ rest k1=>?_;refine jn k1 λ k _ _ k2=>?_;obtain⟨E,M⟩:=an k2;cases k<;>try exact TN E
  exact(bU Ez<|sS r (PN:=PN) y M).imp (by rintro D L H ⟨F,K,e,s,w⟩;exact (F,K,e,s,w))
 |.ex c r,X,lp,PN,W,y,h=>by
  .refine lZ h λ e _ rest k1=>?_;obtain⟨E,M,C⟩:=_L.a3 k1;exact(bU (jF (sE c y.xo y.xs M)<|mf E)<|sS r (PN:=PN) y C).imp (by rintro D L H ⟨F,K,e,s,w⟩;exact (F,K,e.ev,aj c (λ t w F1 H1 v g rr=>(F1,K,e.grow g,s,w)) w))
 |.met m i l r,X,lp,PN,W,y,h=>by
  .refine lZ h λ e _ rest k1=>?_;obtain⟨E,M⟩:=an k1;obtain⟨pe,pl⟩:=Mg (F0:=F0) (H0:=H0) (PN:=PN) (J:=J) (FT:=Y) (GT:=Z) y.xo y.xs E;refine(bU (jF pe<|mf pl)<|sS r (PN:=PN) y M).imp λ D L H A=>?_;refine HT λ T S=>?_;obtain⟨F,K,e,s,w⟩:=A;obtain⟨G,B,_⟩:=ER.fzV l e;refine S ?_;clear S T;exact(G,_,B,nV (λ xs w=>bE l (λ ts w=>zZ (λ y ys w F1 H1 v e1 _=>(F1,_,e1,s,w)) w) w) w)
 |.put i c d r,X,lp,PN,W,y,h=>by
  .refine jt h λ ts e _ rest k1=>?_;refine dD k1 λ t k2=>?_;refine lT k2 λ o yy _ k3=>?_;refine aU k3 λ x _ k4=>?_;refine HT λ T S=>?_;obtain⟨E,M,C,h4,h5,h6,h7⟩:=a7 k4;refine S ?_;clear S T;replace E:=au E;obtain⟨d1,d2,_⟩:=cZ C;refine(bU (wI (sE d y.xo y.xs h6) (ED (eO (by rw[y.xs.N];exact E) (jp y.xs M) d1 d2) (sE c y.xo y.xs h5) Gd<|Mt h4) Mp Mq rfl)<|sS r (PN:=PN) y h7).imp λ D L H (F,K,e,s,w)=>?_;refine HT λ T S=>?_;obtain⟨G,B,_⟩:=e.fzC d;obtain⟨xs,hx,w⟩:=qC w;refine S ?_;clear S T;refine(G,_,B.ev,aj d (λ t (nb,w) F1 H1 v g rr=>?_) w);refine HT λ T S=>?_;obtain⟨F2,g2,_,_,rp⟩:=rr.frz g nb;refine S ?_;clear S T;have e2:=B.grow g2;refine HT λ T S=>?_;obtain⟨a,vs,ea,q,_⟩:=e2.at_ hx;refine S ?_;clear S T;show bL i L H1 _;unfold bL;rw[ea];refine(F2,_,e2.ev,aj c (λ u w F3 H3 v3 g3 r3=>?_) w);obtain⟨k,rfl,n,en,w⟩:=gN w;cases r3;have e3:=e2.grow g3;obtain⟨a',vs',ea',q',rl⟩:=e3.at_ hx;rw[ea] at ea';cases ea';obtain⟨em,_⟩:=e3.mut y.xo.hJ hx ea<|rl.set (rp.ke g3.ke) n;exact(a,vs',k,n,on,on,q',by rw[<- rl.length];exact en,F3,_,em,s,w)
 |.ite c a b r,X,lp,PN,W,y,h=>by
  .refine Aa h λ t x yy _ rest k1=>?_;obtain⟨E,M,C,h4,h5⟩:=a5 k1;refine(bU (pd (sT c y.xo y.xs E M) (sS a (PN:=PN) y C)<|sS b (PN:=PN) y h4)<|sS r (PN:=PN) y h5).imp λ D L H A=>?_;obtain⟨F,K,e,s,w⟩:=A;refine(F,K,e.ev,aj c (λ t w=>cI (λ k w F1 H1 g=>?_) w) w);split at w
   .rw[U0<|by assumption];exact(F1,K,e.grow g,s,bF a (λ O w G H' σ' e s=>(G,O,e,s,w)) (λ _ h=>h) w)
   .rw[T9<|by assumption];exact(F1,K,e.grow g,s,bF b (λ O w G H' σ' e s=>(G,O,e,s,w)) (λ _ h=>h) w)
 |.for tg k it b r,X,lp,PN,W,y,h=>by
  .refine LR h λ t iter body els _ rest k1=>?_;refine HT λ T S=>?_;obtain⟨z0,h0,E,M,C,h4⟩:=a6 k1;refine S ?_;clear S T;refine bQ z0 ?_;obtain⟨pg,lt⟩:=uQ (X:=X) (by rw[y.xs.N];exact y.nd) y.xo.calm y.xs (λ _=>y.fn) E;have hb:PSs X _ λ D L H=>∃PN,rS X.K J Y Z N.length F0 H0 PN b D L H:=(by rintro Yq s L H D I ⟨PN,q⟩;exact sS b (PN:=PN) y C Yq s L H D I q);refine(bU (EQ (y.ps h0) y.xo.calm (sI it k y.xo y.xs M) pg hb λ x=>zG<|ka M)<|sS r (PN:=PN) y h4).imp λ D L H A=>?_;refine HT λ T S=>?_;obtain⟨F,K,e,s,w⟩:=A;obtain⟨G,B,_⟩:=ER.fzV it e;refine S ?_;clear S T;refine(G,_,B.ev,bE it (λ ts (nb,w)=>jc (λ its w F1 H1 xs Jt g rx ok=>?_) w) w);obtain⟨F2,g2,_,r2⟩:=gO g rx nb;refine Mi (n:=N.length) (tb:=λ D L H=>∃PN,rS X.K J Y Z N.length F0 H0 PN b D L H) _ _ (B.grow g2) s r2 ok w (λ O w F3 H3 σ3 e3 s3=>(F3,O,e3,s3,w)) λ t O F3 H3 σ3 x Q D' bt e3 s3 rt ert fin=>?_;exact Am bt e3 rt (λ i hi=>by rw[s3];exact lt i hi) λ σ4 ρ4 p e4 s4=>(_,F3,ρ4,e4,s4.trans s3,bF b (λ ρ5 q=>fin ρ5 q) (λ u hu=>by rw[ert];exact hu) p)
 |.nl i own k it r,X,lp,PN,W,y,h=>by
  .refine jt h λ ts e _ rest k1=>?_;refine dD k1 λ t k2=>?_;refine aU k2 λ x _ k3=>?_;refine HT λ T S=>?_;obtain⟨E,M,C⟩:=_L.a3 k3;obtain⟨a1,a2,a3,a4⟩:=ma y.xs y.fn E;refine S ?_;clear S T;refine(bU (Mu y.xo y.xs (by rw[y.xs.N];exact y.nd) a1 a2 a3 M)<|sS r (PN:=PN) y C).imp λ D L H (F,K,e,s,no,w)=>?_;show kW (rW X.K J Y Z k it) own.length [] (Zy X.K [0]) (mU kP) L H (λ x H1=>rS X.K J Y Z N.length F0 H0 PN r D (L.set i<|TJ x) H1);refine Mj (own:=own) (R:=λ as=>wS Y Z r (K.set i<|TJ<|.obj<|.lls as<|TY as.length []) (m9 X.K J F0 H0 PN N.length D.nx)<|C7 X.K J F0 H0 D.rt) y.xo.hJ e.ev w λ as G H' a0 wr nd g n0 nf0 q0 ha na=>?_;exact(_,_,e.setL no g n0 nf0 q0 nd ha na BT,by rw[cN];exact s,wr)
 |.pu i j c r,X,lp,PN,W,y,h=>by
  .refine lZ h λ qe _ rest k1=>?_;refine cE k1 λ g as w cp k2=>?_;refine uL k2 λ o name ap k3=>?_;refine lT k3 λ u v p3 k4=>?_;refine aU k4 λ x p k5=>?_;refine aU k5 λ z p2 k6=>?_;refine dD k6 λ a k7=>?_;refine HT λ T S=>?_;obtain⟨k8,g5,g6,g7,g8,g9⟩:=a6 k7;obtain⟨g0,g1,g2,g3⟩:=a4 k8;refine S ?_;clear S T;refine bQ g0 ?_;obtain⟨b1,b2,rfl,b4⟩:=au g1;have pe:=Mv (F0:=F0) (H0:=H0) (PN:=PN) (p:=p) (p2:=p2) (p3:=p3) y.xo y.xs b1 g2 g3 b2 g5 g6 b4 g7<|sE c y.xo y.xs g8;refine(bU (jF pe rfl)<|sS r (PN:=PN) y g9).imp λ D L H A=>?_;refine HT λ T S=>?_;obtain⟨F,K,e,s,w⟩:=A;obtain⟨as,ll,e1,w⟩:=uW w;obtain⟨k,e2,n,l,rfl,e3,ln,w⟩:=zX w;refine S ?_;clear S T;exact(F,K,as,ll,n,l,e,e1,e2,e3,ln,aj c (by rintro t ⟨ks,et,w⟩;exact (ks,et,λ G H' B=>(G,_,B,s,w))) w)
 |.fu i r,X,lp,PN,W,y,h=>by
  .refine(sS r (PN:=PN) y h).imp λ D L H A=>?_;obtain⟨F,K,e,s,w⟩:=A;obtain⟨as,ll,e1,w⟩:=uW w;obtain⟨G,B⟩:=e.fu e1;exact(G,_,B,s,w)
 |.xl i f l r,X,lp,PN,W,y,h=>by
  .refine lZ h λ qe _ rest k1=>?_;refine cE k1 λ g as w cp k2=>?_;refine uL k2 λ o name ap k3=>?_;refine aU k3 λ x p k4=>?_;refine dD k4 λ u k5=>?_;refine cE k5 λ g2 es w2 p3 k6=>?_;refine aU k6 λ z p2 k7=>?_;refine HT λ T S=>?_;obtain⟨k8,g4,g5,g6,g7,g8⟩:=a6 k7;obtain⟨z0,z1,z2,g2,g3⟩:=a5 k8;refine S ?_;clear S T;refine bQ z0 ?_;refine bQ z1 ?_;obtain⟨b1,rfl,b3,b4⟩:=au z2
   cases es with
   |nil=>exact TN g6
   |cons a es=>
   refine(bU (jF (Mh (F0:=F0) (H0:=H0) (PN:=PN) (p:=p) (p2:=p2) (p3:=p3) y.xo y.xs b1 g2 g3 b3 b4 g4 g5 g7)<|mf rfl)<|sS r (PN:=PN) y g8).imp λ D L H A=>?_;obtain⟨F,K,e,s,w⟩:=A;exact(F,K,e,nV (λ xs w=>bE l (by rintro ts ⟨P,sp,w⟩;exact (P,sp,λ t pt=>let ⟨m,e,lf,lz,w⟩:=w t pt;(m,e,lf,lz,λ G H' B=>(G,_,B,s,w)))) w) w)
end
noncomputable def YY(n:Nat)(V:List TV):En:=V.map TJ++TY (n-V.length) TM
section
variable {P:Uh}{w:Ui}{K:FG}{mg:SV}{Z:Ue}{J:Hp->Prop}{Y:List Yt}{GT:List TV}{U gs:List Str}
structure MOk (P:Uh)(w:Ui)(K:FG)(mg:SV)(J:Hp->Prop)(GT:List TV)(gs:List Str):Prop where
 hJ:JS J
 glb:∀(g:Nat) x t,gs[g]?=TJ x->GT[g]?=TJ t->t.nb=TK->∃v u,mg x=TJ u/\RelV v u/\∀F H,Rp K F H t v
 dic:∀(g:Nat) x l,gs[g]?=TJ x->GT[g]?=TJ (.bor l)->L6 P w K mg x l
 blt:∀x∈BN,mg x=TM
def Q4{R:TV->V->Prop}{S:List TV}{vs:List V}(j:Wd J F H)(r:∀ {i:Nat}{t:TV},S[i]?=TJ t->∃v,vs[i]?=TJ v/\R t v)(d:∀ {t v},R t v->Sr K F H t v)(y:∀ {l v},¬R (.own l) v)(m:∀ {W z v},¬R (.obj<|.lls W z) v):ER K J F H [] F H (Yy N vs)<|YY N.length S:=by
 have T:∀(i:Nat) t,(YY N.length S)[i]?=TJ (TJ t)->∃v,(Yy N vs)[i]?=TJ (TJ v)/\R t v:=λ i t h=>by
  have g:S[i]?=TJ t:=by
   unfold YY at h;by_cases c:i<S.length
   .rw[cU (by simpa using c),bc] at h
    cases q:S[i]? with
    |none=>rw[q] at h;cases h
    |some u=>rw[q] at h;cases h;rfl
   .rw[cS (by simpa using c),dY] at h;split at h<;>cases h
  obtain⟨v,A,b⟩:=r g;refine(v,?_,b);unfold Yy;rw[cU (by simpa using (aP.mp A).1),bc,A];rfl
 exact((j,λ i t h=>let ⟨v,e,q⟩:=T i t h;(v,e,d q)),.refl j,λ i l a h _=>let ⟨v,_,q⟩:=T i _ h;(y q).elim,λ i k l s v h _ _ _=>let ⟨v,_,q⟩:=T i _ h;(y q).elim,(λ p o=>by cases o),λ i W z h=>let ⟨v,_,q⟩:=T i _ h;(m q).elim)
def C8{vs:List V}(S:Wd J F H)(r:RpL K F H L vs):ER K J F H [] F H (Yy N vs)<|YY N.length L:=Q4 S r.get zB id id
def Mw(h:YG N L D){n:Nat}(e:n=L.length):n<=N.length:=by
 have z:=bT Vd h.pre;rw[bp] at z;lia
def Mx{N:List Str}{vs:List V}(h:vs.length<=N.length):(Yy N vs).length=N.length:=by
 unfold Yy;rw[aQ,af,fE];lia
noncomputable def ZP(s:Scope)(V N:List Str):Bool:=decide<|s.kind=.function/\s.isCoroutine=TL/\s.isGenerator=TL/\N.Nodup/\N.take V.length=V/\(∀x∈V,s.names.lookup x=TJ .local\/s.names.lookup x=TJ .cell)/\∀y∈s.names,y.2≠.free
def Ao(h:ZP s L N=TK):YG N L s:=let h:=au h;(h.1,h.2.1,h.2.2.1,h.2.2.2.1,h.2.2.2.2.1,h.2.2.2.2.2.1,h.2.2.2.2.2.2)
def zx{a:Bool}{N:List Str}{n p:Nat}(h:(a&&ZP s (N.take p) N&&decide (p<=N.length/\N.length=n))=TK):a=TK/\YG N (N.take p) s/\p<=N.length/\N.length=n/\(N.take p).length=p:=by
 obtain⟨S,V⟩:=an h;obtain⟨T,S⟩:=an S;have V:=au V;exact(T,Ao S,V.1,V.2,by rw[bp,lA V.1])
abbrev n6(P:Uh)(w:Ui)(K:FG)(mg:SV)(Z:Ue)(J:Hp->Prop)(U:List Str)(Y:List Yt)(k:Nat):Prop:=∀(f:Nat) x S,U[f]?=TJ x->Y[f]?=TJ S->∃V,Callee P w K mg Z YJ k x V (i6 K J S)
def uY{X:Cx}(K:X.calm=TK)(m:MOk X.prog X.w X.K X.mg J GT gs)(T:U.length=Y.length)(V:n6 X.prog X.w X.K X.mg X.base J U Y k)(W:Room k X.A):YC X J Y GT U gs :=
 (K,by have:=W.un;lia,m.hJ,λ g y S N A=>let ⟨F,c⟩:=V g y S N A;(k,F,W,c),m.glb,m.dic,m.blt,s1v T,zw T)
def FnOk.nvr{V:Sp}(h:∀vs H Q E,¬V vs H Q E):FnOk P w K mg Z L k f D B V:=(λ _ _ _ _ z=>(h _ _ _ _ z).elim,λ _ _ _ _ _ _ _ _ _ _ _ _ _ z=>(h _ _ _ _ z).elim)
theorem Fun.okG{st:Uc}{j:Sp}(F:Fun K x L st f D)(S:YG N B<|aB st)(z:∀vs H Q E,j vs H Q E->vs.length=B.length)
  (c:∀(A:Uk) (T:List Env) (s:TR) (H:Hp) (vs:List V) (Q:VK) (E:XK),Room k (A.deeper<|UE L (aB st) s.heap.objs.size f D.code)->(Yy N vs).length=N.length->j vs H Q E ->
   ∃t,PSs (dw G P w K mg Z N L (aB st) f D.code A T s H E) (aR st) t/\t { nx:=λ _ g=>Q .non g,rt:=Q } (Yy N vs) H):FnOk P w K mg Z G (k+1) f D B j:=by
 refine HT λ y W=>?_;obtain⟨e,i,kV,o,l,an,d,p,r,rfl,b,v⟩:=F.ex;refine W ?_;clear W y;exact xg b v S z λ A T s H vs Q E m h=>c A T s H vs Q E m (Mx<|Mw S<|z _ _ _ _ h) h
theorem Ap{st:Uc}{n p k:Nat}{S:Yt}(code:Ct)(F:Fun K x L st f D)(m:MOk P w K mg J GT gs)(a:U.length=Y.length)(d:n6 P w K mg Z J U Y k)
  (z:(br U gs N (aB st).names TK code (aR st)&&ZP (aB st) (N.take p) N&&decide (p<=N.length/\N.length=n))=TK) (b:∀V Q,S V Q->V.length=p/\wS Y GT code (YY n V) (λ _=>Q .non) Q):FnOk P w K mg Z YJ (k+1) f D (N.take p)<|i6 K J S:=by
 obtain⟨ck,i,_,rfl,G⟩:=zx z
 exact F.okG i (by rintro vs H Q E ⟨y,V,c,l,r,s,_⟩;exact by rw[<- r.length,G];exact(b _ _ s).1) λ A o s H vs Q E B M (y,V,c,l,r,I,T)=>
  (_,PSs.nox<|sS (F0:=y) (H0:=H) (PN:=[]) code (lp:=TK) (uY rfl m a d B,(rfl,rfl),i.nd,λ _ _=>rfl,λ _=>qE) ck,y,YY N.length V,C8 l r,M,bF code (λ O q W j R e _=>T .non q W j .non e.gr rfl) (λ t q W j v g r=>T t q W j v g r) (b V c I).2)
end
structure Gl' (K:FG)(x:Str)(st:Uc)(f:TQ)(fd:Uu):Prop where
 F:Fun K x x st f fd
 a:W.nsIn K Ua x=TJ (TJ<|.ref f)
def Gx(K:FG)(x:Str)(st:Uc):Prop:=∃f V,Gl' K x st f V
section
variable {K:FG}{st:Uc}{Y:Value}{U an:OA}{Z:AV}{kV:Value}
def gl_ex(a:W.nsIn K Ua x=TJ (TJ<|.ref f))(l:K.lookup f=TJ (Y,U,.func<|W.fnOf x x (gG st) (aR st) (aB st) .none kV L B an J D,Z))(c:W.codeIn K J x=TK)(k:W.keepIn K (.ref f)=TK):Gx K x st:=(_,_,tM l c k,a)
def gx_int(h:W.nsIn K Ua x=TJ (TJ<|.int i t)):∃t,W.nsIn K Ua x=TJ (TJ<|.int i t):=(_,h)
end
abbrev DR:=Str×List Str×Yt
noncomputable def YS(L:List DR)(j:Nat):List Str:=(L.take j).map (·.1)
noncomputable def YM(L:List DR)(j:Nat):List Yt:=(L.take j).map (·.2.2)
section
variable {P:Uh}{w:Ui}{K:FG}{Y:SV}{Z:Ue}{J:Hp->Prop}{U:List TV}{D:List Str}{L:List DR}
def Q5(P:Uh)(w:Ui)(K:FG)(Y:SV)(Z:Ue)(J:Hp->Prop)(L:List DR)(j:Nat):Prop:=∀x V S,L[j]?=TJ (x,V,S)->Callee P w K Y Z YJ (j+1) x V (i6 K J S)
def Cals(P:Uh)(w:Ui)(K:FG)(Y:SV)(Z:Ue)(J:Hp->Prop)(L:List DR)(j:Nat):Prop:=∀i,i<j->Q5 P w K Y Z J L i
def Cals.z:Cals P w K Y Z J L 0:=λ i h=>U1 h<|Nat.not_lt_zero _
def Cals.s(C:Cals P w K Y Z J L j)(c:Q5 P w K Y Z J L j):Cals P w K Y Z J L<|j+1:=λ i h=>by
 by_cases e:i=j
 .subst e;exact c
 .exact C i BT
def Cals.fns(C:Cals P w K Y Z J L j):n6 P w K Y Z J (YS L j) (YM L j) j:=λ f x S V T=>by
 unfold YS at V;unfold YM at T;rw[bc] at V T
 cases q:(L.take j)[f]? with
 |none=>rw[q] at V;cases V
 |some d=>
  rw[q] at V T;cases V;cases T;have W:f<j:=by have:=(aP.mp q).1;rw[bp] at this;lia
  rw[uZ,U0 W] at q;exact(_,(C f W d.1 d.2.1 d.2.2 q).mono BT)
def gh(j:Nat):(YS L j).length=(YM L j).length:=by unfold YS YM;rw[af,af]
def qF:Yt:=λ S Q=>∃V:Yr,S=[.lst<|V.map .int]/\V.length<=63/\Q (.bl TK)
def qG(K:FG)(J:Hp->Prop):Sp:=λ vs H Q _=>∃(a:TQ) (S:Yr),vs=[.ref a]/\SqL K H a (S.map V.int)/\S.length<=63/\J H/\∀T,Q (.bl TK) T
def Mz(F:FnOk P w K Y Z YJ k f B G<|i6 K J qF):FnOk P w K Y Z YJ k f B G<|qG K J:=F.imp λ vs H Q E (a,V,e,z,l,j,q)=>by
 subst e
 rcases z with T|A
 .have N:H a≠TM:=by rcases T with h|⟨o,h⟩<;>rw[h]<;>simp
  exact(λ b=>b=a,[.lst<|V.map .int],_,(j,λ b e=>by rw[show b=a from e];exact N),(_,_,on,(a,_,on,.inl (on,.inl T),RpL.ofInts V),on),(V,on,l,on),λ t e W S v _ r=>by subst e;cases r;exact q S)
 .exact(λ _=>False,[.lst<|V.map .int],_,(j,λ b e=>e.elim),(_,_,on,(a,_,on,.inr A,RpL.ofInts V),on),(V,on,l,on),λ t e W S v _ r=>by subst e;cases r;exact q S)
def cg{V:List TV}{W:En->Prop}(I:Nat->En->Prop)(j:I 0 B)(st:∀i t B,V[i]?=TJ t->I i B->Zh B M t λ S=>wS G U c S (I<|i+1) E)(N:∀B,I V.length B->W B):f8 (λ t B K=>Zh B M t λ S=>wS G U c S K E) V B W:=by
 have v:∀(r:List TV) (i:Nat) (B:En),V.drop i=r->i<=V.length->I i B->f8 (λ t B K=>Zh B M t λ S=>wS G U c S K E) r B W:=by
  intro r
  induction r with
  |nil=>
   intro i B e d h;have:i=V.length:=by have:=bT Vd e;rw[cW] at this;simp at this;lia
   subst this;exact N B h
  |cons t r g=>
   intro i B e d h;have A:i<V.length:=by have:=bT Vd e;rw[cW] at this;simp at this;lia
   rw[qz A] at e
   injection e with F z
   have y:V[i]?=TJ t:=by rw[aZ A,F]
   exact iy (λ S q=>bF c (λ T q=>g (i+1) T z BT q) (λ _ q=>q) q)<|st i t B y h
 exact v V 0 B rfl (cn _) j
end
end _L
namespace _L
set_option backward.match.sparseCases false
open TV renaming int->U2,tup->U3,str->U4
open PySem PySem.Spec PyProof.Rows PySem.W PySem.Calls
theorem MA{K:FG}{N O fv:List Str}{g:Str}{j:LA}{vs vcs:List V}{H:Hp}{Q:VK}
  (S:Za N O fv Z) (hcl:j.map (·.1)=fv)
  (X:∀(pm E:Value) (C:LV),C.length=O.length->VF (kla_fn "<lambda>" g Y L Z j pm (.ref G) E) (C,[])=Uo (O.zip C)) (hl:vs.length=O.length)
  (L1:H R=TJ (fK R G g Y L Z j)) (_L:H G=TJ (gH G g)) (f:CelAt H j vcs)
  (M:∀(A:Uk) (T:List Env) (s:TR),Room k (A.deeper<|envX g Z s.heap.objs.size R (.ref G)<|Um (s.heap.objs.size+1) Z.names []++j)->PE (qh P w K mg U N g Z R (.ref G) j A T s<|minC H j) L te)
  (F:te (Yy N<|vs++vcs) (minC H j) λ v a=>(∀q∈j,a q.2=TM)->Q v (Zl H a j)):qi P w K mg U (k+1) R vs H Q:=by
 intro A T s C hr D r;refine HT λ B m=>?_;obtain⟨⟨pm,E,ho⟩,_⟩:=D.hok R _ L1;obtain⟨hcd,_⟩:=D.hok G _ _L;refine m ?_;clear m B;have lim:s.heap.NoLimit:=D.mod.nolimit.keeps λ b o e=>(D.bs b o e).1
 have YQ:∀y∈O.zip C,Z.names.lookup y.1=TJ .local\/(Z.names.lookup y.1=TJ .cell/\((Um (s.heap.objs.size+1) Z.names []).lookup y.1).isSome=TK):=λ(n,v) hy=>by
  rcases S.par n (pE hy).1 with q|q
  .exact .inl q
  .exact .inr (q,pF _ _ _<|.inl q)
 refine kla_callFunE hr.depth ho rfl S.co S.gen rfl hcd ?_;rw[X pm E C<|by rw[<- r.length];exact hl];refine aq<|IS S.kind YQ λ env he s1 x=>?_;subst he;refine(lim.keeps x.toInCall.keep,kla_codeExpr ?_);have I:Inv (qh P w K mg U N g Z R (.ref G) j A T s<|minC H j) [] (Yy N<|vs++vcs) (minC H j) s1:=IV S hr.hd D hl r hcl f x;refine cj (M A T s (hr.deeper _) [] s1 _ _ _ I F) (λ u s' hs=>?_) λ e s' hs=>Uw hs;obtain⟨v,a,J,rv,q⟩:=hs;have l:Un (YF T) [] (minC H j) a s.heap s'.heap:=J.base
 have nfr:∀q∈j,q.2 ∉ YF T:=λ q F z=>by
  obtain⟨o,v,e⟩:=f.mem F;rw[D.frf _ z] at e;cases e
 have kc:∀q∈j,∀o,s.heap.get? q.2=TJ o->s'.heap.get? q.2=TJ o/\a q.2=TM:=λ q F o e=>(l.keep _ o e (qg F) (nfr q F) Cr,l.free _ o e (qg F) Cr)
 have i:∀q∈j,∃o,s.heap.get? q.2=TJ o:=λ q F=>by
  obtain⟨o,v,e⟩:=f.mem F;exact(o,(D.hok _ _ e).1)
 have W:∀b,(∃q∈j,q.2=b)\/∀q∈j,q.2≠b:=λ b=>by
  by_cases c:∃q∈j,q.2=b
  .exact .inl c
  .exact .inr λ q F e=>c (q,F,e)
 refine(v,Zl H a j,J.os,J.bare,(λ b o e n X h=>l.keep b o e (lx n) X h,λ b o e n X h=>l.slot b o e (lx n) X h,λ b o e n h=>?_,l.there,λ b xs e=>?_,λ b o u e=>?_,λ b O e=>?_),λ b o e=>?_,rv,q λ p hp=>let ⟨o,eo⟩:=i p hp;(kc p hp o eo).2)
 .rcases W b with ⟨q,F,rfl⟩|d
  .rw[ly F];exact n
  .rw[gI d];exact l.free b o e (lx n) h
 .rcases W b with ⟨q,F,rfl⟩|d
  .rw[ly F];exact e
  .rw[gI d];exact l.tups b xs (by rw[dC d];exact e)
 .rcases W b with ⟨q,F,rfl⟩|d
  .rw[ly F];exact e
  .rw[gI d];exact l.frzs b o u (by rw[dC d];exact e)
 .rcases W b with ⟨q,F,rfl⟩|d
  .obtain⟨o,v,t⟩:=f.mem F;rw[e] at t;cases t
  .rw[gI d];exact l.tbls b O (by rw[dC d];exact e)
 .rcases W b with ⟨q,F,rfl⟩|d
  .rw[ly F] at e;obtain⟨o2,v2,t⟩:=f.mem F;rw[e] at t;cases t;refine HT λ B m=>?_;obtain⟨g1,⟨u2,ru,ic⟩,_,st⟩:=D.hok _ _ e;refine m ?_;clear m B;have k1:=(kc q F _ g1).1;refine(k1,(u2,ru,?_),(_,k1),st);obtain⟨o3,e3,d3⟩:=ic;rw[g1] at e3;cases e3;exact(_,k1,d3)
  .rw[gI d] at e
   have nf:∀c u,a c=TJ u->Zl H a j c=TJ u:=λ c u t=>by
    rcases W c with ⟨q,F,rfl⟩|d
    .obtain⟨o,eo⟩:=i q F;rw[(kc q F o eo).2] at t;cases t
    .rw[gI d];exact t
   exact(J.hok b o e).stay (λ _ _ _ q=>q) (λ c q=>nf c _ q) λ c xs q=>nf c _ q
def TbJ(L:List<|TQ×Pos×Str)(H:Hp):Prop:=∀x∈L,TabOk H x.1 x.2.1 x.2.2
def TabOk.sm{H V:Hp}(h:TabOk H T Y Z)(s:∀a o,(∀vs,o≠.lst vs)->(∀b u,o≠.frz b u)->H a=TJ o->V a=TJ o):TabOk V T Y Z:=by
 obtain⟨N,e,t,q⟩:=h;refine(N,s _ _ (λ _ z=>nomatch z) (λ _ _ z=>nomatch z) e,t,q.imp id<|by rintro ⟨c,S,W⟩;exact (c,S,s _ _ (λ _ z=>nomatch z) (λ _ _ z=>nomatch z) W))
section
variable {K:FG}{F:Fz}{H1 H2 Z:Hp}{cl:LA}{vcs:List V}
def TbJ.sm(h:TbJ L H)(s:∀a o,(∀vs,o≠.lst vs)->(∀b u,o≠.frz b u)->H a=TJ o->Z a=TJ o):TbJ L Z:=λ x V=>(h x V).sm s
def TbJ.js:JS<|TbJ L:=(λ H p o n h=>h.sm λ a u _ _ e=>by rw[av λ z=>by rw[z,n] at e;cases e];exact e,
 λ H p vs V n h=>h.sm λ a u k _ e=>by rw[av λ z=>by rw[z,n] at e;cases e;exact k _ rfl];exact e)
def Aq(cl:LA)(b:TQ):(∃q∈cl,q.2=b)\/∀q∈cl,q.2≠b:=by
 by_cases c:∃q∈cl,q.2=b
 .exact .inl c
 .exact .inr λ q V e=>c (q,V,e)
def nZ(V:CelAt H cl vcs)(h:H a=TJ o)(n:∀b c v,o≠.frz b (lw c v)):minC H cl a=TJ o:=by
 rw[dC λ q S z=>by obtain⟨b,v,e⟩:=V.mem S;rw[z,h] at e;exact n _ _ _<|bS e];exact h
def Rd.min{u:HO}(V:CelAt H cl vcs)(n:∀S,u≠.ext S)(k:∀b v,u≠.frz b v)(h:Rd H a u):Rd (minC H cl) a u:=by
 rcases h with h|⟨o,h⟩
 .exact .inl<|nZ V h λ _ _ _=>k _ _
 .exact .inr (o,nZ V h λ b c v z=>by injection z with _ z;exact n _ z)
def Ar(V:CelAt H cl vcs):Ke K F H F<|minC H cl:=(λ a vs h=>h.imp (λ h=>h.min V (λ _ z=>nomatch z) λ _ _ z=>nomatch z) id,λ a vs h=>h.imp λ f h=>(f,h.imp (λ h=>h.min V (λ _ z=>nomatch z) λ _ _ z=>nomatch z) id))
def MB(V:CelAt H cl vcs)(T:∀q∈cl,¬F q.2)(w:Wd (TbJ L) F H):Wd (TbJ L) F<|minC H cl:=(w.j.sm λ a o _ k e=>nZ V e λ _ _ _=>k _ _,λ a f=>by
 rw[dC λ q S z=>T q S<|z ▸ f];exact w.d a f)
def vc(S:∀q∈cl,Z q.2=TM)(h:Z a≠TM):Zl H1 Z cl a=Z a:=gI λ q V z=>h<|z ▸ S q V
def Rd.res(V:∀q∈cl,Z q.2=TM)(h:Rd Z a u):Rd (Zl H1 Z cl) a u:=by
 rcases h with h|⟨o,h⟩
 .exact .inl (by rw[vc V<|by rw[h];simp];exact h)
 .exact .inr (o,by rw[vc V<|by rw[h];simp];exact h)
def MC(V:∀q∈cl,Z q.2=TM):Ke K F Z F<|Zl H1 Z cl:=(λ a vs h=>h.imp (λ h=>h.res V) id,λ a vs h=>h.imp λ f h=>(f,h.imp (λ h=>h.res V) id))
structure Hand (cl:LA)(vcs:List V)(H1 H2:Hp):Prop where
 fr:∀q∈cl,H1 q.2=TM
 at_:CelAt H2 cl vcs
 eq:∀b,(∀q∈cl,q.2≠b)->H2 b=H1 b
def Hand.to(h:Hand cl vcs H1 H2)(e:H1 a=TJ o):H2 a=TJ o:=by
 rw[h.eq a λ q V z=>by have:=h.fr q V;rw[z,e] at this;cases this];exact e
def Hand.wd(h:Hand cl vcs H1 H2)(w:Wd (TbJ L) F H1):Wd (TbJ L) F H2:=(w.j.sm λ a o _ _ e=>h.to e,λ a f=>by
 cases e:H1 a with
 |none=>exact U1 e<|w.d a f
 |some o=>rw[h.to e];simp)
def Hand.ke(h:Hand cl vcs H1 H2):Ke K F H1 F H2:=(λ a vs q=>q.sm λ a o _ e=>h.to e,λ a vs q=>q.imp λ f q=>(f,q.sm λ a o _ e=>h.to e))
def Hand.nf(h:Hand cl vcs H1 H2)(w:Wd (TbJ L) F H1)(g:Grow (TbJ L) F H2 Y Z):∀q∈cl,¬Y q.2:=λ q V f=>by
 rcases g.nw _ f with z|z
 .exact w.d _ z<|h.fr q V
 .obtain⟨o,v,e⟩:=h.at_.mem V;rw[z] at e;cases e
def Hand.cel(h:Hand cl vcs H1 H2)(g:Grow (TbJ L) F H2 Y Z):CelAt Z cl vcs:=(h.at_.len,λ i q e=>let ⟨v,o,V,S⟩:=h.at_.at_ i q e;(v,o,V,g.sm _ _ (λ T z=>nomatch z) S),h.at_.apart)
def Hand.back(h:Hand cl vcs H1 H2)(w:Wd (TbJ L) F H1)(g:Grow (TbJ L) F H2 Y Z):Grow (TbJ L) F H1 Y<|minC Z cl:=by
 have nf:=h.nf w g;have S:∀a,H1 a≠TM->∀q∈cl,q.2≠a:=λ a e q V z=>e<|z ▸ h.fr q V;refine(λ a o n e=>?_,λ a e=>?_,g.up,λ a f=>?_,MB (h.cel g) nf g.w)
 .rw[dC<|S a<|by rw[e];simp];exact g.sm a o n<|h.to e
 .rw[dC<|S a e];exact g.dm a (by rw[h.eq a<|S a e];exact e)
 .rcases g.nw a f with z|z
  .exact .inl z
  .refine .inr ?_
   rwa [h.eq a λ q V e=>nf q V<|e ▸ f] at z
end
theorem As(S:Env)(V:List Uc):∀T:List Uc,Wz (T++V) S=(Wz T S >>= λ f=>match f with|.next=>Wz V S|f=>Uo f)
 |[]=>by
  rw[tJ];unfold Wz;simp
 |st::T=>by
  rw[pY];rw[Wz,Wz,As S V T];simp[bind_assoc]
  congr 1;funext f;cases f<;>simp
def vd(N:PSs X Y t)(A:PSs X Z u):PSs X (Y++Z)<|sv t u:=by
 intro S s K H D I h;rw[As];refine ae<|Yw (N S s K H { D with nx:=u D } I h) λ f s1 q=>?_
 cases f with
 |next=>obtain⟨V,T,W,q⟩:=q;exact A S s1 V T D W q
 |ret v|brk|cont=>exact aq q
noncomputable def ZI(l:List<|Str×Uj):List Str:=((l.filter (·.2 == Ux)).map (·.1)).reverse
theorem vf{env:Env}:∀(l:List<|Str×Uj) (V:LA),(∀x,(x,Ux)∈l->∃c,env.cells.lookup x=TJ c) ->
  ∃Y,(forIn l V (λ(x:Str × Uj) (r:LA)=>(match x with
   |(Z,U)=>if (U == Ux)=TK then (do let y <- Wv env Z;Uo (Vz<|(Z,y)::r)) else Uo (Vz r):Sem<|ForInStep<|LA)):Sem<|LA)=Uo (Y++V) /\
   Y.map (·.1)=ZI l/\∀q∈Y,env.cells.lookup q.1=TJ q.2
 |[],V,_=>([],rfl,rfl,λ q h=>by cases h)
 |(n,k)::l,V,h=>by
  by_cases S:k=.free
  .subst S;obtain⟨c,A⟩:=h n Cr;obtain⟨Y,e,W,N⟩:=vf l ((n,c)::V) λ x T=>h x (by simp[T]);refine(Y++[(n,c)],?_,?_,λ q K=>?_)
   .rw[nL];have:Wv env n=Uo c:=by unfold Wv;rw[A]
    simp only[this,lj,fW,s2a];rw[jJ];exact e
   .rw[bG,W];unfold ZI;rw[qH Cr];simp
   .rcases cy.mp K with z|z
    .exact N q z
    .cases aK.mp z;exact A
  .obtain⟨Y,e,W,N⟩:=vf l V λ x T=>h x (by simp[T]);refine(Y,?_,?_,N)
   .rw[nL];have:(k == Ux)=TL:=by simpa using S
    simp only[this,nM,u3,s2a];exact e
   .rw[W];unfold ZI;rw[qI<|by simpa using S]
def MD{scope:Scope}{env:Env}(h:∀x∈ZI scope.names,∃c,env.cells.lookup x=TJ c):∃Z,Vb scope env=Uo Z/\OwnCl env.cells (ZI scope.names) Z:=by
 obtain⟨Z,e,S,T⟩:=vf (env:=env) scope.names [] λ x V=>h x (by unfold ZI;simp only[List.mem_reverse,bg,gS];exact(_,(V,Cr),rfl));refine(Z,?_,S,T);unfold Vb;simp only[bind_pure];rw[eR] at e;exact e
noncomputable def TV.pl:TV->Bool
 |.own _=>TL
 |.bor _=>TL
 |.obj _=>TL
 |_=>TK
section
variable {K:FG}
def ME{H V S}{t:TV}(p:t.pl=TK)(h:Rr K H V S t v):Rp K V S t v:=by
 cases t<;>first|exact h|cases p
variable {W:List Yt}{A:List TV}{R E:List Str}{F B:Fz}{S M I:Hp}{G:LA}{D:List V}{U:List TV}{N C fv:List Str}{T O:TQ}{J L:Str}{Z:Vh}{Y:Scope}{k:Nat}{a b:TV}{p:V}{Q:VK}
end
section
variable {K:FG}{L:List (TQ×Pos×Str)}{W:List TV}{E:List Str}
theorem At{V F:Type}{f:V->F}:∀ {l:List V}{a b:V},(l.map f).Nodup->a∈l->b∈l->f a=f b->a=b
 |c::l,a,b,n,A,K,e=>by
  rw[cB,gB] at n
  rcases aD.mp A with S|W<;>rcases aD.mp K with T|N
  .rw[S,T]
  .exact U1 (bg.mpr (b,N,by rw[<- e,S])) n.1
  .exact U1 (bg.mpr (a,W,by rw[e,T])) n.1
  .exact At n.2 W N e
def MF{T:TQ}{Z:Pos}{U:Str}(s:(L.map (·.1)).Nodup)(m:(T,Z,U)∈L)(A:Wd (TbJ L) F H)(j:TabOk H' T Z U)(S:∀b o,b≠T->H b=TJ o->H' b=TJ o):Grow (TbJ L) F H F H':=by
 refine HT λ W V=>?_;obtain⟨B,e,_⟩:=A.j _ m;obtain⟨p,g,_⟩:=id j;refine V ?_;clear V W
 have K:∀a,H a≠TM->H' a≠TM:=λ a h=>by
  by_cases z:a=T
  .subst z;rw[g];simp
  .cases q:H a with
   |none=>exact U1 q h
   |some o=>rw[S a o z q];simp
 refine(λ a o n h=>S a o (λ z=>by rw[z,show H T=_ from e] at h;cases h;exact n _ rfl) h,K,λ _ f=>f,λ _ f=>.inl f,(λ x v=>?_,λ a f=>K a<|A.d a f));by_cases z:x.1=T
 .have:x=(T,Z,U):=At s v m z;subst this;exact j
 .obtain⟨t,d,k,r⟩:=A.j x v;exact(t,S _ _ z d,k,r.imp id<|by rintro ⟨c,i,N⟩;exact (c,i,S _ _ (λ y=>by rw[y,show H T=_ from e] at N;cases N) N))
variable {x M J U:Str}{st:Uc}{f c T:TQ}{R:Uu}{N B D I:List Str}{u:List Nat}{k P:Nat}{S:Yt}{A:TV->List TV->Prop}{G:List Uc}{e:Expr}{Y:Vh}{V:Scope}{Z C O Q X:Pos}
end
section
variable {P:Uh}{w:Ui}{K:FG}{E:SV}{Z:Ue}{L:List (TQ×Pos×Str)}{B:List Yt}{G:List TV}{T S:List Str}
variable {X:Cx}{N:List Str}{I:List (Str×Uj)}{M W:Nat}{A:TV->List TV->Prop}{SA:Yt}
variable {R q J d:Str}{st:Uc}{f:TQ}{H:Uu}{k:Nat}{z C O v F y u j g D V U Y:Pos}{Q:Nat}{o:Scope}
end
noncomputable abbrev Cd.a1(a:Cd):Cd:=.cons a .nil
noncomputable abbrev Cd.a2(a b:Cd):Cd:=.cons a<|.cons b .nil
noncomputable abbrev Cd.a3(a b c:Cd):Cd:=.cons a<|.cons b<|.cons c .nil
noncomputable abbrev Cd.n(i:Int):Cd:=.c<|.int i
noncomputable abbrev Cd.w(x:Str):Cd:=.c<|.str x
noncomputable abbrev Cd.eq(a b:Cd):Cd:=.cmp .Eq a b
noncomputable abbrev dr(x:Str)(V:List Str)(S:Yt):DR:=(x,V,S)
section
variable {K:FG}{J:Hp->Prop}{Y:List TV}{Z:List Str}
theorem Cals.fn{x:Str}{V:List Str}{st:Uc}{S:Yt}(C:Cals P w K B U J D j)(N:∀ {x:Str}{v:Option Value},W.nsIn K Ua x=TJ v->B x=v)(e:D[j]?=TJ (x,V,S))(g:Gl' K x st f L)
  (b:∀f L,Fun K x x st f L->Binds K L V []) (A:FnOk P w K B U YJ (j+1) f L V<|i6 K J S):Cals P w K B U J D<|j+1:=by
 refine C.s λ y F z T=>?_;rw[e] at T;cases T;exact Callee.mk' g.F (N g.a) (b f L g.F) A
def Cals.to{i j:Nat}(C:Cals P w K L U J D j)(h:i<=j):Cals P w K L U J D i:=λ n V=>C n<|bH V h
structure ZQ (K:FG)(x:Str)(st:Uc)(f:TQ)(fd:Uu)(c T:TQ):Prop extends Gl' K x st f fd where
 hc:fd.code=.ref c
 tb:W.tabIn K x=TJ (c,T)
end
noncomputable abbrev V0:Cd:=.v 0
noncomputable abbrev V1:Cd:=.v 1
noncomputable abbrev V2:Cd:=.v 2
noncomputable abbrev V3:Cd:=.v 3
noncomputable abbrev V4:Cd:=.v 4
noncomputable abbrev V5:Cd:=.v 5
noncomputable abbrev V6:Cd:=.v 6
noncomputable abbrev V7:Cd:=.v 7
noncomputable abbrev V8:Cd:=.v 8
noncomputable abbrev V9:Cd:=.v 9
noncomputable abbrev ZJ:Cd:=.v 10
noncomputable abbrev i7:Cd:=.v 11
noncomputable abbrev N0:Cd:=.c<|.int 0
noncomputable abbrev N1:Cd:=.c<|.int 1
noncomputable abbrev N2:Cd:=.c<|.int 2
noncomputable abbrev N3:Cd:=.c<|.int 3
noncomputable abbrev N4:Cd:=.c<|.int 4
noncomputable abbrev N5:Cd:=.c<|.int 5
noncomputable abbrev N6:Cd:=.c<|.int 6
noncomputable abbrev N7:Cd:=.c<|.int 7
noncomputable abbrev N8:Cd:=.c<|.int 8
noncomputable abbrev N9:Cd:=.c<|.int 9
noncomputable abbrev C9:Cd:=.c<|.int 10
noncomputable abbrev F9:Cd:=.c<|.int 11
noncomputable abbrev Cd.x(i:Nat)(j:Int):Cd:=.ix (.v i)<|.c<|.int j
abbrev Cd.c1(f:Nat)(a:Cd):Cd:=.call f<|.a1 a
abbrev Cd.c2(f:Nat)(a b:Cd):Cd:=.call f<|.a2 a b
abbrev Cd.c3(f:Nat)(a b c:Cd):Cd:=.call f<|.a3 a b c
abbrev Cd.ln(a:Cd):Cd:=.bi .len<|.a1 a
abbrev Cd.b1(f:BI)(a:Cd):Cd:=.bi f<|.a1 a
abbrev Cd.b2(f:BI)(a b:Cd):Cd:=.bi f<|.a2 a b
noncomputable abbrev Cd.st(a b:Cd):Cd:=.sl a (.c .non) b
noncomputable abbrev Cd.sf(a b:Cd):Cd:=.sl a b<|.c .non
noncomputable abbrev Cd.es(a:Cd)(x:Str):Cd:=.cmp .Eq a<|.c<|.str x
noncomputable abbrev Cd.t0:Cd:=.tup .nil
noncomputable abbrev Cd.l0:Cd:=.lst .nil
abbrev Cd.t1(a:Cd):Cd:=.tup<|.a1 a
abbrev Cd.t2(a b:Cd):Cd:=.tup<|.a2 a b
abbrev Cd.t3(a b c:Cd):Cd:=.tup<|.a3 a b c
noncomputable abbrev Ct.nv(c:Cd)(r:Ct):Ct:=.ite c .never .nil r
noncomputable abbrev Ct.r(c x:Cd)(r:Ct):Ct:=.ite c (.ret x) .nil r
noncomputable abbrev Ct.i(c:Cd)(a r:Ct):Ct:=.ite c a .nil r
noncomputable abbrev Cd.ad(a b:Cd):Cd:=.bin .Add a b
noncomputable abbrev Cd.sb(a b:Cd):Cd:=.bin .Sub a b
noncomputable abbrev Cd.ml(a b:Cd):Cd:=.bin .Mult a b
noncomputable abbrev Cd.dv(a b:Cd):Cd:=.bin .FloorDiv a b
noncomputable abbrev Cd.md(a b:Cd):Cd:=.bin .Mod a b
noncomputable abbrev Cd.lt(a b:Cd):Cd:=.cmp .Lt a b
noncomputable abbrev Cd.gt(a b:Cd):Cd:=.cmp .Gt a b
noncomputable abbrev Cd.ne(a b:Cd):Cd:=.cmp .NotEq a b
noncomputable abbrev Cd.ge(a b:Cd):Cd:=.cmp .GtE a b
def qJ:Nat->(LV->Prop)->Prop
 |0,Q=>Q []
 |n+1,Q=>∀u,qJ n λ l=>Q<|u::l
theorem vg:∀ {n:Nat}{Q:LV->Prop},qJ n Q->∀V:LV,V.length=n->Q V
 |0,_,h,V,e=>by rw[nR e];exact h
 |_+1,_,h,_::V,e=>vg (h _) V (Nat.succ.inj e)
structure CM (P:Uh)(w:Ui)(K:FG)(mg:SV)(base:Ue)(J:Hp->Prop)(GT:List TV)(gs:List Str)(D:List DR)(j:Nat):Prop where
 c:Cals P w K mg base J D j
 m:MOk P w K mg J GT gs
 hm:∀ {x:Str}{v:Option Value},W.nsIn K Ua x=TJ v->mg x=v
abbrev w5(D:List DR)(T:List TV)(W:List Str)(j:Nat)(st:Uc)(N:List Str)(n p:Nat)(S:Yt)(c:Ct):Prop:=(br (YS D j) W N (aB st).names TK c (aR st)&&ZP (aB st) (N.take p) N&&decide (p<=N.length/\N.length=n))=TK/\∀V Q,S V Q->V.length=p/\wS (YM D j) T c (YY n V) (λ _=>Q .non) Q
section
variable {K:FG}{J:Hp->Prop}{Y:List TV}{U:List Str}{p:Nat}{x:Str}{N:List Str}{st:Uc}{code:Ct}{A:TV->List TV->Prop}{f:TQ}{Z:Uu}
abbrev Bds(x:Str)(st:Uc)(K:List Str)(p:Nat):Prop:=qJ p λ T=>∀(kV S A:Value) (an:OA) (V N:Value),VF (W.fnOf x x (gG st) (aR st) (aB st) .none kV S A an V N) (T,[])=Uo (K.zip T)
def Bds.ok(h:Bds x st (N.take p) p)(l:p<=N.length)(f:TQ)(Z:Uu)(F:Fun K x x st f Z):Binds K Z (N.take p) []:=F.binds λ kV S A an V T z W=>vg h z (by rw[W,bp,lA l]) kV S A an V T
def CM.cal(C:CM P w K B L J Y U D j)(g:Gl' K x st f Z)(b:Bds x st (N.take p) p)(l:p<=N.length)(V:FnOk P w K B L G k f Z (N.take p) E):Callee P w K B L G k x (N.take p) E:=Callee.mk' g.F (C.hm g.a) (b.ok l f Z g.F) V
def CM.d(C:CM P w K B L J Y U D j)(g:Gx K x st)(z:w5 D Y U j st N n p S code)(e:autoParam (D[j]?=TJ (x,N.take p,S)) Ty._auto_1)(b:autoParam (Bds x st (N.take p) p) H9._auto_1):CM P w K B L J Y U D<|j+1:=by
 obtain⟨f,Z,V⟩:=g;exact(C.c.fn C.hm e V (b.ok (zx z.1).2.2.1)<|Ap code V.F C.m (gh j) C.c.fns z.1 z.2,C.m,C.hm)
def CM.law(C:CM P w K B L J Y U D j)(g:Gl' K x st f Z)(z:w5 D Y U j st N n p qF code):FnOk P w K B L YJ (j+1) f Z (N.take p)<|qG K J:=Mz<|Ap code g.F C.m (gh j) C.c.fns z.1 z.2
end
inductive Cw where
 |no|call (f:Nat) (l:Cd)|fst (e:Cw)|snd (c:Cd) (e:Cw)|sub (e:Cw)
noncomputable def Cw.ctorIdx(t:Cw):Nat:=t.casesOn 0 (λ _ _=>1) (λ _=>2) (λ _ _=>3) (λ _=>4)
inductive Cq where
 |nil|no|rs (k:Nat) (l:Cd)|rb (l:Cd)|ret (e:Cw)|sx (i:Nat) (e:Cw)|ex (e:Cw) (c:Cd) (r:Cq)|set (i:Nat) (c:Cd) (r:Cq)|ite (c:Cd) (a b r:Cq)
noncomputable def Cq.ctorIdx(t:Cq):Nat:=t.casesOn 0 1 (λ _ _=>2) (λ _=>3) (λ _=>4) (λ _ _=>5) (λ _ _ _=>6) (λ _ _ _=>7) (λ _ _ _ _=>8)
inductive XI where
 |c (k:Nat)|b (a:Int) (w:Str)
noncomputable def XI.ctorIdx(t:XI):Nat:=t.casesOn (λ _=>0) (λ _ _=>1)
abbrev YT:=List TV->(XI->Prop)->Prop
section
variable (Z:List Yt)(Y:List TV)(U:List YT)
def wX:Cw->En->(XI->Prop)->Prop
 |.no,_,_=>False
 |.call f l,V,E=>wL Z Y l V λ T=>∃P,(∃S,U[f]?=TJ S/\S (T.map .fz) P)/\∀n,P n->E n
 |.fst e,V,E=>wX e V E
 |.snd c e,V,E=>wE Z Y c V λ _=>wX e V E
 |.sub e,V,E=>wX e V E
def wR:Cq->En->(En->Prop)->(XI->En->Prop)->Prop
 |.nil,V,S,_=>S V
 |.no,_,_,_=>False
 |.rs k l,V,_,E=>wL Z Y l V λ W=>W.length<=TW/\E (.c k) V
 |.rb l,V,_,E=>wL Z Y l V λ W=>∃t a w,W=[.str t,.int a,.str w]/\E (.b a w) V
 |.ret e,V,_,E=>wX Z Y U e V λ n=>E n V
 |.sx _ e,V,_,E=>wX Z Y U e V λ n=>E n V
 |.ex e c r,V,S,E=>(wX Z Y U e V λ n=>E n V)\/wE Z Y c V λ _=>wR r V S E
 |.set i c r,V,S,E=>wE Z Y c (fzC c V) λ t=>t.nb=TK/\wR r ((fzC c V).set i<|TJ t) S E
 |.ite c a b r,V,S,E=>wE Z Y c V λ t=>b1 t λ k=>if k=TK then wR a V (λ T=>wR r T S E) E else wR b V (λ T=>wR r T S E) E
end
noncomputable def oS{V:Type}(o:Option V)(k:V->Bool):Bool:=match o with|some x=>k x|none=>TL
@[elab_as_elim] theorem kj{S:Type}{V:Option S->Prop}{o:Option S}{k:S->Bool}(h:oS o k=TK)(f:∀x,k x=TK->V (TJ x)):V o:=by
 cases o with
 |none=>exact TN h
 |some x=>exact f x h
noncomputable def M0(l:List Uc)(k:Option Expr->Option Expr->Pos->List Uc->Bool):Bool:=match l with|.Raise x p q::l=>k x p q l|_=>TL
@[elab_as_elim] theorem Au{V:List Uc->Prop}{l:List Uc}{k:Option Expr->Option Expr->Pos->List Uc->Bool}(h:M0 l k=TK)(f:∀x p q t,k x p q t=TK->V (.Raise x p q::t)):V l:=by
 cases l with
 |nil=>exact TN h
 |cons a t=>cases a<;>first|exact f _ _ _ _ h|exact TN h
noncomputable def cJs(e:Expr)(k:List Expr->Bool):Bool:=match e with|.JoinedStr l _=>k l|_=>TL
@[elab_as_elim] theorem TD{V:Expr->Prop}{e:Expr}{k:List Expr->Bool}(h:cJs e k=TK)(f:∀l p,k l=TK->V (.JoinedStr l p)):V e:=by
 cases e<;>first|exact f _ _ h|exact TN h
noncomputable def cFv(e:Expr)(k:Expr->Bool):Bool:=match e with|.FormattedValue v n o _=>decide (n=114)&&o.isNone&&k v|_=>TL
@[elab_as_elim] theorem TH{V:Expr->Prop}{e:Expr}{k:Expr->Bool}(h:cFv e k=TK)(f:∀v p,k v=TK->V (.FormattedValue v 114 TM p)):V e:=by
 cases e<;>first|(obtain⟨a,b,c⟩:=a3 h;cases au a;cases lY.mp b;exact f _ _ c)|exact TN h
section
variable (Y U V:List Str)(J:Bool)(N:List Str)(Z:List<|Str×Uj)
def n9:Cw->Expr->Bool
 |.no,_=>TK
 |.call f l,e=>cr e λ g S w _=>be g λ x _=>cC S λ a V=>w.isEmpty&&decide (Y[f]?=TJ x)&&gl Z x&&Zd x&&ckL Y U l N Z (a::V)
 |.fst c,e=>(cr e λ g S w _=>be g λ x _=>cC S λ a V=>w.isEmpty&&decide (x∈Y)&&gl Z x&&Zd x&&aM a&&V.all aM&&n9 c a) || jW e λ V _ _=>cC V λ a _=>aM a&&n9 c a
 |.snd c d,e=>cr e λ g S w _=>be g λ x _=>cC S λ a r=>cC r λ b V=>w.isEmpty&&decide (x∈Y)&&gl Z x&&Zd x&&aM a&&aM b&&V.all aM&&ck Y U c N Z a&&n9 d b
 |.sub d,e=>jY e λ x y _=>jm y&&n9 d x
noncomputable def nsw(e:Expr):Bool:=match e with|.Call ..=>TK|.Subscript ..=>TK|_=>TL
def d6:Bool->Cq->List Uc->Bool
 |_,.nil,S=>S.isEmpty
 |_,.no,_=>TK
 |T,.rs k l,S=>M0 S λ e c _ _=>oS e λ e=>cr e λ g W w _=>be g λ x _=>cC W λ a A=>w.isEmpty&&c.isNone&&T&&decide (V[k]?=TJ x)&&gl Z x&&Zd x&&ckL Y U l N Z (a::A)
 |_,.rb l,S=>M0 S λ e c _ _=>oS e λ e=>cr e λ g W w _=>be g λ x _=>cC W λ a A=>w.isEmpty&&c.isNone&&J&&decide (x="BadStep")&&gl Z x&&ckL Y U l N Z (a::A)
 |_,.ret c,S=>F8 S λ e _ _=>oS e λ e=>n9 Y U N Z c e
 |_,.sx i c,S=>m8 S λ K e _ _=>c1 K λ t=>be t λ x _=>nsw e&&v7 N Z i x&&n9 Y U N Z c e
 |T,.ex d c r,S=>v9 S λ e _ rest=>v5 e&&n9 Y U N Z d e&&ck Y U c N Z e&&d6 T r rest
 |T,.set i c r,S=>m8 S λ K e _ rest=>c1 K λ t=>be t λ x _=>v7 N Z i x&&ck Y U c N Z e&&d6 T r rest
 |T,.ite c a b r,S=>L9 S λ t x y _ rest=>tB' c t&&ck Y U c N Z t&&d6 T a x&&d6 T b y&&d6 T r rest
end
section
variable {Z:List TV}
theorem ju:∀(c:Cw) {S:En}{E V:XI->Prop},(∀n,E n->V n)->wX Y Z U c S E->wX Y Z U c S V
 |.no,_,_,_,_,q=>q.elim
 |.call f l,_,_,_,h,q=>bE l (by rintro T ⟨P,a,b⟩;exact (P,a,λ n p=>h n<|b n p)) q
 |.fst e,_,_,_,h,q=>by unfold wX at *;exact ju e h q
 |.snd c e,_,_,_,h,q=>by unfold wX at *;exact aj c (λ t q=>ju e h q) q
 |.sub e,_,_,_,h,q=>by unfold wX at *;exact ju e h q
theorem eW:∀(c:Cq) {V:En}{W S:En->Prop}{E T:XI->En->Prop},(∀V,W V->S V)->(∀n V,E n V->T n V)->wR Y Z U c V W E->wR Y Z U c V S T
 |.nil,_,_,_,_,_,h,_,q=>h _ q
 |.no,_,_,_,_,_,_,_,q=>q.elim
 |.rs k l,_,_,_,_,_,_,g,q=>bE l (by rintro N ⟨a,b⟩;exact (a,g _ _ b)) q
 |.rb l,_,_,_,_,_,_,g,q=>bE l (by rintro N ⟨t,a,w,e,b⟩;exact (t,a,w,e,g _ _ b)) q
 |.ret e,_,_,_,_,_,_,g,q=>ju e (λ n p=>g n _ p) q
 |.sx i e,_,_,_,_,_,_,g,q=>ju e (λ n p=>g n _ p) q
 |.ex e c r,_,_,_,_,_,h,g,q=>q.imp (ju e λ n p=>g n _ p) (aj c λ t q=>eW r h g q)
 |.set i c r,_,_,_,_,_,h,g,q=>aj c (λ t q=>(q.1,eW r h g q.2)) q
 | .ite c a b r,_,_,_,_,_,h,g,q=>aj c (λ t q=>cI (λ k q=>by
   split at q
   .rw[U0<|by assumption];exact eW a (λ V q=>eW r h g q) g q
   .rw[T9<|by assumption];exact eW b (λ V q=>eW r h g q) g q) q) q
end
noncomputable def oa(x y:V):List<|Str×V:=[(Uf "at",x),(Uf "why",y)]
def xE(S:Nat->TQ)(T:TQ):XI->Hp->XK->Prop
 |.c k,H,E=>E (.ref<|S k) TM H
 |.b a w,H,E=>∀V,H V=TJ (dN V<|oa (.int a)<|.str w)->E (.ref T) (TJ V) H
def A3(K:FG)(J:Hp->Prop)(W:Nat->TQ)(N:TQ)(S:YT):Sp:=λ vs H _ E=>∃F T P,Wd J F H/\RpL K F H T vs/\S T P/\∀n,P n->∀A V,Grow J F H A V->xE W N n V E
noncomputable abbrev D0:LV:=[.type "ValueError",.type "Exception",.type "BaseException",.type "object"]
def Av(K:FG):Sp:=λ vs H Q _=>∃(a C:TQ) (W:Str) (x y:V),vs=[.ref a,.str W,x,y]/\H a=TJ (bj a C TM)/\lC K C D0 "ValueError.__new__"=TK/\AtX K C/\NoAttr K C (Uf "at")/\NoAttr K C (Uf "why") /\
 ∀S T,H S=TM->S≠a->T a=TJ (bj a C<|TJ S)->T S=TJ (dN S<|oa x y)->(∀b,b≠a->b≠S->T b=H b)->Q .non T
structure i8 (P:Uh)(w:Ui)(K:FG)(mg:SV)(base:Ue)(CB:TQ):Prop where
 hm:mg "BadStep"=TJ (.ref CB)
 at_:AtX K CB
 n1:NoAttr K CB<|Uf "at"
 n2:NoAttr K CB<|Uf "why"
 mx:∃(f:TQ) (fd:Uu),P5 K CB f D0 "ValueError.__new__" /\ FnOk P w K mg base YJ 7 f fd ["self","text","at","why"] (Av K)/\Binds K fd ["self","text","at","why"] []
structure M3 (CX:Zq)(X:Cx)(J:Hp->Prop)(FX:List YT)(fs cs:List Str)(CA:Nat->TQ)(CB:TQ)(EE:St->XK)(tp tb:Bool):Prop where
 fx:∀(f:Nat) x S,fs[f]?=TJ x->FX[f]?=TJ S->∃k ps,Room k X.A/\Callee X.prog X.w X.K X.mg X.base CX k x ps (A3 X.K J CA CB S)
 pa:∀σ,kX CX X (EE σ) σ
 cl:∀(k:Nat) x,cs[k]?=TJ x->W.nsIn X.K Ua x=TJ (TJ<|.ref<|CA k)/\W.excIn X.K (CA k) D0 "ValueError.__new__"=TK
 ra:tp=TK->∃Ex:Value->Hp->Prop,tO X Ex/\∀σ c H,EE σ c TM H->Ex c H
 rb:tb=TK->i8 X.prog X.w X.K X.mg X.base CB/\Room 8 X.A/\∃Ex:XK,ur X Ex/\∀σ c d H,EE σ c d H->Ex c d H
 ln:fs.length=FX.length
def vh:PA X Z λ _ _ _=>False:=λ _ _ _ _ _ _ _ h=>h.elim
variable {X:Cx}
section
variable {J:Hp->Prop}{L:List Yt}{E:List TV}{G:List YT}{T:List Str}{N:List Str}{F0:Fz}{H0:Hp}{PN:List (TV×V)}{Y:Nat->TQ}{Z:TQ}{U:St->XK}
def rX(K:FG)(J:Hp->Prop)(L:List Yt)(E:List TV)(G:List YT)(Y:Nat->TQ)(Z:TQ)(U:St->XK)(c:Cw):TE:=λ T H _=>∃F S,EV K J F H T S/\wX L E G c S λ n=>∀W V,Grow J F H W V->xE Y Z n V (U T)
theorem sX(K:YC X J L E fs T)(o:XS X N nm)(z:M3 CX X J G fs cs Y Z U tp tb):∀(c:Cw) {e:Expr},n9 fs T N nm c e=TK->PE X e (rX X.K J L E G Y Z U c)
 |.no,e,_=>(by rintro _ _ _ _ _ _ ⟨_,_,_,w⟩;exact w.elim)
 |.fst c,e,h=>by
  rcases Bool.or_eq_true_iff.mp h with h|h
  .refine cE h λ g as w _ k1=>?_;refine aU k1 λ x _ D=>?_;refine dO D λ a es k3=>?_;refine HT λ W V=>?_;obtain⟨h0,B,M,h3,p,h5,h6⟩:=a7 k3;refine V ?_;clear V W;refine bQ h0 ?_;refine HT λ W V=>?_;obtain⟨f,i⟩:=kg<|au B;obtain⟨S,R⟩:∃S,L[f]?=TJ S:=fO<|bH (aP.mp i).1 K.len;obtain⟨k,ps,hr,cc⟩:=K.fns f _ S i R;refine V ?_;clear V W;exact(nC cc hr (Zg o M) nq (bK (sX K o z c h6) vh<|aV p) (cZ h3).1 (aV p)<|dP h5).imp (by rintro σ H Q ⟨F,j,A,w⟩;exact (F,j,A,by unfold wX at w;exact w))
  .refine jX h λ es _ _ k1=>?_;refine dO k1 λ a es D=>?_;exact(sQ<|bK (sX K o z c (an D).2) vh<|aV (an D).1).imp (by rintro σ H Q ⟨F,j,A,w⟩;exact (F,j,A,by unfold wX at w;exact w))
 |.snd c d,e,h=>by
  refine cE h λ g as w _ k1=>?_;refine aU k1 λ x _ D=>?_;refine dO D λ a r k3=>?_;refine dO k3 λ b es k4=>?_;refine HT λ W V=>?_;obtain⟨h0,B,M,h3,p,h5,h6,h7,h8⟩:=a9 k4;refine V ?_;clear V W;refine bQ h0 ?_;obtain⟨f,i⟩:=kg<|au B;obtain⟨S,R⟩:∃S,L[f]?=TJ S:=fO<|bH (aP.mp i).1 K.len;obtain⟨k,ps,hr,cc⟩:=K.fns f _ S i R
  exact(nC cc hr (Zg o M) nq (bK (sE c K o h7) (bK (sX K o z d h8) vh<|aV h5)<|aV p) (cZ h3).1 (aV p)<|dP<|by rw[cD,h5,h6];rfl).imp λ σ H Q (F,j,A,w)=>(F,j,A,by
   unfold wX at w
   exact aj c (λ t q C H1 v g r=>(C,j,A.grow g,ju d (λ n q F' O m=>q F' O<|g.trans m) q)) w)
 |.sub d,e,h=>by
  refine lT h λ x y _ k1=>?_;obtain⟨B,M⟩:=an k1;exact(tz (r:=λ _ _ _ _=>False) (by intro value slice Yq s σ H x y v u Q I r1 r2 h;exact h.elim) (sX K o z d M) (show PE X y (λ _ _ _=>False) from λ _ _ _ _ _ _ h=>h.elim)<|qw B).imp (by rintro σ H Q ⟨F,j,A,w⟩;exact (F,j,A,by unfold wX at w;exact w))
 |.call f l,e,h=>by
  .refine cE h λ g as w _ k1=>?_;refine aU k1 λ x _ D=>?_;refine dO D λ a es k3=>?_;obtain⟨h0,B,M,h3,p⟩:=a5 k3;refine bQ h0 ?_;have i:=au B;refine HT λ W V=>?_;obtain⟨S,R⟩:∃S,G[f]?=TJ S:=fO (by rw[<- z.ln];exact(aP.mp i).1);obtain⟨k,ps,hr,cc⟩:=z.fx f _ S i R;refine V ?_;clear V W;have st:=eG p;rw[cD,bq] at st;refine(GR cc hr (Zg o M) z.pa (sL l K o p) (cZ h3).1 (aV st.1)<|dP st.2).imp λ σ H Q (F,j,A,w)=>(F,j,A,bE l (λ ts w C H1 vs g1 r1=>?_) w);obtain⟨P,⟨S',e',sp⟩,w⟩:=w;rw[R] at e';cases e';rw[eR]
   cases n:ts.all TV.nb with
   |true=>
    obtain⟨F2,g2,_,r2⟩:=gO g1 r1 n;exact(F2,_,P,g2.w,r2,sp,λ n pn F' O m=>w n pn F' O<|g2.trans m)
   |false=>
    obtain⟨F2,w2,r2⟩:=uS g1.w r1;refine(F2,_,P,w2,r2,sp,λ n pn F' O m=>?_);have gg:Grow J C H1 C O:=(m.sm,m.dm,λ _ h=>h,λ _ h=>.inl h,m.w.j,λ b f=>m.dm b<|g1.w.d b f);exact w n pn C O<|g1.trans gg
def xR(K:FG)(J:Hp->Prop)(F0:Fz)(H0:Hp)(PN:List<|TV×V)(Y:Nat->TQ)(Z:TQ)(U:St->XK)(m:Nat)(n:XI)(N:En):Prop:=∀W T S,ER K J F0 H0 PN W T S N->S.length=m->xE Y Z n T (U S)
def rR(K:FG)(J:Hp->Prop)(L:List Yt)(E:List TV)(G:List YT)(Y:Nat->TQ)(Z:TQ)(U:St->XK)(m:Nat)(F0:Fz)(H0:Hp)(PN:List<|TV×V)(c:Cq):TS:=λ D T H=>∃F S,ER K J F0 H0 PN F H T S/\T.length=m/\wR L E G c S (m9 K J F0 H0 PN m D.nx) (xR K J F0 H0 PN Y Z U m)
def vi(e:ER X.K J F0 H0 PN F H B D)(s:B.length=N.length)(w:wX L E G c D λ n=>xR X.K J F0 H0 PN Y Z U N.length n D):rX X.K J L E G Y Z U c B H Q:=(F,D,e.ev,ju c (λ n q V S g=>q V S B (e.grow g) s) w)
theorem sR:∀(c:Cq) {lp:Bool}{S:List Uc},YOk X J L E fs T N nm lp->M3 CX X J G fs cs Y Z U tp tb->d6 fs T cs tb N nm tp c S=TK->PSs X S (rR X.K J L E G Y Z U N.length F0 H0 PN c)
 |.nil,lp,S,y,z,h=>by
  refine bQ h ?_;exact pss_nil.imp (by rintro D K H ⟨F,A,e,s,w⟩;exact w F H K e s)
 |.no,lp,S,y,z,h=>pss_never.imp (by rintro D K H ⟨F,A,e,s,w⟩;exact w.elim)
 |.rs k l,lp,S,y,z,h=>by
  .refine Au h λ o c _ rest k0=>?_;refine kj k0 λ e k1=>?_;refine cE k1 λ g as w _ k2=>?_;refine aU k2 λ x _ k3=>?_;refine dO k3 λ a es k4=>?_;refine HT λ W V=>?_;obtain⟨z0,z1,h0,C,O,h3,P⟩:=a7 k4;refine V ?_;clear V W;refine bQ z0 ?_;cases lY.mp z1;obtain⟨hn,hq⟩:=z.cl k _<|au C;obtain⟨Ex,ra,up⟩:=z.ra h0;have st:=eG P;rw[cD,bq] at st;refine(bU (GO vj y.xo.calm (Zg y.xs O) hn hq ra (sL l y.xo y.xs P) (aV st.1) (dP st.2) (cZ h3).1) pss_never).imp λ D K H R=>?_;obtain⟨F,A,e,s,w⟩:=R;exact(F,A,e.ev,bE l (by rintro ts ⟨a,b⟩ j m vs g r;exact (by rw[<- Paired.length r];exact a,up K _ _<|b j m K (e.grow g) s)) w)
 |.rb l,lp,S,y,z,h=>by
  .refine Au h λ o c _ rest k0=>?_;refine kj k0 λ e k1=>?_;refine cE k1 λ g as w _ k2=>?_;refine aU k2 λ x _ k3=>?_;refine dO k3 λ a es k4=>?_;refine HT λ W V=>?_;obtain⟨z0,z1,h0,z2,O,P⟩:=a6 k4;refine V ?_;clear V W;refine bQ z0 ?_;cases lY.mp z1;cases au z2;refine HT λ W V=>?_;obtain⟨B,hr,Ex,ra,up⟩:=z.rb h0;obtain⟨fi,fdi,M,Fi,bi⟩:=B.mx;refine V ?_;clear V W;have st:=eG P;rw[cD,bq] at st;refine(bU (JJ vj y.xo.calm (Zg y.xs O) B.hm M Fi hr bi ra (sL l y.xo y.xs P) Cl (aV st.1)<|dP st.2) pss_never).imp λ D K H R=>?_;obtain⟨F,A,e,s,w⟩:=R;refine(F,A,e.ev,bE l (λ ts (t,a,wd,et,b) j m vs g r=>?_) w);subst et
   cases r with|cons r1 r=>cases r with|cons r2 r=>cases r with|cons r3 r=>cases r with|nil=>
   cases r1;cases r2;cases r3;refine(small Cr,λ p hp=>(p,Z,t,.int a,.str wd,on,bB,M.cls,B.at_,B.n1,B.n2,λ u H' hd ne e1 e2 e3=>(on,u,e1,?_)));rw[av ne] at hd
   have kp:∀c o,m c=TJ o->rm H' p c=TJ o:=λ c o q=>by
    have na:c≠p:=λ z=>by rw[z,hp] at q;cases q
    have nd:c≠u:=λ z=>by rw[z,hd] at q;cases q
    rw[jR na,e3 c na nd,av na];exact q
   have dm:∀c,m c≠TM->rm H' p c≠TM:=λ c n q=>by
    cases z:m c with
    |none=>exact n z
    |some o=>rw[kp c o z] at q;cases q
   have gg:Grow J j m j<|rm H' p:=(λ c o _ q=>kp c o q,dm,λ _ f=>f,λ _ f=>.inl f,?_,λ c f=>dm c<|g.w.d c f)
   .exact up K _ _ _ (b j _ K (e.grow<|g.trans gg) s u<|by rw[jR ne];exact e2)
   .have j1:=y.xo.hJ.nw m u (dN u<|oa (.int a)<|.str wd) hd g.w.j
    have eq:rm H' p=Yu m u (dN u<|oa (.int a)<|.str wd):=by
     funext c;by_cases c1:c=p
     .subst c1;rw[yP,av<|bI ne,hp]
     .rw[jR c1];by_cases c2:c=u
      .subst c2;rw[bB,e2]
      .rw[e3 c c1 c2,av c1,av c2]
    rw[eq];exact j1
 |.ret c,lp,S,y,z,h=>by
  .refine qD h λ o _ _ k0=>?_;refine kj k0 λ e k1=>?_;exact(bU (mM<|sX y.xo y.xs z c k1) pss_never).imp (by rintro D K H ⟨F,A,e,s,w⟩;exact vi (N:=N) (Q:=λ _ _=>True) e s w)
 |.sx i c,lp,S,y,z,h=>by
  .refine jt h λ ts e pos rest k1=>?_;refine dD k1 λ t k2=>?_;refine aU k2 λ x p k3=>?_;obtain⟨h0,C,O⟩:=_L.a3 k3
   have hs:∀n,UQ e (TJ<|.Name x p) n X.env=Uo TL:=by cases e<;>first|(intro n;rfl)|exact TN h0
   obtain⟨a1,a2,a3,a4⟩:=ma y.xs y.fn C;exact(bU (mO (by rw[y.xs.N];exact y.nd) a1 a2 (sX y.xo y.xs z c O) (hs _) a3) pss_never).imp (by rintro D K H ⟨F,A,e,s,w⟩;exact vi (N:=N) (Q:=λ _ _=>True) e s w)
 |.ex d c r,lp,S,y,z,h=>by
  .refine lZ h λ e _ rest k1=>?_;obtain⟨C,O,h3,P⟩:=a4 k1;intro Yq st K H D I (F,A,e,s,w);unfold wR at w
   rcases w with w|w
   .exact bU (jF (sX y.xo y.xs z d O)<|mf C) pss_never Yq st K H D I<|vi (N:=N) (Q:=λ _ _=>True) e s w
   .exact bU (jF (sE c y.xo y.xs h3)<|mf C) (sR r y z P) Yq st K H D I (F,A,e.ev,aj c (λ t w j m v g rr=>(j,A,e.grow g,s,w)) w)
 |.set i c r,lp,S,y,z,h=>by
  .refine jt h λ ts e _ rest k1=>?_;refine dD k1 λ t k2=>?_;refine aU k2 λ x _ k3=>?_;refine HT λ W V=>?_;obtain⟨C,O,h3⟩:=_L.a3 k3;obtain⟨a1,a2,a3,a4⟩:=ma y.xs y.fn C;refine V ?_;clear V W;refine(bU (Ac y.xo y.xs (by rw[y.xs.N];exact y.nd) a1 a2 a3 O)<|sR r y z h3).imp λ D K H (F,A,e,s,w)=>?_;obtain⟨F',e',_⟩:=e.fzC c;exact(F',_,e'.ev,aj c (by rintro t ⟨nb,w⟩ j m v g r;exact (j,_,e'.rr g r nb BT,by rw[cN];exact s,w)) w)
 |.ite c a b r,lp,S,y,z,h=>by
  .refine Aa h λ t x yy _ rest k1=>?_;obtain⟨C,O,h3,P,h5⟩:=a5 k1;refine(bU (pd (sT c y.xo y.xs C O) (sR a y z h3)<|sR b y z P)<|sR r y z h5).imp λ D K H R=>?_;obtain⟨F,A,e,s,w⟩:=R;refine(F,A,e.ev,aj c (λ t w=>cI (λ k w j m g=>?_) w) w);split at w
   .rw[U0<|by assumption];exact(j,A,e.grow g,s,eW a (λ ρ' w F' H' σ' e s=>(F',ρ',e,s,w)) (λ _ _ h=>h) w)
   .rw[T9<|by assumption];exact(j,A,e.grow g,s,eW b (λ ρ' w F' H' σ' e s=>(F',ρ',e,s,w)) (λ _ _ h=>h) w)
end
section
variable {K:FG}{J:Hp->Prop}{Y:List Yt}{V:List TV}{Z L:List Str}{U:Nat->TQ}
theorem Aw{y:Bool}{st:Uc}{n p k:Nat}{S:YT}(code:Cq)(F:Fun K x B st f G)(m:MOk P w K M J V L)(X:Z.length=Y.length)(g:n6 P w K M D J Z Y k)
  (z:(d6 Z L C (!y) N (aB st).names y code (aR st)&&ZP (aB st) (N.take p) N&&decide (p<=N.length/\N.length=n))=TK) (b:∀W E,S W E->W.length=p/\wR Y V R code (YY n W) (λ _=>False) (λ n _=>E n))
  (zo:∀ {A:Uk}{T:List Env}{s:TR}{H:Hp}{E:XK},Room k (A.deeper<|UE B (aB st) s.heap.objs.size f G.code)->M3 I (dw I P w K M D N B (aB st) f G.code A T s H E) J R Z C U O (λ _=>E) y (!y)):FnOk P w K M D I (k+1) f G (N.take p)<|A3 K J U O S:=by
 obtain⟨ck,i,_,rfl,u⟩:=zx z
 exact F.okG i (by rintro vs H Q E ⟨v,W,o,t,r,s,_⟩;exact by rw[<- r.length,u];exact(b _ _ s).1) λ A T s H vs Q E c h (v,W,o,t,r,sp,j)=>
  (_,sR (F0:=v) (H0:=H) (PN:=[]) code (lp:=TL) (uY rfl m X g c,(rfl,rfl),i.nd,λ _ _=>rfl,λ z=>by cases z) (zo c) ck,v,YY N.length W,C8 t r,h,eW code (λ d q=>q.elim) (λ n d q l a σ' e _=>j n q l a e.gr) (b W o sp).2)
end
inductive Cs where
 |set (i:Nat) (t:TV)|ret (t u:TV)
noncomputable def Cs.ctorIdx(t:Cs):Nat:=t.casesOn (λ _ _=>0) (λ _ _=>1)
noncomputable def fv:TV->V
 |.bl b=>.bl b|.int i=>.int i|.str x=>.str x|_=>.non
def G0:Cs->TS
 |.set i t=>λ D V H=>D.nx (V.set i<|TJ<|fv t) H
 |.ret t u=>λ D _ H=>∀p,H p=TM->D.rt (.ref p) (Yu H p<|.tup [fv t,fv u])
def wU:Cs->En->(En->Prop)->(TV->Prop)->Prop
 |.set i t,T,V,_=>V (T.set i<|TJ t)
 |.ret t u,_,_,S=>S (.tup [t,u])
def wH(m:Nat)(V:Nat->Nat->Bool):List (Nat×Cs)->Nat->En->(En->Prop)->(TV->Prop)->Prop
 |[],_,_,_,_=>False
 |(c,s)::r,k,W,S,T=>(c<=k/\k<m)/\if V k c=TK then wU s W S T else wH m V r k W S T
def M4(N:List Str)(W:List<|Str×Uj):Cs->List Uc->Bool
 |.set i t,V=>m8 V λ A e _ rest=>c1 A λ n=>be n λ x _=>lQ e λ k _ _=>rest.isEmpty&&v7 N W i x&&u6 t k
 |.ret t u,V=>F8 V λ e _ rest=>oS e λ e=>jW e λ S _ _=>c2 S λ a b=>lQ a λ k _ _=>lQ b λ T _ _=>rest.isEmpty&&u6 t k&&u6 u T
noncomputable def eH(h:UB)(k:Option Expr->Option Str->List Uc->Pos->Bool):Bool:=match h with|.ExceptHandler a b c d=>k a b c d
@[elab_as_elim] theorem Ax{V:UB->Prop}{h:UB}{k:Option Expr->Option Str->List Uc->Pos->Bool}(q:eH h k=TK)(f:∀a b c d,k a b c d=TK->V (.ExceptHandler a b c d)):V h:=by cases h;exact f _ _ _ _ q
def G1(T N:List Str)(S:List<|Str×Uj):List (Nat×Cs)->List UB->Bool
 |[],V=>V.isEmpty
 |(c,s)::r,V=>cC V λ h W=>eH h λ t n b _=>oS t λ t=>be t λ x _=>n.isNone&&decide (T[c]?=TJ x)&&gl S x&&Zd x&&M4 N S s b&&G1 T N S r W
section
variable {J:Hp->Prop}{V:List Yt}{Y:List TV}{FX:List YT}{fs U cs:List Str}{N:List Str}{Z:List (Str×Uj)}{F0:Fz}{H0:Hp}{CA:Nat->TQ}{CB:TQ}{K:FG}
def vk(h:u6 t k=TK):PE X (.Constant k j L)<|tC<|fv t:=by
 cases t<;>cases k<;>try exact TN h
 .exact pe_non
 .cases (au h);exact pe_bl
 .cases (au h);exact pe_int
 .cases (au h);exact pe_str
def vm(h:u6 t k=TK):Rp K F H t<|fv t:=by
 cases t<;>cases k<;>first|exact TN h|rfl
theorem MG(c:XS X N Z)(d:X.N.Nodup)(v:∀x,X.env.scope.names.lookup x=TJ .cell->X.fn x=TK):∀ {s:Cs}{V:List Uc},M4 N Z s V=TK->PSs X V (G0 s)
 |.set i t,V,h=>by
  refine jt h λ p e _ rest k1=>?_;refine dD k1 λ n A=>?_;refine aU A λ x _ K=>?_;refine jn K λ k _ _ F=>?_;obtain⟨S,T,W⟩:=_L.a3 F;refine bQ S ?_;obtain⟨z,y,a3,a4⟩:=ma c v T;exact kL<|mO d z y (vk W) (by rfl) a3
 |.ret t u,V,h=>by
  refine qD h λ o _ rest k1=>?_;refine kj k1 λ e A=>?_;refine jX A λ m _ _ K=>?_;refine iz K λ a b F=>?_;refine jn F λ k _ _ j=>?_;refine jn j λ r _ _ g=>?_;obtain⟨S,T,W⟩:=_L.a3 g;refine bQ S ?_
  exact kL (mM<|sQ<|bK (vk T)<|bK (vk W) pa_nil) |>.imp λ D l H q=>(small Cr,q)
abbrev Wn:=En->(En->Prop)->(TV->Prop)->Prop
def rN(K:VY)(J:Hp->Prop)(n:Nat)(F0:Fz)(H0:Hp)(W:Wn):TS:=λ D S H=>∃F V,ER K J F0 H0 [] F H S V/\S.length=n/\W V (m9 K J F0 H0 [] n D.nx) (C7 K J F0 H0 D.rt)
def vo(V:List Yt)(Y:List TV)(FX:List YT)(m:Nat)(S:Nat->Nat->Bool)(b:Ct)(K:Cq)(F:List<|Nat×Cs):Wn:=λ A T N=>wS V Y b A T N\/wR V Y FX K A T λ n W=>∃k,n=.c k/\wH m S F k W T N
def MH{D:Ze}(j:JS J)(r:XS X N Z)(v:∀x,X.env.scope.names.lookup x=TJ .cell->X.fn x=TK)(h:M4 N Z s B=TK)(e:ER K J F0 H0 [] F H L G)(l:L.length=N.length)(w:wU s G (m9 K J F0 H0 [] N.length D.nx)<|C7 K J F0 H0 D.rt):G0 s D L H:=by
 cases s with
 |set i t=>
  refine jt h λ I y _ rest k1=>?_;refine dD k1 λ n T=>?_;refine aU T λ x _ W=>?_;refine jn W λ k _ _ A=>?_;obtain⟨z,V,S⟩:=_L.a3 A;refine bQ z ?_;obtain⟨Y,U,a3,a4⟩:=ma r v V;exact w F H _ (e.set (vm S) BT) (by rw[cN];exact l)
 |ret t u=>
  refine qD h λ o _ rest k1=>?_;refine kj k1 λ y T=>?_;refine jX T λ E _ _ W=>?_;refine iz W λ a b A=>?_;refine jn A λ k _ _ c=>?_;refine jn c λ M _ _ m=>?_;obtain⟨z,V,S⟩:=_L.a3 m;intro p d;have g:=Grow.new j e.ev.w (.tup [fv t,fv u]) d;exact w F _ _ (e.gr.trans g) (p,_,on,.of bB,_,_,on,vm V,_,_,on,vm S,on)
theorem Ay(T:XS X N Z)(g:N.Nodup)(y:∀x,X.env.scope.names.lookup x=TJ .cell->X.fn x=TK)(z:∀(k:Nat) x,cs[k]?=TJ x->W.nsIn X.K Ua x=TJ (TJ<|.ref<|CA k)):∀ {j:List (Nat×Cs)}{A:List UB},G1 cs N Z j A=TK->YU X A (j.map λ p=>(CA p.1,G0 p.2))
 |[],A,h=>by
  refine bQ h ?_;exact .nil
 |(c,s)::r,A,h=>by
  .refine dO h λ h J k1=>?_;refine Ax k1 λ t n b _ l=>?_;refine kj l λ t w=>?_;refine aU w λ x _ Y=>?_;refine HT λ K S=>?_;obtain⟨d,o,m,e,v,i⟩:=a6 Y;refine S ?_;clear S K;cases lY.mp d
   have F:∃V r,b=V::r:=by
    cases b with
    |nil=>cases s<;>exact TN v
    |cons x r=>exact(x,r,rfl)
   obtain⟨V,L,rfl⟩:=F;exact .cons (Zg T m) (z c _<|au o) (λ a U=>MG (X:=X.suite a U) (T.N,T.nm) (by show X.N.Nodup;rw[T.N];exact g) y v) (Ay T g y z i) (cZ e).1
theorem Az{m:Nat}{S:Nat->Nat->Bool}(y:JS J)(j:XS X N Z)(K:∀x,X.env.scope.names.lookup x=TJ .cell->X.fn x=TK)(A:∀k c,c<=k->k<m->W.exmOne X.K (.ref<|CA k) (.ref<|CA c)=TJ (S k c)){D:Ze}(e:ER X.K J F0 H0 [] F H L G)(l:L.length=N.length) :
  ∀ {hs:List (Nat×Cs)}{v:List UB},G1 cs N Z hs v=TK->wH m S hs k G (m9 X.K J F0 H0 [] N.length D.nx) (C7 X.K J F0 H0 D.rt)->nJ X.K (hs.map λ p=>(CA p.1,G0 p.2)) (.ref<|CA k) λ B=>B D L H
 |[],_,_,w=>w.elim
 |(c,s)::r,v,h,((k1,o),w)=>by
  .refine dO h λ h O i=>?_;refine Ax i λ t n b _ a=>?_;refine kj a λ t Y=>?_;refine aU Y λ x _ U=>?_;refine HT λ T V=>?_;obtain⟨E,M,I,Q,g,d⟩:=a6 U;refine V ?_;clear V T;have z:=A k c k1 o;split at w
   .rename_i c1;rw[c1] at z;exact .inl (z,MH y j K g e l w)
   .rename_i c1;rw[Bool.not_eq_true] at c1;rw[c1] at z;exact .inr (z,Az y j K A e l d w)
structure w6 (X:Cx)(J:Hp->Prop)(FX:List YT)(fs cs:List Str)(CA:Nat->TQ)(CB:TQ)(CX:Zq):Prop where
 fx:∀(f:Nat) x S,fs[f]?=TJ x->FX[f]?=TJ S->∃k ps,Room k X.A/\Callee X.prog X.w X.K X.mg X.base CX k x ps (A3 X.K J CA CB S)
 cl:∀(k:Nat) x,cs[k]?=TJ x->W.nsIn X.K Ua x=TJ (TJ<|.ref<|CA k)/\W.excIn X.K (CA k) D0 "ValueError.__new__"=TK
 ln:fs.length=FX.length
 sk:X.stack=X.env::X.outer/\X.env.frame=TJ X.env.locals
 xx:X.ex=[]
def AA(fs U cs N:List Str)(Z:List<|Str×Uj)(b:Ct)(W:Cq)(K:List<|Nat×Cs)(st:Uc):Bool:=Q3 [st] λ V T S A _ _=>S.isEmpty&&A.isEmpty && !T.isEmpty&&br fs U N Z TL b V&&d6 fs U cs TL N Z TL W V&&G1 cs N Z K T
def YOk.more(y:YOk X J V Y fs U N Z L)(T:VS)(S:LO):YOk (X.more T S) J V Y fs U N Z TL:=((y.xo.calm,y.xo.units,y.xo.hJ,y.xo.fns,y.xo.glb,y.xo.dic,y.xo.blt,y.xo.len,y.xo.hof),(y.xs.N,y.xs.nm),y.nd,y.fn,λ z=>by cases z)
theorem MI{T:St->XK}(y:YOk X J V Y fs U N Z Q)(t:w6 X J FX fs cs CA CB M)(A:br fs U N Z TL b L=TK)(K:d6 fs U cs TL N Z TL E L=TK)(F:∀S,kX M (X.more G B) (T S) S) :
  PSs (X.more G B) L λ D S H=>rS X.K J V Y N.length F0 H0 [] b D S H\/rR X.K J V Y FX CA CB T N.length F0 H0 [] E D S H:=by
 intro W s S H D I q
 rcases q with q|q
 .exact sS b (X:=X.more G B) (lp:=TL) (y.more G B) A W s S H D I q
 .exact sR E (X:=X.more G B) (lp:=TL) (y.more G B) (t.fx,F,t.cl,(λ z=>by cases z),(λ z=>by cases z),t.ln) K W s S H D I q
theorem MJ{m:Nat}{A:Nat->Nat->Bool}{st:Uc}(y:YOk X J V Y fs U N Z lp)(t:w6 X J FX fs cs CA CB<|l8 X.prog X.w)(i:∀k c,c<=k->k<m->W.exmOne X.K (.ref<|CA k) (.ref<|CA c)=TJ (A k c))(h:AA fs U cs N Z b L B st=TK) :
  PS X st<|rN X.K J N.length F0 H0<|vo V Y FX m A b L B:=by
 .refine HT λ T S=>?_;obtain⟨z,j,r,f,_,_,o,k1⟩:=LS h;refine S ?_;clear S T;cases o;refine HT λ T S=>?_;obtain⟨M,I,Q,l,a,v⟩:=a6 k1;refine S ?_;clear S T;refine bQ M ?_;refine bQ I ?_
  cases j with
  |nil=>exact TN Q
  |cons h0 j=>
  refine(HY t.sk (λ xe pn C G=>MI (F0:=F0) (H0:=H0) y t l a G)<|Ay y.xs y.nd y.fn (λ k x e=>(t.cl k x e).1) v).imp λ D σ H K=>?_;obtain⟨F,g,e,s,w⟩:=K
  rcases w with w|w
  .exact .inl (F,g,e,s,w)
  .refine .inr (F,g,e,s,eW L (λ _ q=>q) (λ n O (k,p,q) P u R d E=>?_) w);subst p;exact Az (hs:=B) y.xo.hJ y.xs y.fn i d E v q
def seg(y:YOk X J V Y fs U N Z L)(h:br fs U N Z L c a=TK)(v:PSs X b<|rN X.K J N.length F0 H0 W):PSs X (a++b) (rN X.K J N.length F0 H0 λ T j A=>wS V Y c T (λ S=>W S j A) A) :=
 (vd (sS c (PN:=[]) y h) v).imp (by rintro D k H ⟨F,T,e,s,w⟩;exact (F,T,e,s,bF c (λ S w K o d z g=>(K,S,z,g,w)) (λ _ q=>q) w))
end
section
variable {J:Hp->Prop}{U:List Yt}{G:List TV}{L:List YT}{E Y Z:List Str}{N:List Str}{D:List (Str×Uj)}{M:Fz}{T:Hp}{B:Nat->TQ}{W:TQ}{K:FG}{S:Bool}{b:Ct}{V:Cq}
end
def Mn(W:Wn):Prop:=∀T N V A S,(∀T,N T->V T)->(∀t,A t->S t)->W T N A->W T V S
section
variable {Z:List TV}
def MK:Mn<|wU s:=λ N T V W S h g q=>by cases s<;>first|exact h _ q|exact g _ q
theorem AB{V:Nat->Nat->Bool}:∀ {S:List (Nat×Cs)}{k:Nat},Mn (wH m V S k)
 |[],_,_,_,_,_,_,_,_,q=>q
 | (c,s)::r,k,K,N,T,A,W,h,g,(a,q)=>(a,by
  split at q
  .rw[U0<|by assumption];exact MK _ _ _ _ _ h g q
  .rw[T9<|by assumption];exact AB _ _ _ _ _ h g q)
def AC{V:Nat->Nat->Bool}:Mn<|vo U Z J m V b Y L:=λ K N S A T h g q=>q.imp (bF b h g) (eW Y h<|by rintro n W ⟨k,e,q⟩;exact (k,e,AB _ _ _ _ _ h g q))
def mn0:Mn λ T V S=>wS Y Z c T V S:=λ T V W S N h g q=>bF c h g q
def mn1{W V:Wn}(z:Mn W)(F:Mn V):Mn λ K A N=>wS Y Z c K (λ T=>W T (λ S=>V S A N) N) N:=λ K A y N v h g q=>bF c (λ T q=>z _ _ _ _ _ (λ S q=>F _ _ _ _ _ h g q) g q) g q
end
section
variable {J:Hp->Prop}{Y:List TV}{U:List Str}{L:Fz}{Z:Hp}
def sg0(y:YOk X J D Y B U N E G)(h:br B U N E G c a=TK):PSs X a<|rN X.K J N.length L Z λ T V S=>wS D Y c T V S:=sS c (PN:=[]) y h
theorem sg1{i:Nat}{l:List Uc}{W V:Wn}(y:YOk X J B Y G U N M E)(K:decide (i<l.length)=TK)(h:br G U N M E c (l.take i)=TK)(k:Mn W)(m:PS X (l.getD i<|.Pass (0,0,0,0))<|rN X.K J N.length L Z W)(o:PSs X (l.drop<|i+1)<|rN X.K J N.length L Z V) :
  PSs X l<|rN X.K J N.length L Z λ j v A=>wS B Y c j (λ S=>W S (λ T=>V T v A) A) A:=by
 have K:=au K
 have e:l=l.take i++l.getD i (.Pass (0,0,0,0))::l.drop (i+1):=by
  rw[aG,aZ K];show l=l.take i++l[i]::l.drop (i+1);rw[<- qz K,vp]
 have z:=seg (W:=λ S v A=>W S (λ T=>V T v A) A) y h ((bU m o).imp<|by rintro D t H ⟨F,j,e,s,w⟩;exact (F,j,e,s,k _ _ _ _ _ (λ S w g p r d b=>(g,S,d,b,w)) (λ _ q=>q) w));rw[<- e] at z;exact z
end
abbrev Ys:YT:=λ _ _=>False
abbrev Fxs(P:Uh)(w:Ui)(K:FG)(z:SV)(V:Ue)(J:Hp->Prop)(T:Nat->TQ)(W:TQ)(N:Zq)(F:List Str)(A:List YT)(k:Nat):Prop:=∀(f:Nat) x S,F[f]?=TJ x->A[f]?=TJ S->∃y,Callee P w K z V N k x y (A3 K J T W S)
abbrev Xo(P:Uh)(w:Ui)(K:FG)(y:SV)(V:Ue)(J:Hp->Prop)(D:List DR)(N:Nat->TQ)(A:TQ)(F:Zq)(z:List YT)(i:Nat):Prop:=∀x W S T,D[i]?=TJ (x,W,S)->z[i]?=TJ T->Callee P w K y V F (i+1) x W (A3 K J N A T)
abbrev Xs(P:Uh)(w:Ui)(K:FG)(A:SV)(V:Ue)(J:Hp->Prop)(D:List DR)(S:Nat->TQ)(T:TQ)(W:Zq)(N:List YT)(j:Nat):Prop:=∀i,i<j->Xo P w K A V J D S T W N i
structure NE (D:List DR)(X1 X2:List YT)(T1 T2:YT)(x:Str)(st:Uc)(N:List Str)(S:Yt)(j p:Nat):Prop where
 e1:X1[j]?=TJ T1:=by rfl
 e2:X2[j]?=TJ T2:=by rfl
 e:D[j]?=TJ (x,N.take p,S):=by rfl
 b:Bds x st (N.take p) p:=by repeat' (first|rfl|(refine λ _=>?_))
structure CN (P:Uh)(w:Ui)(K:FG)(mg:SV)(base:Ue)(J:Hp->Prop)(GT:List TV)(gs:List Str)(D:List DR)(X1 X2:List YT)(cs:List Str)(CA:Nat->TQ)(CB:TQ)(j:Nat):Prop where
 m:CM P w K mg base J GT gs D j
 x1:Xs P w K mg base J D CA CB (l8 P w) X1 j
 x2:Xs P w K mg base J D CA CB (e8 P w) X2 j
 cl:∀(k:Nat) x,cs[k]?=TJ x->W.nsIn K Ua x=TJ (TJ<|.ref<|CA k)/\W.excIn K (CA k) D0 "ValueError.__new__"=TK
 l1:X1.length=D.length
 l2:X2.length=D.length
abbrev M5(D:List DR)(W:List TV)(F:List Str)(A:List YT)(K:List Str)(S:Bool)(j:Nat)(st:Uc)(N:List Str)(n p:Nat)(T:YT)(c:Cq):Prop:=(d6 (YS D j) F K (!S) N (aB st).names S c (aR st)&&ZP (aB st) (N.take p) N&&decide (p<=N.length/\N.length=n))=TK/\∀V E,T V E->V.length=p/\wR (YM D j) W (A.take j) c (YY n V) (λ _=>False) (λ n _=>E n)
section
variable {K:VY}{J:Hp->Prop}{Y:List TV}{U:List Str}{D:List DR}{Z:Nat->TQ}{j n:Nat}{N:List Str}{st:Uc}{S:Yt}{code:Ct}
def Callee.upx(c:Callee P w K B L YJ k x G<|i6 K J S):Callee P w K B L M k x G<|A3 K J Z E Ys:=let ⟨f,V,_,m,T,b⟩:=c.has;⟨(f,V,.nvr (by rintro _ _ _ _ ⟨_,_,_,_,_,s,_⟩;exact s),m,T,b)⟩
theorem G2{T:List YT}(A:T.length=D.length)(h:Xs P w K E L J D Z B G T j) :
  Fxs P w K E L J Z B G (YS D j) (T.take j) j/\(YS D j).length=(T.take j).length:=by
 refine(λ f x S V W=>?_,by unfold YS;rw[af,bp,bp,A]);unfold YS at V;rw[bc] at V
 cases q:(D.take j)[f]? with
 |none=>rw[q] at V;cases V
 |some d=>
  rw[q] at V;cases V;have N:f<j:=by have:=(aP.mp q).1;rw[bp] at this;lia
  rw[uZ,U0 N] at q W;exact(_,(h f N d.1 d.2.1 d.2.2 S q W).mono BT)
theorem AD(h:Xs P w K M L J D Z B G E j)(V:Xo P w K M L J D Z B G E j) :
  Xs P w K M L J D Z B G E<|j+1:=λ i S=>by
 by_cases e:i=j
 .subst e;exact V
 .exact h i BT
def CN.up(C:CN P w K B L J Y U D E I Q Z G j)(M:CM P w K B L J Y U D<|j+1)(V:Xo P w K B L J D Z G (l8 P w) E j)(S:Xo P w K B L J D Z G (e8 P w) I j):CN P w K B L J Y U D E I Q Z G (j+1) :=
 (M,AD C.x1 V,AD C.x2 S,C.cl,C.l1,C.l2)
def mh{V:List YT}(M:CM P w K B L J Y U D<|j+1)(e:V[j]?=TJ Ys):Xo P w K B L J D Z G E V j:=λ x A S T N W=>by
 rw[e] at W;cases W;exact(M.c j (ig j) x A S N).upx
def CN.d(C:CN P w K I L J Y U D B G M Z E j)(g:Gx K x st)(z:w5 D Y U j st N n p S code)(q:autoParam (NE D B G Ys Ys x st N S j p) S6._auto_1):CN P w K I L J Y U D B G M Z E (j+1) :=
 C.up (C.m.d g z q.e q.b) (mh (C.m.d g z q.e q.b) q.e1)<|mh (C.m.d g z q.e q.b) q.e2
def CN.mu(C:CN P w K E L J Y U D B G Q Z I j)(M:CM P w K E L J Y U D<|j+1)(V:autoParam (B[j]?=TJ Ys) Ty._auto_1)(S:autoParam (G[j]?=TJ Ys) Ty._auto_1):CN P w K E L J Y U D B G Q Z I (j+1) :=
 C.up M (mh M V)<|mh M S
def CN.r(C:CN P w K O L J Y U D B G E Z M j)(g:Gx K x st)(z:w5 D Y U j st N n p S code)(F:M5 D Y U B E TK j st N n p T Q)(q:autoParam (NE D B G T Ys x st N S j p) S6._auto_1):CN P w K O L J Y U D B G E Z M<|j+1:=by
 refine C.up (C.m.d g z q.e q.b) (λ R k t l V W=>?_)<|mh (C.m.d g z q.e q.b) q.e2;cases q.e.symm.trans V;cases q.e1.symm.trans W;obtain⟨f,a,A⟩:=g;obtain⟨b,r⟩:=G2 C.l1 C.x1;exact C.m.cal A q.b (zx z.1).2.2.1<|Aw Q A.F C.m.m (gh j) C.m.c.fns F.1 F.2 λ d=>(λ g y S V W=>let ⟨o,c⟩:=b g y S V W;(j,o,d,c),λ i v H s e m I h=>GK v i H s e m I h,C.cl,λ _=>(_,GL,λ _ _ _ h=>h),(λ z=>by cases z),r)
def CN.b(C:CN P w K Q L J Y U D E B M Z G j)(o:i8 P w K Q L G)(g:Gx K x st)(z:w5 D Y U j st N n p S code)(v:M5 D Y U B M TL j st N n p T O)(q:autoParam (NE D E B Ys T x st N S j p) S6._auto_1)(k:autoParam (8<=j) Cl._auto_1):CN P w K Q L J Y U D E B M Z G<|j+1:=by
 refine C.up (C.m.d g z q.e q.b) (mh (C.m.d g z q.e q.b) q.e1) λ u b a R V W=>?_;cases q.e.symm.trans V;cases q.e2.symm.trans W;obtain⟨f,X,A⟩:=g;obtain⟨i,t⟩:=G2 C.l2 C.x2;exact C.m.cal A q.b (zx z.1).2.2.1<|Aw O A.F C.m.m (gh j) C.m.c.fns v.1 v.2 λ F=>(λ g y S V W=>let ⟨m,c⟩:=i g y S V W;(j,m,F,c),λ l d H s e r I h=>JE d l H s e r I h,C.cl,(λ z=>by cases z),λ _=>(o,F.mono k,_,JF,λ _ _ _ _ h=>h),t)
theorem CN.t(C:CN P w K O L J Y U D G M I Z B j)(g:Gx K x st)(k2:(TK&&ZP (aB st) (N.take p) N&&decide (p<=N.length/\N.length=n))=TK)
  (hb:∀(X:Cx) (F0:Fz) (H0:Hp),X.prog=P->X.w=w->X.K=K->X.mg=O->X.base=L->YOk X J (YM D j) Y (YS D j) U N (aB st).names TK->w6 X J (G.take j) (YS D j) I Z B (l8 X.prog X.w)->w6 X J (M.take j) (YS D j) I Z B (e8 X.prog X.w)->PSs X (aR st) (rN X.K J N.length F0 H0 W))
  (z2:∀T Q,S T Q->T.length=p/\W (YY n T) (λ _=>Q .non) Q) (mn:Mn W) (q:NE D G M Ys Ys x st N S j p):CN P w K O L J Y U D G M I Z B<|j+1:=by
 refine HT λ k z=>?_;obtain⟨_,sc,k3,rfl,lp⟩:=zx k2;obtain⟨u1,v1⟩:=G2 C.l1 C.x1;obtain⟨u2,v2⟩:=G2 C.l2 C.x2;obtain⟨f,fd,h⟩:=g;refine z ?_;clear z k;refine C.mu (C.m.c.fn C.m.hm q.e h (q.b.ok k3)<|h.F.okG sc (by rintro vs H Q E ⟨o,T,u,wd,r,s,_⟩;exact by rw[<- r.length,(z2 _ _ s).1,lp]) λ A V s H vs Q E a sl l=>?_,C.m.m,C.m.hm) q.e1 q.e2;obtain⟨o,T,u,wd,r,sp,F⟩:=l
 exact(_,PSs.nox<|hb (dw YJ P w K O L N x (aB st) f fd.code A V s H E).nox o H rfl rfl rfl rfl rfl (uY rfl C.m.m (gh j) C.m.c.fns a,(on,on),sc.nd,λ _ _=>rfl,λ _=>qE) (λ g y S b i=>let ⟨R,c⟩:=u1 g y S b i;(j,R,a,c),C.cl,v1,(on,on),on) (λ g y S b i=>let ⟨R,c⟩:=u2 g y S b i;(j,R,a,c),C.cl,v2,(on,on),on),o,YY N.length T,C8 wd r,sl,
  mn _ _ _ _ _ (λ ρ' q d m σ' e _=>F .non q d m .non e.gr rfl) (λ t q d m v g r=>F t q d m v g r) (z2 T u sp).2)
def CN.law(C:CN P w K G L J Y U D M I Q Z E j)(g:Gl' K x st f B)(z:w5 D Y U j st N n p qF code):FnOk P w K G L YJ (j+1) f B (N.take p)<|qG K J:=C.m.law g z
end
noncomputable abbrev p0:Uc:=.Pass (0,0,0,0)
abbrev Q6(D:List DR)(V:List TV)(T:List Str)(y:List YT)(v:List Str)(m:Nat)(W:Nat->Nat->Bool)(j:Nat)(st:Uc)(N:List Str)(n p i:Nat)(S:Yt)(c b:Ct)(F:Cq)(z:List<|Nat×Cs)(r:Ct):Prop :=
 ((TK&&ZP (aB st) (N.take p) N&&decide (p<=N.length/\N.length=n))&&(decide (i<(aR st).length)&&br (YS D j) T N (aB st).names TK c ((aR st).take i)&&AA (YS D j) T v N (aB st).names b F z ((aR st).getD i p0)&&br (YS D j) T N (aB st).names TK r ((aR st).drop<|i+1)))=TK /\
 ∀A Q,S A Q->A.length=p/\wS (YM D j) V c (YY n A) (λ g=>vo (YM D j) V (y.take j) m W b F z g (λ K=>wS (YM D j) V r K (λ _=>Q .non) Q) Q) Q
section
variable {K:FG}{J:Hp->Prop}{U:List TV}{V:List Str}{Y:Nat->TQ}{k:Nat}{st:Uc}{c b r:Ct}{m:Nat}{Z:Nat->Nat->Bool}
theorem CN.y(C:CN P w K I L J U V D B G E Y M j)(v:∀k c,c<=k->k<m->W.exmOne K (.ref<|Y k) (.ref<|Y c)=TJ (Z k c))(g:Gx K x st)(z:Q6 D U V B E m Z j st N n p i S c b O R r)(q:autoParam (NE D B G Ys Ys x st N S j p) S6._auto_1):CN P w K I L J U V D B G E Y M<|j+1:=by
 refine HT λ A T=>?_;obtain⟨F,l⟩:=z;obtain⟨d,F⟩:=an F;obtain⟨k1,o,s,e⟩:=_L.a4 F;refine T ?_;clear T A;refine C.t g d (λ X a Q H u t f h y t1 t2=>?_) l (mn1 AC mn0) q;subst t;exact sg1 y k1 o AC (MJ y t1 v s)<|sg0 y e
end
def JH(L:List<|TQ×Pos×Str)(D H:Hp):Prop:=TbJ L H/\∀a o,(∀vs,o≠.lst vs)->(∀V,o≠.tbl V)->D a=TJ o->H a=TJ o
section
variable {P:Uh}{w:Ui}{K:FG}{mg:SV}{base:Ue}{L:List (TQ×Pos×Str)}{D:Hp}{F:Fz}{H:Hp}{FT:List Yt}{GT:List TV}{fs gs:List Str}{S:Yt}{k Z:Nat}{x:Str}
def JH.js:JS<|JH L D:=(λ H p o n h=>(TbJ.js.nw H p o n h.1,λ a u V S e=>by rw[av λ z=>by have:=h.2 a u V S e;rw[z,n] at this;cases this];exact h.2 a u V S e),
 λ H p vs T n h=>(TbJ.js.mu H p vs T n h.1,λ a u V S e=>by rw[av λ z=>by have:=h.2 a u V S e;rw[z,n] at this;cases this;exact V _ rfl];exact h.2 a u V S e))
def Grow.jh(g:Grow (TbJ L) F H Y U)(w:JH L D H):Grow (JH L D) F H Y U:=(g.sm,g.dm,g.up,g.nw,(g.w.j,λ a o S V e=>g.sm a o V<|w.2 a o S V e),g.w.d)
def Grow.tb(g:Grow (JH L D) F H Y U):Grow (TbJ L) F H Y U:=(g.sm,g.dm,g.up,g.nw,g.w.j.1,g.w.d)
def Wd.tb(w:Wd (JH L D) F H):Wd (TbJ L) F H:=(w.j.1,w.d)
def Callee.imp{S V:Sp}(c:Callee P w K mg base YJ k x Y S)(h:∀vs H Q E,V vs H Q E->S vs H Q E):Callee P w K mg base YJ k x Y V:=let ⟨f,T,N,m,W,b⟩:=c.has;⟨(f,T,N.imp h,m,W,b)⟩
def Callee.jh(c:Callee P w K mg base YJ k x Y<|i6 K (TbJ L) S):Callee P w K mg base YJ k x Y<|i6 K (JH L D) S:=c.imp (by rintro vs H Q E ⟨F,y,N,V,r,s,q⟩;exact (F,y,N,V.tb,r,s,λ t A T W v g z=>q t A T W v (g.jh V.j) z))
def MOk.jh(m:MOk P w K mg (TbJ L) GT gs):MOk P w K mg (JH L D) GT gs:=(JH.js,m.glb,m.dic,m.blt)
structure XF (P:Uh)(w:Ui)(K:FG)(mg:SV)(base:Ue)(J:Hp->Prop)(FT:List Yt)(GT:List TV)(fs gs:List Str)(k:Nat):Prop where
 m:MOk P w K mg J GT gs
 fns:n6 P w K mg base J fs FT k
 len:fs.length<=FT.length
 hof:∀A,Room k A->∀S,FT[fs.length]?=TJ S->L7 P w K mg base A J S
def XF.ok{X:Cx}(x:XF X.prog X.w X.K X.mg X.base J FT GT fs gs k)(N:X.calm=TK)(V:Room k X.A):YC X J FT GT fs gs :=
 (N,by have:=V.un;lia,x.m.hJ,λ g y S T W=>let ⟨A,c⟩:=x.fns g y S T W;(k,A,V,c),x.m.glb,x.m.dic,x.m.blt,x.len,x.hof _ V)
def XF.of0(m:MOk P w K mg (TbJ L) GT gs)(V:fs.length=FT.length)(fns:n6 P w K mg base (TbJ L) fs FT k):XF P w K mg base (JH L D) FT GT fs gs k :=
 (m.jh,λ f x S T W=>let ⟨N,c⟩:=fns f x S T W;(N,c.jh),s1v V,λ A _=>zw V)
def vq(P:Uh)(w:Ui)(K:FG)(mg:SV)(base:Ue)(k:Nat)(L:List<|TQ×Pos×Str)(D:Hp)(a:TQ)(N:Yt):Prop:=∀F H W vs T Q,Wd (JH L D) F H->RpL K F H W vs->N W T->(∀t,T t->∀S V v,Grow (JH L D) F H S V->Rp K S V t v->Q v V)->qi P w K mg base k a vs H Q
def ZS(P:Uh)(w:Ui)(K:FG)(mg:SV)(base:Ue)(L:List<|TQ×Pos×Str)(k:Nat)(S:Yt->Yt):Sp:=λ vs H Q _=>∃F a A V D z N,vs=V++[.ref a]/\Wd (JH L D) F H/\FnV H a/\RpL K F H A V/\S z A N/\vq P w K mg base k L D a z/\∀t,N t->∀W T v,Grow (JH L D) F H W T->Rp K W T t v->Q v T
def o5(N:List<|Str×(Yt->Yt))(W:Yt)(a:TQ):Yt:=λ l T=>(∃V,l=.str "" :: .obj (.fn a)::V/\W V T)\/∃(x:Str) (S:Yt->Yt),x ≠ "" /\ N.lookup x=TJ S/\(l=[.str x]\/∃V,l=.str x::.obj (.fn a)::V/\S W V T)
abbrev A4(P:Uh)(w:Ui)(K:FG)(mg:SV)(base:Ue)(L:List<|TQ×Pos×Str)(V:List<|Str×(Yt->Yt))(k Z:Nat):Prop:=∀x S,V.lookup x=TJ S->∃T,Callee P w K mg base YJ k x T (ZS P w K mg base L Z S)
theorem XF.of1(m:MOk P w K mg (TbJ L) GT gs)(M:fs.length=FT.length)(fns:n6 P w K mg base (TbJ L) fs FT k)(I:Z<=k)
  (G:A4 P w K mg base L J k Z) (l:vq P w K mg base Z L D a U):XF P w K mg base (JH L D) (FT++[o5 J U a]) GT fs gs k:=by
 refine(m.jh,λ f x S i t=>?_,by rw[aQ];lia,λ A n S e=>?_)
 .have C:=(aP.mp i).1;rw[cU BT] at t;obtain⟨d,c⟩:=fns f x S i t;exact(d,c.jh)
 .rw[M,cS<|ax _,iA] at e;cases e;refine((Z,n.mono I,λ B o vs v F H Q p fv r s q=>?_),λ x O=>?_)
  .rcases s with ⟨T,e,s⟩|⟨x,S,g,_,e|⟨T,e,_⟩⟩
   .cases e;exact l F H o vs v Q p r s q
   .cases e
   .injection e with V _;injection V with V;exact U1 V.symm g
  .rcases O with ⟨T,e,_⟩|⟨X,S,g,Y,e|⟨T,e,_⟩⟩
   .cases e
   .injection e with V _;injection V with V;subst V
    obtain⟨d,c⟩:=G x S Y;refine(k,d,n,c.imp λ vs H Q E j=>?_);refine HT λ y N=>?_;obtain⟨F,B,o,b,v,e,p,fv,r,s,q⟩:=j;refine N ?_;clear N y
    rcases s with ⟨T,W,_⟩|⟨u,R,_,z,W|⟨T,W,s⟩⟩
    .injection W with V _;injection V with V;exact U1 V g
    .cases W
    .injection W with V W;injection V with V;subst V
     cases W;rw[Y] at z;cases z;exact(F,a,o,b,D,U,v,e,p,fv,r,s,l,q)
   .cases e
def Rq(K:FG)(F:Fz)(H:Hp)(t:TV)(v:V):Prop:=match t with
 |.obj (.fn a)=>v=.ref a/\FnV H a
 |t=>Rp K F H t v
abbrev RqL(K:FG)(F:Fz)(H:Hp):List TV->List V->Prop:=UZ<|Rq K F H
def Rq.sr(h:Rq K F H t v):Sr K F H t v:=by
 cases t with
 |obj o=>cases o<;>first|exact h|exact h.elim
 |_=>first|exact h|exact h.elim
def Rp.rq(h:Rp K F H t v):Rq K F H t v:=by
 cases t with
 |obj o=>exact h.elim
 |_=>exact h
theorem RpL.rq:∀ {S:List TV}{vs:List V},RpL K F H S vs->RqL K F H S vs
 |[],_,h=>by cases h;exact .nil
 |_::_,_,(v,r,e,T,W)=>by subst e;exact .cons T.rq<|RpL.rq W
def RqL.get{vs:List V}(h:RqL K F H Y vs):∀ {i:Nat}{t:TV},Y[i]?=TJ t->∃v,vs[i]?=TJ v/\Rq K F H t v:=by
 induction h with
 |nil=>intro i t e;cases e
 |cons h _ S=>
  intro i t e
  cases i with
  |zero=>cases e;exact(_,rfl,h)
  |succ i=>exact S e
def RqL.app{vs S:List V}(h:RqL K F H Y vs)(g:RqL K F H U S):RqL K F H (Y++U)<|vs++S:=by
 induction h with
 |nil=>exact g
 |cons h _ T=>exact .cons h T
def M6{vs:List V}(S:Wd J F H)(r:RqL K F H Y vs):ER K J F H [] F H (Yy N vs)<|YY N.length Y:=Q4 S r.get Rq.sr id id
theorem AE{i:Yt->Yt}{n p:Nat}{st:Uc}(code:Ct)(J:Fun K x x st f B)(m:MOk P w K mg (TbJ L) GT gs)(I:fs.length=FT.length)(o:n6 P w K mg base (TbJ L) fs FT k)(R:Z<=k)(G:A4 P w K mg base L HC k Z)
  (z:(br fs gs N (aB st).names TK code (aR st)&&ZP (aB st) (N.take p) N&&decide (p<=N.length/\N.length=n))=TK) (l:∀T a V S,i T V S->V.length+1=p/\wS (FT++[o5 HC T a]) GT code (YY n<|V++[.obj<|.fn a]) (λ _=>S .non) S):FnOk P w K mg base YJ (k+1) f B (N.take p)<|ZS P w K mg base L Z i:=by
 obtain⟨ck,Y,_,rfl,C⟩:=zx z;refine J.okG Y (by rintro vs H Q E ⟨F,a,V,b,D,T,S,e,U,fv,r,s,_⟩;exact by rw[e,aQ,<- r.length,C];exact(l T a V S s).1) λ A c s H vs Q E O X (j,a,V,b,D,T,S,e,U,fv,r,u,M,W)=>?_;subst e;have h:XF P w K mg base (JH L D) (FT++[o5 HC T a]) GT fs gs k:=.of1 m I o R G M;exact(_,PSs.nox<|sS (F0:=j) (H0:=H) (PN:=[]) code (lp:=TK) (h.ok rfl O,(on,on),Y.nd,λ _ _=>rfl,λ _=>qE) ck,j,YY N.length<|V++[.obj<|.fn a],M6 U<|r.rq.app<|.cons (show Rq K j H (.obj<|.fn a) (.ref a) from (on,fv)) .nil,X,bF code (λ ρ' q y d σ' e _=>W .non q y d .non e.gr rfl) (λ t q y d v g r=>W t q y d v g r) (l T a V S u).2)
end
section
variable {K:FG}{F F':Fz}{H M:Hp}{O W:List Yt}{B:List TV}{G:List Str}{C:Nat}{Y:LA}{U:List V}{Z:List TV}{E:Yt}
def og(t:TV):Prop:=LF t\/∃a,t=.obj (.fn a)
mutual
theorem LF.mv(st:∀a vs,SqT K H a vs->SqT K H' a vs):∀ {t:TV}{v:V},LF t->Rp K F H t v->Rp K F' H' t v
 |.non,_,_,h=>h
 |.bl _,_,_,h=>h
 |.int _,_,_,h=>h
 |.str _,_,_,h=>h
 |.tup l,_,f,(a,vs,e,q,r)=>(a,vs,e,st _ _ q,LF.mvl st (λ x hx=>by simp only[LF] at f;exact f x hx) r)
 |.lst _,_,f,_=>by simp[LF] at f
 |.bor _,_,f,_=>by simp[LF] at f
 |.own _,_,f,_=>by simp[LF] at f
 |.obj _,_,f,_=>by simp[LF] at f
theorem LF.mvl(st:∀a vs,SqT K H a vs->SqT K H' a vs):∀ {ts:List TV}{vs:List V},(∀x∈ts,LF x)->RpL K F H ts vs->RpL K F' H' ts vs
 |[],_,_,h=>h
 |t::ts,_,f,(v,r,e,h1,h2)=>(v,r,e,LF.mv st (f t Cr) h1,LF.mvl st (λ x hx=>f x<|by simp[hx]) h2)
end
def Rq.mv(st:∀a vs,SqT K H a vs->SqT K J a vs)(S:∀a,FnV H a->FnV J a)(c:og t)(h:Rq K F H t v):Rq K F' J t v:=by
 rcases c with V|⟨a,rfl⟩
 .cases t with
  |obj o=>simp[LF] at V
  |_=>exact LF.mv (F:=F) st V h
 .exact(h.1,S a h.2)
def RqL.mv(st:∀a vs,SqT K H a vs->SqT K J a vs)(T:∀a,FnV H a->FnV J a){S:List TV}{vs:List V}(c:∀t∈S,og t)(h:RqL K F H S vs):RqL K F' J S vs:=by
 induction h with
 |nil=>exact .nil
 |cons h _ N=>exact .cons (h.mv st T<|c _<|bn ..)<|N λ t W=>c t<|bz _ W
def vt(F:Fz)(Y:LA):Fz:=λ a=>F a/\∀q∈Y,q.2≠a
def ML(S:CelAt H Y U):Ke K F H (vt F Y)<|minC H Y:=by
 have A:=Ar (K:=K) (F:=F) S;refine(A.t,λ a vs h=>?_)
 rcases h with ⟨f,y⟩|h
 .rcases y with V|N
  .refine .inl ((f,λ q W e=>?_),.inl<|V.min S (λ _ z=>nomatch z) λ _ _ z=>nomatch z);obtain⟨o,v,T⟩:=S.mem W;rw[e] at T
   rcases V with V|⟨j,V⟩<;>rw[T] at V<;>cases V
  .exact .inr N
 .exact .inr h
theorem MN{X c fv:List Str}{F:Str}(m:Cd)(xi:XF P w K mg base (JH L D) W B fi G C)(S:Za X c fv J)(hcl:Y.map (·.1)=fv)
  (hb:∀(pm ctv:Value) (us:LV),us.length=c.length->VF (kla_fn "<lambda>" F I body J Y pm (.ref c') ctv) (us,[])=Uo (c.zip us))
  (l:Hand Y U H3 R) (dj:JH L D H3) (L1:R fa=TJ (fK fa c' F I body J Y)) (_L:R c'=TJ (gH c' F)) (cp:RqL K F3 R Z U) (co:∀t∈Z,og t) (cki:ck fi G m X J.names body=TK)
  (hw:∀T H,E T H->T.length=c.length/\wE W B m (YY X.length<|T++Z) λ u=>u.pl=TK/\H u):vq P w K mg base (C+1) L R fa E:=by
 intro O V ts vs H Q wd r hφ q;obtain⟨hl,hw⟩:=hw ts H hφ;have up:∀ {a o},(∀vs,o≠.lst vs)->(∀M,o≠.tbl M)->R a=TJ o->V a=TJ o:=λ d j e=>wd.j.2 _ _ d j e;have p:CelAt V Y U:=(l.at_.len,λ i q e=>let ⟨v,o,e1,e2⟩:=l.at_.at_ i q e;(v,o,e1,up (λ _ z=>nomatch z) (λ _ z=>nomatch z) e2),l.at_.apart);have vl:vs.length=c.length:=by rw[<- r.length,hl]
 have dm:∀a o,(∀vs,o≠.lst vs)->(∀M,o≠.tbl M)->D a=TJ o->minC V Y a=TJ o:=λ a o d j e=>by
  have e3:=dj.2 a o d j e;rw[dC λ q y z=>by have:=l.fr q y;rw[z,e3] at this;cases this];exact up d j<|l.to e3
 have wm:Wd (JH L D) (vt O Y)<|minC V Y:=((wd.j.1.sm λ a o _ k e=>nZ p e λ _ _ _=>k _ _,dm),λ a f=>by rw[dC f.2];exact wd.d a f.1)
 have sq:∀a vs,SqT K R a vs->SqT K (minC V Y) a vs:=λ a vs h=>h.imp (λ h=>by
  have h1:Rd V a<|.tup vs:=h.imp (λ h=>up (λ _ z=>nomatch z) (λ _ z=>nomatch z) h) (by rintro ⟨o,h⟩;exact (o,up (λ _ z=>nomatch z) (λ _ z=>nomatch z) h))
  exact h1.min p (λ _ z=>nomatch z) λ _ _ z=>nomatch z) id
 have fq:∀a,FnV R a->FnV (minC V Y) a:=(by rintro a ⟨φ,e,kf⟩;exact (φ,nZ p (up (λ _ z=>nomatch z) (λ _ z=>nomatch z) e) (λ _ _ _ z=>nomatch z),kf));refine MA (vcs:=U) S hcl hb vl (up (λ _ z=>nomatch z) (λ _ z=>nomatch z) L1) (up (λ _ z=>nomatch z) (λ _ z=>nomatch z) _L) p (te:=rE K (JH L D) W B m) (λ A outer s hr=>sE m (xi.ok rfl hr) (on,on) cki) ?_;refine(vt O Y,_,(M6 (N:=X) wm<|(r.ke<|ML p).rq.app<|cp.mv sq fq co).ev,aj m (λ u (pl,pu) F' H' v g rr hz=>?_) hw);have nF:∀a,F' a->∀q∈Y,q.2≠a:=λ a f q y z=>g.w.d a f<|z ▸ hz q y
 have gg:Grow (JH L R) O V (λ a=>F' a\/O a)<|Zl V H' Y:=by
  have sm:∀a o,(∀M,o≠.tbl M)->V a=TJ o->Zl V H' Y a=TJ o:=λ a o n e=>by
   rcases Aq Y a with ⟨q,y,rfl⟩|x
   .rw[ly y];exact e
   .rw[gI x];exact g.sm a o n (by rw[dC x];exact e)
  have b:∀a,V a≠TM->Zl V H' Y a≠TM:=λ a e=>by
   rcases Aq Y a with ⟨q,y,rfl⟩|x
   .rw[ly y];exact e
   .rw[gI x];exact g.dm a (by rw[dC x];exact e)
  refine(sm,b,λ a f=>.inr f,λ a f=>?_,(g.w.j.1.sm λ a o _ _ e=>by rw[vc hz<|by rw[e];simp];exact e,λ a o d j e=>sm a o j<|up d j e),λ a f=>?_)
  .rcases f with f|f
   .rcases g.nw a f with z|z
    .exact .inl z.1
    .rw[dC<|nF a f] at z;exact .inr z
   .exact .inl f
  .rcases f with f|f
   .rw[gI<|nF a f];exact g.w.d a f
   .exact b a<|wd.d a f
 exact q u pu _ _ v gg<|((ME pl rr).ke<|MC hz).ke<|.up λ _ f=>.inl f
theorem MO(p:YC X J O B D G)(i:XS X N I)(y:aM e=TK)(m:PE X e R):∀(l:Cd) {V:List Expr},ckL D G l N I V=TK ->
  PA X (V++[e]) (λ T H Q=>∃F L,EV X.K J F H T L/\wL O B l L λ g=>∀F' W vs,Grow J F H F' W->RrL X.K H F' W g vs->R T W λ v M=>Q (vs++[v]) M):=λ l=>by
 induction l with
 |nil=>
  intro V h
  cases V with
  |nil=>exact(bK m pa_nil<|aV y).imp (by rintro T H Q ⟨F,L,S,w⟩;exact w F H [] (.refl S.w) .nil)
  |cons e V=>exact TN h
 |cons a r _ b=>
  intro V h
  cases V with
  |nil=>exact TN h
  |cons x V=>
   obtain⟨K,k⟩:=an h;obtain⟨K,c⟩:=an K;refine(bK (sE a p i c) (b k)<|aV K).imp λ T H Q (F,L,S,w)=>(F,L,S,aj a (λ t w d n v A s=>(d,L,S.grow A,bE r (λ g w o M vs j r2=>?_) w)) w);exact w o M (v::vs) (A.trans j)<|.cons (s.grow j)<|Paired.mapP r2 λ _ _ z=>z.late A
 |_=>intro V h;exact TN h
def i9(O W:List Yt)(B:List TV)(l:Cd)(z:List Nat)(F:Cd)(v y:Nat)(K:Yt->Yt)(A:En)(Q:TV->Prop):Prop:=wL O B l A λ N=>N.all TV.nb=TK/\∃Z E T,z.map (λ j=>A[j]?)=Z.map (λ t=>TJ<|TJ t)/\(∀t∈Z,og t)/\K E (N.map .fz) T/\(∀V S,E V S->V.length=v/\wE W B F (YY y<|V++Z) λ u=>u.pl=TK/\S u)/\∀t,T t->Q t
theorem AF(e:EV K J F H D L):∀ {V:List Nat}{Z:List TV},V.map (λ j=>L[j]?)=Z.map (λ t=>TJ<|TJ t)->(∀t∈Z,og t)->∃U,V.map (λ j=>D[j]?)=U.map (λ v=>TJ<|TJ v)/\RqL K F H Z U
 |[],[],_,_=>([],rfl,.nil)
 |[],_::_,h,_=>by cases h
 |_::_,[],h,_=>by cases h
 |j::V,t::Z,h,c=>by
  rw[cB,cB] at h
  injection h with W N
  obtain⟨v,T,r⟩:=e.sl j t W;obtain⟨vs,S,r2⟩:=AF e N λ t A=>c t (by simp[A]);refine(v::vs,by rw[cB,cB,T,S],.cons ?_ r2)
  rcases c t Cr with z|⟨a,rfl⟩
  .cases t<;>first|exact r|(simp[LF] at z)
  .exact r
theorem MP{N nm}{tb ql:Str}{pst f fv N':List Str}{js:List Nat}{V e0:Expr}{es:List Expr}{K p1 p2 p3:Pos}(l ci:Cd)(xo:YC X (JH L D) O B fs G)(xs:XS X N nm)(hr:Room k X.A)
  (ho:Callee X.prog X.w X.K X.mg X.base YJ k tb pst<|ZS X.prog X.w X.K X.mg X.base L (C+1) SF) (xi:XF X.prog X.w X.K X.mg X.base (JH L D) W B fi G C) (gt:Gl X tb) (ntb:(tb == ("__debug__" : Str))=TL) (TF:Zx X.base X.mg c T) (hcd:X.env.code=.ref c) (mT:(T,K,ql)∈L) (nd:(L.map (·.1)).Nodup)
  (hq:X.env.qual ++ "<lambda>"=ql) (df:Xc Q X.env=([],[])) (hcl:Vb J X.env=Uo Y) (A:OwnCl X.env.cells fv Y) (hj:js.map (λ j=>X.N[j]?)=fv.map TJ) (hk:∀n∈fv,X.env.scope.names.lookup n=TJ .cell) (hf:∀n∈fv,X.fn n=TK) (nf:fv.Nodup)
  (ls:Za N' f fv J) (hb:∀(c':TQ) (pm ctv:Value) (us:LV),us.length=f.length->VF (kla_fn "<lambda>" ql Q V J Y pm (.ref c') ctv) (us,[])=Uo (f.zip us))
  (i:ckL fs G l N nm (e0::es)=TK) (cki:ck fi G ci N' J.names V=TK) :
  PSs X [.Return (TJ<|.Call (.Name tb p1) (e0::(es++[.Lambda Q V J K])) [] p2) p3] λ R σ H=>∃F ρ,EV X.K (JH L D) F H σ ρ/\i9 O W B l js ci f.length N'.length SF ρ λ t=>∀F' H' v,Grow (JH L D) F H F' H'->Rp X.K F' H' t v->R.rt v H':=by
 have st:=eG i;rw[cD,bq] at st;have st2:(es++[Expr.Lambda Q V J K]).all aM=TK:=by rw[List.all_append,st.2];rfl
 have hE:=Jd (X:=X) (p:=p1) (pos:=p2) ho hr gt A hj hk hf nf (MO xo xs rfl (Jb (pos:=K) (body:=V) hq hcd TF df hcl A) l i) ntb (aV st.1)<|dP st2;intro Yq s σ H R I (F,ρ,ev,q);refine kL (mM (pos:=p3) hE) Yq s σ H R I (F,ρ,ev,bE l (λ ts (hn,Z,E,P',hc,co,sf,hw,fin) F2 M vs g r=>(g.w.j.1 _ mT,λ fa c' cl1 H3 o1 ffa u hc3 t3 up3=>?_)) q);cases OwnCl.uniq A o1;obtain⟨U,ev2,rc⟩:=AF (ev.grow g) hc co;refine(U,ev2,λ cl2 b o2 fr P eq4=>?_);cases OwnCl.uniq A o2;obtain⟨F3,m,_,r3⟩:=gO g r hn;have y:=MF nd mT m.w.tb t3 up3;have S:Hand Y U H3 b:=(fr,P,eq4);have j3:JH L D H3:=(y.jh m.w.j).w.j;have sq:∀a vs,SqT X.K M a vs->SqT X.K b a vs:=λ a vs h=>(h.sm y.sm).sm λ a o _ e=>S.to e;have w4:Wd (JH L b) F3 b:=(((S.wd y.w).j,λ a o _ _ e=>e),(S.wd y.w).d);refine(F3,fa,_,vs,b,E,P',on,w4,FnV.lam<|S.to u,(r3.ke y.ke).ke S.ke,sf,MN ci xi ls A.1 (hb c') S j3 (S.to u) (S.to hc3) (rc.mv (F':=F2) sq (by rintro a ⟨φ,e,kf⟩;exact (φ,S.to<|y.sm _ _ (λ _ z=>nomatch z) e,kf)) co) co cki hw,λ t pt F6 H6 v6 g6 r6=>?_);have g6b:=S.back y.w g6.tb;have x:=(m.tb.trans y).trans g6b;exact fin t pt F6 _ v6 (x.jh ev.w.j)<|r6.ke<|Ar<|S.cel g6.tb
end
structure D1 where
 tb:Str
 e:Expr
 es:List Expr
 a:Vh
 b:Expr
 s:Scope
 p:Pos
 p1:Pos
 p2:Pos
 p3:Pos
def ZB(st:Uc):D1:=match st with
 | .Return (TJ<|.Call (.Name S V) (e::r) [] T) W=>(match r.getLast? with
  |some (.Lambda a b s p)=>(S,e,r.dropLast,a,b,s,p,V,T,W)
  |_=>(S,e,[],gG<|.Pass (0,0,0,0),e,aB<|.Pass (0,0,0,0),V,V,V,V))
 |_=>("",.Name "" (0,0,0,0),[],gG<|.Pass (0,0,0,0),.Name "" (0,0,0,0),aB<|.Pass (0,0,0,0),(0,0,0,0),(0,0,0,0),(0,0,0,0),(0,0,0,0))
noncomputable abbrev A5(r:D1):Uc:=.Return (TJ<|.Call (.Name r.tb r.p1) (r.e::(r.es++[.Lambda r.a r.b r.s r.p])) [] r.p2) r.p3
def j4(i:Nat)(st:Uc):Expr×Uc×Pos:=match (aR st)[i]? with
 |some (.If c [r] [] p)=>(c,r,p)
 |_=>(.Name "" (0,0,0,0),.Pass (0,0,0,0),(0,0,0,0))
def Q7(V:Scope)(N S:List Str):Bool:=decide<|V.kind=.function/\V.isCoroutine=TL/\V.isGenerator=TL/\N.Nodup/\N.take (S++ZI V.names).length=S++ZI V.names/\(∀x∈S,V.names.lookup x=TJ .local\/V.names.lookup x=TJ .cell)/\(∀x∈ZI V.names,V.names.lookup x=TJ .free)/\(∀y∈V.names,y.2=.free->y.1∈ZI V.names)/\∀x∈ZI V.names,∀y∈V.names,y.2=.cell->y.1≠x
def MQ(h:Q7 Z N Y=TK):Za N Y (ZI Z.names) Z:=let h:=au h;(h.1,h.2.1,h.2.2.1,h.2.2.2.1,h.2.2.2.2.1,h.2.2.2.2.2.1,h.2.2.2.2.2.2.1,h.2.2.2.2.2.2.2.1,h.2.2.2.2.2.2.2.2)
def A6(D:List DR)(S:List Str)(j W:Nat)(st:Uc)(r:D1)(N V T:List Str)(A:List Nat)(n K p:Nat)(l i:Cd):Bool:=ZP (aB st) (N.take p) N&&Q7 r.s V T&&ckL (YS D j) S l N (aB st).names (r.e::r.es)&&ck (YS D W) S i V r.s.names r.b&&decide ((p<=N.length/\N.length=n/\V.length=K)/\(aB st).names.lookup r.tb=TJ .globalImplicit/\(r.tb == ("__debug__" : Str))=TL/\A.map (λ j=>N[j]?)=(ZI r.s.names).map TJ/\(∀n∈ZI r.s.names,(aB st).names.lookup n=TJ .cell)/\(ZI r.s.names).Nodup)
abbrev Q8(D:List DR)(z:List TV)(d:List Str)(A j:Nat)(st:Uc)(N y W:List Str)(K:List Nat)(n F p:Nat)(v g:Yt->Yt)(l i:Cd):Prop:=A6 D d j A st (ZB<|(aR st).headD<|.Pass (0,0,0,0)) N y W K n F p l i=TK/\∀S a V T,g S V T->V.length+1=p/\i9 (YM D j++[o5 [] S a]) (YM D A++[o5 [] S a]) z l K i W.length F v (YY n<|V++[.obj<|.fn a]) T
abbrev Q9(D:List DR)(T:List TV)(A:List Str)(K j:Nat)(st:Uc)(N y W:List Str)(F:List Nat)(n z p:Nat)(v:Yt->Yt)(S:Yt)(c:Ct)(l i:Cd):Prop:=(A6 D A j K st (ZB<|(aR st).getLastD<|.Pass (0,0,0,0)) N y W F n z p l i&&br (YS D j) A N (aB st).names TK c (aR st).dropLast)=TK/\∀V Q,S V Q->V.length=p/\wS (YM D j) T c (YY n V) (λ g=>i9 (YM D j) (YM D K) T l F i W.length z v g Q) Q
abbrev R0(D:List DR)(V:List TV)(T:List Str)(z j m:Nat)(st:Uc)(N g K:List Str)(y:List Nat)(n v p:Nat)(d:Yt->Yt)(S:Yt)(c:Ct)(l i q:Cd)(F:Ct):Prop:=(A6 D T j z st (ZB (j4 m st).2.1) N g K y n v p l i&&(br (YS D j) T N (aB st).names TK c ((aR st).take m)&&(tB' q (j4 m st).1&&ck (YS D j) T q N (aB st).names (j4 m st).1&&br (YS D j) T N (aB st).names TK F ((aR st).drop<|m+1))))=TK/\∀W Q,S W Q->W.length=p/\wS (YM D j) V c (YY n W) (λ A=>wE (YM D j) V q A λ t=>b1 t λ b=>if b=TK then i9 (YM D j) (YM D z) V l y i K.length v d A Q else wS (YM D j) V F A (λ _=>Q .non) Q) Q
section
variable {K:FG}{mg:SV}{base:Ue}{L:List (TQ×Pos×Str)}{D:List DR}{Z:List TV}{gs:List Str}{j jj kf n n2 p m:Nat}{x ql:Str}{st:Uc}{f c T:TQ}{fd:Uu}{N N' YR:List Str}{js:List Nat}{S:Yt}{Y U:Yt->Yt}{r:D1}{l i:Cd}{code:Ct}
structure RwI (K:FG)(mg:SV)(base:Ue)(L:List<|TQ×Pos×Str)(D:List DR)(gs:List Str)(j jj:Nat)(x ql:Str)(st:Uc)(f c T:TQ)(fd:Uu)(r:D1)(N N' YR:List Str)(js:List Nat)(n n2 p:Nat)(l i:Cd):Prop where
 t:ZQ K x st f fd c T
 TF:Zx base mg c T
 mT:(T,r.p,ql)∈L
 nd:(L.map (·.1)).Nodup
 z:A6 D gs j jj st r N N' YR js n n2 p l i=TK
 b:Bds x st (N.take p) p:=by repeat' (first|rfl|(refine λ _=>?_))
 df:∀env,Xc r.a env=([],[]):=by intro;rfl
 hq:∀n f cd,(UE x (aB st) n f cd).qual ++ "<lambda>"=ql:=by intros;rfl
 hb:∀(cl:LA) (c':TQ) (pm ctv:Value),qJ YR.length λ us=>VF (kla_fn "<lambda>" ql r.a r.b r.s cl pm (.ref c') ctv) (us,[])=Uo (YR.zip us):=by repeat' (first|rfl|(refine λ _=>?_))
def RwI.sc(M:RwI K mg base L D gs j jj x ql st f c T fd r N N' YR js n n2 p l i):(p<=N.length/\N.length=n/\N'.length=n2)/\YG N (N.take p) (aB st):=by
 have z:=M.z;simp only[A6,bq,dB] at z;exact(z.2.1,Ao z.1.1.1.1)
theorem RwI.row{A:Uk}{s:TR}(M:RwI K mg base L D gs j jj x ql st f c T fd r N N' YR js n n2 p l i)(xf:XF P w K mg base (JH L J) I Z (YS D j) gs k)(xi:XF P w K mg base (JH L J) G Z (YS D jj) gs ki)(m:Room k<|A.deeper<|UE x (aB st) s.heap.objs.size f fd.code)(u:Callee P w K mg base YJ k r.tb pst<|ZS P w K mg base L (ki+1) Y) :
  PSs (dw YJ P w K mg base N x (aB st) f fd.code A outer s H E).nox [A5 r] λ R σ H=>∃F B,EV K (JH L J) F H σ B/\i9 I G Z l js i YR.length n2 Y B λ t=>∀d V v,Grow (JH L J) F H d V->Rp K d V t v->R.rt v V:=by
 have z:=M.z;simp only[A6,bq,dB] at z;obtain⟨⟨⟨⟨_,h⟩,k3⟩,k4⟩,⟨_,_,rfl⟩,a,U,Q,o,O⟩:=z;obtain⟨e,W,g⟩:=MD (scope:=r.s) (env:=UE x (aB st) s.heap.objs.size f fd.code) λ y q=>iQ.mp<|pF _ _ _<|.inl<|o y q;exact MP (X:=(dw YJ P w K mg base N x (aB st) f fd.code A outer s H E).nox) l i (xf.ok rfl m) (on,on) m u xi a U M.TF M.t.hc M.mT M.nd (M.hq _ _ _) (M.df _) W g Q o (λ _ _=>rfl) O (MQ h) (λ b pm S us C=>vg (M.hb e b pm S) us C) k3 k4
theorem CM.fh(C:CM P w K mg base (TbJ L) Z gs D j)(M:RwI K mg base L D gs j jj x ql st f c T fd (ZB<|(aR st).headD<|.Pass (0,0,0,0)) N N' YR js n n2 p l i)(z:Q8 D Z gs jj j st N N' YR js n n2 p Y U l i)(ho:Callee P w K mg base YJ j (ZB<|(aR st).headD<|.Pass (0,0,0,0)).tb pst<|ZS P w K mg base L (jj+1) Y)(u:jj<=j/\kf<=jj)
  (J:autoParam (aR st=[A5<|ZB<|(aR st).headD<|.Pass (0,0,0,0)]) S2._auto_1):Callee P w K mg base YJ (j+1) x (N.take p)<|ZS P w K mg base L kf U:=by
 obtain⟨⟨k3,e,_⟩,sc⟩:=M.sc;subst e;refine C.cal M.t.toGl' M.b k3<|M.t.F.okG sc (by rintro vs H Q E ⟨F,a,y,G,D,I,o,e,wd,fv,r,s,_⟩;exact by rw[e,aQ,<- r.length,bp,lA k3];exact(z.2 I 0 y o s).1) λ A B s H vs Q E hr _ h=>?_;refine HT λ d W=>?_;obtain⟨R,a,y,G,D',I,o,rfl,wd,fv,r,sp,X,b⟩:=h;refine W ?_;clear W d;have no:∀ {k:Nat}(x:Str) (S:Yt->Yt),([]:List<|Str×(Yt->Yt)).lookup x=TJ S->∃ps,Callee P w K mg base YJ k x ps (ZS P w K mg base L kf S):=λ _ _ z=>by cases z
 rw[J];refine(_,PSs.nox<|M.row (.of1 C.m (gh j) C.c.fns BT no X) (.of1 C.m (gh jj) (C.c.to u.1).fns u.2 no X) hr ho,R,YY N.length<|y++[.obj<|.fn a],(M6 wd<|r.rq.app<|.cons (show Rq K R H (.obj<|.fn a) (.ref a) from (on,fv)) .nil).ev,?_);exact bE l (by rintro y ⟨hn,V,O,m,hc,co,sf,hw,q⟩;exact (hn,V,O,m,hc,co,sf,hw,λ t pt F' H' v g r=>b t (q t pt) F' H' v g r)) (z.2 I a y o sp).2
theorem CM.mn{R post:List Uc}(code:Ct)(oc:Option<|Cd×Ct)(C:CM P w K mg base (TbJ L) Z gs D j)(M:RwI K mg base L D gs j jj x ql st f c T fd r N N' YR js n n2 p l i)(ho:Callee P w K mg base YJ j r.tb pst<|ZS P w K mg base L (jj+1) Y)(jl:jj<=j)(e0:D[j]?=TJ (x,N.take p,S))
  (hbd:aR st=R++(match oc with|none=>[A5 r]|some _=>.If cnd [A5 r] [] p4::post))
  (ck1:br (YS D j) gs N (aB st).names TK code R=TK) (ck2:match oc with|none=>True|some q=>((tB' q.1 cnd&&ck (YS D j) gs q.1 N (aB st).names cnd)&&br (YS D j) gs N (aB st).names TK q.2 post)=TK)
  (O:∀V Q,S V Q->V.length=p/\wS (YM D j) Z code (YY n V) (λ U=>match oc with|none=>i9 (YM D j) (YM D jj) Z l js i YR.length n2 Y U Q|some q=>wE (YM D j) Z q.1 U λ t=>b1 t λ b=>if b=TK then i9 (YM D j) (YM D jj) Z l js i YR.length n2 Y U Q else wS (YM D j) Z q.2 U (λ _=>Q .non) Q) Q):CM P w K mg base (TbJ L) Z gs D<|j+1:=by
 obtain⟨⟨k3,e,_⟩,sc⟩:=M.sc;subst e;have YA:∀ {k:Fz}{H1:Hp}{V vs Q},RpL K k H1 V vs->S V Q->vs.length=(N.take p).length:=λ r s=>by rw[<- r.length,bp,lA k3];exact(O _ _ s).1
 refine(C.c.fn C.hm e0 M.t.toGl' (M.b.ok k3)<|M.t.F.okG sc (by rintro vs H Q E ⟨k,V,P1,wd,r,s,_⟩;exact YA r s) λ A y s H vs Q E hr sl h=>?_,C.m,C.hm);refine HT λ Gzz I=>?_;obtain⟨k,V,P1,wd,r,sp,F⟩:=h;refine I ?_;clear I Gzz;have xf:XF P w K mg base (JH L λ _=>TM) (YM D j) Z (YS D j) gs j:=.of0 C.m (gh j) C.c.fns;have a:=M.row (E:=E) (H:=H) (s:=s) (A:=A) (outer:=y) xf (.of0 C.m (gh jj) (C.c.to jl).fns) hr ho;have yo:YOk (dw YJ P w K mg base N x (aB st) f fd.code A y s H E).nox (JH L λ _=>TM) (YM D j) Z (YS D j) gs N (aB st).names TK:=(xf.ok rfl hr,(rfl,rfl),sc.nd,λ _ _=>rfl,λ _=>qE);have h1:=sS (F0:=k) (H0:=H) (PN:=[]) code (lp:=TK) yo ck1;have X:Wd (JH L λ _=>TM) k H:=((wd.j,λ _ _ _ _ e=>nomatch e),wd.d)
 have m:∀ {U:En}{W:Fz}{o:Hp}{J:St},ER K (JH L λ _=>TM) k H [] W o J U->i9 (YM D j) (YM D jj) Z l js i YR.length n2 Y U P1->i9 (YM D j) (YM D jj) Z l js i YR.length n2 Y U λ t=>∀B u v,Grow (JH L λ _=>TM) W o B u->Rp K B u t v->Q v u:=λ e z=>
  bE l (by rintro V ⟨hn,G,Φ',P'',hc,co,sf,O,q⟩;exact (hn,G,Φ',P'',hc,co,sf,O,λ t pt W o v g r=>F t (q t pt) W o v (e.gr.trans g).tb r)) z
 rw[hbd]
 cases oc with
 |none=>
  refine(_,PSs.nox<|vd h1 a,k,YY N.length V,C8 X r,sl,?_);exact bF code (λ d q W o J e _=>(W,d,e.ev,m e q)) (λ t q W o v g r=>F t q W o v g.tb r) (O V P1 sp).2
 |some q=>
  obtain⟨cd,pc⟩:=q;obtain⟨c1,c2,c3⟩:=a3 ck2;have h3:=sS (F0:=k) (H0:=H) (PN:=[]) pc (lp:=TK) yo c3;refine(_,PSs.nox<|vd h1<|bU (pd (pos:=p4) (sT cd yo.xo yo.xs c1 c2) a pss_nil) h3,k,YY N.length V,C8 X r,sl,?_);refine bF code (λ d q W o J e s2=>(W,d,e.ev,aj cd (λ t w=>cI (λ b w B u g=>?_) w) q)) (λ t q W o v g r=>F t q W o v g.tb r) (O V P1 sp).2
  cases b with
  |true=>exact(B,d,(e.grow g).ev,m (e.grow g) w)
  |false=>exact(B,d,e.grow g,s2,bF pc (λ ρ2 q F3 H3 σ3 e3 _=>F .non q F3 H3 .non e3.gr.tb rfl) (λ t q F3 H3 v g3 r=>F t q F3 H3 v g3.tb r) w)
theorem CM.ml(C:CM P w K mg base (TbJ L) Z gs D j)(M:RwI K mg base L D gs j jj x ql st f c T fd (ZB<|(aR st).getLastD<|.Pass (0,0,0,0)) N N' YR js n n2 p l i)(z:Q9 D Z gs jj j st N N' YR js n n2 p Y S code l i)(W:Callee P w K mg base YJ j (ZB<|(aR st).getLastD<|.Pass (0,0,0,0)).tb J<|ZS P w K mg base L (jj+1) Y)(A:jj<=j)(e:autoParam (D[j]?=TJ (x,N.take p,S)) Ty._auto_1)
  (V:autoParam (aR st=(aR st).dropLast++[A5<|ZB<|(aR st).getLastD<|.Pass (0,0,0,0)]) S2._auto_1):CM P w K mg base (TbJ L) Z gs D (j+1) :=
 .mn (cnd:=.Name "" (0,0,0,0)) (post:=[]) (p4:=(0,0,0,0)) code TM C M W A e V (an z.1).2 trivial z.2
theorem CM.mm(C:CM P w K mg base (TbJ L) Z gs D j)(M:RwI K mg base L D gs j jj x ql st f c T fd (ZB (j4 m st).2.1) N N' YR js n n2 p l i)(z:R0 D Z gs jj j m st N N' YR js n n2 p Y S code l i q J)(W:Callee P w K mg base YJ j (ZB (j4 m st).2.1).tb B<|ZS P w K mg base L (jj+1) Y)(A:jj<=j)(e:autoParam (D[j]?=TJ (x,N.take p,S)) Ty._auto_1)
  (V:autoParam (aR st=(aR st).take m++.If (j4 m st).1 [A5<|ZB (j4 m st).2.1] [] (j4 m st).2.2::(aR st).drop (m+1)) S2._auto_1):CM P w K mg base (TbJ L) Z gs D (j+1) :=
 .mn code (TJ (q,J)) C M W A e V (an (an z.1).2).1 (an (an z.1).2).2 z.2
end
abbrev R1(D:List DR)(W:List TV)(F:List Str)(j:Nat)(A:List<|Str×(Yt->Yt))(st:Uc)(N:List Str)(n p:Nat)(K:Yt->Yt)(c:Ct):Prop:=(br (YS D j) F N (aB st).names TK c (aR st)&&ZP (aB st) (N.take p) N&&decide (p<=N.length/\N.length=n))=TK/\∀T a S V,K T S V->S.length+1=p/\wS (YM D j++[o5 A T a]) W c (YY n<|S++[.obj<|.fn a]) (λ _=>V .non) V
abbrev R3(D:List DR)(A:List TV)(F:List Str)(j:Nat)(K:List<|Str×(Yt->Yt))(x:Str)(st:Uc)(N:List Str)(n p:Nat)(W:Nat->Yt->Yt)(c:Ct):Prop:=(br (YS D j) F N (aB st).names TK c (aR st)&&ZP (aB st) (N.take p) N&&decide (p<=N.length/\N.length=n))=TK/\(∀T S V,¬W 0 T S V)/\∀d T a S V,W (d+1) T S V->S.length+1=p/\wS (YM D j++[o5 ((x,W d)::K) T a]) A c (YY n<|S++[.obj<|.fn a]) (λ _=>V .non) V
section
variable {K:FG}{Z:List TV}{Y:List Str}{kf d m:Nat}{st:Uc}{B G:Yt->Yt}{V:Nat->Yt->Yt}{U:List (Str×(Yt->Yt))}{code:Ct}
def CM.fn(C:CM P w K E J (TbJ L) Z Y D j)(g:Gx K x st)(z:R1 D Z Y j U st N n p B code)(T:kf<=j)(S:A4 P w K E J L U j kf)(b:autoParam (Bds x st (N.take p) p) H9._auto_1):Callee P w K E J YJ (j+1) x (N.take p)<|ZS P w K E J L kf B:=by
 obtain⟨f,W,V⟩:=g;exact C.cal V b (zx z.1).2.2.1<|AE code V.F C.m (gh j) C.c.fns T S z.1 z.2
def CM.fr(C:CM P w K E J (TbJ L) Z Y D j)(g:Gx K x st)(z:R3 D Z Y j U x st N n p V code)(G:kf<=j)(r:A4 P w K E J L U j kf)(b:autoParam (Bds x st (N.take p) p) H9._auto_1):∀d,Callee P w K E J YJ (j+1+d) x (N.take p) (ZS P w K E J L kf<|V d):=by
 refine HT λ W T=>?_;obtain⟨v,l,a⟩:=z;obtain⟨f,B,A⟩:=g;refine T ?_;clear T W;intro d
 induction d with
 |zero=>exact C.cal A b (zx v).2.2.1 (.nvr<|by rintro _ _ _ _ ⟨_,_,_,_,_,_,_,_,_,_,_,s,_⟩;exact l _ _ _ s)
 |succ d t=>
  refine C.cal A b (zx v).2.2.1<|AE (k:=j+1+d) (HC:=(x,V d)::U) code A.F C.m (gh j) (λ i y S o m=>let ⟨F,c⟩:=C.c.fns i y S o m;(F,c.mono BT)) BT (λ y S e=>?_) v<|a d;rw[dM] at e;split at e
  .rename_i h;cases e;cases iR h;exact(_,t)
  .obtain⟨F,c⟩:=r y S e;exact(F,c.mono BT)
def CM.pad{i0:Nat}{S0:Yt}{z:DR}(C:CM P w K M L J Z Y D j)(m:Nat)(N:∀A Q,¬z.2.2 A Q)(i1:i0<j)(W:D[i0]?=TJ (z.1,z.2.1,S0))(e:D.drop j=TY m z++D.drop (j+m)):CM P w K M L J Z Y D<|j+m:=by
 refine(λ i F y V S h=>?_,C.m,C.hm);by_cases c:i<j
 .exact C.c i c y V S h
 .have T:(D.drop j)[i-j]?=TJ (y,V,S):=by rw[s1p,show j+(i-j)=i by lia];exact h
  rw[e,cU (by rw[fE];lia),dY,U0 BT] at T;cases T;exact((C.c i0 i1 _ _ S0 W).imp<|by rintro vs H Q E ⟨_,_,_,_,_,s,_⟩;exact (N _ _ s).elim).mono BT
def hc0:A4 P w K D J L [] j kf:=λ _ _ e=>by cases e
def hc1(h:Callee P w K D J YJ j I M<|ZS P w K D J L kf E):A4 P w K D J L [(I,E)] j kf:=λ x S e=>by
 rw[dM] at e;split at e
 .rename_i V;cases e;cases iR V;exact(_,h)
 .cases e
end
section
variable {P:Uh}{w:Ui}{K:FG}{R:SV}{Z:Ue}{L:List (TQ×Pos×Str)}{D:Hp}{F B J O Q:Fz}{H W M N C z:Hp}{E u:List Yt}{I:List TV}{X A S:List Str}{k y:Nat}{G:LA}{U:List V}{Y:List TV}{T:Yt}
end
section
variable {P:Uh}{w:Ui}{K:FG}{v:SV}{U:Ue}{L:List (TQ×Pos×Str)}{M m:List Yt}{C:List TV}{j z W:List Str}{k o i:Nat}{x G d u:Str}{st:Uc}{f c T:TQ}{R:Uu}{N q D E A:List Str}{g:List Nat}{S:Yt}{H:Yt->Yt}{Z:Vh}{Y:Scope}{V:List Uc}{I:Expr}{F:List Expr}{J X O Q y:Pos}{l:Cd}{B:Ct}
end
section
variable {P:Uh}{w:Ui}{K:FG}{R:SV}{Y:Ue}{L:List (TQ×Pos×Str)}{Q:List TV}{E:List Str}{D:List DR}{j I C n M p d m:Nat}{x X:Str}{N B W U:List Str}{F:List Nat}{st:Uc}{S:Yt}{A J:Yt->Yt}{G:Nat->Yt->Yt}{V:List (Str×(Yt->Yt))}{code Z:Ct}{l i q:Cd}{f c T:TQ}{O:Uu}
end
structure D2 (P:Uh)(w:Ui)(K:FG)(mg:SV)(base:Ue)(CA:Nat->TQ)(CB:TQ)(c:Nat):Prop where
 bd:i8 P w K mg base CB
 ek:Zw K CB
 n3:NoAttr K CB "__getattr__"
 bi:mg "isinstance"=TM
 bv:mg "ValueError"=TM
 kv:kitOne K (.ref CB) (.type "ValueError")=TJ TK
 kb:kitOne K (.ref CB) (.ref CB)=TJ TK
 kn:W.nsIn K Ua "BadStep"=TJ (TJ<|.ref CB)
 ex:W.exmOne K (.ref CB) (.ref<|CA c)=TJ TK
noncomputable def AG:Ze:={ nx:=λ _ _=>False,rt:=λ _ _=>False }
def AH(K:FG)(A:TQ)(i:Nat)(F:TS)(D:Ze):St->XK:=λ S V d T=>W.exmOne K V (.ref A)=TJ TK/\∃C N,V=.ref C/\d=TJ N/\∀a,T a=TM->F (GQ D i) (S.set i<|TJ<|.ref a) (Yu T a<|iu a C N)
def AI(K:FG)(V:TQ)(i:Nat)(S:(St->XK)->TS)(T:TS):TS:=λ D W H=>S (AH K V i T D) AG W H
theorem MR{X:Cx}{els w N:List Uc}{K:Uc}{i:Nat}{tb:(St->XK)->TS}
  (F:X.stack=X.env::X.outer/\X.env.frame=TJ X.env.locals) (hex:X.ex=[]) (hN:X.N.Nodup) (hi:X.N[i]?=TJ n) (hk:X.env.scope.names.lookup n=TJ .local)
  (hg:Gl X x) (hn:W.nsIn X.K Ua x=TJ (TJ<|.ref CL))
  (hb:∀(xe:VS) (pn:LO) (EE:St->XK),(∀σ,kX (e8 X.prog X.w) (X.more xe pn) (EE σ) σ)->PSs (X.more xe pn) w (tb EE))
  (hs:∀(a:TQ) (pn:LO),PSs (X.suite a pn) (K::N) ts) (hd:autoParam ((x == ("__debug__" : Str))=TL) Cl._auto_1) :
  PS X (.Try w [.ExceptHandler (TJ<|.Name x np) (TJ n) (K::N) Y] els [] pos)<|AI X.K CL i tb ts:=by
 intro g s σ H D I h;refine WS ?_;generalize hXE:(λ e s₁=>TU (TX X.prog X.w) X.A (Vk e X.env) (λ _ s₂=>TU (TX X.prog X.w) X.A (Wy e TM) (λ _ s₃=>TU (TX X.prog X.w) X.A (Yh e X.env [.ExceptHandler (TJ<|.Name x np) (TJ n) (K::N) Y]) (SP X g D) X.xe s₃) X.xe s₂) X.xe s₁:VS)=XE;have A:=hb XE (X.pn++g) (AH X.K CL i ts D) ?_ [] s σ H AG (I.toMore) h
 .refine Yw A λ G P q=>?_
  cases G with
  |ret u=>obtain⟨v,σ',H',J,r,z⟩:=q;exact z.elim
  |_=>obtain⟨σ',H',J,z⟩:=q;exact z.elim
 intro σ1 pins1 H1 s1 e P I1 hx;refine HT λ T S=>?_;obtain⟨a,C,dx,H',B,rfl,os,bare,G,inB,thB,un,okB,z1,C2,d2,hC',ed2,t⟩:=hx;refine S ?_;clear S T;cases ed2;obtain rfl:C=C2:=Value.ref.inj hC';subst hXE
 have G:FlyD B (X.env::X.outer) a (.ref C) dx .none P.heap:=by
  have z:FlyD B X.stack a (.ref C) dx .none P.heap:=G;rw[F.1] at z;exact z
 have hfr:X.A.frames=TJ (X.env::X.outer):=by rw[I.ok.frames,F.1]
 have at_:=λ(h2:Ue) (f2:FlyD B (X.env::X.outer) a (.ref C) dx .none h2) u2 t2=>(I.ofMore I1).flown os bare inB thB un okB f2.1 u2 t2;refine yI hfr F.2 G λ h4 O up4=>?_;refine qo (s:={ P with heap:=h4 }) O λ h5 E up5=>?_;have J5:=at_ h5 E (up4.trans up5) P.toks;refine HT λ T S=>?_;obtain⟨oe5,ve5,he5,hc5,hd5,_⟩:=E.first;refine S ?_;clear S T
 refine s0v (yq ?_) (by intro q;cases q);have LT:Looks (TX X.prog X.w) h5 (VC<|.ref a)<|.ref C:=hc5 ▸ (Looks.ld he5).andThen .now;have bnd:=s2b J5.ok.mod.kin J5.ok.mod.glob hn;refine fV (X:=X.suite a<|X.pn++g) (J5.toSuite) hg bnd ?_ hd;obtain⟨hh,gg,dd,tt,oo⟩:=P;refine(W.exm_one (M:=TX X.prog X.w) J5.kIn LT z1).here ?_;refine codeAny_handlers_suite_as ?_;refine qo (s:=(h5,gg,dd,tt,oo)) E λ h6 Q up6=>?_;have J6:=at_ h6 Q ((up4.trans up5).trans up6) tt;refine HT λ T S=>?_;obtain⟨oe,ve,R,hoc,hod,hox⟩:=Q.first;refine S ?_;clear S T
 have Ba:B.get? a=TM:=Q.2.1;have Ha:H' a=TM:=okB.no Ba;have J1:Inv X g σ1 H1 s1:=I.ofMore I1
 have V:∀b o,h6.get? b=TJ o->(∀vs,o.data≠.fields vs)->b≠a:=λ b o e nf z=>by
  rw[z,R] at e;cases e;exact nf _ hod
 refine HT λ T S=>?_;obtain⟨mL,⟨oL,esL,epL,hoL,hdL,_⟩,_⟩:=id J6.loc;refine S ?_;clear S T;have aL:a≠X.env.locals:=λ z=>(V X.env.locals oL hoL λ vs q=>by rw[hdL] at q;cases q) z.symm
 have ac:∀y c,X.env.cells.lookup y=TJ c->c≠a:=λ y c e=>by
  obtain⟨v,o,ho,hdc⟩:=J6.cell y c e;exact V c o ho λ vs q=>by rw[hdc] at q;cases q
 have inB2:∀b o,s1.heap.get? b=TJ o->H1 b=TM->b ∉ YF X.stack->b≠a:=λ b o e nn hb z=>by
  have q:=inB b o e nn hb;rw[z,Ba] at q;cases q
 have nstk:∀b,b≠X.env.locals->b ∉ X.fs->b ∉ YF X.stack:=λ b h1 h2 z=>by
  rcases aD.mp (J1.stkSub b z) with q|q
  .exact h1 q
  .exact h2 q
 have ap:∀p∈X.pn++g,p.1≠a:=λ p hp=>by
  obtain⟨e,nn,ne,nf,_⟩:=J1.pin p hp;exact inB2 p.1 p.2 e nn<|nstk p.1 ne nf
 have a0n:X.s₀.heap.get? a=TM:=by
  cases q:X.s₀.heap.get? a with
  |none=>rfl
  |some o=>
   by_cases hx:a∈X.ex
   .rw[hex] at hx;cases hx
   .obtain⟨o1,e1⟩:=J1.base.there a o q hx;by_cases hf:a∈YF X.stack
    .obtain⟨_,o3,e3,nf⟩:=J6.stack.mem hf;exact U1 rfl<|V a o3 e3 nf
    .obtain⟨o',q'⟩:=thB a o1 e1 hf;rw[Ba] at q';cases q'
 have J7:Inv X g σ1 (Yu H' a<|iu a C dx) { heap:=h6,gens:=gg,drawn:=dd,toks:=tt,os:=oo }:=J6.track Ha ((oe,ve,R,hoc,hod,hox),(oe,R),(by rintro k1 k2 ⟨o,vs,e,c,d⟩ kk;exact (o,vs,kk o e,c,d))) aL ac ap a0n;refine se (X:=X.suite a<|X.pn++g) (v:=.ref a) (J7.toSuite) hN hi (.inl hk) rfl (λ s8 J8=>?_)<|.inr hk;refine cj (hs a (X.pn++g) [] s8 _ _ _ J8<|t a Ha) (λ G s9 q=>?_) λ _ _ z=>z.elim;have hcls:(X.env.scope.kind == .class || (X.env.scope.kind == .module&&X.env.locals != X.env.globals))=TL:=by rw[I.ok.kind];rfl
 have Z:∀ {j:St}{U:Hp}{QQ:Unit->TR->Prop},Inv (X.suite a<|X.pn++g) [] j U s9->(∀l,Inv X g (j.set i TM) U l->QQ () l)->TU (TX X.prog X.w) X.A (do bindName X.env n .none;unbindBehindTheSuite X.env n Y) QQ X.xe s9:=λ {j U QQ} f k=>by
  have J9':=I.ofSuite f;obtain⟨m,hm,hl⟩:=id J9'.loc;exact wpAny_nameGoes_keeps hk hm hcls λ h' v hn' hs'=>k _<|J9'.gone hN hi hk hm hl hn' hs'
 cases G with
 |next|brk|cont=>obtain⟨j,U,f,z⟩:=q;exact Z f λ l L=>(_,U,L,z)
 |ret u=>obtain⟨v,j,U,f,r,z⟩:=q;exact Z f λ l L=>(v,_,U,L,r,z)
section
variable {J:Hp->Prop}{L:List Yt}{Y:List TV}{U:List YT}{S:List Str}{T:Fz}{G:Hp}{B:Nat->TQ}{Z:Cq}
def A7(L:List Yt)(Y:List TV)(U:List YT)(Z:Cq):Wn:=λ T _ S=>wR L Y U Z T (λ _=>False) λ n V=>∃a w,n=.b a w/\V[1]?=TJ (TJ<|.int a)/\V[2]?=TJ (TJ<|.str w)/\S (.bl TK)
def MS:Mn<|A7 L Y U Z:=λ F A T K W h g q=>eW Z (λ _ q=>q) (by rintro n N ⟨a,w,e,V,S,q⟩;exact (a,w,e,V,S,g _ q)) q
theorem MT{p1 p2 p3 p4 p5 p6 p7 p8 p9 P u q3 q4 q5 q6 q7 q8 q9 f r2 r3 r4 r5 r6 r7 r8 r9 s1:Pos}(y:YOk X J L Y fs S ["program","at","why","e","found"] M lp)(t:w6 X J U fs cs B I<|e8 X.prog X.w)(E:D2 X.prog X.w X.K X.mg X.base B I c)(ec:cs[c]?=TJ ("LoomError" : Str))(hr:d6 fs S cs TL ["program","at","why","e","found"] M TL Z O=TK)
  (hl:(M.lookup ("at" : Str)=TJ .local/\M.lookup ("why" : Str)=TJ .local/\M.lookup ("e" : Str)=TJ .local/\M.lookup ("found" : Str)=TJ .local)/\gl M "LoomError"=TK/\gl M "isinstance"=TK/\gl M "ValueError"=TK/\gl M "BadStep"=TK) :
  PSs X [.Try O [.ExceptHandler (TJ<|.Name "LoomError" p1) (TJ "e") [.Assign [.Name "found" p2] (.Name "e" p3) p4] p5] els [] p6,
   .If (.BoolOp .Or [.UnaryOp .Not (.Call (.Name "isinstance" p7) [.Name "found" p8,.Name "ValueError" p9] [] P) u,.UnaryOp .Not (.Call (.Name "isinstance" q3) [.Name "found" q4,.Name "BadStep" q5] [] q6) q7] q8) a [] q9,
   .Return (TJ<|.BoolOp .And [.Compare (.Attribute (.Name "found" f) "at" r2) [.Eq] [.Name "at" r3] r4,.Compare (.Attribute (.Name "found" r5) "why" r6) [.Eq] [.Name "why" r7] r8] r9) s1]
  <|rN X.K J 5 T G<|A7 L Y U Z:=by
 refine HT λ N W=>?_;obtain⟨⟨l1,l2,l3,l4⟩,g1,g2,r,g4⟩:=hl;obtain⟨m,ek,n3,bi,bv,kv,kb,kn,ex⟩:=E;refine W ?_;clear W N;have nd:X.N.Nodup:=by rw[y.xs.N];exact y.nd
 have g:∀ {x},M.lookup x=TJ .local->l5 X.env.scope x:=λ h=>.inl (by rw[y.xs.nm];exact h);have e1:X.N[1]?=TJ ("at" : Str):=by rw[y.xs.N];rfl
 have e2:X.N[2]?=TJ ("why" : Str):=by rw[y.xs.N];rfl
 have e3:X.N[3]?=TJ ("e" : Str):=by rw[y.xs.N];rfl
 have e4:X.N[4]?=TJ ("found" : Str):=by rw[y.xs.N];rfl
 have lf:X.env.scope.names.lookup ("found" : Str)=TJ .local:=by rw[y.xs.nm];exact l4
 have le:X.env.scope.names.lookup ("e" : Str)=TJ .local:=by rw[y.xs.nm];exact l3
 have F:=λ {C}=>eO (X:=X) (pos:=C) e4 (g l4) Cl Cl
 refine(bU (MR t.sk t.xx nd e3 le (Zg y.xs g1) (t.cl c _ ec).1 (tb:=λ EE=>rR X.K J L Y U B I EE 5 T G [] Z) (λ xe k EE pa=>sR Z (X:=X.more xe k) (lp:=TL) (y.more xe k) (t.fx,pa,t.cl,(λ z=>by cases z),(λ z=>by cases z),t.ln) hr) (λ a' k=>kL<|mO (X:=X.suite a' k) nd e4 (.inl lf) (eO (X:=X.suite a' k) e3 (.inl le) Cl Cl) (by rfl)<|.inr lf) Cl)
 <|bU (pd (wz (sj<|si<|pI (JT ek kv) (Zg y.xs g2) bi (by decide +kernel)<|bK F<|bK (ww (v:=.ty "ValueError") (Zg y.xs r) bv (by decide +kernel) rfl) pa_nil)<|wy<|sj<|si<|pI (JR ek kb) (Zg y.xs g2) bi (by decide +kernel)<|bK F<|bK (Hc (Zg y.xs g4) kn Cl) pa_nil).pt pss_never pss_nil)
  <|kL<|mM<|wA (sJ sH (yR F rfl) (eO e1 (g l1) Cl Cl) ?_)<|su<|sJ sH (yR F rfl) (eO e2 (g l2) Cl Cl) ?_).imp λ D σ H (F,ρ,e,l,w)=>?_
 .exact wx _ Cl Cl
 .exact wx _ Cl Cl
 simp only[sv,AI,wC,oZ];have o:=e;refine(F,ρ,e,l,eW Z (λ _ q=>q.elim) (λ n ρ' s=>?_) w);refine HT λ N W=>?_;obtain⟨a,d,en,h1,h2,q⟩:=s;refine W ?_;clear W N;subst en;intro F' H' K o s' A R;refine(ex,I,A,on,on,λ p hp=>?_);refine HT λ N W=>?_;obtain⟨v1,z1,f⟩:=o.ev.sl 1 _ h1;obtain⟨v2,z2,r2⟩:=o.ev.sl 2 _ h2;refine W ?_;clear W N;cases f;cases r2;have r:(K.set 3<|TJ<|V.ref p)[3]?=TJ (TJ<|.ref p):=by rw[fD BT]
 have b:(((K.set 3<|TJ<|V.ref p).set 4<|TJ<|V.ref p).set 3 TM)[4]?=TJ (TJ<|.ref p):=by rw[du BT,fD<|by rw[cN];lia]
 have t1:(((K.set 3<|TJ<|V.ref p).set 4<|TJ<|V.ref p).set 3 TM)[1]?=TJ (TJ<|.int a):=by rw[du BT,du BT,du BT];exact z1
 have t2:(((K.set 3<|TJ<|V.ref p).set 4<|TJ<|V.ref p).set 3 TM)[2]?=TJ (TJ<|.str d):=by rw[du BT,du BT,du BT];exact z2
 have np:A≠p:=λ z=>by rw[z,hp] at R;cases R
 have hD:Yu H' p (iu p I A) A=TJ (dN A<|oa (.int a)<|.str d):=by rw[av np];exact R
 have j:∀ {i:Nat}{σ:St}{H:Hp}{Q:VK}{v:V},σ[i]?=TJ (TJ v)->Q v H->bL i σ H Q:=λ h q=>by unfold bL;rw[h];exact q
 have P:∀ {Q:VK}{H:Hp},Q (.bl TK) H->l7 (.int a) (.int a) H Q:=λ {Q H} h=>by show Q (.bl<|decide<|a=a) H;rw[bC rfl];exact h
 have u:∀ {Q:VK}{H:Hp},Q (.bl TK) H->l7 (.str d) (.str d) H Q:=λ {Q H} h=>by show Q (.bl<|decide<|d=d) H;rw[bC rfl];exact h
 refine j r ?_;refine j b (p,A,on,bB,?_);refine j b (p,A,on,bB,?_);show oZ (so (b7 l7 (lD X.K (bL 4) "at")<|bL 1)<|b7 l7 (lD X.K (bL 4) "why")<|bL 2) D _ _;unfold oZ so b7 lD;refine j b (p,I,A,_,.int a,on,bB,hD,m.at_,m.n1,n3,on,j t1 ?_);refine P ?_;show b7 l7 (lD X.K (bL 4) "why") (bL 2) _ _ D.rt;unfold b7 lD;refine j b (p,I,A,_,.str d,on,bB,hD,m.at_,m.n2,n3,on,j t2 ?_);refine u ?_;exact q F' _ _ (o.gr.trans<|.new y.xo.hJ o.ev.w _ hp) rfl
end
section
variable {K:FG}{J:Hp->Prop}{Y:List TV}{U:List Str}{Z:Nat->TQ}{st:Uc}{S:Yt}
noncomputable abbrev lrN:List Str:=["program","at","why","e","found"]
theorem CN.lr(C:CN P w K O L J Y U D M B I Z G j)(E:D2 P w K O L Z G c)(g:Gx K x st)(A:(TK&&ZP (aB st) (lrN.take 3) lrN&&decide (3<=lrN.length/\lrN.length=5))=TK)
  (N:∀(X:Cx) (V:Fz) (T:Hp),YOk X J (YM D j) Y (YS D j) U lrN (aB st).names TK->w6 X J (B.take j) (YS D j) I Z G (e8 X.prog X.w)->D2 X.prog X.w X.K X.mg X.base Z G c->PSs X (aR st) (rN X.K J 5 V T<|A7 (YM D j) Y (B.take j) R))
  (m:∀W Q,S W Q->W.length=3/\A7 (YM D j) Y (B.take j) R (YY 5 W) (λ _=>Q .non) Q) (q:autoParam (NE D M B Ys Ys x st lrN S j 3) S6._auto_1):CN P w K O L J Y U D M B I Z G (j+1) :=
 C.t g A (λ X V T F z v d o y t1 k=>by
  subst F z v d o
  exact N X V T y k E) m MS q
def CN.pad{m:Nat}(C:CN P w K B L J Y U D E I Q Z G j)(M:CM P w K B L J Y U D<|j+m)(y:E.drop j=TY m Ys++E.drop (j+m))(v:I.drop j=TY m Ys++I.drop (j+m)):CN P w K B L J Y U D E I Q Z G<|j+m:=by
 have N:∀ {W:Zq}{V:List YT},V.drop j=TY m Ys++V.drop (j+m)->Xs P w K B L J D Z G W V j->Xs P w K B L J D Z G W V (j+m):=λ {W V} g h i d x A S T F z=>by
  by_cases c:i<j
  .exact h i c x A S T F z
  .have e:(V.drop j)[i-j]?=TJ T:=by rw[s1p,show j+(i-j)=i by lia];exact z
   rw[g,cU (by rw[fE];lia),dY,U0 BT] at e;cases e;exact(M.c i d x A S F).upx
 exact(M,N y C.x1,N v C.x2,C.cl,C.l1,C.l2)
end
end _L
namespace _M
set_option backward.match.sparseCases false
open PySem _L PyProof.Rows
open TV renaming int->U2,tup->U3,str->U4
noncomputable def formsL:List<|Str×List (Str×Int):=[("in",[("sides",1)]),("num",[("number",1)]),("count",[("small",2),("sides",1)]),("each",[("word",1),("step",2)]),("pair",[("word",1),("step",2),("step",3)]),("pick",[("step",1),("step",2),("step",3)]),("turn",[("step",1),("sides",2)]),("flip",[("step",1),("small",2)]),("cut",[("step",1),("small",2),("small",3),("small",4),("small",5)]),("spread",[("step",1),("small",2),("small",3)]),("lay",[("step",1),("sides",2)]),("join",[("step",1),("step",2),("small",3)]),("fetch",[("step",1),("step",2)]),("fold",[("word",1),("step",2),("small",3)]),("run",[("word",1),("step",2),("small",3)])]
noncomputable def ah(V:Yr):Int:=V.foldl (λ a b=>a*b) 1
def oh{V:Yr}{i:Nat}(h:V[i]?=TJ x):ah (V.take<|i+1)=ah (V.take i)*x:=by
 unfold ah;rw[jv,h,jw];rfl
def cF(V:Yr):Prop:=∀n∈V,0<=n/\n<1000000000000000000
noncomputable def ak(n:Int):Int:=if n=0 then 1 else n
def AJ(h:cF Z):cF<|Z.map ak:=by
 intro n S;obtain⟨m,V,rfl⟩:=bg.mp S;have:=h m V;unfold ak;split<;>lia
def A8(V:Yr)(j:Nat):Int:=ah<|V.reverse.take j
def j6(V:Yr)(i:Nat):Yr:=(Ub i).map<|A8 V
def MU(V:Yr)(i:Nat):j6 V (i+1)=j6 V i++[A8 V i]:=by
 unfold j6;rw[oi,bG];rfl
def MV{V:Yr}{i:Nat}(S:i<V.length)(h:V[V.length-1-i]?=TJ m):A8 V (i+1)=A8 V i*m:=by
 unfold A8;exact oh (by rw[pV S];exact h)
def dg(V:Yr):Prop:=6<V.length\/512<ah (V.map ak)
def good(S V:Yr):Prop:=V.length=S.length/\∀(i:Nat) m n,V[i]?=TJ m->S[i]?=TJ n->0<=m/\m<n
def MW(V:Yr)(y:Int):ah (V++[y])=ah V*y:=by unfold ah;rw[jw];rfl
def MY(V:Yr):∀a:Int,V.foldl (λ a b=>a*b) a=a*ah V:=by
 induction V with
 |nil=>intro a;show a=a*1;rw[s0r]
 |cons x V S=>intro a;show V.foldl (λ a b=>a*b) (a*x)=a*(V.foldl (λ a b=>a*b)<|1*x);rw[S,S<|1*x,s0z,s1q]
def dh(x:Int)(V:Yr):ah (x::V)=x*ah V:=by
 show V.foldl (λ a b=>a*b) (1*x)=_;rw[MY,s0z]
noncomputable def eX(n:Nat):Yr:=TY n 0
def qK(n:Nat):(eX n).length=n:=fE ..
def fit(V:Yr):Prop:=(∀n∈V,0<=n/\n<=512)/\V.length<=6/\1<=ah (V.map ak)/\ah (V.map ak)<=512
def grow(S:Yr)(V:Int)(i:Nat):Prop:=(∀n∈S,0<=n/\n<=512)/\S.length=i/\1<=V/\V<=512/\1<=ah (S.map ak)/\V*ah (S.map ak)<=512
def Zb(S:Yr)(V:Int):Prop:=V<0\/(S.length:Int)<=V
def w9(W:Yr)(T V S step:Int):Prop:=V<0\/S<0\/step<1\/(0<S/\W.getD T.toNat 0<=V+(S-1)*step)
def ko(h:¬Zb Y Z):∃k:Nat,Z=k/\k<Y.length:=by
 unfold Zb at h;exact(Z.toNat,BT,BT)
instance (V:Yr):Decidable<|dg V:=by unfold dg;infer_instance
def A9(x y:Yr):Prop:=∀k:Nat,k<x.length->k<y.length->x[k]?=y[k]?
def MZ(x:Yr):A9 x x:=λ _ _ _=>rfl
def AK(h:A9 x y):A9 y x:=λ k a b=>(h k b a).symm
def vv{x y:Yr}(h:x.length<=y.length):A9 x y ↔ y.take x.length=x:=by
 constructor
 .intro a;apply qL;intro k;by_cases c:k<x.length
  .rw[pH c];exact(a k c BT).symm
  .rw[eE (by rw[bp];lia),eE BT]
 .intro e k V S;have z:=bT (λ l=>l[k]?) e;simp only[pH V] at z;exact z.symm
def cG(x y:Yr):Prop:=if y.length<x.length then x.take y.length=y else y.take x.length=x
noncomputable def bW(x y:Yr):Yr:=if y.length<x.length then x else y
def AL(x y:Yr):cG x y ↔ A9 x y:=by
 unfold cG;split
 .rename_i h;exact(vv BT).symm.trans (AK,AK)
 .rename_i h;exact(vv BT).symm
def Na(h:A9 x y)(l:x.length=y.length):x=y:=by
 have z:=(vv (x:=x) (y:=y) BT).mp h;rw[l,bP] at z;exact z.symm
def tups(H:Hp)(S:List TQ)(L:LL):Prop:=S.length=L.length/\∀(i:Nat) p m,S[i]?=TJ p->L[i]?=TJ m->H p=TJ (.tup<|m.map V.int)
def sm(V:Yr):Prop:=∀n∈V,0<=n/\n<=1000000
def Nb(h:sm Z):cF Z:=λ n V=>by have:=h n V;lia
noncomputable def iB(S T:Yr)(V:Int):Yr:=S.set V.toNat<|S.getD V.toNat 0+T.getD V.toNat 0
def jx{n k:Nat}(h:k<n):b9 n (k:Int)=TJ k:=by unfold b9;rw[U0 BT];simp;lia
def getD_mem{ns:Yr}{k:Nat}(h:k<ns.length):ns.getD k 0∈ns:=by rw[aG,aZ h];exact lG h
def RwI(H:Hp)(a:TQ)(S:Yr):Prop:=H a=TJ (.lst<|S.map V.int)\/H a=TJ (.tup<|S.map V.int)
noncomputable def oj(n:Int):Int:=if n%17=5 then [(-9223372036854775808:Int),9223372036854775807,-1,4611686018427387904].getD (n/17%4).toNat 0 else (n+9223372036854775808)%18446744073709551616-9223372036854775808
theorem vx:∀ {ns:Yr},(∀n∈ns,0<=n)->0<=ah ns/\ah ns<=ah (ns.map ak)
 |[],_=>by decide
 |n::ns,h=>by
  obtain⟨V,i1⟩:=vx (ns:=ns) λ m S=>h m<|bz _ S;have T:=h n bn;rw[cB,dh,dh];have o:n<=ak n/\0<=ak n:=by unfold ak;split<;>lia
  exact(Int.mul_nonneg T V,s0q o.1 i1 V o.2)
def Nc{V:Yr}{k:Nat}(S:k<V.length):V[k]?=TJ (V.getD k 0):=by rw[aG,aZ S];rfl
noncomputable def kr(n:Int):Int:=(n+9223372036854775808)%18446744073709551616-9223372036854775808
noncomputable def vy(x y:Int):Int:=if y=0 then 0 else kr (Int.fdiv x y)
noncomputable def vz(x y:Int):Int:=if y=0 then x else Int.fmod x y
noncomputable def AM(w:Str)(x y:Int):Int :=
 if w="add" then kr (x+y) else if w="sub" then kr (x-y) else if w="mul" then kr (x*y) else if w="quo" then vy x y else if w="rest" then vz x y
 else if w="max" then (if x<y then y else x) else if w="min" then (if y<x then y else x) else if w="less" then (if x<y then 1 else 0) else if w="like" then (if x=y then 1 else 0)
 else if w="and" then Builtin.bitAnd x y else if w="or" then Builtin.bitOr x y else Builtin.bitXor x y
def inB(x:Int):Prop:=-9223372036854775808<=x/\x<9223372036854775808
def Nd(n:Int):inB<|oj n:=by
 unfold oj inB;split
 .have h:n/17%4=0\/n/17%4=1\/n/17%4=2\/n/17%4=3:=by lia
  rcases h with h|h|h|h<;>rw[h]<;>exact(Cl,Cl)
 .lia
noncomputable def AN(x:Int):Int:=if x<0 then -x else x
noncomputable def AO(w:Str)(x:Int):Int:=if w="neg" then kr (-x) else if w="abs" then kr (AN x) else if w="sign" then (if x<0 then -1 else if 0<x then 1 else 0) else if x=0 then 1 else 0
noncomputable def oq:List Str:=["neg","abs","sign","not"]
noncomputable def ou:List Str:=["add","sub","mul","quo","rest","max","min","less","like","and","or","xor"]
def vA(h:cG x y):(bW x y).take x.length=x/\(bW x y).take y.length=y:=by
 unfold cG at h;unfold bW;split at h
 .rename_i c;rw[U0 c];exact(bP,h)
 .rename_i c;rw[T9 c];exact(h,bP)
noncomputable abbrev fw:List Str:=["add","mul","max","min","and","or","xor"]
def B0(w:Str):Prop:=w∈fw
noncomputable def dR(w:Str):Int:=if w="mul" then 1 else if w="max" then -9223372036854775808 else if w="min" then 9223372036854775807 else if w="and" then -1 else 0
def Nf:dR "add"=0:=by unfold dR;rw[T9 (by decide +kernel),T9 (by decide +kernel),T9 (by decide +kernel),T9<|by decide +kernel]
def Ng:dR "mul"=1:=by unfold dR;rw[U0 rfl]
def Nh:dR "max"=-9223372036854775808:=by unfold dR;rw[T9 (by decide +kernel),U0 rfl]
def Ni:dR "min"=9223372036854775807:=by unfold dR;rw[T9 (by decide +kernel),T9 (by decide +kernel),U0 rfl]
def Nj:dR "and"=-1:=by unfold dR;rw[T9 (by decide +kernel),T9 (by decide +kernel),T9 (by decide +kernel),U0 rfl]
def Nk:dR "or"=0:=by unfold dR;rw[T9 (by decide +kernel),T9 (by decide +kernel),T9 (by decide +kernel),T9<|by decide +kernel]
def Nl:dR "xor"=0:=by unfold dR;rw[T9 (by decide +kernel),T9 (by decide +kernel),T9 (by decide +kernel),T9<|by decide +kernel]
noncomputable def kinds:List Str:=["in","num","count","each","pair","pick","turn","flip","cut","spread","lay","join","fetch","fold","run"]
def bw(i:Nat):Str:=kinds.getD i ""
noncomputable def Nm(V:List<|Str×Int):Yr:=V.filterMap λ f=>if f.1=("step" : Str) then TJ f.2 else TM
def AQ(i:Nat):Yr:=Nm<|(formsL.getD i ("",[])).2
def kt(n:Nat)(os:Yr):Prop:=os.Perm<|YN n
def up_mem{n:Nat}{x:Int}:x∈YN n ↔ 0<=x/\x<n:=by
 unfold YN;constructor
 .intro h;obtain⟨i,V,rfl⟩:=bg.mp h;have:=gw.mp V;lia
 .intro h;exact bg.mpr (x.toNat,gw.mpr BT,BT)
def fP(n:Nat):(YN n).length=n:=by simp[YN]
def No(n:Nat):(YN n).Pairwise (·<=·):=by
 unfold YN;rw[List.pairwise_map];exact List.Pairwise.imp (λ h=>by lia)<|List.pairwise_lt_range (n:=n)
theorem AR:∀ {l1 V:Yr},l1.Perm V->l1.Pairwise (·<=·)->V.Pairwise (·<=·)->l1=V
 |[],V,p,_,_=>(List.nil_perm.mp p).symm
 |a::l1,V,p,N,A=>by
  cases V with
  |nil=>exact List.perm_nil.mp p
  |cons b V=>
   obtain⟨S,T⟩:=nN.mp N;obtain⟨b1,W⟩:=nN.mp A
   have K:a<=b:=by
    rcases aD.mp (p.symm.subset<|bn ..) with e|e
    .lia
    .exact S b e
   have F:b<=a:=by
    rcases aD.mp (p.subset<|bn ..) with e|e
    .lia
    .exact b1 a e
   have e:a=b:=BT;subst e;rw[AR (List.perm_cons a |>.mp p) T W]
def Np{os V:Yr}(p:V.Perm os)(s:V.Pairwise (·<=·)):V=YN n ↔ kt n os :=
 (λ e=>p.symm.trans (by rw[e]),λ t=>AR (p.trans t) s<|No n)
noncomputable def cq(V os:Yr):Yr:=os.map λ k=>V.getD k.toNat 0
noncomputable def bX(V:Yr)(k:Nat)(m:Int):Yr:=V.take k++[m]++V.drop k
def mi(S:Yr)(V:Int):Prop:=V<0\/(S.length:Int)<V
def AS(V:Yr)(k:Nat)(m:Int):(bX V k m).length=V.length+1:=by
 unfold bX;simp only[aQ,bp,cW,Up,Wf];lia
def mj{V:Yr}{k:Nat}(h:k<V.length):V.getD k 0∈V:=by rw[aG,aZ h];exact lG h
def jy{n:Int}(h:0<=n):1<=ak n:=by unfold ak;split<;>lia
def vB{n:Int}(h:0<=n):(if n > 1 then n else 1)=ak n:=by unfold ak;split<;>split<;>lia
def qM{V:Yr}(h:∀n∈V,0<=n):1<=ah (V.map ak):=by
 induction V with
 |nil=>decide
 |cons n V T=>
  rw[cB,dh];have a:=jy<|h n bn;have b:=T λ m S=>h m<|bz _ S;exact mq Cl<|s0q a b Cl BT
def vC{r d:Int}(S:1<=d)(V:d<=r):1<=r/d:=by
 have:=Int.ediv_le_ediv (a:=d) (b:=r) (c:=d) BT V;rw[Int.ediv_self BT] at this;exact this
def Nq{V:Yr}{k:Nat}{x:Int}(S:k<V.length):V.take k++[x]++V.drop (k+1)=V.set k x:=by
 rw[vD,U0 S,jJ];rfl
def iC(h:fit Z):cF Z:=λ n V=>by have:=h.1 n V;exact(this.1,BT)
def qN(h:fit Z):¬dg Z:=λ b=>b.elim (λ z=>by have:=h.2.1;lia) (λ z=>by have:=h.2.2.2;lia)
def Nr{V:Yr}{n:Nat}(h:V.length=n):(Ub n).map (λ i=>V.getD i 0)=V:=by
 subst h;apply qL;intro k;by_cases c:k<V.length
 .rw[bc,ji c];exact(Nc c).symm
 .rw[eE (by simp;lia),eE BT]
def qO{a b:Yr}(h:a.Perm b):ah a=ah b:=by
 induction h with
 |nil=>rfl
 |cons x _ T=>rw[dh,dh,T]
 |swap x y l=>rw[dh,dh,dh,dh,<- s1q,<- s1q,XW x y]
 |trans _ _ V S=>rw[V,S]
def Nt{V os:Yr}(t:kt V.length os):(cq V os).Perm V:=by
 have e:(YN V.length).map (λ k:Int=>V.getD k.toNat 0)=V:=by
  unfold YN;rw[bV];exact Nr rfl
 have:=t.map λ k:Int=>V.getD k.toNat 0;rw[e] at this;exact this
inductive Stp where
 |inp (ms:Yr)
 |num (n:Int)
 |count (ms:Yr) (k:Int)
 |each (w:Str) (a:Nat)
 |pair (w:Str) (a b:Nat)
 |pick (a b c:Nat)
 |turn (a:Nat) (os:Yr)
 |flip (a:Nat) (side:Int)
 |cut (a:Nat) (side f m g:Int)
 |spread (a:Nat) (side m:Int)
 |lay (a:Nat) (ms:Yr)
 |join (a b:Nat) (side:Int)
 |fetch (a b:Nat)
 |fold (w:Str) (a:Nat) (side:Int)
 |run (w:Str) (a:Nat) (side:Int)
noncomputable def Stp.ctorIdx(t:Stp):Nat:=t.casesOn (λ _=>0) (λ _=>1) (λ _ _=>2) (λ _ _=>3) (λ _ _ _=>4) (λ _ _ _=>5) (λ _ _=>6) (λ _ _=>7) (λ _ _ _ _ _=>8) (λ _ _ _=>9) (λ _ _=>10) (λ _ _ _=>11) (λ _ _=>12) (λ _ _ _=>13) (λ _ _ _=>14)
def aW(mo:Int)(V:Yr):Prop:=(∀n∈V,0<=n/\n<=mo)/\V.length<=6/\1<=ah (V.map ak)/\ah (V.map ak)<=mo
def cQ(mo:Int):Prop:=2<=mo/\mo<=512
def jz{mo:Int}(h:aW mo Z)(m:cQ mo):fit Z:=(λ n V=>by have:=h.1 n V;have:=m.2;lia,h.2.1,h.2.2.1,mq h.2.2.2 m.2)
def qP{mo:Int}(m:cQ mo):aW mo []:=((λ n V=>nomatch V),Cl,Cl,by have:=m.1;show(1:Int)<=mo;lia)
def vE{mo n:Int}(h:aW mo ns)(l:ns.length<6)(S:0<=n)(A:n<=mo/ah (ns.map ak)):aW mo<|ns++[n]:=by
 have p:=h.2.2.1;have e:ah ((ns++[n]).map ak)=ah (ns.map ak)*ak n:=by rw[bG];exact MW _ _
 have T:=jy S;have N:1<=mo/ah (ns.map ak):=vC p h.2.2.2;have K:mo/ah (ns.map ak)<=mo:=WI _ (by have:=h.2.2.2;lia);have y:ah (ns.map ak)*(mo/ah (ns.map ak))<=mo:=s0l BT;generalize mo/ah (ns.map ak)=q at *;have W:ak n<=q:=by unfold ak;split<;>lia
 have F:=ow W (show 0<=ah (ns.map ak) by lia);refine(λ k V=>?_,by rw[aQ,hZ];lia,?_,?_)
 .rcases cy.mp V with z|z
  .exact h.1 k z
  .cases aK.mp z;lia
 .rw[e];exact mq Cl<|s0q p T Cl BT
 .rw[e];lia
def Zp(T:LL)(S:Yr):Stp->Prop
 |.inp W=>S=W/\¬dg W
 |.num n=>S=[]/\inB n
 |.count W k=>S=W/\¬dg W/\¬Zb W k
 |.each w a=>T[a]?=TJ S/\w∈oq
 |.pair w a b=>∃A B,T[a]?=TJ A/\T[b]?=TJ B/\w∈ou/\cG A B/\S=bW A B
 |.pick a b c=>∃A B C,T[a]?=TJ A/\T[b]?=TJ B/\T[c]?=TJ C/\cG A B/\cG (bW A B) C/\S=bW (bW A B) C
 |.turn a os=>∃A,T[a]?=TJ A/\kt A.length os/\S=cq A os
 |.flip a V=>T[a]?=TJ S/\¬Zb S V
 |.cut a V f m g=>∃A,T[a]?=TJ A/\¬Zb A V/\¬w9 A V f m g/\(m<=512/\f<=512/\g<=512)/\S=A.set V.toNat m
 |.spread a V m=>∃A,T[a]?=TJ A/\¬mi A V/\¬m<0/\m<=512/\¬dg (bX A V.toNat m)/\S=bX A V.toNat m
 |.lay a W=>∃A,T[a]?=TJ A/\¬dg W/\ah A=ah W/\S=W
 |.join a b V=>∃A B,T[a]?=TJ A/\T[b]?=TJ B/\A.length=B.length/\¬Zb A V/\A.eraseIdx V.toNat=B.eraseIdx V.toNat/\¬dg (iB A B V)/\S=iB A B V
 |.fetch a b=>∃n r B,T[a]?=TJ (n::r)/\n≠0/\T[b]?=TJ B/\¬dg (B++r)/\S=B++r
 |.fold w a V=>∃A,T[a]?=TJ A/\B0 w/\¬Zb A V/\S=A.eraseIdx V.toNat
 |.run w a V=>T[a]?=TJ S/\B0 w/\¬Zb S V
def my{mo:Int}(h:aW mo Z):∀n∈Z,0<=n:=λ n V=>(h.1 n V).1
def Nu{n m:Int}(h:n<=m)(V:1<=m):ak n<=m:=by unfold ak;split<;>lia
def Nv{mo:Int}(h:aW mo Z)(m:cQ mo):aW mo [ah Z]:=by
 have p:=vx<|my h;have b:=h.2.2.2;have o:=jy p.1;have e:ah ([ah Z].map ak)=ak (ah Z):=by show ah [ak<|ah Z]=_;rw[dh];exact s0r _
 refine(λ n V=>?_,nj<|cn _,by rw[e];exact o,by rw[e];exact Nu BT<|by have:=m.1;lia);cases aK.mp V;lia
def Nw{mo:Int}(h:aW mo Z)(m:cQ mo)(l:Z.length<6):aW mo<|1::Z:=by
 have e:ah ((1::Z).map ak)=ah (Z.map ak):=by rw[cB,dh];exact s0z _
 refine(λ n V=>?_,by rw[Up];lia,by rw[e];exact h.2.2.1,by rw[e];exact h.2.2.2)
 rcases aD.mp V with z|z
 .have:=m.1;lia
 .exact h.1 n z
def Nx{mo:Int}(h:aW mo Z)(m:cQ mo)(c:ah Z%2=0):aW mo [ah Z/2,2]/\ah [ah Z/2,2]=ah Z:=by
 have p:=vx<|my h;have b:=h.2.2.2;have T:=m.1;have e:ah ([ah Z/2,2].map ak)=ak (ah Z/2)*2:=by show ah [ak<|ah Z/2,2]=_;rw[dh,dh];show _*(2*1)=_;rfl
 have V:ah [ah Z/2,2]=ah Z/2*2:=by rw[dh,dh];show _*(2*1)=_;rfl
 generalize ah Z=P at *;have o:1<=ak (P/2)/\ak (P/2)*2<=mo:=by unfold ak;split<;>lia
 refine((λ n S=>?_,nj<|nj<|cn _,by rw[e];lia,by rw[e];exact o.2),by rw[V];lia)
 rcases aD.mp S with z|z
 .lia
 .cases aK.mp z;lia
def Ny{mo:Int}(h:aW mo Z):aW mo Z.reverse/\ah Z.reverse=ah Z:=by
 have p:=List.reverse_perm Z;have e:=qO<|p.map ak;exact((λ n V=>h.1 n<|List.mem_reverse.mp V,by rw[lO];exact h.2.1,by rw[e];exact h.2.2.1,by rw[e];exact h.2.2.2),qO p)
def Nz{mo:Int}(h:aW mo Z)(m:cQ mo):cF Z:=λ n V=>by have:=h.1 n V;have:=m.2;exact(BT,BT)
def ky(V:Yr)(d:Int):Yr:=if d%4=1 then [ah V] else if d%4=2/\V.length<6 then 1::V else if d%4=3/\ah V%2=0 then [ah V/2,2] else V.reverse
def NA{mo:Int}(h:aW mo Z)(m:cQ mo):aW mo (ky Z d)/\ah (ky Z d)=ah Z:=by
 unfold ky;by_cases c1:d%4=1
 .rw[U0 c1];exact(Nv h m,by rw[dh];exact s0r _)
 rw[T9 c1];by_cases c2:d%4=2/\Z.length<6
 .rw[U0 c2];exact(Nw h m c2.2,by rw[dh];exact s0z _)
 rw[T9 c2];by_cases c3:d%4=3/\ah Z%2=0
 .rw[U0 c3];exact Nx h m c3.2
 rw[T9 c3];exact Ny h
def fQ(A B:Yr)(k:Nat):Yr:=if A.length=B.length/\A.eraseIdx k=B.eraseIdx k then iB A B k else []
def NB(i:Nat):YN (i+1)=YN i++[(i:Int)]:=by unfold YN;rw[oi,bG];rfl
def NC{os:Yr}(h:os.Perm<|YN i):(os.take j++(i:Int)::os.drop j).Perm<|YN<|i+1:=by
 rw[NB];refine List.Perm.trans WK ?_;rw[vp];exact(h.cons _).trans (AT _ _).symm
def ND{mo:Int}{V os:Yr}(h:aW mo V)(t:kt V.length os):aW mo<|cq V os:=by
 have p:=Nt t;have e:=qO<|p.map ak;exact(λ n S=>h.1 n<|p.subset S,by rw[p.length_eq];exact h.2.1,by rw[e];exact h.2.2.1,by rw[e];exact h.2.2.2)
def NF{mo:Int}{A B:Yr}(p:A.Perm B)(h:aW mo B):aW mo A:=by
 have e:=qO<|p.map ak;exact(λ n V=>h.1 n<|p.subset V,by rw[p.length_eq];exact h.2.1,by rw[e];exact h.2.2.1,by rw[e];exact h.2.2.2)
def NG{mo x:Int}(h:aW mo A)(l:A.length<6)(V:0<=x)(S:x<=mo/ah (A.map ak)):aW mo<|bX A k x:=by
 refine NF ?_<|vE h l V S;unfold bX;rw[jJ];refine List.Perm.trans WK ?_;show(x::(A.take k++A.drop k)).Perm _;rw[vp];exact(AT _ _).symm
def jA(x:Int)(V:Yr):ah ((x::V).map ak)=ak x*ah (V.map ak):=by rw[cB];exact dh _ _
def NH{S:Yr}(h:∀n∈S,0<=n):∀n∈S,n<=ah (S.map ak):=by
 induction S with
 |nil=>exact λ n V=>nomatch V
 |cons x W A=>
  intro n V;have N:=h x<|bn ..;have T:∀n∈W,0<=n:=λ n V=>h n<|bz _ V;have p:=qM T;have o:=jy N;rw[jA]
  rcases aD.mp V with e|V
  .rw[e];have K:x<=ak x:=by unfold ak;split<;>lia
   have:=ow p (show 0<=ak x by lia);lia
  .have:=A T n V;have:=qQ o (show 0<=ah (W.map ak) by lia);lia
def NI{S:Yr}(h:∀n∈S,0<=n):∀ {k:Nat}{m:Int},0<=m->m<=S.getD k 0->ah ((S.set k m).map ak)<=ah (S.map ak):=by
 induction S with
 |nil=>intro k m _ _;rw[List.set_nil];exact jN _
 |cons x T K=>
  intro k m F V;have A:=h x<|bn ..;have W:∀n∈T,0<=n:=λ n N=>h n<|bz _ N;have p:=qM W
  cases k with
  |zero=>
   have V:m<=x:=V;show ah ((m::T).map ak)<=_;rw[jA,jA];exact qQ (by unfold ak;split<;>split<;>lia) BT
  |succ k=>
   have V:m<=T.getD k 0:=V;show ah ((x::T.set k m).map ak)<=_;rw[jA,jA];exact ow (K W F V) (by have:=jy A;lia)
def NJ{V:Yr}(h:∀n∈V,0<=n):∀ {k:Nat},ah ((V.eraseIdx k).map ak)<=ah (V.map ak):=by
 induction V with
 |nil=>intro k;rw[List.eraseIdx_nil];exact jN _
 |cons x S A=>
  intro k;have W:=h x<|bn ..;have T:∀n∈S,0<=n:=λ n N=>h n<|bz _ N;have p:=qM T
  cases k with
  |zero=>
   show ah (S.map ak)<=_;rw[jA];have:=qQ (jy W) (show 0<=ah (S.map ak) by lia);lia
  |succ k=>
   show ah ((x::S.eraseIdx k).map ak)<=_;rw[jA,jA];exact ow (A T) (by have:=jy W;lia)
def vF{mo:Int}{V:Yr}(S:∀n∈V,0<=n)(l:V.length<=6)(w:ah (V.map ak)<=mo):aW mo V:=(λ n T=>(S n T,mq (NH S n T) w),l,qM S,w)
def NK{mo m:Int}(h:aW mo A)(V:0<=m)(T:m<=A.getD k 0):aW mo<|A.set k m:=vF (λ n S=>by rcases oy S with z|z;exact my h n z;rw[z];exact V) (by rw[cN];exact h.2.1)<|mq (NI (my h) V T) h.2.2.2
def NL{mo:Int}(h:aW mo A):aW mo<|A.eraseIdx k:=vF (λ n V=>my h n<|List.mem_of_mem_eraseIdx V) (cw (List.length_eraseIdx_le ..) h.2.1)<|mq (NJ<|my h) h.2.2.2
def NM{n f g e:Int}(T:0<=n)(A:0<=f)(S:1<=g)(N:0<=e):0<=(if (n-1-f).fdiv g+1-e > 0 then (n-1-f).fdiv g+1-e else 0)/\(if (n-1-f).fdiv g+1-e > 0 then (n-1-f).fdiv g+1-e else 0)<=n/\¬(0<(if (n-1-f).fdiv g+1-e > 0 then (n-1-f).fdiv g+1-e else 0)/\n<=f+((if (n-1-f).fdiv g+1-e > 0 then (n-1-f).fdiv g+1-e else 0)-1)*g):=by
 rw[pr _ BT];have K:g*((n-1-f)/g)<=n-1-f:=s0l BT;generalize (n-1-f)/g=q at *;split
 .rename_i c;have V:=qQ (show q+1-e-1<=q by lia) (show 0<=g by lia);rw[XW q g] at V;have W:=ow S (show 0<=q+1-e-1 by lia);generalize (q+1-e-1)*g=z at *;exact(BT,BT,λ y=>by lia)
 .exact(BT,T,λ y=>by lia)
def AU(A:Yr):cG A A:=(AL A A).mpr<|MZ A
def AW(h:cG x y)(l:y.length<=x.length):bW x y=x:=by
 unfold bW;split
 .rfl
 .exact(Na ((AL x y).mp h) BT).symm
def AX{x y:Yr}(l:x.length<y.length):bW x y=y:=by unfold bW;rw[T9 BT]
def AY{P:Yr->Prop}(h:P x)(V:P y):P<|bW x y:=by unfold bW;split<;>assumption
def gi{k:Int}{n:Nat}(h:k∈YN n):∃a:Nat,k=a/\a<n:=(k.toNat,(nU (up_mem.mp h).1).symm,by have:=up_mem.mp h;lia)
def AZ{a n:Nat}(h:a<n):(a:Int)∈YN n:=up_mem.mpr (s1f _,Int.ofNat_lt.mpr h)
def eI(mo:Int)(T:List Stp)(V:LL):Prop:=T.length=V.length/\(∀S∈V,aW mo S)/\∀(i:Nat) (d:Stp) (S:Yr),T[i]?=TJ d->V[i]?=TJ S->Zp (V.take i) S d
def Bb{mo:Int}(h:eI mo Y Z)(o:Zp Z S d)(f:aW mo S):eI mo (Y++[d])<|Z++[S]:=by
 refine(by rw[aQ,aQ,h.1];rfl,λ T y=>?_,λ i F K V W=>?_)
 .rcases cy.mp y with z|z
  .exact h.2.1 T z
  .cases aK.mp z;exact f
 .by_cases c:i<Y.length
  .rw[cU c] at V;have A:i<Z.length:=by rw[<- h.1];exact c
   rw[cU A] at W;rw[Bc<|fj A];exact h.2.2 i F K V W
  .have v:=(aP.mp V).1;rw[aQ,hZ] at v;have N:i=Y.length:=BT;rw[N,cS<|ax _,iA] at V;rw[N,h.1,cS<|ax _,iA] at W;cases V;cases W;rw[N,h.1,Bc<|ax _,bP];exact o
def Be(mo:Int):eI mo [] []:=(rfl,(λ _ h=>nomatch h),(λ _ _ _ h=>nomatch h))
def Bf(h:¬fQ A B k=[]):A.length=B.length/\A.eraseIdx k=B.eraseIdx k/\fQ A B k=iB A B k:=by
 unfold fQ at h ⊢;split
 .rename_i c;exact(c.1,c.2,rfl)
 .rename_i c;rw[T9 c] at h;exact U1 rfl h
def Bg{V:Yr}{m:Int}(h:∀n∈V,0<=n/\n<=m)(S:0<=m)(k:Nat):0<=V.getD k 0/\V.getD k 0<=m:=by
 by_cases c:k<V.length
 .exact h _<|mj c
 .rw[aG,eE BT];exact(jN _,S)
def Md(S:Int)(A:Yr)(k:Nat)(T V:LL):Prop:=(S=11/\V=T.map (λ B=>fQ A B k))\/(S=12/\0<A.getD 0 0/\V=T.map (λ B=>B++A.drop 1))\/(¬S=11/\¬0<A.getD 0 0/\V=[[]])
def NN(h:Md U A k Y Z)(l:Y.length<=40):Z.length<=40:=by
 rcases h with ⟨_,rfl⟩|⟨_,_,rfl⟩|⟨_,_,rfl⟩
 .rw[af];exact l
 .rw[af];exact l
 .exact nj<|cn _
def NO{F mo:Int}(h:Md F A k Y Z)(W:aW mo A)(K:∀S∈Y,aW mo S)(m:cQ mo):∀M∈Z,∀n∈M,0<=n/\n<=1024:=by
 have g:=m.2;have j:=m.1
 rcases h with ⟨_,rfl⟩|⟨_,_,rfl⟩|⟨_,_,rfl⟩
 .intro M T n V;obtain⟨B,N,rfl⟩:=bg.mp T;by_cases c:fQ A B k=[]
  .rw[c] at V;exact nomatch V
  .rw[(Bf c).2.2] at V;unfold iB at V
   rcases oy V with z|z
   .have:=W.1 n z;lia
   .have y:=Bg W.1 (show 0<=mo by lia) (k:Int).toNat
    have v:=Bg (K B N).1 (show 0<=mo by lia) (k:Int).toNat
    lia
 .intro M T n V;obtain⟨B,N,rfl⟩:=bg.mp T
  rcases cy.mp V with z|z
  .have:=(K B N).1 n z;lia
  .have:=W.1 n<|s0m z;lia
 .intro M T n V;cases aK.mp T;exact nomatch V
def NP{M:Yr}(h:∀n∈M,0<=n/\n<=1024):cF M:=λ n V=>by have:=h n V;exact(this.1,BT)
def NQ{M:Yr}{mo:Int}(m:cQ mo)(l:M.length<=6)(w:ah (M.map ak)<=mo):¬dg M:=λ z=>z.elim BT (by have:=m.2;lia)
def NR{V:LL}{M:Int}(h:M∈V.map (λ S=>(S.length:Int)))(W:0<M):∃S∈V,0<S.length:=by
 obtain⟨S,T,rfl⟩:=bg.mp h;exact(S,T,BT)
noncomputable def YD:Stp->Nat
 |.inp ..=>0|.num ..=>1|.count ..=>2|.each ..=>3|.pair ..=>4|.pick ..=>5|.turn ..=>6|.flip ..=>7|.cut ..=>8|.spread ..=>9|.lay ..=>10|.join ..=>11|.fetch ..=>12|.fold ..=>13|.run ..=>14
noncomputable def ao:Stp->List Nat
 |.inp ..=>[]|.num ..=>[]|.count ..=>[]
 |.each _ a=>[a]|.pair _ a b=>[a,b]|.pick a b c=>[a,b,c]
 |.turn a _=>[a]|.flip a _=>[a]|.cut a ..=>[a]|.spread a ..=>[a]|.lay a _=>[a]
 |.join a b _=>[a,b]|.fetch a b=>[a,b]|.fold _ a _=>[a]|.run _ a _=>[a]
def Bh:Stp->Prop
 |.each w _=>w∈oq|.pair w _ _=>w∈ou|.fold w _ _=>B0 w|.run w _ _=>B0 w|_=>True
def vG(h:Zp Z S d):Bh d:=by
 cases d with
 |each w a=>exact h.2
 |pair w a b=>obtain⟨A,B,_,_,z,_⟩:=h;exact z
 |fold w a s=>obtain⟨A,_,z,_⟩:=h;exact z
 |run w a s=>exact h.2.1
 |_=>trivial
def Bi(h:Zp Z S d):∀a∈ao d,a<Z.length:=by
 have g:∀ {a:Nat}{A:Yr},Z[a]?=TJ A->a<Z.length:=λ e=>(aP.mp e).1;intro x N
 cases d with
 |inp F|num n|count F k=>exact nomatch N
 |each w a|flip a s|run w a s=>cases aK.mp N;exact g h.1
 |pair w a b|join a b s=>
  obtain⟨A,B,W,K,_⟩:=h
  rcases aD.mp N with z|z
  .rw[z];exact g W
  .cases aK.mp z;exact g K
 |pick a b c=>
  refine HT λ T V=>?_;obtain⟨A,B,C,W,K,y,_⟩:=h;refine V ?_;clear V T
  rcases aD.mp N with z|z
  .rw[z];exact g W
  rcases aD.mp z with z|z
  .rw[z];exact g K
  .cases aK.mp z;exact g y
 |turn a os|cut a s f m v|spread a s m|lay a F|fold w a s=>obtain⟨A,W,_⟩:=h;cases aK.mp N;exact g W
 |fetch a b=>
  refine HT λ T V=>?_;obtain⟨n,r,B,W,_,K,_⟩:=h;refine V ?_;clear V T
  rcases aD.mp N with z|z
  .rw[z];exact g W
  .cases aK.mp z;exact g K
def NS(d:Stp):(ao d).length<=3:=by cases d<;>exact Nat.le_of_sub_eq_zero rfl
def gP(mo:Int)(V:List Stp)(S:LL)(os:Yr):Prop:=cQ mo/\eI mo V S/\0<V.length/\V.length<=40/\0<os.length/\os.length<=8/\∀o∈os,0<=o/\o<(V.length:Int)
def NT{mo:Int}(h:eI mo Y Z)(m:cQ mo):∀T∈Z,fit T:=λ T V=>jz (h.2.1 T V) m
def Bj(h:fit A):sm A:=λ n V=>by have:=h.1 n V;exact(BT,BT)
section
variable {Z:Int->Int->Int}
variable (Y:∀x y,Z x y=2*Z (x/2) (y/2)+(if x%2=1/\y%2=1 then 1 else 0))
include Y
end
def Bk{os:Yr}(t:kt n os):os.length=n:=by rw[t.length_eq,fP]
noncomputable def Bl(f:Nat->Nat):Stp->Stp
 |.inp V=>.inp V
 |.num n=>.num n
 |.count V k=>.count V k
 |.each w a=>.each w (f a)
 |.pair w a b=>.pair w (f a) (f b)
 |.pick a b c=>.pick (f a) (f b) (f c)
 |.turn a os=>.turn (f a) os
 |.flip a s=>.flip (f a) s
 |.cut a s g m h=>.cut (f a) s g m h
 |.spread a s m=>.spread (f a) s m
 |.lay a V=>.lay (f a) V
 |.join a b s=>.join (f a) (f b) s
 |.fetch a b=>.fetch (f a) (f b)
 |.fold w a s=>.fold w (f a) s
 |.run w a s=>.run w (f a) s
def NU{K Zs:LL}{f:Nat->Nat}(h:Zp K S d)(g:∀a∈ao d,∀A,K[a]?=TJ A->Zs[f a]?=TJ A):Zp Zs S<|Bl f d:=by
 cases d with
 |inp|num|count=>exact h
 |each|flip|run=>exact(g _ (.head _) _ h.1,h.2)
 |turn|cut|spread|lay|fold=>obtain⟨A,e,r⟩:=h;exact(A,g _ (.head _) _ e,r)
 |pair|join=>obtain⟨A,B,W,N,r⟩:=h;exact(A,B,g _ (.head _) _ W,g _ (.tail _<|.head _) _ N,r)
 |fetch=>refine HT λ T V=>?_;obtain⟨n,r,B,W,y,N,z⟩:=h;refine V ?_;clear V T;exact(n,r,B,g _ (.head _) _ W,y,g _ (.tail _<|.head _) _ N,z)
 |pick=>refine HT λ T V=>?_;obtain⟨A,B,C,W,N,F,r⟩:=h;refine V ?_;clear V T;exact(A,B,C,g _ (.head _) _ W,g _ (.tail _<|.head _) _ N,g _ (.tail _<|.tail _<|.head _) _ F,r)
end _M
namespace PySem.W.Fast
def tw10149092154545355428:=Fr
def tw10161710251219935119:=Fr
def tw10348635867482269151:=Fr
def tw10356869298741152066:=Fr
def tw10358524063610637122:=Fr
def tw10368046335872540545:=Fr
def tw10461495685246468493:=Fr
def tw10498651295506495821:=Fr
def tw10527831506888599274:=Fr
def tw10596164596930705709:=Fr
def tw10715308701645490886:=Fr
def tw10776979970169174474:=Fr
def tw10913934341034623588:=Fr
def tw10940990843254173635:=Fr
def tw10970230310560948174:=Fr
def tw10995305535661800503:=Fr
def tw10997311091401738729:=Fr
def tw11173746483253041652:=Fr
def tw11174322288832738294:=Fr
def tw11194639336852710658:=Fr
def tw11199580619360893680:=Fr
def tw11231241844757299597:=Fr
def tw11276165322243649015:=Fr
def tw11277253660215205426:=Fr
def tw11323705861737080702:=Fr
def tw11355146271030866593:=Fr
def tw11395797606378263345:=Fr
def tw11405742783153659367:=Fr
def tw11439516329632670905:=Fr
def tw11560698328352823235:=Fr
def tw11579256486058724343:=Fr
def tw11595883376566915254:=Fr
def tw116332712188976719:=Fr
def tw1164551937134979061:=Fr
def tw11759305344108139571:=Fr
def tw11788103148419706759:=Fr
def tw11793693491809978671:=Fr
def tw1182003811140925461:=Fr
def tw11835959261026822204:=Fr
def tw11860664657896318020:=Fr
def tw1191879659727221002:=Fr
def tw11981487220211410434:=Fr
def tw11987524746923094186:=Fr
def tw12023161922826716613:=Fr
def tw12037584922381405456:=Fr
def tw12060460648078869389:=Fr
def tw12083520300986321421:=Fr
def tw12118078280167138356:=Fr
def tw12155672896277842192:=Fr
def tw12161719796529545362:=Fr
def tw12164832253002003336:=Fr
def tw12280272165288720215:=Fr
def tw12305513876912806600:=Fr
def tw12344082876658307993:=Fr
def tw12391286425626026134:=Fr
def tw12405521632000068638:=Fr
def tw1244250294922486911:=Fr
def tw1246619959384743461:=Fr
def tw12544727437135230766:=Fr
def tw12603643796435813737:=Fr
def tw12636788295902327167:=Fr
def tw1266531018220276864:=Fr
def tw12679747852572787991:=Fr
def tw12769125141780957565:=Fr
def tw12794513595015915029:=Fr
def tw12843729716967151461:=Fr
def tw12844373027313941120:=Fr
def tw12844794260334876497:=Fr
def tw12854759473475619473:=Fr
def tw12860154829343452713:=Fr
def tw12866167944336465056:=Fr
def tw12898328469229241056:=Fr
def tw12917745653805893368:=Fr
def tw12921612843976673069:=Fr
def tw12926157171231407940:=Fr
def tw12968897248705310571:=Fr
def tw12980876468794758207:=Fr
def tw12984268566822154689:=Fr
def tw129971435192566048:=Fr
def tw13024955768526455972:=Fr
def tw13048586519957154304:=Fr
def tw13056303540460716041:=Fr
def tw13101915994131952668:=Fr
def tw13196908302949827605:=Fr
def tw13227083501698943464:=Fr
def tw13320456918605745019:=Fr
def tw1333128587711140834:=Fr
def tw13342390335013972831:=Fr
def tw13373413851788528099:=Fr
def tw13386048554223391635:=Fr
def tw13411510529093459561:=Fr
def tw13459512938382280894:=Fr
def tw13731888599890105010:=Fr
def tw1377624744090133335:=Fr
def tw13837631274595283966:=Fr
def tw13912344671807860596:=Fr
def tw13933137738503550495:=Fr
def tw14001315127038821342:=Fr
def tw14014190976771921838:=Fr
def tw14039912388441724405:=Fr
def tw14077863013111589535:=Fr
def tw14095222120830381216:=Fr
def tw14127045501879326179:=Fr
def tw14139910090541692029:=Fr
def tw14145220791021398704:=Fr
def tw14191988698036641461:=Fr
def tw14263280118066936318:=Fr
def tw14297985033069687471:=Fr
def tw14356472168769985520:=Fr
def tw14416517207527466277:=Fr
def tw14459549738337769772:=Fr
def tw14472836114800364469:=Fr
def tw14498687028929928909:=Fr
def tw14537766975818985851:=Fr
def tw14582167765705389861:=Fr
def tw14595183877677452508:=Fr
def tw14648428939703029198:=Fr
def tw14654971012617615782:=Fr
def tw14702045310607118532:=Fr
def tw14749643751873374971:=Fr
def tw14777351025507872913:=Fr
def tw14807161943918766627:=Fr
def tw14915984647326539120:=Fr
def tw14986624998774042766:=Fr
def tw14987403835603646192:=Fr
def tw15059943019167793052:=Fr
def tw15096415930439999389:=Fr
def tw15118592148122313510:=Fr
def tw15157527650060785600:=Fr
def tw15166802199630405551:=Fr
def tw15196786429441707638:=Fr
def tw15214634853562427411:=Fr
def tw15274795508613652325:=Fr
def tw15328373105398662585:=Fr
def tw15454936605989326303:=Fr
def tw15469172538581069078:=Fr
def tw15494278572632999994:=Fr
def tw15615360375836976098:=Fr
def tw15618224457745513930:=Fr
def tw15662320739384162086:=Fr
def tw15682887658532010646:=Fr
def tw15700210057500982414:=Fr
def tw15769636458505307135:=Fr
def tw15835149860073169889:=Fr
def tw1587654353334015992:=Fr
def tw15897300759803845359:=Fr
def tw1589954649587980605:=Fr
def tw15905287213016069100:=Fr
def tw15937735758363092137:=Fr
def tw15984038845539036727:=Fr
def tw15986031060410511052:=Fr
def tw15995330128357723555:=Fr
def tw16052900260732955029:=Fr
def tw16068706882208173207:=Fr
def tw16089073658150628400:=Fr
def tw16111381756730832436:=Fr
def tw16140427467865935874:=Fr
def tw16206688540715257416:=Fr
def tw16250951474364093920:=Fr
def tw16294917665170102344:=Fr
def tw16311041575129940599:=Fr
def tw16431268227461462089:=Fr
def tw16477795935576885056:=Fr
def tw16529746227992138618:=Fr
def tw16545201558539689724:=Fr
def tw16592070233663825659:=Fr
def tw16647932152668833888:=Fr
def tw16662515697069603518:=Fr
def tw1669303450846469596:=Fr
def tw16779386172404420037:=Fr
def tw16785505798834592874:=Fr
def tw16819900512545541114:=Fr
def tw16825785728092692725:=Fr
def tw16925355606121645980:=Fr
def tw16934314551089667154:=Fr
def tw16953058541544871062:=Fr
def tw1699917918691386055:=Fr
def tw17024595140039007411:=Fr
def tw17025896446737584154:=Fr
def tw17111246301955888812:=Fr
def tw17144364615716429422:=Fr
def tw17230182635746346653:=Fr
def tw17332657849788391729:=Fr
def tw1736922426591673403:=Fr
def tw17383860416040912717:=Fr
def tw17410288355733660087:=Fr
def tw17441438157095617133:=Fr
def tw17451082245186430481:=Fr
def tw17483836884689224311:=Fr
def tw17518786533168457663:=Fr
def tw1756381679945607856:=Fr
def tw17574839690393015488:=Fr
def tw17589296006461387070:=Fr
def tw1778801221794000:=Fr
def tw17839694258537772499:=Fr
def tw17855146301245942854:=Fr
def tw17877129761860775764:=Fr
def tw1788706527989160895:=Fr
def tw1805546712916395393:=Fr
def tw18096814528143711140:=Fr
def tw18158158066422717672:=Fr
def tw18171902594473548655:=Fr
def tw18223793508596823971:=Fr
def tw18225868099547689359:=Fr
def tw18235195809449067419:=Fr
def tw18284077169863043692:=Fr
def tw18306994043109007980:=Fr
def tw18322318908328359803:=Fr
def tw18343814738596323543:=Fr
def tw18370219972315748430:=Fr
def tw1850783780246064719:=Fr
def tw1852719207882390675:=Fr
def tw1856218921620738651:=Fr
def tw1867609759619497287:=Fr
def tw1945992577688791020:=Fr
def tw1971763326797537443:=Fr
def tw2090712645542561913:=Fr
def tw2096492317737112754:=Fr
def tw2138024084567944962:=Fr
def tw2170236674891632336:=Fr
def tw2176775444139538998:=Fr
def tw2219273070773290109:=Fr
def tw2231105615603950310:=Fr
def tw2270849426555334234:=Fr
def tw2292452330750688605:=Fr
def tw23223510787218688:=Fr
def tw2370360027433833674:=Fr
def tw2392495738243978947:=Fr
def tw239875923436635061:=Fr
def tw2414171925604402535:=Fr
def tw2483165951784697974:=Fr
def tw2556622520830019345:=Fr
def tw2576571425665802706:=Fr
def tw259582793476497178:=Fr
def tw260067291383962743:=Fr
def tw2638415751050617827:=Fr
def tw2680569038094584114:=Fr
def tw2690755369345768189:=Fr
def tw2744279446771139003:=Fr
def tw2753223333265097971:=Fr
def tw2760074789539473007:=Fr
def tw2879301232809868852:=Fr
def tw290206607591859956:=Fr
def tw291234589955029432:=Fr
def tw2968864745605149926:=Fr
def tw3104316105076469693:=Fr
def tw3157704141926555758:=Fr
def tw317918000498965387:=Fr
def tw3185250108807532024:=Fr
def tw3217757918801157882:=Fr
def tw3228710140614048269:=Fr
def tw3271993240113565805:=Fr
def tw3329194428078448704:=Fr
def tw3331620287859418309:=Fr
def tw3349195018149524435:=Fr
def tw339061368743282179:=Fr
def tw3437253103825746845:=Fr
def tw3453085265451439203:=Fr
def tw3506068523374683186:=Fr
def tw3557548887744769633:=Fr
def tw3571890281575050492:=Fr
def tw3638292698994671002:=Fr
def tw3732955774817592442:=Fr
def tw3773045086978199839:=Fr
def tw3796039471673857564:=Fr
def tw3806147898036547851:=Fr
def tw3861729979405824947:=Fr
def tw3873714049120228298:=Fr
def tw393970155599813728:=Fr
def tw4033778584491569700:=Fr
def tw4105618073586686188:=Fr
def tw4110503854361617763:=Fr
def tw4114468795350377:=Fr
def tw4133669615269509269:=Fr
def tw4235151876248743925:=Fr
def tw4265053653315252384:=Fr
def tw4281111956718954265:=Fr
def tw4334726732059810678:=Fr
def tw4372246809748158531:=Fr
def tw442589176747137441:=Fr
def tw4431276169743180042:=Fr
def tw4434492118060095848:=Fr
def tw4456395453532053:=Fr
def tw4534900820046511762:=Fr
def tw4535134553987445279:=Fr
def tw453712679088264794:=Fr
def tw4540892674845955541:=Fr
def tw4664702277657681741:=Fr
def tw4689847618752407317:=Fr
def tw469723613550428487:=Fr
def tw4817036599204808650:=Fr
def tw4830180101325405420:=Fr
def tw4844744900226213796:=Fr
def tw489920231466230155:=Fr
def tw4958226246764078990:=Fr
def tw5008144525083356768:=Fr
def tw506093695581160159:=Fr
def tw5084867620146825537:=Fr
def tw5113920275206624533:=Fr
def tw513618505735870727:=Fr
def tw5289868321783984666:=Fr
def tw5307377941205045495:=Fr
def tw5308907447800911344:=Fr
def tw5317085618064453998:=Fr
def tw5336002112398762814:=Fr
def tw5377948815091080451:=Fr
def tw5426081318332146717:=Fr
def tw5439120438225525985:=Fr
def tw5448167365447384147:=Fr
def tw5456791667209145984:=Fr
def tw5464232878700298210:=Fr
def tw5504972061721903125:=Fr
def tw5567321716340452600:=Fr
def tw5570428538517024066:=Fr
def tw5587384549813183264:=Fr
def tw5631822761983126903:=Fr
def tw5633871403554296742:=Fr
def tw5662589048636785609:=Fr
def tw5699486775073913338:=Fr
def tw5729515150337359746:=Fr
def tw5788148125742680393:=Fr
def tw5794789069377238537:=Fr
def tw583263527189110201:=Fr
def tw5848070940574123683:=Fr
def tw5871994639181417526:=Fr
def tw5878814901160510155:=Fr
def tw5884673353358234537:=Fr
def tw5903796989357810650:=Fr
def tw5949495117853263255:=Fr
def tw6136456211918201064:=Fr
def tw6137666235453330876:=Fr
def tw6141876618619875217:=Fr
def tw6208165054368153889:=Fr
def tw6246261021654921782:=Fr
def tw6247508562579177913:=Fr
def tw629393454758717219:=Fr
def tw6304525578882803505:=Fr
def tw6311933599642672389:=Fr
def tw6339402527648915508:=Fr
def tw6375715851066569733:=Fr
def tw6415577368879916713:=Fr
def tw6488574797811845909:=Fr
def tw6665076098912173025:=Fr
def tw6690585569481000649:=Fr
def tw6737639376864938268:=Fr
def tw6779948494343986437:=Fr
def tw6793422811976491498:=Fr
def tw6904522488768926275:=Fr
def tw6982943682718650345:=Fr
def tw6983780429138146352:=Fr
def tw7130262533961979310:=Fr
def tw7179118200262000380:=Fr
def tw7217440675791761045:=Fr
def tw7240402811602512349:=Fr
def tw7241366198960308285:=Fr
def tw7275859526587799678:=Fr
def tw7330830854705004737:=Fr
def tw7339579321349622338:=Fr
def tw7345023749355994805:=Fr
def tw7346883172924702826:=Fr
def tw7349302845893530283:=Fr
def tw7433292634152138108:=Fr
def tw750376402394559377:=Fr
def tw7513696390543769451:=Fr
def tw7521524204224106742:=Fr
def tw7590869105173211012:=Fr
def tw7600237403676764886:=Fr
def tw7654880986088711853:=Fr
def tw7664077212949204347:=Fr
def tw7774922656842318085:=Fr
def tw7841197965535574283:=Fr
def tw7846094292474960209:=Fr
def tw7970530714347870284:=Fr
def tw7990653324768865852:=Fr
def tw8039346714508215265:=Fr
def tw8062095382795829619:=Fr
def tw8071693546273901026:=Fr
def tw8224723859508783670:=Fr
def tw8238291441637533648:=Fr
def tw8244479024314636801:=Fr
def tw8289878900561742906:=Fr
def tw8294474687412451502:=Fr
def tw8320870477681280783:=Fr
def tw8493988628969329957:=Fr
def tw8514076398938463378:=Fr
def tw8516712623337096341:=Fr
def tw8522129136267537531:=Fr
def tw8550498404549379934:=Fr
def tw8564647801591304275:=Fr
def tw8565544170760443790:=Fr
def tw8694480871628808344:=Fr
def tw8702391692648650325:=Fr
def tw872243375155025179:=Fr
def tw8840923420771715584:=Fr
def tw884114760579633321:=Fr
def tw887898730186812678:=Fr
def tw8912673883975385869:=Fr
def tw8929676251003600427:=Fr
def tw8950158827431173085:=Fr
def tw8975772036262425332:=Fr
def tw8977538807984065395:=Fr
def tw9022728857130683149:=Fr
def tw9037761478708170602:=Fr
def tw9070415087965048946:=Fr
def tw9078221260252333136:=Fr
def tw9082079456547842343:=Fr
def tw9082914055492394002:=Fr
def tw9111087492080137538:=Fr
def tw9121638040219970688:=Fr
def tw9171436639441632289:=Fr
def tw9194517487370445478:=Fr
def tw921096697722638604:=Fr
def tw9219202652783968681:=Fr
def tw9256639540512185117:=Fr
def tw927304988992388131:=Fr
def tw9276592964367478837:=Fr
def tw928292589835106143:=Fr
def tw9324992377440163926:=Fr
def tw9385108961281293970:=Fr
def tw9434491462366188277:=Fr
def tw9534242491105679529:=Fr
def tw95621434856647841:=Fr
def tw9602409399538064184:=Fr
def tw9638914628664778768:=Fr
def tw9693858242705804323:=Fr
def tw9699895288470870514:=Fr
def tw9742041594210987336:=Fr
def tw9757060584190424595:=Fr
def tw9784504863586628962:=Fr
def tw9811336357249963566:=Fr
def tw9851279277523902852:=Fr
def tw987534272303464474:=Fr
def tw9921988993980617115:=Fr
def tw9957158321592443280:=Fr
end PySem.W.Fast
namespace _M
set_option backward.match.sparseCases false
open PySem _L PyProof.Rows
open TV renaming int->U2,tup->U3,str->U4
def ay{a b:Prop}(h:b)(k:autoParam a S2._auto_1):a/\b:=(k,h)
noncomputable def top(i:Nat):Uc:=PySem.Challenge.pw_sideloom_k51_live_and_kept.main.body.getD i<|.Pass (0,0,0,0)
def Zt(i:Nat):List Str:=((aB<|top i).names.filter λ q=>q.2 == .local || q.2 == .cell).map (·.1)
noncomputable def fnz:Uc->Str
 |.FunctionDef x ..=>x
 |_=> ""
abbrev Yx(i p:Nat)(S:Yt):DR:=(fnz<|top i,(Zt i).take p,S)
noncomputable def tI(V:Yr):TV:=.tup<|V.map .int
noncomputable def lI(V:Yr):TV:=.lst<|V.map .int
def jB{V:Yr}{i:Nat}(h:(V.map U2)[i]?=TJ t):∃n,t=.int n/\V[i]?=TJ n:=by
 rw[bc] at h
 cases q:V[i]? with
 |none=>rw[q] at h;cases h
 |some n=>rw[q] at h;cases h;exact(n,rfl,rfl)
def ag(V:Yr):(V.map U2).length=V.length:=af ..
def R4:mS 2 64:=(Cl,Cl,Cl)
def G3:mS 2 63:=(Cl,Cl,Cl)
def iD{i j:Int}(V:-18446744073709551616<j)(S:j<18446744073709551616):Wp i j:=CMul.ok<|.inr (BT,BT)
def qR{i j:Int}(V:-18446744073709551616<i)(S:i<18446744073709551616):Wp i j:=CMul.ok<|.inl (BT,BT)
def s2{a b:Prop}{P:Bool}(V:P=TK->a)(S:P=TL->b):if P=TK then a else b:=by
 cases P
 .exact S rfl
 .exact V rfl
def sF{a b:Prop}{P:Bool}(h:P=TL)(k:b):if P=TK then a else b:=by rw[h];exact k
def sT{a b:Prop}{P:Bool}(h:P=TK)(k:a):if P=TK then a else b:=by rw[h];exact k
def cl{T:List Yt}{f:Nat}{V:List TV}{K:TV->Prop}(e:T[f]?=TJ S)(h:S (V.map .fz) K)(n:V.all TV.nb=TK):∃P,(∃S,T[f]?=TJ S/\S (V.map .fz) P)/\∀t,P t->(V.all TV.nb=TL->LF t)/\K t:=(K,(S,e,h),λ t k=>(λ z=>(by rw[n] at z;cases z),k))
theorem cu{GT:List TV}{T:Type}(f g:T->TV):∀(l:List T) {S:List TV->Prop},(∀a∈l,Zh U Y (f a) λ V=>wE Z GT e V λ y=>y.nb=TK/\y.fz=g a)->S (l.map g)->ZK (λ t W=>Zh U Y t λ V=>wE Z GT e V λ y=>(y.nb=TK/\W [y.fz])) (l.map f) S
 |[],_,_,k=>k
 |a::l,S,h,k=>iy (λ V q=>aj e (by rintro y ⟨n,z⟩;exact (n,by rw[z];exact cu f g l (λ b N=>h b<|by simp[N]) k)) q) (h a Cr)
def NV{V:Yr}{i:Nat}(h:((V.map U2).reverse)[i]?=TJ t):i<V.length/\∃n,t=.int n/\V[V.length-1-i]?=TJ n:=by
 have S:=(aP.mp h).1;rw[lO,ag] at S;rw[pV (by rw[ag];exact S),ag] at h;exact(S,jB h)
def NW{n:Int}(h:(!decide (n=0))=TK):ak n=n:=by unfold ak;rw[T9<|by simpa using h]
def NX{n:Int}(h:(!decide (n=0))=TL):ak n=1:=by unfold ak;rw[U0<|by simpa using h]
def G4{a b:Int}(h:a=b):(!_L.eqT (U2 a).fz (U2 b).fz)=TL:=by subst h;show(!decide (a=a))=TL;rw[bC rfl];rfl
def qS{GT:List TV}{T:Type}{l:List T}{f:T->TV}{S:List TV}(A:S=l.map f)(g:T->TV){W:List TV->Prop}(h:∀a∈l,Zh U Y (f a) λ V=>wE Z GT e V λ y=>y.nb=TK/\y.fz=g a)(k:W<|l.map g):ZK (λ t N=>Zh U Y t λ V=>wE Z GT e V λ y=>(y.nb=TK/\N [y.fz])) S W:=A ▸ cu f g l h k
def dq{ns:Yr}{k:Nat}(h:k<ns.length):YX (ns.map U2) (k:Int)=TJ (.int<|ns.getD k 0):=iS (by rw[bc,aZ h,aG,aZ h];rfl)
def oz{n i:Nat}(h:((Ub n).map f)[i]?=TJ a):i<n/\a=f i:=by
 have V:=(aP.mp h).1;rw[af,bZ] at V;rw[bc,ji V] at h;exact(V,(bS h).symm)
def sE{a b:Prop}{x y:Str}(V:x=y->a)(S:x≠y->b):if _L.eqT (U4 x).fz (U4 y).fz=TK then a else b:=by
 by_cases h:x=y
 .rw[U0<|show _L.eqT (U4 x).fz (U4 y).fz=TK from bC h];exact V h
 .rw[T9<|by rw[show _L.eqT (U4 x).fz (U4 y).fz=decide (x=y) from rfl];simpa using h];exact S h
def sN{a b:Prop}{x y:Int}(V:x=y->a)(S:x≠y->b):if _L.eqT (U2 x).fz (U2 y).fz=TK then a else b:=by
 by_cases h:x=y
 .rw[U0<|show _L.eqT (U2 x).fz (U2 y).fz=TK from bC h];exact V h
 .rw[T9<|by rw[show _L.eqT (U2 x).fz (U2 y).fz=decide (x=y) from rfl];simpa using h];exact S h
def s3{a b:Prop}{P:Prop} [Decidable P] (V:P->a)(S:¬P->b):if decide P=TK then a else b:=by
 by_cases h:P
 .rw[U0<|bC h];exact V h
 .rw[T9<|by simpa using h];exact S h
theorem vH:∀(l m:Yr),_L.eqTL (l.map U2) (m.map U2)=decide (l=m)
 |[],[]=>rfl
 |[],_::_=>rfl
 |_::_,[]=>rfl
 |x::V,y::S=>by
  rw[cB,cB,_L.eqTL_c,vH V S,show _L.eqT (U2 x) (U2 y)=decide (x=y) from rfl,<- Bool.decide_and];exact px.mpr (by rw[List.cons.injEq])
def oA(l m:Yr):_L.eqT (U3<|l.map U2) (U3<|m.map U2)=decide (l=m):=vH l m
def NY(l m:Yr):_L.eqT (TV.lst<|l.map U2) (TV.lst<|m.map U2)=decide (l=m):=vH l m
def R5(S:Yr):∀x∈S.map U2,_L.dp 98 x:=λ x V=>by obtain⟨n,_,rfl⟩:=bg.mp V;trivial
def j7(V:Yr):_L.dp 99<|U3<|V.map U2:=R5 V
def dpL(V:Yr):_L.dp 99<|TV.lst<|V.map U2:=R5 V
def vI{V:Yr}{o:Int}(S:0<=o)(T:o<V.length):YX (V.map U2) o=TJ (.int<|V.getD o.toNat 0):=by
 have z:=dq (ns:=V) (k:=o.toNat) BT
 rwa [show((o.toNat:Nat):Int)=o by lia] at z
def Bm(x:Int):aX x y=Int.fdiv x y:=by unfold aX;split<;>first|rfl|exact(pr _ BT).symm
def NZ(x:Int):aO x y=Int.fmod x y:=by unfold aO;split<;>first|rfl|exact(wM _ BT).symm
def o6:Stp->List TV
 |.inp S=>[.str "in",tI S]
 |.num n=>[.str "num",.int n]
 |.count S k=>[.str "count",tI S,.int k]
 |.each w a=>[.str "each",.str w,.int a]
 |.pair w a b=>[.str "pair",.str w,.int a,.int b]
 |.pick a b c=>[.str "pick",.int a,.int b,.int c]
 |.turn a os=>[.str "turn",.int a,tI os]
 |.flip a V=>[.str "flip",.int a,.int V]
 |.cut a V f m g=>[.str "cut",.int a,.int V,.int f,.int m,.int g]
 |.spread a V m=>[.str "spread",.int a,.int V,.int m]
 |.lay a S=>[.str "lay",.int a,tI S]
 |.join a b V=>[.str "join",.int a,.int b,.int V]
 |.fetch a b=>[.str "fetch",.int a,.int b]
 |.fold w a V=>[.str "fold",.str w,.int a,.int V]
 |.run w a V=>[.str "run",.str w,.int a,.int V]
def Yv(d:Stp):TV:=.tup<|o6 d
def G5:∀x∈[U4 "fold",U4 "run"],Zc x=TK:=Cl
def aC{V:Type}{f:V->TV}{S:List V}{a:Nat}{A:V}(e:S[a]?=TJ A):YX (S.map f) (a:Int)=TJ (f A):=iS (by rw[bc,e];rfl)
def ZL{T:List Yt}{f:Nat}{V:List TV}{K:TV->Prop}(e:T[f]?=TJ S)(h:S (V.map .fz) λ t=>LF t/\K t):∃P,(∃S,T[f]?=TJ S/\S (V.map .fz) P)/\∀t,P t->(V.all TV.nb=TL->LF t)/\K t:=(_,(S,e,h),λ t k=>(λ _=>k.1,k.2))
def sl3{n:Nat}(h:n<=3):n<TW:=aN BT
def M7(S:Yr):LF<|tI S:=by unfold tI;simp only[LF];intro x V;obtain⟨n,_,rfl⟩:=bg.mp V;simp[LF]
def Oa{V:Type}{f:V->TV}{l:List V}{i:Nat}(h:(l.map f)[i]?=TJ t):∃a,t=f a/\l[i]?=TJ a:=by
 rw[bc] at h;obtain⟨a,S,rfl⟩:=jQ.mp h;exact(a,on,S)
def LF2(S:Yr):LF<|.tup [tI S,.non]:=by
 simp only[LF];intro x V;simp only[aD,cX,cO] at V
 rcases V with rfl|rfl
 .exact M7 S
 .simp[LF]
def Ob{V:Yr}{i:Nat}(h:((V.map U2).mapIdx λ i x=>U3 [.int (i:Nat),x])[i]?=TJ t):∃c,t=.tup [.int (i:Nat),.int c]/\V[i]?=TJ c:=by
 rw[uJ,bc] at h
 cases q:V[i]? with
 |none=>rw[q] at h;cases h
 |some c=>rw[q] at h;cases h;exact(c,rfl,rfl)
def neT{a b:Int}(h:a≠b):(!_L.eqT (U2 a).fz (U2 b).fz)=TK:=by rw[show _L.eqT (U2 a).fz (U2 b).fz=decide (a=b) from rfl];simp[h]
theorem gQ{GT:List TV}{K:Type}(f g:K->TV)(p:K->Bool):∀(l:List K) {T:List TV}{S:List TV->Prop},T=l.map f->(∀a∈l,Zh U Y (f a) λ V=>wE Z GT c V λ x=>x=.bl (p a)/\(p a=TK->wE Z GT e V λ y=>y.nb=TK/\y.fz=g a))->S ((l.filter p).map g)->ZK (λ t F=>Zh U Y t λ V=>wE Z GT c V λ x=>b1 x λ q=>if q=TK then wE Z GT e V λ y=>(y.nb=TK/\F [y.fz]) else F []) T S
 |[],_,_,W,_,k=>by subst W;exact k
 |a::l,_,S,W,h,k=>by
  subst W;show Zh U Y (f a) λ V=>wE Z GT c V λ x=>b1 x λ q=>if q=TK then wE Z GT e V (λ y=>y.nb=TK/\ZK _ (l.map f) λ A=>S<|[y.fz]++A) else ZK _ (l.map f) λ A=>S<|[]++A;refine iy (λ V q=>aj c (λ x N=>?_) q)<|h a Cr;obtain⟨j,q⟩:=N;subst j;have v:=λ b d=>h b<|bz a d;show if p a=TK then _ else _;by_cases z:p a=TK
  .rw[U0 z];rw[qH z,cB] at k;exact aj e (by rintro y ⟨n,w⟩;exact (n,by rw[w];exact gQ f g p l rfl v k))<|q z
  .rw[T9 z];rw[qI z] at k;exact gQ f g p l rfl v k
def p62:mS 2 62:=(Cl,Cl,Cl)
def Oc{i:Int}(V:0<=i)(S:i<4):YX [U2<|-(2 ^ (63:Int).toNat),U2<|2 ^ (63:Int).toNat-1,U2<|-1,U2<|2 ^ (62:Int).toNat] i=TJ (.int<|[(-9223372036854775808:Int),9223372036854775807,-1,4611686018427387904].getD i.toNat 0):=by
 have:i=0\/i=1\/i=2\/i=3:=BT
 rcases this with rfl|rfl|rfl|rfl<;>rfl
def bh{n:Nat}(h:n<=1000):n<=TW:=fj<|aN h
def Zi:0<=TW:=bh Cl
def Zm:1<=TW:=bh Cl
def Yz:2<=TW:=bh Cl
def YI:3<=TW:=bh Cl
def Zu:4<=TW:=bh Cl
def M8:6<=TW:=bh Cl
def M9:7<=TW:=bh Cl
def Od:12<=TW:=bh Cl
def qT(V:Yr)(a b:Option Int):ai (V.map U2) a b=((V.drop<|_H.sIx V.length 0 a).take<|_H.sIx V.length V.length b-_H.sIx V.length 0 a).map U2:=by
 unfold ai;rw[af,XC,XB]
def eY(V:Yr)(k:Nat):ai (V.map U2) TM (TJ (k:Int))=(V.take k).map U2:=by
 rw[qT];simp only[_H.sIx,Xm,Nat.sub_zero];rw[T9 BT,TZ,Nat.min_def];split
 .rfl
 .rw[ce BT,ce BT]
def eZ(V:Yr)(k:Nat):ai (V.map U2) (TJ (k:Int)) TM=(V.drop k).map U2:=by
 rw[qT];simp only[_H.sIx];rw[T9 BT,TZ,Nat.min_def];split
 .rw[ce<|by rw[cW];lia]
 .rw[uU,List.drop_of_length_le BT];simp
noncomputable def Oe(i:Nat):Yr:=[[],[],[],[2],[2,3],[1,2,3],[1],[1],[1],[1],[1],[1,2],[1,2],[2],[2]].getD i []
def Of:∀i,i<15->AQ i=Oe i:=by decide +kernel
def o7(d:Stp)(S:Yr):TV:=.tup [Yv d,tI S]
def cR{i j:Int}(h:0<j):aO i j=i%j:=U0 h
def Bn{i j:Int}(h:0<j):aX i j=i/j:=U0 h
def oB(x:Int){n:Nat}(h:0<n):∃k:Nat,aO x (n:Int)=k/\k<n:=by
 have V:=oC x (show(n:Int)≠0 by lia);have S:=qU x (show(0:Int)<n by lia);exact((x%(n:Int)).toNat,(cR BT).trans (nU V).symm,BT)
def qV(x:Int){A:Yr}(h:0<A.length):∃k:Nat,aO x (((A.map U2).length:Nat):Int)=k/\k<A.length:=by rw[ag];exact oB x h
def Og(k:Int)(V:0<=k)(S:k<7):∃x:Int,YX [U2 2,U2 3,U2 1,U2 4,U2 2,U2 3,U2 0] k=TJ (.int x)/\0<=x:=by
 have:k=0\/k=1\/k=2\/k=3\/k=4\/k=5\/k=6:=BT
 rcases this with rfl|rfl|rfl|rfl|rfl|rfl|rfl<;>exact(_,rfl,Cl)
def vJ(V:List Str){k:Int}(S:0<=k)(T:k<(V.length:Int)):∃w,YX (V.map U4) k=TJ (.str w)/\w∈V:=by
 have l:k.toNat<V.length:=BT;refine(V[k.toNat],?_,lG l);have z:=iS (xs:=V.map U4) (j:=k.toNat) (v:=.str V[k.toNat]) (by rw[bc,aZ l];rfl)
 rwa [nU S] at z
def mz(V:Yr):_L.eqT (U3<|V.map U2).fz (U3 []).fz=decide (V=[]):=oA V []
def Bo(d:Stp):LF<|Yv d:=by
 unfold Yv;simp only[LF];intro x V
 cases d<;>simp only[o6,aD,cX,cO] at V<;>(try rcases V with rfl|rfl|rfl|rfl|rfl|rfl)<;>(try rcases V with rfl|rfl|rfl|rfl|rfl)<;>(try rcases V with rfl|rfl|rfl|rfl)<;>(try rcases V with rfl|rfl|rfl)<;>(try rcases V with rfl|rfl)<;>first|exact M7 _|simp[LF]
def qW(d:Stp)(S:Yr):LF<|o7 d S:=by
 unfold o7;simp only[LF];intro x V;simp only[aD,cX,cO] at V
 rcases V with rfl|rfl
 .exact Bo d
 .exact M7 S
def qX(n:Nat):((Ub (((n:Nat):Int)).toNat).map λ i:Nat=>U2 (i:Nat))=(YN n).map U2:=by unfold YN;rw[bV];rfl
def R6(h:cG A B):U3 (if (A.map U2).length<(B.map U2).length then B.map U2 else A.map U2)=tI (bW A B):=by
 rw[ag,ag];by_cases c:A.length<B.length
 .rw[U0 c,AX c];rfl
 .rw[T9 c,AW h BT];rfl
noncomputable def pB(V:LL)(A:Yr)(k:Int):Bool:=@decide (cG A<|V.getD k.toNat [])<|Classical.propDecidable _
def qY:pB Z A k=TK ↔ cG A (Z.getD k.toNat []):=by unfold pB;exact @decide_eq_true_iff _<|Classical.propDecidable _
def Bp{a b:Bool}{p:Prop}(V:a=TK ↔ p)(S:b=TK ↔ p):a=b:=by
 cases a<;>cases b<;>simp_all
def fR{V:LL}{a:Nat}(h:a<V.length):V[a]?=TJ (V.getD a []):=by rw[aG,aZ h];rfl
def or3{G N:Prop}{V S T:Bool}(g:(V=TK\/S=TK/\T=TK)->G)(n:V=TL->N):if V=TK then G else True/\(if S=TK then (if T=TK then G else N) else N):=by
 cases V
 .refine(Fr,?_);cases S
  .exact n rfl
  .cases T
   .exact n rfl
   .exact g<|.inr (on,on)
 .exact g<|.inl rfl
def Oh{A:Yr}{k:Nat}:(ai (A.map U2) TM (TJ (k:Int))++[U2 x])++ai (A.map U2) (TJ (k:Int)) TM=(bX A k x).map U2:=by rw[eY,eZ];unfold bX;simp
def Oi{A:Yr}{k:Nat}(V:k<A.length):(ai (A.map U2) TM (TJ (k:Int))++[U2 x])++ai (A.map U2) (TJ<|(k:Int)+1) TM=(A.set k x).map U2:=by
 rw[show(k:Int)+1=((k+1:Nat):Int) by lia,eY,eZ,<- Nq V];simp
def kz{A:Yr}(h:A.length<=6):(ai (A.map U2) a b).length<=6:=by
 rw[qT,ag,bp,cW];lia
def kA{GT:List TV}(P:En->Prop)(h:wS Z GT (.ite c a b .nil) J P Y)(k:∀V,P V->wS Z GT r V U Y):wS Z GT (.ite c a b r) J U Y :=
 aj c (λ t q=>cI (λ _ q=>lK (λ q=>bF a (λ V p=>k V p) (λ _ h=>h) q) (λ q=>bF b (λ V p=>k V p) (λ _ h=>h) q) q) q) h
def Bq{A:Yr}(h:0<A.length):YX (A.map U2) 0=TJ (.int<|A.getD 0 0):=dq (k:=0) h
def O0(S:Yr):∀z∈S.map U2,Zc z=TK:=λ z V=>by obtain⟨n,_,rfl⟩:=bg.mp V;rfl
def Oj(k:Int)(V:0<=k)(S:k<6):∃x:Int,YX [U2 1,U2 2,U2 3,U2 2,U2 1,U2 8] k=TJ (.int x)/\1<=x/\x<=8:=by
 have:k=0\/k=1\/k=2\/k=3\/k=4\/k=5:=BT
 rcases this with rfl|rfl|rfl|rfl|rfl|rfl<;>exact(_,rfl,Cl,Cl)
def dF(d:Stp):YX (o6 d) 0=TJ (.str<|bw<|YD d):=by cases d<;>rfl
def gj{ds:List Stp}{a:Nat}(h:a<ds.length):ds[a]?=TJ (ds.getD a<|.num 0):=by rw[aG,aZ h];rfl
abbrev gk(V:Yr):Yr:=(j6 V V.length).reverse
abbrev Zj(S:Yr)(b:Int)(s:Yr):TV:=.tup [tI S,.int b,tI s]
def Br(V:Yr):(gk V).length=V.length:=by simp[j6]
inductive Tr where
 |num (n:Int)|idx (s:Int) (ss:Yr)|read (st s:Int) (ss:Yr)
 |each (w:Str) (t:Tr)|pair (w:Str) (a b:Tr)|pick (a b c:Tr)|fold (w:Str) (n:Int) (t:Tr)
 |fetch (st s r n:Int) (ss:Yr) (t:Tr)
noncomputable def Tr.ctorIdx(t:Tr):Nat:=t.casesOn (λ _=>0) (λ _ _=>1) (λ _ _ _=>2) (λ _ _=>3) (λ _ _ _=>4) (λ _ _ _=>5) (λ _ _ _=>6) (λ _ _ _ _ _ _=>7)
noncomputable def t5:Tr->List Tr
 |.each _ t=>[t]|.pair _ a b=>[a,b]|.pick a b c=>[a,b,c]|.fold _ _ t=>[t]|.fetch _ _ _ _ _ t=>[t]
 |_=>[]
noncomputable def O1:Tr->List (Int×Yr)
 |.idx s V=>[(s,V)]|.read _ s V=>[(s,V)]|.fetch _ s _ _ V _=>[(s,V)]
 |_=>[]
noncomputable def YV:Tr->List (Int×Yr)
 |.num _=>[]|.idx s V=>[(s,V)]|.read _ s V=>[(s,V)]
 |.each _ t=>YV t|.pair _ a b=>YV a++YV b|.pick a b c=>YV a++(YV b++YV c)|.fold _ _ t=>YV t|.fetch _ s _ _ V t=>(s,V)::YV t
noncomputable def YK:Tr->Nat
 |.each _ t=>YK t+1|.pair _ a b=>max (YK a) (YK b)+1|.pick a b c=>max (YK a) (max (YK b)<|YK c)+1|.fold _ _ t=>YK t+1|.fetch _ _ _ _ _ t=>YK t+1
 |_=>0
def G6:Tr->List TV
 |.num n=>[.str "num",.int n]|.idx s V=>[.str "index",.int s,tI V]|.read st s V=>[.str "read",.int st,.int s,tI V]
 |.each w _=>[.str "each",.str w]|.pair w _ _=>[.str "pair",.str w]|.pick _ _ _=>[.str "pick"]|.fold w n _=>[.str "fold",.str w,.int n]
 |.fetch st s r n V _=>[.str "fetch",.int st,.int s,.int r,.int n,tI V]
def Zv:Tr->List TV
 |.num n=>[.str "num",.int n]|.idx s V=>[.str "index",.int s,tI V]|.read st s V=>[.str "read",.int st,.int s,tI V]
 |.each w t=>[.str "each",.str w,.tup<|Zv t]|.pair w a b=>[.str "pair",.str w,.tup<|Zv a,.tup<|Zv b]|.pick a b c=>[.str "pick",.tup<|Zv a,.tup<|Zv b,.tup<|Zv c]|.fold w n t=>[.str "fold",.str w,.int n,.tup<|Zv t]
 |.fetch st s r n V t=>[.str "fetch",.int st,.int s,.int r,.int n,tI V,.tup<|Zv t]
abbrev YH(t:Tr):TV:=.tup<|Zv t
abbrev Gf:=Int->Yr->Int×Yr
noncomputable def rm(g:Gf):Tr->Tr
 |.num n=>.num n|.idx s V=>.idx (g s V).1 (g s V).2|.read st s V=>.read st (g s V).1 (g s V).2
 |.each w t=>.each w (rm g t)|.pair w a b=>.pair w (rm g a) (rm g b)|.pick a b c=>.pick (rm g a) (rm g b) (rm g c)|.fold w n t=>.fold w n (rm g t)
 |.fetch st s r n V t=>.fetch st (g s V).1 r n (g s V).2 (rm g t)
def Ol(g:Gf)(t:Tr):U3 (G6 (rm g t)++(t5 t).map λ b=>YH<|rm g b)=YH (rm g t):=by cases t<;>rfl
def Om{t b:Tr}(h:b∈t5 t):YK b<YK t:=by
 cases t with
 |each w t|fold w n t|fetch _ _ _ _ _ t=>cases aK.mp h;exact ig _
 |pair w a c=>
  show YK b<max (YK a) (YK c)+1
  rcases aD.mp h with rfl|h
  .lia
  .cases aK.mp h;lia
 |pick a c e=>
  show YK b<max (YK a) (max (YK c)<|YK e)+1
  rcases aD.mp h with rfl|h
  .lia
  .rcases aD.mp h with rfl|h
   .lia
   .cases aK.mp h;lia
 |_=>cases h
def On{t b:Tr}(h:b∈t5 t):∀p∈YV b,p∈YV t:=by
 intro p V
 cases t with
 |each w t|fold w n t=>cases aK.mp h;exact V
 |fetch _ _ _ _ _ t=>cases aK.mp h;exact bz _ V
 |pair w a c=>
  rcases aD.mp h with rfl|h
  .exact fk _ V
  .cases aK.mp h;exact bO _ V
 |pick a c e=>
  rcases aD.mp h with rfl|h
  .exact fk _ V
  .rcases aD.mp h with rfl|h
   .exact bO _<|fk _ V
   .cases aK.mp h;exact bO _<|bO _ V
 |_=>cases h
def Oo{t:Tr}:∀p∈O1 t,p∈YV t:=by
 intro p V
 cases t with
 |idx s S|read st s S=>exact V
 |fetch st s r n S t=>cases aK.mp V;exact bn
 |_=>cases V
def R7(V:Yt)(g:Gf)(l:List<|Int×Yr):Prop:=∀p∈l,∀Q:TV->Prop,Q (.tup [.int (g p.1 p.2).1,tI (g p.1 p.2).2])->V [.int p.1,tI p.2] Q
def Op:∀x∈[U4 "num",.str "index",.str "read"],Zc x=TK:=Cl
def qZ:∀x∈[U4 "each",.str "pair"],Zc x=TK:=Cl
def Bt(t:Tr):(t5 t).length<=3:=by cases t<;>exact cJ rfl
def Oq(t:Tr):(G6 t).length<=6:=by cases t<;>exact cJ rfl
noncomputable def iE(n m:Nat):Gf:=λ s V=>(s,V.take n++eX m++V.drop n)
def jC(n k:Nat):Gf:=λ s V=>(s,bX (V.eraseIdx k) (n-1)<|V.getD k 0)
def isM(T:Yt)(S:Yr)(h:Gf)(l:List<|Int×Yr):Prop:=∀p∈l,∃V:Yr,∀Q:TV->Prop,Q (Zj V (h p.1 p.2).1 (h p.1 p.2).2)->T [Zj S p.1 p.2] Q
def re(n:Nat)(t:Tr):Prop:=∀p∈YV t,n<=p.2.length/\p.2.length<=60
def oE(V:Yr):LF<|tI V:=by
 unfold tI;simp[LF]
def Os(m n:Nat):(TY ((m:Int)-(n:Int)).toNat<|UL TV.fz [U2 0]).flatten=(eX<|m-n).map U2:=by
 rw[show((m:Int)-(n:Int)).toNat=m-n by lia];unfold eX;rw[vK];exact Bu
def B1:Stp->Prop
 |.turn ..=>True|.flip ..=>True|.cut ..=>True|.spread ..=>True
 |_=>False
def eJ(A:Yr):Stp->Gf
 |.turn _ os=>λ s V=>(s,cq V os++V.drop A.length)
 |.flip _ k=>λ s V=>(s+(A.getD k.toNat 0-1)*V.getD k.toNat 0,V.set k.toNat<|-V.getD k.toNat 0)
 |.cut _ k f _ g=>λ s V=>(s+f*V.getD k.toNat 0,V.set k.toNat<|V.getD k.toNat 0*g)
 |.spread _ k _=>λ s V=>(s,bX V k.toNat 0)
 |_=>λ s V=>(s,V)
def fc(V:List Stp)(k:Nat)(R:List Bool):List Bool:=if R.getD k TL=TK then (ao<|V.getD k<|.num 0).foldl (λ R a=>R.set a TK) R else R
def bR(V:List Stp)(n:Nat):Nat->List Bool->List Bool
 |0,R=>R
 |i+1,R=>fc V (n-1-i) (bR V n i R)
noncomputable def bM(n:Nat)(V:Yr):List Bool:=V.foldl (λ R e=>R.set e.toNat TK)<|TY n TL
def aE(V:List Stp)(S:Yr):List Nat:=(Ub V.length).filter λ k=>(bR V V.length V.length<|bM V.length S).getD k TL
def Ot(l:List Bool)(V:Yr):(V.foldl (λ R e=>R.set e.toNat TK) l).length=l.length:=by
 induction V generalizing l with
 |nil=>rfl
 |cons e V S=>rw[iT,S,cN]
def gp(n:Nat)(V:Yr):(bM n V).length=n:=by unfold bM;rw[Ot,fE]
def Ou{V:Yr}{i:Nat}(h:V[i]?=TJ e):bM n (V.take<|i+1)=(bM n<|V.take i).set e.toNat TK:=by unfold bM;rw[jv,h,jw];rfl
def vL(l:List Bool)(V:List Nat):(V.foldl (λ R a=>R.set a TK) l).length=l.length:=by
 induction V generalizing l with
 |nil=>rfl
 |cons e T S=>rw[iT,S,cN]
def Ov(V:List Stp)(k:Nat)(R:List Bool):(fc V k R).length=R.length:=by
 unfold fc;split
 .exact vL _ _
 .rfl
theorem mB(V:List Stp)(n:Nat)(R:List Bool):∀i,(bR V n i R).length=R.length
 |0=>rfl
 |i+1=>by rw[bR,Ov,mB V n R i]
def Bv{n:Nat}(h:n<=40):UK ((n:Int)-1) (-1) (-1)=TK/\Ul ((n:Int)-1) (-1) (-1)=(n:Int):=by
 have z:∀m:Fin 41,UK ((m.val:Int)-1) (-1) (-1)=TK/\Ul ((m.val:Int)-1) (-1) (-1)=(m.val:Int):=by decide +kernel
 exact z (n,BT)
def x6{R:List Bool}{k:Nat}(h:k<R.length):YX (R.map TV.bl) (k:Int)=TJ (.bl<|R.getD k TL):=iS (by rw[bc,aZ h,aG,aZ h];rfl)
theorem vM:∀(V:List Nat) (R:List Bool) (j:Nat),(V.foldl (λ R a=>R.set a TK) R).getD j TL=TK ↔ (j∈V/\j<R.length)\/R.getD j TL=TK
 |[],R,j=>by simp
 |a::V,R,j=>by
  rw[iT,vM V];rw[cN,aG,aG,da];by_cases c:a=j
  .subst c;rw[U0 rfl];by_cases l:a<R.length
   .simp[l]
   .simp[l]
  .rw[T9 c];have:¬j=a:=λ z=>c z.symm;simp[this]
def Ow{n:Nat}{V:Yr}(S:∀e∈V,0<=e/\e<(n:Int))(j:Nat):(bM n V).getD j TL=TK ↔ (j:Int)∈V:=by
 have e:bM n V=(V.map Int.toNat).foldl (λ R a=>R.set a TK) (TY n TL):=by unfold bM;rw[List.foldl_map]
 rw[e,vM,fE];have z:¬(TY n TL).getD j TL=TK:=by rw[aG,dY];split<;>simp
 constructor
 .rintro(⟨h,_⟩|h)
  .obtain⟨x,T,rfl⟩:=bg.mp h;rw[nU (S x T).1];exact T
  .exact U1 h z
 .intro h;exact .inl (bg.mpr (_,h,TZ j),by have:=(S _ h).2;lia)
section
variable {Z:List Stp}{R:List Bool}{n:Nat}
def vN(V:R.length=n)(i j:Nat):(bR Z n (i+1) R).getD j TL=TK ↔ (bR Z n i R).getD j TL=TK\/((bR Z n i R).getD (n-1-i) TL=TK/\j∈ao (Z.getD (n-1-i)<|.num 0)/\j<n):=by
 show(fc Z (n-1-i)<|bR Z n i R).getD j TL=TK ↔ _;unfold fc;split
 .rename_i c;rw[vM,mB,V];constructor
  .rintro(h|h)
   .exact .inr (c,h)
   .exact .inl h
  .rintro(h|h)
   .exact .inr h
   .exact .inl h.2
 .rename_i c;constructor
  .exact .inl
  .rintro(h|h)
   .exact h
   .exact U1 h.1 c
theorem Bw(V:R.length=n):∀m,(bR Z n i R).getD j TL=TK->(bR Z n (i+m) R).getD j TL=TK
 |0,h=>h
 |m+1,h=>(vN V (i+m) j).mpr (.inl<|Bw V m h)
theorem Bx(S:R.length=n)(V:∀(k:Nat) (e:Stp),Z[k]?=TJ e->∀a∈ao e,a<k)(dl:Z.length=n){k:Nat}(T:k<n):∀m,n-1-k+m<=n->(bR Z n (n-1-k+m) R).getD k TL=TK->(bR Z n (n-1-k) R).getD k TL=TK
 |0,_,h=>h
 |m+1,N,h=>by
  rcases(vN S (n-1-k+m) k).mp h with h|⟨_,h,_⟩
  .exact Bx S V dl T m BT h
  .have W:n-1-(n-1-k+m)<Z.length:=by lia
   have:=V _ _ (gj W) k h;lia
end
def mem_reach{V:List Stp}{S:Yr}{k:Nat}:k∈aE V S ↔ k<V.length/\(bR V V.length V.length<|bM V.length S).getD k TL=TK:=by
 unfold aE;rw[gS,gw]
def By{V:List Stp}{S:Yr}(W:∀(k:Nat) (e:Stp),V[k]?=TJ e->∀a∈ao e,a<k){k a:Nat}(h:k∈aE V S)(m:a∈ao (V.getD k<|.num 0)):a∈aE V S:=by
 obtain⟨N,A⟩:=mem_reach.mp h;have K:=W k _ (gj N) a m;have T:=gp V.length S;have b:=Bx T W rfl N (k+1) BT (by rw[show V.length-1-k+(k+1)=V.length by lia];exact A);refine mem_reach.mpr (BT,?_);have s:=(vN T (V.length-1-k) a).mpr<|.inr (by rw[show V.length-1-(V.length-1-k)=k by lia];exact b,by rw[show V.length-1-(V.length-1-k)=k by lia];exact m,BT);have t:=Bw T k s
 rwa [show V.length-1-k+1+k=V.length by lia] at t
def oF{mo:Int}(gl:eI mo Y Z):∀(k:Nat) (e:Stp),Y[k]?=TJ e->∀a∈ao e,a<k:=λ k e V a T=>by
 have W:=(aP.mp V).1;have S:=aZ (show k<Z.length by rw[<- gl.1];exact W);have:=Bi (gl.2.2 k e _ V S) a T;rw[bp] at this;lia
def oG{mo:Int}(gl:eI mo Z Y):∀d∈Z,∀a∈ao d,a<Z.length:=λ d T a S=>by
 obtain⟨k,V⟩:=kg T;have:=oF gl k d V a S;have:=(aP.mp V).1;lia
noncomputable def Zf(u:Nat)(V:List Nat)(U:List<|LL):List<|LL:=V.zipIdx.foldl (λ U q=>U.set q.1<|U.getD q.1 []++[[(u:Int),(q.2:Int)]]) U
def Zk(S:List Stp)(V:List Nat):List<|LL:=V.foldl (λ U u=>Zf u (ao<|S.getD u<|.num 0) U)<|TY S.length []
def bD(V:List Stp)(os:Yr):List<|LL:=Zk V<|aE V os
def jD{u j a:Nat}{V:List Nat}(h:V[j]?=TJ a):Zf u (V.take<|j+1) U=(Zf u (V.take j) U).set a ((Zf u (V.take j) U).getD a []++[[(u:Int),(j:Int)]]):=by
 have l:(V.take j).length=j:=by rw[bp];have:=(aP.mp h).1;lia
 unfold Zf;rw[jv,h,List.zipIdx_append,jw,l];show Wq _ _ [(Prod.mk a (0+j))]=_;rw[Nat.zero_add];rfl
theorem Bz{u:Nat}:∀(l:List<|Nat×Nat) (U:List<|LL),(l.foldl (λ U q=>U.set q.1<|U.getD q.1 []++[[(u:Int),(q.2:Int)]]) U).length=U.length
 |[],_=>rfl
 |q::l,U=>by rw[iT,Bz l,cN]
def rf(u:Nat)(V:List Nat)(U:List<|LL):(Zf u V U).length=U.length:=Bz _ _
def rg(S:List Stp)(V:List Nat):(Zk S V).length=S.length:=by
 have z:∀(V:List Nat) (U:List<|LL),(V.foldl (λ U u=>Zf u (ao<|S.getD u<|.num 0) U) U).length=U.length:=λ V=>by
  induction V with
  |nil=>intro U;rfl
  |cons u l T=>intro U;rw[iT,T,rf]
 unfold Zk;rw[z,fE]
def oH{V:List Nat}{i u:Nat}(h:V[i]?=TJ u):Zk ds (V.take<|i+1)=Zf u (ao<|ds.getD u<|.num 0) (Zk ds<|V.take i):=by
 unfold Zk;rw[jv,h,jw];rfl
def D3(n:Nat)(U:List<|LL):Prop:=∀l∈U,l.length<=n
def Ox{x:Yr}(h:D3 n U):D3 (n+1)<|U.set a<|U.getD a []++[x]:=λ l V=>by
 rcases oy V with V|rfl
 .have:=h l V;lia
 .rw[aQ];by_cases c:a<U.length
  .have:=h (U.getD a []) (by rw[aG,aZ c];exact lG c);show _+1<=_;lia
  .rw[aG,eE BT];show 0+1<=n+1;lia
theorem rh{as:List Nat}(h:D3 n U):∀j,D3 (n+j) (Zf u (as.take j) U)
 |0=>by rw[jE];exact h
 |j+1=>by
  cases e:as[j]? with
  |none=>
   rw[ce (by have:=dG.mp e;lia),<- ce (l:=as) (i:=j)<|by have:=dG.mp e;lia];exact λ l V=>by have:=rh (u:=u) (as:=as) h j l V;lia
  |some a=>rw[jD e];exact Ox<|rh h j
def BA(d:Stp):(ao d).length<=3:=by cases d<;>exact cJ rfl
theorem rk{live:List Nat}:∀i,D3 (3*i) (Zk ds<|live.take i)
 |0=>by rw[jE];intro l V;rw[(List.mem_replicate.mp V).2];exact ax _
 |i+1=>by
  cases e:live[i]? with
  |none=>
   rw[ce (by have:=dG.mp e;lia),<- ce (l:=live) (i:=i)<|by have:=dG.mp e;lia];exact λ l V=>by have:=rk (ds:=ds) (live:=live) i l V;lia
  |some u=>
   rw[oH e];have z:=rh (u:=u) (as:=ao<|ds.getD u<|.num 0) (rk (ds:=ds) (live:=live) i) (ao<|ds.getD u<|.num 0).length;rw[bP] at z;have:=BA<|ds.getD u<|.num 0;exact λ l V=>by have:=z l V;lia
def BB(V:List Stp)(S:Yr):(aE V S).length<=V.length:=by unfold aE;exact cw (mC _ _) (by rw[bZ];exact ax _)
def vO{l:List Nat}{i:Nat}(h:(l.map λ k:Nat=>U2 (k:Nat))[i]?=TJ t):∃k,t=.int (k:Nat)/\l[i]?=TJ k:=by
 rw[bc] at h;obtain⟨k,e,q⟩:=jQ.mp h;exact(k,q.symm,e)
noncomputable def gt(V:List<|Option Tr)(a:Nat):Tr:=(V.getD a TM).getD<|.num 0
def Zn:Option Tr->TV
 |some t=>YH t
 |none=>.non
noncomputable def BC:Tr->Int
 |.read st _ _=>st
 |_=>0
noncomputable abbrev YE(V:LL)(a:Nat):Yr:=V.getD a []
def cK(T:List<|Option Tr)(V:LL)(S:Yr)(a:Nat):Tr:=rm (iE (YE V a).length<|S.length-(YE V a).length)<|gt T a
noncomputable def oJ(r:Tr)(A B:Yr)(V:Tr):Tr:=match r with
 |.read st s S=>.fetch st s (S.getD 0 0) (A.getD 0 0) (eX B.length++S.drop 1) V
 |_=>.num 0
def gq(T:List<|Option Tr)(V:LL)(S:Yr):Stp->Option Tr
 |.num n=>TJ (.num n)
 |.count _ k=>TJ (.idx 0<|(Ub S.length).map λ j:Nat=>if (j:Int)=k then 1 else 0)
 |.each w a=>TJ (.each w<|cK T V S a)
 |.pair w a b=>TJ (.pair w (cK T V S a)<|cK T V S b)
 |.pick a b c=>TJ (.pick (cK T V S a) (cK T V S b)<|cK T V S c)
 |.lay a _=>TJ (.read (BC<|gt T a) 0<|gk S)
 |.fetch a b=>TJ (oJ (gt T a) (YE V a) (YE V b)<|cK T V S b)
 |.fold w a k=>TJ (.fold w ((YE V a).getD k.toNat 0)<|rm (jC (YE V a).length k.toNat)<|gt T a)
 |.turn a os=>TJ (rm (eJ (YE V a)<|.turn a os)<|gt T a)
 |.flip a k=>TJ (rm (eJ (YE V a)<|.flip a k)<|gt T a)
 |.cut a k f m g=>TJ (rm (eJ (YE V a)<|.cut a k f m g)<|gt T a)
 |.spread a k m=>TJ (rm (eJ (YE V a)<|.spread a k m)<|gt T a)
 |_=>TM
def iF(t:Tr):Prop:=∃st s V,t=.read st s V
def x9(n:Nat)(S:Yr)(t:Tr):Prop:=YK t<=n/\∀p∈YV t,S.length<=p.2.length/\p.2.length<=S.length+YK t
def BE(V:List<|Option Tr)(S:LL)(d:Stp):Prop:=(∀a∈ao d,∃t A,V[a]?=TJ (TJ t)/\S[a]?=TJ A/\x9 40 A t)/\(∀a T,d=.lay a T->iF (gt V a))/\∀a b,d=.fetch a b->iF (gt V a)
def fg{V:List (Option Tr)}{a:Nat}(e:V[a]?=TJ (TJ t)):gt V a=t:=by unfold gt;rw[aG,e];rfl
def ZW{V:LL}{a:Nat}(e:V[a]?=TJ A):YE V a=A:=by unfold YE;rw[aG,e];rfl
def rn(h:x9 n A t)(a6:A.length<=6)(S:n<=40):YK t<=41/\re A.length t:=(by have:=h.1;lia,λ p V=>by have:=h.2 p V;have:=h.1;lia)
def BG(m:B1 d):∃a,ao d=[a]/\_L.eqT (.str<|bw<|YD d) (.str "num")=TL/\_L.eqT (.str<|bw<|YD d) (.str "count")=TL/\_L.inT (.str<|bw<|YD d) [.str "each",.str "pair",.str "pick"]=TL/\_L.inT (.str<|bw<|YD d) [.str "turn",.str "flip",.str "cut",.str "spread"]=TK:=by
 cases d<;>first|exact m.elim|exact(_,rfl,rfl,rfl,rfl,rfl)
noncomputable def BH:Stp->Bool
 |.each .. | .pair .. | .pick ..=>TK
 |_=>TL
def Oy(m:BH d=TK):(YD d=YD (.each "" 0)\/YD d=YD (.pair "" 0 0)\/YD d=YD (.pick 0 0 0))/\_L.eqT (.str<|bw<|YD d) (.str "num")=TL/\_L.eqT (.str<|bw<|YD d) (.str "count")=TL/\_L.inT (.str<|bw<|YD d) [.str "each",.str "pair",.str "pick"]=TK/\((ao d).length<=3/\(ai (o6 d) TM<|TJ<|((o6 d).length:Int)-((((ao d).map λ a:Nat=>(a:Int)).map U2).length:Nat)).length+((ao d).map λ a=>YH<|cK Ts Ss S a).length<=1000)/\Zn (gq Ts Ss S d)=.tup (ai (o6 d) TM (TJ<|((o6 d).length:Int)-((((ao d).map λ a:Nat=>(a:Int)).map U2).length:Nat))++(ao d).map λ a=>YH<|cK Ts Ss S a):=by
 cases d with
 |each=>exact(.inl rfl,rfl,rfl,rfl,(cJ rfl,cJ rfl),rfl)
 |pair=>exact(.inr<|.inl rfl,rfl,rfl,rfl,(cJ rfl,cJ rfl),rfl)
 |pick=>exact(.inr<|.inr rfl,rfl,rfl,rfl,(cJ rfl,cJ rfl),rfl)
 |_=>cases m
def BJ(m:B1 d):gq Y Z S d=TJ (rm (eJ (YE Z<|(ao d).headD 0) d)<|gt Y<|(ao d).headD 0):=by cases d<;>first|rfl|exact m.elim
def mD:∀x∈[U4 "each",.str "pair",.str "pick"],Zc x=TK:=Cl
def oK:∀x∈[U4 "turn",.str "flip",.str "cut",.str "spread"],Zc x=TK:=Cl
theorem iG:∀t:Tr,LF (YH t)
 |.num n=>by simp[YH,Zv,LF]
 |.idx s S=>by simp[YH,Zv,LF];exact oE S
 |.read st s S=>by simp[YH,Zv,LF];exact oE S
 |.each w t=>by have h:=iG t;simp[YH,Zv,LF] at *;exact h
 |.pair w a b=>by have T:=iG a;have V:=iG b;simp[YH,Zv,LF] at *;exact(T,V)
 |.pick a b c=>by have T:=iG a;have V:=iG b;have W:=iG c;simp[YH,Zv,LF] at *;exact(T,V,W)
 |.fold w n t=>by have h:=iG t;simp[YH,Zv,LF] at *;exact h
 |.fetch st s r n S t=>by have h:=iG t;have V:=oE S;simp[YH,Zv,LF] at *;exact(V,h)
def Oz(o:Option Tr):LF<|Zn o:=by cases o with|none=>simp[Zn,LF]|some t=>exact iG t
def OB(m:Nat):(TY ((m:Nat):Int).toNat<|UL TV.fz [U2 0]).flatten=(eX m).map U2:=by
 rw[TZ];unfold eX;rw[vK];exact Bu
def BK(z:Zp Z S d)(h:YD d=YD (.each "" 0)\/YD d=YD (.pair "" 0 0)\/YD d=YD (.pick 0 0 0)):∀a∈ao d,∃A,Z[a]?=TJ A/\S.take A.length=A:=by
 have g:∀ {A B C:Yr},B.take A.length=A->C.take B.length=B->C.take A.length=A:=λ {A B C} h N=>by
  have l:A.length<=B.length:=by rw[<- h,bp];lia
  have e:(C.take B.length).take A.length=C.take A.length:=by rw[List.take_take,lA l]
  rw[<- e,N,h]
 cases d with
 |each w a=>intro b k;cases aK.mp k;exact(S,z.1,bP)
 |pair w a b=>
  refine HT λ W V=>?_;obtain⟨A,B,K,F,_,y,rfl⟩:=z;refine V ?_;clear V W;have:=vA y;intro c T
  rcases aD.mp T with rfl|T
  .exact(A,K,this.1)
  .cases aK.mp T;exact(B,F,this.2)
 |pick a b c=>
  refine HT λ W V=>?_;obtain⟨A,B,C,K,F,o,y,v,rfl⟩:=z;refine V ?_;clear V W;have j:=vA y;have N:=vA v;intro m T
  rcases aD.mp T with rfl|T
  .exact(A,K,g j.1 N.1)
  .rcases aD.mp T with rfl|T
   .exact(B,F,g j.2 N.1)
   .cases aK.mp T;exact(C,o,N.2)
 |_=>rcases h with h|h|h<;>cases h
noncomputable def OC(d:Stp)(p:Int):Bool:=match d with
 |.pair ..=>TK|.pick ..=>TK|.fetch ..=>decide (p=1)
 |_=>TL
def gu(S:List Stp)(V:LL)(k u:Nat)(p:Int):Bool:=OC (S.getD u<|.num 0) p&&decide (((YE V k).length:Int)<((YE V u).length:Int))
def gD{V:List Stp}{a:Nat}(e:V[a]?=TJ d):V.getD a (.num 0)=d:=by rw[aG,e];rfl
def vP:∀x∈[U4 "pair",.str "pick"],Zc x=TK:=Cl
def vQ:∀x∈[U4 "run",.str "join"],Zc x=TK:=Cl
def ZY(V:List Stp)(x:Yr):Str:=bw<|YD<|V.getD (x.getD 0 0).toNat<|.num 0
abbrev d9(V:List Stp)(S:LL):List TV:=S.map λ x=>.str<|ZY V x
def gv(V:List Stp)(x:Yr):Bool:=if _L.eqT (U4<|ZY V x) (.str "fetch")=TK then _L.eqT (U2<|x.getD 1 0) (.int 0) else TL
noncomputable def z5:Tr->Str
 |.num _=> "num" |.idx _ _=> "index" |.read _ _ _=> "read" |.each _ _=> "each" |.pair _ _ _=> "pair" |.pick _ _ _=> "pick" |.fold _ _ _=> "fold" |.fetch _ _ _ _ _ _=> "fetch"
noncomputable def oM:Tr->Bool
 |.num _=>TK|.idx _ _=>TK|.read _ _ _=>TK|_=>TL
def trK(t:Tr):YX (Zv t) 0=TJ (.str<|z5 t):=by cases t<;>rfl
def rB(S:List Stp)(T:LL)(k:Nat)(t:Tr)(V:LL):Bool:=if oM t=TK then TL else if decide (1<(V.length:Int))=TK then TK else if inT (.str "spread") (d9 S V)=TK then TK else (V.map λ x=>gu S T k (x.getD 0 0).toNat<|x.getD 1 0).any id
def kB(V:List Stp)(T:LL)(os:Yr)(k:Nat)(t:Tr)(S:LL):Bool:=if inT (.int (k:Nat)) (os.map .int)=TK then TK else if inT (.str "lay") (d9 V S)=TK then TK else if (if (!_L.eqT (U4<|z5 t) (.str "read"))=TK then (S.map<|gv V).any id else TL)=TK then TK else rB V T k t S
def kD(S:List Stp)(V:LL)(os:Yr)(k:Nat)(d:Stp)(o:Option Tr)(T:LL):Bool:=match d with
 |.lay ..=>TL|.run ..=>TK|.join ..=>TK
 |_=>kB S V os k (o.getD<|.num 0) T
def mE:Stp->Prop
 |.inp ..=>True|.run ..=>True|.join ..=>True
 |_=>False
noncomputable def rC:Stp->Bool
 |.lay .. | .run .. | .join .. | .inp _=>TK
 |_=>TL
def BL(h:rC d=TL):¬mE d/\_L.eqT (.str<|bw<|YD d) (.str "lay")=TL/\_L.inT (.str<|bw<|YD d) [.str "run",.str "join"]=TL/\∀S V os k t T,kD S V os k d (TJ t) T=kB S V os k t T:=by
 cases d<;>first|exact TN h|exact(λ z=>z,rfl,rfl,λ _ _ _ _ _ _=>rfl)
def BM{V:Type}(f:V->Bool)(l:List V):(l.map λ x=>TV.bl<|f x)=(l.map f).map TV.bl:=by rw[bV];rfl
def R8(V:List Stp)(T:LL):∀x∈d9 V T,Zc x=TK:=λ x S=>by obtain⟨n,_,rfl⟩:=bg.mp S;rfl
theorem dS(g:Gf):∀t:Tr,YK (rm g t)=YK t
 |.num _=>rfl|.idx _ _=>rfl|.read _ _ _=>rfl
 |.each _ t=>by show YK (rm g t)+1=_;rw[dS g t];rfl
 |.pair _ a b=>by show max (YK<|rm g a) (YK<|rm g b)+1=_;rw[dS g a,dS g b];rfl
 |.pick a b c=>by show max (YK<|rm g a) (max (YK<|rm g b)<|YK<|rm g c)+1=_;rw[dS g a,dS g b,dS g c];rfl
 |.fold _ _ t=>by show YK (rm g t)+1=_;rw[dS g t];rfl
 |.fetch _ _ _ _ _ t=>by show YK (rm g t)+1=_;rw[dS g t];rfl
theorem iH(g:Gf):∀t:Tr,YV (rm g t)=(YV t).map λ p=>g p.1 p.2
 |.num _=>rfl|.idx _ _=>rfl|.read _ _ _=>rfl
 |.each _ t=>iH g t
 |.pair _ a b=>by show YV (rm g a)++YV (rm g b)=_;rw[iH g a,iH g b,<- bG];rfl
 |.pick a b c=>by show YV (rm g a)++(YV (rm g b)++YV (rm g c))=_;rw[iH g a,iH g b,iH g c,<- bG,<- bG];rfl
 |.fold _ _ t=>iH g t
 |.fetch _ s _ _ V t=>by show(g s V)::YV (rm g t)=_;rw[iH g t];rfl
def t6(S:Yr)(m:Nat)(t:Tr):Prop:=∀p∈YV t,S.length<=p.2.length/\p.2.length<=S.length+m
def vR{A S:Yr}{m N:Nat}{g:Gf}(h:t6 A m t)(K:∀s V,A.length<=V.length->V.length<=A.length+m->S.length<=(g s V).2.length/\(g s V).2.length<=S.length+N):t6 S N<|rm g t:=λ p T=>by
 rw[iH] at T;obtain⟨q,W,rfl⟩:=bg.mp T;exact K q.1 q.2 (h q W).1 (h q W).2
def OD{n m:Nat}{V:Yr}(h:n<=V.length):(iE n m s V).2.length=V.length+m:=by
 show(V.take n++eX m++V.drop n).length=_;rw[aQ,aQ,bp,cW,qK];lia
def BO{A S:Yr}(h:t6 A m t)(T:S.take A.length=A):t6 S m<|rm (iE A.length<|S.length-A.length) t:=by
 have N:A.length<=S.length:=by rw[<- T,bp];lia
 exact vR h λ s K V W=>by rw[OD V];lia
def mF{m V:Nat}(h:t6 S m t)(l:m<=V):t6 S V t:=λ p T=>by have:=h p T;lia
def vS{S:Yr}{m:Nat}{a b:List (Int×Yr)}(V:∀p∈a,S.length<=p.2.length/\p.2.length<=S.length+m)(T:∀p∈b,S.length<=p.2.length/\p.2.length<=S.length+m):∀p∈a++b,S.length<=p.2.length/\p.2.length<=S.length+m:=λ p W=>(cy.mp W).elim (V p)<|T p
def vT(l:Yr)(k:Nat)(m:Int):(bX l k m).length=l.length+1:=AS l k m
def OE{k:Nat}{j:List (Option Tr)}(U:Zp Z S d)(J:∀a∈ao d,a<k/\∃u A,j[a]?=TJ (TJ u)/\Z[a]?=TJ A/\x9 a A u)(hf:∀a b,d=.fetch a b->iF (gt j a))(e:gq j Z S d=TJ t):x9 k S t:=by
 have z:(YD d=YD (.each "" 0)\/YD d=YD (.pair "" 0 0)\/YD d=YD (.pick 0 0 0))->∀a∈ao d,YK (cK j Z S a)<k/\t6 S (YK<|cK j Z S a) (cK j Z S a):=λ h a I=>by
  refine HT λ T V=>?_;obtain⟨D,u,A,x,F,i⟩:=J a I;obtain⟨L,N,y⟩:=BK U h a I;refine V ?_;clear V T;cases F.symm.trans N;unfold cK;rw[fg x,ZW F,dS];have:=i.1;exact(BT,BO i.2 y)
 rcases Classical.em (B1 d) with m|m
 .refine HT λ T V=>?_;obtain⟨a,o,_⟩:=BG m;obtain⟨D,u,A,x,F,i⟩:=J a (by rw[o];exact bn);refine V ?_;clear V T;have e:=(BJ m).symm.trans e;rw[o] at e;have e:TJ (rm (eJ (YE Z a) d)<|gt j a)=TJ t:=e;rw[fg x,ZW F] at e;cases e;refine(by rw[dS];have:=i.1;lia,?_);rw[dS];refine vR i.2 λ s W Y l=>?_
  cases d with
  |turn b os=>
   obtain⟨L,N,tk,rfl⟩:=U;cases (show[b]=[a] from o);cases F.symm.trans N;have ol:=Bk tk;show(cq A os).length<=(cq W os++W.drop A.length).length/\(cq W os++W.drop A.length).length<=(cq A os).length+YK u;unfold cq;rw[aQ,af,af,cW];lia
  |flip b O=>
   obtain⟨N,_⟩:=U;cases (show[b]=[a] from o);cases F.symm.trans N;show _<=(W.set _ _).length/\(W.set _ _).length<=_;rw[cN];exact(Y,l)
  |cut b O f m' g=>
   refine HT λ T V=>?_;obtain⟨L,N,_,_,_,rfl⟩:=U;refine V ?_;clear V T;cases (show[b]=[a] from o);cases F.symm.trans N;show _<=(W.set _ _).length/\(W.set _ _).length<=_;rw[cN,cN];exact(Y,l)
  |spread b O m'=>
   refine HT λ T V=>?_;obtain⟨L,N,Q,_,_,_,rfl⟩:=U;refine V ?_;clear V T;cases (show[b]=[a] from o);cases F.symm.trans N;show _<=(bX W _ 0).length/\(bX W _ 0).length<=_;rw[vT,vT];lia
  |_=>exact m.elim
 cases d with
 |num n=>cases e;exact(cn _,λ p y=>nomatch y)
 |count ms c=>
  cases e;refine(cn _,λ p y=>?_);cases aK.mp y;show S.length<=(UL _ _).length/\(UL _ _).length<=S.length+0;rw[af,bZ];lia
 |each w a=>
  cases e;obtain⟨Y,l⟩:=z (.inl rfl) a (by simp[ao]);exact(Y,mF l<|nh _)
 |pair w a b=>
  cases e;obtain⟨Y,l⟩:=z (.inr<|.inl rfl) a (by simp[ao]);obtain⟨H,G⟩:=z (.inr<|.inl rfl) b (by simp[ao]);refine(by show max _ _+1<=k;lia,?_);show ∀p∈YV _++YV _,_;exact vS (mF l<|by show _<=max _ _+1;lia) (mF G<|by show _<=max _ _+1;lia)
 |pick a b c=>
  cases e;refine HT λ T V=>?_;obtain⟨Y,l⟩:=z (.inr<|.inr rfl) a (by simp[ao]);obtain⟨H,G⟩:=z (.inr<|.inr rfl) b (by simp[ao]);obtain⟨h5,q⟩:=z (.inr<|.inr rfl) c (by simp[ao]);refine V ?_;clear V T;refine(by show max _ (max _ _)+1<=k;lia,?_);show ∀p∈YV _++(YV _++YV _),_;exact vS (mF l<|by show _<=max _ (max _ _)+1;lia) (vS (mF G<|by show _<=max _ (max _ _)+1;lia)<|mF q<|by show _<=max _ (max _ _)+1;lia)
 |lay a ms=>
  cases e;refine(cn _,λ p y=>?_);cases aK.mp y;show S.length<=(gk S).length/\(gk S).length<=S.length+0;rw[Br];lia
 |fetch a b=>
  refine HT λ T V=>?_;obtain⟨D,u,A,x,F,i⟩:=J a (by simp[ao]);obtain⟨bl,v,B,X,E,C⟩:=J b (by simp[ao]);obtain⟨n,r,B',o,n0,P,nb,rfl⟩:=U;refine V ?_;clear V T;cases F.symm.trans o;cases E.symm.trans P;obtain⟨st,s,W,M⟩:=hf a b rfl;have e:TJ (oJ (gt j a) (YE Z a) (YE Z b)<|cK j Z (B++r) b)=TJ t:=e;cases e;rw[fg x] at M ⊢;subst M;have lp:(n::r).length<=W.length/\W.length<=(n::r).length+0:=i.2 (s,W) bn;rw[Up] at lp;unfold cK;rw[fg X,ZW E,ZW F];have K:=BO (S:=B++r) C.2 Xn;refine(by show YK (rm _ v)+1<=k;rw[dS];have:=C.1;lia,λ p y=>?_)
  rcases aD.mp y with rfl|y
  .show(B++r).length<=(eX B.length++W.drop 1).length/\(eX B.length++W.drop 1).length<=(B++r).length+_;rw[aQ,aQ,qK,cW];lia
  .have:=K p y;show _/\_<=_+(YK (rm _ v)+1);rw[dS];lia
 |fold w a R=>
  refine HT λ T V=>?_;obtain⟨D,u,A,x,F,i⟩:=J a (by simp[ao]);obtain⟨L,o,hw,Q,rfl⟩:=U;refine V ?_;clear V T;cases F.symm.trans o;obtain⟨c,rfl,cl⟩:=ko Q;have e:TJ (Tr.fold w ((YE Z a).getD c 0)<|rm (jC (YE Z a).length c)<|gt j a)=TJ t:=e;cases e;rw[fg x,ZW F];refine(by show YK (rm _ u)+1<=k;rw[dS];have:=i.1;lia,?_);show t6 (A.eraseIdx c) (YK (rm _ u)+1) (rm (jC A.length c) u);rw[dS];refine vR i.2 λ s W Y l=>?_;show(A.eraseIdx c).length<=(bX (W.eraseIdx c) (A.length-1)<|W.getD c 0).length/\(bX (W.eraseIdx c) (A.length-1)<|W.getD c 0).length<=(A.eraseIdx c).length+(YK u+1);rw[vT,rD,rD,U0 cl,U0 BT];lia
 |turn|flip|cut|spread=>exact U1 trivial m
 |_=>cases e
def rF(h:¬mE d):∃t,gq Ts Ss S d=TJ t:=by
 cases d<;>first|exact(_,rfl)|exact U1 trivial h
def OF{u a p:Nat}{V:List Nat}{U:List (LL)}(h:V[p]?=TJ a)(A:a<U.length):[(u:Int),(p:Int)]∈(Zf u V U).getD a []:=by
 have T:∀j,p<j->[(u:Int),(p:Int)]∈(Zf u (V.take j) U).getD a []:=λ j=>by
  induction j with
  |zero=>intro h;lia
  |succ j S=>
   intro F
   cases e:V[j]? with
   |none=>
    have K:=(aP.mp h).1;have W:=dG.mp e;rw[ce BT,<- ce (l:=V) (i:=j) W];exact S BT
   |some b=>
    rw[jD e];have l:(Zf u (V.take j) U).length=U.length:=rf _ _ _;by_cases c:b=a
    .subst c;rw[aG,fD BT];by_cases N:p=j
     .subst N;exact bO _ bn
     .exact fk _<|S BT
    .rw[aG,du c,<- aG];exact S (by rcases Nat.lt_or_ge p j with z|z;exact z;exact U1 (by rw[show j=p by lia,h] at e;cases e;rfl) c)
 have:=T V.length (aP.mp h).1
 rwa [bP] at this
def OG{x:Yr}{U:List (LL)}(h:x∈U.getD a []):x∈(Zf u Z U).getD a []:=by
 have S:∀j,x∈(Zf u (Z.take j) U).getD a []:=λ j=>by
  induction j with
  |zero=>rw[jE];exact h
  |succ j V=>
   cases e:Z[j]? with
   |none=>
    rw[ce (by have:=dG.mp e;lia),<- ce (l:=Z) (i:=j)<|by have:=dG.mp e;lia];exact V
   |some b=>
    rw[jD e];by_cases c:b=a
    .subst c;by_cases l:b<(Zf u (Z.take j) U).length
     .rw[aG,fD l];exact fk _ V
     .rw[vU BT];exact V
    .rw[aG,du c,<- aG];exact V
 have:=S Z.length
 rwa [bP] at this
def vV{V:List Stp}{os:Yr}{u p a:Nat}(K:u∈aE V os)(h:(ao<|V.getD u<|.num 0)[p]?=TJ a)(N:a<V.length):[(u:Int),(p:Int)]∈(bD V os).getD a []:=by
 obtain⟨i,S⟩:=kg K
 have T:∀j,i<j->[(u:Int),(p:Int)]∈(Zk V<|(aE V os).take j).getD a []:=λ j=>by
  induction j with
  |zero=>intro h;lia
  |succ j W=>
   intro z
   cases e:(aE V os)[j]? with
   |none=>
    have F:=(aP.mp S).1;have A:=dG.mp e;rw[ce BT,<- ce (l:=aE V os) (i:=j) A];exact W BT
   |some v=>
    rw[oH e];by_cases c:i=j
    .subst c;rw[S] at e;cases e;exact OF h (by rw[rg];exact N)
    .exact OG<|W BT
 have:=T (aE V os).length (aP.mp S).1
 rwa [bP] at this
def OH{os:Yr}:∀x∈(bD Z os).getD a [],∃u p:Nat,x=[(u:Int),(p:Int)]/\u<Z.length:=by
 have W:∀(u:Nat) (T:List Nat) (U:List<|LL),u<Z.length->(∀a,∀x∈U.getD a [],∃u p:Nat,x=[(u:Int),(p:Int)]/\u<Z.length)->∀j a,∀x∈(Zf u (T.take j) U).getD a [],∃u p:Nat,x=[(u:Int),(p:Int)]/\u<Z.length:=λ u T U K A j=>by
  induction j with
  |zero=>rw[jE];exact A
  |succ j S=>
   intro a x V
   cases e:T[j]? with
   |none=>
    rw[ce (by have:=dG.mp e;lia),<- ce (l:=T) (i:=j)<|by have:=dG.mp e;lia] at V;exact S a x V
   |some b=>
    rw[jD e] at V;by_cases c:b=a
    .subst c;by_cases l:b<(Zf u (T.take j) U).length
     .rw[aG,fD l] at V
      rcases cy.mp V with V|V
      .exact S b x V
      .cases aK.mp V;exact(u,j,rfl,K)
     .rw[vU BT] at V;exact S b x V
    .rw[aG,du c,<- aG] at V;exact S a x V
 have N:∀j a,∀x∈(Zk Z<|(aE Z os).take j).getD a [],∃u p:Nat,x=[(u:Int),(p:Int)]/\u<Z.length:=λ j=>by
  induction j with
  |zero=>
   intro a x V;rw[jE] at V;have V:x∈(TY Z.length ([]:LL)).getD a []:=V;rw[aG,dY] at V;split at V<;>cases V
  |succ j S=>
   intro a x V
   cases e:(aE Z os)[j]? with
   |none=>
    rw[ce (by have:=dG.mp e;lia),<- ce (l:=aE Z os) (i:=j)<|by have:=dG.mp e;lia] at V;exact S a x V
   |some u=>
    rw[oH e] at V;have z:=W u (ao<|Z.getD u<|.num 0) _ (mem_reach.mp<|aH e).1 S (ao<|Z.getD u<|.num 0).length a x;rw[bP] at z;exact z V
 have z:=N (aE Z os).length a
 rwa [bP] at z
def OI(d:Stp):Bl (λ a=>a) d=d:=by cases d<;>rfl
def R9{V:LL}(T:Zp (V.take k) S d):Zp V S d:=by
 have z:=NU (Zs:=V) (f:=λ a=>a) T (λ a W A e=>by rw[uZ] at e;split at e;exact e;cases e)
 rwa [OI] at z
theorem rG(k:Int):∀V:Yr,_L.inT (.int k) (V.map U2)=TK ↔ k∈V
 |[]=>by simp[_L.inT]
 |x::r=>by
  have S:=rG k r;show(_L.eqT (.int x) (.int k) || _L.inT (.int k) (r.map U2))=TK ↔ _;rw[jq,S,aD];show decide (x=k)=TK\/_ ↔ _;rw[dB];exact(λ h=>h.elim (λ z=>.inl z.symm) .inr,λ h=>h.elim (λ z=>.inl z.symm) .inr)
def OJ(k:Nat)(V:List Nat):_L.inT (.int (k:Nat)) (V.map λ j:Nat=>U2 (j:Nat))=decide (k∈V):=by
 have z:=rG (k:Int)<|V.map λ j:Nat=>(j:Int);rw[bV] at z;have T:_L.inT (.int (k:Nat)) (V.map λ j:Nat=>U2 (j:Nat))=TK ↔ (k:Int)∈V.map λ j:Nat=>(j:Int):=z;rw[gY,T,dB];constructor
 .intro h;obtain⟨j,S,e⟩:=bg.mp h;rw[<- show j=k by lia];exact S
 .intro h;exact bg.mpr (k,h,rfl)
def OL{s:Str}{l:List Str}(h:s∈l):_L.inT (.str s) (l.map U4)=TK:=by
 unfold _L.inT;rw[iq];exact(.str s,bg.mpr (s,h,on),by show decide (s=s)=TK;exact bC rfl)
def cL(S:List Stp)(V:LL)(os:Yr)(T:List<|Option Tr)(k:Nat):Option Tr:=if k∈aE S os then gq T V (YE V k) (S.getD k<|.num 0) else TM
noncomputable def fT:Stp->Bool
 |.inp _=>TK
 |_=>TL
def e6(V:List Stp)(S:LL)(os:Yr)(T:List<|Option Tr)(k:Nat):Bool:=fT (V.getD k<|.num 0) || (decide (k∈aE V os)&&kD V S os k (V.getD k<|.num 0) (cL V S os T k) ((bD V os).getD k []))
structure e7 where
 Ts:List<|Option Tr
 Bs:List<|Option Tr
 st:List Nat
def YB(S:List Stp)(V:LL)(os:Yr):Nat->e7
 |0=>([],[],[])
 |k+1=>
  let p:=YB S V os k
  if e6 S V os p.Ts k=TK then (p.Ts++[TJ<|.read (p.st.length:Nat) 0<|gk<|YE V k],p.Bs++[cL S V os p.Ts k],p.st++[k])
  else (p.Ts++[cL S V os p.Ts k],p.Bs++[cL S V os p.Ts k],p.st)
theorem oN(S:List Stp)(V:LL)(os:Yr):∀k,(YB S V os k).Ts.length=k/\(YB S V os k).Bs.length=k/\(YB S V os k).st.length<=k
 |0=>(rfl,rfl,ax _)
 |k+1=>by
  obtain⟨T,W,N⟩:=oN S V os k;show(if _ then _ else _:e7).Ts.length=_/\(if _ then _ else _:e7).Bs.length=_/\(if _ then _ else _:e7).st.length<=_;split<;>simp[T,W]<;>lia
def O2(V:List Stp)(u p:Nat):Prop:=(∃a S,V.getD u (.num 0)=.lay a S)\/(∃a b,V.getD u (.num 0)=.fetch a b/\p=0)
def OM{os:Yr}(h:kB Z U os k t Y=TL):(k:Int) ∉ os/\∀u p:Nat,[(u:Int),(p:Int)]∈Y->O2 Z u p->iF t:=by
 unfold kB at h;split at h
 .cases h
 .rename_i c1;refine(λ z=>c1<|(rG _ _).mpr z,λ u p V T=>?_);split at h
  .cases h
  .rename_i c2
   rcases T with ⟨a,N,e⟩|⟨a,b,e,rfl⟩
   .refine U1 ?_ c2;have z:=OL (s := "lay") (l:=Y.map<|ZY Z)<|bg.mpr (_,V,by show bw (YD<|Z.getD (u:Int).toNat _)=_;rw[TZ,e];rfl);rw[bV] at z;exact z
   .have c3:(Y.map<|gv Z).any id=TK:=by
     rw[iq];refine(TK,bg.mpr (_,V,?_),on);unfold gv;rw[show ZY Z [(u:Int),((0:Nat):Int)]="fetch" by show bw (YD<|Z.getD (u:Int).toNat _)=_;rw[TZ,e];rfl];rfl
    by_cases S:(!_L.eqT (U4<|z5 t) (.str "read"))=TK
    .rw[U0 S,U0 c3] at h;cases h
    .cases t with
     |read st s W=>exact(st,s,W,rfl)
     |_=>exact U1 rfl S
structure z6 (ds:List Stp)(Ss:LL)(os:Yr)(Ts:List<|Option Tr)(j:Nat):Prop where
 w:∃t A,Ts[j]?=TJ (TJ t)/\Ss[j]?=TJ A/\x9 j A t
 r:∀u p,u∈aE ds os->(ao<|ds.getD u<|.num 0)[p]?=TJ j->O2 ds u p->iF (gt Ts j)
 o:(j:Int)∈os->iF (gt Ts j)
def vW{V:List (Option Tr)}{x:Option Tr}{j:Nat}(h:j<V.length):gt (V++[x]) j=gt V j:=by unfold gt;rw[aG,cU h,<- aG]
def rH{V:List (Option Tr)}{x:Option Tr}{k:Nat}(h:V.length=k):gt (V++[x]) k=x.getD (.num 0):=by subst h;unfold gt;rw[aG,cS<|ax _,iA];rfl
def ON{os:Yr}{x:Option Tr}(h:z6 U Z os Y j):z6 U Z os (Y++[x]) j:=by
 obtain⟨t,A,S,T,W⟩:=h.w;have V:=(aP.mp S).1;exact((t,A,by rw[cU V];exact S,T,W),by rw[vW V];exact h.r,by rw[vW V];exact h.o)
def vX{os:Yr}{mo:Int}{k:Nat}(gl:eI mo Z Y)(F:k<=40)(h:∀j,j<k->j∈aE Z os->z6 Z Y os U j)(T:k∈aE Z os):(∀a∈ao (Z.getD k<|.num 0),a<k/\∃u A,U[a]?=TJ (TJ u)/\Y[a]?=TJ A/\x9 a A u)/\BE U Y (Z.getD k<|.num 0):=by
 have z:=(mem_reach.mp T).1
 have S:∀a∈ao (Z.getD k<|.num 0),a<k/\z6 Z Y os U a:=λ a V=>by
  have:=oF gl k _ (gj z) a V;exact(this,h a this<|By (oF gl) T V)
 refine(λ a V=>((S a V).1,(S a V).2.w),λ a V=>?_,λ a y e=>?_,λ a b e=>?_)
 .obtain⟨t,A,N,K,W⟩:=(S a V).2.w;have:=(S a V).1;exact(t,A,N,K,by have:=W.1;lia,W.2)
 .exact(S a<|by rw[e];exact bn).2.r k 0 T (by rw[e];rfl)<|.inl (a,y,e)
 .exact(S a<|by rw[e];exact bn).2.r k 0 T (by rw[e];rfl)<|.inr (a,b,e,on)
theorem vY{os:Yr}{mo:Int}(gl:eI mo Z Y)(y:Z.length<=40):∀k,k<=Z.length->∀j,j<k->j∈aE Z os->z6 Z Y os (YB Z Y os k).Ts j
 |0,_,j,U,_=>by lia
 |k+1,E,j,U,A=>by
  have r:=vY (os:=os) gl y k BT;have V:=(oN Z Y os k).1;by_cases c:j<k
  .have z:=r j c A;show z6 Z Y os (if _ then _ else _:e7).Ts j;split<;>exact ON z
  .have D:j=k:=by lia
   subst D;obtain⟨n,F⟩:=vX gl BT r A;have l:=gj (ds:=Z) (a:=j) BT;have v:Y[j]?=TJ (YE Y j):=by unfold YE;rw[aG,aZ<|by rw[<- gl.1];lia];rfl
   have B:=R9<|gl.2.2 j _ _ l v;have i:cL Z Y os (YB Z Y os j).Ts j=gq (YB Z Y os j).Ts Y (YE Y j) (Z.getD j<|.num 0):=U0 A;show z6 Z Y os (if _ then _ else _:e7).Ts j;split
   .refine((_,_,by show(_++[_])[j]?=_;rw[cS BT,V,iA];rfl,v,cn _,λ p g=>?_),λ _ _ _ _ _=>?_,λ _=>?_)
    .cases aK.mp g;show _<=(gk _).length/\(gk _).length<=_;rw[Br];lia
    .rw[rH V];exact(_,_,_,rfl)
    .rw[rH V];exact(_,_,_,rfl)
   .rename_i K;unfold e6 at K;rw[jq,bq,dB] at K;have o:¬fT (Z.getD j<|.num 0)=TK:=λ z=>K<|.inl z;have T:¬kD Z Y os j (Z.getD j<|.num 0) (cL Z Y os (YB Z Y os j).Ts j) ((bD Z os).getD j [])=TK:=λ z=>K<|.inr (A,z)
    have m:¬mE (Z.getD j<|.num 0):=by
     generalize Z.getD j (.num 0)=d at o T
     cases d with
     |inp e=>exact U1 rfl o
     |run w a s|join a b s=>exact U1 rfl T
     |_=>exact λ h=>h
    obtain⟨t,N⟩:=rF (Ts:=(YB Z Y os j).Ts) (Ss:=Y) (S:=YE Y j) m;have G:=OE B n F.2.2 N;rw[i] at T ⊢;rw[N] at T ⊢
    have W:iF t\/((j:Int) ∉ os/\∀u p:Nat,[(u:Int),(p:Int)]∈(bD Z os).getD j []->O2 Z u p->iF t):=by
     generalize Z.getD j (.num 0)=d at o T m N
     cases d with
     |lay a e=>cases N;exact .inl (_,_,_,rfl)
     |inp e|run w a s|join a b s=>exact U1 trivial m
     |_=>exact .inr<|OM<|pQ.mpr T
    refine((t,_,by rw[cS BT,V,iA];rfl,v,G),λ u p L g x=>?_,λ J=>?_)
    .rw[rH V];exact W.elim id λ z=>z.2 u p (vV L g BT) x
    .rw[rH V];exact W.elim id λ z=>U1 J z.1
abbrev spT(p:e7):TV:=.tup [.lst<|p.Ts.map Zn,.lst<|p.Bs.map Zn,.lst<|p.st.map λ k=>.int (k:Nat)]
def oO{V:Type}{f:V->TV}{l:List V}{i:Nat}(h:((l.map f).mapIdx λ i x=>U3 [.int (i:Nat),x])[i]?=TJ t):∃a,t=.tup [.int (i:Nat),f a]/\l[i]?=TJ a:=by
 rw[uJ,bc] at h
 cases e:l[i]? with
 |none=>rw[e] at h;cases h
 |some a=>rw[e] at h;cases h;exact(a,rfl,rfl)
def BP(l:List Nat):∀x∈l.map (λ k:Nat=>U2 (k:Nat)),Zc x=TK:=λ x V=>by obtain⟨n,_,rfl⟩:=bg.mp V;rfl
def BQ(d:Stp):_L.eqT (.str<|bw<|YD d) (.str "in")=fT d:=by cases d<;>rfl
def OO(h:fT d=TL):∀V,d≠.inp V:=λ V e=>by subst e;cases h
def OP(o:Option Tr):(Zn o).nb=TK/\(Zn o).fz=Zn o:=by cases o<;>exact(rfl,rfl)
def OQ{GT:List TV}{K:TV->Prop}(v:TV)(h:wE Z GT e Y λ t=>t=v)(k:K v):wE Z GT e Y K:=aj e (λ t e=>by subst e;exact k) h
def OR{GT:List TV}{K:TV->Prop}(V:wE Z GT a Y λ t=>t=.bl x)(S:x=TL->wE Z GT b Y λ t=>t=.bl y)(k:K<|.bl<|x || y):wE Z GT (.or a b) Y K:=aj a (λ t e=>by
 subst e;show if x=TK then K (.bl TK) else wE Z GT b Y K
 cases x with
 |true=>exact k
 |false=>exact aj b (λ t e=>by subst e;exact k)<|S rfl) V
def OS{GT:List TV}{K:TV->Prop}(V:wE Z GT a Y λ t=>t=.bl x)(S:x=TK->wE Z GT b Y λ t=>t=.bl y)(k:K<|.bl<|x && y):wE Z GT (.and a b) Y K:=aj a (λ t e=>by
 subst e;show if x=TK then wE Z GT b Y K else K (.bl TL)
 cases x with
 |false=>exact k
 |true=>exact aj b (λ t e=>by subst e;exact k)<|S rfl) V
def BR{GT:List TV}{V:En}{j i:Nat}(T:V[j]?=TJ (TJ<|.own Z))(S:V[i]?=TJ (TJ<|Zn o))(l:Z.length<TW)(k:wS Y GT r (V.set j<|TJ<|.own<|Z++[Zn o]) U J):wS Y GT (.met .append j (.a1<|.v i) r) V U J:=by
 have f:fzV (.a1<|.v i) V=V:=by show u7 V i=V;unfold u7;rw[S];cases o<;>rfl
 show gc (fzV (.a1<|.v i) V)[j]? _;rw[f,T];show B8 V[i]? _;rw[S];cases o<;>exact(rfl,l,k)
def S1(V:List Stp)(W:LL)(os:Yr)(T B S:List TV)(l:En):En:=TJ (.tup [.tup<|V.map Yv,tI os])::TJ (.tup<|W.map tI)::TJ (.tup<|V.map Yv)::TJ (.lst<|(aE V os).map λ k=>.int (k:Nat))::TJ (.lst<|(bD V os).map λ l=>.lst<|l.map kT)::TJ (.own T)::TJ (.own B)::TJ (.own S)::l
theorem BS{os:Yr}:∀n,∀k∈(YB ds Ss os n).st,k<n/\(fT (ds.getD k<|.num 0)=TL->k∈aE ds os)
 |0,k,h=>nomatch h
 |n+1,k,h=>by
  have V:=BS (ds:=ds) (Ss:=Ss) (os:=os) n k;have h:k∈(if _ then _ else _:e7).st:=h;split at h
  .rename_i c
   rcases cy.mp h with h|h
   .exact(by have:=(V h).1;lia,(V h).2)
   .cases aK.mp h;refine(BT,λ z=>?_);unfold e6 at c;rw[z,kZ,bq,dB] at c;exact c.1
  .exact(by have:=(V h).1;lia,(V h).2)
def BU(V:List Stp)(p:e7):List Nat:=p.st.filter λ k=>!fT (V.getD k<|.num 0)
def bN(V:List Stp)(os:Yr):List Bool:=bR V V.length V.length<|bM V.length os
def vZ(V:List Stp)(os:Yr):(bN V os).length=V.length:=by unfold bN;rw[mB,gp]
def oP{ds:List Stp}{os:Yr}{k:Nat}(h:k<ds.length):(bN ds os).getD k TL=decide (k∈aE ds os):=by
 rw[gY,dB,mem_reach];exact(λ z=>(h,z),λ z=>z.2)
def mG:∀x∈[U4 "in",.str "num",.str "count"],Zc x=TK:=Cl
def oQ:∀x∈[U4 "each",.str "fold",.str "run"],Zc x=TK:=Cl
def BV:∀x∈[U4 "join",.str "fetch"],Zc x=TK:=Cl
def OT:∀x∈[U4 "pair",.str "pick",.str "fetch"],Zc x=TK:=Cl
def oR:∀x∈[U4 "in",.str "lay"],Zc x=TK:=Cl
def wa:∀x∈[U4 "num",.str "count"],Zc x=TK:=Cl
def BW:∀x∈[U4 "turn",.str "flip",.str "cut",.str "spread"],Zc x=TK:=Cl
def OU{ds:List Stp}{os:Yr}{n:Nat}(S:n=ds.length)(V:∀e∈os,0<=e/\e<(ds.length:Int)):(Ub n).map (λ k:Nat=>TV.bl<|_L.inT (.int (k:Nat))<|os.map U2)=(bM ds.length os).map .bl:=by
 subst S;apply qL;intro i;rw[bc,bc];by_cases c:i<ds.length
 .have z:=Ow (n:=ds.length) V i;rw[ji c,aZ<|by rw[gp];exact c];rw[aG,aZ<|by rw[gp];exact c] at z;have z:(bM ds.length os)[i]'(by rw[gp];exact c)=TK ↔ (i:Int)∈os:=z;have y:=rG (i:Int) os;show TJ (TV.bl<|_L.inT (.int (i:Nat))<|os.map U2)=TJ (TV.bl _);rw[show _L.inT (.int ((i:Nat):Int)) (os.map U2)=(bM ds.length os)[i]'(by rw[gp];exact c) from by rw[gY,y,z]]
 .rw[eE (by rw[bZ];lia),eE<|by rw[gp];lia];rfl
def ZC(V:List Stp)(os:Yr)(k:Nat):List Nat:=(Ub k).filter λ k=>(bN V os).getD k TL
def OV(V:List Stp)(os:Yr):ZC V os V.length=aE V os:=rfl
def OW(V:List Stp)(os:Yr)(k:Nat):ZC V os (k+1)=if (bN V os).getD k TL=TK then ZC V os k++[k] else ZC V os k:=by
 unfold ZC;rw[oi,wb];by_cases c:(bN V os).getD k TL=TK
 .rw[U0 c,qH (p:=λ k=>(bN V os).getD k TL) c];rfl
 .rw[T9 c,qI (p:=λ k=>(bN V os).getD k TL) c];exact eR _
def OX(V:List Stp)(os:Yr)(k:Nat):Zk V (ZC V os<|k+1)=if (bN V os).getD k TL=TK then Zf k (ao<|V.getD k<|.num 0) (Zk V<|ZC V os k) else Zk V (ZC V os k):=by
 rw[OW];split
 .unfold Zk;rw[jw];rfl
 .rfl
def grB(V:List Stp)(S:LL)(j u:Nat)(p:Int):Bool:=(match V.getD u (.num 0) with|.spread ..=>TK|_=>TL) || gu V S j u p
def gwB(S:List Stp)(V:LL)(j:Nat)(T:LL):Bool:=T.any λ x=>grB S V j (x.getD 0 0).toNat<|x.getD 1 0
noncomputable abbrev j9(n:Nat)(U:List<|LL):List TV:=(Ub n).map λ j=>.int ((U.getD j []).length:Nat)
abbrev f9(S:List Stp)(V:LL)(n:Nat)(U:List<|LL):List TV:=(Ub n).map λ j=>.bl<|gwB S V j<|U.getD j []
def rJ{f g:Nat->TV}{v:TV}(V:g a=v)(S:∀j,j≠a->g j=f j):((Ub n).map f).set a v=(Ub n).map g:=by
 apply qL;intro i;by_cases c:i=a
 .subst c;by_cases l:i<n
  .rw[fD (by rw[af,bZ];exact l),bc,ji l];exact bT TJ V.symm
  .rw[eE (by rw[cN,af,bZ];lia),eE<|by rw[af,bZ];lia]
 .rw[du λ z=>c z.symm,bc,bc];by_cases l:i<n
  .rw[ji l];exact bT TJ (S i c).symm
  .rw[eE<|by rw[bZ];lia];rfl
def oU{n a:Nat}(h:a<n):YX ((Ub n).map f) (a:Int)=TJ (f a):=iS (by rw[bc,ji h];rfl)
def wc{U:List (LL)}{a:Nat}(h:a<U.length):(U.set a x).getD a []=x:=by rw[aG,fD h];rfl
def we{U:List (LL)}{a j:Nat}(h:j≠a):(U.set a x).getD j []=U.getD j []:=by rw[aG,du λ z=>h z.symm,<- aG]
def OY{U:List (LL)}{n a:Nat}{x:Yr}(h:a<U.length):(j9 n U).set a (TV.fz<|.int (((U.getD a []).length:Nat)+1:Int))=j9 n (U.set a<|U.getD a []++[x]):=rJ (by rw[wc h,aQ];rfl) λ j V=>by rw[we V]
def BX(S:List Stp)(V:LL)(j:Nat)(l:LL)(x:Yr):gwB S V j (l++[x])=(gwB S V j l || grB S V j (x.getD 0 0).toNat (x.getD 1 0)):=by
 unfold gwB;rw[s0a];show(_ || (_ || TL))=_;rw[fX]
def OZ{U:List (LL)}{n a u p:Nat}(h:a<U.length)(g:grB Y Z a u p=TK):(f9 Y Z n U).set a (.bl TK)=f9 Y Z n (U.set a<|U.getD a []++[[(u:Int),(p:Int)]]):=rJ (by rw[wc h,BX];show TV.bl (_ || grB Y Z a u p)=_;rw[g,jP]) λ j V=>by rw[we V]
def Pa{U:List (LL)}{n a u p:Nat}(h:a<U.length)(g:grB Y Z a u p=TL):f9 Y Z n U=f9 Y Z n (U.set a<|U.getD a []++[[(u:Int),(p:Int)]]):=by
 refine jr λ j V=>?_;by_cases c:j=a
 .subst c;rw[wc h,BX];show _=TV.bl (_ || grB Y Z j u p);rw[g,fX]
 .rw[we c]
def us0(V:List Stp)(os:Yr):V.map (λ _=>U2 0)=j9 V.length (Zk V<|ZC V os 0):=by
 have z:∀j∈Ub V.length,U2 (((Zk V<|ZC V os 0).getD j []).length:Nat)=U2 0:=λ j S=>by
  show U2 (((TY V.length ([]:LL)).getD j []).length:Nat)=_;rw[aG,dY];split<;>rfl
 unfold j9;rw[jr z,kE,kE,bZ]
def gw0(V:List Stp)(S:LL)(os:Yr):V.map (λ _=>TV.bl TL)=f9 V S V.length (Zk V<|ZC V os 0):=by
 have z:∀j∈Ub V.length,TV.bl (gwB V S j<|(Zk V<|ZC V os 0).getD j [])=TV.bl TL:=λ j T=>by
  show TV.bl (gwB V S j<|(TY V.length ([]:LL)).getD j [])=_;rw[aG,dY];split<;>rfl
 unfold f9;rw[jr z,kE,kE,bZ]
def Pb{V:List Stp}{a k j:Nat}{d:Stp}(e:V.getD k (.num 0)=d)(T:j<(ao d).length):grB V Ss a k j=(_L.eqT (.str<|bw<|YD d) (.str "spread") || (_L.inT (.str<|bw<|YD d) [.str "pair",.str "pick",.str "fetch"]&&(!(_L.eqT (.str<|bw<|YD d) (.str "fetch")&&decide ((j:Int)=0))&&decide (((YE Ss a).length:Int)<((YE Ss k).length:Int))))):=by
 unfold grB gu;rw[e]
 cases d with
 |fetch=>
  have S:decide ((j:Int)=1)=!decide ((j:Int)=0):=by
   obtain rfl|rfl:j=0\/j=1:=by have:j<2:=T;lia
   .rfl
   .rfl
  show(TL || (decide ((j:Int)=1)&&_))=_;rw[S];rfl
 |_=>rfl
def tlt(A B:Yr):TV.bl (decide<|(((A.map U2).length:Nat):Int)<(((B.map U2).length:Nat):Int))=.bl (decide<|(A.length:Int)<(B.length:Int)):=by rw[ag,ag]
def S3(V:List Stp)(S:LL)(os:Yr)(u g:List TV)(l:En):En:=TJ (.tup<|V.map Yv)::TJ (.lst<|S.map tI)::TJ (.lst<|(bN V os).map .bl)::TJ (.own u)::TJ (.own g)::l
noncomputable def ZU(d:Stp)(V:List Str):Str:=match d with
 |.inp _=> "read" |.lay _ _=> "read" |.num _=> "free" |.count _ _=> "free"
 |.turn a _=>V.getD a "" |.flip a _=>V.getD a "" |.cut a _ _ _ _=>V.getD a "" |.spread a _ _=>V.getD a ""
 |_=> "busy"
def atS{R:List Str}{k:Nat}(h:k<R.length):YX (R.map U4) (k:Int)=TJ (.str<|R.getD k ""):=iS (by rw[bc,aZ h,aG,aZ h];rfl)
section
variable {GT:List TV}{K:TV->Prop}
def mH(V:wE Z GT a Y λ t=>t=.bl x)(S:wE Z GT b Y λ t=>t=.bl y)(k:K<|.bl<|x || y):wE Z GT (.or a b) Y K:=aj a (λ t e=>by
 subst e;show if x=TK then K (.bl TK) else wE Z GT b Y K
 cases x with
 |true=>rw[U0 rfl];exact k
 |false=>rw[T9 Cl];exact aj b (λ t e=>by subst e;exact k) S) V
def iJ(V:wE Z GT a Y λ t=>t=.bl x)(S:wE Z GT b Y λ t=>t=.bl y)(k:K<|.bl<|x && y):wE Z GT (.and a b) Y K:=aj a (λ t e=>by
 subst e;show if x=TK then wE Z GT b Y K else K (.bl TL)
 cases x with
 |true=>rw[U0 rfl];exact aj b (λ t e=>by subst e;exact k) S
 |false=>rw[T9 Cl];exact k) V
end
noncomputable def kF:Stp->Nat->Bool
 |.lay a _,j=>decide (j=a)
 |_,_=>TL
noncomputable def kG:Stp->Nat->Bool
 |.fetch a _,j=>decide (j=a)
 |_,_=>TL
def k9(V:List Stp)(os:Yr)(m j:Nat):Bool:=_L.inT (.int (j:Nat)) (os.map U2) || (Ub m).any λ i=>(bN V os).getD i TL&&kF (V.getD i<|.num 0) j
def t7(V:List Stp)(os:Yr)(m j:Nat):Bool:=(Ub m).any λ i=>(bN V os).getD i TL&&kG (V.getD i<|.num 0) j
def wg(V:List Stp)(os:Yr)(m j:Nat):k9 V os (m+1) j=(k9 V os m j || ((bN V os).getD m TL&&kF (V.getD m<|.num 0) j)):=by
 unfold k9;rw[oi,s0a,Bool.or_assoc];show(_ || (_ || (_ || TL)))=_;rw[fX]
def wj(V:List Stp)(os:Yr)(m j:Nat):t7 V os (m+1) j=(t7 V os m j || ((bN V os).getD m TL&&kG (V.getD m<|.num 0) j)):=by
 unfold t7;rw[oi,s0a];show(_ || (_ || TL))=_;rw[fX]
abbrev h9(V:List Stp)(os:Yr)(m:Nat):List TV:=(Ub V.length).map λ j=>.bl<|k9 V os m j
abbrev i3(V:List Stp)(os:Yr)(m:Nat):List TV:=(Ub V.length).map λ j=>.bl<|t7 V os m j
def Pc{os:Yr}(h:∀j,((bN Z os).getD m TL&&kF (Z.getD m<|.num 0) j)=TL):h9 Z os (m+1)=h9 Z os m:=jr λ j _=>by rw[wg,h j,fX]
def Pd{os:Yr}(h:∀j,((bN Z os).getD m TL&&kG (Z.getD m<|.num 0) j)=TL):i3 Z os (m+1)=i3 Z os m:=jr λ j _=>by rw[wj,h j,fX]
def Pe{os:Yr}{m a:Nat}(h:∀j,((bN Z os).getD m TL&&kF (Z.getD m<|.num 0) j)=decide (j=a)):(h9 Z os m).set a (.bl TK)=h9 Z os (m+1):=rJ (by rw[wg,h a,bC rfl,jP]) λ j V=>by rw[wg,h j,bA V,fX]
def Pf{os:Yr}{m a:Nat}(h:∀j,((bN Z os).getD m TL&&kG (Z.getD m<|.num 0) j)=decide (j=a)):(i3 Z os m).set a (.bl TK)=i3 Z os (m+1):=rJ (by rw[wj,h a,bC rfl,jP]) λ j V=>by rw[wj,h j,bA V,fX]
def wh0(V:List Stp)(os:Yr):(Ub V.length).map (λ k:Nat=>TV.bl<|_L.inT (.int (k:Nat))<|os.map U2)=h9 V os 0:=jr λ j _=>by unfold k9;show _=TV.bl (_ || TL);rw[fX]
def ft0(V:List Stp)(os:Yr):V.map (λ _=>TV.bl TL)=i3 V os 0:=by
 show _=(Ub V.length).map λ _=>TV.bl TL;rw[kE,kE,bZ]
noncomputable def oV:Stp->Bool
 |.run ..=>TK|.join ..=>TK|_=>TL
noncomputable def iK:Stp->Bool
 |.inp _=>TK|.lay ..=>TK|_=>TL
def t8(V:List Stp)(os:Yr)(k:Nat)(d:Stp)(s:Str):Bool:=oV d || (k9 V os V.length k || (t7 V os V.length k && !_L.eqT (.str s) (.str "read")))
def ke2(V:List Stp)(S:LL)(os:Yr)(k:Nat)(s:Str):Bool:=_L.eqT (.str s) (.str "busy")&&(decide ((1:Int)<(((bD V os).getD k []).length:Nat)) || gwB V S k ((bD V os).getD k []))
def YO(V:List Stp)(S:LL)(os:Yr):Nat->List Nat×List Str
 |0=>([],[])
 |k+1=>
  let p:=YO V S os k
  let d:=V.getD k<|.num 0
  let s:=ZU d p.2
  if ((bN V os).getD k TL&&((t8 V os k d s || ke2 V S os k s) && !iK d))=TK then (p.1++[k],p.2++[("read" : Str)]) else (p.1,p.2++[s])
theorem wl(S:List Stp)(V:LL)(os:Yr):∀k,(YO S V os k).2.length=k/\(YO S V os k).1.length<=k
 |0=>(rfl,ax _)
 |k+1=>by
  obtain⟨T,W⟩:=wl S V os k;show(if _ then _ else _:List Nat×List Str).2.length=_/\(if _ then _ else _:List Nat×List Str).1.length<=_;split
  .show(_++[_]).length=_/\(_++[_]).length<=_;rw[aQ,aQ,T];exact(on,by show _+1<=_;lia)
  .show(_++[_]).length=_/\_;rw[aQ,T];exact(on,by show(YO S V os k).1.length<=_;lia)
def Pg(d:Stp):_L.inT (.str<|bw<|YD d) [.str "run",.str "join"]=oV d:=by cases d<;>rfl
def Ph(d:Stp):_L.inT (.str<|bw<|YD d) [.str "in",.str "lay"]=iK d:=by cases d<;>rfl
def Pi(h:_L.eqT (.str<|bw<|YD d) (.str "lay")=TK):∃a Z,d=.lay a Z:=by cases d<;>first|exact(_,_,rfl)|cases h
def Pj(h:_L.eqT (.str<|bw<|YD d) (.str "fetch")=TK):∃a b,d=.fetch a b:=by cases d<;>first|exact(_,_,rfl)|cases h
def Pk{b:Bool}(h:(b&&_L.eqT (.str<|bw<|YD d) (.str "lay"))=TL):(b&&kF d j)=TL:=by cases b<;>first|rfl|(cases d<;>first|rfl|cases h)
def Pl{b:Bool}(h:(b&&_L.eqT (.str<|bw<|YD d) (.str "fetch"))=TL):(b&&kG d j)=TL:=by cases b<;>first|rfl|(cases d<;>first|rfl|cases h)
def D4(V:List Stp)(S:LL)(os:Yr)(w f:List TV)(l:En):En:=TJ (.tup<|V.map Yv)::TJ (tI os)::TJ (.lst<|S.map tI)::TJ (.lst<|(bN V os).map .bl)::TJ (.tup [.lst<|j9 V.length<|bD V os,.lst<|f9 V S V.length<|bD V os])::TJ (.own w)::TJ (.own f)::l
def BY{os:Yr}{x:Yr}(V:x∈(bD Z os).getD a []):∃u p:Nat,x=[(u:Int),(p:Int)]/\u∈aE Z os/\(ao<|Z.getD u<|.num 0)[p]?=TJ a:=by
 have T:∀(u:Nat) (U:List<|LL),u∈aE Z os->(∀a,∀x∈U.getD a [],∃u p:Nat,x=[(u:Int),(p:Int)]/\u∈aE Z os/\(ao<|Z.getD u<|.num 0)[p]?=TJ a)->∀j a,∀x∈(Zf u ((ao<|Z.getD u<|.num 0).take j) U).getD a [],∃u p:Nat,x=[(u:Int),(p:Int)]/\u∈aE Z os/\(ao<|Z.getD u<|.num 0)[p]?=TJ a:=λ u U A N j=>by
  induction j with
  |zero=>rw[jE];exact N
  |succ j S=>
   intro a x V
   cases e:(ao<|Z.getD u<|.num 0)[j]? with
   |none=>
    rw[ce (by have:=dG.mp e;lia),<- ce (l:=ao<|Z.getD u<|.num 0) (i:=j)<|by have:=dG.mp e;lia] at V;exact S a x V
   |some b=>
    rw[jD e] at V;by_cases c:b=a
    .subst c;by_cases l:b<(Zf u ((ao<|Z.getD u<|.num 0).take j) U).length
     .rw[aG,fD l] at V
      rcases cy.mp V with V|V
      .exact S b x V
      .cases aK.mp V;exact(u,j,rfl,A,e)
     .rw[vU BT] at V;exact S b x V
    .rw[aG,du c,<- aG] at V;exact S a x V
 have W:∀j a,∀x∈(Zk Z<|(aE Z os).take j).getD a [],∃u p:Nat,x=[(u:Int),(p:Int)]/\u∈aE Z os/\(ao<|Z.getD u<|.num 0)[p]?=TJ a:=λ j=>by
  induction j with
  |zero=>
   intro a x V;rw[jE] at V;have V:x∈(TY Z.length ([]:LL)).getD a []:=V;rw[aG,dY] at V;split at V<;>cases V
  |succ j S=>
   intro a x V
   cases e:(aE Z os)[j]? with
   |none=>
    rw[ce (by have:=dG.mp e;lia),<- ce (l:=aE Z os) (i:=j)<|by have:=dG.mp e;lia] at V;exact S a x V
   |some u=>
    rw[oH e] at V;have z:=T u _ (aH e) S (ao<|Z.getD u<|.num 0).length a x;rw[bP] at z;exact z V
 have z:=W (aE Z os).length a;rw[bP] at z;exact z x V
def Pm:_L.inT (.str w) (d9 Z Y)=TK ↔ ∃x∈Y,ZY Z x=w:=by
 unfold _L.inT;rw[iq];constructor
 .rintro⟨y,S,e⟩;obtain⟨x,V,rfl⟩:=bg.mp S;exact(x,V,au e)
 .rintro⟨x,V,e⟩;exact(_,bg.mpr (x,V,on),bC e)
def Pn{p k:Nat}(h:bw (YD d)="lay")(e:(ao d)[p]?=TJ k):kF d k=TK:=by
 cases d with
 |lay a V=>
  match p,e with
  |0,e=>cases e;exact bC rfl
 |_=>exact U1 h<|iL rfl
def Po(h:kF d k=TK):bw (YD d)="lay" /\ (ao d)[0]?=TJ k:=by
 cases d with
 |lay a V=>cases au h;exact(rfl,rfl)
 |_=>exact TN h
def Pp(h:kG d k=TK):bw (YD d)="fetch" /\ (ao d)[0]?=TJ k:=by
 cases d with
 |fetch a b=>cases au h;exact(rfl,rfl)
 |_=>exact TN h
def Pq(h:bw (YD d)="fetch")(e:(ao d)[0]?=TJ k):kG d k=TK:=by
 cases d with
 |fetch a b=>cases e;exact bC rfl
 |_=>exact U1 h<|iL rfl
def Ps{V:List Stp}{os:Yr}{k:Nat}(z:k<V.length):k9 V os V.length k=(_L.inT (.int (k:Nat)) (os.map U2) || _L.inT (.str "lay") (d9 V<|(bD V os).getD k [])):=by
 unfold k9
 congr 1
 rw[gY,Pm,iq];constructor
 .rintro⟨i,K,h⟩;rw[bq,oP<|gw.mp K,dB] at h;obtain⟨N,A⟩:=Po h.2;exact(_,vV h.1 A z,N)
 .rintro⟨x,F,e⟩;obtain⟨u,p,rfl,S,W⟩:=BY F;have T:=(mem_reach.mp S).1;refine(u,gw.mpr T,?_);rw[bq,oP T,dB];exact(S,Pn e W)
def Pt{V:List Stp}{os:Yr}{k:Nat}(g:k<V.length):t7 V os V.length k=(((bD V os).getD k []).map<|gv V).any id:=by
 unfold t7;rw[gY,iq,iq];constructor
 .rintro⟨i,z,h⟩;rw[bq,oP<|gw.mp z,dB] at h;obtain⟨K,F⟩:=Pp h.2;refine(_,bg.mpr (_,vV h.1 F g,on),?_);show gv V [(i:Int),((0:Nat):Int)]=TK;unfold gv;rw[U0<|show _L.eqT (U4<|ZY V [(i:Int),((0:Nat):Int)]) (.str "fetch")=TK from bC K];rfl
 .rintro⟨y,j,e⟩;refine HT λ T S=>?_;obtain⟨x,v,rfl⟩:=bg.mp j;obtain⟨u,p,rfl,W,A⟩:=BY v;refine S ?_;clear S T;have N:=(mem_reach.mp W).1;have e:gv V [(u:Int),(p:Int)]=TK:=e;unfold gv at e;split at e
  .rename_i h;have p0:((p:Int)=0):=au e;have p0:p=0:=BT;subst p0;refine(u,gw.mpr N,?_);rw[bq,oP N,dB];exact(W,Pq (au h) A)
  .cases e
def Pu(d:Stp):(match d with|.spread ..=>TK|_=>TL)=decide (bw (YD d)="spread"):=by cases d<;>rfl
theorem BZ(V:List Stp)(T:LL)(k:Nat):∀S:LL,gwB V T k S=(_L.inT (.str "spread") (d9 V S) || (S.map λ x=>gu V T k (x.getD 0 0).toNat<|x.getD 1 0).any id)
 |[]=>rfl
 |x::S=>by
  have W:=BZ V T k S;show(grB V T k (x.getD 0 0).toNat (x.getD 1 0) || gwB V T k S)=((decide (ZY V x="spread") || _L.inT (.str "spread") (d9 V S)) || (gu V T k (x.getD 0 0).toNat (x.getD 1 0) || (S.map λ x=>gu V T k (x.getD 0 0).toNat<|x.getD 1 0).any id));rw[W];unfold grB;rw[Pu];show((decide (ZY V x="spread") || _) || _)=_;generalize decide (ZY V x="spread")=p;generalize gu V T k (x.getD 0 0).toNat (x.getD 1 0)=q;generalize _L.inT (.str "spread") (d9 V S)=r;cases p<;>cases q<;>cases r<;>rfl
noncomputable def ZZ:Tr->Str
 |.read .. => "read" |.num _=> "free" |.idx .. => "free" |_=> "busy"
def Pv(g:Gf)(t:Tr):ZZ (rm g t)=ZZ t:=by cases t<;>rfl
def Pw(t:Tr):_L.eqT (.str<|ZZ t) (.str "read")=_L.eqT (.str<|z5 t) (.str "read"):=by cases t<;>rfl
def Px(t:Tr):_L.eqT (.str<|ZZ t) (.str "busy")=!oM t:=by cases t<;>rfl
def Py{ds:List Stp}{os:Yr}{k:Nat}(V:k<ds.length)(S:oV d=TL):kB ds Ss os k t ((bD ds os).getD k [])=(t8 ds os k d (ZZ t) || ke2 ds Ss os k (ZZ t)):=by
 unfold kB rB t8 ke2;rw[S,Ps V,Pt V,BZ,Pw,Px];generalize _L.inT (.int (k:Nat)) (os.map U2)=A;generalize _L.inT (.str "lay") (d9 ds<|(bD ds os).getD k [])=B;generalize (((bD ds os).getD k []).map<|gv ds).any id=C;generalize _L.eqT (.str<|z5 t) (.str "read")=D;generalize oM t=E;generalize _L.inT (.str "spread") (d9 ds<|(bD ds os).getD k [])=F;generalize (((bD ds os).getD k []).map λ x=>gu ds Ss k (x.getD 0 0).toNat<|x.getD 1 0).any id=G;generalize decide ((1:Int)<(((bD ds os).getD k []).length:Nat))=H
 revert A B C D E F G H
 decide +kernel
def Ca{V:List Str}{d:Stp}(h:∀a∈ao d,V.getD a ""=ZZ (gt Ts a))(W:∀a b,d=.fetch a b->iF (gt Ts a))(e:gq Ts Ss S d=TJ t):ZU d V=ZZ t:=by
 cases d with
 |num n|count N k|each w a|pair w a b|pick a b c|lay a N|fold w a k=>cases e;rfl
 |fetch a b=>
  obtain⟨st,s,s2,T⟩:=W a b rfl;have e:TJ (oJ (gt Ts a) (YE Ss a) (YE Ss b)<|cK Ts Ss S b)=TJ t:=e;rw[T] at e;cases e;rfl
 |turn a os|flip a k|cut a k f m g|spread a k m=>cases e;rw[Pv];exact h a (by simp[ao])
 |_=>cases e
def Cb(h:rC d=TL):oV d=TL/\iK d=TL:=by cases d<;>first|exact(rfl,rfl)|cases h
theorem Cc{os:Yr}{mo:Int}(gl:eI mo Y U)(K:Y.length<=40):∀k,k<=Y.length->(YO Y U os k).1=(YB Y U os k).st.filter (λ k=>!fT (Y.getD k<|.num 0))/\∀j,j<k->j∈aE Y os->(YO Y U os k).2.getD j ""=ZZ (gt (YB Y U os k).Ts j)
 |0,_=>(rfl,λ j h=>by lia)
 |k+1,f=>by
  obtain⟨g,D⟩:=Cc gl K (os:=os) k BT;have X:=(wl Y U os k).1;have H:=(oN Y U os k).1;have Q:=vY (os:=os) gl K k BT;have m:=oP (ds:=Y) (os:=os) (k:=k) BT;have st:YO Y U os (k+1)=if ((bN Y os).getD k TL&&((t8 Y os k (Y.getD k<|.num 0) (ZU (Y.getD k<|.num 0) (YO Y U os k).2) || ke2 Y U os k (ZU (Y.getD k<|.num 0) (YO Y U os k).2)) && !iK (Y.getD k<|.num 0)))=TK then ((YO Y U os k).1++[k],(YO Y U os k).2++[("read" : Str)]) else ((YO Y U os k).1,(YO Y U os k).2++[ZU (Y.getD k<|.num 0) (YO Y U os k).2]):=rfl;have l:YB Y U os (k+1)=(if e6 Y U os (YB Y U os k).Ts k=TK then (((YB Y U os k).Ts++[TJ<|.read ((YB Y U os k).st.length:Nat) 0<|gk<|YE U k],(YB Y U os k).Bs++[cL Y U os (YB Y U os k).Ts k],(YB Y U os k).st++[k]):e7) else ((YB Y U os k).Ts++[cL Y U os (YB Y U os k).Ts k],(YB Y U os k).Bs++[cL Y U os (YB Y U os k).Ts k],(YB Y U os k).st)):=rfl;have N:e6 Y U os (YB Y U os k).Ts k=(fT (Y.getD k<|.num 0) || (decide (k∈aE Y os)&&kD Y U os k (Y.getD k<|.num 0) (cL Y U os (YB Y U os k).Ts k) ((bD Y os).getD k []))):=rfl;have e:cL Y U os (YB Y U os k).Ts k=if k∈aE Y os then gq (YB Y U os k).Ts U (YE U k) (Y.getD k<|.num 0) else TM:=rfl;have J:=λ V=>vX gl (show k<=40 by lia) Q V;have E:k∈aE Y os->∀a∈ao (Y.getD k<|.num 0),(YO Y U os k).2.getD a ""=ZZ (gt (YB Y U os k).Ts a):=λ V a B=>D a ((J V).1 a B).1<|By (oF gl) V B
  have W:∀(P:List Nat×List Str) (x:Str) (y:Option Tr) (Z:e7),P.2=(YO Y U os k).2++[x]->Z.Ts=(YB Y U os k).Ts++[y]->(k∈aE Y os->x=ZZ (y.getD<|.num 0))->∀j,j<k+1->j∈aE Y os->P.2.getD j ""=ZZ (gt Z.Ts j):=λ P x y Z i M I j q V=>by
   rw[i,M];by_cases c:j<k
   .rw[vW BT,aG,cU BT,<- aG];exact D j c V
   .have R:j=k:=by lia
    subst R;rw[aG,cS BT,X,iA];unfold gt;rw[aG,cS BT,H,iA];exact I V
  by_cases T:fT (Y.getD k<|.num 0)=TK
  .have O:iK (Y.getD k<|.num 0)=TK:=by generalize Y.getD k (.num 0)=d at T;cases d<;>first|rfl|cases T
   have r:ZU (Y.getD k<|.num 0) (YO Y U os k).2="read" := by generalize Y.getD k (.num 0)=d at T;cases d<;>first|rfl|cases T
   rw[l,U0 (by rw[N,T];rfl),st,O,T9 Cr,r];refine(?_,W _ _ _ _ rfl rfl λ _=>rfl);show(YO Y U os k).1=((YB Y U os k).st++[k]).filter _;rw[wb,g,qI<|by rw[T];decide];exact(eR _).symm
  .have T:fT (Y.getD k<|.num 0)=TL:=pQ.mpr T;rw[T,kZ] at N;by_cases V:k∈aE Y os
   .rw[bC V,s1r] at N;rw[bC V] at m;rw[U0 V] at e;obtain⟨u,A⟩:=J V
    have v:kD Y U os k (Y.getD k<|.num 0) (cL Y U os (YB Y U os k).Ts k) ((bD Y os).getD k [])=((t8 Y os k (Y.getD k<|.num 0) (ZU (Y.getD k<|.num 0) (YO Y U os k).2) || ke2 Y U os k (ZU (Y.getD k<|.num 0) (YO Y U os k).2)) && !iK (Y.getD k<|.num 0)):=by
     rw[e];have r:=λ t=>Ca (Ts:=(YB Y U os k).Ts) (Ss:=U) (S:=YE U k) (t:=t) (E V) A.2.2;have C:=λ t (d:Stp)=>Py (ds:=Y) (Ss:=U) (os:=os) (k:=k) (t:=t) (d:=d) BT;have L:=rF (Ts:=(YB Y U os k).Ts) (Ss:=U) (S:=YE U k) (d:=Y.getD k<|.num 0);generalize Y.getD k (.num 0)=d at T r L ⊢
     cases o:rC d with
     |true=>
      cases d with
      |inp G=>cases T
      |lay a G=>show TL=(_&&TL);rw[lE]
      |run w a s=>rfl
      |join a b s=>exact rfl
      |_=>cases o
     |false=>
      refine HT λ p z=>?_;obtain⟨n,_,_,i⟩:=BL o;obtain⟨t,F⟩:=L n;refine z ?_;clear z p;rw[F,r t F,i,C t d (Cb o).1,(Cb o).2];exact(Xz _).symm
    rw[v] at N;rw[m,s1r,<- N] at st;rw[l,st];by_cases c:e6 Y U os (YB Y U os k).Ts k=TK
    .rw[U0 c,U0 c];refine(?_,W _ _ _ _ rfl rfl λ _=>rfl);show(YO Y U os k).1++[k]=((YB Y U os k).st++[k]).filter _;rw[wb,g,qH<|by rw[T];rfl];rfl
    .rw[T9 c,T9 c];refine(g,W _ _ _ _ rfl rfl λ _=>?_);have c:e6 Y U os (YB Y U os k).Ts k=TL:=pQ.mpr c
     have n:¬mE (Y.getD k<|.num 0):=by
      rw[N,<- v] at c;generalize Y.getD k (.num 0)=d at c T
      cases d with
      |inp G=>cases T
      |run w a s|join a b s=>cases c
      |_=>exact λ h=>h
     obtain⟨t,F⟩:=rF (Ts:=(YB Y U os k).Ts) (Ss:=U) (S:=YE U k) n;rw[e,F];exact Ca (E V) A.2.2 F
   .rw[bA V,pi] at N;rw[bA V] at m;rw[l,st,m,T9 (c:=e6 Y U os (YB Y U os k).Ts k=TK) (by rw[N];decide),T9 Cr];exact(g,W _ _ _ _ rfl rfl λ h=>U1 h V)
def Pz{A:Yr}(h:A.length<=6):Zb A 9:=.inr BT
def S4(V:List Stp)(T:LL)(S:List TV)(os:Yr)(r:TV):Prop:=(S=V.map Yv/\0<os.length/\os.length<=8/\(∀o∈os,0<=o/\o<(V.length:Int))/\r=.non)\/(S=V.map Yv/\(os=[]\/0<os.length/\os.length<=8/\∃o∈os,(V.length:Int)<=o)/\r=.tup [.int (V.length:Nat),.str "out"])\/∃d w,S=V.map Yv++[Yv d]/\V.length<40/\((∃v,d=.each v V.length/\w="name")\/∃a A,d=.flip a 9/\T[a]?=TJ A/\w="side")/\r=.tup [.int (V.length:Nat),.str w]
def Bd(V:List Stp)(S:LL)(T:List TV)(os:Yr)(k:Int)(w:Str):Prop:=∃mo,cQ mo/\eI mo V S/\V.length<=40/\S4 V S T os (.tup [.int k,.str w])
def S5(w:Str):LF<|.tup [.non,.str w]:=by
 simp only[LF];intro x V;simp only[aD,cX,cO] at V
 rcases V with rfl|rfl<;>simp[LF]
def b1F{A B:Prop}(k:B):b1 (.bl<|TL || TL) λ k=>if k=TK then A else B:=k
def PB{os:Yr}(h:0<os.length):ai (os.map U2) TM (TJ<|-1)=(os.take<|os.length-1).map U2:=by
 rw[qT]
 have e:_H.sIx os.length os.length (TJ<|-1)=os.length-1:=by
  show(if (-1:Int)<0 then ((-1:Int)+(os.length:Int)).toNat else min (-1:Int).toNat os.length)=_;rw[U0 Cl];lia
 rw[e];rfl
def Ce:YT:=λ T E=>∃(S:Yr) (V:Int),T=[tI S,.int V]/\Zb S V/\E (.c 1)
def Cf:YT:=λ T E=>∃(S:Yr) (V:Int),T=[tI S,.int V]/\Zb S V/\E (.c 1)
def Cg:YT:=λ V E=>∃(a:Nat) (A:Yr),V=[Yv<|.flip a 9,tI A]/\A.length<=6/\E (.c 1)
def Ch:YT:=λ S E=>∃(a:Nat) (A:Yr) (V:LL),S=[Yv<|.flip a 9,.lst<|V.map tI]/\V[a]?=TJ A/\A.length<=6/\E (.c 1)
def Ci:YT:=λ W E=>∃(T:List Stp) (S:LL) (V:List TV) (os:Yr) (k:Int) (w:Str),W=[.tup [.tup V,tI os]]/\Bd T S V os k w/\E (.b k w)
def Cj:YT:=λ W E=>∃(T:List Stp) (S:LL) (V:List TV) (os:Yr) (k:Int) (w:Str),W=[.tup [.tup V,tI os]]/\Bd T S V os k w/\E (.b k w)
def zd:DR:=dr "wrapped" ["n"] λ _ _=>False
abbrev zO:Yt:=λ _ _=>False
def O3:Yt:=λ V Q=>∃n,V=[.int n]/\Q (.int<|kr n)
def zc0:Ct:=(.ret<|.ad (.md (.sb V0<|.g 0)<|.bin .Pow N2<|.n 64)<|.g 0)
def S7:Yt:=λ V Q=>∃n:Int,V=[.int n]/\Q (.int<|if n<0 then -1 else if 0<n then 1 else 0)
def zc1:Ct:=(.r (.lt V0 N0) (.neg N1)<|.ret<|.ite (.gt V0 N0) N1 N0)
def S8:Yt:=λ V Q=>∃x y:Int,V=[.int x,.int y]/\inB x/\inB y/\Q (.int<|vy x y)
def zc2:Ct:=(.r (.eq V1 N0) N0<|.ret<|.c1 0<|.dv V0 V1)
def S9:Yt:=λ V Q=>∃x y:Int,V=[.int x,.int y]/\Q (.int<|vz x y)
def zc3:Ct:=(.ret<|.ite (.eq V1 N0) V0<|.md V0 V1)
def T3:Yt:=λ V Q=>∃(w:Str) (x:Int),V=[.str w,.int x]/\w∈oq/\Q (.int<|AO w x)
def zc4:Ct:=(.r (.es V0 "neg") (.c1 0<|.neg V1)<|.r (.es V0 "abs") (.c1 0<|.b1 .abs V1)<|.r (.es V0 "sign") (.c1 1 V1)<|.r (.es V0 "not") (.ite (.eq V1 N0) N1 N0) .never)
def T4:Yt:=λ V Q=>∃(w:Str) (x y:Int),V=[.str w,.int x,.int y]/\inB x/\inB y/\w∈ou/\Q (.int<|AM w x y)
def zc5:Ct:=(.r (.es V0 "add") (.c1 0<|.ad V1 V2)<|.r (.es V0 "sub") (.c1 0<|.sb V1 V2)<|.r (.es V0 "mul") (.c1 0<|.ml V1 V2)<|.r (.es V0 "quo") (.c2 2 V1 V2)<|.r (.es V0 "rest") (.c2 3 V1 V2)<|.r (.es V0 "max") (.b2 .max V1 V2)<|.r (.es V0 "min") (.b2 .min V1 V2)<|.r (.es V0 "less") (.ite (.lt V1 V2) N1 N0)<|.r (.es V0 "like") (.ite (.eq V1 V2) N1 N0)<|.r (.es V0 "and") (.bin .BitAnd V1 V2)<|.r (.es V0 "or") (.bin .BitOr V1 V2)<|.r (.es V0 "xor") (.bin .BitXor V1 V2) .never)
def T5:Yt:=λ V Q=>∃(w:Str),V=[.str w]/\B0 w/\Q (.int<|dR w)
def zc6:Ct:=(.r (.cmp .In V0<|.t3 (.w "add") (.w "or")<|.w "xor") N0<|.r (.es V0 "mul") N1<|.r (.es V0 "max") (.g 0)<|.r (.es V0 "min") (.g 1)<|.r (.es V0 "and") (.neg N1) .never)
def T6:Yt:=λ V Q=>∃i:Nat,i<15/\V=[.str<|bw i]/\Q (.lst<|(AQ i).map .int)
def zc7:Ct:=(.ret<|.compI ["kind","place"] [] [] [0,1] .seq (.a1<|.dk 6 V0) (.es V0 "step") V1)
def T7:Yt:=λ V Q=>∃d:Stp,V=[Yv d]/\Q (tI<|(ao d).map λ a:Nat=>(a:Int))
def zc8:Ct:=(.ret<|.b1 .tuple<|.comp ["place"] ["step"] [0] [0] .seq (.a1<|.c1 7<|.x 0 0)<|.ix V1 V0)
def T8:Yt:=λ T Q=>∃(t:TV) (V:List Stp) (S:Yr),T=[t,tI S]/\t=.tup (V.map Yv)/\V.length<=40/\(∀e∈S,0<=e/\e<(V.length:Int))/\(∀d∈V,∀a∈ao d,a<V.length)/\Q (.lst<|(aE V S).map λ k=>.int (k:Nat))
def zc9:Ct:=(.set 2 (.comp ["step"] [] [] [0] .seq (.a1 V0)<|.c<|.bl TL)<|.for [3] .seq (.a1 V1) (.put 2 V3 (.c<|.bl TK) .nil)<|.for [4] .rng3 (.a3 (.sb (.ln V0) N1) (.neg N1)<|.neg N1) (.i (.ix V2 V4) (.for [5] .seq (.a1<|.c1 8<|.ix V0 V4) (.put 2 V5 (.c<|.bl TK) .nil) .nil) .nil)<|.ret<|.compI ["k"] ["reached"] [2] [0] .rng (.a1<|.ln V0) (.ix V1 V0) V0)
def Ck:Yt:=λ S Q=>∃(t:TV),S=[t]/\∃V,(t=tI V\/t=lI V)/\cF V/\Q (.int<|ah V)
def PD:Ct:=(.set 1 N1<|.for [2] .seq (.a1 V0) (.set 1 (.ml V1 V2) .nil)<|.ret V1)
def Cm:Yt:=λ S Q=>∃V,S=[tI V]/\cF V/\V.length<=63/\Q (.int<|ah<|V.map ak)
def PF:Ct:=(.ret<|.c1 10<|.comp ["side"] [] [] [0] .seq (.a1 V0)<|.ite (.ne V0 N0) V0 N1)
def Cn:Yt:=λ S Q=>∃V,S=[tI V]/\cF V/\V.length<=63/\¬dg V/\Q (tI V)
def PH:Ct:=(.nv (.gt (.ln V0)<|.g 2)<|.nv (.gt (.c1 11 V0)<|.g 3)<|.ret V0)
def Co:Yt:=λ S Q=>∃V,S=[tI V]/\cF V/\V.length<=63/\Q (tI (j6 V V.length).reverse)
def PJ:Ct:=(.set 1 .l0<|.set 2 N1<|.for [3] (.rev TK) (.a1 V0) (.met .append 1 (.a1 V2)<|.set 2 (.ml V2 V3) .nil)<|.ret<|.trev TL V1)
def Cp:Yt:=λ S Q=>∃(V:Yr) (k:Nat) (m:Int),S=[tI V,.int k,.int m]/\V.length<=63/\k<V.length/\Q (tI<|V.set k m)
def PL:Ct:=(.ret<|.ad (.ad (.st V0 V1)<|.t1 V2)<|.sf V0<|.ad V1 N1)
def Cu:Yt:=λ S Q=>∃(V:Yr) (k:Nat) (m:Int),S=[tI V,.int k,.int m]/\V.length<=63/\Q (tI<|bX V k m)
def PP:Ct:=(.ret<|.ad (.ad (.st V0 V1)<|.t1 V2)<|.sf V0 V1)
def Cv:Yt:=λ S Q=>∃(V:Yr) (k:Nat),S=[tI V,.int k]/\V.length<=63/\k<V.length/\Q (tI<|V.eraseIdx k)
def PQ:Ct:=(.ret<|.ad (.st V0 V1)<|.sf V0<|.ad V1 N1)
def Cy:Yt:=λ T Q=>∃(S:Yr) (V:Int),T=[tI S,.int V]/\¬Zb S V/\Q .non
def PR:Ct:=(.nv (.or (.lt V1 N0)<|.ge V1<|.ln V0) .nil)
def Cz:Yt:=λ S Q=>∃(V os:Yr),S=[tI V,tI os]/\V.length<=20/\os.length<=20/\kt V.length os/\Q (tI<|cq V os)
def PU:Ct:=(.nv (.ne (.b1 .sorted V1)<|.lrng TL<|.ln V0)<|.ret<|.b1 .tuple<|.comp ["side"] ["sides"] [0] [0] .seq (.a1 V1)<|.ix V1 V0)
def CC:Yt:=λ T Q=>∃(S:Yr) (V:Int),T=[tI S,.int V]/\¬Zb S V/\Q (tI S)
def PV:Ct:=(.ex (.c2 17 V0 V1)<|.ret V0)
def CD:Yt:=λ N Q=>∃(W:Yr) (S T V step:Int),N=[tI W,.int S,.int T,.int V,.int step]/\W.length<=63/\-100<V/\V<1000000/\¬Zb W S/\¬w9 W S T V step/\Q (tI<|W.set S.toNat V)
def PX:Ct:=(.ex (.c2 17 V0 V1)<|.nv (.or (.lt V2 N0)<|.or (.lt V3 N0)<|.lt V4 N1)<|.nv (.and (.gt V3 N0)<|.ge (.ad V2<|.ml (.sb V3 N1) V4)<|.ix V0 V1)<|.ret<|.c3 14 V0 V1 V3)
def CF:Yt:=λ W Q=>∃(T:Yr) (S V:Int),W=[tI T,.int S,.int V]/\cF T/\T.length<=20/\V<1000000/\¬mi T S/\¬V<0/\¬dg (bX T S.toNat V)/\Q (tI<|bX T S.toNat V)
def PY:Ct:=(.nv (.or (.lt V1 N0)<|.gt V1<|.ln V0)<|.nv (.lt V2 N0)<|.ret<|.c1 12<|.c3 15 V0 V1 V2)
def CG:Yt:=λ T Q=>∃(S V:Yr),T=[tI S,tI V]/\cF S/\cF V/\V.length<=20/\¬dg V/\ah S=ah V/\Q (tI V)
def PZ:Ct:=(.ex (.c1 12 V1)<|.nv (.ne (.c1 10 V0)<|.c1 10 V1)<|.ret V1)
def CH:Yt:=λ W Q=>∃(S T:Yr) (V:Int),W=[tI S,tI T,.int V]/\sm S/\sm T/\S.length<=20/\S.length=T.length/\¬Zb S V/\S.eraseIdx V.toNat=T.eraseIdx V.toNat/\¬dg (iB S T V)/\Q (tI<|iB S T V)
def Qa:Ct:=(.nv (.ne (.ln V0)<|.ln V1)<|.ex (.c2 17 V0 V2)<|.nv (.ne (.c2 16 V0 V2)<|.c2 16 V1 V2)<|.ret<|.c1 12<|.c3 14 V0 V2<|.ad (.ix V0 V2)<|.ix V1 V2)
def CI:Yt:=λ T Q=>∃(S V:Yr),T=[tI S,tI V]/\V.take S.length=S/\Q (tI V)
def Qb:Ct:=(.nv (.ne (.st V1<|.ln V0) V0)<|.ret V1)
def CJ:Yt:=λ T Q=>∃(S V:Yr),T=[tI S,tI V]/\cG S V/\Q (tI<|bW S V)
def Qc:Ct:=(.r (.gt (.ln V0)<|.ln V1) (.c2 24 V1 V0)<|.ret<|.c2 24 V0 V1)
def CK:Yt:=λ W Q=>∃(S V T:Yr),W=[tI S,tI V,tI T]/\cG S V/\cG (bW S V) T/\Q (tI<|bW (bW S V) T)
def Qd:Ct:=(.ret<|.c2 25 (.c2 25 V0 V1) V2)
def CO:Yt:=λ S Q=>∃(n:Int) (r V:Yr),S=[tI<|n::r,tI V]/\cF (n::r)/\cF V/\r.length<20/\V.length<=20/\n≠0/\¬dg (V++r)/\Q (tI<|V++r)
def Qe:Ct:=(.nv (.eq (.ln V0) N0)<|.nv (.eq (.x 0 0) N0)<|.ret<|.c1 12<|.ad V1<|.sf V0 N1)
def CP:Yt:=λ T Q=>∃(S:Yr) (V:Int),T=[tI S,.int V]/\S.length<=63/\¬Zb S V/\Q (tI<|S.eraseIdx V.toNat)
def Qf:Ct:=(.ex (.c2 17 V0 V1)<|.ret<|.c2 16 V0 V1)
def CQ:Yt:=λ T Q=>∃(S:Yr) (V:Int),T=[tI S,.int V]/\cF S/\S.length<=20/\¬dg S/\¬Zb S V/\Q (tI S)
def Qg:Ct:=(.ex (.c1 12 V0)<|.ex (.c2 17 V0 V1)<|.ret V0)
def CS:Yt:=λ V Q=>∃d:Stp,V=[Yv d]/\Bh d/\Q .non
def Qh:Ct:=(.i (.es (.x 0 0) "each") (.ex (.c2 4 (.x 0 1) N0) .nil)<|.i (.es (.x 0 0) "pair") (.ex (.c3 5 (.x 0 1) N0 N0) .nil)<|.i (.cmp .In (.x 0 0)<|.t2 (.w "fold")<|.w "run") (.ex (.c1 6<|.x 0 1) .nil) .nil)
def CT:Yt:=λ T Q=>∃(d:Stp) (S:Yr) (V:LL),T=[Yv d]/\YD d<3/\Zp V S d/\fit S/\Q (tI S)
def Qi:Ct:=(.r (.es (.x 0 0) "in") (.c1 12<|.x 0 1)<|.r (.es (.x 0 0) "count") (.c2 29 (.x 0 1)<|.x 0 2)<|.ret .t0)
def CU:Yt:=λ T Q=>∃(d:Stp) (S A:Yr) (V:LL) (a:Nat),T=[Yv d,tI A]/\ao d=[a]/\V[a]?=TJ A/\fit A/\Zp V S d/\fit S/\Q (tI S)
def Qj:Ct:=(.set 2 (.x 0 0)<|.r (.es V2 "turn") (.c2 18 V1<|.x 0 2)<|.r (.es V2 "flip") (.c2 19 V1<|.x 0 2)<|.r (.es V2 "cut") (.call 20<|.cons V1<|.cons (.x 0 2)<|.cons (.x 0 3)<|.cons (.x 0 4)<|.cons (.x 0 5) .nil)<|.r (.es V2 "spread") (.c3 21 V1 (.x 0 2)<|.x 0 3)<|.r (.es V2 "lay") (.c2 22 V1<|.x 0 2)<|.r (.es V2 "fold") (.c2 28 V1<|.x 0 3)<|.r (.es V2 "run") (.c2 19 V1<|.x 0 3)<|.ret V1)
def CV:Yt:=λ W Q=>∃(t:TV) (d:Stp) (S:Yr) (V:LL),W=[Yv d,t]/\t=.lst (V.map tI)/\(∀T∈V,fit T)/\Zp V S d/\fit S/\Q (tI S)
def Qk:Ct:=(.ex (.c1 30 V0)<|.set 2 (.comp ["number"] ["sides"] [1] [0] .seq (.a1<|.c1 8 V0)<|.ix V1 V0)<|.set 3 (.x 0 0)<|.r (.eq (.ln V2) N0) (.c1 31 V0)<|.r (.eq (.ln V2) N1) (.c2 32 V0<|.x 2 0)<|.r (.es V3 "pair") (.c2 25 (.x 2 0)<|.x 2 1)<|.r (.es V3 "join") (.c3 23 (.x 2 0) (.x 2 1)<|.x 0 3)<|.r (.es V3 "fetch") (.c2 27 (.x 2 0)<|.x 2 1)<|.ret<|.c3 26 (.x 2 0) (.x 2 1)<|.x 2 2)
def CW:Yt:=λ W Q=>∃(d:Stp) (V:LL),W=[Yv d,.lst<|V.map tI]/\V.length<40/\((∃S,(∀T∈V,fit T)/\Zp V S d/\fit S/\Q (.tup [tI S,.non]))\/(∃w,d=.each w V.length/\Q (.tup [.non,.str "name"]))\/(∃a A,d=.flip a 9/\V[a]?=TJ A/\A.length<=6/\Q (.tup [.non,.str "side"])))
def Ql:Ct:=(.set 2 (.ln V1)<|.r (.ge V2<|.g 4) (.t2 (.c .non)<|.w "many")<|.r (.b1 .any<|.comp ["number"] ["k"] [2] [0] .seq (.a1<|.c1 8 V0)<|.or (.lt V0 N0)<|.ge V0 V1) (.t2 (.c .non)<|.w "name") .nil)
def Qm:Ct:=(.ret<|.t2 (.c2 33 V0 V1)<|.c .non)
def Qn:Cq:=(.ret<|.fst<|.call 33<|.a2 (.v 0)<|.v 1)
noncomputable def Qo:List<|Nat×Cs:=[(0,.ret .non<|.str "word"),(1,.ret .non<|.str "side"),(2,.ret .non<|.str "beyond"),(3,.ret .non<|.str "unlike"),(4,.ret .non<|.str "large")]
noncomputable def Qp:Ct:=.nil
def CY:Yt:=λ W Q=>∃(S:List Stp) (V:LL) (mo:Int) (T:List TV) (os:Yr) (r:TV),W=[.tup [.tup T,tI os]]/\cQ mo/\eI mo S V/\S.length<=40/\S4 S V T os r/\Q (.tup [.tup<|V.map tI,r])
def Qq:Ct:=(.set 1 (.x 0 0)<|.set 2 (.x 0 1)<|.set 3 .l0<|.for [4] .seq (.a1 V1) (.set 5 (.c2 34 V4 V3)<|.r (.cmp .IsNot (.x 5 1)<|.c .non) (.t2 (.b1 .tuple V3)<|.t2 (.ln V3)<|.x 5 1)<|.met .append 3 (.a1<|.x 5 0) .nil)<|.r (.or (.not<|.cm2 .LtE .LtE N1 (.ln V2)<|.g 5)<|.b1 .any<|.comp ["out"] ["steps"] [1] [0] .seq (.a1 V2)<|.or (.lt V0 N0)<|.ge V0<|.ln V1) (.t2 (.b1 .tuple V3)<|.t2 (.ln V1)<|.w "out")<|.ret<|.t2 (.b1 .tuple V3)<|.c .non)
def CZ:Yt:=λ T Q=>∃(S:List Stp) (V:LL) (os:Yr) (mo:Int),T=[.tup [.tup<|S.map Yv,tI os]]/\gP mo S V os/\Q (.tup<|V.map tI)
def Qr:Ct:=(.set 1 (.c1 35 V0)<|.set 2 (.x 1 1)<|.nv (.cmp .IsNot V2<|.c .non)<|.ret<|.x 1 0)
def Da:Yt:=λ T Q=>∃(V S os:Yr) (b:Int),T=[Zj V b S,tI os]/\V.length<=6/\V.length<=S.length/\S.length<=60/\kt V.length os/\Q (Zj (cq V os) b<|cq S os++S.drop V.length)
def Qs:Ct:=(.set 2 (.c2 18 (.x 0 0) V1)<|.set 3 (.x 0 2)<|.set 4 (.b1 .tuple<|.comp ["side"] ["strides"] [3] [0] .seq (.a1 V1)<|.ix V1 V0)<|.ret<|.t3 V2 (.x 0 1)<|.ad V4<|.sf V3<|.ln V2)
def Db:Yt:=λ T Q=>∃(V S:Yr) (b:Int) (k:Nat),T=[Zj V b S,.int k]/\V.length<=6/\V.length<=S.length/\S.length<=60/\k<V.length/\(∀n∈V,0<=n/\n<=512)/\Q (Zj V (b+(V.getD k 0-1)*S.getD k 0)<|S.set k<|-S.getD k 0)
def Qt:Ct:=(.set 2 (.c2 19 (.x 0 0) V1)<|.set 3 (.ix (.x 0 2) V1)<|.set 4 (.ad (.x 0 1)<|.ml (.sb (.ix V2 V1) N1) V3)<|.fz 4<|.ret<|.t3 V2 V4<|.c3 14 (.x 0 2) V1<|.neg V3)
def Dc:Yt:=λ T Q=>∃(V S:Yr) (b f m g:Int) (k:Nat),T=[Zj V b S,.int k,.int f,.int m,.int g]/\V.length<=6/\V.length<=S.length/\S.length<=60/\k<V.length/\(m<=512/\f<=512/\g<=512)/\¬w9 V k f m g/\Q (Zj (V.set k m) (b+f*S.getD k 0)<|S.set k<|S.getD k 0*g)
def Qu:Ct:=(.set 5 (.call 20<|.cons (.x 0 0)<|.cons V1<|.cons V2<|.cons V3<|.cons V4 .nil)<|.set 6 (.ix (.x 0 2) V1)<|.ret<|.t3 V5 (.ad (.x 0 1)<|.ml V2 V6)<|.c3 14 (.x 0 2) V1<|.ml V6 V4)
def Dd:Yt:=λ T Q=>∃(V S:Yr) (b m:Int) (k:Nat),T=[Zj V b S,.int k,.int m]/\cF V/\V.length<=6/\V.length<=S.length/\S.length<=60/\k<=V.length/\0<=m/\m<1000000/\¬dg (bX V k m)/\Q (Zj (bX V k m) b<|bX S k 0)
def Qv:Ct:=(.set 3 (.c3 21 (.x 0 0) V1 V2)<|.ret<|.t3 V3 (.x 0 1)<|.c3 15 (.x 0 2) V1 N0)
def De:Yt:=λ W Q=>∃(V S T:Yr) (b:Int),W=[Zj V b T,tI S]/\S.take V.length=V/\V.length<=6/\S.length<=6/\T.length<=60/\Q (Zj S b (iE V.length (S.length-V.length) b T).2)
def Qw:Ct:=(.ex (.c2 24 (.x 0 0) V1)<|.set 2 (.ln<|.x 0 0)<|.set 3 (.x 0 2)<|.set 4 (.ml (.t1 N0)<|.sb (.ln V1) V2)<|.ret<|.t3 V1 (.x 0 1)<|.ad (.ad (.st V3 V2) V4)<|.sf V3 V2)
def Df:Yt:=λ T Q=>∃(V S:Yr) (b:Int) (k:Nat),T=[Zj V b S,.int k]/\V.length<=6/\V.length<=S.length/\S.length<=60/\k<V.length/\Q (Zj (V.eraseIdx k) b (jC V.length k b S).2)
def Qx:Ct:=(.set 2 (.c2 28 (.x 0 0) V1)<|.set 3 (.x 0 2)<|.ret<|.t3 V2 (.x 0 1)<|.c3 15 (.c2 16 V3 V1) (.ln V2)<|.ix V3 V1)
def Dg:Yt:=λ W Q=>∃(d:Stp) (A S V:Yr) (b:Int) (T:LL),W=[Yv d,Zj A b V]/\B1 d/\T[(ao d).headD 0]?=TJ A/\fit A/\Zp T S d/\A.length<=V.length/\V.length<=60/\Q (Zj S (eJ A d b V).1 (eJ A d b V).2)
def Qy:Ct:=(.r (.es (.x 0 0) "turn") (.c2 37 V1<|.x 0 2)<|.r (.es (.x 0 0) "flip") (.c2 38 V1<|.x 0 2)<|.r (.es (.x 0 0) "cut") (.call 39<|.cons V1<|.cons (.x 0 2)<|.cons (.x 0 3)<|.cons (.x 0 4)<|.cons (.x 0 5) .nil)<|.ret<|.c3 40 V1 (.x 0 2)<|.x 0 3)
def Dh:Yt:=λ V Q=>∃t:Tr,V=[YH t]/\Q (.bl<|match t with|.num _=>TK|.idx _ _=>TK|.read _ _ _=>TK|_=>TL)
def Qz:Ct:=(.ret<|.cmp .In (.x 0 0)<|.t3 (.w "num") (.w "index")<|.w "read")
def Di:Yt:=λ V Q=>∃t:Tr,V=[YH t]/\Q (.tup<|(t5 t).map YH)
def QA:Ct:=(.set 1 (.x 0 0)<|.r (.es V1 "pick") (.sf V0 N1)<|.r (.cmp .In V1<|.t2 (.w "each")<|.w "pair") (.sf V0 N2)<|.r (.es V1 "fold") (.sf V0 N3)<|.r (.es V1 "fetch") (.sf V0 N6)<|.ret .t0)
def Dj:Yt->Yt:=λ S V Q=>∃(t:Tr) (g:Gf),V=[YH t]/\R7 S g (O1 t)/\Q (.tup<|G6<|rm g t)
def QB:Ct:=(.set 2 (.x 0 0)<|.r (.es V2 "index") (.ad (.t1<|.w "index")<|.ap 1 46<|.a2 (.x 0 1)<|.x 0 2)<|.r (.es V2 "read") (.ad (.t2 (.w "read")<|.x 0 1)<|.ap 1 46<|.a2 (.x 0 2)<|.x 0 3)<|.i (.es V2 "fetch") (.set 3 (.ap 1 46<|.a2 (.x 0 2)<|.x 0 5)<|.ret<|.tup<|.cons (.w "fetch")<|.cons (.x 0 1)<|.cons (.x 3 0)<|.cons (.x 0 3)<|.cons (.x 0 4)<|.cons (.x 3 1) .nil)<|.ret<|.st V0<|.sb (.ln V0)<|.ln<|.c1 45 V0)
def Dk:Nat->Yt->Yt:=λ d=>match d with|0=>λ _ _ _=>False|d+1=>λ S V Q=>∃(t:Tr) (g:Gf),V=[YH t]/\YK t<=d/\R7 S g (YV t)/\Q (YH<|rm g t)
def QC:Ct:=(.set 2 .l0<|.for [3] .seq (.a1<|.c1 45 V0) (.met .append 2 (.a1<|.cf 1 47 "remade" V3) .nil)<|.ret<|.ad (.cf 1 47 "root_remade" V0)<|.b1 .tuple V2)
def Dl:Yt:=λ T Q=>∃(V:List Stp) (S:LL) (os:Yr) (mo:Int),T=[.tup [.tup<|V.map Yv,tI os]]/\gP mo V S os/\Q (.lst<|(aE V os).map λ k=>.int (k:Nat))
def QD:Ct:=(.ret<|.c2 9 (.x 0 0)<|.x 0 1)
def Dm:Yt:=λ T Q=>∃(V:List Stp) (S:LL) (os:Yr) (mo:Int),T=[.tup [.tup<|V.map Yv,tI os]]/\gP mo V S os/\Q (.lst<|(bD V os).map λ l=>.lst<|l.map kT)
def QE:Ct:=(.set 1 (.x 0 0)<|.nl 2 ["step"] .seq (.a1 V1)<|.for [3] .seq (.a1<|.c1 90 V0) (.for [4,5] (.enum TK) (.a1<|.c1 8<|.ix V1 V3) (.pu 2 5 (.t2 V3 V4) .nil) .nil)<|.fu 2<|.ret V2)
def rK:Yt->Yt:=λ T V Q=>∃(t:Tr) (S:Yr) (h:Gf),V=[YH t,tI S]/\YK t<=41/\isM T S h (YV t)/\Q (YH<|rm h t)
def QF:Cd:=(.a1 V0)
def QG:Cd:=(.sf (.ap 3 45<|.a1<|.t3 V2 V0 V1) N1)
def Dn:Yt:=λ V Q=>∃(t:Tr) (S L:Yr),V=[YH t,tI S,tI L]/\YK t<=41/\re S.length t/\L.take S.length=S/\S.length<=6/\L.length<=6/\Q (YH<|rm (iE S.length<|L.length-S.length) t)
noncomputable def QH:Ct:=.nil
def QI:Cd:=(.a2 V0 V1)
def QJ:Cd:=(.c2 41 V0 V1)
def Do:Yt:=λ V Q=>∃(t:Tr) (S:Yr) (k:Nat),V=[YH t,tI S,.int k]/\YK t<=41/\re S.length t/\S.length<=6/\k<S.length/\Q (YH<|rm (jC S.length k) t)
noncomputable def QK:Ct:=.nil
def QL:Cd:=(.a2 V0 V1)
def QM:Cd:=(.c2 42 V0 V1)
def Dp:Yt:=λ V Q=>∃(st:Int) (S:Yr),V=[.int st,tI S]/\cF S/\S.length<=63/\Q (YH<|.read st 0<|gk S)
def QN:Ct:=(.ret<|.tup<|.cons (.w "read")<|.cons V0<|.cons N0<|.cons (.c1 13 V1) .nil)
def Dq:Yt:=λ N Q=>∃(a b:Nat) (n:Int) (r B S V:Yr) (st s:Int) (t:Tr) (T:LL) (W:List (Option Tr)),N=[Yv<|.fetch a b,tI S,.tup<|T.map tI,.lst<|W.map Zn]/\T[a]?=TJ (n::r)/\T[b]?=TJ B/\W[a]?=TJ (TJ<|.read st s V)/\W[b]?=TJ (TJ t)/\0<V.length/\V.length<=60/\B.length<=6/\S.length<=6/\S.take B.length=B/\YK t<=41/\re B.length t/\Q (YH<|oJ (.read st s V) (n::r) B<|rm (iE B.length<|S.length-B.length) t)
def QO:Ct:=(.set 4 (.ix V3<|.x 0 1)<|.set 5 (.ix V2<|.x 0 2)<|.set 6 (.ad (.ml (.t1 N0)<|.ln V5)<|.sf (.x 4 3) N1)<|.set 7 (.c3 93 (.ix V3<|.x 0 2) V5 V1)<|.fz 6<|.ret<|.tup<|.cons (.w "fetch")<|.cons (.x 4 1)<|.cons (.x 4 2)<|.cons (.ix (.x 4 3) N0)<|.cons (.ix (.ix V2<|.x 0 1) N0)<|.cons V6<|.cons V7 .nil)
def Dr:Yt:=λ N Q=>∃(d:Stp) (S:Yr) (V:LL) (W:List (Option Tr)),N=[Yv d,tI S,.tup<|V.map tI,.lst<|W.map Zn]/\Zp V S d/\(∀T∈V,fit T)/\fit S/\BE W V d/\Q (Zn<|gq W V S d)
def QP:Ct:=(.set 4 (.x 0 0)<|.set 5 (.c1 8 V0)<|.r (.es V4 "num") V0<|.r (.es V4 "count") (.t3 (.w "index") N0<|.b1 .tuple<|.comp ["side"] ["step"] [0] [0] .rng (.a1<|.ln V1)<|.ite (.eq V0<|.x 1 2) N1 N0)<|.i (.cmp .In V4<|.t3 (.w "each") (.w "pair")<|.w "pick") (.set 6 (.st V0<|.sb (.ln V0)<|.ln V5)<|.ret<|.ad V6<|.b1 .tuple<|.comp ["number"] ["own","trees","sides"] [1,3,2] [0] .seq (.a1 V5)<|.c3 93 (.ix V2 V0) (.ix V3 V0) V1) .nil)
def QR:Cd:=(.a2 (.ix V3<|.x 5 0)<|.ix V2<|.x 5 0)
def Ds:Cd:=(.c2 43 V1 V0)
def QS:Cd:=(.cmp .In V4<|.tup<|.cons (.w "turn")<|.cons (.w "flip")<|.cons (.w "cut")<|.cons (.w "spread") .nil)
def QT:Ct:=(.r (.es V4 "lay") (.c2 95 (.ix (.ix V3<|.x 5 0) N1) V1)<|.r (.es V4 "fetch") (.call 96<|.cons V0<|.cons V1<|.cons V2<|.cons V3 .nil)<|.i (.es V4 "fold") (.set 7 (.ix V2<|.x 5 0)<|.ret<|.tup<|.cons (.w "fold")<|.cons (.x 0 1)<|.cons (.ix V7<|.x 0 3)<|.cons (.c3 94 (.ix V3<|.x 5 0) V7<|.x 0 3) .nil)<|.ret<|.c .non)
def Dt:Yt:=λ W Q=>∃(T:List Stp) (V:LL) (k u:Nat) (p:Int) (d:Stp) (S A:Yr),W=[.int k,kT [(u:Int),p],.tup<|T.map Yv,.tup<|V.map tI]/\T[u]?=TJ d/\V[u]?=TJ A/\V[k]?=TJ S/\Q (.bl<|gu T V k u p)
def QU:Ct:=(.set 4 (.ix (.ix V2<|.x 1 0) N0)<|.set 5 (.or (.cmp .In V4<|.t2 (.w "pair")<|.w "pick")<|.and (.es V4 "fetch")<|.eq (.x 1 1) N1)<|.ret<|.and V5<|.gt (.ln<|.ix V3<|.x 1 0)<|.ln<|.ix V3 V0)
def Du:Yt:=λ A Q=>∃(V:List Stp) (T:LL) (os:Yr) (k:Nat) (d:Stp) (o:Option Tr) (W:LL) (S:Yr),A=[.int k,Zn o,.tup [.tup<|V.map Yv,tI os],.tup<|T.map tI,.lst<|W.map kT]/\V[k]?=TJ d/\T[k]?=TJ S/\V.length=T.length/\(∀x∈W,∃u p:Nat,x=[(u:Int),(p:Int)]/\u<V.length)/\W.length<=900/\(¬mE d->∃t,o=TJ t)/\(∀N,d≠.inp N)/\Q (.bl<|kD V T os k d o W)
def QV:Ct:=(.set 5 (.x 2 0)<|.r (.es (.ix (.ix V5 V0) N0) "lay") (.c<|.bl TL)<|.r (.or (.cmp .In (.ix (.ix V5 V0) N0)<|.t2 (.w "run")<|.w "join")<|.cmp .In V0<|.x 2 1) (.c<|.bl TK)<|.set 6 (.comp ["use"] ["steps"] [5] [0] .seq (.a1 V4)<|.ix (.ix V1<|.x 0 0) N0)<|.r (.cmp .In (.w "lay") V6) (.c<|.bl TK)<|.r (.and (.ne (.x 1 0)<|.w "read")<|.b1 .any<|.comp ["use"] ["steps"] [5] [0] .seq (.a1 V4)<|.and (.es (.ix (.ix V1<|.x 0 0) N0) "fetch")<|.eq (.x 0 1) N0) (.c<|.bl TK)<|.r (.c1 44 V1) (.c<|.bl TL)<|.ret<|.or (.gt (.ln V4) N1)<|.or (.cmp .In (.w "spread") V6)<|.b1 .any<|.comp ["use"] ["k","steps","sides"] [0,5,3] [0] .seq (.a1 V4)<|.call 98<|.cons V1<|.cons V0<|.cons V2<|.cons V3 .nil)
def Dv:Yt:=λ T Q=>∃(V:List Stp) (S:LL) (os:Yr) (mo:Int),T=[.tup [.tup<|V.map Yv,tI os],.tup<|S.map tI]/\gP mo V S os/\Q (spT<|YB V S os V.length)
def QW:Ct:=(.set 2 (.x 0 0)<|.set 3 (.c1 90 V0)<|.set 4 (.c1 91 V0)<|.set 5 .l0<|.set 6 .l0<|.set 7 .l0<|.for [8,9] (.enum TK) (.a1 V2) (.set 10 (.ite (.cmp .In V8 V3) (.call 97<|.cons V9<|.cons (.ix V1 V8)<|.cons V1<|.cons V5 .nil)<|.c .non)<|.met .append 6 (.a1 ZJ)<|.i (.or (.es (.x 9 0) "in")<|.and (.cmp .In V8 V3)<|.call 99<|.cons V8<|.cons ZJ<|.cons V0<|.cons V1<|.cons (.ix V4 V8) .nil) (.set 10 (.c2 95 (.ln V7)<|.ix V1 V8)<|.met .append 7 (.a1 V8) .nil)<|.met .append 5 (.a1 ZJ) .nil)<|.fz 7<|.fz 6<|.fz 5<|.ret<|.t3 V5 V6 V7)
def Dw:Yt:=λ T Q=>∃(V:List Stp) (S:LL) (os:Yr) (mo:Int),T=[.tup [.tup<|V.map Yv,tI os]]/\gP mo V S os/\Q (.lst<|(BU V<|YB V S os V.length).map λ k=>.int (k:Nat))
def QX:Ct:=(.set 1 (.ix (.c2 100 V0<|.c1 36 V0) N2)<|.ret<|.compI ["k"] ["program"] [0] [0] .seq (.a1 V1) (.ne (.ix (.ix (.x 1 0) V0) N0)<|.w "in") V0)
def Dx:Yt:=λ S Q=>∃(t:TV) (V:Yr),S=[t]/\(t=tI V\/t=lI V)/\cF V/\Q (.int<|ah V)
def QY:Ct:=(.set 1 N1<|.for [2] .seq (.a1 V0) (.set 1 (.ml V1 V2) .nil)<|.ret V1)
def Dy:Yt:=λ S Q=>∃V:Yr,S=[tI V]/\cF V/\V.length<=500/\Q (.int<|ah<|V.map ak)
def QZ:Ct:=(.ret<|.c1 102<|.comp ["length"] [] [] [0] .seq (.a1 V0)<|.b2 .max N1 V0)
def Dz:Yt:=λ V Q=>∃n:Int,V=[.int n]/\Q (.int<|oj n)
def Ra:Ct:=(.r (.eq (.md V0<|.n 17) N5) (.ix (.lst<|.cons (.neg<|.bin .Pow N2<|.n 63)<|.cons (.sb (.bin .Pow N2<|.n 63) N1)<|.cons (.neg N1)<|.cons (.bin .Pow N2<|.n 62) .nil)<|.md (.dv V0<|.n 17) N4)<|.ret<|.sb (.md (.ad V0<|.bin .Pow N2<|.n 63)<|.bin .Pow N2<|.n 64)<|.bin .Pow N2<|.n 63)
def DA:Yt:=λ S Q=>∃(V:Yr) (d:Int),S=[lI V,.int d]/\0<V.length/\V.length<1000000/\∀k∈V,Q (.int k)
def Rb:Ct:=(.r (.eq (.md V1 N3) N0) (.ix V0<|.md (.dv V1 N3)<|.ln V0)<|.ret<|.ix V0<|.sb (.sb (.ln V0) N1)<|.md (.dv V1 N3)<|.b2 .min N3<|.ln V0)
def DB:Yt:=λ N Q=>∃W n V mo:Int,N=[.int W,.int n,.int V,.int mo]/\cQ mo/\∀d S,(∀T,Zp T S d)->aW mo S->Q (o7 d S)
def Rc:Ct:=(.r (.eq V0 N1) (.t2 (.t2 (.w "num")<|.c1 104 V2) .t0)<|.set 4 .t0<|.set 5 (.dv V1<|.n 15)<|.for [6] .rng (.a1<|.md V5 N5) (.set 5 (.dv V5 N5)<|.set 7 (.dv V3<|.c1 103 V4)<|.set 8 (.b2 .min (.ix (.lst<|.cons N2<|.cons N3<|.cons N1<|.cons N4<|.cons N2<|.cons N3<|.cons N0 .nil)<|.md V5 N7) V7)<|.i (.eq (.md V5 F9) C9) (.set 8 V7 .nil)<|.set 4 (.ad V4<|.t1 V8) .nil)<|.i (.eq V0 N0) (.fz 4<|.ret<|.t2 (.t2 (.w "in") V4) V4)<|.i (.eq V4 .t0) (.set 4 (.t1<|.b2 .min N3 V3) .nil)<|.fz 4<|.ret<|.t2 (.t3 (.w "count") V4<|.md (.dv V1<|.n 15)<|.ln V4) V4)
def DC:Yt:=λ T Q=>∃(S V:Yr),T=[tI S,tI V]/\∀b,(b=TK ↔ cG S V)->Q (.bl b)
def Re:Ct:=(.set 2 (.b2 .min (.ln V0)<|.ln V1)<|.ret<|.eq (.st V0 V2)<|.st V1 V2)
def DD:Yt:=λ K Q=>∃(A T W N mo:Int) (V:LL),K=[.int A,lI [T,W,N],.lst<|V.map tI]/\0<V.length/\V.length<=40/\(∀S∈V,aW mo S)/\∀d S,Zp V S d->aW mo S->Q (o7 d S)
def Rf:Ct:=(.set 3 (.lrng TL<|.ln V2)<|.set 4 (.c2 105 V3<|.x 1 0)<|.r (.eq V0 N3) (.t2 (.t3 (.w "each") (.ix (.lst<|.cons (.w "neg")<|.cons (.w "abs")<|.cons (.w "sign")<|.cons (.w "not") .nil)<|.md (.x 1 2) N4) V4)<|.ix V2 V4)<|.set 5 (.compI ["k"] ["sides","a"] [2,4] [0] .seq (.a1 V3) (.c2 107 (.ix V1 V2)<|.ix V1 V0) V0)<|.set 6 (.c2 105 V5<|.x 1 1)<|.set 7 (.mxl (.ix V2 V4)<|.ix V2 V6)<|.i (.eq V0 N4) (.set 8 (.lst<|.cons (.w "add")<|.cons (.w "sub")<|.cons (.w "mul")<|.cons (.w "quo")<|.cons (.w "rest")<|.cons (.w "max")<|.cons (.w "min")<|.cons (.w "less")<|.cons (.w "like")<|.cons (.w "and")<|.cons (.w "or")<|.cons (.w "xor") .nil)<|.ret<|.t2 (.tup<|.cons (.w "pair")<|.cons (.ix V8<|.md (.x 1 2)<|.n 12)<|.cons V4<|.cons V6 .nil) V7)<|.set 5 (.compI ["k"] ["sides","b"] [2,6] [0] .seq (.a1 V5) (.c2 107 (.ix V1 V2)<|.ix V1 V0) V0)<|.set 9 (.c2 105 V5<|.x 1 2)<|.ret<|.t2 (.tup<|.cons (.w "pick")<|.cons V4<|.cons V6<|.cons V9 .nil)<|.mxl V7<|.ix V2 V9)
def DE:Yt:=λ S Q=>∃(V:Yr) (d mo:Int),S=[tI V,.int d]/\aW mo V/\cQ mo/\Q (tI<|ky V d)
def Rg:Ct:=(.set 2 (.c1 102 V0)<|.r (.eq (.md V1 N4) N1) (.t1 V2)<|.r (.and (.eq (.md V1 N4) N2)<|.lt (.ln V0) N6) (.ad (.t1 N1) V0)<|.r (.and (.eq (.md V1 N4) N3)<|.eq (.md V2 N2) N0) (.t2 (.dv V2 N2) N2)<|.ret<|.trev TK V0)
def DF:Yt:=λ F Q=>∃(K T W N mo:Int) (a:Nat) (A:Yr) (V:LL),F=[.int K,lI [T,W,N],.int a,tI A,.int mo]/\V[a]?=TJ A/\aW mo A/\cQ mo/\∀d S,Zp V S d->aW mo S->Q (o7 d S)
def Rh:Ct:=(.i (.eq V0 N6) (.set 5 .l0<|.set 6 (.x 1 2)<|.for [7] .rng (.a1<|.ln V3) (.met .insert 5 (.a2 (.md V6<|.ad V7 N1) V7)<|.set 6 (.dv V6<|.ad V7 N1) .nil)<|.ret<|.t2 (.t3 (.w "turn") V2<|.b1 .tuple V5)<|.b1 .tuple<|.comp ["k"] ["own"] [3] [0] .seq (.a1 V5)<|.ix V1 V0)<|.r (.eq V0 C9) (.t2 (.t3 (.w "lay") V2<|.c2 109 V3<|.x 1 2)<|.c2 109 V3<|.x 1 2)<|.i (.or (.eq V3 .t0)<|.and (.eq V0 N9)<|.lt (.ln V3) N6) (.set 8 (.md (.x 1 1)<|.ad (.ln V3) N1)<|.set 9 (.ad N1<|.md (.x 1 2)<|.b2 .min N4<|.dv V4<|.c1 103 V3)<|.i (.eq (.md (.x 1 2) N9) N8) (.set 9 N0 .nil)<|.fz 9<|.fz 8<|.ret<|.t2 (.tup<|.cons (.w "spread")<|.cons V2<|.cons V8<|.cons V9 .nil)<|.ad (.ad (.st V3 V8)<|.t1 V9)<|.sf V3 V8)<|.set 10 (.md (.x 1 1)<|.ln V3)<|.i (.ne V0 N8) (.fz 10<|.ret<|.t2 (.t3 (.w "flip") V2 ZJ) V3)<|.set 11 (.ad N1<|.md (.x 1 2) N3)<|.set 12 (.md (.dv (.x 1 2) N3)<|.b2 .max N1<|.ix V3 ZJ)<|.set 13 (.b2 .max N0<|.sb (.ad (.dv (.sb (.sb (.ix V3 ZJ) N1)<|.v 12) i7) N1)<|.md (.dv (.x 1 2)<|.n 300) N3)<|.fz 11<|.fz 12<|.fz 10<|.ret<|.t2 (.tup<|.cons (.w "cut")<|.cons V2<|.cons ZJ<|.cons (.v 12)<|.cons (.v 13)<|.cons i7 .nil)<|.ad (.ad (.st V3 ZJ)<|.t1<|.v 13)<|.sf V3<|.ad ZJ N1)
def DG:Yt:=λ V Q=>∃(A B:Yr) (k:Nat),V=[tI A,tI B,.int k]/\k<A.length/\A.length<=6/\B.length<=6/\Q (tI<|fQ A B k)
def Ri:Ct:=(.r (.or (.ne (.ln V0)<|.ln V1)<|.ne (.ad (.st V0 V2)<|.sf V0<|.ad V2 N1)<|.ad (.st V1 V2)<|.sf V1<|.ad V2 N1) .t0<|.ret<|.ad (.ad (.st V0 V2)<|.t1<|.ad (.ix V0 V2)<|.ix V1 V2)<|.sf V0<|.ad V2 N1)
def DH:Yt:=λ K Q=>∃(T W N A mo:Int) (V:LL),K=[.int T,lI [W,N,A],.lst<|V.map tI,.int mo]/\(∃S∈V,0<S.length)/\11<=T/\T<=14/\V.length<=40/\(∀S∈V,aW mo S)/\cQ mo/\∀d S,Zp V S d->aW mo S->Q (o7 d S)
def Rj:Ct:=(.set 4 (.compI ["k"] ["sides"] [2] [0] .rng (.a1<|.ln V2) (.ne (.ix V1 V0) .t0) V0)<|.set 5 (.c2 105 V4<|.x 1 0)<|.set 6 (.ix V2 V5)<|.set 7 (.md (.x 1 1)<|.ln V6)<|.set 8 (.lst<|.cons (.w "add")<|.cons (.w "mul")<|.cons (.w "max")<|.cons (.w "min")<|.cons (.w "and")<|.cons (.w "or")<|.cons (.w "xor") .nil)<|.i (.eq V0<|.n 13) (.fz 7<|.ret<|.t2 (.tup<|.cons (.w "fold")<|.cons (.ix V8<|.md (.x 1 2) N7)<|.cons V5<|.cons V7 .nil)<|.ad (.st V6 V7)<|.sf V6<|.ad V7 N1)<|.i (.eq V0<|.n 14) (.fz 7<|.ret<|.t2 (.tup<|.cons (.w "run")<|.cons (.ix V8<|.md (.x 1 2) N7)<|.cons V5<|.cons V7 .nil) V6)<|.set 9 (.lst<|.a1 .t0)<|.ite (.eq V0 F9) (.set 9 (.comp ["other"] ["own","side"] [6,7] [0] .seq (.a1 V2)<|.c3 111 V1 V0 V2) .nil) (.i (.gt (.x 6 0) N0) (.set 9 (.comp ["other"] ["own"] [6] [0] .seq (.a1 V2)<|.ad V0<|.sf V1 N1) .nil) .nil)<|.set 10 (.compI ["k"] ["kind","made","own"] [0,9,6] [0] .rng (.a1<|.ln V9) (.or (.and (.eq V1<|.n 12)<|.gt (.x 3 0) N0)<|.ne (.ix V2 V0) .t0) V0)<|.set 10 (.compI ["k"] ["most","made"] [3,9] [0] .seq (.a1 ZJ) (.and (.cmp .LtE (.ln<|.ix V2 V0) N6)<|.cmp .LtE (.c1 103<|.ix V2 V0) V1) V0)<|.i (.eq (.ln ZJ) N0) (.fz 7<|.ret<|.t2 (.t3 (.w "flip") V5 V7) V6)<|.set 11 (.c2 105 ZJ<|.x 1 2)<|.i (.eq V0 F9) (.fz 7<|.ret<|.t2 (.tup<|.cons (.w "join")<|.cons V5<|.cons i7<|.cons V7 .nil)<|.ix V9 i7)<|.ret<|.t2 (.t3 (.w "fetch") V5 i7)<|.ix V9 i7)
def DI:Yt:=λ W Q=>∃(V mo:Int) (T:LL),W=[.int V,.lst<|T.map tI,.int mo]/\T.length<=40/\(∀S∈T,aW mo S)/\cQ mo/\∀d S,Zp T S d->aW mo S->Q (o7 d S)
def Rk:Ct:=(.set 3 (.md (.ml V0<|.n 48271)<|.n 2147483647)<|.set 4 (.md V3<|.n 15)<|.set 5 (.lst<|.a3 (.md (.dv V3<|.n 15)<|.n 120) (.md (.dv V3<|.n 1800)<|.n 120)<|.dv V3<|.n 216000)<|.r (.or (.eq (.ln V1) N0)<|.lt V4 N3) (.call 106<|.cons (.md V4 N3)<|.cons V3<|.cons V0<|.cons V2 .nil)<|.r (.lt V4 N6) (.c3 108 V4 V5 V1)<|.r (.and (.gt V4 C9)<|.gt (.b1 .max<|.comp ["own"] [] [] [0] .seq (.a1 V1)<|.ln V0) N0) (.call 112<|.cons V4<|.cons V5<|.cons V1<|.cons V2 .nil)<|.set 6 (.c2 105 (.lrng TL<|.ln V1)<|.x 5 0)<|.ret<|.call 110<|.cons (.b2 .min V4<|.sb C9<|.b1 .int<|.gt V4 C9)<|.cons V5<|.cons V6<|.cons (.ix V1 V6)<|.cons V2 .nil)
def DJ:Yt:=λ W Q=>∃(V:Yr) (mo:Int),W=[lI V,.int mo]/\V.length<=40/\cQ mo/\∀S T os,gP mo S T os->S.length<=max 1 V.length->Q (.tup [.tup<|S.map Yv,tI os,.lst<|T.map tI])
def Rl:Ct:=(.set 2 .l0<|.set 3 .l0<|.for [4] .seq (.a1 V0) (.set 5 (.c3 113 V4 V3 V1)<|.met .append 2 (.a1<|.x 5 0)<|.met .append 3 (.a1<|.x 5 1) .nil)<|.i (.eq (.ln V2) N0) (.met .append 2 (.a1<|.t2 (.w "num") N0)<|.met .append 3 (.a1 .t0) .nil)<|.set 6 .l0<|.set 7 (.md (.ml (.b1 .sum V0)<|.n 16807)<|.n 2147483647)<|.for [8] .rng (.a1<|.ix (.lst<|.cons N1<|.cons N2<|.cons N3<|.cons N2<|.cons N1<|.cons N8 .nil)<|.md V7 N6) (.set 7 (.md (.ad (.ml V7<|.n 48271) F9)<|.n 2147483647)<|.met .append 6 (.a1<|.md (.dv V7<|.n 16)<|.ln V2) .nil)<|.put 6 (.md V7<|.ln V6) (.sb (.ln V2) N1)<|.fz 3<|.ret<|.t3 (.b1 .tuple V2) (.b1 .tuple V6) V3)
def DK:Yt:=λ V Q=>∃d,V=[Yv d]/\Q (.lst<|(ao d).map λ a=>.int (a:Nat))
def Rm:Ct:=(.r (.cmp .In (.x 0 0)<|.t3 (.w "in") (.w "num")<|.w "count") .l0<|.r (.cmp .In (.x 0 0)<|.t3 (.w "each") (.w "fold")<|.w "run") (.lst<|.a1<|.x 0 2)<|.r (.es (.x 0 0) "pair") (.lst<|.a2 (.x 0 2)<|.x 0 3)<|.r (.es (.x 0 0) "pick") (.lst<|.a3 (.x 0 1) (.x 0 2)<|.x 0 3)<|.r (.cmp .In (.x 0 0)<|.t2 (.w "join")<|.w "fetch") (.lst<|.a2 (.x 0 1)<|.x 0 2)<|.ret<|.lst<|.a1<|.x 0 1)
def DM:Yt:=λ T Q=>∃(V:List Stp) (S:LL) (os:Yr) (mo:Int),T=[.tup<|V.map Yv,tI os]/\gP mo V S os/\Q (.lst<|(bN V os).map .bl)
def Rn:Ct:=(.set 2 (.comp ["k"] ["outs"] [1] [0] .rng (.a1<|.ln V0)<|.cmp .In V0 V1)<|.for [3] .rng3 (.a3 (.sb (.ln V0) N1) (.neg N1)<|.neg N1) (.i (.ix V2 V3) (.for [4] .seq (.a1<|.c1 115<|.ix V0 V3) (.put 2 V4 (.c<|.bl TK) .nil) .nil) .nil)<|.ret V2)
def DN:Yt:=λ T Q=>∃(V:List Stp) (S:LL) (os:Yr) (mo:Int),T=[.tup<|V.map Yv,.lst<|S.map tI,.lst<|(bN V os).map .bl]/\gP mo V S os/\Q (.tup [.lst<|j9 V.length<|bD V os,.lst<|f9 V S V.length<|bD V os])
def Ro:Ct:=(.set 3 (.comp ["step"] [] [] [0] .seq (.a1 V0) N0)<|.set 4 (.comp ["step"] [] [] [0] .seq (.a1 V0)<|.c<|.bl TL)<|.for [5,6] (.enum TK) (.a1 V0) (.i (.ix V2 V5) (.for [7,8] (.enum TL) (.a1<|.c1 115 V6) (.put 3 V8 (.ad (.ix V3 V8) N1)<|.set 9 (.and (.es (.x 6 0) "fetch")<|.eq V7 N0)<|.set 10 (.and (.cmp .In (.x 6 0)<|.t3 (.w "pair") (.w "pick")<|.w "fetch")<|.and (.not V9)<|.lt (.ln<|.ix V1 V8)<|.ln<|.ix V1 V5)<|.i (.or (.es (.x 6 0) "spread") ZJ) (.put 4 V8 (.c<|.bl TK) .nil) .nil) .nil) .nil)<|.fz 4<|.fz 3<|.ret<|.t2 V3 V4)
def DO:Yt:=λ S Q=>∃(d:Stp) (V:List Str),S=[Yv d,.lst<|V.map .str]/\(∀a∈ao d,a<V.length)/\Q (.str<|ZU d V)
def Rs:Ct:=(.r (.cmp .In (.x 0 0)<|.t2 (.w "in")<|.w "lay") (.w "read")<|.r (.cmp .In (.x 0 0)<|.t2 (.w "num")<|.w "count") (.w "free")<|.r (.cmp .In (.x 0 0)<|.tup<|.cons (.w "turn")<|.cons (.w "flip")<|.cons (.w "cut")<|.cons (.w "spread") .nil) (.ix V1<|.x 0 1)<|.ret<|.w "busy")
def DP:Yt:=λ T Q=>∃(V:List Stp) (S:LL) (os:Yr) (mo:Int),T=[.tup<|V.map Yv,tI os,.lst<|S.map tI,.lst<|(bN V os).map .bl]/\gP mo V S os/\Q (.tup [.lst<|(YO V S os V.length).1.map λ k=>.int (k:Nat),.lst<|(YO V S os V.length).2.map .str,.lst<|j9 V.length<|bD V os])
def Rt:Ct:=(.set 4 (.c3 117 V0 V2 V3)<|.set 5 (.comp ["k"] ["outs"] [1] [0] .rng (.a1<|.ln V0)<|.cmp .In V0 V1)<|.set 6 (.comp ["step"] [] [] [0] .seq (.a1 V0)<|.c<|.bl TL)<|.for [7,8] (.enum TK) (.a1 V0) (.i (.and (.ix V3 V7)<|.es (.x 8 0) "lay") (.put 5 (.x 8 1) (.c<|.bl TK) .nil)<|.i (.and (.ix V3 V7)<|.es (.x 8 0) "fetch") (.put 6 (.x 8 1) (.c<|.bl TK) .nil) .nil)<|.set 9 .l0<|.set 10 .l0<|.for [7,8] (.enum TK) (.a1 V0) (.set 11 (.c2 118 V8 ZJ)<|.set 12 (.or (.cmp .In (.x 8 0)<|.t2 (.w "run")<|.w "join")<|.or (.ix V5 V7)<|.and (.ix V6 V7)<|.ne i7<|.w "read")<|.i (.and (.es i7 "busy")<|.or (.gt (.ix (.x 4 0) V7) N1)<|.ix (.x 4 1) V7) (.set 12 (.c<|.bl TK) .nil)<|.i (.and (.ix V3 V7)<|.and (.v 12)<|.cmp .NotIn (.x 8 0)<|.t2 (.w "in")<|.w "lay") (.met .append 9 (.a1 V7)<|.set 11 (.w "read") .nil)<|.met .append 10 (.a1 i7) .nil)<|.fz 10<|.fz 9<|.ret<|.t3 V9 ZJ<|.x 4 0)
def DQ:Yt:=λ W Q=>∃(V:List Stp) (S:LL) (os:Yr) (mo n:Int),W=[.tup<|V.map Yv,tI os,.int n]/\gP mo V S os/\V.length<40/\∀T os k w,Bd V S T os k w->Q (.tup [.tup [.tup T,tI os],.int k,.str w])
def Ru:Ct:=(.r (.eq (.md V2 N4) N0) (.t3 (.t2 (.ad V0<|.t1<|.t3 (.w "flip") (.sb (.ln V0) N1) N9) V1) (.ln V0)<|.w "side")<|.r (.eq (.md V2 N4) N1) (.t3 (.t2 (.ad V0<|.t1<|.t3 (.w "each") (.w "neg")<|.ln V0) V1) (.ln V0)<|.w "name")<|.r (.eq (.md V2 N4) N2) (.t3 (.t2 V0 .t0) (.ln V0)<|.w "out")<|.ret<|.t3 (.t2 V0<|.ad (.st V1<|.neg N1)<|.t1<|.ad (.ln V0)<|.md (.dv V2 N4)<|.n 50) (.ln V0)<|.w "out")
def DS:Yt:=λ W Q=>∃(T:List Stp) (S:LL) (V:List TV) (os:Yr) (k:Int) (w:Str),W=[.tup [.tup V,tI os],.int k,.str w]/\Bd T S V os k w/\Q (.bl TK)
def DT:Cq:=(.ex (.call 101<|.a1<|.v 0) (.call 101<|.a1<|.v 0) .nil)
def DU:Yt:=qF
def Rv:Ct:=(.sets [1,2,3] (.c2 114 (.st V0<|.n 39)<|.n 24)<|.set 4 (.c2 116 V1 V2)<|.r (.ne (.c1 90<|.t2 V1 V2)<|.compI ["k"] ["live"] [4] [0] .rng (.a1<|.ln V1) (.ix V1 V0) V0) (.c<|.bl TL)<|.set 5 (.c1 101<|.t2 V1 V2)<|.r (.or (.not<|.isi .isL V5)<|.ne V5<|.ix (.call 119<|.cons V1<|.cons V2<|.cons V3<|.cons V4 .nil) N0) (.c<|.bl TL)<|.for [6] .seq (.a1 V5) (.r (.or (.not<|.isi .isI V6)<|.isi .isB V6) (.c<|.bl TL) .nil)<|.sets [7,8,9] (.c3 120 V1 V2<|.b1 .sum V0)<|.ret<|.c3 121 V7 V8 V9)
def DL:List DR:=[Yx 11 1 O3,Yx 12 1 S7,Yx 13 2 S8,Yx 14 2 S9,Yx 15 2 T3,Yx 16 3 T4,Yx 17 1 T5,Yx 22 1 T6,Yx 23 1 T7,Yx 24 2 T8,Yx 28 1 Ck,Yx 29 1 Cm,Yx 30 1 Cn,Yx 31 1 Co,Yx 32 3 Cp,Yx 33 3 Cu,Yx 34 2 Cv,Yx 36 2 Cy,Yx 37 2 Cz,Yx 38 2 CC,Yx 39 5 CD,Yx 40 3 CF,Yx 41 2 CG,Yx 42 3 CH,Yx 43 2 CI,Yx 44 2 CJ,Yx 45 3 CK,Yx 46 2 CO,Yx 47 2 CP,Yx 48 2 CQ,Yx 50 1 CS,Yx 51 1 CT,Yx 52 2 CU,Yx 53 2 CV,Yx 54 2 CW,Yx 55 1 CY,Yx 56 1 CZ,Yx 58 2 Da,Yx 59 2 Db,Yx 60 5 Dc,Yx 61 3 Dd,Yx 62 2 De,Yx 63 2 Df,Yx 64 2 Dg,Yx 66 1 Dh,Yx 67 1 Di,Yx 68 2 zO,Yx 69 2 zO,zd,zd,zd,zd,zd,zd,zd,zd,zd,zd,zd,zd,zd,zd,zd,zd,zd,zd,zd,zd,zd,zd,zd,zd,zd,zd,zd,zd,zd,zd,zd,zd,zd,zd,zd,zd,zd,zd,zd,zd,zd,zd,Yx 71 1 Dl,Yx 72 1 Dm,Yx 73 3 zO,Yx 74 3 Dn,Yx 75 3 Do,Yx 76 2 Dp,Yx 77 4 Dq,Yx 78 4 Dr,Yx 79 4 Dt,Yx 80 5 Du,Yx 81 2 Dv,Yx 82 1 Dw,Yx 84 1 Dx,Yx 85 1 Dy,Yx 86 1 Dz,Yx 87 2 DA,Yx 88 4 DB,Yx 89 2 DC,Yx 90 3 DD,Yx 91 2 DE,Yx 92 5 DF,Yx 93 3 DG,Yx 94 4 DH,Yx 95 3 DI,Yx 96 2 DJ,Yx 97 1 DK,dr "_law_live_by" ["steps","outs"] DM,dr "_law_asked_by" ["steps","sides","live"] DN,Yx 100 2 DO,dr "_law_kept_by" ["steps","outs","sides","live"] DP,Yx 102 3 DQ,Yx 103 3 DS,dr "law" ["script"] DU]
noncomputable def gs:List Str:=["LOW","HIGH","MOST_SIDES","MOST_BREADTH","MOST_STEPS","MOST_OUTS","PARTS"]
noncomputable def pT(p:Str×List (Str×Int)):TV:=.tup [.str p.1,.tup<|p.2.map λ q=>.tup [.str q.1,.int q.2]]
def GT:List TV:=[.int<|-9223372036854775808,.int 9223372036854775807,.int 6,.int 512,.int 40,.int 8,.bor<|formsL.map pT]
abbrev Ft(j:Nat):List Yt:=YM DL j
abbrev t9(j i:Nat)(N:List Str)(n p:Nat)(S:Yt)(c:Ct):Prop:=w5 DL GT gs j (top i) N n p S c
abbrev ZX(j i n p:Nat)(S:Yt)(c:Ct):Prop:=t9 j i (Zt i) n p S c
abbrev ZF(j:Nat)(V:List<|Str×(Yt->Yt))(i:Nat)(N:List Str)(n p:Nat)(S:Yt->Yt)(c:Ct):Prop:=R1 DL GT gs j V (top i) N n p S c
abbrev ZG(j:Nat)(V:List<|Str×(Yt->Yt))(x:Str)(i:Nat)(N:List Str)(n p:Nat)(S:Nat->Yt->Yt)(c:Ct):Prop:=R3 DL GT gs j V x (top i) N n p S c
abbrev ZH(A j i:Nat)(N V W:List Str)(K:List Nat)(n F p:Nat)(S T:Yt->Yt)(l k:Cd):Prop:=Q8 DL GT gs A j (top i) N V W K n F p S T l k
abbrev ZM(A j i:Nat)(N V W:List Str)(K:List Nat)(n F p:Nat)(T:Yt->Yt)(S:Yt)(c:Ct)(l k:Cd):Prop:=Q9 DL GT gs A j (top i) N V W K n F p T S c l k
abbrev ZN(K j m i:Nat)(N V W:List Str)(F:List Nat)(n z p:Nat)(T:Yt->Yt)(S:Yt)(c:Ct)(l k q:Cd)(A:Ct):Prop:=R0 DL GT gs K j m (top i) N V W F n z p T S c l k q A
def Rw:Cq:=(.ite (.or (.cmp .Lt (.v 1)<|.n 0)<|.cmp .GtE (.v 1)<|.bi .len<|.a1<|.v 0) (.rs 1<|.a1<|.w "a side that is not there") .nil .nil)
def Rx:Cq:=(.ex (.call 17<|.a2 (.v 0)<|.v 1) (.call 17<|.a2 (.v 0)<|.v 1) .no)
def Ry:Cq:=(.set 2 (.ix (.v 0)<|.n 0)<|.ite (.eq (.v 2)<|.w "turn") (.ret<|.call 18<|.a2 (.v 1)<|.ix (.v 0)<|.n 2) .nil<|.ite (.eq (.v 2)<|.w "flip") (.ret<|.call 19<|.a2 (.v 1)<|.ix (.v 0)<|.n 2) .nil<|.ite (.eq (.v 2)<|.w "cut") (.ret<|.call 20<|.cons (.v 1)<|.cons (.ix (.v 0)<|.n 2)<|.cons (.ix (.v 0)<|.n 3)<|.cons (.ix (.v 0)<|.n 4)<|.cons (.ix (.v 0)<|.n 5) .nil) .nil<|.ite (.eq (.v 2)<|.w "spread") (.ret<|.call 21<|.a3 (.v 1) (.ix (.v 0)<|.n 2)<|.ix (.v 0)<|.n 3) .nil<|.ite (.eq (.v 2)<|.w "lay") (.ret<|.call 22<|.a2 (.v 1)<|.ix (.v 0)<|.n 2) .nil<|.ite (.eq (.v 2)<|.w "fold") (.ret<|.call 28<|.a2 (.v 1)<|.ix (.v 0)<|.n 3) .nil<|.ite (.eq (.v 2)<|.w "run") (.ret<|.call 19<|.a2 (.v 1)<|.ix (.v 0)<|.n 3) .nil .no)
def Rz:Cq:=(.ex (.call 30<|.a1<|.v 0) (.call 30<|.a1<|.v 0)<|.set 2 (.comp ["number"] ["sides"] [1] [0] .seq (.a1<|.call 8<|.a1<|.v 0)<|.ix (.v 1)<|.v 0)<|.set 3 (.ix (.v 0)<|.n 0)<|.ite (.eq (.bi .len<|.a1<|.v 2)<|.n 0) (.ret<|.call 31<|.a1<|.v 0) .nil<|.ite (.eq (.bi .len<|.a1<|.v 2)<|.n 1) (.ret<|.call 32<|.a2 (.v 0)<|.ix (.v 2)<|.n 0) .nil<|.ite (.eq (.v 3)<|.w "pair") (.ret<|.call 25<|.a2 (.ix (.v 2)<|.n 0)<|.ix (.v 2)<|.n 1) .nil<|.ite (.eq (.v 3)<|.w "join") (.ret<|.call 23<|.a3 (.ix (.v 2)<|.n 0) (.ix (.v 2)<|.n 1)<|.ix (.v 0)<|.n 3) .nil<|.ite (.eq (.v 3)<|.w "fetch") (.ret<|.call 27<|.a2 (.ix (.v 2)<|.n 0)<|.ix (.v 2)<|.n 1) .nil<|.ret<|.call 26<|.a3 (.ix (.v 2)<|.n 0) (.ix (.v 2)<|.n 1)<|.ix (.v 2)<|.n 2)
def RA:Cq:=(.set 1 (.call 35<|.a1<|.v 0)<|.set 2 (.ix (.v 1)<|.n 1)<|.ite (.cmp .IsNot (.v 2)<|.c .non) (.rb<|.a3 (.w "a program that is not good") (.ix (.v 2)<|.n 0)<|.ix (.v 2)<|.n 1) .nil .no)
def RB:Cq:=(.sx 1<|.sub<|.snd (.v 0)<|.call 36<|.a1<|.v 0)
noncomputable def O4:List YT:=[Ys,Ys,Ys,Ys,Ys,Ys,Ys,Ys,Ys,Ys,Ys,Ys,Ys,Ys,Ys,Ys,Ys,Ce,Ys,Cf,Ys,Ys,Ys,Ys,Ys,Ys,Ys,Ys,Ys,Ys,Ys,Ys,Cg,Ch,Ys,Ys,Ys,Ys,Ys,Ys,Ys,Ys,Ys,Ys,Ys,Ys,Ys,Ys,Ys,Ys,Ys,Ys,Ys,Ys,Ys,Ys,Ys,Ys,Ys,Ys,Ys,Ys,Ys,Ys,Ys,Ys,Ys,Ys,Ys,Ys,Ys,Ys,Ys,Ys,Ys,Ys,Ys,Ys,Ys,Ys,Ys,Ys,Ys,Ys,Ys,Ys,Ys,Ys,Ys,Ys,Ys,Ys,Ys,Ys,Ys,Ys,Ys,Ys,Ys,Ys,Ys,Ys,Ys,Ys,Ys,Ys,Ys,Ys,Ys,Ys,Ys,Ys,Ys,Ys,Ys,Ys,Ys,Ys,Ys,Ys,Ys,Ys,Ys]
noncomputable def X2L:List YT:=[Ys,Ys,Ys,Ys,Ys,Ys,Ys,Ys,Ys,Ys,Ys,Ys,Ys,Ys,Ys,Ys,Ys,Ys,Ys,Ys,Ys,Ys,Ys,Ys,Ys,Ys,Ys,Ys,Ys,Ys,Ys,Ys,Ys,Ys,Ys,Ys,Ci,Ys,Ys,Ys,Ys,Ys,Ys,Ys,Ys,Ys,Ys,Ys,Ys,Ys,Ys,Ys,Ys,Ys,Ys,Ys,Ys,Ys,Ys,Ys,Ys,Ys,Ys,Ys,Ys,Ys,Ys,Ys,Ys,Ys,Ys,Ys,Ys,Ys,Ys,Ys,Ys,Ys,Ys,Ys,Ys,Ys,Ys,Ys,Ys,Ys,Ys,Ys,Ys,Ys,Ys,Ys,Ys,Ys,Ys,Ys,Ys,Ys,Ys,Ys,Ys,Cj,Ys,Ys,Ys,Ys,Ys,Ys,Ys,Ys,Ys,Ys,Ys,Ys,Ys,Ys,Ys,Ys,Ys,Ys,Ys,Ys,Ys]
noncomputable def G7:List Str:=["NoWord","NoSide","Beyond","Unlike","TooLarge","LoomError"]
noncomputable def isC(k c:Nat):Bool:=decide<|k=c
abbrev ZT(j i:Nat)(N:List Str)(n p q:Nat)(S:Yt)(c b:Ct)(V:Cq)(T:List<|Nat×Cs)(r:Ct):Prop:=Q6 DL GT gs O4 G7 5 isC j (top i) N n p q S c b V T r
abbrev ZR(V:Bool)(j i:Nat)(N:List Str)(n p:Nat)(T:YT)(c:Cq):Prop:=M5 DL GT gs (if V=TK then O4 else X2L) G7 V j (top i) N n p T c
def zw0:ZX 0 11 1 1 O3 zc0:=ay <| by
 rintro V Q ⟨n,rfl,q⟩;exact(on,R4,Cl,on,q)
def zw1:ZX 1 12 1 1 S7 zc1:=ay <| by
 rintro S Q ⟨n,rfl,q⟩;refine(on,?_);exact s3 (λ h=>(on,by rw[U0 h] at q;exact q)) λ h=>s3 (λ V=>(on,by rw[T9 h,U0 V] at q;exact q)) λ V=>(on,by rw[T9 h,T9 V] at q;exact q)
def zw2:ZX 2 13 2 2 S8 zc2:=ay <| by
 rintro T Q ⟨x,y,rfl,V,S,q⟩;refine(on,?_);unfold inB at V S;unfold vy at q;exact(Fr,sN (λ h=>(on,by rw[U0 h] at q;exact q)) λ h=>((h,BT,BT),cl rfl (_,on,on,by rw[T9 h] at q;rw[Bm];exact q) rfl))
def zw3:ZX 3 14 2 2 S9 zc3:=ay <| by
 rintro V Q ⟨x,y,rfl,q⟩;refine(on,?_);unfold vz at q;exact(Fr,sN (λ h=>(on,by rw[U0 h] at q;exact q)) λ h=>(h,on,by rw[T9 h,<- NZ] at q;exact q))
def zw4:ZX 4 15 2 2 T3 zc4:=ay <| by
 rintro T Q ⟨W,x,rfl,S,q⟩;refine(on,?_);unfold AO AN at q;refine(Fr,sE (λ c=>?_) λ V=>?_)
 .rw[U0 c] at q;exact cl rfl (_,rfl,rfl,q) rfl
 rw[T9 V] at q;refine(Fr,sE (λ c=>?_) λ c1=>?_)
 .rw[U0 c] at q;exact cl rfl (_,rfl,rfl,q) rfl
 rw[T9 c1] at q;refine(Fr,sE (λ c=>?_) λ c2=>?_)
 .rw[U0 c] at q;exact cl rfl (_,rfl,rfl,q) rfl
 rw[T9 c2] at q;refine(Fr,sE (λ c=>?_) λ c3=>?_)
 .exact(Fr,sN (λ h=>(on,by rw[U0 h] at q;exact q)) λ h=>(on,by rw[T9 h] at q;exact q))
 simp only[oq,aD,cX,cO] at S;exact U1 S (by simp only[V,c1,c2,c3,or_self,not_false_eq_true])
def zw5:ZX 5 16 3 3 T4 zc5:=ay <| by
 rintro d Q ⟨o,x,y,rfl,j,g,v,q⟩;refine(on,?_);unfold AM at q;have T:=j;unfold inB at T;refine(Fr,sE (λ c=>?_) λ W=>?_)
 .rw[U0 c] at q;exact cl rfl (_,rfl,rfl,q) rfl
 rw[T9 W] at q;refine(Fr,sE (λ c=>?_) λ c1=>?_)
 .rw[U0 c] at q;exact cl rfl (_,rfl,rfl,q) rfl
 rw[T9 c1] at q;refine(Fr,sE (λ c=>?_) λ c2=>?_)
 .rw[U0 c] at q;exact(qR BT BT,cl rfl (_,rfl,rfl,q) rfl)
 rw[T9 c2] at q;refine(Fr,sE (λ c=>?_) λ c3=>?_)
 .rw[U0 c] at q;exact cl rfl (x,y,rfl,j,g,rfl,q) rfl
 rw[T9 c3] at q;refine(Fr,sE (λ c=>?_) λ c4=>?_)
 .rw[U0 c] at q;exact cl rfl (x,y,rfl,rfl,q) rfl
 rw[T9 c4] at q;refine(Fr,sE (λ c=>?_) λ N=>?_)
 .rw[U0 c] at q;exact(rfl,q)
 rw[T9 N] at q;refine(Fr,sE (λ c=>?_) λ A=>?_)
 .rw[U0 c] at q;exact(rfl,q)
 rw[T9 A] at q;refine(Fr,sE (λ c=>?_) λ K=>?_)
 .rw[U0 c] at q;exact s3 (λ h=>(rfl,by rw[U0 h] at q;exact q)) λ h=>(rfl,by rw[T9 h] at q;exact q)
 rw[T9 K] at q;refine(Fr,sE (λ c=>?_) λ F=>?_)
 .rw[U0 c] at q;exact(trivial,sN (λ h=>(rfl,by rw[U0 h] at q;exact q)) λ h=>(rfl,by rw[T9 h] at q;exact q))
 rw[T9 F] at q;refine(Fr,sE (λ c=>?_) λ z=>?_)
 .rw[U0 c] at q;exact(rfl,q)
 rw[T9 z] at q;refine(Fr,sE (λ c=>?_) λ V=>?_)
 .rw[U0 c] at q;exact(rfl,q)
 rw[T9 V] at q;refine(Fr,sE (λ c=>?_) λ S=>?_)
 .exact(on,q)
 simp only[ou,aD,cX,cO] at v;exact U1 v (by simp only[W,c1,c2,c3,c4,N,A,K,F,z,V,S,or_self,not_false_eq_true])
def zw6:ZX 6 17 1 1 T5 zc6:=ay <| by
 rintro N Q ⟨V,rfl,S,q⟩;refine(on,?_);have W:∀x∈[U4 "add",U4 "or",U4 "xor"],Zc x=TK:=Cl;unfold B0 at S;simp only[fw,aD,cX,cO] at S;refine(on,YI,on,W,s2 (λ h=>(on,?_)) λ h=>(Fr,sE (λ c=>(on,?_)) λ T=>(Fr,sE (λ c=>(on,?_)) λ c1=>(Fr,sE (λ c=>(on,?_)) λ c2=>(Fr,sE (λ c=>(on,?_)) λ c3=>?_)))))
 .have h:(decide (Uf "add"=V) || (decide (Uf "or"=V) || (decide (Uf "xor"=V) || TL)))=TK:=h;simp only[jq,dB,nM,cO] at h
  rcases h with rfl|rfl|rfl
  .rw[Nf] at q;exact q
  .rw[Nk] at q;exact q
  .rw[Nl] at q;exact q
 .subst c;rw[Ng] at q;exact q
 .subst c;rw[Nh] at q;exact q
 .subst c;rw[Ni] at q;exact q
 .subst c;rw[Nj] at q;exact q
 .have h:(decide (Uf "add"=V) || (decide (Uf "or"=V) || (decide (Uf "xor"=V) || TL)))=TL:=h;simp only[Bool.or_eq_false_iff,zy,and_true] at h
  rcases S with z|z|z|z|z|z|z
  .exact U1 z.symm h.1
  .exact U1 z T
  .exact U1 z c1
  .exact U1 z c2
  .exact U1 z c3
  .exact U1 z.symm h.2.1
  .exact U1 z.symm h.2.2
def zw7:ZX 7 22 1 1 T6 zc7:=ay <| by
 rintro T Q ⟨i,S,rfl,q⟩;refine(on,?_);have V:∀n:Nat,n<=9->n<TW:=λ n h=>aN BT
 match i,S with
 |0,_=>exact(_,rfl,V 1 Cl,trivial,rfl,q)
 |1,_=>exact(_,rfl,V 1 Cl,trivial,rfl,q)
 |2,_=>exact(_,rfl,V 2 Cl,trivial,trivial,rfl,q)
 |3,_=>exact(_,rfl,V 2 Cl,trivial,trivial,rfl,rfl,q)
 |4,_=>exact(_,rfl,V 3 Cl,trivial,trivial,rfl,trivial,rfl,rfl,q)
 |5,_=>exact(_,rfl,V 3 Cl,trivial,rfl,trivial,rfl,trivial,rfl,rfl,q)
 |6,_=>exact(_,rfl,V 2 Cl,trivial,rfl,trivial,rfl,q)
 |7,_=>exact(_,rfl,V 2 Cl,trivial,rfl,trivial,rfl,q)
 |8,_=>exact(_,rfl,V 5 Cl,trivial,rfl,trivial,trivial,trivial,trivial,rfl,q)
 |9,_=>exact(_,rfl,V 3 Cl,trivial,rfl,trivial,trivial,rfl,q)
 |10,_=>exact(_,rfl,V 2 Cl,trivial,rfl,trivial,rfl,q)
 |11,_=>exact(_,rfl,V 3 Cl,trivial,rfl,trivial,rfl,trivial,rfl,q)
 |12,_=>exact(_,rfl,V 2 Cl,trivial,rfl,trivial,rfl,rfl,q)
 |13,_=>exact(_,rfl,V 3 Cl,trivial,trivial,rfl,trivial,rfl,q)
 |14,_=>exact(_,rfl,V 3 Cl,trivial,trivial,rfl,trivial,rfl,q)
 |i+15,h=>lia
def zw8:ZX 8 23 1 1 T7 zc8:=ay <| by
 rintro T Q ⟨d,rfl,q⟩;refine(on,?_);have S:∀n:Nat,n<=3->n<TW:=λ n h=>aN BT;have V:YD d<15:=by cases d<;>exact cJ rfl
 refine(_,dF d,cl rfl (YD d,V,on,?_) rfl);rw[Of _ V]
 cases d<;>first|exact(S 0 Cl,rfl,q)|exact(S 1 Cl,_,rfl,rfl,rfl,q)|exact(S 2 Cl,_,rfl,rfl,_,rfl,rfl,rfl,q)|exact(S 3 Cl,_,rfl,rfl,_,rfl,rfl,_,rfl,rfl,rfl,q)
def zw9:ZX 9 24 6 2 T8 zc9:=ay <| by
 rintro D Q ⟨t,V,S,rfl,rfl,z,p,s,q⟩;refine(on,?_);have m:V.map (λ _=>TV.bl TL)=(bM V.length<|S.take 0).map .bl:=by unfold bM;rw[jE,List.foldl_nil,vK,kE]
 refine(by rw[af];exact aN BT,cu Yv (λ _=>.bl TL) V (λ d _=>(on,on)) (on,on,cg (λ i T=>∃y,T=[TJ<|.tup<|V.map Yv,TJ<|tI S,TJ<|.own<|(bM V.length<|S.take i).map .bl,y,TM,TM]) (_,by rw[<- m];rfl) (λ i u T A h=>?_) λ T h=>?_))
 .obtain⟨y,rfl⟩:=h;obtain⟨e,rfl,W⟩:=jB A;have b:=p e<|aH W;obtain⟨k,rfl⟩:∃k:Nat,e=k:=(e.toNat,BT);exact(on,k,jx (by rw[af,gp];lia),_,by rw[Ou W,s0b];rfl)
 .obtain⟨y,rfl⟩:=h;rw[af,bP];obtain⟨U,r2⟩:=Bv z;have v:(((V.map Yv).length:Nat):Int)=V.length:=by rw[af]
  refine(on,(Cl,Cl,by rw[v];exact U),cg (λ i T=>∃g N,T=[TJ<|.tup<|V.map Yv,TJ<|tI S,TJ<|.own<|(bR V V.length i<|bM V.length S).map .bl,y,g,N]) (_,_,on) (λ i u T A h=>?_) λ T h=>?_)
  .obtain⟨g,N,rfl⟩:=h;rw[v,r2] at A;obtain⟨w,rfl⟩:=oz A;have w:i<V.length:=BT;obtain⟨k,r⟩:∃k:Nat,(V.length:Int)-1+(i:Int)*(-1)=k:=(V.length-1-i,BT);have x:V.length-1-i=k:=BT;have Z:k<V.length:=BT;rw[r];have c:(bR V V.length i<|bM V.length S).length=V.length:=by rw[mB,gp]
   have st:bR V V.length (i+1) (bM V.length S)=fc V k (bR V V.length i<|bM V.length S):=by rw[bR,x]
   rw[st];generalize bR V V.length i (bM V.length S)=R at *;refine(_,x6 BT,s2 (λ h=>?_) λ h=>(_,_,by unfold fc;rw[T9<|by rw[h];decide];rfl));have F:=gj Z;have J:fc V k R=(ao<|V.getD k<|.num 0).foldl (λ R a=>R.set a TK) R:=by unfold fc;rw[U0 h]
   rw[J];have o:=s _<|aH F;generalize V.getD k (.num 0)=d at F o;refine(Yv d,aC F,cl rfl (d,on,on,cg (λ j T=>∃N,T=[TJ<|.tup<|V.map Yv,TJ<|tI S,TJ<|.own<|(((ao d).take j).foldl (λ R a=>R.set a TK) R).map .bl,y,TJ<|.int k,N]) (_,on) (λ j u T A h=>?_) λ T h=>?_) rfl)
   .obtain⟨N,rfl⟩:=h;obtain⟨n,rfl,W⟩:=jB A;rw[bc] at W
    cases K:(ao d)[j]? with
    |none=>rw[K] at W;cases W
    |some a=>
     rw[K] at W;cases W;have L:=o a<|aH K;exact(on,a,jx (by rw[af,vL];lia),_,by rw[jv,K,jw];show _=[_,_,TJ<|TV.own<|UL TV.bl<|(((ao d).take j).foldl (λ R a=>R.set a TK) R).set a TK,_,_,_];rw[s0b];rfl)
   .obtain⟨N,rfl⟩:=h;rw[af,af,bP];exact(_,_,on)
  .obtain⟨g,N,rfl⟩:=h;have Y:((Ub (Ul ((((V.map Yv).length:Nat):Int)-1) (-1)<|-1).toNat).map λ k:Nat=>U2<|(((V.map Yv).length:Nat):Int)-1+(k:Int) * -1).length=V.length:=by rw[af,bZ,v,r2];lia
   rw[Y];have c:(bR V V.length V.length<|bM V.length S).length=V.length:=by rw[mB,gp]
   refine((BT,by rw[af];lia),by rw[af,bZ,af];exact aN BT,gQ (λ k:Nat=>.int (k:Nat)) (λ k:Nat=>.int (k:Nat)) (λ k=>(bR V V.length V.length<|bM V.length S).getD k TL) (Ub V.length) (by rw[af];rfl) (λ k l=>(_,x6 (by rw[c];exact gw.mp l),on,λ _=>(on,on))) (on,q))
def RC:ZX 10 28 3 1 Ck PD:=ay <| by
 rintro K Q ⟨t,rfl,T,A,N,q⟩;refine(on,?_)
 rcases A with rfl|rfl
 .refine(on,on,cg (λ i V=>∃y,V=[TJ<|tI T,TJ<|.int<|ah<|T.take i,y]) (_,on) (λ i u V W (y,e)=>?_) λ V (y,e)=>?_)
  .subst e;obtain⟨n,rfl,S⟩:=jB W;have b:=N n<|aH S;exact(iD BT BT,on,TJ<|.int n,by rw[oh S];rfl)
  .subst e;rw[ag,bP];exact(on,q)
 .refine(on,on,cg (λ i V=>∃y,V=[TJ<|lI T,TJ<|.int<|ah<|T.take i,y]) (_,on) (λ i u V W (y,e)=>?_) λ V (y,e)=>?_)
  .subst e;obtain⟨n,rfl,S⟩:=jB W;have b:=N n<|aH S;exact(iD BT BT,on,TJ<|.int n,by rw[oh S];rfl)
  .subst e;rw[ag,bP];exact(on,q)
def RD:ZX 11 29 1 1 Cm PF:=ay <| by
 rintro T Q ⟨V,rfl,S,l,q⟩;refine(on,by rw[ag];exact aN BT,cu .int (λ n=>.int<|ak n) V (λ n _=>?_)<|cl rfl (_,on,V.map ak,.inr (by unfold lI;rw[bV];rfl),AJ S,on,q) rfl);refine(Fr,s2 (λ h=>(on,?_)) λ h=>(on,?_))
 .rw[NW h];rfl
 .rw[NX h];rfl
def RE:ZX 12 30 1 1 Cn PH:=ay <| by
 rintro W Q ⟨V,rfl,T,l,S,q⟩;refine(on,?_);unfold dg at S;exact sF (bA<|show ¬((6:Int)<((V.map U2).length:Nat)) by rw[ag];lia)<|cl rfl (V,on,T,l,sF (bA<|show ¬((512:Int)<ah (V.map ak)) by lia) (on,q)) rfl
def RF:ZX 13 31 4 1 Co PJ:=ay <| by
 rintro K Q ⟨V,rfl,A,l,q⟩;refine(on,on,cn _,on,on,on,?_);refine cg (λ i S=>∃y,S=[TJ<|tI V,TJ<|.own<|(j6 V i).map .int,TJ<|.int<|A8 V i,y]) (_,on) (λ i u S N (y,e)=>?_) λ S (y,e)=>?_
 .subst e;obtain⟨W,n,rfl,T⟩:=NV N;have b:=A n<|aH T;refine(on,by rw[ag,j6,af,bZ];exact aN BT,iD BT BT,on,TJ<|.int n,?_);rw[MV W T,MU,bG];rfl
 .subst e;rw[lO,ag];refine(on,?_);show Q (.tup ((j6 V V.length).map U2).reverse);rw[<- WJ];exact q
def RG:ZX 14 32 3 3 Cp PL:=ay <| by
 rintro K Q ⟨V,k,m,rfl,l,N,q⟩;refine(on,?_);have S:=eY V k;have T:ai (V.map U2) (TJ<|(k:Int)+1) TM=(V.drop<|k+1).map U2:=by rw[show(k:Int)+1=((k+1:Nat):Int) by lia];exact eZ V<|k+1
 have W:(ai (V.map U2) TM (TJ (k:Int))++[U2 m])++ai (V.map U2) (TJ<|(k:Int)+1) TM=(V.set k m).map U2:=by rw[S,T,vD,U0 N];simp
 have l1:(ai (V.map U2) TM<|TJ (k:Int)).length<=63:=by rw[S,ag,bp];lia
 have A:(ai (V.map U2) (TJ<|(k:Int)+1) TM).length<=63:=by rw[T,ag,cW];lia
 unfold tI at q;rw[<- W] at q;exact(on,Zm,bh (show(ai (V.map U2) TM<|TJ (k:Int)).length+1<=1000 by lia),bh (show(ai (V.map U2) TM (TJ (k:Int))++[U2 m]).length+(ai (V.map U2) (TJ<|(k:Int)+1) TM).length<=1000 by rw[aQ,hZ];lia),on,q)
def RH:ZX 15 33 3 3 Cu PP:=ay <| by
 rintro A Q ⟨V,k,m,rfl,l,q⟩;refine(on,?_);have S:=eY V k;have T:=eZ V k;have W:(ai (V.map U2) TM (TJ (k:Int))++[U2 m])++ai (V.map U2) (TJ (k:Int)) TM=(bX V k m).map U2:=by rw[S,T];unfold bX;simp
 have l1:(ai (V.map U2) TM<|TJ (k:Int)).length<=63:=by rw[S,ag,bp];lia
 have N:(ai (V.map U2) (TJ (k:Int)) TM).length<=63:=by rw[T,ag,cW];lia
 unfold tI at q;rw[<- W] at q;exact(on,Zm,bh (show(ai (V.map U2) TM<|TJ (k:Int)).length+1<=1000 by lia),bh (show(ai (V.map U2) TM (TJ (k:Int))++[U2 m]).length+(ai (V.map U2) (TJ (k:Int)) TM).length<=1000 by rw[aQ,hZ];lia),on,q)
def RI:ZX 16 34 2 2 Cv PQ:=ay <| by
 rintro K Q ⟨V,k,rfl,l,N,q⟩;refine(on,?_);have S:=eY V k;have T:ai (V.map U2) (TJ<|(k:Int)+1) TM=(V.drop<|k+1).map U2:=by rw[show(k:Int)+1=((k+1:Nat):Int) by lia];exact eZ V<|k+1
 have W:ai (V.map U2) TM (TJ (k:Int))++ai (V.map U2) (TJ<|(k:Int)+1) TM=(V.eraseIdx k).map U2:=by rw[S,T,nW,bG]
 have l1:(ai (V.map U2) TM<|TJ (k:Int)).length<=63:=by rw[S,ag,bp];lia
 have A:(ai (V.map U2) (TJ<|(k:Int)+1) TM).length<=63:=by rw[T,ag,cW];lia
 unfold tI at q;rw[<- W] at q;exact(bh (show(ai (V.map U2) TM<|TJ (k:Int)).length+(ai (V.map U2) (TJ<|(k:Int)+1) TM).length<=1000 by lia),on,q)
def RJ:ZR TK 17 36 (Zt 36) 2 2 Ce Rw:=by
 refine(by kernel_rfl,?_);rintro W E ⟨T,V,rfl,S,q⟩;refine(on,?_);unfold Zb at S;refine s3 (λ c=>?_) λ c=>?_
 .exact(Zm,q)
 .exact sT (bC<|show((T.map U2).length:Int)<=V by rw[ag];lia) (Zm,q)
def RK:ZX 17 36 2 2 Cy PR:=ay <| by
 rintro W Q ⟨T,V,rfl,S,q⟩;refine(on,?_);unfold Zb at S;exact sF (bA<|show ¬V<0 by lia)<|sF (bA<|show ¬((T.map U2).length:Int)<=V by rw[ag];lia) q
def RL:ZX 18 37 2 2 Cz PU:=ay <| by
 rintro z Q ⟨V,os,rfl,l1,F,T,q⟩;refine(on,os,on,BT,λ K N A=>?_);have c:=(Np (n:=V.length) N A).mpr T;refine((BT,by rw[ag];lia),dpL _,sF ?_ ?_)
 .show(!_L.eqT (TV.lst<|K.map U2) (TV.lst<|(Ub (((V.map U2).length:Nat):Int).toNat).map λ i:Nat=>U2 (i:Nat)))=TL;rw[show((Ub (((V.map U2).length:Nat):Int).toNat).map λ i:Nat=>U2 (i:Nat))=(YN V.length).map U2 by rw[ag];unfold YN;rw[bV];rfl,NY,c];simp
 .refine(by rw[ag];exact aN BT,cu .int (λ o:Int=>.int<|V.getD o.toNat 0) os (λ o W=>?_) (on,by unfold tI cq at q;rw[bV] at q;exact q));have S:=up_mem.mp<|T.subset W;exact(_,vI S.1 S.2,on,on)
def RM:ZR TK 19 38 (Zt 38) 2 2 Cf Rx:=by
 refine(by kernel_rfl,?_);rintro W E ⟨T,V,rfl,S,q⟩;refine(on,?_);exact .inl (_,(_,on,T,V,on,S,on),λ n h=>h ▸ q)
def RN:ZX 19 38 2 2 CC PV:=ay <| by
 rintro W Q ⟨T,V,rfl,S,q⟩;refine(on,?_);exact cl rfl (T,V,on,S,on,q) rfl
def RO:ZX 20 39 5 5 CD PX:=ay <| by
 rintro F Q ⟨W,S,f,m,g,rfl,l,A,K,N,V,q⟩;refine(on,?_);refine cl rfl (W,S,on,N,?_) rfl;obtain⟨k,rfl,T⟩:=ko N;unfold w9 at V;simp only[TZ] at V q;refine sF (bA λ z=>V<|.inl z)<|sF (bA λ z=>V<|.inr<|.inl z)<|sF (bA λ z=>V<|.inr<|.inr<|.inl z) ?_;refine s3 (λ c=>?_) λ c=>cl rfl (W,k,m,on,l,T,on,q) rfl;exact(qR BT BT,_,dq T,sF (bA λ z=>V<|.inr<|.inr<|.inr (c,z))<|cl rfl (W,k,m,on,l,T,on,q) rfl)
def RP:ZX 21 40 3 3 CF PY:=ay <| by
 rintro y Q ⟨S,V,m,rfl,N,l,z,K,A,W,q⟩;refine(on,?_);unfold mi at K;obtain⟨k,rfl⟩:∃k:Nat,V=k:=(V.toNat,BT);simp only[TZ] at W q;have F:=AS S k m;refine sF (bA<|show ¬((S.map U2).length:Int)<k by rw[ag];lia)<|sF (bA A)<|cl rfl (S,k,m,on,BT,cl rfl (bX S k m,on,λ n T=>?_,BT,W,on,q) rfl) rfl;unfold bX at T;simp only[cy,aK] at T
 rcases T with (h|h)|h
 .exact N n<|s0n h
 .lia
 .exact N n<|s0m h
def RQ:ZX 22 41 2 2 CG PZ:=ay <| by
 rintro A Q ⟨W,S,rfl,N,V,l,T,e,q⟩;refine(on,?_);exact cl rfl (S,on,V,BT,T,cl rfl (_,on,W,.inl rfl,N,cl rfl (_,on,S,.inl rfl,V,Fr,sF (G4 e) (on,q)) rfl) rfl) rfl
def RR:ZX 23 42 3 3 CH Qa:=ay <| by
 rintro d Q ⟨W,T,V,rfl,A,F,l,y,K,c,v,q⟩;refine(on,Fr,sF (G4<|by rw[ag,ag,y])<|cl rfl (W,V,on,K,?_) rfl);obtain⟨k,rfl,S⟩:=ko K;simp only[TZ] at c;have j:=A _<|getD_mem S;have g:=F _<|getD_mem (ns:=T) (k:=k) BT;refine cl rfl (W,k,on,BT,S,cl rfl (T,k,on,BT,BT,j7 _,sF ?_ ?_) rfl) rfl
 .show(!_L.eqT (U3<|(W.eraseIdx k).map U2) (U3<|(T.eraseIdx k).map U2))=TL;rw[oA,c];simp
 .refine(_,dq S,_,dq (ns:=T) BT,cl rfl (W,k,_,on,BT,S,cl rfl (_,on,λ n N=>?_,by rw[cN];lia,v,on,q) rfl) rfl)
  rcases oy N with z|z
  .exact Nb A n z
  .lia
def RS:ZX 24 43 2 2 CI Qb:=ay <| by
 rintro W Q ⟨V,S,rfl,c,q⟩;refine(on,?_);have T:ai (S.map U2) TM (TJ (((V.map U2).length:Nat):Int))=V.map U2:=by rw[ag,eY,c]
 exact(by show _L.dp 99 (U3<|ai (S.map U2) TM<|TJ (((V.map U2).length:Nat):Int));rw[T];exact j7 V,sF (by show(!_L.eqT (U3<|ai (S.map U2) TM<|TJ (((V.map U2).length:Nat):Int)) (U3<|V.map U2))=TL;rw[T,oA];simp) (on,q))
def RT:ZX 25 44 2 2 CJ Qc:=ay <| by
 rintro T Q ⟨S,V,rfl,c,q⟩;refine(on,?_);unfold cG at c;unfold bW at q;refine s2 (λ h=>?_) λ h=>?_
 .have h:(((V.map U2).length:Nat):Int)<((S.map U2).length:Nat):=au h;rw[ag,ag] at h;rw[U0 BT] at c q;exact cl rfl (V,S,on,c,on,q) rfl
 .have h:¬(((V.map U2).length:Nat):Int)<((S.map U2).length:Nat):=iL h;rw[ag,ag] at h;rw[T9 BT] at c q;exact cl rfl (S,V,on,c,on,q) rfl
def RU:ZX 26 45 3 3 CK Qd:=ay <| by
 rintro W Q ⟨T,S,V,rfl,c1,c2,q⟩;refine(on,?_);exact cl rfl (T,S,on,c1,cl rfl (_,V,on,c2,on,q) rfl) rfl
def RV:ZX 27 46 2 2 CO Qe:=ay <| by
 rintro y Q ⟨n,r,V,rfl,K,S,l1,F,N,A,q⟩;refine(on,?_);have T:ai ((n::r).map U2) (TJ 1) TM=r.map U2:=eZ (n::r) 1;have z:(ai ((n::r).map U2) (TJ 1) TM).length<=20:=by rw[T,ag];lia
 refine(Fr,.int n,iS (j:=0) rfl,Fr,sN (λ h=>U1 h N) λ _=>(bh (show(V.map U2).length+(ai ((n::r).map U2) (TJ 1) TM).length<=1000 by rw[ag];lia),cl rfl (V++r,?_,λ x W=>?_,by rw[aQ];lia,A,on,q) rfl))
 .show[U3<|V.map U2++ai ((n::r).map U2) (TJ 1) TM]=[tI<|V++r];rw[T,<- bG];rfl
 .rcases cy.mp W with h|h
  .exact S x h
  .exact K x<|bz _ h
def RW:ZX 28 47 2 2 CP Qf:=ay <| by
 rintro N Q ⟨T,V,rfl,l,S,q⟩;refine(on,?_);refine cl rfl (T,V,on,S,?_) rfl;obtain⟨k,rfl,W⟩:=ko S;simp only[TZ] at q;exact cl rfl (T,k,on,l,W,on,q) rfl
def RX:ZX 29 48 2 2 CQ Qg:=ay <| by
 rintro A Q ⟨S,V,rfl,N,l,T,W,q⟩;refine(on,?_);exact cl rfl (S,on,N,BT,T,cl rfl (S,V,on,W,on,q) rfl) rfl
def RY:ZX 30 50 1 1 CS Qh:=ay <| by
 rintro S Q ⟨d,rfl,V,q⟩;refine(on,?_)
 cases d with
 |each w a=>exact(_,rfl,trivial,_,rfl,cl rfl (w,0,rfl,V,_,rfl,trivial,_,rfl,rfl,Yz,rfl,G5,q) rfl)
 |pair w a b=>exact(_,rfl,trivial,_,rfl,trivial,_,rfl,cl rfl (w,0,0,rfl,(Cl,Cl),(Cl,Cl),V,_,rfl,rfl,Yz,rfl,G5,q) rfl)
 |fold w a s|run w a s=>exact(_,rfl,trivial,_,rfl,trivial,_,rfl,rfl,Yz,rfl,G5,_,rfl,cl rfl (w,rfl,V,q) rfl)
 |_=>exact(_,rfl,trivial,_,rfl,trivial,_,rfl,rfl,Yz,rfl,G5,q)
def RZ:ZX 31 51 1 1 CT Qi:=ay <| by
 rintro v Q ⟨d,S,z,rfl,A,T,W,q⟩;refine(on,?_);have N:=iC W;have y:=W.2.1
 cases d with
 |inp K=>obtain⟨rfl,V⟩:=T;exact(_,rfl,trivial,_,rfl,cl rfl (S,rfl,N,BT,V,rfl,q) rfl)
 |count K k=>obtain⟨rfl,V,F⟩:=T;exact(_,rfl,trivial,_,rfl,trivial,_,rfl,_,rfl,cl rfl (S,k,rfl,N,BT,V,F,rfl,q) rfl)
 |num n=>obtain⟨rfl,_⟩:=T;exact(_,rfl,trivial,_,rfl,trivial,rfl,Zi,rfl,q)
 |_=>exact U1 A<|iL rfl
def Sa:ZR TK 32 52 (Zt 52) 3 2 Cg Ry:=by
 refine(by kernel_rfl,?_);rintro V E ⟨a,A,rfl,l,q⟩;refine(on,?_);exact(_,on,on,Fr,Fr,_,on,_,(_,on,A,9,on,Pz l,on),λ n h=>h ▸ q)
def Sb:ZX 32 52 3 2 CU Qj:=ay <| by
 rintro n Q ⟨d,S,A,i,a,rfl,W,K,j,F,o,q⟩;refine(on,?_);have p:=iC o;have YE:=iC j;have l:=o.2.1;have a6:=j.2.1
 cases d with
 |each w a=>
  cases W;cases F.1.symm.trans K;exact(_,on,on,Fr,Fr,Fr,Fr,Fr,Fr,Fr,on,q)
 |turn a os=>
  cases W;obtain⟨v,V,c,rfl⟩:=F;cases V.symm.trans K;exact(_,on,on,Fr,_,on,cl rfl (A,os,on,BT,by rw[c.length_eq,fP];lia,c,on,q) rfl)
 |flip a s=>
  cases W;obtain⟨V,N⟩:=F;cases V.symm.trans K;exact(_,on,on,Fr,Fr,_,on,cl rfl (S,s,on,N,on,q) rfl)
 |cut a s f m g=>
  cases W;refine HT λ z T=>?_;obtain⟨v,V,N,y,b,rfl⟩:=F;refine T ?_;clear T z;cases V.symm.trans K;exact(_,on,on,Fr,Fr,Fr,_,on,_,on,_,on,_,on,cl rfl (A,s,f,m,g,on,BT,by unfold w9 at y;lia,BT,N,y,on,q) rfl)
 |spread a s m=>
  cases W;refine HT λ z T=>?_;obtain⟨v,V,N,r,b,y,rfl⟩:=F;refine T ?_;clear T z;cases V.symm.trans K;exact(_,on,on,Fr,Fr,Fr,Fr,_,on,_,on,cl rfl (A,s,m,on,YE,BT,BT,N,r,y,on,q) rfl)
 |lay a t=>
  cases W;obtain⟨v,V,y,e,rfl⟩:=F;cases V.symm.trans K;exact(_,on,on,Fr,Fr,Fr,Fr,Fr,_,on,cl rfl (A,S,on,YE,p,BT,y,e,on,q) rfl)
 |fold w a s=>
  cases W;obtain⟨v,V,k,N,rfl⟩:=F;cases V.symm.trans K;exact(_,on,on,Fr,Fr,Fr,Fr,Fr,Fr,_,on,cl rfl (A,s,on,BT,N,on,q) rfl)
 |run w a s=>
  cases W;obtain⟨V,k,N⟩:=F;cases V.symm.trans K;exact(_,on,on,Fr,Fr,Fr,Fr,Fr,Fr,Fr,_,on,cl rfl (S,s,on,N,on,q) rfl)
 |_=>cases W
def Sc:ZR TK 33 53 (Zt 53) 4 2 Ch Rz:=by
 refine(by kernel_rfl,?_);rintro T E ⟨a,A,S,rfl,V,l,q⟩;refine(on,?_);refine .inr<|cl rfl (.flip a 9,on,Fr,?_) rfl;exact cl rfl (_,on,sl3<|cJ rfl,tI A,aC V,on,on,_,on,on,Fr,Fr,_,on,_,(_,on,a,A,on,l,on),λ n h=>h ▸ q) rfl
def Sd:ZX 33 53 4 2 CV Qk:=ay <| by
 rintro J Q ⟨t,d,S,v,rfl,m,F,W,j,q⟩;refine(on,?_);subst m
 cases d with
 |pair w a b=>
  refine HT λ T V=>?_;obtain⟨A,B,N,K,p,Y,rfl⟩:=W;refine V ?_;clear V T;exact cl rfl ((Stp.pair w a b),on,p,cl rfl ((Stp.pair w a b),on,sl3<|cJ rfl,tI A,aC N,on,tI B,aC K,on,on,_,on,on,Fr,Fr,Fr,_,on,_,on,cl rfl (A,B,on,Y,on,q) rfl) rfl) rfl
 |join a b s=>
  refine HT λ T V=>?_;obtain⟨A,B,N,K,e,l,k,g,rfl⟩:=W;refine V ?_;clear V T;have z:=F _<|aH N;have y:=F _<|aH K;have a6:=z.2.1;exact cl rfl ((Stp.join a b s),on,Fr,cl rfl ((Stp.join a b s),on,sl3<|cJ rfl,tI A,aC N,on,tI B,aC K,on,on,_,on,on,Fr,Fr,Fr,Fr,_,on,_,on,_,on,cl rfl (A,B,s,on,Bj z,Bj y,BT,e,l,k,g,on,q) rfl) rfl) rfl
 |fetch a b=>
  refine HT λ T V=>?_;obtain⟨n,r,B,N,i,K,g,rfl⟩:=W;refine V ?_;clear V T;have z:=F _<|aH N;have y:=F _<|aH K;have a6:=z.2.1;have U:=y.2.1;rw[Up] at a6;exact cl rfl ((Stp.fetch a b),on,Fr,cl rfl ((Stp.fetch a b),on,sl3<|cJ rfl,tI<|n::r,aC N,on,tI B,aC K,on,on,_,on,on,Fr,Fr,Fr,Fr,Fr,_,on,_,on,cl rfl (n,r,B,on,iC z,iC y,BT,BT,i,g,on,q) rfl) rfl) rfl
 |pick a b c=>
  refine HT λ T V=>?_;obtain⟨A,B,C,N,K,o,x,Z,rfl⟩:=W;refine V ?_;clear V T;exact cl rfl ((Stp.pick a b c),on,Fr,cl rfl ((Stp.pick a b c),on,sl3<|cJ rfl,tI A,aC N,on,tI B,aC K,on,tI C,aC o,on,on,_,on,on,Fr,Fr,Fr,Fr,Fr,_,on,_,on,_,on,cl rfl (A,B,C,on,x,Z,on,q) rfl) rfl) rfl
 |_=>first|exact cl rfl (_,rfl,vG W,cl rfl (_,rfl,sl3<|cJ rfl,rfl,_,rfl,rfl,trivial,cl rfl (_,S,v,rfl,cJ rfl,W,j,rfl,q) rfl) rfl) rfl|exact cl rfl (_,rfl,vG W,cl rfl (_,rfl,sl3<|cJ rfl,tI S,aC W.1,rfl,rfl,_,rfl,rfl,trivial,trivial,_,rfl,cl rfl (_,S,S,v,_,rfl,rfl,W.1,F _<|aH W.1,W,j,rfl,q) rfl) rfl) rfl|(obtain⟨A,N,_⟩:=id W;exact cl rfl (_,rfl,vG W,cl rfl (_,rfl,sl3<|cJ rfl,tI A,aC N,rfl,rfl,_,rfl,rfl,trivial,trivial,_,rfl,cl rfl (_,S,A,v,_,rfl,rfl,N,F _<|aH N,W,j,rfl,q) rfl) rfl) rfl)
def Se:ZT 34 54 (Zt 54) 3 2 3 CW Ql Qm Qn Qo Qp:=ay <| by
 rintro c Q ⟨d,V,rfl,o,h⟩;refine(on,?_);have W:=bA (show ¬(40:Int)<=((V.map tI).length:Nat) by rw[af];lia);have N:∀a:Nat,a<V.length->TV.bl (decide<|(((V.map tI).length:Nat):Int)<=(a:Int))=TV.bl TL:=λ a h=>by rw[af,bA BT]
 have a3:=NS d;refine(on,sF W ?_)
 rcases h with ⟨S,y,F,v,q⟩|⟨w,rfl,q⟩|⟨a,A,rfl,K,a6,q⟩
 .have z:=Bi F;exact cl rfl (d,on,by rw[af,af];exact sl3 a3,qS (l:=ao d) (f:=λ a:Nat=>.int (a:Int)) (by rw[bV];rfl) (λ _=>.bl TL) (λ a T=>(on,N a<|z a T)) ((ao d).map λ _=>TL,by rw[bV];rfl,sF Cr<|.inl<|cl rfl (_,d,S,V,on,on,y,F,v,on,Yz,on,q) rfl)) rfl
 .refine cl rfl (_,on,by rw[af,af];exact sl3 a3,qS (l:=[V.length]) (f:=λ a:Nat=>.int (a:Int)) rfl (λ _=>.bl TK) (λ a T=>(on,?_)) ([TK],on,sT (b:=True) rfl (on,Yz,on,q))) rfl;cases aK.mp T;show TV.bl (decide<|(((V.map tI).length:Nat):Int)<=((V.length:Nat):Int))=TV.bl TK;rw[af,bC<|jN _]
 .refine cl rfl (_,on,by rw[af,af];exact sl3 a3,qS (l:=[a]) (f:=λ a:Nat=>.int (a:Int)) rfl (λ _=>.bl TL) (λ b j=>?_) ([TL],on,sF (a:=True) rfl<|.inr (_,(_,on,a,A,V,on,K,a6,on),λ n g=>(1,g.symm,((Cl,Cl),(Cl,Cl),q))))) rfl;cases aK.mp j;exact(on,N a (aP.mp K).1)
def Sf:ZX 35 55 6 1 CY Qq:=ay <| by
 rintro C Q ⟨V,W,mo,g,os,r,rfl,K,gl,x,h,q⟩;refine(on,?_);have l:=gl.1;have B:(W.map tI).length=V.length:=by rw[af,l]
 have n:W.take V.length=W:=ce BT
 have P:g.length=V.length\/g.length=V.length+1:=by
  rcases h with ⟨rfl,_⟩|⟨rfl,_⟩|⟨d,w,rfl,_⟩<;>simp
 refine(_,on,on,_,on,on,on,cn _,on,on,?_);refine cg (λ i e=>i<=V.length/\∃y z,e=[TJ<|.tup [.tup g,tI os],TJ<|.tup g,TJ<|tI os,TJ<|.own<|(W.take i).map tI,y,z]) (cn _,_,_,on) (λ i u e N m=>?_) λ e m=>?_
 .obtain⟨D,y,z,rfl⟩:=m;by_cases c:i<V.length
  .have Z:(V.map Yv)[i]?=TJ u:=by
    rcases h with ⟨rfl,_⟩|⟨rfl,_⟩|⟨d,w,rfl,_⟩
    .exact N
    .exact N
    .rwa [cU<|by rw[af];exact c] at N
   obtain⟨d,rfl,Y⟩:=Oa Z;have k:=aZ (show i<W.length by lia);generalize W[i]=S at k;exact ZL rfl (d,W.take i,on,by rw[bp];lia,.inl (S,λ T U=>jz (gl.2.1 T<|s0n U) K,gl.2.2 i d S Y k,jz (gl.2.1 S<|aH k) K,LF2 S,on,_,on,on,_,on,on,by rw[af,bp];exact aN BT,c,_,_,by rw[jv,k,bG];rfl))
  .have s:i=V.length:=by lia
   subst s;rw[n]
   rcases h with ⟨rfl,_⟩|⟨rfl,_⟩|⟨d,w,rfl,R,L,rfl⟩
   .rw[eE<|by rw[af];exact ax _] at N;cases N
   .rw[eE<|by rw[af];exact ax _] at N;cases N
   .rw[cS (by rw[af];exact ax _),af,iA] at N;cases N;have j:Q<|.tup [.tup<|W.map tI,.tup [.int ((W.map tI).length:Nat),.str w]]:=by rw[B];exact q
    rcases L with ⟨v,rfl,rfl⟩|⟨a,A,rfl,t,rfl⟩
    .exact ZL rfl (_,W,on,BT,.inr<|.inl (v,by rw[<- l],S5 _,on,_,on,on,_,on,on,Yz,on,Yz,on,j))
    .exact ZL rfl (_,W,on,BT,.inr<|.inr (a,A,on,t,(gl.2.1 A<|aH t).2.1,S5 _,on,_,on,on,_,on,on,Yz,on,Yz,on,j))
 .obtain⟨D,y,z,rfl⟩:=m;have p:g.length=V.length:=BT;rw[p,n]
  rcases h with ⟨rfl,G,E,M,rfl⟩|⟨rfl,J,rfl⟩|⟨d,w,rfl,_⟩
  .refine sT (bC<|show(1:Int)<=((os.map U2).length:Nat) by rw[ag];lia)<|sF (by rw[bC<|show(((os.map U2).length:Nat):Int)<=8 by rw[ag];lia];rfl) (by rw[ag];exact aN BT,cu .int (λ _=>.bl TL) os (λ o F=>?_) (os.map λ _=>TL,by rw[bV];rfl,sF Cr (on,Yz,on,q)));have b:=M o F;refine sF (bA<|show ¬o<0 by lia) (on,?_);show TV.bl (decide<|((V.map Yv).length:Nat)<=o)=TV.bl TL;rw[af,bA BT]
  .have j:Q<|.tup [.tup<|W.map tI,.tup [.int ((V.map Yv).length:Nat),.str "out"]]:=by rw[af];exact q
   rcases J with rfl|⟨G,E,o,O,I⟩
   .exact(on,Yz,on,Yz,on,j)
   .refine sT (bC<|show(1:Int)<=((os.map U2).length:Nat) by rw[ag];lia)<|sF (by rw[bC<|show(((os.map U2).length:Nat):Int)<=8 by rw[ag];lia];rfl) (by rw[ag];exact aN BT,cu .int (λ o=>.bl<|decide<|o<0\/((V.map Yv).length:Int)<=o) os (λ o F=>?_) (os.map λ o=>decide<|o<0\/((V.map Yv).length:Int)<=o,by rw[bV];rfl,sT ?_ (on,Yz,on,Yz,on,j)))
    .refine s3 (λ c=>(on,by rw[bC<|.inl c];rfl)) λ c=>(on,?_);exact bT TV.bl<|px.mpr BT
    .rw[Ya,iq];exact(o,O,bC<|.inr<|by rw[af];exact I)
  .rw[aQ,af] at p;exact U1 p<|tZ _
def Sg:ZR TL 36 56 (Zt 56) 3 1 Ci RA:=by
 refine(by kernel_rfl,?_);rintro K E ⟨W,T,A,os,k,w,rfl,⟨mo,S,gl,V,N⟩,q⟩;refine(on,?_);exact cl rfl (W,T,mo,A,os,_,on,S,gl,V,N,on,_,on,on,on,_,on,_,on,_,_,_,on,q) rfl
def Sh:ZX 36 56 3 1 CZ Qr:=ay <| by
 rintro j Q ⟨A,N,os,mo,rfl,K,q⟩;refine(on,?_);refine HT λ S V=>?_;obtain⟨W,gl,v,T,F,z,y⟩:=K;refine V ?_;clear V S;exact cl rfl (A,N,mo,_,os,.non,on,W,gl,T,.inl (on,F,z,y,on),on,_,on,on,on,_,on,on,q) rfl
def Si:ZX 37 58 5 2 Da Qs:=ay <| by
 rintro v Q ⟨S,V,os,b,rfl,l,y,F,t,q⟩;refine(on,?_);have N:=Bk t;have K:(cq S os).length=S.length:=by unfold cq;rw[af,N]
 refine(_,on,cl rfl (S,os,on,BT,BT,t,on,?_) rfl);have A:∀o∈os,0<=o/\o<(S.length:Int):=λ o T=>up_mem.mp<|t.subset T;have W:ai (V.map U2) (TJ (((cq S os).map U2).length:Nat)) TM=(V.drop S.length).map U2:=by rw[ag,K,eZ]
 refine(_,on,on,by rw[ag];exact aN BT,cu U2 (λ o:Int=>.int<|V.getD o.toNat 0) os (λ o T=>?_) (on,_,on,?_))
 .have:=A o T;exact(.int<|V.getD o.toNat 0,vI BT BT,on,on)
 have z:(os.map λ o:Int=>U2<|V.getD o.toNat 0)=(cq V os).map U2:=by unfold cq;rw[bV];rfl
 refine(?_,on,YI,on,?_)
 .show(os.map λ o:Int=>U2<|V.getD o.toNat 0).length+(ai (V.map U2) (TJ (((cq S os).map U2).length:Nat)) TM).length<=TW;rw[W,af,ag,cW];exact bh BT
 .show Q (.tup [tI<|cq S os,.int b,.tup<|(os.map λ o:Int=>U2<|V.getD o.toNat 0)++ai (V.map U2) (TJ (((cq S os).map U2).length:Nat)) TM]);rw[W,z,<- bG];exact q
def Sj:ZX 38 59 5 2 Db Qt:=ay <| by
 rintro F Q ⟨V,T,b,k,rfl,l,K,A,S,W,q⟩;refine(on,?_);have N:=W (V.getD k 0)<|mj S;refine(_,on,cl rfl (V,(k:Int),on,by unfold Zb;lia,on,?_) rfl);refine(_,on,.int<|T.getD k 0,dq BT,on,_,on,.int<|V.getD k 0,dq S,qR BT BT,on,_,on,?_);exact cl rfl (T,k,_,on,BT,BT,on,YI,on,q) rfl
def Sk:ZX 39 60 7 5 Dc Qu:=ay <| by
 rintro z Q ⟨W,T,b,f,m,g,k,rfl,l,F,K,N,A,S,q⟩;refine(on,?_);have V:=S;unfold w9 at V;refine(_,on,cl rfl (W,(k:Int),f,m,g,on,BT,BT,BT,by unfold Zb;lia,S,on,?_) rfl);rw[TZ];refine(_,on,.int<|T.getD k 0,dq BT,on,_,on,qR BT BT,_,on,iD BT BT,?_);exact cl rfl (T,k,_,on,BT,BT,on,YI,on,q) rfl
def Sm:ZX 40 61 4 3 Dd Qv:=ay <| by
 rintro y Q ⟨T,N,b,m,k,rfl,W,l,z,F,A,K,V,S,q⟩;refine(on,_,on,cl rfl (T,(k:Int),m,on,W,BT,V,by unfold mi;lia,BT,by rw[TZ];exact S,on,?_) rfl);rw[TZ];exact(_,on,_,on,cl rfl (N,k,0,on,BT,on,YI,on,q) rfl)
def Sn:ZX 41 62 5 2 De Qw:=ay <| by
 rintro g Q ⟨V,T,S,b,rfl,K,nl,v,j,q⟩;refine(on,?_);have y:V.length<=T.length:=by rw[<- K,bp];lia
 have W:(ai (S.map U2) TM<|TJ (((V.map U2).length:Nat):Int))=(S.take V.length).map U2:=by rw[ag,eY]
 have A:(ai (S.map U2) (TJ (((V.map U2).length:Nat):Int)) TM)=(S.drop V.length).map U2:=by rw[ag,eZ]
 have N:(TY ((((T.map U2).length:Nat):Int)-(((V.map U2).length:Nat):Int)).toNat<|UL TV.fz [U2 0]).flatten=(eX<|T.length-V.length).map U2:=by rw[ag,ag];exact Os _ _
 have l1:(S.take V.length).length<=60:=by rw[bp];lia
 have F:(S.drop V.length).length<=60:=by rw[cW];lia
 have z:(eX<|T.length-V.length).length<=6:=by rw[qK];lia
 refine(_,on,cl rfl (V,T,on,K,?_) rfl);refine(_,on,on,_,on,on,on,Zm,Cr,(by rw[ag,ag];lia,by rw[ag,ag];lia),?_,on,_,on,?_,?_,on,YI,on,?_)
 .rw[ag,ag];exact bh (by show 1*_<=1000;lia)
 .rw[W,N,ag,ag];exact bh BT
 .rw[W,A,N,aQ,ag,ag,ag];exact bh BT
 .show Q (.tup [tI T,.int b,.tup<|ai (S.map U2) TM (TJ (((V.map U2).length:Nat):Int))++(TY ((((T.map U2).length:Nat):Int)-(((V.map U2).length:Nat):Int)).toNat<|UL TV.fz [U2 0]).flatten++ai (S.map U2) (TJ (((V.map U2).length:Nat):Int)) TM]);rw[W,A,N,<- bG,<- bG];exact q
def So:ZX 42 63 4 2 Df Qx:=ay <| by
 rintro K Q ⟨V,S,b,k,rfl,l,A,N,W,q⟩;refine(on,?_);have T:(V.eraseIdx k).length=V.length-1:=by rw[rD,U0 W]
 refine(_,on,cl rfl (V,(k:Int),on,BT,by unfold Zb;lia,?_) rfl);rw[TZ];refine(on,_,on,on,_,on,cl rfl (S,k,on,BT,BT,?_) rfl);exact(.int<|S.getD k 0,dq BT,cl rfl (S.eraseIdx k,V.length-1,_,by rw[ag,T];rfl,by rw[rD];split<;>lia,on,YI,on,q) rfl)
def Sq:ZX 43 64 2 2 Dg Qy:=ay <| by
 rintro x Q ⟨d,A,S,j,b,n,rfl,i,K,o,z,v,y,q⟩;refine(on,?_);have t:=iC o;have F:=o.2.1
 cases d with
 |turn a os=>
  obtain⟨p,W,l,rfl⟩:=z;cases bS (K.symm.trans W);exact(_,on,Fr,_,on,cl rfl (A,j,os,b,on,F,v,y,l,on,q) rfl)
 |flip a s=>
  obtain⟨W,N⟩:=z;cases bS (K.symm.trans W);obtain⟨k,rfl,c⟩:=ko N;exact(_,on,Fr,_,on,Fr,_,on,cl rfl (A,j,b,k,on,F,v,y,c,o.1,on,q) rfl)
 |cut a s f m g=>
  refine HT λ T V=>?_;obtain⟨p,W,N,r,e,rfl⟩:=z;refine V ?_;clear V T;cases bS (K.symm.trans W);obtain⟨k,rfl,c⟩:=ko N;exact(_,on,Fr,_,on,Fr,_,on,Fr,_,on,_,on,_,on,_,on,cl rfl (A,j,b,f,m,g,k,on,F,v,y,c,e,r,on,q) rfl)
 |spread a s m=>
  refine HT λ T V=>?_;obtain⟨p,W,N,w,e,r,rfl⟩:=z;refine V ?_;clear V T;cases bS (K.symm.trans W);unfold mi at N;obtain⟨k,rfl⟩:∃k:Nat,s=k:=(s.toNat,BT);exact(_,on,Fr,_,on,Fr,_,on,Fr,_,on,_,on,cl rfl (A,j,b,m,k,on,t,F,v,y,BT,BT,BT,r,on,q) rfl)
 |_=>exact i.elim
def Su:ZX 44 66 1 1 Dh Qz:=ay <| by
 rintro V Q ⟨t,rfl,q⟩;refine(on,?_);cases t<;>exact(_,rfl,rfl,YI,rfl,Op,rfl,q)
def Sw:ZX 45 67 2 1 Di QA:=ay <| by
 rintro S Q ⟨t,rfl,q⟩;refine(on,?_)
 cases t with
 |pick a b c=>exact(_,rfl,rfl,trivial,rfl,q)
 |each w t|pair w a b=>exact(_,rfl,rfl,trivial,rfl,Yz,rfl,qZ,rfl,q)
 |fold w n t=>exact(_,rfl,rfl,trivial,rfl,Yz,rfl,qZ,trivial,rfl,q)
 |fetch st s r n V t=>exact(_,rfl,rfl,trivial,rfl,Yz,rfl,qZ,trivial,trivial,rfl,q)
 |_=>exact(_,rfl,rfl,trivial,rfl,Yz,rfl,qZ,trivial,trivial,rfl,Zi,rfl,q)
def Sy:ZF 46 [] 68 (Zt 68) 4 2 Dj QB:=by
 refine(by kernel_rfl,?_);rintro z N v y ⟨t,g,rfl,A,q⟩;refine(on,?_);have T:∀(p:Int×Yr) (Q:TV->Prop),p∈O1 t->Q (.tup [.int (g p.1 p.2).1,tI (g p.1 p.2).2])->∃W,(∃S,(Ft 46++[o5 [] z N])[46]?=TJ S/\S (.str "" :: .obj (.fn N)::[.int p.1,tI p.2]) W)/\∀t,W t->Q t:=λ p Q K F=>(Q,(_,rfl,.inl (_,rfl,A p K Q F)),λ _ h=>h)
 cases t with
 |idx s V=>exact(_,rfl,rfl,trivial,rfl,Zm,rfl,_,rfl,_,rfl,rfl,T (s,V) _ bn (bh (show 1+2<=1000 by decide),rfl,q))
 |read st s V=>exact(_,rfl,rfl,trivial,trivial,_,rfl,rfl,Yz,rfl,_,rfl,_,rfl,rfl,T (s,V) _ bn (bh (show 2+2<=1000 by decide),rfl,q))
 |fetch st s r n V t=>exact(_,rfl,rfl,trivial,trivial,trivial,rfl,_,rfl,_,rfl,rfl,T (s,V) _ bn (rfl,_,rfl,_,rfl,_,rfl,_,rfl,_,rfl,rfl,M8,rfl,q))
 |_=>exact(_,rfl,rfl,trivial,trivial,trivial,cl rfl (_,rfl,rfl,q) rfl)
def Sz:t9 46 68 (Zt 68) 4 2 zO .never:=(by kernel_rfl,λ _ _ h=>h.elim)
def SB:ZG 47 [("root_remade",Dj)] "remade" 69 (Zt 69) 4 2 Dk QC:=by
 refine(by kernel_rfl,λ _ _ _ (h:False)=>h,?_);rintro d m W k F ⟨t,g,rfl,o,N,q⟩;refine(on,?_);refine(on,Zi,on,cl rfl (t,on,on,?_) rfl);refine cg (λ i S=>∃y,S=[TJ<|YH t,TJ<|.obj<|.fn W,TJ<|.own<|((t5 t).take i).map λ b=>YH<|rm g b,y]) (_,on) (λ i u S A h=>?_) λ S h=>?_
 .obtain⟨y,rfl⟩:=h;rw[bc] at A;obtain⟨b,T,rfl⟩:=jQ.mp A;have K:=aH T;have j:=Om K;obtain⟨d,rfl⟩:∃v,d=v + 1:=(d-1,BT);have z:=Bt t;refine((_,on,.inr ("remade",_,Cl,on,.inl rfl)),on,_,(_,on,.inr ("remade",_,Cl,on,.inr (_,on,b,g,on,BT,λ p V=>N p<|On K p V,on,?_,TJ<|YH b,?_))),λ _ h=>h)
  .rw[af,bp];exact aN BT
  .show[TJ<|YH t,TJ<|.obj<|.fn W,TJ<|TV.own<|((t5 t).take i).map (λ b=>YH<|rm g b)++[YH<|rm g b],TJ<|YH b]=_;rw[jv,T,bG];rfl
 .obtain⟨y,rfl⟩:=h;rw[af,bP];have z:=Bt t;have c:=Oq<|rm g t;refine((_,on,.inr ("root_remade",_,Cl,on,.inl rfl)),on,_,(_,on,.inr ("root_remade",_,Cl,on,.inr (_,on,t,g,on,λ p V=>N p<|Oo p V,?_,on,?_))),λ _ h=>h)
  .rw[af];exact bh BT
  .show F (.tup<|G6 (rm g t)++(t5 t).map λ b=>YH<|rm g b);rw[Ol];exact q
def SC:t9 47 69 (Zt 69) 4 2 zO .never:=(by kernel_rfl,λ _ _ h=>h.elim)
def SD:ZX 90 71 1 1 Dl QD:=ay <| by
 rintro v Q ⟨W,K,os,mo,rfl,N,q⟩;refine(on,?_);refine HT λ S V=>?_;obtain⟨_,gl,F,T,z,y,A⟩:=N;refine V ?_;clear V S;exact(_,on,_,on,cl rfl (_,W,os,on,on,T,A,oG gl,on,q) rfl)
def SE:ZX 91 72 6 1 Dm QE:=ay <| by
 rintro I Q ⟨V,s,os,mo,rfl,b,q⟩;refine(on,?_);refine HT λ T S=>?_;obtain⟨_,gl,Z,n,B,G,E⟩:=id b;refine S ?_;clear S T;have M:=BB V os;refine(_,on,on,on,by rw[af];exact aN BT,λ o D g=>?_);rw[af] at g;rw[g];refine cl rfl (V,s,os,mo,on,b,on,?_) rfl;refine cg (λ i A=>∃v W N,A=[TJ<|.tup [.tup<|V.map Yv,tI os],TJ<|.tup<|V.map Yv,TJ<|.obj<|.lls o<|Zk V<|(aE V os).take i,v,W,N]) (_,_,_,on) (λ i t A y h=>?_) λ A h=>?_
 .refine HT λ T S=>?_;obtain⟨v,W,N,rfl⟩:=h;obtain⟨u,rfl,z⟩:=vO y;refine S ?_;clear S T;have x:=(mem_reach.mp<|aH z).1;have F:=gj x;have st:=oH (ds:=V) z;have O:=(aP.mp z).1;have l:=rk (ds:=V) (live:=aE V os) i;have w:=rg V<|(aE V os).take i;rw[st];have r:=oG gl _<|aH F;generalize V.getD u (.num 0)=d at F r;generalize Zk V ((aE V os).take i)=U at *;refine(Yv d,aC F,cl rfl (d,on,on,?_) rfl);refine cg (λ j A=>∃W N,A=[TJ<|.tup [.tup<|V.map Yv,tI os],TJ<|.tup<|V.map Yv,TJ<|.obj<|.lls o<|Zf u ((ao d).take j) U,TJ<|.int u,W,N]) (_,_,on) (λ j t A y h=>?_) λ A h=>?_
  .refine HT λ T S=>?_;obtain⟨W,N,rfl⟩:=h;obtain⟨c,rfl,k⟩:=Ob y;refine S ?_;clear S T;rw[bc] at k;obtain⟨a,K,rfl⟩:=jQ.mp k;have p:=r a<|aH K;have Y:=(aP.mp K).1;have a3:=BA d;have L:(Zf u ((ao d).take j) U).length=V.length:=by rw[rf,w]
   have e:=rh (u:=u) (as:=ao d) l j;have m:(Zf u ((ao d).take j) U)[a]?=TJ ((Zf u ((ao d).take j) U).getD a []):=by rw[aG,aZ BT];rfl
   have J:=e _<|aH m;exact(a,_,on,m,BT,on,Yz,[(u:Int),(j:Int)],on,_,_,by rw[jD K];rfl)
  .obtain⟨W,N,rfl⟩:=h;rw[mI,af,af,bP];exact(_,_,_,on)
 .obtain⟨v,W,N,rfl⟩:=h;rw[af,bP];exact(on,q)
def D5:ZH 45 92 73 (Zt 73) ["start","strides","sides","move"] ["start","strides"] [1,2] 3 4 3 (Dk 42) rK QF QG:=by
 refine(by kernel_rfl,?_);rintro d K g v ⟨t,S,h,rfl,z,y,q⟩;refine(on,?_);refine(on,[tI S,.obj<|.fn K],λ V Q=>∃p∈YV t,V=[.int p.1,tI p.2]/\Q (.tup [.int (h p.1 p.2).1,tI (h p.1 p.2).2]),_,on,λ u N=>?_,(t,h,on,z,λ p T Q W=>(p,T,on,W),on),?_,λ t e=>e ▸ q)
 .rcases aD.mp N with rfl|N
  .exact .inl<|oE S
  .cases aK.mp N;exact .inr (K,rfl)
 .rintro V F ⟨p,T,rfl,W⟩;obtain⟨j,A⟩:=y p T;exact(on,on,on,YI,on,_,(_,on,.inl (_,on,A _ (on,W))),λ _ h=>h)
def SH:t9 92 73 (Zt 73) 3 3 zO .never:=(by kernel_rfl,λ _ _ h=>h.elim)
def D6:ZM 44 93 74 (Zt 74) ["view","longer"] ["view"] [2] 3 2 3 rK Dn QH QI QJ:=ay <| by
 rintro j Q ⟨t,S,L,rfl,K,F,T,v,y,q⟩;refine(on,on,[tI L],λ V Q=>∃p∈YV t,V=[Zj S p.1 p.2]/\Q (Zj L p.1 (iE S.length (L.length-S.length) p.1 p.2).2),_,on,λ u z=>?_,(t,S,iE S.length<|L.length-S.length,on,K,λ p T=>(L,λ Q N=>(p,T,on,N)),on),?_,λ t e=>e ▸ q)
 .cases aK.mp z;exact .inl<|oE L
 .rintro V A ⟨p,W,rfl,N⟩;exact(on,cl rfl (S,L,p.2,p.1,on,T,v,y,(F p W).2,on,N) rfl)
def D7:ZM 44 94 75 (Zt 75) ["view","side"] ["view"] [2] 3 2 3 rK Do QK QL QM:=ay <| by
 rintro j Q ⟨t,S,k,rfl,K,N,v,y,q⟩;refine(on,on,[.int k],λ V Q=>∃p∈YV t,V=[Zj S p.1 p.2]/\Q (Zj (S.eraseIdx k) p.1 (jC S.length k p.1 p.2).2),_,on,λ u z=>?_,(t,S,jC S.length k,on,K,λ p F=>(S.eraseIdx k,λ Q W=>(p,F,on,W)),on),?_,λ t e=>e ▸ q)
 .cases aK.mp z;exact .inl (by simp[LF])
 .rintro V A ⟨p,T,rfl,W⟩;exact(on,cl rfl (S,p.2,p.1,k,on,v,(N p T).1,(N p T).2,y,on,W) rfl)
def SI:ZX 95 76 2 2 Dp QN:=ay <| by
 rintro T Q ⟨st,S,rfl,V,l,q⟩;refine(on,?_);exact cl rfl (S,on,V,l,on,Zu,on,q) rfl
def SJ:ZX 96 77 8 4 Dq QO:=ay <| by
 rintro p Q ⟨a,b,n,r,B,S,V,st,s,t,o,c,rfl,z,y,T,W,d,m,F,K,g,v,j,q⟩;refine(on,?_);have N:ai (V.map U2) (TJ 1) TM=(V.drop 1).map U2:=eZ V 1;have A:(TY (((B.map U2).length:Nat):Int).toNat<|UL TV.fz [U2 0]).flatten=(eX B.length).map U2:=by rw[ag];exact OB _
 refine(_,on,YH<|.read st s V,aC T,on,_,on,tI B,aC y,on,on,Zm,Cr,(by rw[ag];lia,by rw[ag];lia),by rw[ag];exact bh (by show 1*_<=1000;lia),_,on,?_,on,_,on,YH t,aC W,?_)
 .rw[A,N,ag,ag,qK,cW];exact bh BT
 .refine cl rfl (t,B,S,on,v,j,g,F,K,on,_,on,_,on,_,on,_,(show YX (V.map U2) 0=TJ (.int<|V.getD 0 0) from dq (k:=0) d),_,on,tI<|n::r,aC z,.int n,dq (ns:=n::r) (k:=0) Cr,on,M9,on,?_) rfl;show Q (.tup [.str "fetch",.int st,.int s,.int<|V.getD 0 0,.int n,.tup<|(TY (((B.map U2).length:Nat):Int).toNat<|UL TV.fz [U2 0]).flatten++ai (V.map U2) (TJ 1) TM,YH<|rm (iE B.length<|S.length-B.length) t]);rw[A,N,<- bG];exact q
def D8:ZN 44 97 5 78 (Zt 78) ["view","step"] ["view"] [0] 8 2 4 rK Dr QP QR Ds QS QT:=ay <| by
 rintro ts Q ⟨d,S,F,v,rfl,O,Y,fs,⟨c,J,U⟩,q⟩;refine(on,?_);have H:=fs.2.1;have sd:=iC fs
 rcases Bool.eq_false_or_eq_true (BH d) with hl|n
 .refine HT λ T V=>?_;obtain⟨m,c1,c2,c3,a3,e⟩:=Oy (Ts:=v) (Ss:=F) (S:=S) hl;refine V ?_;clear V T;rw[e] at q;refine(_,dF d,on,cl rfl (d,on,on,Fr,sF c1 (Fr,sF c2 (on,YI,on,mD,sT c3 (on,by rw[af,af];exact aN BT,qS (l:=ao d) (f:=λ a:Nat=>U2 (a:Int)) (bV ..) (λ a=>YH<|cK v F S a) (λ a ha=>?_) (bh a3.2,on,q))))) rfl);refine HT λ T V=>?_;obtain⟨t,A,K,W,y⟩:=c a ha;obtain⟨A',R,L⟩:=BK O m a ha;refine V ?_;clear V T;cases W.symm.trans R;have a6:=(Y A<|aH W).2.1;have w:=rn y a6<|ax _;exact(YH t,aC K,tI A,aC W,cl rfl (t,A,S,on,w.1,w.2,L,a6,H,on,by unfold cK;rw[fg K,ZW W];rfl) rfl)
 have P:B1 d->∀D:Q<|Zn<|gq v F S d,∀t A,v[(ao d).headD 0]?=TJ (TJ t)->F[(ao d).headD 0]?=TJ A->x9 40 A t->Q (YH<|rm (eJ A d) t)/\fit A/\YK t<=41/\∀(N:List TV) (o:TV->Prop),(∃p∈YV t,N=[Zj A p.1 p.2]/\o (Zj S (eJ A d p.1 p.2).1 (eJ A d p.1 p.2).2))->N.length=1/\wE (YM DL 44) GT Ds (YY 2<|N++[Yv d]) λ u=>u.pl=TK/\o u:=λ m D t A K W y=>by
  have M:=Y A<|aH W;have w:=rn y M.2.1<|ax _;refine(?_,M,w.1,?_)
  .rw[BJ m,fg K,ZW W] at D;exact D
  .rintro N o ⟨p,L,rfl,C⟩;have I:=w.2 p L;exact(on,cl rfl (d,A,S,p.2,p.1,F,on,m,W,M,O,I.1,I.2,on,C) rfl)
 rcases Classical.em (B1 d) with m|m
 .refine HT λ T V=>?_;obtain⟨a,g,c1,c2,c3,c4⟩:=BG m;obtain⟨t,A,K,W,y⟩:=c a (by rw[g];exact bn);obtain⟨D,M,hd,hw⟩:=P m q t A (by rw[g];exact K) (by rw[g];exact W) y;refine V ?_;clear V T;have u0:YX (((ao d).map λ a:Nat=>(a:Int)).map U2) 0=TJ (.int a):=by rw[g];rfl
  exact(_,dF d,on,cl rfl (d,on,on,Fr,sF c1 (Fr,sF c2 (on,YI,on,mD,sF c3 (on,Zu,on,oK,sT c4 (_,u0,YH t,aC K,_,u0,tI A,aC W,on,[Yv _],λ N Q=>∃p∈YV t,N=[Zj A p.1 p.2]/\Q (Zj S (eJ A _ p.1 p.2).1 (eJ A _ p.1 p.2).2),_,on,λ u hu=>by cases aK.mp hu;exact .inl<|Bo _,(t,A,eJ A _,on,hd,λ p L=>(S,λ Q C=>(p,L,on,C)),on),hw,λ t e=>e ▸ D))))) rfl)
 cases d with
 |num n=>exact(_,rfl,rfl,cl rfl (_,rfl,rfl,trivial,rfl,q) rfl)
 |count ms k=>
  refine(_,on,on,cl rfl (_,on,on,Fr,Fr,(by rw[ag];lia,by rw[ag];lia),by rw[af,bZ,ag,TZ];exact aN BT,cu (λ i:Nat=>.int (i:Nat)) (λ j:Nat=>.int<|if (j:Int)=k then 1 else 0) (Ub (((S.map U2).length:Nat):Int).toNat) (λ j hj=>(_,on,Fr,sN (λ h=>(on,by rw[U0 h];rfl)) λ h=>(on,by rw[T9 h];rfl))) (on,YI,on,?_)) rfl);have e:(Ub (((S.map U2).length:Nat):Int).toNat).map (λ j:Nat=>U2<|if (j:Int)=k then 1 else 0)=((Ub S.length).map λ j:Nat=>if (j:Int)=k then (1:Int) else 0).map U2:=by rw[ag,TZ,bV];rfl
  show Q (.tup [.str "index",.int 0,.tup _]);rw[e];exact q
 |each|pair|pick=>cases n
 |turn|flip|cut|spread=>exact U1 trivial m
 |lay a ms=>
  refine HT λ T V=>?_;obtain⟨t,A,K,W,y⟩:=c a (by simp[ao]);obtain⟨st,s,x,e⟩:=J a ms rfl;refine V ?_;clear V T;rw[fg K] at e;subst e;refine(_,on,on,cl rfl (_,on,on,Fr,Fr,on,YI,on,mD,on,Zu,on,oK,Fr,_,on,YH<|.read st s x,aC K,_,on,cl rfl (st,S,on,sd,BT,on,?_) rfl) rfl);have z:Q<|YH<|.read (BC<|gt v a) 0<|gk S:=q;rw[fg K] at z;exact z
 |fetch a b=>
  refine HT λ T V=>?_;obtain⟨t,A,K,W,y⟩:=c a (by simp[ao]);obtain⟨t',B,Z,E,X⟩:=c b (by simp[ao]);obtain⟨n,r,B',g,n0,eb,nb,rfl⟩:=O;refine V ?_;clear V T;cases E.symm.trans eb;cases W.symm.trans g;obtain⟨st,s,x,e⟩:=U a b rfl;rw[fg K] at e;subst e;have a6:(n::r).length<=6:=(Y _<|aH W).2.1;have b6:=(Y B<|aH E).2.1;have I:=y.2 (s,x) bn;have G:=rn X b6<|ax _;have l1:(n::r).length<=x.length/\x.length<=(n::r).length+0:=I;rw[Up] at l1 a6;refine(_,on,on,cl rfl (_,on,on,Fr,Fr,on,YI,on,mD,on,Zu,on,oK,Fr,Fr,cl rfl (a,b,n,r,B,_,x,st,s,t',F,v,on,W,E,K,Z,BT,BT,b6,H,Xn,G.1,G.2,on,?_) rfl) rfl);have z:Q<|YH<|oJ (gt v a) (YE F a) (YE F b)<|cK v F (B++r) b:=q;unfold cK at z;rw[fg K,fg Z,ZW W,ZW E] at z;exact z
 |fold w a side=>
  refine HT λ T V=>?_;obtain⟨t,A,K,W,y⟩:=c a (by simp[ao]);obtain⟨A',g,hw,no,rfl⟩:=O;refine V ?_;clear V T;cases W.symm.trans g;obtain⟨k,rfl,kl⟩:=ko no;have a6:=(Y A<|aH W).2.1;have G:=rn y a6<|ax _;refine(_,on,on,cl rfl (_,on,on,Fr,Fr,on,YI,on,mD,on,Zu,on,oK,Fr,Fr,Fr,_,on,tI A,aC W,on,_,on,_,on,.int<|A.getD k 0,dq kl,_,on,YH t,aC K,_,on,cl rfl (t,A,k,on,G.1,G.2,a6,kl,on,Zu,on,?_) rfl) rfl);have z:Q<|YH<|.fold w ((YE F a).getD k 0)<|rm (jC (YE F a).length k)<|gt v a:=q;rw[fg K,ZW W] at z;exact z
 |_=>exact(_,rfl,rfl,cl rfl (_,rfl,rfl,trivial,trivial,rfl,YI,rfl,mD,rfl,Zu,rfl,oK,trivial,trivial,trivial,rfl,q) rfl)
def SK:ZX 98 79 6 4 Dt QU:=ay <| by
 rintro v Q ⟨y,F,k,u,p,d,S,A,rfl,T,W,N,q⟩;refine(on,?_);unfold gu at q;rw[gD T,ZW W,ZW N] at q;have K:Q (.bl<|decide<|(((S.map U2).length:Nat):Int)<(((A.map U2).length:Nat):Int))->Q (.bl<|decide<|(S.length:Int)<(A.length:Int)):=λ z=>by rw[ag,ag] at z;exact z
 have V:Q (.bl<|decide<|(S.length:Int)<(A.length:Int))->Q (.bl<|decide<|(((S.map U2).length:Nat):Int)<(((A.map U2).length:Nat):Int)):=λ z=>by rw[ag,ag];exact z
 cases d with
 |pair w a b|pick a b c=>exact(_,rfl,Yv _,aC T,_,rfl,rfl,rfl,Yz,rfl,vP,rfl,_,rfl,tI A,aC W,tI S,aC N,rfl,V q)
 |fetch a b=>
  have q:Q<|.bl<|decide (p=1)&&decide ((S.length:Int)<(A.length:Int)):=q;refine(_,on,Yv _,aC T,_,on,on,on,Yz,on,vP,Fr,_,on,Fr,on,?_);refine s2 (λ h=>?_) λ h=>?_
  .have h:decide (p=1)=TK:=h;rw[h] at q;exact(_,on,tI A,aC W,tI S,aC N,on,V q)
  .have h:decide (p=1)=TL:=h;rw[h] at q;exact(on,q)
 |_=>exact(_,rfl,Yv _,aC T,_,rfl,rfl,rfl,Yz,rfl,vP,trivial,rfl,rfl,q)
def SL:ZX 99 80 7 5 Du QV:=ay <| by
 rintro Y Q ⟨V,z,os,k,d,o,T,S,rfl,W,i,Z,v,U,g,l,q⟩;refine(on,?_)
 cases j:rC d with
 |true=>
  cases d with
  |inp m=>exact U1 rfl<|l m
  |lay a m=>
   obtain⟨t,rfl⟩:=g λ h=>h;exact(_,on,on,Yv _,aC W,_,on,Fr,on,q)
  |run w a s|join a b s=>cases o<;>exact(_,rfl,rfl,Yv _,aC W,_,rfl,trivial,Yv _,aC W,_,rfl,rfl,Yz,rfl,vQ,rfl,q)
  |_=>exact TN j
 |false=>
  refine HT λ y A=>?_;obtain⟨n,c1,c2,e⟩:=BL j;obtain⟨t,rfl⟩:=g n;refine A ?_;clear A y;rw[e] at q;unfold kB at q;refine(_,on,on,Yv _,aC W,_,dF d,Fr,sF c1 (Yv _,aC W,_,dF d,on,Yz,on,vQ,sF c2 (_,on,on,O0 os,s2 (λ h=>(on,by rw[U0 h] at q;exact q)) λ h=>?_)));rw[T9<|by rw[h];decide] at q;refine(by rw[af];exact aN BT,cu kT (λ x=>.str<|ZY V x) T (λ x K=>?_) (on,?_))
  .obtain⟨u,p,rfl,F⟩:=v x K;exact(_,on,Yv _,aC<|gj F,_,dF _,on,on)
  refine(on,R8 V T,s2 (λ h=>(on,by rw[U0 h] at q;exact q)) λ h=>?_);rw[T9<|by rw[h];decide] at q
  have N:Q (.bl<|rB V z k t T)->wS (YM DL 99) GT ((.r (.c1 44 V1) (.c<|.bl TL)<|.ret<|.or (.gt (.ln V4) N1)<|.or (.cmp .In (.w "spread") V6)<|.b1 .any<|.comp ["use"] ["k","steps","sides"] [0,5,3] [0] .seq (.a1 V4)<|.call 98<|.cons V1<|.cons V0<|.cons V2<|.cons V3 .nil)) [TJ<|.int k,TJ<|YH t,TJ<|.tup [.tup<|V.map Yv,tI os],TJ<|.tup<|z.map tI,TJ<|.lst<|T.map kT,TJ<|.tup<|V.map Yv,TJ<|.own<|d9 V T] (λ _=>Q .non) Q:=λ q=>by
   unfold rB at q;refine cl rfl (t,on,s2 (λ h=>(on,?_)) λ h=>?_) rfl
   .have h:oM t=TK:=by cases t<;>exact h
    rw[U0 h] at q;exact q
   have h:oM t=TL:=by cases t<;>exact h
   rw[T9<|by rw[h];decide] at q;refine s2 (λ h=>(on,?_)) λ h=>?_
   .have h:decide (1<(T.length:Int))=TK:=by rw[<- af (f:=kT)];exact h
    rw[U0 h] at q;exact q
   have h:decide (1<(T.length:Int))=TL:=by rw[<- af (f:=kT)];exact h
   rw[T9<|by rw[h];decide] at q;refine(on,R8 V T,s2 (λ h=>(on,by rw[U0 h] at q;exact q)) λ h=>?_);rw[T9<|by rw[h];decide] at q;refine(by rw[af];exact aN BT,cu kT (λ x=>.bl<|gu V z k (x.getD 0 0).toNat<|x.getD 1 0) T (λ x K=>?_) (_,BM _ T,on,q));obtain⟨u,p,rfl,F⟩:=v x K;exact cl rfl (V,z,k,u,p,_,S,_,on,gj F,aZ BT,i,on,on) rfl
  refine(_,trK t,Fr,s2 (λ h=>?_) λ h=>N<|by rw[T9<|by rw[T9<|by rw[show(!_L.eqT (U4<|z5 t) (.str "read"))=TL from h];decide];decide] at q;exact q);rw[U0<|show(!_L.eqT (U4<|z5 t) (.str "read"))=TK from h] at q;refine(by rw[af];exact aN BT,cu kT (λ x=>.bl<|gv V x) T (λ x K=>?_) (_,BM _ T,s2 (λ h=>(on,by rw[U0 h] at q;exact q)) λ h=>N<|by rw[T9<|by rw[h];decide] at q;exact q));obtain⟨u,p,rfl,F⟩:=v x K;unfold gv;refine(_,on,Yv _,aC<|gj F,_,dF _,Fr,s2 (λ h=>?_) λ h=>?_)
  .rw[U0<|show _L.eqT (U4<|ZY V [(u:Int),(p:Int)]) (.str "fetch")=TK from h];exact(_,on,Fr,on,on)
  .rw[T9<|by rw[show _L.eqT (U4<|ZY V [(u:Int),(p:Int)]) (.str "fetch")=TL from h];decide];exact(on,on)
def SM:ZX 100 81 11 2 Dv QW:=ay <| by
 rintro ts Q ⟨V,S,os,mo,rfl,b,q⟩;refine(on,?_);refine HT λ N T=>?_;obtain⟨s,gl,P,c,X,H,u⟩:=id b;refine T ?_;clear T N;have Y:=NT gl s;refine(_,on,on,cl rfl (V,S,os,mo,on,b,on,cl rfl (V,S,os,mo,on,b,on,on,Zi,on,on,Zi,on,on,Zi,on,on,?_) rfl) rfl);refine cg (λ i j=>∃a Z K,j=S1 V S os ((YB V S os i).Ts.map Zn) ((YB V S os i).Bs.map Zn) ((YB V S os i).st.map λ k=>.int (k:Nat)) [a,Z,K]) (_,_,_,on) (λ i t j I h=>?_) λ j h=>?_
 .refine HT λ N T=>?_;obtain⟨a,Z,K,rfl⟩:=h;obtain⟨d,rfl,F⟩:=oO I;refine T ?_;clear T N;have L:=(aP.mp F).1;have v:S[i]?=TJ (YE S i):=by unfold YE;rw[aG,aZ<|by rw[<- gl.1];exact L];rfl
  have x:∀n:Nat,n<=50->n<TW:=λ n h=>aN BT;have m:fit<|YE S i:=Y _<|aH v;have A:=OJ i<|aE V os;have J:=vY (os:=os) gl c i BT;obtain⟨l1,B,O⟩:=oN V S os i;have st:YB V S os (i+1)=if e6 V S os (YB V S os i).Ts i=TK then ((YB V S os i).Ts++[TJ<|.read ((YB V S os i).st.length:Nat) 0<|gk<|YE S i],(YB V S os i).Bs++[cL V S os (YB V S os i).Ts i],(YB V S os i).st++[i]) else ((YB V S os i).Ts++[cL V S os (YB V S os i).Ts i],(YB V S os i).Bs++[cL V S os (YB V S os i).Ts i],(YB V S os i).st):=rfl;generalize YB V S os i=p at st J l1 B O ⊢;have D:e6 V S os p.Ts i=(fT d || (decide (i∈aE V os)&&kD V S os i d (cL V S os p.Ts i) ((bD V os).getD i []))):=by unfold e6;rw[gD F]
  have r:i∈aE V os->cL V S os p.Ts i=gq p.Ts S (YE S i) d:=λ W=>by unfold cL;rw[U0 W,gD F]
  have U:i ∉ aE V os->cL V S os p.Ts i=TM:=λ W=>T9 W;generalize cL V S os p.Ts i=o at st D r U;rw[D] at st;refine OQ (Zn o) (on,BP _,s2 (λ h=>?_) λ h=>by rw[U<|iL<|A.symm.trans h];rfl) ((OP _).1,BR rfl rfl (by rw[af,B];exact x _ BT) ?_)
  .have W:=au<|A.symm.trans h;have y:=(vX gl BT J W).2;rw[gD F] at y;exact(tI<|YE S i,aC v,ZL rfl (d,_,S,p.Ts,on,R9<|gl.2.2 i _ _ F v,Y,m,y,Oz _,by rw[r W]))
  refine kA (λ j=>∃w g,YB V S os (i+1)=(p.Ts++[w],p.Bs++[o],g)/\j=S1 V S os (p.Ts.map Zn) (p.Bs.map Zn++[Zn o]) (g.map λ k=>.int (k:Nat)) [TJ<|.int i,TJ<|Yv d,TJ<|Zn w]) (OR (_,dF d,Fr,bT TV.bl<|BQ d) (λ E=>OS (on,BP _,bT TV.bl A) (λ W=>?_) rfl)<|s2 (λ h=>?_) λ h=>(o,p.st,by rw[st,T9<|by rw[h];decide],on)) λ C h=>?_
  .have W:=au W;have G:i<(bD V os).length:=by rw[show bD V os=Zk V (aE V os) from rfl,rg];exact L
   have R:((bD V os).getD i []).length<=900:=by
    have z:=rk (ds:=V) (live:=aE V os) (aE V os).length;rw[bP] at z;have rl:=BB V os;have:=z ((bD V os).getD i []) (by rw[aG,aZ G];exact lG _);lia
   have M:¬mE d->∃t,o=TJ t:=λ h=>by rw[r W];exact rF h
   cases o<;>exact(.lst<|((bD V os).getD i []).map kT,aC (f:=λ l:LL=>TV.lst<|l.map kT) (by rw[aG,aZ G];rfl),cl rfl (V,S,os,i,d,_,_,YE S i,rfl,F,v,gl.1,OH,R,M,OO E,rfl) rfl)
  .exact(tI<|YE S i,aC v,cl rfl (_,_,on,iC m,by have:=m.2.1;lia,on,on,by rw[af];exact x _ BT,_,_,by rw[st,U0 h],by rw[bG,af];rfl) rfl)
  obtain⟨w,g,e,rfl⟩:=h;exact BR rfl rfl (by rw[af,l1];exact x _ BT) (_,_,_,by rw[e,bG,bG];rfl)
 obtain⟨a,Z,K,rfl⟩:=h;rw[mI,af];exact(on,YI,on,q)
def SN:ZR TL 101 82 (Zt 82) 2 1 Cj RB:=by
 refine(by kernel_rfl,?_);rintro N E ⟨T,V,W,os,k,w,rfl,S,q⟩;refine(on,?_);exact(_,(_,on,T,V,W,os,k,w,on,S,on),λ n h=>h ▸ q)
def SQ:ZX 101 82 2 1 Dw QX:=ay <| by
 rintro m Q ⟨V,S,os,mo,rfl,N,q⟩;refine(on,?_);refine HT λ W T=>?_;obtain⟨z,gl,v,K,d,o,c⟩:=id N;refine T ?_;clear T W;have A:=BS (ds:=V) (Ss:=S) (os:=os) V.length;obtain⟨l1,j,g⟩:=oN V S os V.length;refine cl rfl (V,S,os,mo,on,N,cl rfl (V,S,os,mo,on,N,?_) rfl) rfl;generalize YB V S os V.length=p at *;refine(_,on,on,by rw[af];exact aN BT,gQ (λ k:Nat=>.int (k:Nat)) (λ k:Nat=>.int (k:Nat)) (λ k=>!fT (V.getD k<|.num 0)) p.st rfl (λ k F=>?_) (on,q));have y:=(A k F).1;refine(_,on,Yv _,aC<|gj y,_,dF _,Fr,?_,λ _=>(on,on));exact bT (λ b=>TV.bl<|!b)<|BQ _
def SR:ZX 102 84 3 1 Dx QY:=ay <| by
 rintro K Q ⟨t,T,rfl,A,N,q⟩;refine(on,?_)
 rcases A with rfl|rfl
 .refine(on,on,cg (λ i V=>∃y,V=[TJ<|tI T,TJ<|.int<|ah<|T.take i,y]) (_,on) (λ i u V W (y,e)=>?_) λ V (y,e)=>?_)
  .subst e;obtain⟨n,rfl,S⟩:=jB W;have b:=N n<|aH S;exact(iD BT BT,on,TJ<|.int n,by rw[oh S];rfl)
  .subst e;rw[ag,bP];exact(on,q)
 .refine(on,on,cg (λ i V=>∃y,V=[TJ<|lI T,TJ<|.int<|ah<|T.take i,y]) (_,on) (λ i u V W (y,e)=>?_) λ V (y,e)=>?_)
  .subst e;obtain⟨n,rfl,S⟩:=jB W;have b:=N n<|aH S;exact(iD BT BT,on,TJ<|.int n,by rw[oh S];rfl)
  .subst e;rw[ag,bP];exact(on,q)
def SU:ZX 103 85 1 1 Dy QZ:=ay <| by
 rintro W Q ⟨V,rfl,S,l,q⟩;refine(on,by rw[ag];exact aN BT,cu .int (λ n=>.int<|ak n) V (λ n T=>(on,?_))<|cl rfl (_,V.map ak,on,.inr (by unfold lI;rw[bV];rfl),AJ S,on,q) rfl);rw[<- vB (S n T).1];rfl
def SW:ZX 104 86 1 1 Dz Ra:=ay <| by
 rintro S Q ⟨n,rfl,q⟩;refine(on,?_);have V:aO n 17=n%17:=U0 Cl;unfold oj at q;refine(Cl,Fr,sN (λ h=>?_) λ h=>?_)
 .rw[V] at h;rw[U0 h] at q;have e:aO (aX n 17) 4=n/17%4:=by rw[show aX n 17=n/17 from U0 Cl];exact U0 Cl
  exact(G3,G3,p62,on,Zu,(Cl,Cl,Cl),Cl,.int _,(by rw[e];exact Oc BT BT),on,q)
 .rw[V] at h;rw[T9 h] at q;exact(G3,R4,Cl,G3,on,q)
def SX:ZX 105 87 2 2 DA Rb:=ay <| by
 rintro z Q ⟨V,d,rfl,l,K,q⟩;refine(on,Cl,Fr,sN (λ h=>?_) λ h=>?_)
 .obtain⟨k,e,W⟩:=qV (aX d 3) l;exact((Cl,Cl,Cl),by rw[ag];lia,.int<|V.getD k 0,by rw[e];exact dq W,on,q _<|mj W)
 .refine HT λ T S=>?_;obtain⟨m,N,A,F⟩:∃m:Nat,(if (((V.map U2).length:Nat):Int)<3 then (((V.map U2).length:Nat):Int) else 3)=m/\0<m/\m<=V.length:=if c:(V.length:Int)<3 then (_,by rw[ag,U0 c],l,ax _) else (3,by rw[ag,T9 c];rfl,Cl,BT);obtain⟨k,e,W⟩:=oB (aX d 3) A;refine S ?_;clear S T;exact((Cl,Cl,Cl),by rw[N];lia,.int<|V.getD (V.length-1-k) 0,by rw[N,e,ag,show(V.length:Int)-1-k=((V.length-1-k:Nat):Int) by lia];exact dq BT,on,q _<|mj BT)
def SY:ZX 106 88 9 4 DB Rc:=ay <| by
 rintro R Q ⟨b,n,S,mo,rfl,W,q⟩;refine(on,?_);have I:=W.1;have O:=W.2;refine(Fr,sN (λ c=>cl rfl (S,on,on,Yz,on,Zi,on,Yz,on,q (.num<|oj S) [] (λ _=>(on,Nd S))<|qP W) rfl) λ c=>?_);have L:0<=aO (aX n 15) 5/\aO (aX n 15) 5<5:=by rw[cR Cl];lia
 refine(on,Zi,on,(Cl,Cl,Cl),on,Cl,on,(BT,BT),?_);refine cg (λ i p=>∃(V:Yr) (v:Int) (g d o:Option TV),aW mo V/\V.length=i/\p=[TJ<|.int b,TJ<|.int n,TJ<|.int S,TJ<|.int mo,TJ<|tI V,TJ<|.int v,g,d,o]) ([],_,_,_,_,qP W,on,on) (λ i t p Y h=>?_) λ p h=>?_
 .refine HT λ F A=>?_;obtain⟨V,v,g,d,o,K,e,rfl⟩:=h;obtain⟨E,rfl⟩:=oz Y;refine A ?_;clear A F;have s:cF V:=λ n Z=>by have:=K.1 n Z;exact(BT,BT)
  have l:=K.2.2;have D:1<=mo/ah (V.map ak):=vC l.1 l.2;have w:aX mo (ah<|V.map ak)=mo/ah (V.map ak):=Bn BT;have a:=λ n=>vE (n:=n) K BT;obtain⟨x,U,j⟩:=Og (aO (aX v 5) 7) (by rw[cR Cl];lia) (by rw[cR Cl];lia);refine((Cl,Cl,Cl),on,cl rfl (V,on,s,BT,(BT,BT,BT),on,on,M9,Cl,.int x,U,on,?_) rfl);rw[w];generalize mo/ah (V.map ak)=m at *
  have N:∀x:Int,0<=x->x<=m->(V.map U2).length + [U2 x].length<=TW/\(U3<|V.map U2++[U2 x]).nb=TK/\∃(y:Yr) (r:Int) (g d o:Option TV),aW mo y/\y.length=i+1/\[TJ<|U2 b,TJ<|.int n,TJ<|.int S,TJ<|.int mo,TJ<|U3<|V.map U2++[U2 x],TJ<|.int<|aX v 5,TJ<|.int (i:Nat),TJ<|.int m,TJ<|.int x]=[TJ<|.int b,TJ<|.int n,TJ<|.int S,TJ<|.int mo,TJ<|tI y,TJ<|.int r,g,d,o]:=λ x j J=>
   (bh (show(V.map U2).length+1<=1000 by rw[ag];lia),rfl,V++[x],_,_,_,_,a x j J,by rw[aQ,e];rfl,by unfold tI;rw[bG];rfl)
  exact(Cl,Fr,sN (λ _=>(on,on,Zm,N m BT<|jN _)) λ _=>(on,Zm,N _ (by split<;>lia)<|by split<;>lia))
 .refine HT λ F A=>?_;obtain⟨V,v,g,d,o,K,e,rfl⟩:=h;refine A ?_;clear A F;refine(Fr,sN (λ _=>(on,Yz,on,Yz,on,q (.inp V) V (λ _=>(on,qN<|jz K W)) K)) λ _=>(on,Zi,j7 V,?_))
  have N:∀T:Yr,aW mo T->0<T.length->((15:Int)≠0/\-18446744073709551616<(15:Int)/\(15:Int)<1606938044258990275541962092341162602522202993782792835301376)/\(((T.map U2).length:Nat):Int)≠0/\[U4 "count",tI T,U2<|aO (aX n 15) ((T.map U2).length:Nat)].all TV.nb=TK/\3<=TW/\[U3 [U4 "count",tI T,U2<|aO (aX n 15) ((T.map U2).length:Nat)],tI T].all TV.nb=TK/\2<=TW/\TK=TK/\Q (.tup [U3 [U4 "count",tI T,U2<|aO (aX n 15) ((T.map U2).length:Nat)],tI T]):=λ T K M=>by
   refine((Cl,Cl,Cl),by rw[ag];lia,on,YI,on,Yz,on,?_);rw[ag,cR BT];have B:=oC (aX n 15) (show(T.length:Int)≠0 by lia);have G:=qU (aX n 15) (show(0:Int)<T.length by lia);exact q (.count T<|aX n 15%T.length) T (λ _=>(on,qN<|jz K W,λ z=>by unfold Zb at z;lia)) K
  by_cases k:V=[]
  .have j:0<=(if mo<3 then mo else 3)/\(if mo<3 then mo else 3)<=mo:=by split<;>lia
   exact sT ((mz V).trans<|bC k) (on,Zm,on,N [if mo<3 then mo else 3] (vE (ns:=[]) (qP W) Cl j.1<|by show _<=mo/1;rw[XV];exact j.2)<|qm _)
  .exact sF ((mz V).trans<|bA k)<|N V K<|rO.mpr k
def SZ:ZX 107 89 3 2 DC Re:=ay <| by
 rintro K Q ⟨V,S,rfl,q⟩;refine(on,?_);have A:(if (((S.map U2).length:Nat):Int)<(((V.map U2).length:Nat):Int) then (((S.map U2).length:Nat):Int) else (((V.map U2).length:Nat):Int))=((if S.length<V.length then S.length else V.length:Nat):Int):=by rw[ag,ag];split<;>split<;>lia
 refine(on,?_);rw[A];generalize N:(if S.length<V.length then S.length else V.length)=L;have T:=eY V L;have W:=eY S L;refine(by show _L.dp 99 (U3<|ai (V.map U2) TM<|TJ (L:Int));rw[T];exact j7 _,on,?_);show Q (.bl<|_L.eqT (U3<|ai (V.map U2) TM<|TJ (L:Int))<|U3<|ai (S.map U2) TM<|TJ (L:Int));rw[T,W,oA];refine q _ ?_;rw[dB];unfold cG;subst N;by_cases c:S.length<V.length
 .rw[U0 c,U0 c,bP]
 .rw[T9 c,T9 c,bP];exact eq_comm
def Ta:ZX 108 90 10 3 DD Rf:=ay <| by
 rintro ts Q ⟨kd,R,P,y,mo,V,rfl,n0,n4,l,q⟩;refine(on,(BT,by rw[af];lia),on,?_);rw[af,qX];refine(_,on,ZL rfl (YN V.length,R,on,by rw[fP];exact n0,by rw[fP];lia,λ k W=>?_));obtain⟨a,rfl,D⟩:=gi W;have T:=fR D;generalize V.getD a []=A at T;have G:=l _<|aH T;obtain⟨I,Z,L⟩:=vJ oq (k:=aO y 4) (by rw[cR Cl];lia) (by rw[cR Cl];show y%4<((4:Nat):Int);lia);refine(by simp[LF],on,Fr,sN (λ _=>(on,Zu,_,on,Cl,.str I,Z,on,YI,tI A,aC T,on,Yz,on,q (.each I a) A (T,L) G)) λ _=>?_);refine(by rw[ag,fP];exact aN BT,gQ U2 U2 (pB V A) (YN V.length) rfl (λ k W=>?_) ?_)
 .obtain⟨j,rfl,Y⟩:=gi W;exact(tI A,aC T,tI<|V.getD j [],aC<|fR Y,cl rfl (A,V.getD j [],on,λ b n=>(by rw[Bp n<|qY (k:=(j:Int))],λ _=>(on,on))) rfl)
 generalize g:(YN V.length).filter (pB V A)=K;have p:∀k,k∈K ↔ k∈YN V.length/\cG A (V.getD k.toNat []):=λ k=>by rw[<- g,gS,qY]
 have h:K.length<=40:=by rw[<- g];exact cw (mC _ _) (by rw[fP];exact n4)
 have o:0<K.length:=wn<|(p a).mpr (AZ D,by rw[TZ,aG,T];exact AU A);refine(on,_,on,ZL rfl (K,P,on,o,BT,λ k W=>?_));obtain⟨ku,S⟩:=(p k).mp W;obtain⟨b,rfl,O⟩:=gi ku;have N:=fR O;rw[TZ] at S;generalize V.getD b []=B at N S;have X:=l _<|aH N;have E:aW mo<|bW A B:=AY G X;obtain⟨w,u,wm⟩:=vJ ou (k:=aO y 12) (by rw[cR Cl];lia) (by rw[cR Cl];show y%12<((12:Nat):Int);lia);refine(by simp[LF],on,tI A,aC T,tI B,aC N,on,?_);rw[R6 S];refine(Fr,sN (λ _=>(on,Od,on,_,on,Cl,.str w,u,on,Zu,on,Yz,on,q (.pair w a b) (bW A B) (A,B,T,N,wm,S,on) E)) λ _=>?_);refine(by rw[ag];exact aN BT,gQ U2 U2 (pB V B) K rfl (λ k W=>?_) ?_)
 .obtain⟨j,rfl,Y⟩:=gi ((p k).mp W).1;exact(tI B,aC N,tI<|V.getD j [],aC<|fR Y,cl rfl (B,V.getD j [],on,λ b n=>(by rw[Bp n<|qY (k:=(j:Int))],λ _=>(on,on))) rfl)
 generalize d:K.filter (pB V B)=e;have M:∀k,k∈e ↔ k∈K/\cG B (V.getD k.toNat []):=λ k=>by rw[<- d,gS,qY]
 have ll:e.length<=40:=by rw[<- d];exact cw (mC _ _) h
 have m:0<e.length:=wn<|(M b).mpr (W,by rw[TZ,aG,N];exact AU B);refine(on,_,on,ZL rfl (e,y,on,m,BT,λ k x=>?_));refine HT λ i v=>?_;obtain⟨f,J⟩:=(M k).mp x;obtain⟨U,F⟩:=(p k).mp f;obtain⟨c,rfl,t⟩:=gi U;refine v ?_;clear v i;have s:=fR t;rw[TZ] at J F;generalize V.getD c []=C at s J F;have H:=l _<|aH s
 have r:cG (bW A B) C:=by
  by_cases z:A.length<B.length
  .rw[AX z];exact J
  .rw[AW S BT];exact F
 have z:Q<|.tup [Yv<|.pick a b c,U3<|if ((bW A B).map U2).length<(C.map U2).length then C.map U2 else (bW A B).map U2]:=by rw[R6 r];exact q (.pick a b c) (bW (bW A B) C) (A,B,C,T,N,s,S,r,rfl)<|AY E H
 exact(by simp[LF],on,on,Zu,tI C,aC s,on,Yz,on,z)
def Tb:ZX 109 91 3 2 DE Rg:=ay <| by
 rintro k Q ⟨V,d,mo,rfl,v,j,q⟩;refine(on,?_);have F:=jz v j;have g:=iC F;have c:=F.2.1;have W:aO d 4=d%4:=U0 Cl;unfold ky at q;refine cl rfl (_,V,on,.inl rfl,g,on,Cl,Fr,sN (λ h=>?_) λ h=>(Cl,Fr,?_)) rfl
 .rw[W] at h;rw[U0 h] at q;exact(on,Zm,on,q)
 rw[W] at h;rw[T9 h] at q;have o:aX (ah V) 2=ah V/2:=U0 Cl;have y:aO (ah V) 2=ah V%2:=U0 Cl;have K:Q (tI V.reverse)->Q (U3 (V.map U2).reverse):=λ q=>by rw[<- WJ];exact q
 refine sN (λ N=>?_) λ N=>?_
 .rw[W] at N;refine s2 (λ T=>?_) λ T=>?_
  .have T:(((V.map U2).length:Nat):Int)<6:=au T;rw[ag] at T;rw[U0 (N,BT)] at q;exact(on,Zm,bh (show 1+(V.map U2).length<=1000 by rw[ag];lia),on,q)
  .have T:¬(((V.map U2).length:Nat):Int)<6:=iL T;rw[ag] at T;rw[T9 BT,T9 BT] at q;exact(Cl,Fr,sN (λ S=>by rw[W] at S;lia) λ S=>(on,K q))
 .rw[W] at N;rw[T9 λ z=>N z.1] at q;refine(Cl,Fr,sN (λ S=>(Cl,Fr,sN (λ A=>?_) λ A=>(on,K ?_))) λ S=>(on,K ?_))
  .rw[W] at S;rw[y] at A;rw[U0 (S,A),<- o] at q;exact((Cl,Cl,Cl),on,Yz,on,q)
  .rw[y] at A
   rwa [T9 λ z=>A z.2] at q
  .rw[W] at S
   rwa [T9 λ z=>S z.1] at q
def Tc:ZX 110 92 14 5 DF Rh:=ay <| by
 rintro ts Q ⟨kd,M,r,V,mo,a,A,Ss,rfl,F,W,S,q⟩;refine(on,?_);have a6:=W.2.1;have sd:=Nz W S;have m1:=S.1;have m2:=S.2;have D:=W.2.2;refine(Fr,sN (λ _=>?_) λ _=>?_)
 .refine(on,Zi,on,_,on,on,on,(BT,by rw[ag];lia),?_);refine cg (λ i w=>∃(os:Yr) (n:Int) (y:Option TV),os.Perm (YN i)/\w=[TJ<|.int kd,TJ<|lI [M,r,V],TJ<|.int a,TJ<|tI A,TJ<|.int mo,TJ<|.own<|os.map .int,TJ<|.int n,y,TM,TM,TM,TM,TM,TM]) ([],_,_,List.Perm.refl _,on) (λ i t w H h=>?_) λ w h=>?_
  .refine HT λ l j=>?_;obtain⟨os,n,y,N,rfl⟩:=h;obtain⟨u,rfl⟩:=oz H;refine j ?_;clear j l;rw[ag] at u;have J:os.length=i:=by rw[N.length_eq,fP]
   obtain⟨k,K,R⟩:∃k:Nat,aO n ((i:Int)+1)=k/\k<i+1:=oB n<|lH i;refine(show(i:Int)+1≠0 by lia,on,(by rw[K];lia,by rw[K,ag,J];lia),by rw[ag];exact aN BT,(show(i:Int)+1≠0 by lia,show -18446744073709551616<(i:Int)+1 by lia,show(i:Int)+1<_ by lia),on,os.take (aO n<|(i:Int)+1).toNat++(i:Int)::os.drop (aO n<|(i:Int)+1).toNat,aX n<|(i:Int)+1,TJ<|.int (i:Nat),NC N,by rw[bG,cB,XC,XB];rfl)
  .obtain⟨os,n,y,N,rfl⟩:=h;rw[af,bZ,ag,TZ] at N;have J:os.length=A.length:=by rw[N.length_eq,fP]
   have L:∀z∈os,0<=z/\z<(A.length:Int):=λ z s=>up_mem.mp<|N.subset s;refine(on,YI,by rw[ag];exact aN BT,cu .int (λ z:Int=>.int<|A.getD z.toNat 0) os (λ z s=>(_,vI (L z s).1 (L z s).2,on,on)) (on,Yz,on,?_));have z:=q (.turn a os) (cq A os) (A,F,N,rfl)<|ND W N;unfold o7 Yv o6 tI cq at z;rw[bV] at z;exact z
 have lo:=NA (d:=V) W S;refine(Fr,sN (λ _=>(_,on,cl rfl (A,V,mo,on,W,S,on,YI,_,on,cl rfl (A,V,mo,on,W,S,on,Yz,on,q (.lay a<|ky A V) (ky A V) (A,F,qN<|jz lo.1 S,lo.2.symm,on) lo.1) rfl) rfl)) λ _=>?_);refine(on,Zi,j7 A,or3 (λ sp=>?_) λ ne=>?_)
 .have l6:A.length<6:=by
   rcases sp with z|⟨_,z⟩
   .have z:=au<|(mz A).symm.trans z;rw[z];decide
   .have z:(((A.map U2).length:Nat):Int)<6:=au z;rw[ag] at z;lia
  obtain⟨k,K,R⟩:∃k:Nat,aO r ((((A.map U2).length:Nat):Int)+1)=k/\k<A.length+1:=by rw[ag];exact oB r<|lH _
  refine(_,on,show(((A.map U2).length:Nat):Int)+1≠0 by rw[ag];lia,on,?_);rw[K];have dv:=vC D.1 D.2;have I:aX mo (ah<|A.map ak)=mo/ah (A.map ak):=Bn BT;refine(_,on,cl rfl (A,on,sd,BT,(BT,BT,BT),?_) rfl);rw[I];have Z:=λ x=>NG (x:=x) (k:=k) W l6;have fm:mo/ah (A.map ak)<=mo:=WI _ BT;generalize mo/ah (A.map ak)=T at *;have c4:0<(if T<4 then T else 4)/\(if T<4 then T else 4)<=T:=by split<;>lia
  have U:aO V (if T<4 then T else 4)=V%(if T<4 then T else 4):=cR c4.1;have g0:=oC V (show(if T<4 then T else 4)≠0 by lia);have Y:=qU V c4.1
  have v:∀x:Int,0<=x->x<=T->Q (.tup [.tup [.str "spread",.int a,.int k,.int x],.tup<|(ai (A.map U2) TM (TJ (k:Int))++[U2 x])++ai (A.map U2) (TJ (k:Int)) TM]):=λ x B G=>by
   rw[Oh];exact q (.spread a k x) (bX A k x) (A,F,by unfold mi;lia,BT,BT,qN<|jz (Z x B G) S,on)<|Z x B G
  have la:=kz (a:=TM) (b:=TJ (k:Int)) a6;have lb:=kz (a:=TJ (k:Int)) (b:=TM) a6;have p:∀x,(ai (A.map U2) TM (TJ (k:Int))++[U2 x]).length+(ai (A.map U2) (TJ (k:Int)) TM).length<=TW:=λ x=>bh (by rw[aQ,hZ];lia);have l1:(ai (A.map U2) TM<|TJ (k:Int)).length+1<=TW:=bh BT;exact(show(if T<4 then T else 4)≠0 by lia,on,_,on,Cl,Fr,sN (λ _=>(on,on,Zu,on,Zm,l1,p _,on,Yz,on,v 0 BT BT)) λ _=>(on,Zu,on,Zm,l1,p _,on,Yz,on,v _ (by rw[U];lia)<|by rw[U];lia))
 .have E:0<A.length:=rO.mpr<|iL<|(mz A).symm.trans ne;obtain⟨k,K,o⟩:=qV r E;refine(_,on,show(((A.map U2).length:Nat):Int)≠0 by rw[ag];lia,on,?_);rw[K];refine(Fr,s2 (λ _=>(on,YI,on,Yz,on,q (.flip a k) A (F,by unfold Zb;lia) W)) λ _=>?_);have an:=(W.1 _<|mj o).1;have am:=(W.1 _<|mj o).2;have o1:=jy an;have P:aO V 3=V%3:=cR Cl;have C:aO (aX V 3) (if A.getD k 0 > 1 then A.getD k 0 else 1)=aX V 3%ak (A.getD k 0):=by rw[vB an];exact cR BT
  have X:=oC (aX V 3) (show ak (A.getD k 0)≠0 by lia);have h1:=qU (aX V 3) (show 0<ak (A.getD k 0) by lia);have o2:ak (A.getD k 0)<=512:=by have:=S.2;unfold ak;split<;>lia
  have Y:1<=1+aO V 3/\1+aO V 3<=3:=by rw[P];lia
  refine(_,on,Cl,on,_,on,(Cl,Cl,Cl),_,dq o,show(if A.getD k 0 > 1 then A.getD k 0 else 1)≠0 by rw[vB an];lia,on,?_);rw[C];generalize aX V 3%ak (A.getD k 0)=f at *;generalize 1+aO V 3=g at *;have O:0<=aO (aX V 300) 3:=by rw[cR Cl];lia
  have c:=NM (e:=aO (aX V 300) 3) an X Y.1 O;rw[<- Bm] at c;have la:=kz (a:=TM) (b:=TJ (k:Int)) a6;have lb:=kz (a:=TJ<|(k:Int)+1) (b:=TM) a6;have p:∀x,(ai (A.map U2) TM (TJ (k:Int))++[U2 x]).length+(ai (A.map U2) (TJ<|(k:Int)+1) TM).length<=TW:=λ x=>bh (by rw[aQ,hZ];lia);refine(_,dq o,(BT,BT,BT),_,on,(Cl,Cl,Cl),Cl,on,?_);generalize (if aX (A.getD k 0-1-f) g+1-aO (aX V 300) 3 > 0 then aX (A.getD k 0-1-f) g+1-aO (aX V 300) 3 else 0)=m at *;refine(on,M8,on,Zm,bh (by show(ai (A.map U2) TM<|TJ (k:Int)).length+1<=1000;lia),p m,on,Yz,on,?_);show Q (.tup [.tup [.str "cut",.int a,.int k,.int f,.int m,.int g],.tup<|(ai (A.map U2) TM (TJ (k:Int))++[U2 m])++ai (A.map U2) (TJ<|(k:Int)+1) TM]);rw[Oi o];exact q (.cut a k f m g) (A.set k m) (A,F,by unfold Zb;lia,by unfold w9;rw[TZ];exact λ z=>z.elim BT λ z=>z.elim BT λ z=>z.elim BT c.2.2,(BT,BT,BT),by rw[TZ])<|NK W c.1 c.2.1
def Td:ZX 111 93 3 3 DG Ri:=ay <| by
 rintro e Q ⟨A,B,k,rfl,j,a6,o,q⟩;refine(on,?_)
 have y:∀L:Yr,L.length<=6->ai (L.map U2) TM (TJ (k:Int))++ai (L.map U2) (TJ<|(k:Int)+1) TM=(L.eraseIdx k).map U2/\(ai (L.map U2) TM<|TJ (k:Int)).length<=6/\(ai (L.map U2) (TJ<|(k:Int)+1) TM).length<=6:=λ L p=>by
  have W:=eY L k;have N:ai (L.map U2) (TJ<|(k:Int)+1) TM=(L.drop<|k+1).map U2:=by rw[show(k:Int)+1=((k+1:Nat):Int) by lia];exact eZ L<|k+1
  refine(by rw[W,N,nW,bG],by rw[W,ag,bp];lia,by rw[N,ag,cW];lia)
 refine HT λ K T=>?_;obtain⟨v,F,g⟩:=y A a6;obtain⟨m,d,ld⟩:=y B o;refine T ?_;clear T K;unfold fQ at q;have nl:∀a b:Nat,a<=6->b<=6->a+b<=TW:=λ a b r s=>bh BT;have V:_L.dp 99<|U3<|ai (A.map U2) TM (TJ (k:Int))++ai (A.map U2) (TJ<|(k:Int)+1) TM:=by rw[v];exact j7 _
 have S:_L.eqT (U3<|ai (A.map U2) TM (TJ (k:Int))++ai (A.map U2) (TJ<|(k:Int)+1) TM) (U3<|ai (B.map U2) TM (TJ (k:Int))++ai (B.map U2) (TJ<|(k:Int)+1) TM)=decide (A.eraseIdx k=B.eraseIdx k):=by rw[v,m,oA]
 by_cases c1:A.length=B.length
 .by_cases c2:A.eraseIdx k=B.eraseIdx k
  .rw[U0 (c1,c2)] at q;have W:=eY A k;have N:ai (A.map U2) (TJ<|(k:Int)+1) TM=(A.drop<|k+1).map U2:=by rw[show(k:Int)+1=((k+1:Nat):Int) by lia];exact eZ A<|k+1
   have c:(ai (A.map U2) TM (TJ (k:Int))++[U2<|A.getD k 0+B.getD k 0])++ai (A.map U2) (TJ<|(k:Int)+1) TM=(iB A B k).map U2:=by unfold iB;rw[TZ,W,N,vD,U0 j];simp
   unfold tI at q;rw[<- c] at q;exact(Fr,sF (G4<|by rw[ag,ag,c1]) (nl _ _ F g,nl _ _ d ld,V,sF (by show(!_L.eqT (U3 _) (U3 _))=TL;rw[S,bC c2];rfl) (_,dq j,_,dq BT,on,Zm,nl _ 1 F Cl,bh (show(ai (A.map U2) TM (TJ (k:Int))++[U2<|A.getD k 0+B.getD k 0]).length+(ai (A.map U2) (TJ<|(k:Int)+1) TM).length<=1000 by rw[aQ,hZ];lia),on,q)))
  .rw[T9 λ z=>c2 z.2] at q;exact(Fr,sF (G4<|by rw[ag,ag,c1]) (nl _ _ F g,nl _ _ d ld,V,sT (by show(!_L.eqT (U3 _) (U3 _))=TK;rw[S,bA c2];rfl) (on,Zi,on,q)))
 .rw[T9 λ z=>c1 z.1] at q;exact(Fr,sT (neT<|by rw[ag,ag];lia) (on,Zi,on,q))
def Tf:ZX 112 94 12 4 DH Rj:=ay <| by
 rintro ts Q ⟨s,d0,d1,E,mo,T,rfl,⟨S0,H,X⟩,k11,k14,n4,O,Z,q⟩;refine(on,?_);obtain⟨j0,Y,j0e⟩:=List.mem_iff_getElem.mp H;refine((BT,by rw[af];lia),by rw[af,bZ,af];exact aN BT,gQ U2 U2 (λ k:Int=>!decide (T.getD k.toNat []=[])) (YN T.length) (by rw[af];exact qX _) (λ k o=>?_) ?_)
 .obtain⟨j,rfl,m⟩:=gi o;exact(tI<|T.getD j [],aC<|fR m,on,Zi,j7 _,by rw[TZ,<- mz];rfl,λ _=>(on,on))
 generalize t:(YN T.length).filter (λ k:Int=>!decide (T.getD k.toNat []=[]))=L;have km:∀k,k∈L ↔ k∈YN T.length/\T.getD k.toNat []≠[]:=λ k=>by rw[<- t,gS];simp
 have kl:L.length<=40:=by rw[<- t];exact cw (mC _ _) (by rw[fP];exact n4)
 have J:0<L.length:=wn<|(km j0).mpr (AZ Y,by rw[TZ,aG,aZ Y,j0e];exact rO.mp X);refine(on,_,on,ZL rfl (L,d0,on,J,BT,λ k o=>?_));obtain⟨ku,C⟩:=(km k).mp o;obtain⟨a,rfl,al⟩:=gi ku;have K:=fR al;rw[TZ] at C;generalize T.getD a []=A at K C;have G:=rO.mpr C;have p:=O _<|aH K;have a6:=p.2.1;obtain⟨k,mp,kl⟩:=qV d1 G;refine(by simp[LF],on,tI A,aC K,on,_,on,show(((A.map U2).length:Nat):Int)≠0 by rw[ag];lia,on,?_);rw[mp];obtain⟨w,hw,wm⟩:=vJ fw (k:=aO E 7) (by rw[cR Cl];lia) (by rw[cR Cl];show E%7<((7:Nat):Int);lia);have la:=kz (a:=TM) (b:=TJ (k:Int)) a6;have lb:=kz (a:=TJ<|(k:Int)+1) (b:=TM) a6;have er:ai (A.map U2) TM (TJ (k:Int))++ai (A.map U2) (TJ<|(k:Int)+1) TM=(A.eraseIdx k).map U2:=by rw[show(k:Int)+1=((k+1:Nat):Int) by lia,eY,eZ,nW,bG]
 have qf:Q<|.tup [.tup [.str "fold",.str w,.int a,.int k],.tup<|ai (A.map U2) TM (TJ (k:Int))++ai (A.map U2) (TJ<|(k:Int)+1) TM]:=by
  rw[er];exact q (.fold w a k) (A.eraseIdx k) (A,K,wm,by unfold Zb;lia,by rw[TZ])<|NL p
 refine(on,M9,on,Fr,sN (λ _=>(_,on,Cl,.str w,hw,on,Zu,bh (by show(ai (A.map U2) TM<|TJ (k:Int)).length+(ai (A.map U2) (TJ<|(k:Int)+1) TM).length<=1000;lia),on,Yz,on,qf)) λ n13=>?_);refine(Fr,sN (λ _=>(_,on,Cl,.str w,hw,on,Zu,on,Yz,on,q (.run w a k) A (K,wm,by unfold Zb;lia) p)) λ n14=>?_);refine(on,Zi,on,Zm,on,?_);refine kA (λ ρ=>∃V:LL,Md s A k T V/\ρ=[TJ<|.int s,TJ<|lI [d0,d1,E],TJ<|.lst<|T.map tI,TJ<|.int mo,TJ<|.own<|L.map .int,TJ<|.int a,TJ<|tI A,TJ<|.int k,TJ<|.own<|fw.map .str,TJ<|.own<|V.map tI,TM,TM]) ?_ λ ρ' (V,I,e)=>?_
 .refine(Fr,sN (λ W=>(by rw[af];exact aN BT,cu tI (λ B=>tI<|fQ A B k) T (λ B f=>cl rfl (A,B,k,on,kl,a6,(O B f).2.1,on,on) rfl) (on,T.map λ B=>fQ A B k,.inl (W,on),by rw[bV];rfl))) λ W=>(_,Bq G,s3 (λ d=>(by rw[af];exact aN BT,cu tI (λ B=>tI<|B++A.drop 1) T (λ B f=>?_) (on,T.map λ B=>B++A.drop 1,.inr<|.inl (BT,d,on),by rw[bV];rfl))) λ d=>([[]],.inr<|.inr (W,d,on),on)));have e1:ai (A.map U2) (TJ 1) TM=(A.drop 1).map U2:=eZ A 1;have b6:=(O B f).2.1;have lc:=kz (a:=TJ 1) (b:=TM) a6;refine(bh (by show(B.map U2).length+(ai (A.map U2) (TJ 1) TM).length<=1000;rw[ag];lia),on,?_);show U3 (B.map U2++ai (A.map U2) (TJ 1) TM)=tI (B++A.drop 1);rw[e1,<- bG];rfl
 subst e;have ml:=NN I n4;have mb:=NO I p O Z;refine((BT,by rw[af];lia),by rw[af,bZ,af];exact aN BT,gQ U2 U2 (λ k:Int=>(decide (s=12)&&decide (0<A.getD 0 0)) || !decide (V.getD k.toNat []=[])) (YN V.length) (by rw[af];exact qX _) (λ k o=>?_) ?_)
 .obtain⟨j,rfl,m⟩:=gi o;have nn:(!_L.eqT (tI<|V.getD j []).fz (U3 []).fz)=!decide (V.getD ((j:Int).toNat) []=[]):=by rw[TZ,<- mz];rfl
  refine(Fr,sN (λ v=>(_,Bq G,s3 (λ d=>?_) λ d=>?_)) λ v=>?_)
  .exact(by rw[bC v,bC d];rfl,λ _=>(on,on))
  .exact(tI<|V.getD j [],aC<|fR m,on,Zi,j7 _,by rw[bA d,lE,kZ,<- nn];rfl,λ _=>(on,on))
  .exact(tI<|V.getD j [],aC<|fR m,on,Zi,j7 _,by rw[bA v,pi,kZ,<- nn];rfl,λ _=>(on,on))
 generalize F:(YN V.length).filter (λ k:Int=>(decide (s=12)&&decide (0<A.getD 0 0)) || !decide (V.getD k.toNat []=[]))=N;have U:∀k,k∈N ↔ k∈YN V.length/\((s=12/\0<A.getD 0 0)\/V.getD k.toNat []≠[]):=λ k=>by rw[<- F,gS];simp
 have kl1:N.length<=40:=by rw[<- F];exact cw (mC _ _) (by rw[fP];exact ml)
 refine(on,by rw[ag];exact aN BT,gQ U2 U2 (λ k:Int=>decide ((V.getD k.toNat []).length<=6)&&decide (ah ((V.getD k.toNat []).map ak)<=mo)) N rfl (λ k o=>?_) ?_)
 .obtain⟨j,rfl,m⟩:=gi ((U k).mp o).1;rw[TZ];have S:=fR m;generalize V.getD j []=M at *;refine(tI M,aC S,s2 (λ g=>?_) λ g=>?_)
  .have g:(((M.map U2).length:Nat):Int)<=6:=au g;rw[ag] at g;exact(tI M,aC S,cl rfl (M,on,NP<|mb M<|aH S,BT,by rw[bC (show M.length<=6 by lia),s1r],λ _=>(on,on)) rfl)
  .have g:¬(((M.map U2).length:Nat):Int)<=6:=iL g;rw[ag] at g;exact(by rw[bA (show ¬M.length<=6 by lia),pi],λ _=>(on,on))
 generalize l:N.filter (λ k:Int=>decide ((V.getD k.toNat []).length<=6)&&decide (ah ((V.getD k.toNat []).map ak)<=mo))=R;have lm:∀k,k∈R ↔ k∈N/\(V.getD k.toNat []).length<=6/\ah ((V.getD k.toNat []).map ak)<=mo:=λ k=>by rw[<- l,gS,bq,dB,dB]
 have ll:R.length<=40:=by rw[<- l];exact cw (mC _ _) kl1
 refine(on,Fr,sN (λ _=>(on,YI,on,Yz,on,q (.flip a k) A (K,by unfold Zb;lia) p)) λ D=>?_);have D:R.length≠0:=λ z=>D (by rw[ag,z];rfl);refine(_,on,ZL rfl (R,E,on,BT,BT,λ x c=>?_));refine HT λ P i=>?_;obtain⟨xm,m6,mw⟩:=(lm x).mp c;obtain⟨xu,h⟩:=(U x).mp xm;obtain⟨b,rfl,bl⟩:=gi xu;refine i ?_;clear i P;rw[TZ] at m6 mw h;have S:=fR bl;generalize V.getD b []=M at *;have nb:=NQ Z m6 mw;have fM:=vF (λ n hn=>(mb M (aH S) n hn).1) m6 mw;refine(by simp[LF],on,Fr,sN (λ W=>?_) λ n11=>?_)
 .have mne:¬M=[]:=h.elim (λ z=>by lia) id
  obtain⟨B,u,rfl⟩:∃B,T[b]?=TJ B/\M=fQ A B k:=by
   rcases I with ⟨_,rfl⟩|⟨z,_⟩|⟨z,_⟩
   .rw[bc] at S
    cases c:T[b]? with
    |none=>rw[c] at S;cases S
    |some B=>rw[c] at S;cases S;exact(B,rfl,rfl)
   .lia
   .exact U1 W z
  obtain⟨j1,j2,j3⟩:=Bf mne;exact(on,Zu,tI<|fQ A B k,aC S,on,Yz,on,q (.join a b k) (fQ A B k) (A,B,K,u,j1,by unfold Zb;lia,by rw[TZ];exact j2,by rw[<- j3];exact nb,j3) fM)
 have k12:s=12:=BT
 obtain⟨n,r,rfl⟩:∃n r,A=n::r:=by
  match A,G with
  |n::r,_=>exact(n,r,rfl)
 obtain⟨B,n0,u,rfl⟩:∃B,0<n/\T[b]?=TJ B/\M=B++r:=by
  rcases I with ⟨z,_⟩|⟨_,z,rfl⟩|⟨_,z,rfl⟩
  .exact U1 z n11
  .rw[bc] at S
   cases c:T[b]? with
   |none=>rw[c] at S;cases S
   |some B=>rw[c] at S;cases S;exact(B,z,rfl,rfl)
  .rcases h with y|y
   .exact U1 y.2 z
   .match b,S with
    |0,S=>cases S;exact U1 rfl y
 exact(on,YI,tI<|B++r,aC S,on,Yz,on,q (.fetch a b) (B++r) (n,r,B,K,BT,u,nb,on) fM)
def Tg:ZX 113 95 7 3 DI Rk:=ay <| by
 rintro J Q ⟨V,mo,T,rfl,r,c,N,q⟩;refine(on,iD Cl Cl,Cl,on,?_);generalize aO (V*48271) 2147483647=n;refine(Cl,on,?_);obtain⟨F,b⟩:∃F,aO n 15=F:=(_,rfl);have U:0<=F/\F<15:=by rw[<- b,cR Cl];lia
 rw[b];refine((Cl,Cl,Cl),Cl,(Cl,Cl,Cl),Cl,(Cl,Cl,Cl),on,YI,on,?_);generalize aO (aX n 15) 120=z;generalize aO (aX n 1800) 120=y;generalize aX n 216000=v;refine(Fr,s2 (λ _=>(Cl,cl rfl (_,n,V,mo,on,N,λ d S K W=>(on,q d S (K T) W)) rfl)) λ g=>s3 (λ _=>(Cl,cl rfl (_,n,V,mo,on,N,λ d S K W=>(on,q d S (K T) W)) rfl)) λ Z=>?_)
 have m:0<T.length:=by
  have g:¬(((T.map tI).length:Nat):Int)=0:=iL g;rw[af] at g;lia
 refine s3 (λ _=>ZL rfl (F,z,y,v,mo,T,on,m,r,c,λ d S K W=>(qW d S,on,q d S K W))) λ Y=>?_;refine kA (λ w=>w=[TJ<|.int V,TJ<|.lst<|T.map tI,TJ<|.int mo,TJ<|.int n,TJ<|.int F,TJ<|.own [.int z,.int y,.int v],TM]) ?_ λ x e=>?_
 .refine s3 (λ o=>(by rw[af];exact aN BT,cu tI (λ S=>.int ((S.map U2).length:Nat)) T (λ S _=>(on,on)) (T.map λ S=>(S.length:Int),by rw[bV];exact jr λ S _=>by rw[ag];rfl,by rw[af];exact m,λ M p _=>s3 (λ t=>?_) λ _=>rfl))) λ o=>rfl;exact ZL rfl (F,z,y,v,mo,T,on,NR p BT,BT,BT,r,c,N,λ d S K W=>(qW d S,on,q d S K W))
 subst e;refine((BT,by rw[af];lia),_,on,cl rfl (YN T.length,z,by show[TV.lst<|(Ub (((T.map tI).length:Nat):Int).toNat).map λ i:Nat=>U2 (i:Nat),U2 z]=_;rw[af,qX];rfl,by rw[fP];exact m,by rw[fP];lia,λ k l=>?_) rfl);obtain⟨a,rfl,s⟩:=gi l;have j:=fR s;generalize T.getD a []=A at j;exact(on,tI A,aC j,ZL rfl (_,z,y,v,mo,a,A,T,on,j,c _<|aH j,N,λ d S K W=>(qW d S,on,q d S K W)))
def Th:ZX 114 96 9 2 DJ Rl:=ay <| by
 rintro R Q ⟨F,mo,rfl,Z,y,q⟩;refine(on,on,Zi,on,on,Zi,on,on,?_);refine cg (λ i K=>∃(V:List Stp) (W:LL) (j g:Option TV),eI mo V W/\V.length=i/\K=[TJ<|lI F,TJ<|.int mo,TJ<|.own<|V.map Yv,TJ<|.own<|W.map tI,j,g,TM,TM,TM]) ([],[],_,_,Be mo,on,on) (λ i t K s h=>?_) λ K h=>?_
 .refine HT λ N T=>?_;obtain⟨V,W,j,g,gl,dl,rfl⟩:=h;obtain⟨c,rfl,D⟩:=jB s;refine T ?_;clear T N;have E:=(aP.mp D).1;have a:W.length=i:=by rw[<- gl.1,dl]
  exact ZL rfl (c,mo,W,on,BT,gl.2.1,y,λ d S M L=>(qW d S,on,_,on,on,by rw[af,dl];exact aN BT,_,on,on,by rw[af,a];exact aN BT,V++[d],W++[S],_,_,Bb gl M L,by rw[aQ,dl];rfl,by rw[bG,bG];rfl))
 refine HT λ N T=>?_;obtain⟨V,W,j,g,gl,dl,rfl⟩:=h;refine T ?_;clear T N;rw[af] at dl;refine kA (λ K=>∃(V:List Stp) (W:LL),eI mo V W/\0<V.length/\V.length<=max 1 F.length/\K=[TJ<|lI F,TJ<|.int mo,TJ<|.own<|V.map Yv,TJ<|.own<|W.map tI,j,g,TM,TM,TM]) ?_ λ I h=>?_
 .refine(Fr,sN (λ z=>?_) λ z=>(V,W,gl,by rw[af] at z;lia,BT,on));rw[af] at z;have w:V=[]:=DV.mp BT;have Y:W=[]:=DV.mp (by rw[<- gl.1,w];rfl);subst w Y;exact(on,Yz,on,sl3 (n:=0) Cl,on,Zi,on,sl3 (n:=0) Cl,[.num 0],[[]],Bb (Be mo) (d:=.num 0) (S:=[]) (on,by unfold inB;decide)<|qP y,Cl,by show 1<=max 1 F.length;lia,on)
 refine HT λ N T=>?_;obtain⟨V,W,gl,l,r,rfl⟩:=h;refine T ?_;clear T N;have b:V.length<=40:=BT;refine(on,Zi,on,F,on,iD Cl Cl,Cl,on,?_);generalize aO (F.sum*16807) 2147483647=n;obtain⟨x,G,C,P⟩:=Oj (aO n 6) (by rw[cR Cl];lia) (by rw[cR Cl];lia);refine(on,M8,Cl,.int x,G,on,(BT,BT),?_);refine cg (λ i K=>∃(os:Yr) (n:Int) (e:Option TV),os.length=i/\(∀o∈os,0<=o/\o<(V.length:Int))/\K=[TJ<|lI F,TJ<|.int mo,TJ<|.own<|V.map Yv,TJ<|.own<|W.map tI,j,g,TJ<|.own<|os.map .int,TJ<|.int n,e]) ([],n,_,on,(λ o v=>nomatch v),on) (λ i t K s h=>?_) λ K h=>?_
 .obtain⟨os,n,e,m,p,rfl⟩:=h;obtain⟨E,rfl⟩:=oz s;obtain⟨k,U,O⟩:∃k:Nat,aO (aX (aO (n*48271+11) 2147483647) 16) (((V.map Yv).length:Nat):Int)=k/\k<V.length:=by rw[af];exact oB _ l
  refine(iD Cl Cl,Cl,on,(Cl,Cl,Cl),by rw[af];lia,on,by rw[ag,m];exact aN BT,os++[(k:Int)],aO (n*48271+11) 2147483647,TJ<|.int (i:Nat),by rw[aQ,m];rfl,λ o v=>?_,by rw[U,bG];rfl)
  rcases cy.mp v with z|z
  .exact p o z
  .cases aK.mp z;lia
 refine HT λ N T=>?_;obtain⟨os,n,e,m,p,rfl⟩:=h;refine T ?_;clear T N;rw[af,bZ] at m;obtain⟨k,B,J⟩:=qV n (A:=os) BT;refine(on,by rw[ag];lia,k,by rw[B,ag];exact jx J,on,YI,on,?_)
 have z:=q V W (os.set k<|(V.length:Int) - 1) (y,gl,l,b,by rw[cN];lia,by rw[cN];lia,λ o v=>by
  rcases oy v with z|z
  .exact p o z
  .lia) r
 unfold tI at z;rw[s0b] at z;show Q (.tup [.tup<|V.map Yv,.tup<|(os.map U2).set k<|.int<|((V.map Yv).length:Nat)-1,.lst<|W.map tI]);rw[af];exact z
def Ti:ZX 115 97 1 1 DK Rm:=ay <| by
 rintro S Q ⟨d,rfl,q⟩;refine(on,?_)
 cases d with
 |inp V|num n|count V k=>exact(_,rfl,rfl,YI,rfl,mG,rfl,Zi,rfl,q)
 |each w a|fold w a s|run w a s=>exact(_,rfl,rfl,YI,rfl,mG,_,rfl,rfl,YI,rfl,oQ,_,rfl,rfl,Zm,rfl,q)
 |pair w a b=>exact(_,rfl,rfl,YI,rfl,mG,_,rfl,rfl,YI,rfl,oQ,_,rfl,trivial,_,rfl,_,rfl,rfl,Yz,rfl,q)
 |pick a b c=>exact(_,rfl,rfl,YI,rfl,mG,_,rfl,rfl,YI,rfl,oQ,_,rfl,trivial,_,rfl,trivial,_,rfl,_,rfl,_,rfl,rfl,YI,rfl,q)
 |join a b s|fetch a b=>exact(_,rfl,rfl,YI,rfl,mG,_,rfl,rfl,YI,rfl,oQ,_,rfl,trivial,_,rfl,trivial,_,rfl,rfl,Yz,rfl,BV,_,rfl,_,rfl,rfl,Yz,rfl,q)
 |turn a os|flip a k|cut a k f m g|spread a k m|lay a V=>exact(_,rfl,rfl,YI,rfl,mG,_,rfl,rfl,YI,rfl,oQ,_,rfl,trivial,_,rfl,trivial,_,rfl,rfl,Yz,rfl,BV,_,rfl,rfl,Zm,rfl,q)
def Tj:t9 116 98 ["steps","outs","live","k","arg"] 5 2 DM Rn:=ay <| by
 rintro D Q ⟨V,w,os,mo,rfl,m,q⟩;refine(on,?_);refine HT λ K N=>?_;obtain⟨_,gl,Z,F,J,L,e⟩:=m;refine N ?_;clear N K;have b:=oG gl;have S:(((V.map Yv).length:Nat):Int)=V.length:=by rw[af]
 have o:=OU (ds:=V) (os:=os) (n:=(((V.map Yv).length:Nat):Int).toNat) (by rw[S];rfl) e;refine((by rw[S];lia,by rw[S];lia),by rw[af,bZ,S];exact aN BT,cu (λ i:Nat=>.int (i:Nat)) (λ k:Nat=>TV.bl<|_L.inT (.int (k:Nat))<|os.map U2) (Ub (((V.map Yv).length:Nat):Int).toNat) (λ k Y=>(on,O0 os,on,on)) (on,on,?_));obtain⟨t,r2⟩:=Bv F;refine((Cl,Cl,by rw[S];exact t),cg (λ i W=>∃y T,W=[TJ<|.tup<|V.map Yv,TJ<|tI os,TJ<|.own<|(bR V V.length i<|bM V.length os).map .bl,y,T]) (_,_,by rw[o];rfl) (λ i u W A h=>?_) λ W h=>?_)
 .obtain⟨y,T,rfl⟩:=h;rw[S,r2] at A;obtain⟨r,rfl⟩:=oz A;have r:i<V.length:=BT;obtain⟨k,c⟩:∃k:Nat,(V.length:Int)-1+(i:Int)*(-1)=k:=(V.length-1-i,BT);have s:V.length-1-i=k:=BT;have p:k<V.length:=BT;rw[c];have U:(bR V V.length i<|bM V.length os).length=V.length:=by rw[mB,gp]
  have st:bR V V.length (i+1) (bM V.length os)=fc V k (bR V V.length i<|bM V.length os):=by rw[bR,s]
  rw[st];generalize bR V V.length i (bM V.length os)=R at *;refine(_,x6 BT,s2 (λ h=>?_) λ h=>(_,_,by unfold fc;rw[T9<|by rw[h];decide];rfl));have z:=gj p;have l:fc V k R=(ao<|V.getD k<|.num 0).foldl (λ R a=>R.set a TK) R:=by unfold fc;rw[U0 h]
  rw[l];have g:=b _<|aH z;generalize V.getD k (.num 0)=d at z g;refine(Yv d,aC z,cl rfl (d,on,on,cg (λ j W=>∃T,W=[TJ<|.tup<|V.map Yv,TJ<|tI os,TJ<|.own<|(((ao d).take j).foldl (λ R a=>R.set a TK) R).map .bl,TJ<|.int k,T]) (_,on) (λ j u W A h=>?_) λ W h=>?_) rfl)
  .obtain⟨T,rfl⟩:=h;obtain⟨a,rfl,v⟩:=vO A;have x:=g a<|aH v;exact(on,a,jx (by rw[af,vL];lia),_,by rw[jv,v,jw];show _=[_,_,TJ<|TV.own<|UL TV.bl<|(((ao d).take j).foldl (λ R a=>R.set a TK) R).set a TK,_,_];rw[s0b];rfl)
  .obtain⟨T,rfl⟩:=h;rw[af,bP];exact(_,_,on)
 .obtain⟨y,T,rfl⟩:=h;rw[af,bZ,S,r2];exact(on,q)
def Tk:t9 117 99 ["steps","sides","live","uses","grown","k","step","place","arg","first","led"] 11 3 DN Ro:=ay <| by
 rintro G Q ⟨S,N,os,mo,rfl,l,q⟩;refine(on,?_);refine HT λ T V=>?_;obtain⟨_,gl,J,e,L,D,B⟩:=l;refine V ?_;clear V T;have n:=oG gl;have c:=vZ S os;have r:∀i,i<S.length->N[i]?=TJ (YE N i):=λ i k=>by unfold YE;rw[aG,aZ<|by rw[<- gl.1];exact k];rfl
 refine(by rw[af];exact aN BT,cu Yv (λ _=>.int 0) S (λ d _=>(on,on)) (on,by rw[af];exact aN BT,cu Yv (λ _=>.bl TL) S (λ d _=>(on,on)) (on,on,?_)));refine cg (λ i z=>∃m b A K F W,z=S3 S N os (j9 S.length<|Zk S<|ZC S os i) (f9 S N S.length<|Zk S<|ZC S os i) [m,b,A,K,F,W]) (_,_,_,_,_,_,by rw[<- us0,<- gw0];rfl) (λ i t z w h=>?_) λ z h=>?_
 .refine HT λ T V=>?_;obtain⟨m,b,A,K,F,W,rfl⟩:=h;obtain⟨d,rfl,o⟩:=oO w;refine V ?_;clear V T;have k:=(aP.mp o).1;have st:=OX S os i;have Y:=rg S<|ZC S os i;rw[gD o] at st;generalize Zk S (ZC S os i)=U at *;refine(_,x6 BT,s2 (λ h=>?_) λ h=>(_,_,_,_,_,_,by rw[st,T9<|by rw[h];decide];rfl));rw[st,U0 h];refine cl rfl (d,on,on,?_) rfl;refine cg (λ j z=>∃A K F W,z=S3 S N os (j9 S.length<|Zf i ((ao d).take j) U) (f9 S N S.length<|Zf i ((ao d).take j) U) [TJ<|.int i,TJ<|Yv d,A,K,F,W]) (_,_,_,_,on) (λ j u z Z h=>?_) λ z h=>?_
  .refine HT λ T V=>?_;obtain⟨A,K,F,W,rfl⟩:=h;obtain⟨a,rfl,g⟩:=oO (f:=λ a:Nat=>U2 (a:Nat)) Z;refine V ?_;clear V T;have v:=n _ (aH o) a<|aH g;have c:a<(Zf i ((ao d).take j) U).length:=by rw[rf,Y];exact v
   have p:∀f:Nat->TV,a<((Ub S.length).map f).length:=λ f=>by rw[af,bZ];exact v
   refine(_,oU v,on,a,jx<|p _,?_);rw[OY (x:=[(i:Int),(j:Int)]) c];have s:=Pb (Ss:=N) (a:=a) (gD o) (aP.mp g).1;refine iJ (x:=_L.eqT (.str<|bw<|YD d)<|.str "fetch") (y:=decide<|(j:Int)=0) (_,dF d,Fr,on) (Fr,on) (on,iJ (x:=_L.inT (.str<|bw<|YD d) [.str "pair",.str "pick",.str "fetch"]) (_,dF d,on,YI,on,OT,on) (iJ (x:=!(_L.eqT (.str<|bw<|YD d) (.str "fetch")&&decide ((j:Int)=0))) rfl (tI _,aC<|r a v,tI _,aC<|r i k,tlt _ _) rfl) (on,mH (x:=_L.eqT (.str<|bw<|YD d)<|.str "spread") (_,dF d,Fr,on) rfl<|s2 (λ h=>(on,a,jx<|p _,_,_,_,_,by rw[jD g,<- OZ c<|s.trans h];rfl)) λ h=>(_,_,_,_,by rw[jD g,<- Pa c<|s.trans h];rfl)))
  .obtain⟨A,K,F,W,rfl⟩:=h;rw[mI,af,bP];exact(_,_,_,_,_,_,on)
 .refine HT λ T V=>?_;obtain⟨m,b,A,K,F,W,rfl⟩:=h;refine V ?_;clear V T;rw[mI,af,OV];exact(on,Yz,on,q)
def Tl:ZX 118 100 2 2 DO Rs:=ay <| by
 rintro W Q ⟨d,T,rfl,S,q⟩;refine(on,?_)
 cases d with
 |inp V|lay a V=>exact(_,rfl,rfl,Yz,rfl,oR,rfl,q)
 |num n|count V k=>exact(_,rfl,rfl,Yz,rfl,oR,_,rfl,rfl,Yz,rfl,wa,rfl,q)
 |turn a os|flip a k|cut a k f m g|spread a k m=>exact(_,rfl,rfl,Yz,rfl,oR,_,rfl,rfl,Yz,rfl,wa,_,rfl,rfl,Zu,rfl,BW,_,rfl,_,atS (S a<|by simp[ao]),rfl,q)
 |_=>exact(_,rfl,rfl,Yz,rfl,oR,_,rfl,rfl,Yz,rfl,wa,_,rfl,rfl,Zu,rfl,BW,rfl,q)
def Tn:t9 119 101 ["steps","outs","sides","live","asked","whole","fetched","k","step","kept","states","state","keep"] 13 4 DP Rt:=ay <| by
 rintro u Q ⟨V,S,os,mo,rfl,Z,q⟩;refine(on,?_);refine HT λ N T=>?_;obtain⟨_,gl,I,B,P,X,H⟩:=id Z;refine T ?_;clear T N;have E:=vZ V os;have r:(((V.map Yv).length:Nat):Int)=V.length:=by rw[af]
 have M:(((V.map Yv).length:Nat):Int).toNat=V.length:=by rw[r];rfl
 refine cl rfl (V,S,os,mo,on,Z,on,(by rw[r];lia,by rw[r];lia),by rw[af,bZ,r];exact aN BT,cu (λ i:Nat=>.int (i:Nat)) (λ k:Nat=>TV.bl<|_L.inT (.int (k:Nat))<|os.map U2) (Ub (((V.map Yv).length:Nat):Int).toNat) (λ k O=>(on,O0 os,on,on)) (on,by rw[af];exact aN BT,cu Yv (λ _=>.bl TL) V (λ d _=>(on,on)) (on,on,?_))) rfl;refine cg (λ i W=>∃v g,W=D4 V S os (h9 V os i) (i3 V os i) [v,g,TM,TM,TM,TM]) (_,_,by rw[<- wh0,<- ft0,M];rfl) (λ i t W p h=>?_) λ W h=>?_
 .refine HT λ N T=>?_;obtain⟨v,g,rfl⟩:=h;obtain⟨d,rfl,K⟩:=oO p;refine T ?_;clear T N;have A:=gD K;have Y:=oG gl _<|aH K;have L:∀f:Nat->TV,((Ub V.length).map f).length=V.length:=λ f=>by rw[af,bZ]
  have c:=x6 (R:=bN V os) (k:=i) (by rw[E];exact(aP.mp K).1);refine kA (λ W=>W=D4 V S os (h9 V os<|i+1) (i3 V os i) [TJ<|.int i,TJ<|Yv d,TM,TM,TM,TM]) (iJ (y:=_L.eqT (.str<|bw<|YD d)<|.str "lay") (_,c,on) (_,dF d,Fr,on)<|s2 (λ h=>?_) λ h=>by rw[Pc λ j=>by rw[A];exact Pk h];rfl) λ o e=>?_
  .obtain⟨a,C,rfl⟩:=Pi (an h).2;exact(on,_,on,a,jx (by rw[L];exact Y a<|by simp[ao]),by rw[<- Pe λ j=>by rw[A,(an h).1];rfl];rfl)
  subst e;refine iJ (y:=_L.eqT (.str<|bw<|YD d)<|.str "fetch") (_,c,on) (_,dF d,Fr,on)<|s2 (λ h=>?_) λ h=>(_,_,by rw[Pd λ j=>by rw[A];exact Pl h]);obtain⟨a,b,rfl⟩:=Pj (an h).2;exact(on,_,on,a,jx (by rw[L];exact Y a<|by simp[ao]),_,_,by rw[<- Pf λ j=>by rw[A,(an h).1];rfl];rfl)
 obtain⟨v,g,rfl⟩:=h;rw[mI,af];refine(on,Zi,on,on,Zi,on,on,?_);refine cg (λ i W=>∃v g F z,W=D4 V S os (h9 V os V.length) (i3 V os V.length) [v,g,TJ<|.own<|(YO V S os i).1.map λ k=>.int (k:Nat),TJ<|.own<|(YO V S os i).2.map .str,F,z]) (_,_,_,_,on) (λ i t W p h=>?_) λ W h=>?_
 .refine HT λ N T=>?_;obtain⟨v,g,F,z,rfl⟩:=h;obtain⟨d,rfl,K⟩:=oO p;refine T ?_;clear T N;have m:=(aP.mp K).1;obtain⟨J,l1⟩:=wl V S os i;have c:=x6 (R:=bN V os) (k:=i) BT;have D:∀n:Nat,n<=50->n<TW:=λ n h=>aN BT;have st:YO V S os (i+1)=if ((bN V os).getD i TL&&((t8 V os i (V.getD i<|.num 0) (ZU (V.getD i<|.num 0) (YO V S os i).2) || ke2 V S os i (ZU (V.getD i<|.num 0) (YO V S os i).2)) && !iK (V.getD i<|.num 0)))=TK then ((YO V S os i).1++[i],(YO V S os i).2++[("read" : Str)]) else ((YO V S os i).1,(YO V S os i).2++[ZU (V.getD i<|.num 0) (YO V S os i).2]):=rfl;rw[gD K] at st;refine ZL rfl (d,(YO V S os i).2,on,λ a G=>by rw[J];exact oF gl i d K a G,by simp[LF],on,?_);generalize ZU d (YO V S os i).2=s at st ⊢;refine mH (x:=oV d) (_,dF d,on,Yz,on,vQ,bT TV.bl<|Pg d) (mH (_,oU (f:=λ j=>TV.bl<|k9 V os V.length j) m,on) (iJ (y:=!_L.eqT (.str s) (.str "read")) (_,oU (f:=λ j=>TV.bl<|t7 V os V.length j) m,on) (Fr,on) rfl) rfl) (on,?_);refine kA (λ W=>W=D4 V S os (h9 V os V.length) (i3 V os V.length) [TJ<|.int i,TJ<|Yv d,TJ<|.own<|(YO V S os i).1.map λ k=>.int (k:Nat),TJ<|.own<|(YO V S os i).2.map .str,TJ<|.str s,TJ<|.bl<|t8 V os i d s || ke2 V S os i s]) (iJ (x:=_L.eqT (.str s)<|.str "busy") (Fr,on) (mH (_,on,_,oU (f:=λ j=>U2 (((bD V os).getD j []).length:Nat)) m,on) (_,on,_,oU (f:=λ j=>TV.bl<|gwB V S j<|(bD V os).getD j []) m,on) rfl)<|s2 (λ h=>(on,by rw[show ke2 V S os i s=TK from h,jP];rfl)) λ h=>by rw[show ke2 V S os i s=TL from h,fX];rfl) λ o e=>?_;subst e;generalize (t8 V os i d s || ke2 V S os i s)=U at st ⊢;refine kA (λ W=>∃l w y,YO V S os (i+1)=(l,(YO V S os i).2++[w])/\W=D4 V S os (h9 V os V.length) (i3 V os V.length) [TJ<|.int i,TJ<|Yv d,TJ<|.own<|l.map λ k=>.int (k:Nat),TJ<|.own<|(YO V S os i).2.map .str,TJ<|.str w,y]) (iJ (y:=U && !iK d) (_,c,on) (iJ (x:=U) (y:=!iK d) rfl (_,dF d,on,Yz,on,oR,bT (λ b=>TV.bl<|!b)<|Ph d) rfl)<|s2 (λ h=>(on,by rw[af];exact D _ BT,on,_,_,_,by rw[st,U0 h],by rw[bG];rfl)) λ h=>(_,_,_,by rw[st,T9<|by rw[h];decide],on)) λ o e=>?_;obtain⟨l,w,y,e,rfl⟩:=e;exact(on,by rw[af,J];exact D _ BT,_,_,_,_,by rw[e,bG];rfl)
 obtain⟨v,g,F,z,rfl⟩:=h;rw[mI,af];exact(_,on,on,YI,on,q)
def To:ZX 120 102 3 3 DQ Ru:=ay <| by
 rintro s Q ⟨V,K,os,mo,n,rfl,g,N,q⟩;refine(on,?_);refine HT λ A W=>?_;obtain⟨T,gl,o,S,d,b,r⟩:=g;refine W ?_;clear W A;have k:(((V.map Yv).length:Nat):Int)=V.length:=by rw[af]
 have c:=gl.1;have y:K[V.length-1]?=TJ (YE K<|V.length-1):=by unfold YE;rw[aG,aZ BT];rfl
 have F:((V.length:Nat):Int)-1=((V.length-1:Nat):Int):=BT;have j:=q _ os _ _ (mo,T,gl,S,.inr<|.inr (.flip (V.length-1) 9,"side",rfl,N,.inr (_,_,rfl,y,rfl),rfl));have v:=q _ os _ _ (mo,T,gl,S,.inr<|.inr (.each "neg" V.length,"name",rfl,N,.inl (_,rfl,rfl),rfl));refine(Cl,Fr,sN (λ z=>?_) λ _=>(Cl,Fr,sN (λ z=>?_) λ _=>(Cl,Fr,sN (λ z=>?_) λ _=>?_)))
 .refine(on,YI,on,Zm,bh (show(V.map Yv).length+1<=1000 by rw[af];lia),on,Yz,on,YI,on,?_);show Q (.tup [.tup [.tup<|V.map Yv++[.tup [.str "flip",.int<|((V.map Yv).length:Nat)-1,.int 9]],tI os],.int ((V.map Yv).length:Nat),.str "side"]);rw[af,F];exact j
 .refine(on,YI,on,Zm,bh (show(V.map Yv).length+1<=1000 by rw[af];lia),on,Yz,on,YI,on,?_);show Q (.tup [.tup [.tup<|V.map Yv++[.tup [.str "each",.str "neg",.int ((V.map Yv).length:Nat)]],tI os],.int ((V.map Yv).length:Nat),.str "name"]);rw[af];exact v
 .refine(on,Zi,on,Yz,on,YI,on,?_);show Q (.tup [.tup [.tup<|V.map Yv,tI []],.int ((V.map Yv).length:Nat),.str "out"]);rw[af];exact q _ _ _ _ (mo,T,gl,S,.inr<|.inl (on,.inl rfl,on))
 .refine((Cl,Cl,Cl),Cl,on,Zm,?_);rw[PB d];refine(bh (show _+1<=1000 by rw[af,bp];lia),on,Yz,on,YI,on,?_);show Q (.tup [.tup [.tup<|V.map Yv,.tup<|(os.take<|os.length-1).map U2++[.int<|((V.map Yv).length:Nat)+aO (aX n 4) 50]],.int ((V.map Yv).length:Nat),.str "out"]);rw[af];have m:=oC (aX n 4) (show(50:Int)≠0 by decide);have z:=q _ (os.take (os.length-1)++[(V.length:Int)+aO (aX n 4) 50]) _ _ (mo,T,gl,S,.inr<|.inl (rfl,.inr (by rw[aQ];exact lH _,by rw[aQ,bp];show _+1<=8;lia,_,bO _<|aK.mpr rfl,by rw[cR Cl];lia),rfl));unfold tI at z;rw[bG] at z;exact z
def Tp(y:YOk X J (Ft 121) GT (YS DL 121) gs lrN (aB<|top 103).names TK)(t:w6 X J (X2L.take 121) (YS DL 121) G7 Z Y<|e8 X.prog X.w)(E:D2 X.prog X.w X.K X.mg X.base Z Y 5):PSs X (aR<|top 103)<|rN X.K J 5 U L<|A7 (Ft 121) GT (X2L.take 121) DT:=MT y t E rfl (by kernel_rfl) ((by kernel_rfl,by kernel_rfl,by kernel_rfl,by kernel_rfl),by kernel_rfl,by kernel_rfl,by kernel_rfl,by kernel_rfl)
def Tq:∀V Q,DS V Q->V.length=3/\A7 (Ft 121) GT (X2L.take 121) DT (YY 5 V) (λ _=>Q .non) Q:=by
 rintro V Q ⟨W,S,N,os,k,w,rfl,T,q⟩;refine(on,?_);exact .inl (_,(_,on,W,S,N,os,k,w,on,T,on),λ n h=>(k,w,h.symm,on,on,q))
def Tt:t9 122 104 ["script","steps","outs","sides","live","found","k","bad","at","why"] 10 1 DU Rv:=ay <| by
 rintro G Q ⟨T,rfl,c,q⟩;refine(on,?_);have z:ai (T.map U2) TM (TJ (39:Int))=(T.take 39).map U2:=eY T 39;refine cl rfl (T.take 39,24,by show[TV.lst<|ai (T.map U2) TM<|TJ (39:Int),U2 24]=_;rw[z];rfl,by rw[bp];lia,(Cl,Cl),λ V S os W o=>cl rfl (V,S,os,24,on,W,?_) rfl) rfl;rw[bp] at o;refine HT λ K N=>?_;obtain⟨s,gl,U,F,L,D,B⟩:=id W;refine N ?_;clear N K;have n:=(Cc (os:=os) gl F V.length<|ax _).1;have Z:=vZ V os
 have A:∀l:List Nat,_L.dp 99 (.lst<|l.map λ k:Nat=>.int (k:Nat)):=λ l x e=>by
  obtain⟨m,_,rfl⟩:=bg.mp e;trivial
 refine(on,on,Yz,cl rfl (V,S,os,24,on,W,((BT,by rw[af];lia),by rw[af,bZ,af];exact aN BT,gQ (λ k:Nat=>.int (k:Nat)) (λ k:Nat=>.int (k:Nat)) (λ k=>(bN V os).getD k TL) (Ub V.length) (by rw[af];rfl) (λ k r=>(_,x6 (by rw[Z];exact gw.mp r),on,λ _=>(on,on))) (A _,s2 (λ h=>?_) λ _=>?_))) rfl)
 .have h:(!_L.eqT (.lst<|(aE V os).map λ k:Nat=>U2 (k:Nat)) (.lst<|(aE V os).map λ k:Nat=>U2 (k:Nat)))=TK:=h;rw[ut<|A _] at h;cases h
 refine(on,Yz,cl rfl (V,S,os,24,on,W,?_) rfl);refine(on,mH (x:=TL) (y:=TL) rfl (cl rfl (V,S,os,24,on,W,_,on,A _,?_) rfl) ?_)
 .rw[n];exact bT (λ b=>TV.bl<|!b)<|ut<|A _
 refine b1F (on,?_);refine cg (λ i g=>∃j,g=[TJ<|lI T,TJ<|.tup<|V.map Yv,TJ<|tI os,TJ<|.lst<|S.map tI,TJ<|.lst<|(bN V os).map .bl,TJ<|.lst<|(BU V<|YB V S os V.length).map λ k:Nat=>.int (k:Nat),j,TM,TM,TM]) (_,on) (λ i t g p h=>?_) λ g h=>?_
 .obtain⟨j,rfl⟩:=h;obtain⟨a,rfl,J⟩:=vO p;exact mH (x:=TL) (y:=TL) rfl rfl (_,on)
 obtain⟨j,rfl⟩:=h;exact(T,on,cl rfl (V,S,os,24,T.sum,on,W,BT,λ Y v k w d=>cl rfl (V,S,Y,v,k,w,on,d,on,q) rfl) rfl)
def glt_ex{K:FG}{st:Uc}{j:Value}{g an:OA}{A:AV}{kV V d z:Value}{S:Value}{N:OA}{vs:Array Value}{F:AV}(a:W.nsIn K Ua x=TJ (TJ<|.ref f))(l:K.lookup f=TJ (j,g,.func<|W.fnOf x x (gG st) (aR st) (aB st) .none kV V d an (.ref c) z,A))(q:W.codeIn K (.ref c) x=TK)(k:W.keepIn K (.ref f)=TK)(y:K.lookup c=TJ (S,N,.fields vs,F))(v:vs[11]?=TJ (.ref T)):∃f Z c,ZQ K x st f Z c T:=(_,_,_,(tM l q k,a),rfl,Jf a l rfl y v)
def rP(K:FG)(N:List TQ):Sp:=λ vs H Q _=>∃(a:TQ) (S:Yr),vs=[.ref a]/\SqL K H a (S.map V.int)/\S.length<=63/\(∀T∈N,H T=TJ (.tbl #[]))/\∀W,Q (.bl TK) W
def fx{V:Type}{p:V->Prop}{a:V}{l:List V}(h:p a)(t:∀n∈l,p n):∀n∈a::l,p n:=λ n S=>by
 rcases aD.mp S with rfl|z
 .exact h
 .exact t n z
def fx0{V:Type}{p:V->Prop}:∀n∈([]:List V),p n:=λ _ h=>nomatch h
def B2{V:Type}{P:Nat->V->Prop}{a:V}{l:List V}(S:P 0 a)(h:∀(k:Nat) x,l[k]?=TJ x->P (k+1) x):∀(k:Nat) x,(a::l)[k]?=TJ x->P k x:=λ k x e=>by
 cases k with
 |zero=>cases e;exact S
 |succ k=>exact h k x e
def atN{V:Type}{P:Nat->V->Prop}:∀(k:Nat) x,([]:List V)[k]?=TJ x->P k x:=λ _ _ e=>nomatch e
def eK{V S:Type}{P:V->S->Prop}{a:V}{l:List V}{b:S}{m:List S}(W:P a b)(h:∀(k:Nat) x y,l[k]?=TJ x->m[k]?=TJ y->P x y):∀(k:Nat) x y,(a::l)[k]?=TJ x->(b::m)[k]?=TJ y->P x y:=λ k x y e T=>by
 cases k with
 |zero=>cases e;cases T;exact W
 |succ k=>exact h k x y e T
def DW{V S:Type}{P:V->S->Prop}:∀(k:Nat) x y,([]:List V)[k]?=TJ x->([]:List S)[k]?=TJ y->P x y:=λ _ _ _ e=>nomatch e
def Zr{P:Nat->Prop}{n:Nat}(h:∀k,k<n->P k)(p:P n):∀k,k<n+1->P k:=λ k V=>(Nat.lt_succ_iff_lt_or_eq.mp V).elim (h k) λ e=>e ▸ p
def lt0{P:Nat->Prop}:∀k,k<0->P k:=λ _ h=>U1 h<|Nat.not_lt_zero _
noncomputable def G8(d:Data):LV:=match d with|.seq V _=>V.toList|_=>[]
def oW(K:FG)(a:TQ):LV:=match K.lookup a with
 |some o=>if (iY o.cls "tuple" && o.dict.isNone)=TK then G8 o.data else []
 |none=>[]
noncomputable def DX(f:Str×Int)(u v:Value):Bool:=match u with|.str x _=>(match v with|.int i _=>decide ((x,i)=f)|_=>TL)|_=>TL
def Tu(h:DX f u v=TK):Vals [.str f.1,.int f.2] [u,v]:=by
 cases u with
 |str x t=>
  cases v with
  |int i V=>cases au (show decide ((x,i)=f)=TK from h);exact .cons (t,rfl)<|.cons (V,rfl) .nil
  |_=>exact TN h
 |_=>exact TN h
noncomputable def DY(v:Value)(k:TQ->Bool):Bool:=match v with|.ref a=>k a|_=>TL
def Tv(h:DY v k=TK):∃a,v=.ref a/\k a=TK:=by
 cases v with
 |ref a=>exact(a,rfl,h)
 |_=>exact TN h
def O5(K:FG):List (Str×Int)->LV->Bool
 |[],vs=>vs.isEmpty
 |f::V,vs=>cC vs λ v vs=>DY v (λ a=>c2 (oW K a)<|DX f)&&O5 K V vs
noncomputable def O6(V:Array DictEntry):List<|Str×Tok×TQ:=V.toList.filterMap λ|(_,.str x t,.ref a)=>TJ (x,t,a)|_=>TM
def O7(K:FG):List (Str×List (Str×Int))->List (Str×Tok×TQ)->Bool
 |[],V=>V.isEmpty
 |f::S,V=>cC V λ p V=>(decide (p.1=f.1/\0<f.2.length/\f.2.length<=1000)&&O5 K f.2 (oW K p.2.2))&&O7 K S V
def DZ{K:FG}(h:Vals Z<|oW K a)(n:0<Z.length/\Z.length<=1000):SqT K H a Z:=by
 have e:=h.length;have W:∀ {l},Vals Z l->l≠[]:=λ r z=>by subst z;cases r;exact U1 n.1 Cl
 unfold oW at h e
 cases T:K.lookup a with
 |none=>rw[T] at h;exact U1 rfl<|W h
 |some o=>
  rw[T] at h e;by_cases c:(iY o.cls "tuple" && o.dict.isNone)=TK
  .have h:Vals Z<|if (iY o.cls "tuple" && o.dict.isNone)=TK then G8 o.data else []:=h;have e:Z.length=(if (iY o.cls "tuple" && o.dict.isNone)=TK then G8 o.data else []).length:=e;rw[U0 c] at h e;obtain⟨c1,c2⟩:=an c
   cases S:o.data with
   |seq V m=>rw[S] at h e;exact .inr (o,V,m,T,yJ c1,lY.mp c2,S,small (by have:=n.2;have e:Z.length=V.toList.length:=e;simp at e;lia),h)
   |_=>rw[S] at h;exact U1 rfl<|W h
  .have h:Vals Z<|if (iY o.cls "tuple" && o.dict.isNone)=TK then G8 o.data else []:=h;rw[T9 c] at h;exact U1 rfl<|W h
def Tw{K:FG}:∀(V:List<|Str×Int) {vs:LV},O5 K V vs=TK->∃Z,Vals Z vs/\Z.length=V.length/\∀F H,RpL K F H (V.map λ q=>.tup [.str q.1,.int q.2]) Z:=by
 intro V
 induction V with
 |nil=>intro vs h;cases qB.mp h;exact([],.nil,rfl,λ _ _=>rfl)
 |cons f V A=>
  intro vs h;refine dO h λ v vs h=>?_;refine HT λ T S=>?_;obtain⟨W,N⟩:=an h;obtain⟨Z,r,l,q⟩:=A N;obtain⟨a,rfl,W⟩:=Tv W;refine S ?_;clear S T;have z:∀F H,Rp K F H (.tup [.str f.1,.int f.2]) (.ref a):=λ F H=>(a,[.str f.1,.int f.2],rfl,DZ (show Vals [.str f.1,.int f.2] (oW K a) by refine iz W λ u v h=>?_;exact Tu h) (lH _,show 2<=1000 by decide),_,_,rfl,rfl,_,_,rfl,rfl,rfl);exact(.ref a::Z,.cons rfl r,bT _ l,λ F H=>(_,Z,on,z F H,q F H))
def Tx{K:FG}:∀(V:List<|Str×List (Str×Int)) {T:List (Str×Tok×TQ)},O7 K V T=TK->∀y t,z9 (V.map pT) y=TJ t->∃a,(T.map λ p=>(p.1,p.2.2)).lookup y=TJ a/\∀F H,Rp K F H t (.ref a):=by
 intro V
 induction V with
 |nil=>intro T _ y t e;cases e
 |cons f V d=>
  intro T h y t e;obtain⟨g,gs⟩:=f;refine dO h λ p T h=>?_;refine HT λ W S=>?_;obtain⟨p,k,A⟩:=p;obtain⟨N,v⟩:=an h;obtain⟨N,j⟩:=an N;obtain⟨z,n⟩:=au N;refine S ?_;clear S W;cases (show p=g from z);have e:(if decide (g=y)=TK then TJ (U3<|gs.map λ q=>.tup [.str q.1,.int q.2]) else z9 (V.map pT) y)=TJ t:=e;rw[cB,dM];by_cases c:g=y
  .subst c;rw[U0<|bC rfl] at e;cases e;obtain⟨o,r,l,q⟩:=Tw _ j;exact(A,by rw[lj],λ F H=>(A,o,on,DZ r (by rw[l];exact n),q F H))
  .rw[T9<|by rw[bA c];decide] at e;rw[show(y == g)=TL from beq_false_of_ne<|bI c];exact d v y t e
abbrev Ea(P:Uh)(w:Ui)(K:FG):Prop:=∃d V,W.nsIn K Ua "PARTS"=TJ (TJ<|.ref d)/\KTab P w K d V/\∀y t,z9 (formsL.map pT) y=TJ t->∃a,V.lookup y=TJ a/\∀F H,Rp K F H t (.ref a)
theorem pt_mk{w:Ui}{K:FG}(g:W.nsIn K Ua "PARTS"=TJ (TJ<|.ref d))(N:K.lookup d=TJ { cls:=.type "dict",data:=.dict Z n })(T:Z.toList=yA w.params (O6 Z))(S:(d == VT)=TL)
  (V:(O7 K formsL (O6 Z)&&decide ((O6 Z).map (·.1)).Nodup)=TK):Ea P w K:=(_,_,g,KTab.mk S N T<|au (an V).2,Tx _ (an V).1)
noncomputable def Tz(s:Uc):List Uc:=match s with
 |.ClassDef _ _ _ b _ _ _ _ _ _ _=>b
 |_=>[]
abbrev kH:Uc:=(Tz<|top 7).getD 0<|.Pass (0,0,0,0)
theorem TB{K:FG}{c:SV}(F:Fun K "__init__" "BadStep.__init__" kH f U)(m:c "LoomError"=TJ (.ref Z))(r:W.specialIn K (.ref Z) "__getattribute__"=TJ (TJ<|.builtin "type.__getattribute__"))(p:W.readsIn K Z (.type "type")=TK)(e:W.findCls K (.ref Z) (.type "type") "__init__"=TJ (.val<|.builtin "ValueError.__init__"))
  (i:W.handedIn (.builtin "ValueError.__init__")=TK):FnOk P w K c Y YJ 7 f U ["self","text","at","why"]<|Av K:=by
 have n:YG ["self","text","at","why"] ["self","text","at","why"]<|aB kH:=(rfl,rfl,rfl,by decide +kernel,rfl,by decide +kernel,by decide +kernel);refine F.ok n (λ vs H Q E h=>?_) λ k A g s H vs Q E L h=>?_
 .obtain⟨a,C,J,x,y,rfl,_⟩:=h;rfl
 refine HT λ N S=>?_;obtain⟨a,C,J,x,y,rfl,o,t,d,v,T,q⟩:=h;refine S ?_;clear S N;refine(_,(bU (jF<|JM vj (by rfl) m r p e i<|bK (pv 0)<|bK (pv 1) pa_nil)<|bU (JO (pv 0) (pv 2) rfl)<|kL<|JQ (pv 0) (pv 3) rfl),?_);refine(a,C,TM,_,on,o,t,small<|cJ rfl,a,C,on,o,d,v,λ V l j=>(a,C,V,[(Uf "at",x)],on,?_));have z:Yu (Yu H V<|dN V [(Uf "at",x)]) a (bj a C<|TJ V) V=TJ (dN V [(Uf "at",x)]):=by rw[av j,bB]
 exact(bB,z,d,T,Cr,q V _ l j (by rw[av<|bI j,bB]) (by rw[bB];rfl) λ b v T=>by rw[av T,av v,av T])
def in_ex{K:FG}{A kV S z V N:Value}{F an:OA}{T:AV}(a:W.findIn K (.ref C) "__init__"=TJ (TJ<|.ref f))(l:K.lookup f=TJ (A,F,.func<|W.fnOf "__init__" "BadStep.__init__" (gG kH) (aR kH) (aB kH) .none kV S z an V N,T))(c:W.codeIn K V "BadStep.__init__"=TK)(k:W.keepIn K (.ref f)=TK)(i:W.isFn K (.ref f)=TK):∃f Z,W.findIn K (.ref C) "__init__"=TJ (TJ<|.ref f)/\Fun K "__init__" "BadStep.__init__" kH f Z/\W.isFn K (.ref f)=TK:=(_,_,a,tM l c k,i)
abbrev aA(K:FG)(x:Str)(i:Nat):Prop:=Gx K x<|top i
abbrev nB(K:FG)(x:Str):Prop:=W.nsIn K Ua x=TJ TM
structure Sv (P:Uh)(w:Ui)(K:FG)(T92 T93 T94 T97 C0 C1 C2 C3 C4 C5 CB:TQ):Prop where
 n0:W.nsIn K Ua "NoWord"=TJ (TJ<|.ref C0)
 n1:W.nsIn K Ua "NoSide"=TJ (TJ<|.ref C1)
 n2:W.nsIn K Ua "Beyond"=TJ (TJ<|.ref C2)
 n3:W.nsIn K Ua "Unlike"=TJ (TJ<|.ref C3)
 n4:W.nsIn K Ua "TooLarge"=TJ (TJ<|.ref C4)
 n5:W.nsIn K Ua "LoomError"=TJ (TJ<|.ref C5)
 nB_:W.nsIn K Ua "BadStep"=TJ (TJ<|.ref CB)
 x0:W.excIn K C0 [.type "ValueError",.type "Exception",.type "BaseException",.type "object"] "ValueError.__new__"=TK
 x1:W.excIn K C1 [.type "ValueError",.type "Exception",.type "BaseException",.type "object"] "ValueError.__new__"=TK
 x2:W.excIn K C2 [.type "ValueError",.type "Exception",.type "BaseException",.type "object"] "ValueError.__new__"=TK
 x3:W.excIn K C3 [.type "ValueError",.type "Exception",.type "BaseException",.type "object"] "ValueError.__new__"=TK
 x4:W.excIn K C4 [.type "ValueError",.type "Exception",.type "BaseException",.type "object"] "ValueError.__new__"=TK
 x5:W.excIn K C5 [.type "ValueError",.type "Exception",.type "BaseException",.type "object"] "ValueError.__new__"=TK
 e0_0:W.exmOne K (.ref C0) (.ref C0)=TJ TK
 e1_0:W.exmOne K (.ref C1) (.ref C0)=TJ TL
 e1_1:W.exmOne K (.ref C1) (.ref C1)=TJ TK
 e2_0:W.exmOne K (.ref C2) (.ref C0)=TJ TL
 e2_1:W.exmOne K (.ref C2) (.ref C1)=TJ TL
 e2_2:W.exmOne K (.ref C2) (.ref C2)=TJ TK
 e3_0:W.exmOne K (.ref C3) (.ref C0)=TJ TL
 e3_1:W.exmOne K (.ref C3) (.ref C1)=TJ TL
 e3_2:W.exmOne K (.ref C3) (.ref C2)=TJ TL
 e3_3:W.exmOne K (.ref C3) (.ref C3)=TJ TK
 e4_0:W.exmOne K (.ref C4) (.ref C0)=TJ TL
 e4_1:W.exmOne K (.ref C4) (.ref C1)=TJ TL
 e4_2:W.exmOne K (.ref C4) (.ref C2)=TJ TL
 e4_3:W.exmOne K (.ref C4) (.ref C3)=TJ TL
 e4_4:W.exmOne K (.ref C4) (.ref C4)=TJ TK
 eB:W.exmOne K (.ref CB) (.ref C5)=TJ TK
 fI:∃f fd,W.findIn K (.ref CB) "__init__"=TJ (TJ<|.ref f)/\Fun K "__init__" "BadStep.__init__" kH f fd/\W.isFn K (.ref f)=TK
 kC:W.keepIn K (.ref CB)=TK
 clsI:lC K CB [.type "ValueError",.type "Exception",.type "BaseException",.type "object"] "ValueError.__new__"=TK
 ovI:(W.clsIn K CB).any (λ cd=>cd.hasDict&&jO cd.mro)=TK
 saI:W.findIn K (.ref CB) "__setattr__"=TJ (TJ<|.builtin "object.__setattr__")
 gaI:W.findIn K (.ref CB) "__getattribute__"=TJ (TJ<|.builtin "BaseException.__getattribute__")
 m1:W.findIn K (.ref CB) (Uf "at")=TJ TM
 m2:W.findIn K (.ref CB) (Uf "why")=TJ TM
 m3:W.findIn K (.ref CB) (Uf "__getattr__")=TJ TM
 kc:(W.clsIn K CB).isSome=TK
 kcl:W.findIn K (.ref CB) "__class__"=TJ (TJ<|.builtin "object.__class__")
 kmo:W.mroIn K CB (.type "object")=TJ TK
 kmb:W.mroIn K CB (.type "BaseException")=TJ TK
 kv:W.kitOne K (.ref CB) (.type "ValueError")=TJ TK
 kb:W.kitOne K (.ref CB) (.ref CB)=TJ TK
 h1:W.specialIn K (.ref C5) "__getattribute__"=TJ (TJ<|.builtin "type.__getattribute__")
 h2:W.readsIn K C5 (.type "type")=TK
 h3:W.findCls K (.ref C5) (.type "type") "__init__"=TJ (.val<|.builtin "ValueError.__init__")
 bValueError:nB K "ValueError"
 g0:aA K "wrapped" 11
 g1:aA K "sign_of" 12
 g2:aA K "quotient" 13
 g3:aA K "remainder" 14
 g4:aA K "once" 15
 g5:aA K "twice" 16
 g6:aA K "neutral" 17
 g7:aA K "arg_places" 22
 g8:aA K "args_of" 23
 g9:aA K "reached_from" 24
 g10:aA K "amount" 28
 g11:aA K "breadth" 29
 g12:aA K "allowed" 30
 g13:aA K "strides_of" 31
 g14:aA K "changed_at" 32
 g15:aA K "added_at" 33
 g16:aA K "dropped_at" 34
 g17:aA K "ask_side" 36
 g18:aA K "turned_sides" 37
 g19:aA K "flipped_sides" 38
 g20:aA K "cut_sides" 39
 g21:aA K "spread_sides" 40
 g22:aA K "laid_sides" 41
 g23:aA K "joined_sides" 42
 g24:aA K "led_sides" 43
 g25:aA K "paired_sides" 44
 g26:aA K "picked_sides" 45
 g27:aA K "fetched_sides" 46
 g28:aA K "folded_sides" 47
 g29:aA K "counted_sides" 48
 g30:aA K "ask_word" 50
 g31:aA K "first_sides" 51
 g32:aA K "moved_sides" 52
 g33:aA K "step_sides" 53
 g34:aA K "step_told" 54
 g35:aA K "program_told" 55
 g36:aA K "checked" 56
 g37:aA K "turned_view" 58
 g38:aA K "flipped_view" 59
 g39:aA K "cut_view" 60
 g40:aA K "spread_view" 61
 g41:aA K "led_view" 62
 g42:aA K "inner_view" 63
 g43:aA K "moved_view" 64
 g44:aA K "is_free" 66
 g45:aA K "branches_of" 67
 g46:aA K "root_remade" 68
 g47:aA K "remade" 69
 g90:aA K "live_steps" 71
 g91:aA K "uses_of" 72
 g95:aA K "read_of" 76
 g96:aA K "fetched_tree" 77
 g98:aA K "is_led" 79
 g99:aA K "is_kept" 80
 g100:aA K "spun" 81
 g101:aA K "kept_steps" 82
 g102:aA K "_law_size" 84
 g103:aA K "_law_wide" 85
 g104:aA K "_law_number" 86
 g105:aA K "_law_recent" 87
 g106:aA K "_law_begun" 88
 g107:aA K "_law_led" 89
 g108:aA K "_law_lifted" 90
 g109:aA K "_law_laid" 91
 g110:aA K "_law_moved" 92
 g111:aA K "_law_both" 93
 g112:aA K "_law_met" 94
 g113:aA K "_law_step" 95
 g114:aA K "_law_program" 96
 g115:aA K "_law_args" 97
 g116:aA K "_law_live_by" 98
 g117:aA K "_law_asked_by" 99
 g118:aA K "_law_state_by" 100
 g119:aA K "_law_kept_by" 101
 g120:aA K "_law_spoiled" 102
 g121:aA K "_law_refused" 103
 g122:aA K "law" 104
 g92:∃f fd c,ZQ K "seen_as" (top 73) f fd c T92
 g93:∃f fd c,ZQ K "led_tree" (top 74) f fd c T93
 g94:∃f fd c,ZQ K "inner_tree" (top 75) f fd c T94
 g97:∃f fd c,ZQ K "bare_tree" (top 78) f fd c T97
 nd:[T92,T93,T94,T97].Nodup
 bl:∀x∈BN,nB K x
 qLOW:∃t,W.nsIn K Ua "LOW"=TJ (TJ<|.int (-9223372036854775808) t)
 qHIGH:∃t,W.nsIn K Ua "HIGH"=TJ (TJ<|.int 9223372036854775807 t)
 qMOST_SIDES:∃t,W.nsIn K Ua "MOST_SIDES"=TJ (TJ<|.int 6 t)
 qMOST_BREADTH:∃t,W.nsIn K Ua "MOST_BREADTH"=TJ (TJ<|.int 512 t)
 qMOST_STEPS:∃t,W.nsIn K Ua "MOST_STEPS"=TJ (TJ<|.int 40 t)
 qMOST_OUTS:∃t,W.nsIn K Ua "MOST_OUTS"=TJ (TJ<|.int 8 t)
 qPT:Ea P w K
def tL(V S T W:TQ):List<|TQ×Pos×Str:=[(V,(ZB<|(aR<|top 73).headD<|.Pass (0,0,0,0)).p,"seen_as.<locals>.<lambda>"),(S,(ZB<|(aR<|top 74).getLastD<|.Pass (0,0,0,0)).p,"led_tree.<locals>.<lambda>"),(T,(ZB<|(aR<|top 75).getLastD<|.Pass (0,0,0,0)).p,"inner_tree.<locals>.<lambda>"),(W,(ZB (j4 5<|top 78).2.1).p,"bare_tree.<locals>.<lambda>")]
def TC{K:FG}{L:List (TQ×Pos×Str)}{V:List TQ}(e:L.map (·.1)=V)(F:FnOk P w K U Z YJ k f Y J<|qG K<|TbJ L):FnOk P w K U Z YJ k f Y J<|rP K V:=F.imp (by rintro vs H Q E ⟨a,N,S,A,l,T,q⟩;exact (a,N,S,A,l,λ x W=>(#[],T _ (by rw[<- e];exact List.mem_map_of_mem W),trivial,.inl rfl),q))
def all_mk{l:W.OpenLaw}{K:FG}(X:K.In h)(G:h.Ns Ua Z)(hfa:Z "law"=TJ (.ref fa))(S:Sv l.prog w K Y U J L C0 C1 C2 C3 C4 C5 D):∃(fd:Uu) (B:List (Str×TQ×TQ)),(∀p∈B,W.tabIn K p.1=TJ p.2/\p.1∈(["seen_as","led_tree","inner_tree","bare_tree"]:List Str))/\(∀(s:TR) (v:Value),Wl s fd ([v],[]) [("script",v)])/\∀V:Ue,K.In V->V.Ns Ua Z->(∀p∈B,Zx V Z p.2.1 p.2.2)->FnOk l.prog w K Z V YJ 123 fa fd ["script"] (rP K<|B.map λ p=>p.2.2):=by
 have T:∀ {x:Str}{v:Option Value},W.nsIn K Ua x=TJ v->Z x=v:=λ {x v} z=>by cases v with|none=>exact W.mg_none_of X G z|some u=>exact s2b X G z
 obtain⟨f,fd,gL⟩:=S.g122;have e:=hfa.symm.trans<|T gL.a;cases e;refine HT λ Gzz Q=>?_;obtain⟨_,_,kVL,dcL,pmL,anL,cdL,ctL,_,eL,_,_⟩:=gL.F.ex;obtain⟨f92,d92,m,o⟩:=S.g92;obtain⟨f93,d93,n,t93⟩:=S.g93;obtain⟨f94,d94,a,t94⟩:=S.g94;obtain⟨f97,d97,I,t97⟩:=S.g97;refine Q ?_;clear Q Gzz;refine(fd,[("seen_as",m,Y),("led_tree",n,U),("inner_tree",a,J),("bare_tree",I,L)],(fx (o.tb,Cr)<|fx (t93.tb,Cr)<|fx (t94.tb,Cr)<|fx (t97.tb,Cr) fx0),λ s v=>by rw[eL];exact .of_eq rfl,λ V KB GB tf=>?_);have M:MOk l.prog w K Z (TbJ<|tL Y U J L) GT gs:=(TbJ.js,λ g x t O R nb=>?_,λ g x t O R=>?_,λ x hx=>?_)
 .have C:CM l.prog w K Z V (TbJ<|tL Y U J L) GT gs DL 0:=(Cals.z,M,T);obtain⟨fI,dI,aI,FI,iI⟩:=S.fI;have BD:i8 l.prog w K Z V D:=(T S.nB_,(S.ovI,S.saI,S.gaI),S.m1,S.m2,fI,dI,(S.clsI,aI,iI,S.kC),TB FI (T S.n5) S.h1 S.h2 S.h3 (by decide +kernel),FI.binds λ _ _ _ _ _ _ us hl=>by rcases us with _|⟨_,_|⟨_,_|⟨_,_|⟨_,_|⟨_,_⟩⟩⟩⟩⟩<;>first|rfl|cases hl);have N:CN l.prog w K Z V (TbJ<|tL Y U J L) GT gs DL O4 X2L G7 (λ k=>[C0,C1,C2,C3,C4,C5].getD k D) D 0:=(C,(λ i h=>nomatch h),(λ i h=>nomatch h),(B2 (S.n0,S.x0)<|B2 (S.n1,S.x1)<|B2 (S.n2,S.x2)<|B2 (S.n3,S.x3)<|B2 (S.n4,S.x4)<|B2 (S.n5,S.x5) atN),rfl,rfl);have LE:D2 l.prog w K Z V (λ k=>[C0,C1,C2,C3,C4,C5].getD k D) D 5:=(BD,(S.kc,S.gaI,S.m3,S.kcl,S.kmo,S.kmb),S.m3,T<|S.bl "isinstance" Cl,T S.bValueError,S.kv,S.kb,S.nB_,S.eB);have EX:∀k,k<5->∀c,c<k+1->W.exmOne K (.ref<|[C0,C1,C2,C3,C4,C5].getD k D) (.ref<|[C0,C1,C2,C3,C4,C5].getD c D)=TJ (isC k c):=Zr (Zr (Zr (Zr (Zr (lt0)<|Zr (lt0) S.e0_0)<|Zr (Zr (lt0) S.e1_0) S.e1_1)<|Zr (Zr (Zr (lt0) S.e2_0) S.e2_1) S.e2_2)<|Zr (Zr (Zr (Zr (lt0) S.e3_0) S.e3_1) S.e3_2) S.e3_3)<|Zr (Zr (Zr (Zr (Zr (lt0) S.e4_0) S.e4_1) S.e4_2) S.e4_3) S.e4_4;replace EX:=λ k c O R=>EX k R c<|Nat.lt_succ_of_le O
  replace N:=N |>.d S.g0 zw0 |>.d S.g1 zw1 |>.d S.g2 zw2 |>.d S.g3 zw3 |>.d S.g4 zw4 |>.d S.g5 zw5 |>.d S.g6 zw6 |>.d S.g7 zw7 |>.d S.g8 zw8 |>.d S.g9 zw9 |>.d S.g10 RC |>.d S.g11 RD |>.d S.g12 RE |>.d S.g13 RF |>.d S.g14 RG |>.d S.g15 RH |>.d S.g16 RI |>.r S.g17 RK RJ |>.d S.g18 RL |>.r S.g19 RN RM |>.d S.g20 RO |>.d S.g21 RP |>.d S.g22 RQ |>.d S.g23 RR |>.d S.g24 RS |>.d S.g25 RT |>.d S.g26 RU |>.d S.g27 RV |>.d S.g28 RW |>.d S.g29 RX |>.d S.g30 RY |>.d S.g31 RZ |>.r S.g32 Sb Sa |>.r S.g33 Sd Sc
  replace N:=N.y EX S.g34 Se
  replace N:=N |>.d S.g35 Sf |>.b BD S.g36 Sh Sg |>.d S.g37 Si |>.d S.g38 Sj |>.d S.g39 Sk |>.d S.g40 Sm |>.d S.g41 Sn |>.d S.g42 So |>.d S.g43 Sq |>.d S.g44 Su |>.d S.g45 Sw
  have H46:=N.m.fn (kf:=46) S.g46 Sy Cl hc0;replace N:=N.d S.g46 Sz;have H47:=N.m.fr (kf:=46) S.g47 SB Cl<|hc1<|H46.mono Cl;replace N:=N.d S.g47 SC;have A:=N.m.pad (i0:=0) (S0:=O3) (z:=zd) 42 (λ _ _ h=>h) Cl rfl rfl;replace N:=N.pad A rfl rfl;clear A
  replace N:=N |>.d S.g90 SD |>.d S.g91 SE
  have j:=N.m.fh (kf:=45) (.mk o (tf ("seen_as",m,Y) Cr) bn S.nd D5.1) D5 ((H47 42).mono Cl) Cl;replace N:=N.d (_,_,o.toGl') SH;have A:=N.m.ml (.mk t93 (tf ("led_tree",n,U) Cr) (bz _ bn) S.nd (an D6.1).1) D6 (j.mono Cl) Cl;replace N:=N.mu A;clear A;have A:=N.m.ml (.mk t94 (tf ("inner_tree",a,J) Cr) (bz _<|bz _ bn) S.nd (an D7.1).1) D7 (j.mono Cl) Cl;replace N:=N.mu A;clear A
  replace N:=N |>.d S.g95 SI |>.d S.g96 SJ
  have A:=N.m.mm (.mk t97 (tf ("bare_tree",I,L) Cr) (bz _<|bz _<|bz _ bn) S.nd (an D8.1).1) D8 (j.mono Cl) Cl;replace N:=N.mu A;clear A
  replace N:=N |>.d S.g98 SK |>.d S.g99 SL |>.d S.g100 SM |>.b BD S.g101 SQ SN |>.d S.g102 SR |>.d S.g103 SU |>.d S.g104 SW |>.d S.g105 SX |>.d S.g106 SY |>.d S.g107 SZ |>.d S.g108 Ta |>.d S.g109 Tb |>.d S.g110 Tc |>.d S.g111 Td |>.d S.g112 Tf |>.d S.g113 Tg |>.d S.g114 Th |>.d S.g115 Ti |>.d S.g116 Tj |>.d S.g117 Tk |>.d S.g118 Tl |>.d S.g119 Tn |>.d S.g120 To
  replace N:=N.lr LE S.g121 (by kernel_rfl) (λ X F0 H0 y t E=>Tp y t E) Tq;exact TC rfl<|N.law gL Tt
 .refine eK (P:=λ x t=>t.nb=TK->∃v u,Z x=TJ u/\RelV v u/\∀F H,Rp K F H t v) (λ _=>by obtain⟨t,q⟩:=S.qLOW;exact(.int<|-9223372036854775808,_,T q,(t,rfl),λ F H=>rfl)) (eK (λ _=>by obtain⟨t,q⟩:=S.qHIGH;exact(.int 9223372036854775807,_,T q,(t,rfl),λ F H=>rfl))<|eK (λ _=>by obtain⟨t,q⟩:=S.qMOST_SIDES;exact(.int 6,_,T q,(t,rfl),λ F H=>rfl))<|eK (λ _=>by obtain⟨t,q⟩:=S.qMOST_BREADTH;exact(.int 512,_,T q,(t,rfl),λ F H=>rfl))<|eK (λ _=>by obtain⟨t,q⟩:=S.qMOST_STEPS;exact(.int 40,_,T q,(t,rfl),λ F H=>rfl))<|eK (λ _=>by obtain⟨t,q⟩:=S.qMOST_OUTS;exact(.int 8,_,T q,(t,rfl),λ F H=>rfl))<|eK (λ nb=>by cases nb)<|DW) g x t O R nb
 .refine eK (P:=λ x t=>∀l,t=.bor l->L6 _ w K Z x l) (λ l e=>by cases e) (eK (λ l e=>by cases e)<|eK (λ l e=>by cases e)<|eK (λ l e=>by cases e)<|eK (λ l e=>by cases e)<|eK (λ l e=>by cases e)<|eK (λ l e=>by cases e;obtain⟨d,kvs,e,z⟩:=S.qPT;exact(d,kvs,T e,z))<|DW) g x _ O R t rfl
 .exact T<|S.bl x hx
open PySem.W in
theorem walk{l:W.OpenLaw}{v:Ui->Ue->Prop}{d:DefRec}{K:Params->FG}(L:l.most=TJ 63)(y:d.params.defaults=[])
  (t:∀(w:Ui) (h:Ue),v w h->(K w.params).In h) (A:∀w:Ui,noTabs (K w.params)=TK) (T:∀x∈(["seen_as","led_tree","inner_tree","bare_tree"]:List Str),((recsOf q).find? λ e=>e.name == x).isSome=TK)
  (F:∀(w:Ui) (S:SV) (N:TQ) (h:Ue),(K w.params).In h->h.Ns Ua S->S d.name=TJ (.ref N) ->
   ∃(Y:Uu) (Z:List (Str×TQ×TQ)),(∀p∈Z,tabIn (K w.params) p.1=TJ p.2/\p.1∈(["seen_as","led_tree","inner_tree","bare_tree"]:List Str))/\(∀(s:TR) (u:Value),Wl s Y ([u],[]) [("script",u)])/\∀V:Ue,(K w.params).In V->V.Ns Ua S->(∀p∈Z,Zx V S p.2.1 p.2.2)->FnOk l.prog w (K w.params) S V YJ 123 N Y ["script"] (rP (K w.params)<|Z.map λ p=>p.2.2)) :
  W.WalkO q U B v l.row.toRowW d [] (λ f vs=>WZ f vs) :=
 _L.walk_ofT (n:=63) (k:=123) (x := "script") (CX:=λ _=>YJ) (sp:=λ w o=>rP (K w.params) o) L Cl y (rfl,Cl,Cl) t A (λ w S N h a b c=>by
  obtain⟨Y,Z,j,m⟩:=F w S N h a b c
  exact(Y,Z,λ p g=>((j p g).1,T _ (j p g).2),m)) (λ _ _ a D o J i r=>(a,D,on,r,J,i,λ _=>rfl)) λ _ _ _ _ _ z=>z
end _M
end
end
open PySem PySem.W PyProof.Rows
set_option maxRecDepth 100000 in
set_option maxHeartbeats 0 in
theorem PySem.Challenge.cw_sideloom_k51_live_and_kept_holds : PySem.Challenge.rw_sideloom_k51_live_and_kept.Holds := by
 w_on;o_law;k_head;(case hw=>w_witness2)
 k_fill
 refine _M.walk (l:=PySem.Challenge.rw_sideloom_k51_live_and_kept) rfl rfl (λ w h Y=>W.km_in_of Y) ?K0 ?rec ?F
 case K0=>intro w;kernel_rfl
 case rec=>exact(_M.fx (by kernel_rfl)<|_M.fx (by kernel_rfl)<|_M.fx (by kernel_rfl)<|_M.fx (by kernel_rfl) _M.fx0)
 case F=>
  intro w mg fa h KX G hmg
  refine' _M.all_mk KX G hmg ?S
  case S=>
   constructor
   iterate 7 (k_is)
   iterate 6 (k_exc)
   iterate 16 (kts_exm)
   .refine' _M.in_ex ?ya ?yb ?yc ?yd ?ye;(case ya=>k_is);(case yb=>k_is);(case yc=>k_is);(case yd=>k_is);(case ye=>k_is)
   .k_is
   iterate 2 (kernel_rfl)
   iterate 5 (k_is)
   .exact Option.isSome_iff_exists.mpr (_,by k_is)
   iterate 3 (k_is)
   iterate 2 (kit_is)
   iterate 3 (k_is)
   .unfold _M.nB;k_is
   iterate 77 (refine' _L.gl_ex ?ya ?yb ?yc ?yd;(case ya=>k_is);(case yb=>k_is);(case yc=>k_is);(case yd=>k_is))
   iterate 4 (refine' _M.glt_ex ?ya ?yb ?yc ?yd ?ye ?yf;(case ya=>k_is);(case yb=>k_is);(case yc=>k_is);(case yd=>k_is);(case ye=>k_is);(case yf=>rfl))
   .decide
   . (iterate 20 (refine' List.forall_mem_cons.2 (?ya,?_);(case ya=>unfold _M.nB;k_is)));exact λ _ h=>nomatch h
   iterate 6 (refine' _L.gx_int ?ya;(case ya=>k_is))
   .refine' _M.pt_mk ?ya ?yb ?yc ?yd ?ye;(case ya=>k_is);(case yb=>k_is);(case yc=>rfl);(case yd=>first|decide +kernel|rfl);(case ye=>kernel_rfl)
